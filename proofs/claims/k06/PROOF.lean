import PyProof.Rows.All
import Wide.All
import OpenK.AllK
import Wide.FinOn
import HandS.Base
import HandS.Call
import HandS.List
import HandS.Comp
import HandS.Ends
import HandS.Words
import HandS.WordsList
import HandS.Codes
import HandS.Wide
import HandS.Iter
import HandS.Zip
import HandS.Star
import HandS.More
import HandS.IsInst
import HandS.Conv
import HandS.NoneIn
import HandS.WideBits
import HandS.Defaults
import HandS.Text
import HandS.StrMore
import HandS.Style
import HandS.SetTxt0
import HandS.Set
import HandS.Strs
import HandS.Dict
import HandS.DictComp
import PyProof.ListStr
import PyProof.StrBlock2
import KE.IntTextText
import PySem.Challenge.RW_tiespan_k06_ties_kept_and_reduced
set_option Elab.async false
set_option linter.all false
set_option maxRecDepth 100000
set_option maxHeartbeats 4000000
namespace EK
open PySem PySem.Spec PyProof.Rows L2
/-! ### list(text); text * number -/
theorem call_list_text {X : Cx} (hc : X.calm = true) : CallR X (.type "list") (fun xs H Q => ∃ z : Str, xs = [.str z] ∧ z.length ≤ sizeLine ∧ ∀ p, H p = none → Q (.ref p) (upd H p (.lst (z.cps.toList.map fun c => V.str ⟨#[c]⟩)))) := by
  intro pn s σ H xs us Q I r h
  obtain ⟨z, e, hz, q⟩ := h
  subst e
  obtain ⟨u, eu, rx⟩ := vals1 r
  subst eu
  obtain ⟨t, rfl⟩ := rx
  refine call_list_str (I.ok.hd hc) z t (fun h' tk acc' c' hkeep hS hacc => ?_) hz
  refine ⟨.ref s.heap.objs.size, upd H s.heap.objs.size (.lst (z.cps.toList.map fun c => V.str ⟨#[c]⟩)), I.laid hkeep (Nat.le_refl _) (show ObjOk X.prog X.w _ _ _ (.lst (z.cps.toList.map fun c => V.str ⟨#[c]⟩)) from ⟨?_, acc'.toList, c', ?_, ?_⟩), rfl, q _ (I.hok.fresh (Nat.le_refl _))⟩
  · rw [List.length_map]
    exact hz
  · refine vals_of_idx _ _ (by rw [List.length_map, Array.length_toList, Array.length_toList, hacc.1]) fun j v hj => ?_
    obtain ⟨c, u, hc2, rfl⟩ := hacc.2 j v (by rw [← Array.getElem?_toList]; exact hj)
    refine ⟨.str ⟨#[c]⟩, ?_, ⟨_, rfl⟩⟩
    rw [List.getElem?_map, Array.getElem?_toList, hc2]
    rfl
  · exact hS
theorem op_mul_str {X : Cx} : OpR X (binaryOp .Mult) (fun x y H Q => ∃ (z : Str) (n : Int), x = .str z ∧ y = .int n ∧ MulOk z n ∧ Q (.str (Txt.mul z n)) H) := by
  intro pn s σ H x y v u Q I rx ry h
  obtain ⟨z, n, rfl, rfl, hz, q⟩ := h
  obtain ⟨t, rfl⟩ := rx
  obtain ⟨t', rfl⟩ := ry
  exact PySem.SB.mul hz fun t' tk => ⟨.str (Txt.mul z n), H, I.tok _, ⟨_, rfl⟩, q⟩
/-! ### sets of texts: what an add keeps -/
open PySem.Froz
structure TxW (P : Program) (w : World) (D : SD) (l : List Str) : Prop where
  ok : TxOk P w D l
  ris : Ris D.2.2.place.toList
  led : w.params.followText "set-order" = true ∨ D.2.2.led = true
theorem tail_keeps {ep : Nat} {es : Array (Int × Value)} {t : SetTable} {b : Bool} (r : Ris t.place.toList) : Ris (tailTx ep es t b).2.2.place.toList ∧ (tailTx ep es t b).2.2.led = t.led := by
  unfold tailTx
  split
  · exact ⟨relayAll_ris t es _, relayAll_led t es _⟩
  · exact ⟨r, rfl⟩
theorem add_keeps {D : SD} {h : Int} {v : Value} (r : Ris D.2.2.place.toList) : Ris (addTx h v D).2.2.place.toList ∧ (addTx h v D).2.2.led = D.2.2.led := by
  have r1 := layNew_ris D.2.2 D.1 h v r
  have l1 := layNew_led D.2.2 D.1 h v
  have key : ∀ t : SetTable, Ris t.place.toList → t.led = D.2.2.led → Ris (if t.plain = true then { t with plain := false } else t).place.toList ∧ (if t.plain = true then { t with plain := false } else t).led = D.2.2.led := fun t a b => by
    split <;> exact ⟨a, b⟩
  obtain ⟨k1, k2⟩ := key _ r1 l1
  obtain ⟨t1, t2⟩ := tail_keeps (ep := D.2.1) (es := (layNew D.2.2 D.1 h v).1) (b := (layNew D.2.2 D.1 h v).2.2.1) k1
  exact ⟨t1, t2.trans k2⟩
theorem TxW.add {P : Program} {w : World} {D : SD} {l : List Str} {k : Str} (u : Tok) (F : TxW P w D l) : TxW P w (addTx (hashStr w k) (.str k u) D) (k :: l) := by
  obtain ⟨a, b⟩ := add_keeps (D := D) (h := hashStr w k) (v := .str k u) F.ris
  exact ⟨add_ok u F.ok, a, F.led.imp id fun z => b.trans z⟩
section
variable {A : Around} {s : Shared} {P : Program} {w : World} {E : Value → Shared → Prop}
/-- a text that is there already -/
theorem add_there {a : Addr} {T : String} {D : SD} {l : List Str} {k : Str} {u : Tok} {Q : Bool → Shared → Prop} (ho : s.heap.get? a = some (sObj T D)) (F : TxOk P w D l) (hk : k ∈ l) (hb : l.length < scanBound)
    (h : Q false s) : wpAny (model P w) A (setAddHashed a (.str k u) (hashStr w k)) Q E s := by
  obtain ⟨es, ep, t⟩ := D
  obtain ⟨el, mem, sz, fit⟩ := F
  obtain ⟨e, he, hp⟩ := (mem k).mp hk
  have small : es.size < scanBound := Nat.lt_of_le_of_lt (Nat.le_of_eq sz) hb
  obtain ⟨j, hj⟩ : ∃ j, List.findIdx? (fun e => (strKind P w).is k e.2) es.toList = some j := by
    cases q : List.findIdx? (fun e => (strKind P w).is k e.2) es.toList with
    | some j => exact ⟨j, rfl⟩
    | none =>
      have c := List.findIdx?_eq_none_iff.mp q e he
      rw [hp] at c
      cases c
  unfold setAddHashed; unfold setAddHashedIn
  refine wpAny_holding (wpAny_bind (wpAny_setState_of ho (ep := ep) (es := es) (t := t) rfl fit ?_))
  dsimp only
  rw [byScan_of rfl small el, if_pos rfl]
  unfold setAddByScan
  refine wpAny_bind (wpAny_bind (wpAny_rule (wpAny_bind (wpAny_setScan_of (knd := strKind P w) (k := k) (is_str k u) ho rfl fit el ?_))))
  rw [hj]
  exact wpAny_pure <| wpAny_pure h
/-- either way -/
def ins (k : Str) (l : List Str) : List Str := if k ∈ l then l else k :: l
theorem add_any {a : Addr} {T : String} {D : SD} {l : List Str} {k : Str} {u : Tok} {Q : Bool → Shared → Prop} (ho : s.heap.get? a = some (sObj T D)) (F : TxW P w D l) (hb : l.length + 1 < scanBound)
    (h : ∀ b h' D', TxW P w D' (ins k l) → h'.get? a = some (sObj T D') → (∀ c o, c ≠ a → s.heap.get? c = some o → h'.get? c = some o) → h'.objs.size = s.heap.objs.size → Q b { s with heap := h' }) : wpAny (model P w) A (setAddHashed a (.str k u) (hashStr w k)) Q E s := by
  by_cases hk : k ∈ l
  · refine add_there ho F.ok hk (by omega) (h false s.heap D ?_ ho (fun _ _ _ e => e) rfl)
    unfold ins
    rw [if_pos hk]
    exact F
  · refine add_x ho F.ok hk hb (h true _ _ ?_ (get_upd _ ho rfl) (fun c o hc e => ?_) ?_)
    · unfold ins
      rw [if_neg hk]
      exact F.add u
    · exact (Heap.get?_update_other _ _ (Ne.symm hc)).trans e
    · exact Heap.size_update _ _ _
end
def insAll : List Str → List Str → List Str
  | [], l => l
  | x :: xs, l => insAll xs (ins x l)
theorem ins_len (x : Str) (l : List Str) : (ins x l).length ≤ l.length + 1 := by
  unfold ins
  split
  · omega
  · exact Nat.le_refl _
theorem ins_mem (x y : Str) (l : List Str) : y ∈ ins x l ↔ y = x ∨ y ∈ l := by
  unfold ins
  split
  · rename_i h
    exact ⟨.inr, fun z => z.elim (fun e => e ▸ h) id⟩
  · exact List.mem_cons
theorem ins_nodup {x : Str} {l : List Str} (h : l.Nodup) : (ins x l).Nodup := by
  unfold ins
  split
  · exact h
  · rename_i n
    exact List.nodup_cons.mpr ⟨n, h⟩
theorem insAll_mem (y : Str) : ∀ xs l : List Str, y ∈ insAll xs l ↔ y ∈ xs ∨ y ∈ l
  | [], l => by simp [insAll]
  | x :: xs, l => by
    show y ∈ insAll xs (ins x l) ↔ _
    rw [insAll_mem y xs, ins_mem, List.mem_cons]
    constructor
    · rintro (h | h | h)
      · exact .inl (.inr h)
      · exact .inl (.inl h)
      · exact .inr h
    · rintro ((h | h) | h)
      · exact .inr (.inl h)
      · exact .inl h
      · exact .inr (.inr h)
theorem insAll_nodup : ∀ (xs : List Str) {l : List Str}, l.Nodup → (insAll xs l).Nodup
  | [], _, h => h
  | _ :: xs, _, h => insAll_nodup xs (ins_nodup h)
theorem insAll_len : ∀ (xs l : List Str), (insAll xs l).length ≤ xs.length + l.length
  | [], l => by simp [insAll]
  | x :: xs, l => by
    have h1 := insAll_len xs (ins x l)
    have h2 := ins_len x l
    show (insAll xs (ins x l)).length ≤ xs.length + 1 + l.length
    omega
section
variable {prog : Program} {w : World} {A : Around} {R : Result → Shared → Prop} {I : Addr} {fp wr : List Addr} {G : Array GenState → Array GenState → Prop} {n : Nat} {Pv : Nat → Value → Prop} {St : Nat → Shared → Prop}
theorem upd_loop (W : WalksS prog w A.in1 I fp wr G n Pv St) (a : Addr) (hf : a ∉ fp) (xs : List Str) (hl : xs.length = n) (hv : ∀ i v, Pv i v → ∃ t, v = .str (xs.getD i Str.empty) t) (hb : n + 1 < scanBound) :
    ∀ (k i : Nat) (s : Shared) (D : SD) (l : List Str), n - i = k → i ≤ n → l.length ≤ i → St i s → s.heap.get? a = some (sObj "set" D) → TxW prog w D l →
      (∀ s' D', Moved (a :: wr) G s s' → s'.heap.get? a = some (sObj "set" D') → TxW prog w D' (insAll (xs.drop i) l) → R (.ok (.ret .none)) s') →
      codeAny (model prog w) A (.builtin "set.update.loop" ⟨[.ref a, .ref I], []⟩) R s := by
  have haw : a ∉ wr := fun h => hf (W.sub _ h)
  have more : ∀ b ∈ wr, b ∈ a :: wr := fun b h => List.mem_cons_of_mem _ h
  intro k
  induction k with
  | zero =>
    intro i s D l hk hi _ hst ho F hR
    have e : i = n := by omega
    refine codeAny_builtin PyProof.Rows.F.entry_set_update_loop (by
      rw [(Around.under_plainId PyProof.Rows.F.plain_set_update_loop _)]
      refine wpAny_bind (W.done s _ _ (e ▸ hst) fun s' hm => wpAny_pure (hR s' D (hm.mono more) (hm.heap a _ haw ho) ?_))
      rw [e, ← hl, List.drop_length]
      exact F)
  | succ k ih =>
    intro i s D l hk hi hll hst ho F hR
    have lt : i < n := by omega
    refine codeAny_builtin PyProof.Rows.F.entry_set_update_loop (by
      rw [(Around.under_plainId PyProof.Rows.F.plain_set_update_loop _)]
      refine wpAny_bind (W.item i s _ _ lt hst fun v s1 hp hst1 hm => ?_)
      obtain ⟨t, rfl⟩ := hv i v hp
      have ho1 := hm.heap a _ haw ho
      show wpAny _ A.in1 (holding [Value.str (xs.getD i Str.empty) t] (setAdd a (.str (xs.getD i Str.empty) t)) >>= _) _ _ s1
      refine wpAny_bind (wpAny_holding (by
        unfold setAdd
        refine wpAny_holding (wpAny_bind ((strKind prog w).pyHash (k := xs.getD i Str.empty) (is_str _ _) ?_))
        refine add_any (s := { s1 with toks := s1.toks + 1 }) ho1 F (by omega) fun b h2 D2 F2 ho2 oth sz => ?_
        have hd : xs.drop i = xs.getD i Str.empty :: xs.drop (i + 1) := by
          have : i < xs.length := by omega
          rw [List.drop_eq_getElem_cons this]
          congr 1
          rw [List.getD_eq_getElem?_getD, List.getElem?_eq_getElem this]
          rfl
        have il := ins_len (xs.getD i Str.empty) l
        refine wpAny_pure ⟨plainId_quiet PyProof.Rows.F.plain_set_update_loop _, ih (i + 1) _ D2 _ (by omega) lt (by omega) (W.frame _ s1 _ _ hst1 (Nat.le_succ _) fun b hb o e => oth b o (fun z => hf (z ▸ hb)) e) ho2 F2 fun s3 D3 hm3 ho3 F3 => ?_⟩
        refine hR s3 D3 (Moved.trans W.gtrans ((hm.mono more).then_heap (Nat.le_succ _) fun b o hb e => oth b o (fun z => hb (by rw [z]; exact List.mem_cons_self)) e) hm3) ho3 ?_
        rw [hd]
        exact F3)))
end
section
variable {A : Around} {s : Shared} {prog : Program} {w : World} {E : Value → Shared → Prop}
/-- a new set's table -/
abbrev tb0 (w : World) : SetTable := .fresh 0 0 (!w.params.followText "set-order")
theorem new_keeps (P : Program) (w : World) : TxW P w (#[], 0, tb0 w) [] := by
  refine ⟨TxOk.nil (by rfl), List.Pairwise.nil, ?_⟩
  show (_ ∨ (!w.params.followText "set-order") = true)
  cases w.params.followText "set-order" <;> simp
theorem code_new1 (x : Value) {Q₁ : Value → Shared → Prop} (h : Q₁ (.ref s.heap.objs.size) { s with heap := s.heap.push (sObj "set" (#[], 0, tb0 w)) }) :
    codeAny (model prog w) A (.call (.builtin "set.__new__") ⟨[.type "set", x], []⟩) (wants Q₁ E) s := by
  refine codeAny_of_tree (wpAny_bind (wpAny_of_eq (PySem.F.newCall_set_1 x) (wpAny_pure ⟨plainId_quiet PySem.F.plain_set_new _, codeAny_builtin PySem.F.entry_set_new (by
    rw [Around.under_plainId PySem.F.plain_set_new _]
    unfold Builtin.«set.__new__»; unfold Builtin.Frozenset.newClass
    have self := PySem.sub_set_self
    obtain ⟨hp0, g0, d0, tk0, os0⟩ := s
    dsimp only
    wp_walk
    refine wpAny_askSetting (wpAny_pure (by
      dsimp only
      simp only [newObj]
      exact wpAny_bind (wpAny_alloc (wpAny_pure (wpAny_pure h))))))⟩)))
theorem str_at : ∀ {us : List Value} {ys : List Str}, StrsAre us ys → ∀ (i : Nat) (v : Value), us[i]? = some v → ∃ t, v = .str (ys.getD i Str.empty) t
  | _, _, .cons y t _, 0, v, e => ⟨t, (Option.some.inj e).symm⟩
  | _, _, .cons _ _ r, i + 1, v, e => str_at r i v e
theorem call_set_texts {l : Addr} {items : Array Value} {xs : List Str} {Q : Value → Shared → Prop} (hh : A.handled = none) (hl : s.heap.IsList l items) (hi : StrsAre items.toList xs) (hb : xs.length + 1 < scanBound)
    (h : ∀ (h' : Heap) (tk : Nat) (D : SD), TxW prog w D (insAll xs []) → h'.get? s.heap.objs.size = some (sObj "set" D) → (∀ b o, b < s.heap.objs.size → s.heap.get? b = some o → h'.get? b = some o) → Q (.ref s.heap.objs.size) { s with heap := h', toks := tk }) :
    (wpAny (model prog w) A (call (.type "set") [.ref l]) Q E s) := by
  obtain ⟨c, tl, mro⟩ := PySem.F.called_set.mro
  have made := PySem.F.called_set.made; have subs := PySem.F.called_set.sub
  refine wpAny_call (codeAny_of_tree (wpAny_pure ⟨Code.quiet_builtin _ (by decide +kernel), codeAny_builtin PySem.F.entry_type_call (by
    rw [(Around.under_plain (weight_type_call_type "set" [.ref l] []) rfl)]
    have n1 := PySem.F.called_set.notType; have n2 := PySem.F.called_set.canCreate; have n3 := PySem.F.typeCall_set_1 (.ref l)
    repeat (any_goals first | assumption | wp_step)
    refine codeAny_mono (code_new1 (.ref l) (E := E) (Q₁ := fun obj s1 => obj = .ref s.heap.objs.size ∧ s1 = { s with heap := s.heap.push (sObj "set" (#[], 0, tb0 w)) }) ⟨rfl, rfl⟩) fun r s1 hr => ?_
    match r, hr with
    | .error e, hr => exact hr
    | .ok (.ret obj), hr =>
      obtain ⟨rfl, rfl⟩ := hr
      have hN : (s.heap.push (sObj "set" (#[], 0, tb0 w))).get? s.heap.objs.size = some (sObj "set" (#[], 0, tb0 w)) := Heap.get?_push_size _ rfl
      have hT : Shared.TypeIs { s with heap := s.heap.push (sObj "set" (#[], 0, tb0 w)) } (.ref s.heap.objs.size) "set" := ⟨_, hN, rfl⟩
      have i1 := PySem.F.called_set.init.lookup; have i2 := PySem.F.called_set.init.bind (.ref s.heap.objs.size)
      repeat (any_goals first | assumption | wp_step)
      refine codeAny_mono (codeAny_call_builtin (R := wants (fun r s2 => r = .none ∧ ∃ h' tk D, s2 = { s with heap := h', toks := tk } ∧ TxW prog w D (insAll xs []) ∧ h'.get? s.heap.objs.size = some (sObj "set" D) ∧
          (∀ b o, b < s.heap.objs.size → s.heap.get? b = some o → h'.get? b = some o)) E) PySem.F.called_set.init.plain PySem.F.entry_set_init (check_set_init_1 hT ?_)) fun r2 s2 hr2 => ?_
      · obtain ⟨⟨oc, od, da, os⟩, ho, hc, nl, hd⟩ := hl
        simp only at hc hd
        subst hc hd
        have ho2 : (s.heap.push (sObj "set" (#[], 0, tb0 w))).get? l = some { cls := .type "list", dict := od, data := .seq items nl, slots := os } := Heap.get?_push_of_some _ ho
        have q1 := PySem.F.sub_list_set; have q2 := PySem.F.sub_list_frozenset; have q3 : (Value.type "list" == Value.type "dict") = false := by decide
        have hl1 : (s.heap.push (sObj "set" (#[], 0, tb0 w))).IsList l items := ⟨_, ho2, rfl, nl, rfl⟩
        unfold Builtin.«set.__init__»; unfold noKeywords; unfold Builtin.Frozenset.updateFrom
        generalize hPI : pyIter = PI
        wp_walk
        subst hPI
        refine wpAny_pyIter_list hl1 (wpAny_bind (wpAny_runValue ?_))
        have lS : l < s.heap.objs.size := Heap.lt_size ho
        have h3 : A.in1.in1.in1.handled = none := by simp [hh]
        have neI : l ≠ (s.heap.push (sObj "set" (#[], 0, tb0 w))).objs.size := by
          rw [Heap.size_push]
          exact Nat.ne_of_lt (Nat.lt_succ_of_lt lS)
        have nfp : s.heap.objs.size ∉ [(s.heap.push (sObj "set" (#[], 0, tb0 w))).objs.size, l] := by
          rw [Heap.size_push]
          intro z
          rcases (List.mem_cons.mp z) with z | z
          · omega
          · rw [List.mem_singleton] at z
            exact absurd z (Nat.ne_of_gt lS)
        have len : xs.length = items.size := by rw [← StrsAre.len_eq hi, Array.length_toList]
        refine upd_loop ((Walks.list h3 _ l neI items).toS) s.heap.objs.size nfp xs len (fun i v hv => str_at hi i v (by rw [Array.getElem?_toList]; exact hv)) (by omega) (items.size - 0) 0 _ (#[], 0, tb0 w) [] (by omega) (Nat.zero_le _) (Nat.le_refl _)
          ⟨⟨_, Heap.get?_push_size _ rfl, rfl, rfl⟩, hl1.push _⟩ (Heap.get?_push_of_some _ hN) (new_keeps _ _) fun s3 D3 hm ho3 F3 => ?_
        obtain ⟨h', g', d', tk', os'⟩ := s3
        obtain rfl : g' = s.gens := hm.gens
        obtain rfl : d' = s.drawn := hm.drawn
        obtain rfl : os' = s.os := hm.os
        refine wpAny_pure (wpAny_pure ⟨rfl, h', tk', D3, rfl, F3, ho3, fun b o hb e => hm.heap b o (fun z => ?_) (Heap.get?_push_of_some _ (Heap.get?_push_of_some _ e))⟩)
        rcases (List.mem_cons.mp z) with z | z
        · exact absurd z (Nat.ne_of_lt hb)
        · rw [List.mem_singleton, Heap.size_push] at z
          exact absurd z (Nat.ne_of_lt (Nat.lt_succ_of_lt hb))
      · match r2, hr2 with
        | .error e, hr2 => exact hr2
        | .ok (.ret v), hr2 =>
          obtain ⟨rfl, h', tk, D, rfl, F, ho3, hold⟩ := hr2
          repeat (any_goals first | assumption | wp_step)
          exact h _ _ _ F ho3 hold
        | .ok .next, hr2 => exact hr2.elim
        | .ok .brk, hr2 => exact hr2.elim
        | .ok .cont, hr2 => exact hr2.elim
    | .ok .next, hr => exact hr.elim
    | .ok .brk, hr => exact hr.elim
    | .ok .cont, hr => exact hr.elim)⟩))
end
/-- the set at a holds the texts l -/
def SetW (P : Program) (w : World) (a : Addr) (l : List Str) : HO := .ext fun h => ∃ D, h.get? a = some (sObj "set" D) ∧ TxW P w D l
theorem setW_ok {P : Program} {w : World} {H : Hp} {h : Heap} {a : Addr} {D : SD} {l : List Str} (ho : h.get? a = some (sObj "set" D)) (F : TxW P w D l) : ObjOk P w H h a (SetW P w a l) :=
  ⟨⟨D, ho, F⟩, ⟨_, ho⟩, fun h1 h2 z k => by
    obtain ⟨D', e, F'⟩ := z
    exact ⟨D', k _ e, F'⟩⟩
theorem perm_of : ∀ (l ys : List Str), l.Nodup → (∀ y ∈ l, y ∈ ys) → ys.length = l.length → ys.Perm l
  | [], ys, _, _, e => by
    rw [List.length_eq_zero_iff.mp e]
  | y :: l, ys, n, h, e => by
    obtain ⟨n1, n2⟩ := List.nodup_cons.mp n
    obtain ⟨p, q, rfl⟩ := List.append_of_mem (h y List.mem_cons_self)
    have pm : (p ++ y :: q).Perm (y :: (p ++ q)) := List.perm_middle
    refine pm.trans (List.Perm.cons y (perm_of l (p ++ q) n2 (fun z hz => ?_) ?_))
    · have zy : z ≠ y := fun c => n1 (c ▸ hz)
      rcases List.mem_append.mp (h z (List.mem_cons_of_mem _ hz)) with c | c
      · exact List.mem_append_left _ c
      · rcases List.mem_cons.mp c with c | c
        · exact absurd c zy
        · exact List.mem_append_right _ c
    · simp only [List.length_append, List.length_cons] at e ⊢
      omega
theorem strs_are : ∀ (vs : List Value), (∀ v ∈ vs, ∃ y t, v = Value.str y t) → ∃ ys, StrsAre vs ys
  | [], _ => ⟨[], .nil⟩
  | v :: vs, h => by
    obtain ⟨y, t, rfl⟩ := h _ List.mem_cons_self
    obtain ⟨ys, r⟩ := strs_are vs fun u hu => h u (List.mem_cons_of_mem _ hu)
    exact ⟨y :: ys, .cons y t r⟩
theorem strs_mem : ∀ {vs : List Value} {ys : List Str}, StrsAre vs ys → ∀ y t, Value.str y t ∈ vs → y ∈ ys
  | _, _, .cons z u r, y, t, h => by
    rcases (List.mem_cons.mp h) with e | e
    · injection e with e1 e2
      rw [e1]
      exact List.mem_cons_self
    · exact List.mem_cons_of_mem _ (strs_mem r y t e)
section
variable {X : Cx}
/-- set(xs), xs a list of texts -/
theorem cr_setS (hc : X.calm = true) : CallR X (.type "set") (fun vs H Q => ∃ (p : Addr) (ys : List Str), vs = [.ref p] ∧ SqL X.K H p (ys.map V.str) ∧ ys.length ≤ 1000 ∧ ∀ q, H q = none → Q (.ref q) (upd H q (SetW X.prog X.w q (insAll ys [])))) := by
  intro pn s σ H vs us Q I r h
  obtain ⟨p, ys, rfl, hq, hz, q⟩ := h
  rw [Vals.ref1 r]
  obtain ⟨its, rv, pl, _⟩ := I.list hq
  refine call_set_texts (I.ok.hd hc) pl.isList (by simpa using L2.strsAre_of rv) (by unfold scanBound; omega) fun h' tk D F ho keep => ?_
  exact ⟨.ref _, _, I.laid (t' := tk) (fun b o e => keep b o (Heap.lt_size e) e) (Nat.le_refl _) (setW_ok ho F), rfl, q _ (I.hok.fresh (Nat.le_refl _))⟩
/-- sorted(S), S a set of texts -/
theorem cr_sortedW (hc : X.calm = true) : CallR X (.builtin "sorted") (fun vs H Q => ∃ (a : Addr) (l : List Str), vs = [.ref a] ∧ H a = some (SetW X.prog X.w a l) ∧ l.Nodup ∧ l.length < 64 ∧
    ∀ (ys : List Str) (p : Addr), ys.Perm l → sortedS ys = true → H p = none → Q (.ref p) (upd H p (.lst (ys.map V.str)))) := by
  intro pn s σ H vs us Q I r h
  obtain ⟨a, l, rfl, ha, nd, l64, q⟩ := h
  rw [Vals.ref1 r]
  obtain ⟨⟨es, ep, t⟩, ho, F⟩ := (I.hok a _ ha).1
  have sz : es.size = l.length := F.ok.sz
  have small : es.size < scanBound := by unfold scanBound; omega
  refine Calls.call_function_entry PyProof.Rows.kind_sorted PyProof.Rows.plain_sorted PyProof.Rows.entry_sorted (PyProof.Rows.args_sorted1 _) (by
    unfold Builtin.«sorted»
    refine wpAny_bind (m := checkCount "sorted" 1 1 _) (wpAny_pure (wpAny_bind (collect_set (A := X.A.in1) (I.ok.hd hc) ⟨_, ho, rfl, rfl⟩ F.ok.fit small F.ris F.led fun s1 out k1 hz g1 o1 pm => ?_)))
    have all : ∀ v ∈ out, ∃ y u, v = Value.str y u := fun v hv => by
      obtain ⟨e, he, rfl⟩ := List.mem_map.mp (pm.mem_iff.mp hv)
      obtain ⟨⟨k, hk, _⟩, _⟩ := F.ok.el e he
      obtain ⟨u, ev⟩ := Value.isStrOf_shape (x := k) (v := e.2) hk
      exact ⟨k, u, ev⟩
    obtain ⟨zs, hS⟩ := strs_are out all
    have len : out.length = es.size := by rw [pm.length_eq, List.length_map, Array.length_toList]
    have zl : zs.length = l.length := by rw [← hS.len_eq, len, sz]
    have zp : zs.Perm l := perm_of l zs nd (fun y hy => by
      obtain ⟨e, he, z⟩ := (F.ok.mem y).mp hy
      obtain ⟨u, ev⟩ := Value.isStrOf_shape (x := y) (v := e.2) z
      refine strs_mem hS y u (pm.mem_iff.mpr ?_)
      rw [← ev]
      exact List.mem_map.mpr ⟨e, he, rfl⟩) zl
    have o64 : out.length < 64 := by rw [len, sz]; exact l64
    have hoL : (s1.heap.push (seqObj "list" out.toArray 0)).get? s1.heap.objs.size = some (seqObj "list" out.toArray 0) := Heap.get?_push_size _ rfl
    refine wpAny_bind (wpAny_newList (wpAny_bind (wpAny_holding (wpAny_call_entry PyProof.Rows.slot_list_sort ⟨_, hoL, rfl⟩ PyProof.Rows.entry_list_sort
      (list_sort_treeK strKind_oneLt (s := { s1 with heap := s1.heap.push (seqObj "list" out.toArray 0) }) hoL hS.keysOf (fun v₁ v₂ rest e => keyKind_strs (by rw [← e]; exact hS)) o64 fun st' hp hs => ⟨_, rfl, by
        obtain ⟨ys, r1, r2, r3⟩ := sorted_out_str hS hp hs
        obtain ⟨c, hc2⟩ := PyProof.Rows.sortedHeap_at (vs := out) (out := (arrOf st').map (·.2)) hoL
        have hn : H s1.heap.objs.size = none := I.hok.fresh hz
        have ylen : (ys.map V.str).length ≤ sizeLine := by
          rw [List.length_map, r2.length_eq, zl]
          exact Nat.le_trans (Nat.le_of_lt l64) (by decide)
        have k2 : ∀ b u, s.heap.get? b = some u → (PyProof.Rows.sortedHeap (s1.heap.push (seqObj "list" out.toArray 0)) s1.heap.objs.size out ((arrOf st').map (·.2))).get? b = some u := fun b u e => by
          have lt := Heap.lt_size (k1 b u e)
          rw [PyProof.Rows.sortedHeap_old (Nat.ne_of_lt lt) (by rw [size_push']; exact Nat.lt_succ_of_lt lt)]
          exact Heap.get?_push_of_some _ (k1 b u e)
        obtain ⟨hp1, gn1, dr1, tk1, os1⟩ := s1
        dsimp only at g1 o1 hn k2 hc2 ⊢
        subst g1 o1
        refine wpAny_pure ⟨_, rfl, .ref hp1.objs.size, upd H hp1.objs.size (.lst (ys.map V.str)), ?_, rfl, q ys _ (r2.trans zp) r3 hn⟩
        exact I.call (ch := []) (Un.laid k2 hz hn) (I.hok.laid k2 hz ⟨ylen, ((arrOf st').map (·.2)).toList, c, vals_of_strs r1, by rw [Array.toArray_toList]; exact hc2⟩) I.bare (fun _ z => nomatch z)⟩) (PyProof.Rows.args_list_sort _)))) (by rw [sizeLine_eq]; omega)))
end
/-! ### names: the plain mathematics -/
def lowc (c : Nat) : Bool := decide (97 ≤ c) && decide (c ≤ 122)
def upc (c : Nat) : Bool := decide (65 ≤ c) && decide (c ≤ 90)
theorem uni_alpha : ∀ c : Nat, c < 128 → Unicode.isAlpha c = (lowc c || upc c) := by decide +kernel
theorem uni_lower : ∀ c : Nat, c < 128 → Unicode.isLower c = lowc c := by decide +kernel
theorem uni_upper : ∀ c : Nat, c < 128 → (Unicode.isUpper c || Unicode.isTitle c) = upc c := by decide +kernel
/-- the letters of a name -/
def letB (a : List Nat) : Bool := !a.isEmpty && a.all lowc
theorem lower_letters (a : List Nat) : (Txt.isascii (SX.S a) && (Txt.isalpha (SX.S a) && Txt.islower (SX.S a))) = letB a := by
  have e1 : Txt.isascii (SX.S a) = a.all (fun c => decide (c < 128)) := by
    unfold Txt.isascii
    rw [← Array.all_toList]
  have e2 : Txt.isalpha (SX.S a) = (!a.isEmpty && a.all Unicode.isAlpha) := by
    unfold Txt.isalpha
    rw [← Array.all_toList, SX.S_len]
    cases a <;> rfl
  have e3 : Txt.islower (SX.S a) = (a.any Unicode.isLower && !a.any fun c => Unicode.isUpper c || Unicode.isTitle c) := by
    unfold Txt.islower
    rw [← Array.any_toList, ← Array.any_toList]
  rw [e1, e2, e3]
  unfold letB
  cases h : a.all (fun c => decide (c < 128))
  · rw [Bool.false_and]
    symm
    rw [Bool.and_eq_false_iff]
    refine .inr (Bool.eq_false_iff.mpr fun z => ?_)
    have z2 := List.all_eq_true.mp z
    have : a.all (fun c => decide (c < 128)) = true := List.all_eq_true.mpr fun c hc => decide_eq_true (by
      have q := z2 c hc
      unfold lowc at q
      rw [Bool.and_eq_true, decide_eq_true_eq, decide_eq_true_eq] at q
      omega)
    rw [h] at this
    cases this
  · rw [Bool.true_and]
    have h3 : ∀ c ∈ a, c < 128 := fun c hc => of_decide_eq_true (List.all_eq_true.mp h c hc)
    have a1 : a.all Unicode.isAlpha = a.all (fun c => lowc c || upc c) := by
      rw [Bool.eq_iff_iff, List.all_eq_true, List.all_eq_true]
      exact ⟨fun q c hc => by rw [← uni_alpha c (h3 c hc)]; exact q c hc, fun q c hc => by rw [uni_alpha c (h3 c hc)]; exact q c hc⟩
    have a2 : a.any Unicode.isLower = a.any lowc := by
      rw [Bool.eq_iff_iff, List.any_eq_true, List.any_eq_true]
      exact ⟨fun ⟨c, hc, q⟩ => ⟨c, hc, by rw [← uni_lower c (h3 c hc)]; exact q⟩, fun ⟨c, hc, q⟩ => ⟨c, hc, by rw [uni_lower c (h3 c hc)]; exact q⟩⟩
    have a3 : (a.any fun c => Unicode.isUpper c || Unicode.isTitle c) = a.any upc := by
      rw [Bool.eq_iff_iff, List.any_eq_true, List.any_eq_true]
      exact ⟨fun ⟨c, hc, q⟩ => ⟨c, hc, by rw [← uni_upper c (h3 c hc)]; exact q⟩, fun ⟨c, hc, q⟩ => ⟨c, hc, by rw [uni_upper c (h3 c hc)]; exact q⟩⟩
    rw [a1, a2, a3]
    have dis : ∀ c : Nat, lowc c = true → upc c = false := fun c q => by
      unfold lowc at q
      unfold upc
      rw [Bool.and_eq_true, decide_eq_true_eq, decide_eq_true_eq] at q
      rw [Bool.and_eq_false_iff, decide_eq_false_iff_not, decide_eq_false_iff_not]
      omega
    rw [Bool.eq_iff_iff]
    simp only [Bool.and_eq_true, Bool.not_eq_true', List.any_eq_true, List.all_eq_true, Bool.or_eq_true]
    constructor
    · rintro ⟨⟨n, al⟩, _, nu⟩
      refine ⟨n, fun c hc => ?_⟩
      rcases al c hc with q | q
      · exact q
      · exfalso
        have : a.any upc = true := List.any_eq_true.mpr ⟨c, hc, q⟩
        rw [nu] at this
        cases this
    · rintro ⟨n, al⟩
      refine ⟨⟨n, fun c hc => .inl (al c hc)⟩, ?_, ?_⟩
      · cases a with
        | nil => cases n
        | cons c r => exact ⟨c, List.mem_cons_self, al c List.mem_cons_self⟩
      · refine Bool.eq_false_iff.mpr fun q => ?_
        obtain ⟨c, hc, q⟩ := List.any_eq_true.mp q
        rw [dis c (al c hc)] at q
        cases q
/-- without one apostrophe at the end -/
def cutQ (a : List Nat) : List Nat := if a.getLast? = some 39 then a.dropLast else a
def nameB (a : List Nat) : Bool := decide ((cutQ a).length ≤ 6) && letB (cutQ a)
theorem last_at (b : List Nat) (c : Nat) : PySem.Builtin.Str.subAt (SX.S (b ++ [c])) (SX.S [39]) ((SX.S (b ++ [c])).length - (SX.S [39]).length) = decide (c = 39) := by
  have e : (SX.S (b ++ [c])).cps.extract ((SX.S (b ++ [c])).length - (SX.S [39]).length) ((SX.S (b ++ [c])).length - (SX.S [39]).length + (SX.S [39]).length) = [c].toArray := by
    rw [SX.S_len, SX.S_len, List.length_append]
    simp [List.extract]
  show ((SX.S (b ++ [c])).cps.extract ((SX.S (b ++ [c])).length - (SX.S [39]).length) ((SX.S (b ++ [c])).length - (SX.S [39]).length + (SX.S [39]).length) == (SX.S [39]).cps) = _
  rw [e]
  by_cases h : c = 39
  · subst h
    rfl
  · rw [decide_eq_false h, beq_eq_false_iff_ne]
    intro z
    exact h (List.cons.inj (congrArg Array.toList z)).1
theorem rem_quote (a : List Nat) : Txt.removesuffix (SX.S a) (SX.S [39]) = SX.S (cutQ a) := by
  have e := eq_of_beq (PyProof.Rows.removesuffix_closes (SX.S a) (SX.S [39]))
  rw [e]
  rcases List.eq_nil_or_concat a with rfl | ⟨b, c, rfl⟩
  · rfl
  · rw [List.concat_eq_append, last_at]
    have e1 : decide (0 + (SX.S [39]).length ≤ (SX.S (b ++ [c])).length) = true := by
      rw [SX.S_len, SX.S_len, List.length_append]
      exact decide_eq_true (by show 0 + 1 ≤ b.length + 1; omega)
    rw [e1, Bool.true_and]
    unfold cutQ
    rw [List.getLast?_append, List.getLast?_singleton, Option.some_or, List.dropLast_concat]
    by_cases h : c = 39
    · subst h
      rw [decide_eq_true rfl, if_pos rfl, if_pos rfl]
      refine TL.ext_tl ?_
      show ((b ++ [39]).drop 0).take ((((SX.S (b ++ [39])).length : Nat) : Int) - (((SX.S [39]).length : Nat) : Int) - 0).toNat = b
      rw [SX.S_len, SX.S_len, List.length_append, List.drop_zero]
      have : ((((b.length + [39].length : Nat)) : Int) - (([39] : List Nat).length : Nat) - 0).toNat = b.length := by
        show (((b.length + 1 : Nat) : Int) - 1 - 0).toNat = b.length
        omega
      rw [this, List.take_left]
    · rw [decide_eq_false h, if_neg (by decide), if_neg (fun z => h (Option.some.inj z))]
/-! ### drawn words: the plain mathematics -/
abbrev ABC : Str := Str.ofString "abcdefghijklmnopqrstuvwxyz"
theorem abc_nat : ∀ n : Nat, n < 26 → L2.atI ABC.cps.toList (n : Int) = some (97 + n) := by decide +kernel
theorem abc_at {r : Int} (h0 : 0 ≤ r) (h1 : r < 26) : L2.atI ABC.cps.toList r = some (97 + r.toNat) := by
  obtain ⟨n, rfl⟩ := Int.eq_ofNat_of_zero_le h0
  rw [Int.toNat_natCast]
  exact abc_nat n (by omega)
theorem low_abc {n : Nat} (h : n < 26) : lowc (97 + n) = true := by
  unfold lowc
  rw [decide_eq_true (by omega), decide_eq_true (by omega)]
  rfl
theorem mul_one1 {x : Str} (hx : x.length = 1) {n : Int} (h1 : n ≤ 8) (h0 : -8 ≤ n) : MulOk x n := by
  unfold MulOk
  rw [hx]
  obtain ⟨k, rfl⟩ : ∃ k : Nat, n = (k : Int) - 8 := ⟨(n + 8).toNat, by omega⟩
  have : ∀ k : Nat, k < 17 → (decide (((k : Int) - 8) < -(2 ^ 63 : Int)) || decide (((k : Int) - 8) ≥ 2 ^ 63)) = false ∧ (¬ ((k : Int) - 8) < 1 → (((k : Int) - 8) == 1 || (1 : Nat) == 0) = false → ¬ (((1 : Nat) : Int) > (2 ^ 63 - 1) / ((k : Int) - 8))) ∧
    (¬ ((k : Int) - 8) < 1 → (((k : Int) - 8) == 1 || (1 : Nat) == 0) = false → PySem.Builtin.Str.tooLong (1 * ((k : Int) - 8).toNat) = false) := by decide +kernel
  exact this k (by omega)
theorem fold_rep (c : Nat) : ∀ (k : Nat) (acc : Array Nat), (List.replicate k (#[c] : Array Nat)).foldl (· ++ ·) acc = acc ++ (List.replicate k c).toArray
  | 0, acc => by simp
  | k + 1, acc => by
    rw [List.replicate_succ, List.foldl_cons, fold_rep c k, List.replicate_succ]
    apply Array.toList_inj.mp
    simp
theorem mul_rep (c : Nat) (n : Int) : Txt.mul (SX.S [c]) n = SX.S (List.replicate n.toNat c) := by
  unfold Txt.mul
  by_cases h : n < 1
  · rw [if_pos h, show n.toNat = 0 by omega]
    rfl
  · rw [if_neg h]
    by_cases h1 : n = 1
    · subst h1
      rfl
    · have : (n == 1 || (SX.S [c]).length == 0) = false := by
        rw [beq_eq_false_iff_ne.mpr h1]
        rfl
      rw [this, if_neg (by decide)]
      unfold SX.S
      have e : (List.replicate n.toNat (⟨[c].toArray⟩ : Str).cps) = List.replicate n.toNat (#[c] : Array Nat) := rfl
      rw [e, fold_rep]
      simp
theorem cut_last (a : List Nat) {k : Nat} (h : a.length ≤ k) (hk : 0 < k) : L2.cutS (SX.S a) (some (-(k : Int))) none = SX.S a := by
  unfold L2.cutS
  have e : HT.sIx (SX.S a).length 0 (some (-(k : Int))) = 0 := by
    rw [SX.S_len]
    unfold HT.sIx
    simp
    omega
  rw [HT.sIx_none, e, SX.S_len]
  refine TL.ext_tl ?_
  show (a.drop 0).take (a.length - 0) = a
  rw [List.drop_zero, Nat.sub_zero, List.take_length]
theorem cut_to (a : List Nat) (k : Nat) : L2.cutS (SX.S a) none (some (k : Int)) = SX.S (a.take k) := by
  unfold L2.cutS
  rw [HT.sIx_none, HT.sIx_nat, SX.S_len, Nat.sub_zero]
  refine TL.ext_tl ?_
  show (a.drop 0).take (min k a.length) = a.take k
  rw [List.drop_zero]
  by_cases h : k ≤ a.length
  · rw [Nat.min_eq_left h]
  · rw [Nat.min_eq_right (by omega), List.take_of_length_le (Nat.le_refl _), List.take_of_length_le (by omega)]
theorem cut_from (a : List Nat) (k : Nat) : L2.cutS (SX.S a) (some (k : Int)) none = SX.S (a.drop k) := by
  unfold L2.cutS
  rw [HT.sIx_none, HT.sIx_nat, SX.S_len]
  refine TL.ext_tl ?_
  show (a.drop (min k a.length)).take (a.length - min k a.length) = a.drop k
  by_cases h : k ≤ a.length
  · rw [Nat.min_eq_left h, List.take_of_length_le (by rw [List.length_drop]; exact Nat.le_refl _)]
  · rw [Nat.min_eq_right (by omega), List.drop_of_length_le (Nat.le_refl _), List.drop_of_length_le (by omega), List.take_nil]
/-- a word of one to six letters -/
def LW (a : List Nat) : Prop := a ≠ [] ∧ a.length ≤ 6 ∧ a.all lowc = true
theorem LW.put {a : List Nat} {c : Nat} {k : Nat} (h : a.length ≤ 5) (ha : a.all lowc = true) (hc : lowc c = true) : LW (a.take k ++ [c] ++ a.drop k) := by
  refine ⟨by simp, ?_, ?_⟩
  · simp only [List.length_append, List.length_take, List.length_drop, List.length_singleton]
    omega
  · rw [List.all_append, List.all_append]
    have e := List.all_eq_true.mp ha
    rw [List.all_eq_true.mpr fun x hx => e x (List.mem_of_mem_take hx), List.all_eq_true.mpr fun x hx => e x (List.mem_of_mem_drop hx)]
    simp [hc]
theorem LW.rep {a : List Nat} {c n : Nat} (ha : a.all lowc = true) (hc : lowc c = true) (n1 : 1 ≤ n) (n4 : n ≤ 5) : LW (a.take 1 ++ List.replicate n c) := by
  refine ⟨?_, ?_, ?_⟩
  · intro z
    have := congrArg List.length z
    rw [List.length_append, List.length_replicate] at this
    simp at this
    omega
  · simp only [List.length_append, List.length_take, List.length_replicate]
    omega
  · rw [List.all_append]
    have e := List.all_eq_true.mp ha
    rw [List.all_eq_true.mpr fun x hx => e x (List.mem_of_mem_take hx), Bool.true_and]
    exact List.all_eq_true.mpr fun x hx => by
      rw [List.eq_of_mem_replicate hx]
      exact hc
theorem LW.one {c : Nat} (hc : lowc c = true) : LW [c] := ⟨by simp, by simp, by simp [hc]⟩
theorem S_inj {a b : List Nat} (h : SX.S a = SX.S b) : a = b := by
  have := congrArg (fun s : Str => s.cps.toList) h
  simpa [SX.S] using this
theorem ins_all_full : ∀ (xs l : List Str), (insAll xs l).length = xs.length + l.length → xs.Nodup ∧ ∀ x ∈ xs, x ∉ l
  | [], _, _ => ⟨List.nodup_nil, fun _ h => nomatch h⟩
  | x :: xs, l, h => by
    unfold insAll at h
    by_cases hx : x ∈ l
    · exfalso
      unfold ins at h
      rw [if_pos hx] at h
      have := insAll_len xs l
      rw [List.length_cons] at h
      omega
    · unfold ins at h
      rw [if_neg hx] at h
      obtain ⟨h1, h2⟩ := ins_all_full xs (x :: l) (by rw [h]; simp only [List.length_cons]; omega)
      refine ⟨List.nodup_cons.mpr ⟨fun z => h2 x z List.mem_cons_self, h1⟩, fun y hy => ?_⟩
      rcases List.mem_cons.mp hy with rfl | hy
      · exact hx
      · exact fun z => h2 y hy (List.mem_cons_of_mem _ z)
theorem nodup_S : ∀ {ws : List (List Nat)}, (ws.map SX.S).Nodup → ws.Nodup
  | [], _ => List.nodup_nil
  | w :: ws, h => by
    rw [List.map_cons, List.nodup_cons] at h
    exact List.nodup_cons.mpr ⟨fun z => h.1 (List.mem_map_of_mem z), nodup_S h.2⟩
/-- the kth letter from a first one, by fives -/
def five (f k : Nat) : Nat := 97 + (f + 5 * k) % 26
theorem five_inj {f i j : Nat} (hi : i < 20) (hj : j < 20) (h : five f i = five f j) : i = j := by
  unfold five at h
  omega
theorem nodup_range_map {α : Type} {f : Nat → α} {m : Nat} (h : ∀ i j, i < m → j < m → f i = f j → i = j) : ((List.range m).map f).Nodup := by
  rw [List.Nodup, List.pairwise_map]
  refine List.Pairwise.imp_of_mem ?_ List.nodup_range
  intro a b ha hb hne e
  exact hne (h a b (List.mem_range.mp ha) (List.mem_range.mp hb) e)
theorem put_inj {a : List Nat} {k c d : Nat} (h : a.take k ++ [c] ++ a.drop k = a.take k ++ [d] ++ a.drop k) : c = d := by
  have h1 := (List.append_cancel_right h)
  have h2 := (List.append_cancel_left h1)
  exact (List.cons.inj h2).1
theorem lc_str {x : Str} {g : TG} {tt : TT} {te : TE} {vs : List Nat} {σ : L2.St} {H1 : Hp} {D : Addr} {Qd : Hp → Prop} (Pv : Nat → Hp → Prop) (h0 : Pv 0 (upd H1 D (.lst [])))
    (hs : ∀ i c H, x.cps[i]? = some c → Pv i H → g (.str ⟨#[c]⟩) (wipe σ vs) H fun σ2 H2 => wipe σ2 vs = wipe σ vs ∧ tt σ2 H2 fun b H3 =>
      if b = true then te σ2 H3 fun y H4 => ∃ acc, H4 D = some (.lst acc) ∧ acc.length < sizeLine ∧ Pv (i + 1) (upd H4 D (.lst (acc ++ [y]))) else Pv (i + 1) H3) (hd : ∀ H, Pv x.cps.size H → Qd H) :
    ∃ W : Nat → Nat → Hp → Prop, (∃ m, W 0 m (upd H1 D (.lst []))) ∧ ∀ i m H, W i m H →
      ((Its x).stop i H ∧ Qd H) ∨ ((Its x).go i H ∧ ∃ Nx : Hp → Prop, (∀ H', Nx H' → ∃ m', m' < m ∧ W (i + 1) m' H') ∧ ∀ y H', (Its x).yld i H y H' → g y (wipe σ vs) H' fun σ2 H2 => wipe σ2 vs = wipe σ vs ∧ tt σ2 H2 fun b H3 =>
        if b = true then te σ2 H3 fun y H4 => ∃ acc, H4 D = some (.lst acc) ∧ acc.length < sizeLine ∧ Nx (upd H4 D (.lst (acc ++ [y]))) else Nx H3) := by
  refine ⟨fun i m H => m = x.cps.size - i ∧ i ≤ x.cps.size ∧ Pv i H, ⟨x.cps.size, by simp, Nat.zero_le _, h0⟩, ?_⟩
  rintro i m H ⟨rfl, hi, p⟩
  by_cases hlt : i < x.cps.size
  · refine .inr ⟨hlt, Pv (i + 1), fun H' p' => ⟨x.cps.size - (i + 1), by omega, rfl, hlt, p'⟩, fun y H' q => ?_⟩
    obtain ⟨e, c, hc, ev⟩ := q
    subst e ev
    exact hs i c _ hc p
  · have e : i = x.cps.size := by omega
    subst e
    exact .inl ⟨Nat.le_refl _, hd H p⟩
/-! ### names with an apostrophe; the law's own test of names -/
theorem last_low {x : List Nat} (h : x.all lowc = true) : x.getLast? ≠ some 39 := fun z => by
  have := List.all_eq_true.mp h 39 (List.mem_of_getLast? z)
  revert this
  decide
theorem cutQ_lw {x : List Nat} (h : LW x) {k : Nat} (hk : k ≤ 1) : cutQ (x ++ List.replicate k 39) = x := by
  unfold cutQ
  match k, hk with
  | 0, _ => rw [List.replicate_zero, List.append_nil, if_neg (last_low h.2.2)]
  | 1, _ => rw [show List.replicate 1 39 = [39] from rfl, List.getLast?_append, List.getLast?_singleton, Option.some_or, if_pos rfl, List.dropLast_concat]
theorem name_lw {x : List Nat} (h : LW x) {k : Nat} (hk : k ≤ 1) : nameB (x ++ List.replicate k 39) = true ∧ (x ++ List.replicate k 39).length ≤ 7 := by
  constructor
  · unfold nameB letB
    rw [cutQ_lw h hk, h.2.2, decide_eq_true h.2.1]
    cases x with
    | nil => exact absurd rfl h.1
    | cons _ _ => rfl
  · rw [List.length_append, List.length_replicate]
    have := h.2.1
    omega
theorem nodup_of_map {α β : Type} (f : α → β) : ∀ {l : List α}, (l.map f).Nodup → l.Nodup
  | [], _ => List.nodup_nil
  | w :: ws, h => by
    rw [List.map_cons, List.nodup_cons] at h
    exact List.nodup_cons.mpr ⟨fun z => h.1 (List.mem_map_of_mem z), nodup_of_map f h.2⟩
theorem sIx_neg1 (n : Nat) (d : Nat) : HT.sIx n d (some (-1)) = n - 1 := by
  unfold HT.sIx
  simp
  omega
theorem cut_but1 (t : List Nat) : L2.cutS (SX.S t) none (some (-1)) = SX.S t.dropLast := by
  unfold L2.cutS
  rw [HT.sIx_none, sIx_neg1, SX.S_len, Nat.sub_zero]
  refine TL.ext_tl ?_
  show (t.drop 0).take (t.length - 1) = t.dropLast
  rw [List.drop_zero, List.dropLast_eq_take]
theorem cut_end1 (t : List Nat) : L2.cutS (SX.S t) (some (-1)) none = SX.S (t.drop (t.length - 1)) := by
  unfold L2.cutS
  rw [HT.sIx_none, sIx_neg1, SX.S_len]
  refine TL.ext_tl ?_
  show (t.drop (t.length - 1)).take (t.length - (t.length - 1)) = t.drop (t.length - 1)
  rw [List.take_of_length_le]
  rw [List.length_drop]
  exact Nat.le_refl _
theorem drop_last (t : List Nat) : (t.drop (t.length - 1) = [39]) ↔ t.getLast? = some 39 := by
  rcases List.eq_nil_or_concat t with rfl | ⟨b, c, rfl⟩
  · simp
  · rw [List.concat_eq_append, List.getLast?_append, List.getLast?_singleton, Option.some_or]
    have e : (b ++ [c]).length - 1 = b.length := by simp
    rw [e, List.drop_left]
    simp
theorem abc_mem (c : Nat) : decide (c ∈ ABC.cps.toList) = lowc c := by
  rw [show ABC.cps.toList = (List.range 26).map (97 + ·) by decide +kernel]
  unfold lowc
  rw [Bool.eq_iff_iff, decide_eq_true_eq, Bool.and_eq_true, decide_eq_true_eq, decide_eq_true_eq, List.mem_map]
  constructor
  · rintro ⟨k, hk, rfl⟩
    have := List.mem_range.mp hk
    omega
  · rintro ⟨h1, h2⟩
    exact ⟨c - 97, List.mem_range.mpr (by omega), by omega⟩
/-! ### lists of texts as data -/
theorem shape_strs : ∀ l : List Str, l.length ≤ 2 → (∀ x ∈ l, PyData.strOk x = true) → SeqAt.shaped (.list (l.map PyData.str)) = true
  | [], _, _ => rfl
  | [x], _, h => by
    show ((PyData.strOk x && true) && true) = true
    rw [h x List.mem_cons_self]
    rfl
  | [x, y], _, h => by
    show ((PyData.strOk x && (PyData.strOk y && true)) && true) = true
    rw [h x List.mem_cons_self, h y (List.mem_cons_of_mem _ List.mem_cons_self)]
    rfl
  | _ :: _ :: _ :: _, h, _ => by simp at h
theorem eqvAll_strs : ∀ l : List Str, PyData.eqvAll (l.map PyData.str) (l.map PyData.str) = true
  | [] => rfl
  | x :: l => by
    show (PyData.eqv (.str x) (.str x) && PyData.eqvAll (l.map PyData.str) (l.map PyData.str)) = true
    rw [eqvAll_strs l, Bool.and_true]
    show (x == x) = true
    exact beq_self_eq_true x
theorem dp_strs {K : PySem.W.Frag} {H : Hp} : ∀ l : List Str, DpAll K H (l.map V.str) (l.map PyData.str)
  | [] => .nil
  | x :: l => .cons (.str x) (dp_strs l)
theorem strOk_name {x : List Nat} (h : nameB x = true) : PyData.strOk (SX.S x) = true := by
  unfold nameB letB at h
  rw [Bool.and_eq_true, Bool.and_eq_true] at h
  have hl := List.all_eq_true.mp h.2.2
  have key : ∀ c ∈ x, c < 0x110000 := fun c hc => by
    by_cases e : c ∈ cutQ x
    · have := hl c e
      unfold lowc at this
      rw [Bool.and_eq_true, decide_eq_true_eq, decide_eq_true_eq] at this
      omega
    · unfold cutQ at e
      split at e
      · rename_i z
        rcases List.eq_nil_or_concat x with rfl | ⟨b, d, rfl⟩
        · cases hc
        · rw [List.concat_eq_append] at *
          rw [List.getLast?_append, List.getLast?_singleton, Option.some_or] at z
          rw [List.dropLast_concat] at e
          rcases List.mem_append.mp hc with k | k
          · exact absurd k e
          · rw [List.mem_singleton.mp k, Option.some.inj z]
            decide
      · exact absurd hc e
  unfold PyData.strOk
  rw [← Array.all_toList, show (SX.S x).cps.toList = x by simp [SX.S]]
  exact List.all_eq_true.mpr fun c hc => decide_eq_true (key c hc)
/-! ### a dict against a copy whose values are the same objects -/
def okV (v : V) : Prop := flatB v = true ∨ ∃ p, v = .ref p
theorem eqAt_sameR {A : Around} {s : Shared} {v : V} {u u' : Value} (r : RelV v u) (r' : RelV v u') (f : okV v) : SeqAt.EqAt A s u u' true := by
  rcases f with f | ⟨p, rfl⟩
  · exact eqAt_same r r' f
  · cases (show u = Value.ref p from r)
    cases (show u' = Value.ref p from r')
    exact SeqAt.EqAt.same _
theorem hits_allR {A : Around} {s : Shared} {kvs : List (Key × V)} {vb : List (Key × Value)} (rb : KV kvs vb) {ks : List (Key × V)} {va : List (Key × Value)} (ra : KV ks va) :
    (∀ p ∈ ks, valV kvs p.1 = some p.2 ∧ okV p.2) → PySem.W.KeqHits A s vb va true := by
  unfold KV at ra
  induction ra with
  | nil => intro _; exact .nil
  | @cons p q ps qs h t ih =>
    intro hp
    obtain ⟨h1, h2⟩ := h
    obtain ⟨e, f⟩ := hp p List.mem_cons_self
    have rr : RelO (some p.2) (valueAt vb p.1) := by rw [← e]; exact rb.val p.1
    obtain ⟨y, hy, ry⟩ := rr.some_of
    obtain ⟨k, v⟩ := q
    have h1' : p.1 = k := h1
    rw [h1'] at hy
    show PySem.W.KeqHits A s vb ((k, v) :: qs) (true && true)
    exact .hit hy (eqAt_sameR h2 ry f) (ih fun p' hm => hp p' (List.mem_cons_of_mem _ hm))
theorem op_ne_dictR {X : Cx} (hu : X.A.units < cLine) : OpR X (compareOp .NotEq) (fun x y H Q => ∃ a b kvs, x = .ref a ∧ y = .ref b ∧ H a = some (.dK kvs) ∧ H b = some (.dK kvs) ∧ (∀ p ∈ kvs, valV kvs p.1 = some p.2 ∧ okV p.2) ∧ Q (.bl false) H) := by
  intro pins s σ H x y v u Q I rx ry h
  obtain ⟨a, b, ks, rfl, rfl, ea, eb, hp, q⟩ := h
  obtain rfl : v = Value.ref a := rx
  obtain rfl : u = Value.ref b := ry
  obtain ⟨_, ya, va, ra, da⟩ := (show ObjOk X.prog X.w H s.heap a (.dK ks) from I.hok a _ ea)
  obtain ⟨_, yb, vb, rb, db⟩ := (show ObjOk X.prog X.w H s.heap b (.dK ks) from I.hok b _ eb)
  have hl : va.length = vb.length := by rw [← ra.length, ← rb.length]
  exact PySem.W.keq_ne (knd := mixKind X.prog X.w) (r := true) ya yb da db hu (fun _ => hits_allR rb ra hp) (fin_bl I q (by simp [hl]))
end EK
namespace T6
open PySem PySem.Spec PyProof.Rows L2 EK
def topS (i : Nat) : Stmt := PySem.Challenge.pw_tiespan_k06_ties_kept_and_reduced.main.body.getD i (.Pass ⟨0, 0, 0, 0⟩)
abbrev s_p_shortened : Stmt := topS 8
abbrev s_p_common_divisor : Stmt := topS 9
abbrev s_p_ratio : Stmt := topS 10
abbrev s_p_add : Stmt := topS 11
abbrev s_p_multiply : Stmt := topS 12
abbrev s_p_is_less : Stmt := topS 13
abbrev s_p_number_text : Stmt := topS 14
abbrev s_p_ratio_text : Stmt := topS 15
abbrev s_p_reduced : Stmt := topS 17
abbrev s_p_is_kept : Stmt := topS 18
abbrev s_p_term_text : Stmt := topS 19
abbrev s_p_terms_text : Stmt := topS 20
abbrev s_p_tie_text : Stmt := topS 21
abbrev s_feed : Stmt := topS 23
abbrev s_draw : Stmt := topS 24
abbrev s_any : Stmt := topS 25
abbrev s_same : Stmt := topS 26
abbrev s_gcd : Stmt := topS 27
abbrev s_low : Stmt := topS 28
abbrev s_plus : Stmt := topS 29
abbrev s_by : Stmt := topS 30
abbrev s_under : Stmt := topS 31
abbrev s_part : Stmt := topS 32
abbrev s_rate : Stmt := topS 33
abbrev s_words : Stmt := topS 34
abbrev s_total : Stmt := topS 35
abbrev s_keeps : Stmt := topS 36
abbrev s_point : Stmt := topS 37
abbrev s_terms : Stmt := topS 38
abbrev s_brief : Stmt := topS 39
abbrev s_part_text : Stmt := topS 40
abbrev s_sum_text : Stmt := topS 41
abbrev s_tie_text : Stmt := topS 42
abbrev s_p_law : Stmt := topS 43
theorem sc_p_shortened : FnScope ["one", "other", "shift", "high", "low", "a", "b", "c", "d", "times", "rest", "first", "second"] ["one", "other"] (defScope s_p_shortened) := ⟨rfl, rfl, rfl, by decide +kernel, rfl, by decide +kernel, by decide +kernel⟩
theorem sc_p_common_divisor : FnScope ["one", "other"] ["one", "other"] (defScope s_p_common_divisor) := ⟨rfl, rfl, rfl, by decide +kernel, rfl, by decide +kernel, by decide +kernel⟩
theorem sc_p_ratio : FnScope ["top", "under", "shared"] ["top", "under"] (defScope s_p_ratio) := ⟨rfl, rfl, rfl, by decide +kernel, rfl, by decide +kernel, by decide +kernel⟩
theorem sc_p_add : FnScope ["one", "other"] ["one", "other"] (defScope s_p_add) := ⟨rfl, rfl, rfl, by decide +kernel, rfl, by decide +kernel, by decide +kernel⟩
theorem sc_p_multiply : FnScope ["one", "other"] ["one", "other"] (defScope s_p_multiply) := ⟨rfl, rfl, rfl, by decide +kernel, rfl, by decide +kernel, by decide +kernel⟩
theorem sc_p_is_less : FnScope ["one", "other"] ["one", "other"] (defScope s_p_is_less) := ⟨rfl, rfl, rfl, by decide +kernel, rfl, by decide +kernel, by decide +kernel⟩
theorem sc_p_number_text : FnScope ["number", "rest", "blocks", "block"] ["number"] (defScope s_p_number_text) := ⟨rfl, rfl, rfl, by decide +kernel, rfl, by decide +kernel, by decide +kernel⟩
theorem sc_p_ratio_text : FnScope ["one"] ["one"] (defScope s_p_ratio_text) := ⟨rfl, rfl, rfl, by decide +kernel, rfl, by decide +kernel, by decide +kernel⟩
theorem sc_p_reduced : FnScope ["tie", "terms", "bound", "under", "name", "rate", "shared", "scale"] ["tie"] (defScope s_p_reduced) := ⟨rfl, rfl, rfl, by decide +kernel, rfl, by decide +kernel, by decide +kernel⟩
theorem sc_p_is_kept : FnScope ["tie", "values", "terms", "bound", "total", "name", "rate"] ["tie", "values"] (defScope s_p_is_kept) := ⟨rfl, rfl, rfl, by decide +kernel, rfl, by decide +kernel, by decide +kernel⟩
theorem sc_p_term_text : FnScope ["name", "rate"] ["name", "rate"] (defScope s_p_term_text) := ⟨rfl, rfl, rfl, by decide +kernel, rfl, by decide +kernel, by decide +kernel⟩
theorem sc_p_terms_text : FnScope ["terms", "text", "name", "rate"] ["terms"] (defScope s_p_terms_text) := ⟨rfl, rfl, rfl, by decide +kernel, rfl, by decide +kernel, by decide +kernel⟩
theorem sc_p_tie_text : FnScope ["tie", "terms", "bound"] ["tie"] (defScope s_p_tie_text) := ⟨rfl, rfl, rfl, by decide +kernel, rfl, by decide +kernel, by decide +kernel⟩
theorem sc_feed : FnScope ["_law_script", "_law_cell", "_law_cells", "_law_mark"] ["_law_script"] (defScope s_feed) := ⟨rfl, rfl, rfl, by decide +kernel, rfl, by decide +kernel, by decide +kernel⟩
theorem sc_draw : FnScope ["_law_feed_here", "_law_many", "_law_cell", "_law_one", "_law_two", "_law_drawn"] ["_law_feed_here", "_law_many"] (defScope s_draw) := ⟨rfl, rfl, rfl, by decide +kernel, rfl, by decide +kernel, by decide +kernel⟩
theorem sc_any : FnScope ["_law_feed_here", "_law_row"] ["_law_feed_here", "_law_row"] (defScope s_any) := ⟨rfl, rfl, rfl, by decide +kernel, rfl, by decide +kernel, by decide +kernel⟩
theorem sc_same : FnScope ["_law_found", "_law_due", "_law_key", "_law_one", "_law_two"] ["_law_found", "_law_due"] (defScope s_same) := ⟨rfl, rfl, rfl, by decide +kernel, rfl, by decide +kernel, by decide +kernel⟩
theorem sc_gcd : FnScope ["_law_one", "_law_two"] ["_law_one", "_law_two"] (defScope s_gcd) := ⟨rfl, rfl, rfl, by decide +kernel, rfl, by decide +kernel, by decide +kernel⟩
theorem sc_low : FnScope ["_law_upper", "_law_lower", "_law_part_here"] ["_law_upper", "_law_lower"] (defScope s_low) := ⟨rfl, rfl, rfl, by decide +kernel, rfl, by decide +kernel, by decide +kernel⟩
theorem sc_plus : FnScope ["_law_one", "_law_two"] ["_law_one", "_law_two"] (defScope s_plus) := ⟨rfl, rfl, rfl, by decide +kernel, rfl, by decide +kernel, by decide +kernel⟩
theorem sc_by : FnScope ["_law_one", "_law_two"] ["_law_one", "_law_two"] (defScope s_by) := ⟨rfl, rfl, rfl, by decide +kernel, rfl, by decide +kernel, by decide +kernel⟩
theorem sc_under : FnScope ["_law_one", "_law_two"] ["_law_one", "_law_two"] (defScope s_under) := ⟨rfl, rfl, rfl, by decide +kernel, rfl, by decide +kernel, by decide +kernel⟩
theorem sc_part : FnScope ["_law_feed_here", "_law_size", "_law_upper"] ["_law_feed_here", "_law_size"] (defScope s_part) := ⟨rfl, rfl, rfl, by decide +kernel, rfl, by decide +kernel, by decide +kernel⟩
theorem sc_rate : FnScope ["_law_feed_here"] ["_law_feed_here"] (defScope s_rate) := ⟨rfl, rfl, rfl, by decide +kernel, rfl, by decide +kernel, by decide +kernel⟩
theorem sc_words : FnScope ["_law_feed_here", "_law_many", "_law_letters", "_law_stem", "_law_spot", "_law_first", "_law_way", "_law_found", "_law_k"] ["_law_feed_here", "_law_many"] (defScope s_words) := ⟨rfl, rfl, rfl, by decide +kernel, rfl, by decide +kernel, by decide +kernel⟩
theorem sc_total : FnScope ["_law_terms_here", "_law_values", "_law_found", "_law_name", "_law_rate_here"] ["_law_terms_here", "_law_values"] (defScope s_total) := ⟨rfl, rfl, rfl, by decide +kernel, rfl, by decide +kernel, by decide +kernel⟩
theorem sc_keeps : FnScope ["_law_tie", "_law_values"] ["_law_tie", "_law_values"] (defScope s_keeps) := ⟨rfl, rfl, rfl, by decide +kernel, rfl, by decide +kernel, by decide +kernel⟩
theorem sc_point : FnScope ["_law_feed_here", "_law_words_here", "_law_name"] ["_law_feed_here", "_law_words_here"] (defScope s_point) := ⟨rfl, rfl, rfl, by decide +kernel, rfl, by decide +kernel, by decide +kernel⟩
theorem sc_terms : FnScope ["_law_feed_here", "_law_words_here", "_law_pairs", "_law_one", "_law_chosen", "_law_name"] ["_law_feed_here", "_law_words_here", "_law_pairs"] (defScope s_terms) := ⟨rfl, rfl, rfl, by decide +kernel, rfl, by decide +kernel, by decide +kernel⟩
theorem sc_brief : FnScope ["_law_tie", "_law_whole", "_law_part_here", "_law_name", "_law_rate_here", "_law_scale"] ["_law_tie"] (defScope s_brief) := ⟨rfl, rfl, rfl, by decide +kernel, rfl, by decide +kernel, by decide +kernel⟩
theorem sc_part_text : FnScope ["_law_one"] ["_law_one"] (defScope s_part_text) := ⟨rfl, rfl, rfl, by decide +kernel, rfl, by decide +kernel, by decide +kernel⟩
theorem sc_sum_text : FnScope ["_law_terms_here", "_law_text", "_law_name", "_law_rate_here", "_law_size", "_law_word", "_law_lead"] ["_law_terms_here"] (defScope s_sum_text) := ⟨rfl, rfl, rfl, by decide +kernel, rfl, by decide +kernel, by decide +kernel⟩
theorem sc_tie_text : FnScope ["_law_tie", "_law_terms_here", "_law_bound"] ["_law_tie"] (defScope s_tie_text) := ⟨rfl, rfl, rfl, by decide +kernel, rfl, by decide +kernel, by decide +kernel⟩
theorem sc_p_law : FnScope ["_law_script", "_law_feed_here", "_law_turn", "_law_words_here", "_law_tie", "_law_share", "_law_wide", "_law_due", "_law_text", "_law_again", "_law_values", "_law_handed", "_law_edge", "_law_found", "_law_beyond", "_law_name", "_law_rate_here"] ["_law_script"] (defScope s_p_law) := ⟨rfl, rfl, rfl, by decide +kernel, rfl, by decide +kernel, by decide +kernel⟩
structure Txt (K : PySem.W.Frag) (mg : Str → Option Value) (fa : Nat → Addr) (fd : Nat → FuncData) : Prop where
  F_p_shortened : Fun K "shortened" "shortened" s_p_shortened (fa 8) (fd 8)
  g_p_shortened : mg "shortened" = some (.ref (fa 8))
  b_p_shortened : Binds K (fd 8) ["one", "other"] []
  F_p_common_divisor : Fun K "common_divisor" "common_divisor" s_p_common_divisor (fa 9) (fd 9)
  g_p_common_divisor : mg "common_divisor" = some (.ref (fa 9))
  b_p_common_divisor : Binds K (fd 9) ["one", "other"] []
  F_p_ratio : FunD K "ratio" "ratio" (defArgs s_p_ratio) (defBody s_p_ratio) (defScope s_p_ratio) [V.int 1] [] (fa 10) (fd 10)
  g_p_ratio : mg "ratio" = some (.ref (fa 10))
  b_p_ratio : Binds K (fd 10) ["top", "under"] []
  d_p_ratio : ∃ ds, Vals [V.int 1] ds ∧ Binds K (fd 10) ["top", "under"] ds
  F_p_add : Fun K "add" "add" s_p_add (fa 11) (fd 11)
  g_p_add : mg "add" = some (.ref (fa 11))
  b_p_add : Binds K (fd 11) ["one", "other"] []
  F_p_multiply : Fun K "multiply" "multiply" s_p_multiply (fa 12) (fd 12)
  g_p_multiply : mg "multiply" = some (.ref (fa 12))
  b_p_multiply : Binds K (fd 12) ["one", "other"] []
  F_p_is_less : Fun K "is_less" "is_less" s_p_is_less (fa 13) (fd 13)
  g_p_is_less : mg "is_less" = some (.ref (fa 13))
  b_p_is_less : Binds K (fd 13) ["one", "other"] []
  F_p_number_text : Fun K "number_text" "number_text" s_p_number_text (fa 14) (fd 14)
  g_p_number_text : mg "number_text" = some (.ref (fa 14))
  b_p_number_text : Binds K (fd 14) ["number"] []
  F_p_ratio_text : Fun K "ratio_text" "ratio_text" s_p_ratio_text (fa 15) (fd 15)
  g_p_ratio_text : mg "ratio_text" = some (.ref (fa 15))
  b_p_ratio_text : Binds K (fd 15) ["one"] []
  F_p_reduced : Fun K "reduced" "reduced" s_p_reduced (fa 17) (fd 17)
  g_p_reduced : mg "reduced" = some (.ref (fa 17))
  b_p_reduced : Binds K (fd 17) ["tie"] []
  F_p_is_kept : Fun K "is_kept" "is_kept" s_p_is_kept (fa 18) (fd 18)
  g_p_is_kept : mg "is_kept" = some (.ref (fa 18))
  b_p_is_kept : Binds K (fd 18) ["tie", "values"] []
  F_p_term_text : Fun K "term_text" "term_text" s_p_term_text (fa 19) (fd 19)
  g_p_term_text : mg "term_text" = some (.ref (fa 19))
  b_p_term_text : Binds K (fd 19) ["name", "rate"] []
  F_p_terms_text : Fun K "terms_text" "terms_text" s_p_terms_text (fa 20) (fd 20)
  g_p_terms_text : mg "terms_text" = some (.ref (fa 20))
  b_p_terms_text : Binds K (fd 20) ["terms"] []
  F_p_tie_text : Fun K "tie_text" "tie_text" s_p_tie_text (fa 21) (fd 21)
  g_p_tie_text : mg "tie_text" = some (.ref (fa 21))
  b_p_tie_text : Binds K (fd 21) ["tie"] []
  F_feed : Fun K "_law_feed" "_law_feed" s_feed (fa 23) (fd 23)
  g_feed : mg "_law_feed" = some (.ref (fa 23))
  b_feed : Binds K (fd 23) ["_law_script"] []
  F_draw : Fun K "_law_draw" "_law_draw" s_draw (fa 24) (fd 24)
  g_draw : mg "_law_draw" = some (.ref (fa 24))
  b_draw : Binds K (fd 24) ["_law_feed_here", "_law_many"] []
  F_any : Fun K "_law_any" "_law_any" s_any (fa 25) (fd 25)
  g_any : mg "_law_any" = some (.ref (fa 25))
  b_any : Binds K (fd 25) ["_law_feed_here", "_law_row"] []
  F_same : Fun K "_law_same" "_law_same" s_same (fa 26) (fd 26)
  g_same : mg "_law_same" = some (.ref (fa 26))
  b_same : Binds K (fd 26) ["_law_found", "_law_due"] []
  F_gcd : Fun K "_law_gcd" "_law_gcd" s_gcd (fa 27) (fd 27)
  g_gcd : mg "_law_gcd" = some (.ref (fa 27))
  b_gcd : Binds K (fd 27) ["_law_one", "_law_two"] []
  F_low : Fun K "_law_low" "_law_low" s_low (fa 28) (fd 28)
  g_low : mg "_law_low" = some (.ref (fa 28))
  b_low : Binds K (fd 28) ["_law_upper", "_law_lower"] []
  F_plus : Fun K "_law_plus" "_law_plus" s_plus (fa 29) (fd 29)
  g_plus : mg "_law_plus" = some (.ref (fa 29))
  b_plus : Binds K (fd 29) ["_law_one", "_law_two"] []
  F_by : Fun K "_law_by" "_law_by" s_by (fa 30) (fd 30)
  g_by : mg "_law_by" = some (.ref (fa 30))
  b_by : Binds K (fd 30) ["_law_one", "_law_two"] []
  F_under : Fun K "_law_under" "_law_under" s_under (fa 31) (fd 31)
  g_under : mg "_law_under" = some (.ref (fa 31))
  b_under : Binds K (fd 31) ["_law_one", "_law_two"] []
  F_part : Fun K "_law_part" "_law_part" s_part (fa 32) (fd 32)
  g_part : mg "_law_part" = some (.ref (fa 32))
  b_part : Binds K (fd 32) ["_law_feed_here", "_law_size"] []
  F_rate : Fun K "_law_rate" "_law_rate" s_rate (fa 33) (fd 33)
  g_rate : mg "_law_rate" = some (.ref (fa 33))
  b_rate : Binds K (fd 33) ["_law_feed_here"] []
  F_words : Fun K "_law_words" "_law_words" s_words (fa 34) (fd 34)
  g_words : mg "_law_words" = some (.ref (fa 34))
  b_words : Binds K (fd 34) ["_law_feed_here", "_law_many"] []
  F_total : Fun K "_law_total" "_law_total" s_total (fa 35) (fd 35)
  g_total : mg "_law_total" = some (.ref (fa 35))
  b_total : Binds K (fd 35) ["_law_terms_here", "_law_values"] []
  F_keeps : Fun K "_law_keeps" "_law_keeps" s_keeps (fa 36) (fd 36)
  g_keeps : mg "_law_keeps" = some (.ref (fa 36))
  b_keeps : Binds K (fd 36) ["_law_tie", "_law_values"] []
  F_point : Fun K "_law_point" "_law_point" s_point (fa 37) (fd 37)
  g_point : mg "_law_point" = some (.ref (fa 37))
  b_point : Binds K (fd 37) ["_law_feed_here", "_law_words_here"] []
  F_terms : Fun K "_law_terms" "_law_terms" s_terms (fa 38) (fd 38)
  g_terms : mg "_law_terms" = some (.ref (fa 38))
  b_terms : Binds K (fd 38) ["_law_feed_here", "_law_words_here", "_law_pairs"] []
  F_brief : Fun K "_law_brief" "_law_brief" s_brief (fa 39) (fd 39)
  g_brief : mg "_law_brief" = some (.ref (fa 39))
  b_brief : Binds K (fd 39) ["_law_tie"] []
  F_part_text : Fun K "_law_part_text" "_law_part_text" s_part_text (fa 40) (fd 40)
  g_part_text : mg "_law_part_text" = some (.ref (fa 40))
  b_part_text : Binds K (fd 40) ["_law_one"] []
  F_sum_text : Fun K "_law_sum_text" "_law_sum_text" s_sum_text (fa 41) (fd 41)
  g_sum_text : mg "_law_sum_text" = some (.ref (fa 41))
  b_sum_text : Binds K (fd 41) ["_law_terms_here"] []
  F_tie_text : Fun K "_law_tie_text" "_law_tie_text" s_tie_text (fa 42) (fd 42)
  g_tie_text : mg "_law_tie_text" = some (.ref (fa 42))
  b_tie_text : Binds K (fd 42) ["_law_tie"] []
  F_p_law : Fun K "law" "law" s_p_law (fa 43) (fd 43)
  g_p_law : mg "law" = some (.ref (fa 43))
  b_p_law : Binds K (fd 43) ["_law_script"] []
  c_LONG : ∃ u, mg "LONG" = some u ∧ RelV (.int 4096) u
  c_ZERO : ∃ u, mg "ZERO" = some u ∧ RelV (.ref (fa 2000)) u
  z_ZERO : ∀ H : Hp, SqT K H ((fa 2000)) [V.int 0, V.int 1]
  m_int : mg "int" = none
  m_len : mg "len" = none
  m_abs : mg "abs" = none
  m_range : mg "range" = none
  m_zip : mg "zip" = none
  m_all : mg "all" = none
  m_isinstance : mg "isinstance" = none
  m_bool : mg "bool" = none
  m_str : mg "str" = none
  m_tuple : mg "tuple" = none
  m_list : mg "list" = none
  m_dict : mg "dict" = none
  m_sorted : mg "sorted" = none
  m_set : mg "set" = none
/-! ### the law's own words: drawing -/
def FeedOk (H : Hp) (a c : Addr) : Prop := ∃ (ns : List Int) (k big mark : Int), H a = some (.lst [.ref c, .int k, .int big, .int mark]) ∧ H c = some (.lst (ns.map V.int)) ∧ c ≠ a ∧ ns.length ≤ 63 ∧ 0 ≤ k
def But (a : Addr) (H H' : Hp) : Prop := ∀ b o, b ≠ a → H b = some o → H' b = some o
theorem But.refl (a : Addr) (H : Hp) : But a H H := fun _ _ _ h => h
theorem But.trans {a : Addr} {H H1 H2 : Hp} (p : But a H H1) (q : But a H1 H2) : But a H H2 := fun b o n h => q b o n (p b o n h)
theorem But.upd {a : Addr} {H : Hp} {o : HO} : But a H (upd H a o) := fun b _ n h => by rw [upd_ne n]; exact h
theorem But.of {a : Addr} {H H' : Hp} (s : Same H H') : But a H H' := fun b o _ h => s b o h
theorem same_upd {H : Hp} {p : Addr} {o : HO} (h : H p = none) : Same H (upd H p o) := fun b x e => by
  rw [upd_ne (ne_of_none e h)]
  exact e
theorem FeedOk.new {H : Hp} {a c p : Addr} {o : HO} (h : FeedOk H a c) (n : H p = none) : FeedOk (upd H p o) a c := by
  obtain ⟨ns, k, big, mark, h1, h2, h3⟩ := h
  exact ⟨ns, k, big, mark, same_upd n _ _ h1, same_upd n _ _ h2, h3⟩
theorem FeedOk.same {H H' : Hp} {a c : Addr} (h : FeedOk H a c) (s : Same H H') : FeedOk H' a c := by
  obtain ⟨ns, k, big, mark, h1, h2, h3⟩ := h
  exact ⟨ns, k, big, mark, s _ _ h1, s _ _ h2, h3⟩
def Mid (m : Int) : Prop := 0 < m ∧ m.natAbs.log2 < 9000
def spDraw : Sp := fun vs H Q _ => ∃ (a c : Addr) (m : Int), vs = [.ref a, .int m] ∧ FeedOk H a c ∧ Mid m ∧ ∀ r H', 0 ≤ r → r < m → FeedOk H' a c → But a H H' → Q (.int r) H'
section
variable {P : Program} {w : World} {K : PySem.W.Frag} {mg : Str → Option Value} {base : Heap} {fa : Nat → Addr} {fd : Nat → FuncData}
theorem ok_draw (T : Txt K mg fa fd) : FnOk P w K mg base CX0 1 (fa 24) (fd 24) ["_law_feed_here", "_law_many"] spDraw := by
  refine T.F_draw.ok sc_draw (fun vs H Q E h => ?_) (fun cdv A outer s H vs Q E hr h => ?_)
  · obtain ⟨a, c, m, rfl, _⟩ := h
    rfl
  · obtain ⟨a, c, m, rfl, ⟨ns, k, big, mark, ha, hc, nca, hlen, hk⟩, ⟨hm, hm9⟩, q⟩ := h
    refine ⟨_, (C8.pss_cut (ps_if (pt_cmpR op_lt (pe_ix ix_list (pv 0) pe_int (fun _ _ => rfl)) pe_int (nomark _)) (C8.pss_cut (ps_asg (pe_op op_add (pe_ix ix_list (pv 0) pe_int (fun _ _ => rfl)) pe_int) (pg_sub (pv 0) pe_int set_list))
      (pss_cons (ps_set (i := 2) sc_draw.nd rfl (.inl rfl) (pe_op op_add (pe_ix ix_list (pv 0) pe_int (fun _ _ => rfl)) (pe_op op_mul (pe_ix ix_list (pv 0) pe_int (fun _ _ => rfl)) pe_int)))
      (C8.pss_cut (ps_if (pt_cmpR op_le (pe_ix ix_list (pv 0) pe_int (fun _ _ => rfl)) (pe_callB call_len_seq (by rfl) T.m_len PySem.boot_len (pa_cons (pe_ix ix_list (pv 0) pe_int (fun _ _ => rfl)) pa_nil)) (nomark _)) (pss_one (ps_set (i := 2) sc_draw.nd rfl (.inl rfl) (pe_ix ix_list (pe_ix ix_list (pv 0) pe_int (fun _ _ => rfl)) (pe_op op_sub (pe_ix ix_list (pv 0) pe_int (fun _ _ => rfl)) pe_int) (fun _ _ => rfl)))) pss_nil)
      (pss_cons (ps_if (PW.pt (pw_or (pt_cmpR op_gt (pe_ix ix_list (pv 0) pe_int (fun _ _ => rfl)) (pe_callB call_len_seq (by rfl) T.m_len PySem.boot_len (pa_cons (pe_ix ix_list (pv 0) pe_int (fun _ _ => rfl)) pa_nil)) (nomark _)) (pw_or1 (pt_cmpR op_lt (pv 2) (pe_op op_pow pe_int pe_int) (nomark _))))) (pss_cons (ps_set (i := 3) sc_draw.nd rfl (.inl rfl) (pe_op op_mod (pe_callTy call_int1 (by rfl) T.m_int PySem.Pv.boot_int (pa_cons (pe_op op_add (pe_op op_add (pe_op op_mul (pv 2) pe_int) (pe_op op_mul (pe_ix ix_list (pv 0) pe_int (fun _ _ => rfl)) pe_int)) (pe_ix ix_list (pv 0) pe_int (fun _ _ => rfl))) pa_nil)) pe_int))
      (pss_cons (ps_set (i := 4) sc_draw.nd rfl (.inl rfl) (pe_op op_mod (pe_callTy call_int1 (by rfl) T.m_int PySem.Pv.boot_int (pa_cons (pe_op op_add (pe_op op_mul (pv 3) (pv 3)) (pe_op op_mul (pe_ix ix_list (pv 0) pe_int (fun _ _ => rfl)) pe_int)) pa_nil)) pe_int))
      (pss_one (ps_ret (pe_op op_mod (pe_op op_fdiv (pe_op op_mod (pe_callTy call_int1 (by rfl) T.m_int PySem.Pv.boot_int (pa_cons (pe_op op_add (pe_op op_mul (pv 4) pe_int) (pv 3)) pa_nil)) pe_int) pe_int) (pv 1)))))) pss_nil)
      (pss_one (ps_asg (pv 2) (pg_sub (pv 0) pe_int set_list))))))) pss_nil)
      (pss_cons (ps_set (i := 5) sc_draw.nd rfl (.inl rfl) (pe_op op_mod (pe_callTy call_int1 (by rfl) T.m_int PySem.Pv.boot_int (pa_cons (pe_ix ix_list (pv 0) pe_int (fun _ _ => rfl)) pa_nil)) (pv 1)))
      (pss_cons (ps_asg (pe_op op_fdivW (pe_callTy call_int1 (by rfl) T.m_int PySem.Pv.boot_int (pa_cons (pe_ix ix_list (pv 0) pe_int (fun _ _ => rfl)) pa_nil)) (pv 1)) (pg_sub (pv 0) pe_int set_list))
      (pss_one (ps_ret (pv 5)))))), ?_⟩
    have i0 : ∀ (x y z u : V), atI [x, y, z, u] 0 = some x := fun _ _ _ _ => rfl
    have i1 : ∀ (x y z u : V), atI [x, y, z, u] 1 = some y := fun _ _ _ _ => rfl
    have i2 : ∀ (x y z u : V), atI [x, y, z, u] 2 = some z := fun _ _ _ _ => rfl
    have i3 : ∀ (x y z u : V), atI [x, y, z, u] 3 = some u := fun _ _ _ _ => rfl
    refine ⟨fun σ H1 => FeedOk H1 a c ∧ But a H H1 ∧ ∃ y2 y3 y4 y5, σ = [some (.ref a), some (.int m), y2, y3, y4, y5], ?_, fun σ H1 hM => ?_⟩
    · refine ⟨.ref a, rfl, a, _, _, _, rfl, rfl, SqL.of ha, i2 _ _ _ _, _, _, rfl, rfl, _, rfl, ite2 (fun e => ?_) (fun e => ?_)⟩
      · -- feed[1] = feed[1] + 1
        refine ⟨fun σ H1 => σ = [some (.ref a), some (.int m), none, none, none, none] ∧ H1 a = some (.lst [.ref c, .int (k + 1), .int big, .int mark]) ∧ H1 c = some (.lst (ns.map V.int)) ∧ But a H H1,
          ⟨.ref a, rfl, a, _, _, _, rfl, rfl, SqL.of ha, i1 _ _ _ _, _, _, rfl, rfl, .ref a, rfl, a, _, _, 1, rfl, rfl, ha, rfl, rfl, upd_same, by rw [upd_ne nca]; exact hc, But.upd⟩, fun σ H1 hM => ?_⟩
        obtain ⟨rfl, ha1, hc1, b1⟩ := hM
        refine ⟨.ref a, rfl, a, _, _, _, rfl, rfl, SqL.of ha1, i3 _ _ _ _, .ref a, rfl, a, _, _, _, rfl, rfl, SqL.of ha1, i1 _ _ _ _, _, _, rfl, rfl, .inr (by decide), _, _, rfl, rfl, ?_⟩
        refine ⟨fun σ H2 => H2 = H1 ∧ ∃ z : Int, σ = [some (.ref a), some (.int m), some (.int z), none, none, none], ?_, fun σ H2 hM => ?_⟩
        · refine ⟨.ref a, rfl, a, _, _, _, rfl, rfl, SqL.of ha1, i1 _ _ _ _, .ref a, rfl, a, _, _, _, rfl, rfl, SqL.of ha1, i0 _ _ _ _, c, _, rfl, .inl (SqL.of hc1), _, _, rfl, rfl, _, rfl, ite2 (fun e1 => ?_) (fun e1 => ?_)⟩
          · have h1 : k + 1 ≤ ((ns.map V.int).length : Int) := of_decide_eq_true e1
            rw [List.length_map] at h1
            have h2 : k.toNat < ns.length := by omega
            have g : (ns.map V.int)[k.toNat]? = some (.int ns[k.toNat]) := by rw [List.getElem?_map, List.getElem?_eq_getElem h2]; rfl
            exact ⟨.ref a, rfl, a, _, _, _, rfl, rfl, SqL.of ha1, i0 _ _ _ _, .ref a, rfl, a, _, _, _, rfl, rfl, SqL.of ha1, i1 _ _ _ _, _, _, rfl, rfl, c, _, _, _, rfl, rfl, SqL.of hc1, at_of (j := k.toNat) (by omega) g, rfl, _, rfl⟩
          · exact ⟨rfl, _, rfl⟩
        · obtain ⟨rfl, z, rfl⟩ := hM
          have tail : FeedOk (upd H2 a (.lst ([V.ref c, .int (k + 1), .int big, .int mark].set 2 (.int z)))) a c ∧ But a H (upd H2 a (.lst ([V.ref c, .int (k + 1), .int big, .int mark].set 2 (.int z)))) ∧ ∃ y2 y3 y4 y5, [some (V.ref a), some (.int m), some (.int z), none, none, none] = [some (V.ref a), some (.int m), y2, y3, y4, y5] :=
            ⟨⟨ns, k + 1, z, mark, upd_same, by rw [upd_ne nca]; exact hc1, nca, hlen, by omega⟩, b1.trans But.upd, _, _, _, _, rfl⟩
          have pos : ∀ x y : Int, 0 ≤ x % 2147483647 ∧ x % 2147483647 < 2147483647 := fun x _ => ⟨Int.emod_nonneg _ (by decide), Int.emod_lt_of_pos _ (by decide)⟩
          have done : ∀ x : Int, Q (.int (x % m)) H2 := fun x => q _ _ (Int.emod_nonneg _ (by omega)) (Int.emod_lt_of_pos _ hm) ⟨ns, k + 1, big, mark, ha1, hc1, nca, hlen, by omega⟩ b1
          refine ⟨.ref a, rfl, a, _, _, _, rfl, rfl, SqL.of ha1, i1 _ _ _ _, .ref a, rfl, a, _, _, _, rfl, rfl, SqL.of ha1, i0 _ _ _ _, c, _, rfl, .inl (SqL.of hc1), _, _, rfl, rfl, _, rfl, ite2 (fun e1 => ?_) (fun e1 => ?_)⟩
          · exact ⟨_, rfl, _, _, rfl, rfl, .inr (by decide), _, rfl, a, _, _, _, rfl, rfl, SqL.of ha1, i1 _ _ _ _, _, _, rfl, rfl, .inr (by decide), _, _, rfl, rfl, _, rfl, a, _, _, _, rfl, rfl, SqL.of ha1, i3 _ _ _ _, _, _, rfl, rfl, .inl ⟨_, rfl, _, _, rfl, rfl, (by show (0 : Int) < _; decide), _, rfl, _, rfl, _, _, rfl, rfl, .inl (by have p := pos (z * 48271 + (k + 1) * 69621 + mark) 0; exact ⟨by omega, by omega⟩), _, rfl, a, _, _, _, rfl, rfl, SqL.of ha1, i1 _ _ _ _, _, _, rfl, rfl, .inr (by decide), _, _, rfl, rfl, .inl ⟨_, rfl, _, _, rfl, rfl, (by show (0 : Int) < _; decide), _, rfl, _, _, rfl, rfl, .inr (by decide), _, rfl, _, _, rfl, rfl, .inl ⟨_, rfl, _, _, rfl, rfl, (by show (0 : Int) < _; decide), _, _, rfl, rfl, ⟨by decide, by decide⟩, _, rfl, _, _, rfl, rfl, hm, done _⟩⟩⟩⟩
          · refine ⟨_, rfl, _, _, rfl, rfl, ⟨by decide, by decide, by decide⟩, _, _, rfl, rfl, _, rfl, ite2 (fun e2 => ?_) (fun e2 => ?_)⟩
            · exact ⟨_, rfl, _, _, rfl, rfl, .inr (by decide), _, rfl, a, _, _, _, rfl, rfl, SqL.of ha1, i1 _ _ _ _, _, _, rfl, rfl, .inr (by decide), _, _, rfl, rfl, _, rfl, a, _, _, _, rfl, rfl, SqL.of ha1, i3 _ _ _ _, _, _, rfl, rfl, .inl ⟨_, rfl, _, _, rfl, rfl, (by show (0 : Int) < _; decide), _, rfl, _, rfl, _, _, rfl, rfl, .inl (by have p := pos (z * 48271 + (k + 1) * 69621 + mark) 0; exact ⟨by omega, by omega⟩), _, rfl, a, _, _, _, rfl, rfl, SqL.of ha1, i1 _ _ _ _, _, _, rfl, rfl, .inr (by decide), _, _, rfl, rfl, .inl ⟨_, rfl, _, _, rfl, rfl, (by show (0 : Int) < _; decide), _, rfl, _, _, rfl, rfl, .inr (by decide), _, rfl, _, _, rfl, rfl, .inl ⟨_, rfl, _, _, rfl, rfl, (by show (0 : Int) < _; decide), _, _, rfl, rfl, ⟨by decide, by decide⟩, _, rfl, _, _, rfl, rfl, hm, done _⟩⟩⟩⟩
            · exact ⟨_, rfl, .ref a, rfl, a, _, _, 2, rfl, rfl, ha1, rfl, tail⟩
      · exact ⟨⟨ns, k, big, mark, ha, hc, nca, hlen, hk⟩, But.refl _ _, none, none, none, none, rfl⟩
    · obtain ⟨⟨ns1, k1, big1, mark1, ha1, hc1, nca1, hlen1, hk1⟩, b1, y2, y3, y4, y5, rfl⟩ := hM
      refine ⟨.ref a, rfl, a, _, _, _, rfl, rfl, SqL.of ha1, i2 _ _ _ _, .inl ⟨_, rfl, _, rfl, _, _, rfl, rfl, hm, ?_⟩⟩
      refine ⟨.ref a, rfl, a, _, _, _, rfl, rfl, SqL.of ha1, i2 _ _ _ _, .inl ⟨_, rfl, _, rfl, _, _, rfl, rfl, ⟨hm, hm9⟩, ?_⟩⟩
      refine ⟨.ref a, rfl, a, _, _, 2, rfl, rfl, ha1, rfl, ?_⟩
      refine ⟨_, rfl, q _ _ (Int.emod_nonneg _ (by omega)) (Int.emod_lt_of_pos _ hm) ⟨ns1, k1, big1 / m, mark1, upd_same, ?_, nca1, hlen1, hk1⟩ (b1.trans But.upd)⟩
      rw [upd_ne nca1]
      exact hc1
theorem cut63 (xs : List V) (h : xs.length ≤ 63) : cutV xs none (some 63) = xs := by
  unfold cutV
  rw [show HT.sIx xs.length xs.length (some 63) = min 63 xs.length from HT.sIx_nat xs.length xs.length 63, HT.sIx_none]
  rw [Nat.min_eq_right h]
  exact List.take_length
def spFeed (K : PySem.W.Frag) : Sp := fun vs H Q _ => ∃ (a : Addr) (ns : List Int), vs = [.ref a] ∧ SqL K H a (ns.map V.int) ∧ ns.length ≤ 63 ∧ ∀ p c H', H p = none → H c = none → Same H H' → FeedOk H' p c → Q (.ref p) H'
theorem ok_feed (T : Txt K mg fa fd) : FnOk P w K mg base CX0 1 (fa 23) (fd 23) ["_law_script"] (spFeed K) := by
  refine T.F_feed.ok sc_feed (fun vs H Q E h => ?_) (fun cdv A outer s H vs Q E hr h => ?_)
  · obtain ⟨a, ns, rfl, _⟩ := h
    rfl
  · obtain ⟨a, ns, rfl, hS, hlen, q⟩ := h
    refine ⟨_, (C8.pss_cut (ps_setLc (i := 2) (own := [("_law_cell", 1)]) (g := gName 1) (tt := tYes) rfl sc_feed.nd rfl rfl (sw_true rfl rfl rfl (by decide +kernel)) (pi_list (pe_slice sl_list (pv 0) po_none (po_some pe_int))) (blkOk_by (own := [("_law_cell", 1)]) (N := ["_law_script", "_law_cell", "_law_cells", "_law_mark"]) (sc := defScope s_feed) (by decide +kernel)) (fun _ _ _ _ _ => pg_name (i := 1) sc_feed.nd rfl (Or.inl rfl)) (fun _ _ _ _ _ => pts_nil) (fun _ _ _ _ _ => (pe_callTy call_int1 (by rfl) T.m_int PySem.Pv.boot_int (pa_cons (pv 1) pa_nil))))
      (pss_cons (ps_set (i := 3) sc_feed.nd rfl (.inl rfl) (pe_op op_add pe_int (pe_op op_mul pe_int (pe_callB call_len_seq (by rfl) T.m_len PySem.boot_len (pa_cons (pv 2) pa_nil)))))
      (pss_cons (ps_for PassesOwn.never rfl (pi_list (pv 2)) (pg_name (i := 1) sc_feed.nd rfl (.inl rfl)) (pss_one (ps_set (i := 3) sc_feed.nd rfl (.inl rfl) (pe_op op_mod (pe_callTy call_int1 (by rfl) T.m_int PySem.Pv.boot_int (pa_cons (pe_op op_add (pe_op op_mul (pv 3) pe_int) (pv 1)) pa_nil)) pe_int))))
      (pss_one (ps_ret (pe_lst (pa_cons (pv 2) (pa_cons pe_int (pa_cons pe_int (pa_cons (pv 3) pa_nil)))))))))), ?_⟩
    refine ⟨fun σ H1 => ∃ c, σ = [some (.ref a), none, some (.ref c), none] ∧ H c = none ∧ Same H H1 ∧ H1 c = some (.lst (ns.map V.int)), ?_, fun σ H1 hM => ?_⟩
    · refine ⟨.ref a, rfl, 63, rfl, a, _, rfl, hS, fun p np => ?_⟩
      rw [cut63 _ (by rw [List.length_map]; exact hlen)]
      have s1 : Same H (upd H p (.lst (ns.map V.int))) := same_upd np
      refine ⟨p, rfl, ⟨_, SqL.of upd_same⟩, fun D nD => ?_⟩
      have nD0 : H D = none := s1.free nD
      have npD : p ≠ D := ne_of_none upd_same nD
      refine lc_list (K := K) (a := p) (xs := ns.map V.int) (fun i H2 => Same (upd H p (.lst (ns.map V.int))) H2 ∧ H2 D = some (.lst ((ns.take i).map V.int))) ⟨same_upd nD, upd_same⟩ (fun i H2 _ hp => SqL.of (hp.1 _ _ upd_same)) (fun i x H2 hx hp => ?_) (fun H2 hp => ?_)
      · rw [List.getElem?_map] at hx
        obtain ⟨z, hz, rfl⟩ := Option.map_eq_some_iff.mp hx
        refine ⟨rfl, _, rfl, .inl ⟨_, rfl, _, hp.2, ?_, ?_, ?_⟩⟩
        · rw [List.length_map, List.length_take]
          exact Nat.lt_of_le_of_lt (Nat.min_le_left _ _) (small1000 (by
            have := (List.getElem?_eq_some_iff.mp hz).1
            omega))
        · exact fun b o e => by
            rw [upd_ne (ne_of_none e nD)]
            exact hp.1 b o e
        · rw [upd_same, List.take_add_one, hz, List.map_append]
          rfl
      · rw [List.length_map] at hp
        refine ⟨D, rfl, nD0, s1.trans hp.1, ?_⟩
        rw [hp.2, List.take_length]
    · obtain ⟨c, rfl, nc, s1, hc⟩ := hM
      refine ⟨_, rfl, c, _, rfl, .inl (SqL.of hc), _, _, rfl, rfl, .inl (by decide), _, _, rfl, rfl, ?_⟩
      refine ⟨_, rfl, c, rfl, ⟨_, SqL.of hc⟩, for_list (K := K) (a := c) (xs := ns.map V.int) (fun i σ H2 => H2 = H1 ∧ ∃ (y1 : Option V) (m : Int), σ = [some (.ref a), y1, some (.ref c), some (.int m)] ∧ 0 ≤ m ∧ m < 1000000000000) ?_ (fun i σ H2 _ hp => by rw [hp.1]; exact SqL.of hc) (fun i x σ H2 hx hp => ?_) (fun σ H2 hp => ?_)⟩
      · refine ⟨rfl, _, _, rfl, ?_⟩
        rw [List.length_map]
        omega
      · obtain ⟨rfl, y1, m, rfl, h0, h1⟩ := hp
        rw [List.getElem?_map] at hx
        obtain ⟨z, hz, rfl⟩ := Option.map_eq_some_iff.mp hx
        exact ⟨_, rfl, _, _, rfl, rfl, .inr (by decide), _, rfl, _, _, rfl, rfl, .inl ⟨_, rfl, _, _, rfl, rfl, (by show (0 : Int) < _; decide), rfl, _, _, rfl, Int.emod_nonneg _ (by decide), Int.lt_trans (Int.emod_lt_of_pos _ (by decide)) (by decide)⟩⟩
      · obtain ⟨rfl, y1, m, rfl, h0, h1⟩ := hp
        refine ⟨_, rfl, _, rfl, Nat.le_trans (by decide : 4 ≤ 1000) (Nat.le_of_lt (small1000 (Nat.le_refl _))), fun p np => ?_⟩
        refine q p c _ (s1.free np) nc (s1.trans (same_upd np)) ⟨ns, 0, 0, m, upd_same, ?_, ne_of_none hc np, hlen, Int.le_refl _⟩
        rw [upd_ne (ne_of_none hc np)]
        exact hc
/-! ### the row's own draw -/
def spAny : Sp := fun vs H Q _ => ∃ (a c r : Addr) (xs : List V), vs = [.ref a, .ref r] ∧ FeedOk H a c ∧ H r = some (.lst xs) ∧ r ≠ a ∧ 0 < xs.length ∧ xs.length ≤ 1000 ∧ ∀ v H', v ∈ xs → FeedOk H' a c → But a H H' → Q v H'
theorem mid_small {n : Nat} (h0 : 0 < n) (h : n ≤ 1000) : Mid (n : Int) := ⟨by omega, by
  rw [Int.natAbs_natCast]
  exact Nat.lt_of_le_of_lt (Nat.log2_le_self n) (by omega)⟩
theorem ok_any (T : Txt K mg fa fd) : FnOk P w K mg base CX0 2 (fa 25) (fd 25) ["_law_feed_here", "_law_row"] spAny := by
  refine T.F_any.ok sc_any (fun vs H Q E h => ?_) (fun cdv A outer s H vs Q E hr h => ?_)
  · obtain ⟨a, c, m, xs, rfl, _⟩ := h
    rfl
  · obtain ⟨a, c, r, xs, rfl, hF, hx, nra, h0, h1, q⟩ := h
    refine ⟨_, (pss_one (ps_ret (pe_ix ix_list (pv 1) (pe_call (ok_draw T) (hr.mono (by decide)) (by rfl) T.g_draw T.F_draw.kp T.b_draw .nil pass0 (pa_cons (pv 0) (pa_cons (pe_callB call_len_seq (by rfl) T.m_len PySem.boot_len (pa_cons (pv 1) pa_nil)) pa_nil))) (fun _ _ => rfl)))), ?_⟩
    refine ⟨_, rfl, _, rfl, _, rfl, r, _, rfl, .inl (SqL.of hx), a, c, _, rfl, hF, mid_small h0 h1, fun z H' z0 z1 hF' b => ?_⟩
    have hz : z.toNat < xs.length := by omega
    exact ⟨r, xs, z, xs[z.toNat], rfl, rfl, SqL.of (b _ _ nra hx), at_of (j := z.toNat) (by omega) (List.getElem?_eq_getElem hz), q _ _ (List.getElem_mem hz) hF' b⟩
/-! ### the greatest common divisor -/
def spGcd : Sp := fun vs H Q _ => ∃ x y : Int, vs = [.int x, .int y] ∧ Q (.int (Int.gcd x y : Nat)) H
theorem ok_gcd (T : Txt K mg fa fd) : FnOk P w K mg base CX0 1 (fa 27) (fd 27) ["_law_one", "_law_two"] spGcd := by
  refine T.F_gcd.ok sc_gcd (fun vs H Q E h => ?_) (fun cdv A outer s H vs Q E hr h => ?_)
  · obtain ⟨x, y, rfl, _⟩ := h
    rfl
  · obtain ⟨x, y, rfl, q⟩ := h
    refine ⟨_, (pss_cons (ps_par (i := 0) (j := 1) (by rfl) sc_gcd.nd rfl rfl (by decide) rfl rfl (pa_cons (pe_callB call_abs (by rfl) T.m_abs PyProof.Rows.boot_abs (pa_cons (pv 0) pa_nil)) (pa_cons (pe_callB call_abs (by rfl) T.m_abs PyProof.Rows.boot_abs (pa_cons (pv 1) pa_nil)) pa_nil)) (by rfl))
      (pss_cons (ps_while PassesOwn.never (pt_cmpR op_ne (pv 1) pe_int (nomark _)) (pss_one (ps_par (i := 0) (j := 1) (by rfl) sc_gcd.nd rfl rfl (by decide) rfl rfl (pa_cons (pv 1) (pa_cons (pe_op op_mod (pe_callTy call_int1 (by rfl) T.m_int PySem.Pv.boot_int (pa_cons (pv 0) pa_nil)) (pv 1)) pa_nil)) (by rfl))))
      (pss_one (ps_ret (pv 0))))), ?_⟩
    refine ⟨_, rfl, _, rfl, _, rfl, _, rfl, _, _, rfl, ?_⟩
    have ab : ∀ z : Int, (if z < 0 then -z else z) = (z.natAbs : Int) := fun z => by split <;> omega
    rw [ab, ab]
    refine ⟨fun m σ H1 => ∃ u v : Nat, m = v ∧ σ = [some (.int (u : Int)), some (.int (v : Int))] ∧ H1 = H ∧ Nat.gcd u v = Int.gcd x y, ⟨_, x.natAbs, y.natAbs, rfl, rfl, rfl, rfl⟩, fun m σ H1 hW => ?_⟩
    obtain ⟨u, v, rfl, rfl, rfl, hg⟩ := hW
    refine ⟨_, rfl, rfl, _, rfl, ?_⟩
    by_cases hv : m = 0
    · subst hv
      rw [decide_eq_true (show V.int ((0 : Nat) : Int) = V.int 0 from rfl)]
      refine ⟨_, rfl, ?_⟩
      rw [Nat.gcd_zero_right] at hg
      rw [hg]
      exact q
    · rw [decide_eq_false (fun e => hv (by have := V.int.inj e; omega))]
      refine ⟨fun σ' H' => ∃ m', m' < m ∧ ∃ u v : Nat, m' = v ∧ σ' = [some (.int (u : Int)), some (.int (v : Int))] ∧ H' = H1 ∧ Nat.gcd u v = Int.gcd x y, fun σ' H' h => h, ?_⟩
      refine ⟨_, rfl, _, rfl, .inl ⟨_, rfl, _, rfl, _, _, rfl, rfl, (by show (0 : Int) < _; omega), ?_⟩⟩
      refine ⟨_, _, rfl, u % m, Nat.mod_lt _ (by omega), m, u % m, rfl, rfl, rfl, ?_⟩
      rw [← hg, Nat.gcd_comm m, ← Nat.gcd_rec, Nat.gcd_comm]
/-! ### lowest terms -/
def CDivG (_ j : Int) : Prop := j ≠ 0 ∧ j.natAbs.log2 < 9000
theorem op_fdivG {X : Cx} : OpR X (binaryOp .FloorDiv) (rI CDivG fun i j => .int (i.fdiv j)) := opI fun _ _ _ _ _ _ _ hc q => floordiv_int hc.1 q (.inl (PyProof.noPylong_of_log2 hc.2))
def lowG (u v : Int) : Int := if v < 0 then -(Int.gcd u v : Nat) else (Int.gcd u v : Nat)
def lowT (u v : Int) : Int := u.fdiv (lowG u v)
def lowD (u v : Int) : Int := v.fdiv (lowG u v)
theorem gcd_pos {u v : Int} (h : v ≠ 0) : 0 < Int.gcd u v := Nat.pos_of_ne_zero fun e => h (Int.gcd_eq_zero_iff.mp e).2
theorem gcd_le {u v : Int} (h : v ≠ 0) : Int.gcd u v ≤ v.natAbs := Nat.le_of_dvd (by omega) (Nat.gcd_dvd_right _ _)
theorem log2_mono {a b k : Nat} (h : a ≤ b) (hb : b.log2 < k) : a.log2 < k := by
  by_cases h0 : a = 0
  · subst h0
    rw [Nat.log2_zero]
    omega
  · have hb0 : b ≠ 0 := by omega
    exact (Nat.log2_lt h0).mpr (Nat.lt_of_le_of_lt h ((Nat.log2_lt hb0).mp hb))
theorem lowG_ok {u v : Int} (h : v ≠ 0) (h9 : v.natAbs.log2 < 4096) : CDivG u (lowG u v) := by
  have h1 := gcd_pos (u := u) h
  have h2 := gcd_le (u := u) h
  unfold lowG
  split
  · exact ⟨by omega, by rw [Int.natAbs_neg, Int.natAbs_natCast]; exact Nat.lt_trans (log2_mono h2 h9) (by decide)⟩
  · exact ⟨by omega, by rw [Int.natAbs_natCast]; exact Nat.lt_trans (log2_mono h2 h9) (by decide)⟩
def spLow : Sp := fun vs H Q _ => ∃ u v : Int, vs = [.int u, .int v] ∧ v ≠ 0 ∧ v.natAbs.log2 < 4096 ∧ ∀ p, H p = none → Q (.ref p) (upd H p (.tup [.int (lowT u v), .int (lowD u v)]))
theorem two_line : 2 ≤ sizeLine := Nat.le_trans (by decide : 2 ≤ 1000) (Nat.le_of_lt (small1000 (Nat.le_refl _)))
theorem ok_low (T : Txt K mg fa fd) : FnOk P w K mg base CX0 2 (fa 28) (fd 28) ["_law_upper", "_law_lower"] spLow := by
  refine T.F_low.ok sc_low (fun vs H Q E h => ?_) (fun cdv A outer s H vs Q E hr h => ?_)
  · obtain ⟨x, y, rfl, _⟩ := h
    rfl
  · obtain ⟨u, v, rfl, h0, h9, q⟩ := h
    refine ⟨_, (pss_cons (ps_set (i := 2) sc_low.nd rfl (.inl rfl) (pe_call (ok_gcd T) (hr.mono (by decide)) (by rfl) T.g_gcd T.F_gcd.kp T.b_gcd .nil pass0 (pa_cons (pv 0) (pa_cons (pv 1) pa_nil))))
      (C8.pss_cut (ps_if (pt_cmpR op_lt (pv 1) pe_int (nomark _)) (pss_one (ps_set (i := 2) sc_low.nd rfl (.inl rfl) (pe_un un_neg (pv 2)))) pss_nil)
      (pss_one (ps_ret (pe_tup (pa_cons (pe_op op_fdivG (pv 0) (pv 2)) (pa_cons (pe_op op_fdivG (pv 1) (pv 2)) pa_nil))))))), ?_⟩
    refine ⟨_, rfl, _, rfl, u, v, rfl, ?_⟩
    refine ⟨fun σ H1 => H1 = H ∧ σ = [some (.int u), some (.int v), some (.int (lowG u v))], ?_, fun σ H1 hM => ?_⟩
    · refine ⟨_, rfl, _, _, rfl, rfl, _, rfl, ite2 (fun e => ?_) (fun e => ?_)⟩
      · refine ⟨_, rfl, _, rfl, rfl, ?_⟩
        unfold lowG
        rw [if_pos (of_decide_eq_true e)]
        rfl
      · refine ⟨rfl, ?_⟩
        unfold lowG
        rw [if_neg (fun z => e (decide_eq_true z))]
        rfl
    · obtain ⟨rfl, rfl⟩ := hM
      have hG := lowG_ok (u := u) h0 h9
      exact ⟨_, rfl, _, rfl, _, _, rfl, rfl, hG, _, rfl, _, rfl, _, _, rfl, rfl, hG, two_line, q⟩
/-! ### sameness of data -/
def Leaf (v w : V) : Prop := v = w ∧ (v = .non ∨ (∃ b, v = .bl b) ∨ (∃ i, v = .int i) ∨ ∃ x, v = .str x)
def Eqd (H : Hp) : Nat → V → V → Prop
  | 0, v, w => Leaf v w
  | n + 1, v, w => Leaf v w ∨ ∃ (a b : Addr) (xs ys : List V), v = .ref a ∧ w = .ref b ∧ ((H a = some (.lst xs) ∧ H b = some (.lst ys)) ∨ (H a = some (.tup xs) ∧ H b = some (.tup ys))) ∧ xs.length = ys.length ∧ xs.length ≤ 1000 ∧
      ∀ (i : Nat) (x y : V), xs[i]? = some x → ys[i]? = some y → Eqd H n x y
theorem Eqd.leaf {H : Hp} {n : Nat} {v w : V} (h : Leaf v w) : Eqd H n v w := by
  cases n with
  | zero => exact h
  | succ n => exact .inl h
theorem Eqd.mono {H H' : Hp} (s : Same H H') : ∀ (n : Nat) {v w : V}, Eqd H n v w → Eqd H' n v w
  | 0, _, _, h => h
  | n + 1, _, _, h => by
    rcases h with h | ⟨a, b, xs, ys, e1, e2, h, l1, l2, r⟩
    · exact .inl h
    · refine .inr ⟨a, b, xs, ys, e1, e2, ?_, l1, l2, fun i x y h1 h2 => Eqd.mono s n (r i x y h1 h2)⟩
      rcases h with ⟨h1, h2⟩ | ⟨h1, h2⟩
      · exact .inl ⟨s _ _ h1, s _ _ h2⟩
      · exact .inr ⟨s _ _ h1, s _ _ h2⟩
def spSame (n : Nat) : Sp := fun vs H Q _ => ∃ v w : V, vs = [v, w] ∧ Eqd H n v w ∧ ∀ H', Same H H' → Q (.bl true) H'
def spS : Nat → Sp
  | 0 => fun _ _ _ _ => False
  | n + 1 => spSame n
theorem none_of_false {K : PySem.W.Frag} {f : Addr} {fd : FuncData} {st : Stmt} {x : Str} {N ps : List Str} (F : Fun K x x st f fd) (S : FnScope N ps (defScope st)) : FnOk P w K mg base CX0 1 f fd ps (fun _ _ _ _ => False) :=
  F.ok S (fun _ _ _ _ h => h.elim) fun _ _ _ _ _ _ _ _ _ h => h.elim
theorem kit2 {K : PySem.W.Frag} {a b c : String} {r1 r2 : Bool} (h1 : kitB a b = some r1) (h2 : kitB a c = some r2) : PySem.W.kitAny K (.type a) [.type b, .type c] = some (r1 || r2) := by
  cases r1 with
  | true => exact kitAny_cons (kit_ty h1) (fun h => nomatch h) fun _ => rfl
  | false =>
    refine kitAny_cons (kit_ty h1) (fun _ => ?_) fun h => nomatch h
    cases r2 with
    | true => exact kitAny_cons (kit_ty h2) (fun h => nomatch h) fun _ => rfl
    | false => exact kitAny_cons (kit_ty h2) (fun _ => kitAny_nil) fun h => nomatch h
theorem same_step (T : Txt K mg fa fd) (n : Nat) (G : FnOk P w K mg base CX0 (n + 1) (fa 26) (fd 26) ["_law_found", "_law_due"] (spS n)) : FnOk P w K mg base CX0 (n + 2) (fa 26) (fd 26) ["_law_found", "_law_due"] (spSame n) := by
  refine T.F_same.ok sc_same (fun vs H Q E h => ?_) (fun cdv A outer s H vs Q E hr h => ?_)
  · obtain ⟨x, y, rfl, _⟩ := h
    rfl
  · obtain ⟨x, y, rfl, hE, q⟩ := h
    refine ⟨_, (pss_cons (ps_if (pt_cmpR op_isN (pv 1) pe_non (nomark _)) (pss_one (ps_ret (pe_cmpR op_isN (pv 0) pe_non (nomark _)))) pss_nil)
      (pss_cons (ps_if (PW.pt (pw_or (pt_val (pe_callB call_isi (by rfl) T.m_isinstance PyProof.Rows.boot_isinstance (pa_cons (pv 1) (pa_cons (pe_bltn (v := .ty "bool") (by rfl) T.m_bool (by decide +kernel) rfl) pa_nil)))) (pw_or1 (pt_val (pe_callB call_isi (by rfl) T.m_isinstance PyProof.Rows.boot_isinstance (pa_cons (pv 0) (pa_cons (pe_bltn (v := .ty "bool") (by rfl) T.m_bool (by decide +kernel) rfl) pa_nil))))))) (pss_one (ps_ret (pe_and (pe_callB call_isi (by rfl) T.m_isinstance PyProof.Rows.boot_isinstance (pa_cons (pv 1) (pa_cons (pe_bltn (v := .ty "bool") (by rfl) T.m_bool (by decide +kernel) rfl) pa_nil))) (pe_and (pe_callB call_isi (by rfl) T.m_isinstance PyProof.Rows.boot_isinstance (pa_cons (pv 0) (pa_cons (pe_bltn (v := .ty "bool") (by rfl) T.m_bool (by decide +kernel) rfl) pa_nil))) (pe_one (pe_cmpR op_eq (pv 0) (pv 1) (nomark _))))))) pss_nil)
      (pss_cons (ps_if (pt_val (pe_callB call_isiT (by rfl) T.m_isinstance PyProof.Rows.boot_isinstance (pa_cons (pv 1) (pa_cons (pe_tup (pa_cons (pe_bltn (v := .ty "int") (by rfl) T.m_int (by decide +kernel) rfl) (pa_cons (pe_bltn (v := .ty "str") (by rfl) T.m_str (by decide +kernel) rfl) pa_nil))) pa_nil)))) (pss_one (ps_ret (pe_and (pe_callB call_isiT (by rfl) T.m_isinstance PyProof.Rows.boot_isinstance (pa_cons (pv 0) (pa_cons (pe_tup (pa_cons (pe_bltn (v := .ty "int") (by rfl) T.m_int (by decide +kernel) rfl) (pa_cons (pe_bltn (v := .ty "str") (by rfl) T.m_str (by decide +kernel) rfl) pa_nil))) pa_nil))) (pe_and (pe_cmpR op_eq (pe_callB call_isi (by rfl) T.m_isinstance PyProof.Rows.boot_isinstance (pa_cons (pv 0) (pa_cons (pe_bltn (v := .ty "int") (by rfl) T.m_int (by decide +kernel) rfl) pa_nil))) (pe_callB call_isi (by rfl) T.m_isinstance PyProof.Rows.boot_isinstance (pa_cons (pv 1) (pa_cons (pe_bltn (v := .ty "int") (by rfl) T.m_int (by decide +kernel) rfl) pa_nil))) (nomark _)) (pe_one (pe_cmpR op_eq (pv 0) (pv 1) (nomark _))))))) pss_nil)
      (pss_cons (ps_if (pt_val (pe_callB call_isi (by rfl) T.m_isinstance PyProof.Rows.boot_isinstance (pa_cons (pv 1) (pa_cons (pe_bltn (v := .ty "dict") (by rfl) T.m_dict (by decide +kernel) rfl) pa_nil)))) (pss_cons ps_never
      (pss_one ps_never)) pss_nil)
      (pss_cons (ps_if (PW.pt (pw_or (pt_cmpR op_ne (pe_callB call_isi (by rfl) T.m_isinstance PyProof.Rows.boot_isinstance (pa_cons (pv 1) (pa_cons (pe_bltn (v := .ty "list") (by rfl) T.m_list (by decide +kernel) rfl) pa_nil))) (pe_callB call_isi (by rfl) T.m_isinstance PyProof.Rows.boot_isinstance (pa_cons (pv 0) (pa_cons (pe_bltn (v := .ty "list") (by rfl) T.m_list (by decide +kernel) rfl) pa_nil))) (nomark _)) (pw_or1 (pt_cmpR op_ne (pe_callB call_isi (by rfl) T.m_isinstance PyProof.Rows.boot_isinstance (pa_cons (pv 1) (pa_cons (pe_bltn (v := .ty "tuple") (by rfl) T.m_tuple (by decide +kernel) rfl) pa_nil))) (pe_callB call_isi (by rfl) T.m_isinstance PyProof.Rows.boot_isinstance (pa_cons (pv 0) (pa_cons (pe_bltn (v := .ty "tuple") (by rfl) T.m_tuple (by decide +kernel) rfl) pa_nil))) (nomark _))))) (pss_one (ps_ret pe_bl)) pss_nil)
      (pss_one (ps_ret (pe_and (pe_cmpR op_eq (pe_callB call_len_seq (by rfl) T.m_len PySem.boot_len (pa_cons (pv 0) pa_nil)) (pe_callB call_len_seq (by rfl) T.m_len PySem.boot_len (pa_cons (pv 1) pa_nil)) (nomark _)) (pe_one (pe_callB (cr_all rfl) (by rfl) T.m_all PyProof.Rows.boot_all (pa_cons (pe_lc (own := [("_law_one", 3), ("_law_two", 4)]) (g := gTup K 2 (gCons (gName 3) (gCons (gName 4) gNil))) (tt := tYes) rfl sc_same.nd (RZ.pi_zipA (by rfl) T.m_zip (pa_cons (pv 0) (pa_cons (pv 1) pa_nil))) (blkOk_by (own := [("_law_one", 3), ("_law_two", 4)]) (N := ["_law_found", "_law_due", "_law_key", "_law_one", "_law_two"]) (sc := defScope s_same) (by decide +kernel)) (fun _ _ _ _ _ => pg_tup rfl (pgs_cons (pg_name (i := 3) sc_same.nd rfl (Or.inl rfl)) (pgs_cons (pg_name (i := 4) sc_same.nd rfl (Or.inl rfl)) pgs_nil))) (fun _ _ _ _ _ => pts_nil) (fun _ _ _ _ _ => (pe_call G (hr.mono (by omega)) (by rfl) T.g_same T.F_same.kp T.b_same .nil pass0 (pa_cons (pv 3) (pa_cons (pv 4) pa_nil))))) pa_nil))))))))))), ?_⟩
    have leafy : Leaf x y ∨ ∃ (n' : Nat) (a b : Addr) (xs ys : List V), n = n' + 1 ∧ x = .ref a ∧ y = .ref b ∧ ((H a = some (.lst xs) ∧ H b = some (.lst ys)) ∨ (H a = some (.tup xs) ∧ H b = some (.tup ys))) ∧ xs.length = ys.length ∧ xs.length ≤ 1000 ∧
        ∀ (i : Nat) (x y : V), xs[i]? = some x → ys[i]? = some y → Eqd H n' x y := by
      cases n with
      | zero => exact .inl hE
      | succ n' =>
        rcases hE with h | ⟨a, b, xs, ys, h⟩
        · exact .inl h
        · exact .inr ⟨n', a, b, xs, ys, rfl, h⟩
    rcases leafy with ⟨rfl, hl⟩ | ⟨n', a, b, xs, ys, rfl, rfl, rfl, hab, hlen, h1000, hsub⟩
    · refine ⟨_, rfl, rfl, _, rfl, ite2 (fun e => ?_) (fun e => ?_)⟩
      · have ex := of_decide_eq_true e
        subst ex
        exact ⟨_, rfl, rfl, q _ (Same.refl _)⟩
      · rcases hl with rfl | ⟨bb, rfl⟩ | ⟨i, rfl⟩ | ⟨z, rfl⟩
        · exact absurd (decide_eq_true rfl) e
        · refine ⟨_, rfl, _, _, _, _, _, rfl, .ty _, .base (.bl _), kit_ty (r := true) (by decide +kernel), _, rfl, iteT (iteT ?_)⟩
          refine ⟨_, rfl, _, _, _, _, _, rfl, .ty _, .base (.bl _), kit_ty (r := true) (by decide +kernel), _, rfl, iteT ?_⟩
          refine ⟨_, rfl, _, _, _, _, _, rfl, .ty _, .base (.bl _), kit_ty (r := true) (by decide +kernel), _, rfl, iteT ?_⟩
          refine ⟨_, rfl, _, rfl, rfl, ?_⟩
          rw [decide_eq_true rfl]
          exact q _ (Same.refl _)
        · refine ⟨_, rfl, _, _, _, _, _, rfl, .ty _, .base (.int _), kit_ty (r := false) (by decide +kernel), _, rfl, iteF ?_⟩
          refine ⟨_, rfl, _, _, _, _, _, rfl, .ty _, .base (.int _), kit_ty (r := false) (by decide +kernel), _, rfl, iteF ?_⟩
          refine ⟨_, rfl, two_line, fun p np => ?_⟩
          refine ⟨_, p, _, _, _, _, rfl, upd_same, .cons (.ty _) (.cons (.ty _) .nil), .base (.int _), kit2 (r1 := true) (r2 := false) (by decide +kernel) (by decide +kernel), _, rfl, iteT ?_⟩
          refine ⟨_, rfl, two_line, fun p2 np2 => ?_⟩
          refine ⟨_, p2, _, _, _, _, rfl, upd_same, .cons (.ty _) (.cons (.ty _) .nil), .base (.int _), kit2 (r1 := true) (r2 := false) (by decide +kernel) (by decide +kernel), _, rfl, iteT ?_⟩
          refine ⟨_, rfl, _, _, _, _, _, rfl, .ty _, .base (.int _), kit_ty (r := true) (by decide +kernel), ?_⟩
          refine ⟨_, rfl, _, _, _, _, _, rfl, .ty _, .base (.int _), kit_ty (r := true) (by decide +kernel), rfl, _, rfl, iteT ?_⟩
          refine ⟨_, rfl, _, rfl, rfl, ?_⟩
          rw [decide_eq_true rfl]
          exact q _ ((same_upd np).trans (same_upd np2))
        · refine ⟨_, rfl, _, _, _, _, _, rfl, .ty _, .base (.str _), kit_ty (r := false) (by decide +kernel), _, rfl, iteF ?_⟩
          refine ⟨_, rfl, _, _, _, _, _, rfl, .ty _, .base (.str _), kit_ty (r := false) (by decide +kernel), _, rfl, iteF ?_⟩
          refine ⟨_, rfl, two_line, fun p np => ?_⟩
          refine ⟨_, p, _, _, _, _, rfl, upd_same, .cons (.ty _) (.cons (.ty _) .nil), .base (.str _), kit2 (r1 := false) (r2 := true) (by decide +kernel) (by decide +kernel), _, rfl, iteT ?_⟩
          refine ⟨_, rfl, two_line, fun p2 np2 => ?_⟩
          refine ⟨_, p2, _, _, _, _, rfl, upd_same, .cons (.ty _) (.cons (.ty _) .nil), .base (.str _), kit2 (r1 := false) (r2 := true) (by decide +kernel) (by decide +kernel), _, rfl, iteT ?_⟩
          refine ⟨_, rfl, _, _, _, _, _, rfl, .ty _, .base (.str _), kit_ty (r := false) (by decide +kernel), ?_⟩
          refine ⟨_, rfl, _, _, _, _, _, rfl, .ty _, .base (.str _), kit_ty (r := false) (by decide +kernel), rfl, _, rfl, iteT ?_⟩
          refine ⟨_, rfl, _, rfl, rfl, ?_⟩
          rw [decide_eq_true rfl]
          exact q _ ((same_upd np).trans (same_upd np2))
    · refine ⟨_, rfl, rfl, _, rfl, ite2 (fun e => absurd (of_decide_eq_true e) (by intro z; cases z)) (fun e => ?_)⟩
      rcases hab with ⟨ha, hb⟩ | ⟨ha, hb⟩
      · refine ⟨_, rfl, _, _, _, _, _, rfl, .ty _, .base (.lst hb), kit_ty (r := false) (by decide +kernel), _, rfl, iteF ⟨_, rfl, _, _, _, _, _, rfl, .ty _, .base (.lst ha), kit_ty (r := false) (by decide +kernel), _, rfl, iteF ⟨_, rfl, two_line, fun p np => ?_⟩⟩⟩
        have s1 := same_upd (o := .tup [V.ty "int", V.ty "str"]) np
        refine ⟨_, p, _, _, _, _, rfl, upd_same, .cons (.ty _) (.cons (.ty _) .nil), .base (.lst (s1 _ _ hb)), kit2 (r1 := false) (r2 := false) (by decide +kernel) (by decide +kernel), _, rfl, iteF ?_⟩
        generalize upd H p (.tup [V.ty "int", V.ty "str"]) = H2 at s1
        have ha2 := s1 _ _ ha
        have hb2 := s1 _ _ hb
        refine ⟨_, rfl, _, _, _, _, _, rfl, .ty _, .base (.lst hb2), kit_ty (r := false) (by decide +kernel), _, rfl, iteF ?_⟩
        refine ⟨_, rfl, _, _, _, _, _, rfl, .ty _, .base (.lst hb2), kit_ty (r := true) (by decide +kernel), _, rfl, _, _, _, _, _, rfl, .ty _, .base (.lst ha2), kit_ty (r := true) (by decide +kernel), rfl, _, rfl, iteF ?_⟩
        refine ⟨_, rfl, _, _, _, _, _, rfl, .ty _, .base (.lst hb2), kit_ty (r := false) (by decide +kernel), _, rfl, _, _, _, _, _, rfl, .ty _, .base (.lst ha2), kit_ty (r := false) (by decide +kernel), rfl, _, rfl, iteF ?_⟩
        refine ⟨_, rfl, a, _, rfl, .inl (SqL.of ha2), _, rfl, b, _, rfl, .inl (SqL.of hb2), rfl, _, rfl, ?_⟩
        rw [hlen, decide_eq_true rfl]
        refine iteT ⟨_, rfl, _, rfl, a, b, xs, ys, rfl, .inl ⟨SqL.of ha2, SqL.of hb2, fun D nD => ?_⟩⟩
        refine ⟨fun i m H' => i + m = xs.length ∧ Same H2 H' ∧ H' D = some (.lst ((List.replicate i true).map V.bl)), ⟨xs.length, by omega, same_upd nD, upd_same⟩, fun i m H' hW => ?_⟩
        obtain ⟨hm, s2, hD⟩ := hW
        by_cases hi : i < xs.length
        · have hx : xs[i]? = some xs[i] := List.getElem?_eq_getElem hi
          have hy : ys[i]? = some ys[i] := List.getElem?_eq_getElem (by omega)
          refine .inr ⟨⟨_, _, _, _, SqL.of (s2 _ _ ha2), SqL.of (s2 _ _ hb2), hx, hy⟩, fun H'' => Same H2 H'' ∧ H'' D = some (.lst ((List.replicate (i + 1) true).map V.bl)), fun H'' h => ⟨m - 1, by omega, by omega, h⟩, fun v H'' hv => ?_⟩
          obtain ⟨T', x1, y1, rfl, nT, rfl, f1, f2⟩ := hv
          have ex : x1 = xs[i] := Option.some.inj ((f1 _ (SqL.of (s2 _ _ ha2))).symm.trans hx)
          have ey : y1 = ys[i] := Option.some.inj ((f2 _ (SqL.of (s2 _ _ hb2))).symm.trans hy)
          have s3 : Same H' (upd H' T' (.tup [x1, y1])) := same_upd nT
          refine ⟨T', [x1, y1], rfl, .inl (.inl upd_same), rfl, x1, [y1], rfl, y1, [], rfl, rfl, rfl, ?_⟩
          refine ⟨_, rfl, _, rfl, x1, y1, rfl, ?_, fun H4 s4 => ⟨_, s4 _ _ (s3 _ _ hD), ?_, ?_, ?_⟩⟩
          · subst ex ey
            exact Eqd.mono (s1.trans (s2.trans s3)) n' (hsub i _ _ hx hy)
          · rw [List.length_map, List.length_replicate]
            exact small1000 (by omega)
          · intro c o e
            rw [upd_ne (ne_of_none e nD)]
            exact s4 _ _ (s3 _ _ (s2 _ _ e))
          · rw [upd_same, List.replicate_succ', List.map_append]
            rfl
        · have ei : i = xs.length := by omega
          subst ei
          refine .inl ⟨⟨xs, ys, SqL.of (s2 _ _ ha2), SqL.of (s2 _ _ hb2), .inl (Nat.le_refl _)⟩, ?_⟩
          refine ⟨D, _, rfl, .inl (.inl hD), ?_⟩
          have all : ∀ k : Nat, (List.replicate k true).all id = true := fun k => by
            rw [List.all_replicate]
            split <;> rfl
          rw [all]
          exact q _ (s1.trans s2)
      · refine ⟨_, rfl, _, _, _, _, _, rfl, .ty _, .base (.tup hb), kit_ty (r := false) (by decide +kernel), _, rfl, iteF ⟨_, rfl, _, _, _, _, _, rfl, .ty _, .base (.tup ha), kit_ty (r := false) (by decide +kernel), _, rfl, iteF ⟨_, rfl, two_line, fun p np => ?_⟩⟩⟩
        have s1 := same_upd (o := .tup [V.ty "int", V.ty "str"]) np
        refine ⟨_, p, _, _, _, _, rfl, upd_same, .cons (.ty _) (.cons (.ty _) .nil), .base (.tup (s1 _ _ hb)), kit2 (r1 := false) (r2 := false) (by decide +kernel) (by decide +kernel), _, rfl, iteF ?_⟩
        generalize upd H p (.tup [V.ty "int", V.ty "str"]) = H2 at s1
        have ha2 := s1 _ _ ha
        have hb2 := s1 _ _ hb
        refine ⟨_, rfl, _, _, _, _, _, rfl, .ty _, .base (.tup hb2), kit_ty (r := false) (by decide +kernel), _, rfl, iteF ?_⟩
        refine ⟨_, rfl, _, _, _, _, _, rfl, .ty _, .base (.tup hb2), kit_ty (r := false) (by decide +kernel), _, rfl, _, _, _, _, _, rfl, .ty _, .base (.tup ha2), kit_ty (r := false) (by decide +kernel), rfl, _, rfl, iteF ?_⟩
        refine ⟨_, rfl, _, _, _, _, _, rfl, .ty _, .base (.tup hb2), kit_ty (r := true) (by decide +kernel), _, rfl, _, _, _, _, _, rfl, .ty _, .base (.tup ha2), kit_ty (r := true) (by decide +kernel), rfl, _, rfl, iteF ?_⟩
        refine ⟨_, rfl, a, _, rfl, .inr (SqT.of ha2), _, rfl, b, _, rfl, .inr (SqT.of hb2), rfl, _, rfl, ?_⟩
        rw [hlen, decide_eq_true rfl]
        refine iteT ⟨_, rfl, _, rfl, a, b, xs, ys, rfl, .inr ⟨SqT.of ha2, SqT.of hb2, fun D nD => ?_⟩⟩
        refine ⟨fun i m H' => i + m = xs.length ∧ Same H2 H' ∧ H' D = some (.lst ((List.replicate i true).map V.bl)), ⟨xs.length, by omega, same_upd nD, upd_same⟩, fun i m H' hW => ?_⟩
        obtain ⟨hm, s2, hD⟩ := hW
        by_cases hi : i < xs.length
        · have hx : xs[i]? = some xs[i] := List.getElem?_eq_getElem hi
          have hy : ys[i]? = some ys[i] := List.getElem?_eq_getElem (by omega)
          refine .inr ⟨⟨_, _, _, _, SqT.of (s2 _ _ ha2), SqT.of (s2 _ _ hb2), hx, hy⟩, fun H'' => Same H2 H'' ∧ H'' D = some (.lst ((List.replicate (i + 1) true).map V.bl)), fun H'' h => ⟨m - 1, by omega, by omega, h⟩, fun v H'' hv => ?_⟩
          obtain ⟨T', x1, y1, rfl, nT, rfl, f1, f2⟩ := hv
          have ex : x1 = xs[i] := Option.some.inj ((f1 _ (SqT.of (s2 _ _ ha2))).symm.trans hx)
          have ey : y1 = ys[i] := Option.some.inj ((f2 _ (SqT.of (s2 _ _ hb2))).symm.trans hy)
          have s3 : Same H' (upd H' T' (.tup [x1, y1])) := same_upd nT
          refine ⟨T', [x1, y1], rfl, .inl (.inl upd_same), rfl, x1, [y1], rfl, y1, [], rfl, rfl, rfl, ?_⟩
          refine ⟨_, rfl, _, rfl, x1, y1, rfl, ?_, fun H4 s4 => ⟨_, s4 _ _ (s3 _ _ hD), ?_, ?_, ?_⟩⟩
          · subst ex ey
            exact Eqd.mono (s1.trans (s2.trans s3)) n' (hsub i _ _ hx hy)
          · rw [List.length_map, List.length_replicate]
            exact small1000 (by omega)
          · intro c o e
            rw [upd_ne (ne_of_none e nD)]
            exact s4 _ _ (s3 _ _ (s2 _ _ e))
          · rw [upd_same, List.replicate_succ', List.map_append]
            rfl
        · have ei : i = xs.length := by omega
          subst ei
          refine .inl ⟨⟨xs, ys, SqT.of (s2 _ _ ha2), SqT.of (s2 _ _ hb2), .inl (Nat.le_refl _)⟩, ?_⟩
          refine ⟨D, _, rfl, .inl (.inl hD), ?_⟩
          have all : ∀ k : Nat, (List.replicate k true).all id = true := fun k => by
            rw [List.all_replicate]
            split <;> rfl
          rw [all]
          exact q _ (s1.trans s2)
theorem ok_same (T : Txt K mg fa fd) : ∀ n : Nat, FnOk P w K mg base CX0 (n + 1) (fa 26) (fd 26) ["_law_found", "_law_due"] (spS n)
  | 0 => none_of_false T.F_same sc_same
  | n + 1 => same_step T n (ok_same T n)
end
/-! ### more of lowest terms -/
theorem lowG_ne {u v : Int} (h : v ≠ 0) : lowG u v ≠ 0 := by
  have h1 := gcd_pos (u := u) h
  unfold lowG
  split <;> omega
theorem lowG_dvd_left (u v : Int) : lowG u v ∣ u := by
  unfold lowG
  split
  · exact Int.neg_dvd.mpr (Int.gcd_dvd_left _ _)
  · exact (Int.gcd_dvd_left _ _)
theorem lowG_dvd_right (u v : Int) : lowG u v ∣ v := by
  unfold lowG
  split
  · exact Int.neg_dvd.mpr (Int.gcd_dvd_right _ _)
  · exact (Int.gcd_dvd_right _ _)
theorem lowT_mul {u v : Int} (h : v ≠ 0) : u = lowG u v * lowT u v := by
  obtain ⟨t, ht⟩ := lowG_dvd_left u v
  unfold lowT
  generalize lowG u v = g at ht ⊢
  have hg : g ≠ 0 ∨ g = 0 := by omega
  rcases hg with hg | hg
  · rw [ht, Int.mul_fdiv_cancel_left _ hg]
  · rw [ht, hg, Int.zero_mul, Int.zero_mul]
theorem lowT_abs {u v : Int} (h : v ≠ 0) : (lowT u v).natAbs ≤ u.natAbs := by
  have e := lowT_mul (u := u) h
  have h2 : u.natAbs = (lowG u v).natAbs * (lowT u v).natAbs := by
    rw [← Int.natAbs_mul, ← e]
  have h3 : 1 ≤ (lowG u v).natAbs := by
    have := lowG_ne (u := u) h
    omega
  calc (lowT u v).natAbs = 1 * (lowT u v).natAbs := (Nat.one_mul _).symm
    _ ≤ (lowG u v).natAbs * (lowT u v).natAbs := Nat.mul_le_mul_right _ h3
    _ = u.natAbs := h2.symm
theorem lowD_mul {u v : Int} (h : v ≠ 0) : v = lowG u v * lowD u v := by
  obtain ⟨t, ht⟩ := lowG_dvd_right u v
  have hg := lowG_ne (u := u) h
  unfold lowD
  generalize lowG u v = g at ht hg ⊢
  rw [ht, Int.mul_fdiv_cancel_left _ hg]
theorem lowD_abs {u v : Int} (h : v ≠ 0) : (lowD u v).natAbs ≤ v.natAbs := by
  have e := lowD_mul (u := u) h
  have h2 : v.natAbs = (lowG u v).natAbs * (lowD u v).natAbs := by
    rw [← Int.natAbs_mul, ← e]
  have h3 : 1 ≤ (lowG u v).natAbs := by
    have := lowG_ne (u := u) h
    omega
  calc (lowD u v).natAbs = 1 * (lowD u v).natAbs := (Nat.one_mul _).symm
    _ ≤ (lowG u v).natAbs * (lowD u v).natAbs := Nat.mul_le_mul_right _ h3
    _ = v.natAbs := h2.symm
theorem lowD_pos {u v : Int} (h : v ≠ 0) : 0 < lowD u v := by
  have e := lowD_mul (u := u) h
  have h1 := gcd_pos (u := u) h
  have key : ∀ g d : Int, v = g * d → (0 < g ∧ 0 < v) ∨ (g < 0 ∧ v < 0) → 0 < d := fun g d ev hh => by
    rcases Int.lt_trichotomy d 0 with hd | hd | hd
    · rcases hh with ⟨h1, h2⟩ | ⟨h1, h2⟩
      · have := Int.mul_neg_of_pos_of_neg h1 hd
        omega
      · have := Int.mul_pos_of_neg_of_neg h1 hd
        omega
    · rw [hd, Int.mul_zero] at ev
      omega
    · exact hd
  refine key _ _ e ?_
  unfold lowG
  split
  · exact .inr ⟨by omega, by assumption⟩
  · exact .inl ⟨by omega, by omega⟩
theorem low_gcd {u v : Int} (hv : v ≠ 0) : Int.gcd (lowT u v) (lowD u v) = 1 := by
  have e1 := lowT_mul (u := u) hv
  have e2 := lowD_mul (u := u) hv
  have hg := gcd_pos (u := u) hv
  have e3 : Int.gcd u v = (lowG u v).natAbs * Int.gcd (lowT u v) (lowD u v) := by
    have : Int.gcd (lowG u v * lowT u v) (lowG u v * lowD u v) = (lowG u v).natAbs * Int.gcd (lowT u v) (lowD u v) := Int.gcd_mul_left _ _ _
    rw [← e1, ← e2] at this
    exact this
  have e4 : (lowG u v).natAbs = Int.gcd u v := by
    unfold lowG
    split <;> omega
  rw [e4] at e3
  have e5 : Int.gcd u v * 1 = Int.gcd u v * Int.gcd (lowT u v) (lowD u v) := by rw [Nat.mul_one]; exact e3
  exact (Nat.eq_of_mul_eq_mul_left hg e5).symm
/-! ### data in the heap -/
mutual
inductive Dt (z : Addr) (H : Hp) : V → PyData → Prop
  | non : Dt z H .non .none
  | bl (b : Bool) : Dt z H (.bl b) (.bool b)
  | int (i : Int) (h : i.natAbs.log2 < 4096) : Dt z H (.int i) (.int i)
  | str (x : Str) (h : x.length ≤ 1000) : Dt z H (.str x) (.str x)
  | lst {a : Addr} {xs : List V} {ds : List PyData} : H a = some (.lst xs) → a ≠ z → DtAll z H xs ds → Dt z H (.ref a) (.list ds)
  | tup {a : Addr} {xs : List V} {ds : List PyData} : H a = some (.tup xs) → DtAll z H xs ds → Dt z H (.ref a) (.tuple ds)
inductive DtAll (z : Addr) (H : Hp) : List V → List PyData → Prop
  | nil : DtAll z H [] []
  | cons {v : V} {vs : List V} {d : PyData} {ds : List PyData} : Dt z H v d → DtAll z H vs ds → DtAll z H (v :: vs) (d :: ds)
end
mutual
theorem Dt.via {z : Addr} {H H' : Hp} (s : ∀ a o, H a = some o → ((∃ xs, o = .lst xs) ∧ a ≠ z) ∨ (∃ xs, o = .tup xs) → H' a = some o) : ∀ (d : PyData) (v : V), Dt z H v d → Dt z H' v d
  | .none, _, h => by cases h; exact .non
  | .bool _, _, h => by cases h; exact .bl _
  | .int _, _, h => by
    cases h with
    | int _ hb => exact .int _ hb
  | .str _, _, h => by
    cases h with
    | str _ hx => exact .str _ hx
  | .list ds, _, h => by
    cases h with
    | lst h1 hz h2 => exact .lst (s _ _ h1 (.inl ⟨⟨_, rfl⟩, hz⟩)) hz (DtAll.via s ds _ h2)
  | .tuple ds, _, h => by
    cases h with
    | tup h1 h2 => exact .tup (s _ _ h1 (.inr ⟨_, rfl⟩)) (DtAll.via s ds _ h2)
  | .dict _, _, h => by cases h
theorem DtAll.via {z : Addr} {H H' : Hp} (s : ∀ a o, H a = some o → ((∃ xs, o = .lst xs) ∧ a ≠ z) ∨ (∃ xs, o = .tup xs) → H' a = some o) : ∀ (ds : List PyData) (vs : List V), DtAll z H vs ds → DtAll z H' vs ds
  | [], _, h => by cases h; exact .nil
  | d :: ds, _, h => by
    cases h with
    | cons h1 h2 => exact .cons (Dt.via s d _ h1) (DtAll.via s ds _ h2)
end
theorem Dt.same {z : Addr} {H H' : Hp} {v : V} {d : PyData} (h : Dt z H v d) (s : Same H H') : Dt z H' v d := Dt.via (fun a o e _ => s a o e) d v h
theorem DtAll.same {z : Addr} {H H' : Hp} {vs : List V} {ds : List PyData} (h : DtAll z H vs ds) (s : Same H H') : DtAll z H' vs ds := DtAll.via (fun a o e _ => s a o e) ds vs h
theorem DtAll.len {z : Addr} {H : Hp} : ∀ {vs : List V} {ds : List PyData}, DtAll z H vs ds → vs.length = ds.length
  | _, _, .nil => rfl
  | _, _, .cons _ h => congrArg (· + 1) (DtAll.len h)
mutual
theorem Dt.dp {K : PySem.W.Frag} {z : Addr} {H : Hp} : ∀ (d : PyData) (v : V), Dt z H v d → Dp K H v d
  | .none, _, h => by cases h; exact .non
  | .bool _, _, h => by cases h; exact .bl _
  | .int _, _, h => by cases h; exact .int _
  | .str _, _, h => by cases h; exact .str _
  | .list ds, _, h => by
    cases h with
    | lst h1 _ h2 => exact .lst (SqL.of h1) (DtAll.dp ds _ h2)
  | .tuple ds, _, h => by
    cases h with
    | tup h1 h2 => exact .tup (SqT.of h1) (DtAll.dp ds _ h2)
  | .dict _, _, h => by cases h
theorem DtAll.dp {K : PySem.W.Frag} {z : Addr} {H : Hp} : ∀ (ds : List PyData) (vs : List V), DtAll z H vs ds → DpAll K H vs ds
  | [], _, h => by cases h; exact .nil
  | d :: ds, _, h => by
    cases h with
    | cons h1 h2 => exact .cons (Dt.dp d _ h1) (DtAll.dp ds _ h2)
end
theorem Dt.but {z : Addr} {H H' : Hp} {v : V} {d : PyData} {c : Addr} (hF : FeedOk H z c) (b : But z H H') (h : Dt z H v d) : Dt z H' v d := by
  obtain ⟨ns, k, big, mark, ha, _⟩ := hF
  refine Dt.via (fun p o e g => b p o ?_ e) d v h
  rcases g with ⟨_, g⟩ | ⟨xs, rfl⟩
  · exact g
  · exact ne_of e ha (by intro z; cases z)
theorem dnewT {z : Addr} {H : Hp} {p : Addr} {vs : List V} {ds : List PyData} (n : H p = none) (h : DtAll z H vs ds) : Same H (upd H p (.tup vs)) ∧ Dt z (upd H p (.tup vs)) (.ref p) (.tuple ds) :=
  ⟨same_upd n, .tup upd_same (h.same (same_upd n))⟩
theorem dnewL {z : Addr} {H : Hp} {p : Addr} {vs : List V} {ds : List PyData} (n : H p = none) (hz : p ≠ z) (h : DtAll z H vs ds) : Same H (upd H p (.lst vs)) ∧ Dt z (upd H p (.lst vs)) (.ref p) (.list ds) :=
  ⟨same_upd n, .lst upd_same hz (h.same (same_upd n))⟩
theorem drow {z : Addr} {H : Hp} {p : Addr} {vs : List V} {ds : List PyData} (n : H p = none) (h : DtAll z H vs ds) : Same H (upd H p (.lst vs)) ∧ DtAll z (upd H p (.lst vs)) vs ds ∧ (upd H p (.lst vs)) p = some (.lst vs) :=
  ⟨same_upd n, h.same (same_upd n), upd_same⟩
theorem DtAll.mem {z : Addr} {H : Hp} : ∀ {vs : List V} {ds : List PyData} {v : V}, DtAll z H vs ds → v ∈ vs → ∃ d, d ∈ ds ∧ Dt z H v d
  | _, _, _, .cons (d := d) h r, e => by
    rcases List.mem_cons.mp e with rfl | e
    · exact ⟨d, List.mem_cons_self, h⟩
    · obtain ⟨d', h1, h2⟩ := DtAll.mem r e
      exact ⟨d', List.mem_cons_of_mem _ h1, h2⟩
def tagD : PyData → String
  | .none => "NoneType"
  | .bool _ => "bool"
  | .int _ => "int"
  | .str _ => "str"
  | .list _ => "list"
  | .tuple _ => "tuple"
  | .dict _ => "dict"
theorem Dt.ty {K : PySem.W.Frag} {z : Addr} {H : Hp} {v : V} {d : PyData} (h : Dt z H v d) : TyOf K H v (.type (tagD d)) := by
  cases h with
  | non => exact .non
  | bl b => exact .bl b
  | int i _ => exact .int i
  | str x _ => exact .str x
  | lst h _ _ => exact .lst h
  | tup h _ => exact .tup h
def isTup : PyData → Bool
  | .tuple _ => true
  | _ => false
def isTxt : PyData → Bool
  | .str _ => true
  | _ => false
def isInt : PyData → Bool
  | .int _ => true
  | _ => false
theorem kitTup {d : PyData} : kitB (tagD d) "tuple" = some (isTup d) := by cases d <;> rfl
theorem kitTxt {d : PyData} : kitB (tagD d) "str" = some (isTxt d) := by cases d <;> rfl
theorem Dt.split {z : Addr} {H : Hp} {v : V} {d : PyData} (h : Dt z H v d) : isTup d = false ∨ ∃ a xs ds, v = .ref a ∧ d = .tuple ds ∧ H a = some (.tup xs) ∧ DtAll z H xs ds := by
  cases h with
  | tup h1 h2 => exact .inr ⟨_, _, _, rfl, rfl, h1, h2⟩
  | non => exact .inl rfl
  | bl b => exact .inl rfl
  | int i _ => exact .inl rfl
  | str x _ => exact .inl rfl
  | lst h _ _ => exact .inl rfl
/-! ### what is a name, a fraction, a tie -/
def nameD : PyData → Bool
  | .str x => nameB x.cps.toList
  | _ => false
def ratD : PyData → Bool
  | .tuple [.int t, .int u] => decide (1 ≤ u) && decide (Int.gcd t u = 1)
  | _ => false
def nonz : PyData → Bool
  | .tuple (.int t :: _) => decide (t ≠ 0)
  | _ => false
def termD : PyData → Bool
  | .tuple [n, r] => nameD n && ratD r && nonz r
  | _ => false
def ltD : PyData → PyData → Bool
  | .tuple (.str x :: _), .tuple (.str y :: _) => decide (x.cps.toList < y.cps.toList)
  | _, _ => false
def termsD : PyData → Bool
  | .tuple [s] => termD s
  | .tuple [s, t] => termD s && termD t && ltD s t
  | _ => false
def tieD : PyData → Bool
  | .tuple [t, b] => termsD t && ratD b
  | _ => false
mutual
def noL : PyData → Bool
  | .list _ => false
  | .dict _ => false
  | .tuple ds => noLs ds
  | _ => true
def noLs : List PyData → Bool
  | [] => true
  | d :: ds => noL d && noLs ds
end
/-- tuples stay -/
def TT (H H' : Hp) : Prop := ∀ p xs, H p = some (.tup xs) → H' p = some (.tup xs)
theorem TT.of {H H' : Hp} (s : Same H H') : TT H H' := fun p _ e => s p _ e
theorem TT.but {a c : Addr} {H H' : Hp} (hF : FeedOk H a c) (b : But a H H') : TT H H' := fun p xs e => by
  obtain ⟨ns, k, big, mark, ha, _⟩ := hF
  exact b p _ (ne_of e ha (by intro z; cases z)) e
theorem TT.upd {H : Hp} {D : Addr} {ys zs : List V} (hD : H D = some (.lst ys)) : TT H (L2.upd H D (.lst zs)) := fun p xs e => by
  rw [upd_ne (ne_of e hD (by intro z; cases z))]
  exact e
theorem TT.trans {H H1 H2 : Hp} (h : TT H H1) (k : TT H1 H2) : TT H H2 := fun p xs e => k p xs (h p xs e)
mutual
theorem Dt.tups {z z' : Addr} {H H' : Hp} (s : TT H H') : ∀ (d : PyData) (v : V), noL d = true → Dt z H v d → Dt z' H' v d
  | .none, _, _, h => by cases h; exact .non
  | .bool _, _, _, h => by cases h; exact .bl _
  | .int _, _, _, h => by
    cases h with
    | int _ hb => exact .int _ hb
  | .str _, _, _, h => by
    cases h with
    | str _ hx => exact .str _ hx
  | .list ds, _, n, h => by
    unfold noL at n
    cases n
  | .tuple ds, _, n, h => by
    unfold noL at n
    cases h with
    | tup h1 h2 => exact .tup (s _ _ h1) (DtAll.tups s ds _ n h2)
  | .dict _, _, n, h => by cases h
theorem DtAll.tups {z z' : Addr} {H H' : Hp} (s : TT H H') : ∀ (ds : List PyData) (vs : List V), noLs ds = true → DtAll z H vs ds → DtAll z' H' vs ds
  | [], _, _, h => by cases h; exact .nil
  | d :: ds, _, n, h => by
    unfold noLs at n
    rw [Bool.and_eq_true] at n
    cases h with
    | cons h1 h2 => exact .cons (Dt.tups s d _ n.1 h1) (DtAll.tups s ds _ n.2 h2)
end
theorem DtAll.snoc {z : Addr} {H : Hp} : ∀ {vs : List V} {ds : List PyData} {v : V} {d : PyData}, DtAll z H vs ds → Dt z H v d → DtAll z H (vs ++ [v]) (ds ++ [d])
  | _, _, _, _, .nil, k => .cons k .nil
  | _, _, _, _, .cons h r, k => .cons h (DtAll.snoc r k)
theorem ratD_inv {d : PyData} (h : ratD d = true) : ∃ t u, d = .tuple [.int t, .int u] := by
  unfold ratD at h
  split at h
  · exact ⟨_, _, rfl⟩
  · cases h
theorem DtAll.at {z : Addr} {H : Hp} : ∀ {vs : List V} {ds : List PyData} (i : Nat) {x : V}, DtAll z H vs ds → vs[i]? = some x → ∃ d, ds[i]? = some d ∧ Dt z H x d
  | _, _, 0, _, .cons h _, e => ⟨_, rfl, by cases e; exact h⟩
  | _, _, i + 1, _, .cons _ h, e => DtAll.at i h e
def smallR : PyData → Bool
  | .tuple [.int t, .int u] => decide (t.natAbs ≤ 5 ∧ u.natAbs ≤ 3)
  | _ => false
def okR (r : PyData) : Prop := ratD r = true ∧ nonz r = true ∧ smallR r = true
theorem okR.noL {r : PyData} (h : okR r) : noL r = true := by
  obtain ⟨t, u, rfl⟩ := ratD_inv h.1
  rfl
abbrev trm1 (t : Str × PyData) : PyData := .tuple [.str t.1, t.2]
theorem noLs_trms : ∀ {ts : List (Str × PyData)}, (∀ t ∈ ts, okR t.2) → noLs (ts.map trm1) = true
  | [], _ => rfl
  | t :: ts, h => by
    have h1 := (h t List.mem_cons_self).noL
    have h2 := noLs_trms fun u hu => h u (List.mem_cons_of_mem _ hu)
    show (((true && (noL t.2 && true)) && noLs (ts.map trm1)) = true)
    rw [h1, h2]
    rfl
/-- terms: names and rates -/
abbrev trmD (ts : List (Str × PyData)) : PyData := .tuple (ts.map fun t => .tuple [.str t.1, t.2])
theorem tie_inv {z : Addr} {H : Hp} {v : V} {dd : List PyData} {b : PyData} (hv : Dt z H v (.tuple [.tuple dd, b])) : ∃ p t y xs, v = .ref p ∧ H p = some (.tup [.ref t, y]) ∧ H t = some (.tup xs) ∧ DtAll z H xs dd ∧ Dt z H y b := by
  match v, hv with
  | _, .tup hp (.cons (.tup ht hts) (.cons hb .nil)) => exact ⟨_, _, _, _, rfl, hp, ht, hts, hb⟩
theorem trm_inv {z : Addr} {H : Hp} {xs : List V} {n : Str} {r : PyData} {ds : List PyData} (h : DtAll z H xs (.tuple [.str n, r] :: ds)) : ∃ e rv xs', xs = .ref e :: xs' ∧ H e = some (.tup [.str n, rv]) ∧ Dt z H rv r := by
  match xs, h with
  | _, .cons (.tup he (.cons (.str _ _) (.cons hr .nil))) _ => exact ⟨_, _, _, rfl, he, hr⟩
/-! ### names in order -/
theorem S_of (x : Str) : SX.S x.cps.toList = x := by
  cases x
  rfl
theorem lt_tri : ∀ (x y : List Nat), ltCps y x = false → x ≠ y → ltCps x y = true
  | [], [], _, h => absurd rfl h
  | [], _ :: _, _, _ => rfl
  | _ :: _, [], h, _ => by cases h
  | a :: r, b :: t, h, n => by
    unfold ltCps at h ⊢
    rw [Bool.or_eq_false_iff, decide_eq_false_iff_not, Bool.and_eq_false_iff] at h
    rw [Bool.or_eq_true, decide_eq_true_eq, Bool.and_eq_true, beq_iff_eq]
    by_cases e : a = b
    · subst e
      refine .inr ⟨rfl, lt_tri r t ?_ fun z => n (by rw [z])⟩
      rcases h.2 with h | h
      · simp at h
      · exact h
    · exact .inl (by omega)
theorem sorted_two {x y : Str} (h : sortedS [x, y] = true) (n : x ≠ y) : decide (x.cps.toList < y.cps.toList) = true := by
  have h : (!ltCps y.cps.toList x.cps.toList && true) = true := h
  rw [Bool.and_true, Bool.not_eq_true'] at h
  rw [lt_meets]
  refine lt_tri _ _ h fun z => n ?_
  rw [← S_of x, ← S_of y, z]
theorem S_list (a : List Nat) : (SX.S a).cps.toList = a := by simp [SX.S]
theorem small_line {n : Nat} (h : n ≤ 1000) : n ≤ sizeLine := Nat.le_trans h (Nat.le_of_lt (small1000 (Nat.le_refl _)))
theorem quote : (Str.ofString "'" : Str) = SX.S [39] := by decide +kernel
abbrev vS (a : List Nat) : V := .str (SX.S a)
def txtL (n d : Int) : List Nat := (if n < 0 then [45] else []) ++ (TL.numL n.natAbs ++ (if d = 1 then [] else 47 :: TL.numL d.natAbs))
theorem dash : (Str.ofString "-" : Str) = SX.S [45] := by decide +kernel
theorem stroke : (Str.ofString "/" : Str) = SX.S [47] := by decide +kernel
theorem emptyS : (Str.ofString "" : Str) = SX.S [] := by decide +kernel
section
variable {P : Program} {w : World} {K : PySem.W.Frag} {mg : Str → Option Value} {base : Heap} {fa : Nat → Addr} {fd : Nat → FuncData}
def intL (n : Int) : List Nat := (if n < 0 then [45] else []) ++ TL.numL n.natAbs
theorem abs_nat (z : Int) : (if z < 0 then -z else z) = (z.natAbs : Int) := by split <;> omega
theorem log_of {n : Nat} (h : n < 10 ^ 62) : n.log2 < 1920 := by
  by_cases h0 : n = 0
  · subst h0
    decide
  · rw [Nat.log2_lt h0]
    exact Nat.lt_trans h (by decide +kernel)
def spNumT : Sp := fun vs H Q _ => ∃ n : Int, vs = [.int n] ∧ n.natAbs < 10 ^ 62 ∧ ∀ H', Same H H' → Q (.str (SX.S (intL n))) H'
theorem ok_p_number_text (T : Txt K mg fa fd) : FnOk P w K mg base CX0 1 (fa 14) (fd 14) ["number"] spNumT := by
  refine T.F_p_number_text.ok sc_p_number_text (fun vs H Q E h => ?_) (fun cdv A outer s H vs Q E hr h => ?_)
  · obtain ⟨a, rfl, _⟩ := h
    rfl
  · obtain ⟨n, rfl, hn, q⟩ := h
    refine ⟨_, (pss_cons (ps_set (i := 1) sc_p_number_text.nd rfl (.inl rfl) (pe_callB call_abs (by rfl) T.m_abs PyProof.Rows.boot_abs (pa_cons (pv 0) pa_nil)))
      (pss_cons (ps_set (i := 2) sc_p_number_text.nd rfl (.inl rfl) (pe_lst pa_nil))
      (pss_cons (ps_while PassesOwn.never (pt_cmpR op_ge (pv 1) (pe_op op_pow pe_int pe_int) (nomark _)) (pss_cons ps_never
      (pss_one ps_never)))
      (pss_cons (ps_expr (pe_bm PySem.F.plainAttrs_list PySem.F.slot_list_append PySem.F.type_list_append mt_append (pv 2) (pa_cons (pe_callTy call_str_int (by rfl) T.m_str (by decide +kernel) (pa_cons (pv 1) pa_nil)) pa_nil)))
      (pss_cons (ps_if (pt_cmpR op_lt (pv 0) pe_int (nomark _)) (pss_one (ps_expr (pe_bm PySem.F.plainAttrs_list PySem.F.slot_list_append PySem.F.type_list_append mt_append (pv 2) (pa_cons pe_str pa_nil)))) pss_nil)
      (pss_one (ps_ret (pe_m1 PySem.F.slot_str_join PySem.F.type_str_join mt_join pe_str (pe_revL (pv 2)) (by rfl) (by rfl) (by rfl))))))))), ?_⟩
    refine ⟨_, rfl, _, rfl, Nat.zero_le _, fun p hp => ?_⟩
    refine ⟨fun m σ H1 => σ = [some (.int n), some (.int (n.natAbs : Int)), some (.ref p), none] ∧ H1 = upd H p (.lst []), ⟨0, by rw [← abs_nat]; rfl, rfl⟩, fun m σ H1 hW => ?_⟩
    obtain ⟨rfl, rfl⟩ := hW
    refine ⟨_, rfl, _, _, rfl, rfl, ⟨by decide, by decide, by decide⟩, _, _, rfl, rfl, _, rfl, ite2 (fun e => ?_) (fun e => ?_)⟩
    · exfalso
      have h1 : (10 : Int) ^ 64 ≤ n.natAbs := of_decide_eq_true e
      have h2 : (n.natAbs : Int) < (10 : Int) ^ 62 := by exact_mod_cast hn
      exact absurd (Int.lt_of_lt_of_le h2 (by decide +kernel : (10 : Int) ^ 62 ≤ 10 ^ 64)) (Int.not_lt.mpr h1)
    · refine ⟨_, rfl, .inl ⟨rfl, _, SqL.of upd_same⟩, _, rfl, _, rfl, log_of hn, p, _, _, rfl, rfl, upd_same, small_line (by show 1 ≤ 1000; decide), ?_⟩
      have sm : ∀ {H1 : Hp} (ys : List V), Same H H1 → Same H (upd H1 p (.lst ys)) := fun ys h1 b u e => by
        rw [upd_ne (ne_of_none e hp)]
        exact h1 b u e
      have sn : ∀ {H1 : Hp} {p2 : Addr} {o : HO}, Same H H1 → H1 p2 = none → Same H (upd H1 p2 o) := fun {H1 p2 o} h1 h2 b u e => by
        rw [upd_ne (ne_of_none (h1 b u e) h2)]
        exact h1 b u e
      have s0 : Same H H := fun b u e => e
      have num : ∀ k : Nat, Str.ofString (toString ((k : Nat) : Int)) = SX.S (TL.numL k) := SX.num_S
      have l63 : (TL.numL n.natAbs).length ≤ 62 := TL.numL_len (by decide) hn
      refine ⟨_, rfl, _, _, rfl, rfl, _, rfl, ite2 (fun e => ?_) (fun e => ?_)⟩
      · refine ⟨_, rfl, .inl ⟨rfl, _, SqL.of upd_same⟩, p, _, _, rfl, rfl, upd_same, small_line (by show 2 ≤ 1000; decide), ?_⟩
        refine ⟨⟨_, rfl⟩, _, rfl, p, _, rfl, SqL.of upd_same, fun p2 hp2 => ⟨_, p2, [Str.ofString "-", Str.ofString (toString (n.natAbs : Int))], rfl, rfl, .inl (SqL.of upd_same), ?_, ?_⟩⟩
        · rw [num, dash, emptyS]
          show (SX.S [45]).length + ((SX.S (TL.numL n.natAbs)).length + 0) + 2 * (SX.S []).length ≤ 16777216
          rw [SX.S_len, SX.S_len, SX.S_len]
          show 1 + _ + 2 * 0 ≤ _
          omega
        · have j : Txt.join (Str.ofString "") [Str.ofString "-", Str.ofString (toString (n.natAbs : Int))] = SX.S (intL n) := by
            rw [num, dash, emptyS]
            have := SX.join_S [] [[45], TL.numL n.natAbs]
            refine this.trans ?_
            unfold intL
            rw [if_pos (of_decide_eq_true e)]
            rfl
          have z := q _ (sn (o := .lst [V.str (Str.ofString "-"), V.str (Str.ofString (toString (n.natAbs : Int)))]) (sm ([] ++ [V.str (Str.ofString (toString (n.natAbs : Int)))] ++ [V.str (Str.ofString "-")]) (sm ([] ++ [V.str (Str.ofString (toString (n.natAbs : Int)))]) (sm [] s0))) hp2)
          rw [← j] at z
          exact z
      · refine ⟨⟨_, rfl⟩, _, rfl, p, _, rfl, SqL.of upd_same, fun p2 hp2 => ⟨_, p2, [Str.ofString (toString (n.natAbs : Int))], rfl, rfl, .inl (SqL.of upd_same), ?_, ?_⟩⟩
        · rw [num, emptyS]
          show ((SX.S (TL.numL n.natAbs)).length + 0) + 1 * (SX.S []).length ≤ 16777216
          rw [SX.S_len, SX.S_len]
          show _ + 1 * 0 ≤ _
          omega
        · have j : Txt.join (Str.ofString "") [Str.ofString (toString (n.natAbs : Int))] = SX.S (intL n) := by
            rw [num, emptyS]
            have := SX.join_S [] [TL.numL n.natAbs]
            refine this.trans ?_
            unfold intL
            rw [if_neg (fun y => e (decide_eq_true y))]
            rfl
          have z := q _ (sn (o := .lst [V.str (Str.ofString (toString (n.natAbs : Int)))]) (sm ([] ++ [V.str (Str.ofString (toString (n.natAbs : Int)))]) (sm [] s0)) hp2)
          rw [← j] at z
          exact z
end
theorem intL_len {n : Int} (h : n.natAbs < 10 ^ 62) : (intL n).length ≤ 63 := by
  have := TL.numL_len (n := n.natAbs) (k := 62) (by decide) h
  unfold intL
  rw [List.length_append]
  split
  · show 1 + _ ≤ _
    omega
  · show 0 + _ ≤ _
    omega
theorem txt_int (n d : Int) (hd : 0 < d) : txtL n d = if d = 1 then intL n else intL n ++ (47 :: intL d) := by
  unfold txtL intL
  have : ¬ d < 0 := by omega
  rw [if_neg this, List.nil_append]
  by_cases h : d = 1
  · rw [if_pos h, if_pos h, List.append_nil]
  · rw [if_neg h, if_neg h, List.append_assoc]
section
variable {P : Program} {w : World} {K : PySem.W.Frag} {mg : Str → Option Value} {base : Heap} {fa : Nat → Addr} {fd : Nat → FuncData}
theorem Same.trans {A B C : Hp} (h1 : Same A B) (h2 : Same B C) : Same A C := fun b u e => h2 b u (h1 b u e)
theorem Same.new {A : Hp} {p : Addr} {o : HO} (h : A p = none) : Same A (upd A p o) := fun b u e => by
  rw [upd_ne (ne_of_none e h)]
  exact e
def spRatT : Sp := fun vs H Q _ => ∃ (p : Addr) (n d : Int), vs = [.ref p] ∧ H p = some (.tup [.int n, .int d]) ∧ 0 < d ∧ n.natAbs < 10 ^ 62 ∧ d.natAbs < 10 ^ 62 ∧ ∀ H', Same H H' → Q (.str (SX.S (txtL n d))) H'
theorem ok_p_ratio_text (T : Txt K mg fa fd) : FnOk P w K mg base CX0 2 (fa 15) (fd 15) ["one"] spRatT := by
  refine T.F_p_ratio_text.ok sc_p_ratio_text (fun vs H Q E h => ?_) (fun cdv A outer s H vs Q E hr h => ?_)
  · obtain ⟨p, n, d, rfl, _⟩ := h
    rfl
  · obtain ⟨p, n, d, rfl, hp, hd, hn, hd2, q⟩ := h
    refine ⟨_, (pss_cons (ps_if (pt_cmpR op_eq (pe_ix ix_tup (pv 0) pe_int (fun _ _ => rfl)) pe_int (nomark _)) (pss_one (ps_ret (pe_call (ok_p_number_text T) (hr.mono (by decide)) (by rfl) T.g_p_number_text T.F_p_number_text.kp T.b_p_number_text .nil pass0 (pa_cons (pe_ix ix_tup (pv 0) pe_int (fun _ _ => rfl)) pa_nil)))) pss_nil)
      (pss_one (ps_ret (pe_op op_add_str (pe_op op_add_str (pe_call (ok_p_number_text T) (hr.mono (by decide)) (by rfl) T.g_p_number_text T.F_p_number_text.kp T.b_p_number_text .nil pass0 (pa_cons (pe_ix ix_tup (pv 0) pe_int (fun _ _ => rfl)) pa_nil)) pe_str) (pe_call (ok_p_number_text T) (hr.mono (by decide)) (by rfl) T.g_p_number_text T.F_p_number_text.kp T.b_p_number_text .nil pass0 (pa_cons (pe_ix ix_tup (pv 0) pe_int (fun _ _ => rfl)) pa_nil)))))), ?_⟩
    refine ⟨_, rfl, p, _, 1, _, rfl, rfl, SqT.of hp, rfl, rfl, _, rfl, ite2 (fun e => ?_) (fun e => ?_)⟩
    · have e1 : d = 1 := V.int.inj (of_decide_eq_true e)
      refine ⟨_, rfl, p, _, 0, _, rfl, rfl, SqT.of hp, rfl, n, rfl, hn, fun H1 s1 => ?_⟩
      have := q H1 s1
      rw [txt_int n d hd, if_pos e1] at this
      exact this
    · have e1 : d ≠ 1 := fun z => e (decide_eq_true (by rw [z]))
      refine ⟨_, rfl, p, _, 0, _, rfl, rfl, SqT.of hp, rfl, n, rfl, hn, fun H1 s1 => ⟨_, _, rfl, rfl, ?_, _, rfl, p, _, 1, _, rfl, rfl, SqT.of (s1 _ _ hp), rfl, d, rfl, hd2, fun H2 s2 => ⟨_, _, rfl, rfl, ?_, ?_⟩⟩⟩
      · rw [stroke, SX.S_len, SX.S_len]
        exact small_line (by have := intL_len hn; show _ + 1 ≤ 1000; omega)
      · rw [stroke, SX.S_cat, SX.S_len, SX.S_len, List.length_append]
        exact small_line (by have := intL_len hn; have := intL_len hd2; show _ + 1 + _ ≤ 1000; omega)
      · have := q H2 (Same.trans s1 s2)
        rw [txt_int n d hd, if_neg e1] at this
        rw [stroke, SX.S_cat, SX.S_cat, List.append_assoc]
        exact this
end
theorem neg_S (m : Nat) : Str.ofString (toString (Int.negSucc m)) = SX.S (45 :: TL.numL (m + 1)) := by
  refine TL.ext_tl ?_
  have h : toString (Int.negSucc m) = "-" ++ toString ((m + 1 : Nat) : Int) := rfl
  rw [h, TL.tl_ofString, String.toList_append, List.map_append, ← TL.tl_ofString, ← TL.tl_ofString, TL.tl_num]
  rfl
theorem str_int (n : Int) : Str.ofString (toString n) = SX.S (intL n) := by
  unfold intL
  match n with
  | .ofNat k =>
    have h : ¬ Int.ofNat k < 0 := by
      show ¬ (k : Int) < 0
      omega
    rw [if_neg h]
    exact SX.num_S k
  | .negSucc k =>
    rw [if_pos (Int.negSucc_lt_zero k)]
    exact neg_S k
section
variable {P : Program} {w : World} {K : PySem.W.Frag} {mg : Str → Option Value} {base : Heap} {fa : Nat → Addr} {fd : Nat → FuncData}
theorem ok_part_text (T : Txt K mg fa fd) : FnOk P w K mg base CX0 2 (fa 40) (fd 40) ["_law_one"] spRatT := by
  refine T.F_part_text.ok sc_part_text (fun vs H Q E h => ?_) (fun cdv A outer s H vs Q E hr h => ?_)
  · obtain ⟨p, n, d, rfl, _⟩ := h
    rfl
  · obtain ⟨p, n, d, rfl, hp, hd, hn, hd2, q⟩ := h
    refine ⟨_, (pss_one (ps_ret (pe_ifExp (pt_cmpR op_eq (pe_ix ix_tup (pv 0) pe_int (fun _ _ => rfl)) pe_int (nomark _)) (pe_callTy call_str_int (by rfl) T.m_str (by decide +kernel) (pa_cons (pe_ix ix_tup (pv 0) pe_int (fun _ _ => rfl)) pa_nil)) (pe_op op_add_str (pe_op op_add_str (pe_callTy call_str_int (by rfl) T.m_str (by decide +kernel) (pa_cons (pe_ix ix_tup (pv 0) pe_int (fun _ _ => rfl)) pa_nil)) pe_str) (pe_callTy call_str_int (by rfl) T.m_str (by decide +kernel) (pa_cons (pe_ix ix_tup (pv 0) pe_int (fun _ _ => rfl)) pa_nil)))))), ?_⟩
    refine ⟨_, rfl, p, _, 1, _, rfl, rfl, SqT.of hp, rfl, rfl, _, rfl, ite2 (fun e => ?_) (fun e => ?_)⟩
    · have e1 : d = 1 := V.int.inj (of_decide_eq_true e)
      refine ⟨_, rfl, p, _, 0, _, rfl, rfl, SqT.of hp, rfl, n, rfl, log_of hn, ?_⟩
      have := q H fun b u e => e
      rw [txt_int n d hd, if_pos e1] at this
      rw [str_int]
      exact this
    · have e1 : d ≠ 1 := fun z => e (decide_eq_true (by rw [z]))
      refine ⟨_, rfl, p, _, 0, _, rfl, rfl, SqT.of hp, rfl, n, rfl, log_of hn, _, _, rfl, rfl, ?_, _, rfl, p, _, 1, _, rfl, rfl, SqT.of hp, rfl, d, rfl, log_of hd2, _, _, rfl, rfl, ?_, ?_⟩
      · rw [str_int, stroke, SX.S_len, SX.S_len]
        exact small_line (by have := intL_len hn; show _ + 1 ≤ 1000; omega)
      · rw [str_int, str_int, stroke, SX.S_cat, SX.S_len, SX.S_len, List.length_append]
        exact small_line (by have := intL_len hn; have := intL_len hd2; show _ + 1 + _ ≤ 1000; omega)
      · have := q H fun b u e => e
        rw [txt_int n d hd, if_neg e1] at this
        rw [str_int, str_int, stroke, SX.S_cat, SX.S_cat, List.append_assoc]
        exact this
end
section
variable {P : Program} {w : World} {K : PySem.W.Frag} {mg : Str → Option Value} {base : Heap} {fa : Nat → Addr} {fd : Nat → FuncData}
abbrev Bd (t : Int) : Prop := t.natAbs.log2 < 4096
theorem bits_bd {v : Nat} (h : v.log2 < 4096) : ¬ ((4096 : Int) < ((Builtin.Int.intBits (v : Int) : Nat) : Int)) := by
  unfold Builtin.Int.intBits
  rw [Int.natAbs_natCast]
  split <;> omega
def spDiv : Sp := fun vs H Q _ => ∃ x y : Int, vs = [.int x, .int y] ∧ (Bd x ∨ Bd y) ∧ Q (.int (Int.gcd x y : Nat)) H
theorem ok_p_common_divisor (T : Txt K mg fa fd) : FnOk P w K mg base CX0 1 (fa 9) (fd 9) ["one", "other"] spDiv := by
  refine T.F_p_common_divisor.ok sc_p_common_divisor (fun vs H Q E h => ?_) (fun cdv A outer s H vs Q E hr h => ?_)
  · obtain ⟨x, y, rfl, _⟩ := h
    rfl
  · obtain ⟨x, y, rfl, hb, q⟩ := h
    refine ⟨_, (pss_cons (ps_set (i := 0) sc_p_common_divisor.nd rfl (.inl rfl) (pe_callB call_abs (by rfl) T.m_abs PyProof.Rows.boot_abs (pa_cons (pv 0) pa_nil)))
      (pss_cons (ps_set (i := 1) sc_p_common_divisor.nd rfl (.inl rfl) (pe_callB call_abs (by rfl) T.m_abs PyProof.Rows.boot_abs (pa_cons (pv 1) pa_nil)))
      (C8.pss_cut (ps_if (pt_cmpR op_lt (pv 0) (pv 1) (nomark _)) (pss_one (ps_par (i := 0) (j := 1) (by rfl) sc_p_common_divisor.nd rfl rfl (by decide) rfl rfl (pa_cons (pv 1) (pa_cons (pv 0) pa_nil)) (by rfl))) pss_nil)
      (pss_cons (ps_while PassesOwn.never (pt_cmpR op_gt (pe_bits (pv 1)) (C8.pe_gc (by rfl) T.c_LONG) (nomark _)) (pss_one ps_never))
      (pss_cons (ps_while PassesOwn.never (pt_cmpR op_gt (pv 1) pe_int (nomark _)) (pss_one (ps_par (i := 0) (j := 1) (by rfl) sc_p_common_divisor.nd rfl rfl (by decide) rfl rfl (pa_cons (pv 1) (pa_cons (pe_op op_mod (pv 0) (pv 1)) pa_nil)) (by rfl))))
      (pss_one (ps_ret (pv 0)))))))), ?_⟩
    refine ⟨_, rfl, _, rfl, _, rfl, _, rfl, ?_⟩
    have ab : ∀ z : Int, (if z < 0 then -z else z) = (z.natAbs : Int) := fun z => by split <;> omega
    rw [ab, ab]
    refine ⟨fun σ H1 => H1 = H ∧ ∃ u v : Nat, σ = [some (.int (u : Int)), some (.int (v : Int))] ∧ v.log2 < 4096 ∧ Nat.gcd u v = Int.gcd x y, ?_, fun σ H1 hM => ?_⟩
    · refine ⟨_, rfl, _, rfl, _, _, rfl, rfl, _, rfl, ite2 (fun e => ?_) (fun e => ?_)⟩
      · have lt : (x.natAbs : Int) < (y.natAbs : Int) := of_decide_eq_true e
        refine ⟨_, rfl, _, rfl, _, _, rfl, rfl, y.natAbs, x.natAbs, rfl, ?_, Nat.gcd_comm _ _⟩
        rcases hb with hb | hb
        · exact hb
        · exact log2_mono (by omega) hb
      · have ge : ¬ (x.natAbs : Int) < (y.natAbs : Int) := fun z => e (decide_eq_true z)
        refine ⟨rfl, x.natAbs, y.natAbs, rfl, ?_, rfl⟩
        rcases hb with hb | hb
        · exact log2_mono (by omega) hb
        · exact hb
    obtain ⟨rfl, u0, v0, rfl, hv0, hg0⟩ := hM
    refine ⟨fun m σ H2 => σ = [some (.int (u0 : Int)), some (.int (v0 : Int))] ∧ H2 = H1, ⟨0, rfl, rfl⟩, fun m σ H2 hW => ?_⟩
    obtain ⟨rfl, rfl⟩ := hW
    refine ⟨_, rfl, _, rfl, _, _, rfl, rfl, _, rfl, ite2 (fun e => absurd (of_decide_eq_true e) (bits_bd hv0)) (fun _ => ?_)⟩
    refine ⟨fun m σ H1 => ∃ u v : Nat, m = v ∧ σ = [some (.int (u : Int)), some (.int (v : Int))] ∧ H1 = H2 ∧ Nat.gcd u v = Int.gcd x y, ⟨_, u0, v0, rfl, rfl, rfl, hg0⟩, fun m σ H1 hW => ?_⟩
    obtain ⟨u, v, rfl, rfl, rfl, hg⟩ := hW
    refine ⟨_, rfl, _, _, rfl, rfl, _, rfl, ite2 (fun e => ?_) (fun e => ?_)⟩
    · have hv : 0 < (m : Int) := of_decide_eq_true e
      refine ⟨fun σ' H' => ∃ m', m' < m ∧ ∃ u v : Nat, m' = v ∧ σ' = [some (.int (u : Int)), some (.int (v : Int))] ∧ H' = H1 ∧ Nat.gcd u v = Int.gcd x y, fun σ' H' h => h, ?_⟩
      refine ⟨_, rfl, _, rfl, _, rfl, _, _, rfl, rfl, hv, ?_⟩
      refine ⟨_, _, rfl, u % m, Nat.mod_lt _ (by omega), m, u % m, rfl, rfl, rfl, ?_⟩
      rw [← hg, Nat.gcd_comm m, ← Nat.gcd_rec, Nat.gcd_comm]
    · have hv : m = 0 := by
        have : ¬ 0 < (m : Int) := fun z => e (decide_eq_true z)
        omega
      subst hv
      refine ⟨_, rfl, ?_⟩
      rw [Nat.gcd_zero_right] at hg
      rw [hg]
      exact q
theorem ok_p_ratio (T : Txt K mg fa fd) : FnOk P w K mg base CX0 3 (fa 10) (fd 10) ["top", "under"] spLow := by
  refine T.F_p_ratio.ok sc_p_ratio (fun vs H Q E h => ?_) (fun cdv A outer s H vs Q E hr h => ?_)
  · obtain ⟨x, y, rfl, _⟩ := h
    rfl
  · obtain ⟨u, v, rfl, ev, h9, q⟩ := h
    refine ⟨_, (pss_cons (ps_if (pt_cmpR op_eq (pv 1) pe_int (nomark _)) (pss_one ps_never) pss_nil)
      (pss_cons (ps_set (i := 2) sc_p_ratio.nd rfl (.inl rfl) (pe_call (ok_p_common_divisor T) (hr.mono (by decide)) (by rfl) T.g_p_common_divisor T.F_p_common_divisor.kp T.b_p_common_divisor .nil pass0 (pa_cons (pv 0) (pa_cons (pv 1) pa_nil))))
      (C8.pss_cut (ps_if (pt_cmpR op_lt (pv 1) pe_int (nomark _)) (pss_one (ps_set (i := 2) sc_p_ratio.nd rfl (.inl rfl) (pe_un un_neg (pv 2)))) pss_nil)
      (pss_one (ps_ret (pe_tup (pa_cons (pe_op op_fdivG (pv 0) (pv 2)) (pa_cons (pe_op op_fdivG (pv 1) (pv 2)) pa_nil)))))))), ?_⟩
    refine ⟨_, rfl, rfl, _, rfl, ite2 (fun e => absurd (V.int.inj (of_decide_eq_true e)) ev) (fun _ => ?_)⟩
    refine ⟨_, rfl, _, rfl, u, v, rfl, .inr h9, ?_⟩
    refine ⟨fun σ H1 => H1 = H ∧ σ = [some (.int u), some (.int v), some (.int (lowG u v))], ?_, fun σ H1 hM => ?_⟩
    · refine ⟨_, rfl, _, _, rfl, rfl, _, rfl, ite2 (fun e => ?_) (fun e => ?_)⟩
      · refine ⟨_, rfl, _, rfl, rfl, ?_⟩
        unfold lowG
        rw [if_pos (of_decide_eq_true e)]
        rfl
      · refine ⟨rfl, ?_⟩
        unfold lowG
        rw [if_neg (fun z => e (decide_eq_true z))]
        rfl
    · obtain ⟨rfl, rfl⟩ := hM
      have hG := lowG_ok (u := u) ev h9
      exact ⟨_, rfl, _, rfl, _, _, rfl, rfl, hG, _, rfl, _, rfl, _, _, rfl, rfl, hG, two_line, q⟩
def Sm (z : Int) : Prop := -(2 ^ 64) < z ∧ z < 2 ^ 64
def SmF (f : Int × Int) : Prop := Sm f.1 ∧ Sm f.2
theorem sm_abs {z : Int} (h : Sm z) : z.natAbs ≤ 18446744073709551616 := by
  have h1 : -(18446744073709551616 : Int) < z := h.1
  have h2 : z < (18446744073709551616 : Int) := h.2
  omega
theorem low_mul_bd {f g : Int × Int} (hf : SmF f) (hg : SmF g) (h : f.2 * g.2 ≠ 0) : Bd (lowT (f.1 * g.1) (f.2 * g.2)) ∧ Bd (lowD (f.1 * g.1) (f.2 * g.2)) := by
  have m : ∀ {x y : Int}, Sm x → Sm y → (x * y).natAbs ≤ 18446744073709551616 * 18446744073709551616 := fun hx hy => by
    rw [Int.natAbs_mul]
    exact Nat.mul_le_mul (sm_abs hx) (sm_abs hy)
  exact ⟨log2_mono (Nat.le_trans (lowT_abs h) (m hf.1 hg.1)) (by decide +kernel), log2_mono (Nat.le_trans (lowD_abs h) (m hf.2 hg.2)) (by decide +kernel)⟩
theorem t0 {x y : V} : atI [x, y] 0 = some x := rfl
theorem t1 {x y : V} : atI [x, y] 1 = some y := rfl
abbrev FF := Int × Int → Int × Int → Int × Int
def fAdd : FF := fun f g => (f.1 * g.2 + g.1 * f.2, f.2 * g.2)
def fMul : FF := fun f g => (f.1 * g.1, f.2 * g.2)
def ltF (f g : Int × Int) : Bool := decide (f.1 * g.2 < g.1 * f.2)
/-- a fraction at p, drawn or written -/
abbrev FrK (K : PySem.W.Frag) (H : Hp) (p : Addr) (f : Int × Int) : Prop := SqT K H p [.int f.1, .int f.2]
def spLw (K : PySem.W.Frag) (F : FF) : Sp := fun vs H Q E => ∃ (p q : Addr) (f g : Int × Int), vs = [.ref p, .ref q] ∧ FrK K H p f ∧ FrK K H q g ∧ SmF f ∧ SmF g ∧ spLow [.int (F f g).1, .int (F f g).2] H Q E
def spUnder (K : PySem.W.Frag) : Sp := fun vs H Q _ => ∃ (p q : Addr) (f g : Int × Int), vs = [.ref p, .ref q] ∧ FrK K H p f ∧ FrK K H q g ∧ SmF f ∧ SmF g ∧ Q (.bl (ltF f g)) H
theorem ok_p_add (T : Txt K mg fa fd) : FnOk P w K mg base CX0 4 (fa 11) (fd 11) ["one", "other"] (spLw K fAdd) := by
  refine T.F_p_add.ok sc_p_add (fun vs H Q E h => ?_) (fun cdv A outer s H vs Q E hr h => ?_)
  · obtain ⟨p, q, f, g, rfl, _⟩ := h
    rfl
  · obtain ⟨p, r, f, g, rfl, hp, hr', sf, sg, q⟩ := h
    refine ⟨_, (pss_one (ps_ret (pe_call (ok_p_ratio T) (hr.mono (by decide)) (by rfl) T.g_p_ratio T.F_p_ratio.kp T.b_p_ratio .nil pass0 (pa_cons (pe_op op_add (pe_op op_mul (pe_ix ix_tup (pv 0) pe_int (fun _ _ => rfl)) (pe_ix ix_tup (pv 1) pe_int (fun _ _ => rfl))) (pe_op op_mul (pe_ix ix_tup (pv 1) pe_int (fun _ _ => rfl)) (pe_ix ix_tup (pv 0) pe_int (fun _ _ => rfl)))) (pa_cons (pe_op op_mul (pe_ix ix_tup (pv 0) pe_int (fun _ _ => rfl)) (pe_ix ix_tup (pv 1) pe_int (fun _ _ => rfl))) pa_nil))))), ?_⟩
    exact ⟨_, rfl, p, _, _, _, rfl, rfl, hp, t0, _, rfl, r, _, _, _, rfl, rfl, hr', t1, _, _, rfl, rfl, .inl sf.1,
      _, rfl, r, _, _, _, rfl, rfl, hr', t0, _, rfl, p, _, _, _, rfl, rfl, hp, t1, _, _, rfl, rfl, .inl sg.1, _, _, rfl, rfl,
      _, rfl, p, _, _, _, rfl, rfl, hp, t1, _, rfl, r, _, _, _, rfl, rfl, hr', t1, _, _, rfl, rfl, .inl sf.2, q⟩
theorem ok_p_multiply (T : Txt K mg fa fd) : FnOk P w K mg base CX0 4 (fa 12) (fd 12) ["one", "other"] (spLw K fMul) := by
  refine T.F_p_multiply.ok sc_p_multiply (fun vs H Q E h => ?_) (fun cdv A outer s H vs Q E hr h => ?_)
  · obtain ⟨p, q, f, g, rfl, _⟩ := h
    rfl
  · obtain ⟨p, r, f, g, rfl, hp, hr', sf, sg, q⟩ := h
    refine ⟨_, (pss_one (ps_ret (pe_call (ok_p_ratio T) (hr.mono (by decide)) (by rfl) T.g_p_ratio T.F_p_ratio.kp T.b_p_ratio .nil pass0 (pa_cons (pe_op op_mul (pe_ix ix_tup (pv 0) pe_int (fun _ _ => rfl)) (pe_ix ix_tup (pv 1) pe_int (fun _ _ => rfl))) (pa_cons (pe_op op_mul (pe_ix ix_tup (pv 0) pe_int (fun _ _ => rfl)) (pe_ix ix_tup (pv 1) pe_int (fun _ _ => rfl))) pa_nil))))), ?_⟩
    exact ⟨_, rfl, p, _, _, _, rfl, rfl, hp, t0, _, rfl, r, _, _, _, rfl, rfl, hr', t0, _, _, rfl, rfl, .inl sf.1,
      _, rfl, p, _, _, _, rfl, rfl, hp, t1, _, rfl, r, _, _, _, rfl, rfl, hr', t1, _, _, rfl, rfl, .inl sf.2, q⟩
theorem ok_plus (T : Txt K mg fa fd) : FnOk P w K mg base CX0 4 (fa 29) (fd 29) ["_law_one", "_law_two"] (spLw K fAdd) := by
  refine T.F_plus.ok sc_plus (fun vs H Q E h => ?_) (fun cdv A outer s H vs Q E hr h => ?_)
  · obtain ⟨p, q, f, g, rfl, _⟩ := h
    rfl
  · obtain ⟨p, r, f, g, rfl, hp, hr', sf, sg, q⟩ := h
    refine ⟨_, (pss_one (ps_ret (pe_call (ok_low T) (hr.mono (by decide)) (by rfl) T.g_low T.F_low.kp T.b_low .nil pass0 (pa_cons (pe_op op_add (pe_op op_mul (pe_ix ix_tup (pv 0) pe_int (fun _ _ => rfl)) (pe_ix ix_tup (pv 1) pe_int (fun _ _ => rfl))) (pe_op op_mul (pe_ix ix_tup (pv 1) pe_int (fun _ _ => rfl)) (pe_ix ix_tup (pv 0) pe_int (fun _ _ => rfl)))) (pa_cons (pe_op op_mul (pe_ix ix_tup (pv 0) pe_int (fun _ _ => rfl)) (pe_ix ix_tup (pv 1) pe_int (fun _ _ => rfl))) pa_nil))))), ?_⟩
    exact ⟨_, rfl, p, _, _, _, rfl, rfl, hp, t0, _, rfl, r, _, _, _, rfl, rfl, hr', t1, _, _, rfl, rfl, .inl sf.1,
      _, rfl, r, _, _, _, rfl, rfl, hr', t0, _, rfl, p, _, _, _, rfl, rfl, hp, t1, _, _, rfl, rfl, .inl sg.1, _, _, rfl, rfl,
      _, rfl, p, _, _, _, rfl, rfl, hp, t1, _, rfl, r, _, _, _, rfl, rfl, hr', t1, _, _, rfl, rfl, .inl sf.2, q⟩
theorem ok_by (T : Txt K mg fa fd) : FnOk P w K mg base CX0 4 (fa 30) (fd 30) ["_law_one", "_law_two"] (spLw K fMul) := by
  refine T.F_by.ok sc_by (fun vs H Q E h => ?_) (fun cdv A outer s H vs Q E hr h => ?_)
  · obtain ⟨p, q, f, g, rfl, _⟩ := h
    rfl
  · obtain ⟨p, r, f, g, rfl, hp, hr', sf, sg, q⟩ := h
    refine ⟨_, (pss_one (ps_ret (pe_call (ok_low T) (hr.mono (by decide)) (by rfl) T.g_low T.F_low.kp T.b_low .nil pass0 (pa_cons (pe_op op_mul (pe_ix ix_tup (pv 0) pe_int (fun _ _ => rfl)) (pe_ix ix_tup (pv 1) pe_int (fun _ _ => rfl))) (pa_cons (pe_op op_mul (pe_ix ix_tup (pv 0) pe_int (fun _ _ => rfl)) (pe_ix ix_tup (pv 1) pe_int (fun _ _ => rfl))) pa_nil))))), ?_⟩
    exact ⟨_, rfl, p, _, _, _, rfl, rfl, hp, t0, _, rfl, r, _, _, _, rfl, rfl, hr', t0, _, _, rfl, rfl, .inl sf.1,
      _, rfl, p, _, _, _, rfl, rfl, hp, t1, _, rfl, r, _, _, _, rfl, rfl, hr', t1, _, _, rfl, rfl, .inl sf.2, q⟩
theorem ok_under (T : Txt K mg fa fd) : FnOk P w K mg base CX0 1 (fa 31) (fd 31) ["_law_one", "_law_two"] (spUnder K) := by
  refine T.F_under.ok sc_under (fun vs H Q E h => ?_) (fun cdv A outer s H vs Q E hr h => ?_)
  · obtain ⟨p, q, f, g, rfl, _⟩ := h
    rfl
  · obtain ⟨p, r, f, g, rfl, hp, hr', sf, sg, q⟩ := h
    exact ⟨_, (pss_one (ps_ret (pe_cmpR op_lt (pe_op op_mul (pe_ix ix_tup (pv 0) pe_int (fun _ _ => rfl)) (pe_ix ix_tup (pv 1) pe_int (fun _ _ => rfl))) (pe_op op_mul (pe_ix ix_tup (pv 1) pe_int (fun _ _ => rfl)) (pe_ix ix_tup (pv 0) pe_int (fun _ _ => rfl))) (nomark _)))), _, rfl, p, _, _, _, rfl, rfl, hp, t0, _, rfl, r, _, _, _, rfl, rfl, hr', t1, _, _, rfl, rfl, .inl sf.1,
      _, rfl, r, _, _, _, rfl, rfl, hr', t0, _, rfl, p, _, _, _, rfl, rfl, hp, t1, _, _, rfl, rfl, .inl sg.1, _, _, rfl, rfl, q⟩
theorem ok_p_is_less (T : Txt K mg fa fd) : FnOk P w K mg base CX0 1 (fa 13) (fd 13) ["one", "other"] (spUnder K) := by
  refine T.F_p_is_less.ok sc_p_is_less (fun vs H Q E h => ?_) (fun cdv A outer s H vs Q E hr h => ?_)
  · obtain ⟨p, q, f, g, rfl, _⟩ := h
    rfl
  · obtain ⟨p, r, f, g, rfl, hp, hr', sf, sg, q⟩ := h
    exact ⟨_, (pss_one (ps_ret (pe_cmpR op_lt (pe_op op_mul (pe_ix ix_tup (pv 0) pe_int (fun _ _ => rfl)) (pe_ix ix_tup (pv 1) pe_int (fun _ _ => rfl))) (pe_op op_mul (pe_ix ix_tup (pv 1) pe_int (fun _ _ => rfl)) (pe_ix ix_tup (pv 0) pe_int (fun _ _ => rfl))) (nomark _)))), _, rfl, p, _, _, _, rfl, rfl, hp, t0, _, rfl, r, _, _, _, rfl, rfl, hr', t1, _, _, rfl, rfl, .inl sf.1,
      _, rfl, r, _, _, _, rfl, rfl, hr', t0, _, rfl, p, _, _, _, rfl, rfl, hp, t1, _, _, rfl, rfl, .inl sg.1, _, _, rfl, rfl, q⟩
end
/-! ### the mathematics of reduced ties -/
theorem lowT_self {u v : Int} (hv : v ≠ 0) : lowT u v * v = u * lowD u v := by
  have e1 := lowT_mul (u := u) hv
  have e2 := lowD_mul (u := u) hv
  generalize lowG u v = g at e1 e2
  generalize lowT u v = a at e1 ⊢
  generalize lowD u v = b at e2 ⊢
  subst e1 e2
  rw [← Int.mul_assoc, Int.mul_comm a g]
theorem lowG_scale (u v m : Int) (hm : m ≠ 0) : v ≠ 0 → lowG (u * m) (v * m) = lowG u v * m := fun hv => by
  have g : (Int.gcd (u * m) (v * m) : Int) = (Int.gcd u v : Int) * (m.natAbs : Int) := by
    rw [Int.gcd_mul_right]
    exact Int.natCast_mul _ _
  unfold lowG
  rw [g]
  rcases Int.lt_trichotomy m 0 with h | h | h
  · have em : (m.natAbs : Int) = -m := by omega
    rw [em, Int.mul_neg, Int.neg_neg]
    by_cases h2 : v < 0
    · have := Int.mul_pos_of_neg_of_neg h2 h
      rw [if_neg (by omega), if_pos h2, Int.neg_mul]
    · have := Int.mul_neg_of_pos_of_neg (show 0 < v by omega) h
      rw [if_pos this, if_neg h2]
  · exact absurd h hm
  · have em : (m.natAbs : Int) = m := by omega
    rw [em]
    by_cases h2 : v < 0
    · have := Int.mul_neg_of_neg_of_pos h2 h
      rw [if_pos this, if_pos h2, Int.neg_mul]
    · have := Int.mul_pos (show 0 < v by omega) h
      rw [if_neg (by omega), if_neg h2]
theorem fdiv_scale {g u m : Int} (hg : g ≠ 0) (hm : m ≠ 0) (hd : g ∣ u) : (u * m).fdiv (g * m) = u.fdiv g := by
  obtain ⟨t, rfl⟩ := hd
  have hgm : g * m ≠ 0 := Int.mul_ne_zero hg hm
  rw [Int.mul_fdiv_cancel_left _ hg, show g * t * m = g * m * t by rw [Int.mul_assoc, Int.mul_comm t m, Int.mul_assoc], Int.mul_fdiv_cancel_left _ hgm]
theorem lowT_scale {u v m : Int} (hm : m ≠ 0) (hv : v ≠ 0) : lowT (u * m) (v * m) = lowT u v := by
  unfold lowT
  rw [lowG_scale u v m hm hv]
  exact fdiv_scale (lowG_ne hv) hm (lowG_dvd_left u v)
theorem lowD_scale {u v m : Int} (hm : m ≠ 0) (hv : v ≠ 0) : lowD (u * m) (v * m) = lowD u v := by
  unfold lowD
  rw [lowG_scale u v m hm hv]
  exact fdiv_scale (lowG_ne hv) hm (lowG_dvd_right u v)
theorem lowG_one (u : Int) : lowG u 1 = 1 := by
  unfold lowG
  rw [if_neg (by decide), Int.gcd_one_right]
  rfl
theorem lowT_one (u : Int) : lowT u 1 = u := by
  unfold lowT
  rw [lowG_one, Int.fdiv_one]
theorem lowD_one (u : Int) : lowD u 1 = 1 := by
  unfold lowD
  rw [lowG_one]
  rfl
abbrev FR := Int × Int
def lowF (u v : Int) : FR := (lowT u v, lowD u v)
theorem low_cross {u v u' v' : Int} (hv : v ≠ 0) (hv' : v' ≠ 0) (h : u * v' = u' * v) : lowF u v = lowF u' v' := by
  unfold lowF
  rw [← lowT_scale hv' hv, ← lowD_scale hv' hv, h, ← lowT_scale (u := u') hv hv', ← lowD_scale (u := u') hv hv', Int.mul_comm v v']
/-- the least common denominator, as it is worked out -/
def lcmF (u : Int) : List FR → Int
  | [] => u
  | f :: r => lcmF ((u * f.2).fdiv (Int.gcd u f.2 : Nat)) r
def gcdF (L : Int) (g : Int) : List FR → Int
  | [] => g
  | f :: r => gcdF L (Int.gcd g (L.fdiv f.2 * f.1) : Nat) r
def scl (rs : List FR) : FR := lowF (lcmF 1 rs) (gcdF (lcmF 1 rs) 0 rs)
def redF (s f : FR) : FR := lowF (f.1 * s.1) (f.2 * s.2)
def gl (l : List Int) : Nat := l.foldr (fun m g => Nat.gcd m.natAbs g) 0
theorem gl_mul (A : Int) : ∀ l : List Int, gl (l.map (· * A)) = gl l * A.natAbs
  | [] => (Nat.zero_mul _).symm
  | m :: l => by
    show Nat.gcd (m * A).natAbs (gl (l.map (· * A))) = Nat.gcd m.natAbs (gl l) * A.natAbs
    rw [gl_mul A l, Int.natAbs_mul, Nat.gcd_mul_right]
theorem lcm_step {u d : Int} (hu : 0 < u) (hd : 0 < d) : 0 < (u * d).fdiv (Int.gcd u d : Nat) ∧ u ∣ (u * d).fdiv (Int.gcd u d : Nat) ∧ d ∣ (u * d).fdiv (Int.gcd u d : Nat) := by
  have gp : 0 < Int.gcd u d := gcd_pos (by omega)
  obtain ⟨a, ha⟩ := Int.gcd_dvd_left u d
  obtain ⟨b, hb⟩ := Int.gcd_dvd_right u d
  have g0 : ((Int.gcd u d : Nat) : Int) ≠ 0 := by omega
  have e : (u * d).fdiv (Int.gcd u d : Nat) = u * b := by
    rw [show u * d = ((Int.gcd u d : Nat) : Int) * (u * b) by
      rw [← Int.mul_assoc, Int.mul_comm _ u, Int.mul_assoc, ← hb]]
    exact Int.mul_fdiv_cancel_left _ g0
  have bp : 0 < b := by
    rcases Int.lt_trichotomy b 0 with h | h | h
    · have := Int.mul_neg_of_pos_of_neg (show (0 : Int) < (Int.gcd u d : Nat) by omega) h
      omega
    · rw [h, Int.mul_zero] at hb
      omega
    · exact h
  rw [e]
  refine ⟨Int.mul_pos hu bp, ⟨b, rfl⟩, ⟨a, ?_⟩⟩
  have : ((Int.gcd u d : Nat) : Int) * (u * b) = ((Int.gcd u d : Nat) : Int) * (d * a) := by
    calc ((Int.gcd u d : Nat) : Int) * (u * b) = u * (((Int.gcd u d : Nat) : Int) * b) := by rw [← Int.mul_assoc, Int.mul_comm _ u, Int.mul_assoc]
      _ = u * d := by rw [← hb]
      _ = d * u := Int.mul_comm ..
      _ = d * (((Int.gcd u d : Nat) : Int) * a) := by rw [← ha]
      _ = _ := by rw [← Int.mul_assoc, Int.mul_comm d, Int.mul_assoc]
  exact Int.eq_of_mul_eq_mul_left g0 this
theorem lcmF_ok : ∀ (rs : List FR) (u : Int), 0 < u → (∀ f ∈ rs, 0 < f.2) → 0 < lcmF u rs ∧ u ∣ lcmF u rs ∧ ∀ f ∈ rs, f.2 ∣ lcmF u rs
  | [], u, hu, _ => ⟨hu, ⟨1, (Int.mul_one u).symm⟩, fun _ h => nomatch h⟩
  | f :: r, u, hu, h => by
    have hf := h f List.mem_cons_self
    obtain ⟨h1, h2, h3⟩ := lcm_step hu hf
    obtain ⟨k1, k2, k3⟩ := lcmF_ok r _ h1 fun g hg => h g (List.mem_cons_of_mem _ hg)
    refine ⟨k1, Int.dvd_trans h2 k2, fun g hg => ?_⟩
    rcases List.mem_cons.mp hg with rfl | hg
    · exact Int.dvd_trans h3 k2
    · exact k3 g hg
theorem gcdF_gl (L : Int) : ∀ (rs : List FR) (g : Nat), gcdF L (g : Int) rs = (Nat.gcd g (gl (rs.map fun f => L.fdiv f.2 * f.1)) : Nat)
  | [], g => by
    show (g : Int) = (Nat.gcd g 0 : Nat)
    rw [Nat.gcd_zero_right]
  | f :: r, g => by
    show gcdF L (Int.gcd g (L.fdiv f.2 * f.1) : Nat) r = _
    rw [gcdF_gl L r]
    show ((Nat.gcd (Nat.gcd _ _) _ : Nat) : Int) = (Nat.gcd g (Nat.gcd _ _) : Nat)
    rw [Nat.gcd_assoc]
    rfl
theorem gl_dvd : ∀ (l : List Int) (m : Int), m ∈ l → (gl l : Int) ∣ m
  | a :: l, m, h => by
    have e1 : ((Nat.gcd a.natAbs (gl l) : Nat) : Int) ∣ a := Int.ofNat_dvd_left.mpr (Nat.gcd_dvd_left _ _)
    rcases List.mem_cons.mp h with rfl | h
    · exact e1
    · exact Int.dvd_trans (Int.natCast_dvd_natCast.mpr (Nat.gcd_dvd_right _ _)) (gl_dvd l m h)
/-- good rates -/
def RsOk (rs : List FR) : Prop := rs ≠ [] ∧ ∀ f ∈ rs, 0 < f.2 ∧ f.1 ≠ 0
theorem red_facts {rs : List FR} (h : RsOk rs) : ∃ L G : Int, 0 < L ∧ 0 < G ∧ lcmF 1 rs = L ∧ gcdF L 0 rs = G ∧ ∃ m : FR → Int, (∀ f ∈ rs, m f * G * f.2 = L * f.1) ∧ gl (rs.map m) = 1 := by
  obtain ⟨Lp, _, Ld⟩ := lcmF_ok rs 1 (by decide) fun f hf => (h.2 f hf).1
  have eG := gcdF_gl (lcmF 1 rs) rs 0
  rw [Nat.gcd_zero_left] at eG
  generalize lcmF 1 rs = L at Lp Ld eG ⊢
  have es : ∀ f ∈ rs, L.fdiv f.2 * f.1 * f.2 = L * f.1 ∧ L.fdiv f.2 * f.1 ≠ 0 := fun f hf => by
    obtain ⟨t, ht⟩ := Ld f hf
    have f0 : f.2 ≠ 0 := by have := (h.2 f hf).1; omega
    rw [ht, Int.mul_fdiv_cancel_left _ f0]
    refine ⟨by rw [Int.mul_comm f.2 t, Int.mul_right_comm], ?_⟩
    refine Int.mul_ne_zero (fun z => ?_) (h.2 f hf).2
    rw [z, Int.mul_zero] at ht
    omega
  have Gn : gl (rs.map fun f => L.fdiv f.2 * f.1) ≠ 0 := fun z => by
    obtain ⟨f, r, rfl⟩ : ∃ f r, rs = f :: r := by
      cases rs with
      | nil => exact absurd rfl h.1
      | cons f r => exact ⟨f, r, rfl⟩
    have := gl_dvd _ _ (List.mem_map_of_mem (f := fun f : FR => L.fdiv f.2 * f.1) (List.mem_cons_self (a := f) (l := r)))
    rw [z] at this
    exact (es f List.mem_cons_self).2 (Int.zero_dvd.mp this)
  refine ⟨L, gcdF L 0 rs, Lp, ?_, rfl, rfl, fun f => (L.fdiv f.2 * f.1).fdiv (gcdF L 0 rs), ?_, ?_⟩
  · rw [show gcdF L 0 rs = _ from eG]
    omega
  all_goals
    have eG : gcdF L 0 rs = _ := eG
    have dv : ∀ f ∈ rs, (L.fdiv f.2 * f.1).fdiv (gcdF L 0 rs) * gcdF L 0 rs = L.fdiv f.2 * f.1 := fun f hf => by
      have := gl_dvd _ _ (List.mem_map_of_mem (f := fun f : FR => L.fdiv f.2 * f.1) hf)
      rw [← eG] at this
      obtain ⟨t, ht⟩ := this
      rw [ht, Int.mul_fdiv_cancel_left _ (by rw [eG]; omega), Int.mul_comm]
  · intro f hf
    rw [dv f hf]
    exact (es f hf).1
  · have e2 := gl_mul (gcdF L 0 rs) (rs.map fun f => (L.fdiv f.2 * f.1).fdiv (gcdF L 0 rs))
    have cg : (rs.map fun f => (L.fdiv f.2 * f.1).fdiv (gcdF L 0 rs)).map (· * gcdF L 0 rs) = rs.map fun f => L.fdiv f.2 * f.1 := by
      rw [List.map_map]
      exact List.map_congr_left fun f hf => dv f hf
    rw [cg] at e2
    have e3 : (gcdF L 0 rs).natAbs = gl (rs.map fun f => L.fdiv f.2 * f.1) := by
      rw [eG]
      exact Int.natAbs_natCast _
    rw [e3] at e2
    have : 1 * gl (rs.map fun f => L.fdiv f.2 * f.1) = gl (rs.map fun f => (L.fdiv f.2 * f.1).fdiv (gcdF L 0 rs)) * gl (rs.map fun f => L.fdiv f.2 * f.1) := by rw [Nat.one_mul]; exact e2
    exact (Nat.eq_of_mul_eq_mul_right (by omega) this).symm
theorem cancel3 {k a b : Int} (hk : k ≠ 0) (h : k * a = k * b) : a = b := Int.eq_of_mul_eq_mul_left hk h
/-- a rate times the scale: a whole number -/
theorem redF_of {L G n d m : Int} (hL : 0 < L) (hG : 0 < G) (hd : 0 < d) (h : m * G * d = L * n) : redF (lowF L G) (n, d) = (m, 1) := by
  have e := lowT_self (u := L) (v := G) (by omega)
  have dp := lowD_pos (u := L) (v := G) (by omega)
  unfold redF lowF at *
  have := low_cross (u := n * lowT L G) (v := d * lowD L G) (u' := m) (v' := 1) (Int.mul_ne_zero (by omega) (by omega)) (by decide) ?_
  · unfold lowF at this
    rw [lowT_one, lowD_one] at this
    exact this
  · show n * lowT L G * 1 = m * (d * lowD L G)
    refine cancel3 (k := G) (by omega) ?_
    generalize lowT L G = a at *
    generalize lowD L G = b at *
    calc G * (n * a * 1) = n * (a * G) := by rw [Int.mul_one, Int.mul_comm G, Int.mul_assoc]
      _ = n * (L * b) := by rw [e]
      _ = L * n * b := by rw [← Int.mul_assoc, Int.mul_comm n L]
      _ = m * G * d * b := by rw [h]
      _ = G * (m * (d * b)) := by rw [Int.mul_comm m G, Int.mul_assoc, Int.mul_assoc]
theorem red_scaled {rs : List FR} (h : RsOk rs) {p q : Int} (hp : 0 < p) (hq : 0 < q) :
    RsOk (rs.map fun f => lowF (f.1 * p) (f.2 * q)) ∧ (∀ f ∈ rs, redF (scl (rs.map fun f => lowF (f.1 * p) (f.2 * q))) (lowF (f.1 * p) (f.2 * q)) = redF (scl rs) f) ∧
    ∀ b : FR, 0 < b.2 → redF (scl (rs.map fun f => lowF (f.1 * p) (f.2 * q))) (lowF (b.1 * p) (b.2 * q)) = redF (scl rs) b := by
  have fq : ∀ f ∈ rs, f.2 * q ≠ 0 := fun f hf => Int.mul_ne_zero (by have := (h.2 f hf).1; omega) (by omega)
  have h' : RsOk (rs.map fun f => lowF (f.1 * p) (f.2 * q)) := by
    refine ⟨fun z => h.1 (List.map_eq_nil_iff.mp z), fun g hg => ?_⟩
    obtain ⟨f, hf, rfl⟩ := List.mem_map.mp hg
    refine ⟨lowD_pos (fq f hf), fun z => ?_⟩
    have e := lowT_self (u := f.1 * p) (fq f hf)
    have z : lowT (f.1 * p) (f.2 * q) = 0 := z
    rw [z, Int.zero_mul] at e
    have dp := lowD_pos (u := f.1 * p) (fq f hf)
    exact (Int.mul_ne_zero (Int.mul_ne_zero (h.2 f hf).2 (by omega)) (by omega)) e.symm
  obtain ⟨L, G, Lp, Gp, eL, eG, m, hm, hg⟩ := red_facts h
  obtain ⟨L', G', Lp', Gp', eL', eG', m', hm', hg'⟩ := red_facts h'
  have es : scl rs = lowF L G := by unfold scl; rw [eL, eG]
  have es' : scl (rs.map fun f => lowF (f.1 * p) (f.2 * q)) = lowF L' G' := by unfold scl; rw [eL', eG']
  -- m' (G' q L) = m (L' p G)
  have key : ∀ f ∈ rs, m' (lowF (f.1 * p) (f.2 * q)) * (G' * q * L) = m f * (L' * p * G) := fun f hf => by
    have e1 := hm f hf
    have e2 := hm' _ (List.mem_map_of_mem (f := fun f : FR => lowF (f.1 * p) (f.2 * q)) hf)
    have e3 := lowT_self (u := f.1 * p) (fq f hf)
    have dp := lowD_pos (u := f.1 * p) (fq f hf)
    have fd := (h.2 f hf).1
    generalize m' (lowF (f.1 * p) (f.2 * q)) = M' at *
    change M' * G' * lowD (f.1 * p) (f.2 * q) = L' * lowT (f.1 * p) (f.2 * q) at e2
    generalize lowT (f.1 * p) (f.2 * q) = a at *
    generalize lowD (f.1 * p) (f.2 * q) = b at *
    generalize m f = M at *
    generalize f.1 = n at *
    generalize f.2 = d at *
    refine cancel3 (k := b * d) (Int.mul_ne_zero (by omega) (by omega)) ?_
    calc b * d * (M' * (G' * q * L)) = (M' * G' * b) * (d * q) * L := by ac_rfl
      _ = (L' * a) * (d * q) * L := by rw [e2]
      _ = L' * (a * (d * q)) * L := by ac_rfl
      _ = L' * (n * p * b) * L := by rw [e3]
      _ = L' * p * b * (L * n) := by ac_rfl
      _ = L' * p * b * (M * G * d) := by rw [e1]
      _ = b * d * (M * (L' * p * G)) := by ac_rfl
  have Bp : 0 < G' * q * L := Int.mul_pos (Int.mul_pos Gp' hq) Lp
  have Ap : 0 < L' * p * G := Int.mul_pos (Int.mul_pos Lp' hp) Gp
  have AB : G' * q * L = L' * p * G := by
    have g1 := gl_mul (G' * q * L) (rs.map fun f => m' (lowF (f.1 * p) (f.2 * q)))
    have g2 := gl_mul (L' * p * G) (rs.map m)
    have g3 : gl (rs.map fun f => m' (lowF (f.1 * p) (f.2 * q))) = 1 := by
      rw [List.map_map] at hg'
      exact hg'
    rw [g3, List.map_map, Nat.one_mul] at g1
    rw [hg, List.map_map, Nat.one_mul] at g2
    have g4 : rs.map ((· * (G' * q * L)) ∘ fun f => m' (lowF (f.1 * p) (f.2 * q))) = rs.map ((· * (L' * p * G)) ∘ m) := List.map_congr_left fun f hf => key f hf
    rw [g4, g2] at g1
    omega
  refine ⟨h', fun f hf => ?_, fun b hb => ?_⟩
  · have e := key f hf
    rw [AB] at e
    have e := Int.eq_of_mul_eq_mul_right (by omega) e
    rw [es, es', redF_of Lp Gp (h.2 f hf).1 (hm f hf), ← e]
    exact redF_of Lp' Gp' (lowD_pos (fq f hf)) (hm' _ (List.mem_map_of_mem (f := fun f : FR => lowF (f.1 * p) (f.2 * q)) hf))
  · rw [es, es']
    have bq : b.2 * q ≠ 0 := Int.mul_ne_zero (by omega) (by omega)
    have e3 := lowT_self (u := b.1 * p) bq
    have dp := lowD_pos (u := b.1 * p) bq
    have s1 := lowT_self (u := L) (v := G) (by omega)
    have s2 := lowT_self (u := L') (v := G') (by omega)
    have dp1 := lowD_pos (u := L) (v := G) (by omega)
    have dp2 := lowD_pos (u := L') (v := G') (by omega)
    unfold redF
    refine low_cross (Int.mul_ne_zero (show lowD (b.1 * p) (b.2 * q) ≠ 0 by omega) (show lowD L' G' ≠ 0 by omega)) (Int.mul_ne_zero (by omega) (show lowD L G ≠ 0 by omega)) ?_
    show lowT (b.1 * p) (b.2 * q) * lowT L' G' * (b.2 * lowD L G) = b.1 * lowT L G * (lowD (b.1 * p) (b.2 * q) * lowD L' G')
    generalize lowT (b.1 * p) (b.2 * q) = x at *
    generalize lowD (b.1 * p) (b.2 * q) = y at *
    generalize lowT L G = u at *
    generalize lowD L G = v at *
    generalize lowT L' G' = u' at *
    generalize lowD L' G' = v' at *
    refine cancel3 (k := q * G' * G) (Int.mul_ne_zero (Int.mul_ne_zero (by omega) (by omega)) (by omega)) ?_
    calc q * G' * G * (x * u' * (b.2 * v)) = (x * (b.2 * q)) * (u' * G') * (v * G) := by ac_rfl
      _ = (b.1 * p * y) * (L' * v') * (v * G) := by rw [e3, s2]
      _ = b.1 * y * v' * v * (L' * p * G) := by ac_rfl
      _ = b.1 * y * v' * v * (G' * q * L) := by rw [AB]
      _ = b.1 * (L * v) * y * v' * q * G' := by ac_rfl
      _ = b.1 * (u * G) * y * v' * q * G' := by rw [s1]
      _ = q * G' * G * (b.1 * u * (y * v')) := by ac_rfl
theorem lcmF_app (u : Int) : ∀ l r : List FR, lcmF u (l ++ r) = lcmF (lcmF u l) r := fun l r => by
  induction l generalizing u with
  | nil => rfl
  | cons f l ih => exact ih _
theorem gcdF_app (L g : Int) : ∀ l r : List FR, gcdF L g (l ++ r) = gcdF L (gcdF L g l) r := fun l r => by
  induction l generalizing g with
  | nil => rfl
  | cons f l ih => exact ih _
theorem gcdF_nn (L : Int) : ∀ (rs : List FR) (g : Int), 0 ≤ g → 0 ≤ gcdF L g rs
  | [], _, h => h
  | _ :: r, _, _ => gcdF_nn L r _ (Int.natCast_nonneg _)
def BdF (f : FR) : Prop := f.1.natAbs ≤ 1000000 ∧ 0 < f.2 ∧ f.2 ≤ 1000000
abbrev frP (f : FR) : PyData := .tuple [.int f.1, .int f.2]
abbrev tmP (t : List Nat × FR) : PyData := .tuple [.str (SX.S t.1), frP t.2]
abbrev tieP (tl : List (List Nat × FR)) (b : FR) : PyData := .tuple [.tuple (tl.map tmP), frP b]
def rts (tl : List (List Nat × FR)) : List FR := tl.map (·.2)
def redL (tl : List (List Nat × FR)) : List (List Nat × FR) := tl.map fun t => (t.1, redF (scl (rts tl)) t.2)
abbrev redP (tl : List (List Nat × FR)) (b : FR) : PyData := tieP (redL tl) (redF (scl (rts tl)) b)
def TlOk (tl : List (List Nat × FR)) : Prop := (tl.length = 1 ∨ tl.length = 2) ∧ ∀ t ∈ tl, t.2.1 ≠ 0 ∧ BdF t.2 ∧ t.1.length ≤ 7
theorem TlOk.rs {tl : List (List Nat × FR)} (h : TlOk tl) : RsOk (rts tl) := by
  refine ⟨fun z => ?_, fun f hf => ?_⟩
  · cases tl with
    | nil => have := h.1; simp at this
    | cons t r => cases z
  · obtain ⟨t, ht, rfl⟩ := List.mem_map.mp hf
    exact ⟨(h.2 t ht).2.1.2.1, (h.2 t ht).1⟩
theorem step_le {u d : Int} (hu : 0 < u) (hd : 0 < d) : (u * d).fdiv (Int.gcd u d : Nat) ≤ u * d := by
  have gp : 0 < Int.gcd u d := gcd_pos (by omega)
  have h := Int.mul_pos hu hd
  rw [Int.fdiv_eq_ediv_of_nonneg _ (by omega)]
  exact Int.ediv_le_self _ (by omega)
theorem tl_sizes {tl : List (List Nat × FR)} (h : TlOk tl) : ∀ i, 0 < lcmF 1 (rts (tl.take i)) ∧ lcmF 1 (rts (tl.take i)) ≤ 1000000000000 := fun i => by
  have hd : ∀ f ∈ rts (tl.take i), 0 < f.2 ∧ f.2 ≤ 1000000 := fun f hf => by
    obtain ⟨t, ht, rfl⟩ := List.mem_map.mp hf
    exact (h.2 t (List.mem_of_mem_take ht)).2.1.2
  have hl : (rts (tl.take i)).length ≤ 2 := by
    unfold rts
    rw [List.length_map, List.length_take]
    have := h.1
    omega
  refine ⟨(lcmF_ok _ 1 (by decide) fun f hf => (hd f hf).1).1, ?_⟩
  have one : ∀ f : FR, 0 < f.2 → (1 * f.2).fdiv (Int.gcd 1 f.2 : Nat) = f.2 := fun f _ => by
    rw [Int.one_mul, Int.gcd_comm, Int.gcd_one_right]
    exact Int.fdiv_one _
  match rts (tl.take i), hl, hd with
  | [], _, _ => show (1 : Int) ≤ _; decide
  | [f], _, hd =>
    show (1 * f.2).fdiv _ ≤ _
    rw [one f (hd f List.mem_cons_self).1]
    have := (hd f List.mem_cons_self).2
    omega
  | [f, g], _, hd =>
    show ((((1 * f.2).fdiv (Int.gcd 1 f.2 : Nat)) * g.2).fdiv (Int.gcd ((1 * f.2).fdiv (Int.gcd 1 f.2 : Nat)) g.2 : Nat)) ≤ _
    have hf := hd f List.mem_cons_self
    have hg := hd g (List.mem_cons_of_mem _ List.mem_cons_self)
    rw [one f hf.1]
    refine Int.le_trans (step_le hf.1 hg.1) ?_
    have := Int.mul_le_mul hf.2 hg.2 (by omega) (by decide)
    omega
  | _ :: _ :: _ :: _, h, _ => simp at h
theorem scl_ok {tl : List (List Nat × FR)} (h : TlOk tl) : 0 < lcmF 1 (rts tl) ∧ lcmF 1 (rts tl) ≤ 1000000000000 ∧ 0 < gcdF (lcmF 1 (rts tl)) 0 (rts tl) ∧ gcdF (lcmF 1 (rts tl)) 0 (rts tl) ≤ 1000000000000000000 := by
  obtain ⟨L, G, Lp, Gp, eL, eG, m, hm, hg⟩ := red_facts h.rs
  have s := tl_sizes h tl.length
  rw [List.take_length] at s
  rw [eL] at s ⊢
  rw [eG]
  refine ⟨Lp, s.2, Gp, ?_⟩
  obtain ⟨t, r, rfl⟩ : ∃ t r, tl = t :: r := by
    cases tl with
    | nil => have := h.1; simp at this
    | cons t r => exact ⟨t, r, rfl⟩
  have e := hm t.2 List.mem_cons_self
  have ht := h.2 t List.mem_cons_self
  have e2 : L.natAbs * t.2.1.natAbs = (m t.2 * t.2.2).natAbs * G.natAbs := by
    rw [← Int.natAbs_mul, ← Int.natAbs_mul, ← e, Int.mul_right_comm]
  have ne : (m t.2 * t.2.2).natAbs ≠ 0 := fun z => by
    rw [z, Nat.zero_mul] at e2
    have := Nat.mul_eq_zero.mp e2
    have := ht.1
    omega
  have h1 : G.natAbs ≤ L.natAbs * t.2.1.natAbs := by
    rw [e2]
    exact Nat.le_mul_of_pos_left _ (by omega)
  have h2 : L.natAbs * t.2.1.natAbs ≤ 1000000000000 * 1000000 := Nat.mul_le_mul (by omega) ht.2.1.1
  omega
section
variable {P : Program} {w : World} {K : PySem.W.Frag} {mg : Str → Option Value} {base : Heap} {fa : Nat → Addr} {fd : Nat → FuncData}
theorem sm_of {f : FR} (h1 : f.1.natAbs ≤ 1000000000000000000) (h2 : f.2.natAbs ≤ 1000000000000000000) : SmF f := by
  constructor
  · unfold Sm
    omega
  · unfold Sm
    omega
theorem BdF.sm {f : FR} (h : BdF f) : SmF f := sm_of (by have := h.1; omega) (by have := h.2; omega)
theorem scl_sm {tl : List (List Nat × FR)} (h : TlOk tl) : SmF (scl (rts tl)) ∧ 0 < (scl (rts tl)).2 ∧ (scl (rts tl)).2 ≤ 1000000000000000000 ∧ 0 < (scl (rts tl)).1 := by
  obtain ⟨h1, h2, h3, h4⟩ := scl_ok h
  unfold scl lowF
  generalize lcmF 1 (rts tl) = L at *
  generalize gcdF L 0 (rts tl) = G at *
  have a := lowT_abs (u := L) (v := G) (by omega)
  have b := lowD_abs (u := L) (v := G) (by omega)
  have d := lowD_pos (u := L) (v := G) (by omega)
  have e := lowT_self (u := L) (v := G) (by omega)
  refine ⟨sm_of (by show (lowT L G).natAbs ≤ _; omega) (by show (lowD L G).natAbs ≤ _; omega), d, by show lowD L G ≤ _; omega, ?_⟩
  show 0 < lowT L G
  have := Int.mul_pos h1 d
  rw [← e] at this
  rcases Int.lt_trichotomy (lowT L G) 0 with h | h | h
  · have := Int.mul_neg_of_neg_of_pos h h3
    omega
  · rw [h, Int.zero_mul] at this
    omega
  · exact h
theorem log64 {v : Int} (h : v.natAbs ≤ 10 ^ 40) : v.natAbs.log2 < 4096 := log2_mono h (by decide +kernel)
theorem dt_fr {z : Addr} {H : Hp} {v : V} {f : FR} (h : Dt z H v (frP f)) : ∃ p, v = .ref p ∧ H p = some (.tup [.int f.1, .int f.2]) := by
  match v, h with
  | _, .tup hp (.cons (.int _ _) (.cons (.int _ _) .nil)) => exact ⟨_, rfl, hp⟩
theorem noLs_tm : ∀ l : List (List Nat × FR), noLs (l.map tmP) = true
  | [] => rfl
  | _ :: l => by
    show (true && noLs (l.map tmP)) = true
    rw [noLs_tm l]
    rfl
def spReduced : Sp := fun vs H Q _ => ∃ v tl b z, vs = [v] ∧ Dt z H v (tieP tl b) ∧ TlOk tl ∧ BdF b ∧ ∀ v' H', Same H H' → Dt z H' v' (redP tl b) → Q v' H'
theorem ok_p_reduced (T : Txt K mg fa fd) : FnOk P w K mg base CX0 5 (fa 17) (fd 17) ["tie"] spReduced := by
  refine T.F_p_reduced.ok sc_p_reduced (fun vs H Q E h => ?_) (fun cdv A outer s H vs Q E hr h => ?_)
  · obtain ⟨v, tl, b, z, rfl, _⟩ := h
    rfl
  · obtain ⟨v, tl, b, z, rfl, hv, hok, hb, q⟩ := h
    refine ⟨_, (C8.pss_cut (ps_asg (pv 0) (pg_tup (by rfl) (pgs_cons (pg_name (i := 1) sc_p_reduced.nd rfl (.inl rfl)) (pgs_cons (pg_name (i := 2) sc_p_reduced.nd rfl (.inl rfl)) pgs_nil))))
      (C8.pss_cut (ps_set (i := 3) sc_p_reduced.nd rfl (.inl rfl) pe_int)
      (C8.pss_cut (ps_for PassesOwn.never rfl (pi_tup (pv 1)) (pg_tup (by rfl) (pgs_cons (pg_name (i := 4) sc_p_reduced.nd rfl (.inl rfl)) (pgs_cons (pg_name (i := 5) sc_p_reduced.nd rfl (.inl rfl)) pgs_nil))) (pss_one (ps_set (i := 3) sc_p_reduced.nd rfl (.inl rfl) (pe_op op_fdivG (pe_op op_mul (pv 3) (pe_ix ix_tup (pv 5) pe_int (fun _ _ => rfl))) (pe_call (ok_p_common_divisor T) (hr.mono (by decide)) (by rfl) T.g_p_common_divisor T.F_p_common_divisor.kp T.b_p_common_divisor .nil pass0 (pa_cons (pv 3) (pa_cons (pe_ix ix_tup (pv 5) pe_int (fun _ _ => rfl)) pa_nil)))))))
      (C8.pss_cut (ps_set (i := 6) sc_p_reduced.nd rfl (.inl rfl) pe_int)
      (C8.pss_cut (ps_for PassesOwn.never rfl (pi_tup (pv 1)) (pg_tup (by rfl) (pgs_cons (pg_name (i := 4) sc_p_reduced.nd rfl (.inl rfl)) (pgs_cons (pg_name (i := 5) sc_p_reduced.nd rfl (.inl rfl)) pgs_nil))) (pss_one (ps_set (i := 6) sc_p_reduced.nd rfl (.inl rfl) (pe_call (ok_p_common_divisor T) (hr.mono (by decide)) (by rfl) T.g_p_common_divisor T.F_p_common_divisor.kp T.b_p_common_divisor .nil pass0 (pa_cons (pv 6) (pa_cons (pe_op op_mul (pe_op op_fdivG (pv 3) (pe_ix ix_tup (pv 5) pe_int (fun _ _ => rfl))) (pe_ix ix_tup (pv 5) pe_int (fun _ _ => rfl))) pa_nil))))))
      (C8.pss_cut (ps_set (i := 7) sc_p_reduced.nd rfl (.inr rfl) (pe_call (ok_p_ratio T) (hr.mono (by decide)) (by rfl) T.g_p_ratio T.F_p_ratio.kp T.b_p_ratio .nil pass0 (pa_cons (pv 3) (pa_cons (pv 6) pa_nil))))
      (pss_one (ps_ret (pe_tup (pa_cons (pe_callTy call_tuple_of (by rfl) T.m_tuple (by decide +kernel) (pa_cons (pe_lc (own := [("name", 4), ("rate", 5)]) (g := gTup K 2 (gCons (gName 4) (gCons (gName 5) gNil))) (tt := tYes) rfl sc_p_reduced.nd (pi_tup (pv 1)) (blkOk_by (own := [("name", 4), ("rate", 5)]) (N := ["tie", "terms", "bound", "under", "name", "rate", "shared", "scale"]) (sc := defScope s_p_reduced) (by decide +kernel)) (fun _ _ _ _ _ => pg_tup rfl (pgs_cons (pg_name (i := 4) sc_p_reduced.nd rfl (Or.inl rfl)) (pgs_cons (pg_name (i := 5) sc_p_reduced.nd rfl (Or.inl rfl)) pgs_nil))) (fun _ _ _ _ _ => pts_nil) (fun _ _ _ _ _ => (pe_tup (pa_cons (pv 4) (pa_cons (pe_call (ok_p_multiply T) (hr.mono (by decide)) (by rfl) T.g_p_multiply T.F_p_multiply.kp T.b_p_multiply .nil pass0 (pa_cons (pv 5) (pa_cons (pv 7) pa_nil))) pa_nil))))) pa_nil)) (pa_cons (pe_call (ok_p_multiply T) (hr.mono (by decide)) (by rfl) T.g_p_multiply T.F_p_multiply.kp T.b_p_multiply .nil pass0 (pa_cons (pv 2) (pa_cons (pv 7) pa_nil))) pa_nil))))))))))), ?_⟩
    obtain ⟨P, t, y, xs, rfl, hP, ht, hts, hy⟩ := tie_inv hv
    obtain ⟨pb, rfl, hpb⟩ := dt_fr hy
    have xl : xs.length = tl.length := by
      have := hts.len
      rw [List.length_map] at this
      exact this
    refine ⟨fun σ H1 => H1 = H ∧ σ = [some (.ref P), some (.ref t), some (.ref pb), none, none, none, none, none], ⟨_, rfl, P, _, rfl, .inl (.inl hP), rfl, _, _, rfl, _, _, rfl, rfl, rfl, rfl⟩, fun σ H1 hM => ?_⟩
    obtain ⟨rfl, rfl⟩ := hM
    refine ⟨fun σ H2 => H2 = H1 ∧ σ = [some (.ref P), some (.ref t), some (.ref pb), some (.int 1), none, none, none, none], ⟨rfl, rfl⟩, fun σ H2 hM => ?_⟩
    obtain ⟨rfl, rfl⟩ := hM
    -- under
    refine ⟨fun σ H3 => H3 = H2 ∧ ∃ y4 y5, σ = [some (.ref P), some (.ref t), some (.ref pb), some (.int (lcmF 1 (rts tl))), y4, y5, none, none], ?_, fun σ H3 hM => ?_⟩
    · refine ⟨_, rfl, t, rfl, ⟨_, SqT.of ht⟩, for_tup (K := K) (a := t) (xs := xs) (fun i σ H3 => H3 = H2 ∧ ∃ y4 y5, σ = [some (.ref P), some (.ref t), some (.ref pb), some (.int (lcmF 1 (rts (tl.take i)))), y4, y5, none, none]) ⟨rfl, _, _, rfl⟩ (fun i σ H3 _ hp => by rw [hp.1]; exact SqT.of ht) (fun i x σ H3 hx hp => ?_) (fun σ H3 hp => ?_)⟩
      · obtain ⟨rfl, y4, y5, rfl⟩ := hp
        obtain ⟨d, hd, hdt⟩ := DtAll.at i hts hx
        rw [List.getElem?_map] at hd
        obtain ⟨⟨n, f⟩, he, rfl⟩ := Option.map_eq_some_iff.mp hd
        have tok : f.1 ≠ 0 ∧ BdF f ∧ n.length ≤ 7 := hok.2 _ (List.mem_of_getElem? he)
        change Dt _ _ _ (.tuple [.str (SX.S n), frP f]) at hdt
        match x, hdt with
        | _, .tup (a := pp) hpp (.cons (.str _ _) (.cons hr .nil)) =>
          obtain ⟨pr, rfl, hpr⟩ := dt_fr hr
          have sz := tl_sizes hok i
          have lp : 0 < f.2 := tok.2.1.2.1
          refine ⟨pp, _, rfl, .inl (.inl hpp), rfl, _, _, rfl, _, _, rfl, rfl, _, rfl, _, rfl, pr, _, _, _, rfl, rfl, SqT.of hpr, t1, _, _, rfl, rfl, .inl ⟨by omega, by omega⟩, _, rfl, _, rfl, pr, _, _, _, rfl, rfl, SqT.of hpr, t1, _, _, rfl, .inr (log2_mono (b := 1000000) (by have := tok.2.1.2.2; omega) (by decide +kernel)), _, _, rfl, rfl, ⟨?_, ?_⟩, rfl, some (.str (SX.S n)), some (.ref pr), ?_⟩
          · have := gcd_pos (u := lcmF 1 (rts (tl.take i))) (v := f.2) (by omega)
            omega
          · rw [Int.natAbs_natCast]
            have := gcd_le (u := lcmF 1 (rts (tl.take i))) (v := f.2) (by omega)
            have := tok.2.1.2.2
            exact log2_mono (b := 1000000) (by omega) (by decide +kernel)
          · rw [List.take_add_one, he]
            unfold rts
            rw [List.map_append, lcmF_app]
            rfl
      · obtain ⟨rfl, y4, y5, rfl⟩ := hp
        rw [xl, List.take_length]
        exact ⟨rfl, _, _, rfl⟩
    obtain ⟨rfl, y4, y5, rfl⟩ := hM
    refine ⟨fun σ H4 => H4 = H3 ∧ σ = [some (.ref P), some (.ref t), some (.ref pb), some (.int (lcmF 1 (rts tl))), y4, y5, some (.int 0), none], ⟨rfl, rfl⟩, fun σ H4 hM => ?_⟩
    obtain ⟨rfl, rfl⟩ := hM
    obtain ⟨Lp, Lm, Gp, Gm⟩ := scl_ok hok
    have hscl : scl (rts tl) = lowF (lcmF 1 (rts tl)) (gcdF (lcmF 1 (rts tl)) 0 (rts tl)) := rfl
    obtain ⟨ssm, s2p, s2m, s1p⟩ := scl_sm hok
    have Ldv := (lcmF_ok (rts tl) 1 (by decide) fun f hf => (hok.rs.2 f hf).1).2.2
    generalize lcmF 1 (rts tl) = L at *
    -- shared
    refine ⟨fun σ H5 => H5 = H4 ∧ ∃ y4 y5, σ = [some (.ref P), some (.ref t), some (.ref pb), some (.int L), y4, y5, some (.int (gcdF L 0 (rts tl))), none], ?_, fun σ H5 hM => ?_⟩
    · refine ⟨_, rfl, t, rfl, ⟨_, SqT.of ht⟩, for_tup (K := K) (a := t) (xs := xs) (fun i σ H3 => H3 = H4 ∧ ∃ y4 y5, σ = [some (.ref P), some (.ref t), some (.ref pb), some (.int L), y4, y5, some (.int (gcdF L 0 (rts (tl.take i)))), none]) ⟨rfl, _, _, rfl⟩ (fun i σ H3 _ hp => by rw [hp.1]; exact SqT.of ht) (fun i x σ H3 hx hp => ?_) (fun σ H3 hp => ?_)⟩
      · obtain ⟨rfl, y4, y5, rfl⟩ := hp
        obtain ⟨d, hd, hdt⟩ := DtAll.at i hts hx
        rw [List.getElem?_map] at hd
        obtain ⟨⟨n, f⟩, he, rfl⟩ := Option.map_eq_some_iff.mp hd
        have tok : f.1 ≠ 0 ∧ BdF f ∧ n.length ≤ 7 := hok.2 _ (List.mem_of_getElem? he)
        change Dt _ _ _ (.tuple [.str (SX.S n), frP f]) at hdt
        match x, hdt with
        | _, .tup (a := pp) hpp (.cons (.str _ _) (.cons hr .nil)) =>
          obtain ⟨pr, rfl, hpr⟩ := dt_fr hr
          have lp : 0 < f.2 := tok.2.1.2.1
          have le : L.fdiv f.2 ≤ 1000000000000 ∧ 0 ≤ L.fdiv f.2 := by
            rw [Int.fdiv_eq_ediv_of_nonneg _ (by omega)]
            exact ⟨Int.le_trans (Int.ediv_le_self _ (by omega)) Lm, Int.ediv_nonneg (by omega) (by omega)⟩
          refine ⟨pp, _, rfl, .inl (.inl hpp), rfl, _, _, rfl, _, _, rfl, rfl, _, rfl, _, rfl, _, rfl, pr, _, _, _, rfl, rfl, SqT.of hpr, t1, _, _, rfl, rfl, ⟨by omega, ?_⟩, _, rfl, pr, _, _, _, rfl, rfl, SqT.of hpr, t0, _, _, rfl, rfl, .inl ⟨by omega, by omega⟩, _, _, rfl, .inr (log64 (by rw [Int.natAbs_mul]; exact Nat.le_trans (Nat.mul_le_mul (show (L.fdiv f.2).natAbs ≤ 1000000000000 by omega) (show f.1.natAbs ≤ 1000000 by have := tok.2.1; unfold BdF at this; omega)) (by decide))), rfl, some (.str (SX.S n)), some (.ref pr), ?_⟩
          · have := tok.2.1.2.2
            exact log2_mono (b := 1000000) (by omega) (by decide +kernel)
          · rw [List.take_add_one, he]
            unfold rts
            rw [List.map_append, gcdF_app]
            rfl
      · obtain ⟨rfl, y4, y5, rfl⟩ := hp
        rw [xl, List.take_length]
        exact ⟨rfl, _, _, rfl⟩
    clear y4 y5
    obtain ⟨rfl, y4, y5, rfl⟩ := hM
    generalize gcdF L 0 (rts tl) = G at *
    -- scale
    refine ⟨fun σ H6 => ∃ ps, H5 ps = none ∧ Same H5 H6 ∧ H6 ps = some (.tup [.int (scl (rts tl)).1, .int (scl (rts tl)).2]) ∧ σ = [some (.ref P), some (.ref t), some (.ref pb), some (.int L), y4, y5, some (.int G), some (.ref ps)], ?_, fun σ H6 hM => ?_⟩
    · refine ⟨_, rfl, _, rfl, _, _, rfl, by omega, log64 (by omega), fun ps nps => ⟨ps, nps, same_upd nps, ?_, rfl⟩⟩
      rw [hscl]
      exact upd_same
    obtain ⟨ps, nps, s6, hps, rfl⟩ := hM
    have ht6 := s6 _ _ ht
    have hts6 := hts.same s6
    have mulok : ∀ f : FR, BdF f → f.2 * (scl (rts tl)).2 ≠ 0 ∧ (f.2 * (scl (rts tl)).2).natAbs.log2 < 4096 := fun f hf => by
      refine ⟨Int.mul_ne_zero (by have := hf.2.1; omega) (by omega), log64 ?_⟩
      rw [Int.natAbs_mul]
      exact Nat.le_trans (Nat.mul_le_mul (show f.2.natAbs ≤ 1000000 by have := hf.2; omega) (show (scl (rts tl)).2.natAbs ≤ 1000000000000000000 by omega)) (by decide)
    refine ⟨_, rfl, t, rfl, ⟨_, SqT.of ht6⟩, fun D nD => ?_⟩
    refine lc_tup (K := K) (a := t) (xs := xs) (fun i G => Same H6 G ∧ ∃ vs, G D = some (.lst vs) ∧ DtAll z G vs (((redL tl).take i).map tmP)) ⟨same_upd nD, [], upd_same, .nil⟩ (fun i G _ hq => SqT.of (hq.1 _ _ ht6)) (fun i x G hx hq => ?_) (fun G hq => ?_)
    · obtain ⟨sG, vs, hD, hvs⟩ := hq
      obtain ⟨d, hd, hdt⟩ := DtAll.at i hts6 hx
      rw [List.getElem?_map] at hd
      obtain ⟨⟨n, f⟩, he, rfl⟩ := Option.map_eq_some_iff.mp hd
      have tok : f.1 ≠ 0 ∧ BdF f ∧ n.length ≤ 7 := hok.2 _ (List.mem_of_getElem? he)
      change Dt _ _ _ (.tuple [.str (SX.S n), frP f]) at hdt
      have vl : vs.length < sizeLine := by
        have e1 := hvs.len
        rw [List.length_map, List.length_take] at e1
        have := hok.1
        have : (redL tl).length = tl.length := List.length_map ..
        exact small1000 (by omega)
      match x, hdt with
      | _, .tup (a := pp) hpp (.cons (.str _ hn) (.cons hr .nil)) =>
        obtain ⟨pr, rfl, hpr⟩ := dt_fr hr
        refine ⟨pp, _, rfl, .inl (.inl (sG _ _ hpp)), rfl, _, _, rfl, _, _, rfl, rfl, rfl, _, rfl, _, rfl, _, rfl, pr, ps, f, scl (rts tl), rfl, SqT.of (sG _ _ hpr), SqT.of (sG _ _ hps), tok.2.1.sm, ssm, _, _, rfl, (mulok f tok.2.1).1, (mulok f tok.2.1).2, fun e ne => ?_⟩
        obtain ⟨se, de⟩ := dnewT (z := z) ne (.cons (.int (lowT (f.1 * (scl (rts tl)).1) (f.2 * (scl (rts tl)).2)) (low_mul_bd tok.2.1.sm ssm (mulok f tok.2.1).1).1) (.cons (.int (lowD (f.1 * (scl (rts tl)).1) (f.2 * (scl (rts tl)).2)) (low_mul_bd tok.2.1.sm ssm (mulok f tok.2.1).1).2) .nil))
        refine ⟨two_line, fun e2 ne2 => ?_⟩
        obtain ⟨se2, de2⟩ := dnewT (z := z) ne2 (.cons (.str (SX.S n) hn) (.cons de .nil))
        have hD2 := (se.trans se2) _ _ hD
        refine ⟨vs, hD2, vl, fun b o e => (by rw [upd_ne (ne_of_none e nD)]; exact (se.trans se2) _ _ (sG _ _ e)), vs ++ [.ref e2], upd_same, ?_⟩
        have er : (redL tl)[i]? = some (n, redF (scl (rts tl)) f) := by
          unfold redL
          rw [List.getElem?_map, he]
          rfl
        rw [List.take_add_one, er, List.map_append]
        refine DtAll.snoc (hvs.tups ((TT.of (se.trans se2)).trans (TT.upd hD2)) _ _ (noLs_tm _)) ?_
        exact Dt.tups (TT.upd hD2) _ _ rfl de2
    · obtain ⟨sG, vs, hD, hvs⟩ := hq
      have : (redL tl).length = tl.length := List.length_map ..
      rw [xl, ← this, List.take_length] at hvs
      refine ⟨D, vs, rfl, .inl ⟨SqL.of hD, fun l nl => ?_⟩⟩
      obtain ⟨sl, dl⟩ := dnewT (z := z) nl hvs
      have s5 := s6.trans (sG.trans sl)
      refine ⟨_, rfl, _, rfl, pb, ps, b, scl (rts tl), rfl, SqT.of (s5 _ _ hpb), SqT.of ((sG.trans sl) _ _ hps), hb.sm, ssm, _, _, rfl, (mulok b hb).1, (mulok b hb).2, fun e ne => ?_⟩
      obtain ⟨se, de⟩ := dnewT (z := z) ne (.cons (.int (lowT (b.1 * (scl (rts tl)).1) (b.2 * (scl (rts tl)).2)) (low_mul_bd hb.sm ssm (mulok b hb).1).1) (.cons (.int (lowD (b.1 * (scl (rts tl)).1) (b.2 * (scl (rts tl)).2)) (low_mul_bd hb.sm ssm (mulok b hb).1).2) .nil))
      refine ⟨two_line, fun o no => ?_⟩
      obtain ⟨so, d0⟩ := dnewT (z := z) no (.cons (dl.same se) (.cons de .nil))
      exact q (.ref o) _ (s5.trans (se.trans so)) d0
end
section
variable {P : Program} {w : World} {K : PySem.W.Frag} {mg : Str → Option Value} {base : Heap} {fa : Nat → Addr} {fd : Nat → FuncData}
theorem ok_brief (T : Txt K mg fa fd) : FnOk P w K mg base CX0 5 (fa 39) (fd 39) ["_law_tie"] spReduced := by
  refine T.F_brief.ok sc_brief (fun vs H Q E h => ?_) (fun cdv A outer s H vs Q E hr h => ?_)
  · obtain ⟨v, tl, b, z, rfl, _⟩ := h
    rfl
  · obtain ⟨v, tl, b, z, rfl, hv, hok, hb, q⟩ := h
    refine ⟨_, (C8.pss_cut (ps_asg (pe_tup (pa_cons pe_int (pa_cons pe_int pa_nil))) (pg_tup (by rfl) (pgs_cons (pg_name (i := 1) sc_brief.nd rfl (.inl rfl)) (pgs_cons (pg_name (i := 2) sc_brief.nd rfl (.inl rfl)) pgs_nil))))
      (C8.pss_cut (ps_for PassesOwn.never rfl (pi_tup (pe_ix ix_tup (pv 0) pe_int (fun _ _ => rfl))) (pg_tup (by rfl) (pgs_cons (pg_name (i := 3) sc_brief.nd rfl (.inl rfl)) (pgs_cons (pg_name (i := 4) sc_brief.nd rfl (.inl rfl)) pgs_nil))) (pss_one (ps_set (i := 1) sc_brief.nd rfl (.inl rfl) (pe_op op_fdivG (pe_op op_mul (pv 1) (pe_ix ix_tup (pv 4) pe_int (fun _ _ => rfl))) (pe_call (ok_gcd T) (hr.mono (by decide)) (by rfl) T.g_gcd T.F_gcd.kp T.b_gcd .nil pass0 (pa_cons (pv 1) (pa_cons (pe_ix ix_tup (pv 4) pe_int (fun _ _ => rfl)) pa_nil)))))))
      (C8.pss_cut (ps_for PassesOwn.never rfl (pi_tup (pe_ix ix_tup (pv 0) pe_int (fun _ _ => rfl))) (pg_tup (by rfl) (pgs_cons (pg_name (i := 3) sc_brief.nd rfl (.inl rfl)) (pgs_cons (pg_name (i := 4) sc_brief.nd rfl (.inl rfl)) pgs_nil))) (pss_one (ps_set (i := 2) sc_brief.nd rfl (.inl rfl) (pe_call (ok_gcd T) (hr.mono (by decide)) (by rfl) T.g_gcd T.F_gcd.kp T.b_gcd .nil pass0 (pa_cons (pv 2) (pa_cons (pe_op op_mul (pe_ix ix_tup (pv 4) pe_int (fun _ _ => rfl)) (pe_op op_fdivG (pv 1) (pe_ix ix_tup (pv 4) pe_int (fun _ _ => rfl)))) pa_nil))))))
      (C8.pss_cut (ps_set (i := 5) sc_brief.nd rfl (.inr rfl) (pe_call (ok_low T) (hr.mono (by decide)) (by rfl) T.g_low T.F_low.kp T.b_low .nil pass0 (pa_cons (pv 1) (pa_cons (pv 2) pa_nil))))
      (pss_one (ps_ret (pe_tup (pa_cons (pe_callTy call_tuple_of (by rfl) T.m_tuple (by decide +kernel) (pa_cons (pe_lc (own := [("_law_name", 3), ("_law_rate_here", 4)]) (g := gTup K 2 (gCons (gName 3) (gCons (gName 4) gNil))) (tt := tYes) rfl sc_brief.nd (pi_tup (pe_ix ix_tup (pv 0) pe_int (fun _ _ => rfl))) (blkOk_by (own := [("_law_name", 3), ("_law_rate_here", 4)]) (N := ["_law_tie", "_law_whole", "_law_part_here", "_law_name", "_law_rate_here", "_law_scale"]) (sc := defScope s_brief) (by decide +kernel)) (fun _ _ _ _ _ => pg_tup rfl (pgs_cons (pg_name (i := 3) sc_brief.nd rfl (Or.inl rfl)) (pgs_cons (pg_name (i := 4) sc_brief.nd rfl (Or.inl rfl)) pgs_nil))) (fun _ _ _ _ _ => pts_nil) (fun _ _ _ _ _ => (pe_tup (pa_cons (pv 3) (pa_cons (pe_call (ok_by T) (hr.mono (by decide)) (by rfl) T.g_by T.F_by.kp T.b_by .nil pass0 (pa_cons (pv 4) (pa_cons (pv 5) pa_nil))) pa_nil))))) pa_nil)) (pa_cons (pe_call (ok_by T) (hr.mono (by decide)) (by rfl) T.g_by T.F_by.kp T.b_by .nil pass0 (pa_cons (pe_ix ix_tup (pv 0) pe_int (fun _ _ => rfl)) (pa_cons (pv 5) pa_nil))) pa_nil))))))))), ?_⟩
    obtain ⟨P, t, y, xs, rfl, hP, ht, hts, hy⟩ := tie_inv hv
    obtain ⟨pb, rfl, hpb⟩ := dt_fr hy
    have xl : xs.length = tl.length := by
      have := hts.len
      rw [List.length_map] at this
      exact this
    refine ⟨fun σ H2 => Same H H2 ∧ σ = [some (.ref P), some (.int 1), some (.int 0), none, none, none], ⟨two_line, fun e ne => ⟨e, _, rfl, .inl (.inl upd_same), rfl, _, _, rfl, _, _, rfl, rfl, same_upd ne, rfl⟩⟩, fun σ H2 hM => ?_⟩
    obtain ⟨s2, rfl⟩ := hM
    have hP := s2 _ _ hP
    have ht := s2 _ _ ht
    have hts := hts.same s2
    have hpb := s2 _ _ hpb
    -- under
    refine ⟨fun σ H3 => H3 = H2 ∧ ∃ y4 y5, σ = [some (.ref P), some (.int (lcmF 1 (rts tl))), some (.int 0), y4, y5, none], ?_, fun σ H3 hM => ?_⟩
    · refine ⟨_, rfl, P, _, _, _, rfl, rfl, SqT.of hP, rfl, t, rfl, ⟨_, SqT.of ht⟩, for_tup (K := K) (a := t) (xs := xs) (fun i σ H3 => H3 = H2 ∧ ∃ y4 y5, σ = [some (.ref P), some (.int (lcmF 1 (rts (tl.take i)))), some (.int 0), y4, y5, none]) ⟨rfl, _, _, rfl⟩ (fun i σ H3 _ hp => by rw [hp.1]; exact SqT.of ht) (fun i x σ H3 hx hp => ?_) (fun σ H3 hp => ?_)⟩
      · obtain ⟨rfl, y4, y5, rfl⟩ := hp
        obtain ⟨d, hd, hdt⟩ := DtAll.at i hts hx
        rw [List.getElem?_map] at hd
        obtain ⟨⟨n, f⟩, he, rfl⟩ := Option.map_eq_some_iff.mp hd
        have tok : f.1 ≠ 0 ∧ BdF f ∧ n.length ≤ 7 := hok.2 _ (List.mem_of_getElem? he)
        change Dt _ _ _ (.tuple [.str (SX.S n), frP f]) at hdt
        match x, hdt with
        | _, .tup (a := pp) hpp (.cons (.str _ _) (.cons hr .nil)) =>
          obtain ⟨pr, rfl, hpr⟩ := dt_fr hr
          have sz := tl_sizes hok i
          have lp : 0 < f.2 := tok.2.1.2.1
          refine ⟨pp, _, rfl, .inl (.inl hpp), rfl, _, _, rfl, _, _, rfl, rfl, _, rfl, _, rfl, pr, _, _, _, rfl, rfl, SqT.of hpr, t1, _, _, rfl, rfl, .inl ⟨by omega, by omega⟩, _, rfl, _, rfl, pr, _, _, _, rfl, rfl, SqT.of hpr, t1, _, _, rfl, _, _, rfl, rfl, ⟨?_, ?_⟩, rfl, some (.str (SX.S n)), some (.ref pr), ?_⟩
          · have := gcd_pos (u := lcmF 1 (rts (tl.take i))) (v := f.2) (by omega)
            omega
          · rw [Int.natAbs_natCast]
            have := gcd_le (u := lcmF 1 (rts (tl.take i))) (v := f.2) (by omega)
            have := tok.2.1.2.2
            exact log2_mono (b := 1000000) (by omega) (by decide +kernel)
          · rw [List.take_add_one, he]
            unfold rts
            rw [List.map_append, lcmF_app]
            rfl
      · obtain ⟨rfl, y4, y5, rfl⟩ := hp
        rw [xl, List.take_length]
        exact ⟨rfl, _, _, rfl⟩
    obtain ⟨rfl, y4, y5, rfl⟩ := hM
    obtain ⟨Lp, Lm, Gp, Gm⟩ := scl_ok hok
    have hscl : scl (rts tl) = lowF (lcmF 1 (rts tl)) (gcdF (lcmF 1 (rts tl)) 0 (rts tl)) := rfl
    obtain ⟨ssm, s2p, s2m, s1p⟩ := scl_sm hok
    have Ldv := (lcmF_ok (rts tl) 1 (by decide) fun f hf => (hok.rs.2 f hf).1).2.2
    generalize lcmF 1 (rts tl) = L at *
    -- shared
    refine ⟨fun σ H5 => H5 = H3 ∧ ∃ y4 y5, σ = [some (.ref P), some (.int L), some (.int (gcdF L 0 (rts tl))), y4, y5, none], ?_, fun σ H5 hM => ?_⟩
    · refine ⟨_, rfl, P, _, _, _, rfl, rfl, SqT.of hP, rfl, t, rfl, ⟨_, SqT.of ht⟩, for_tup (K := K) (a := t) (xs := xs) (fun i σ H4 => H4 = H3 ∧ ∃ y4 y5, σ = [some (.ref P), some (.int L), some (.int (gcdF L 0 (rts (tl.take i)))), y4, y5, none]) ⟨rfl, _, _, rfl⟩ (fun i σ H3 _ hp => by rw [hp.1]; exact SqT.of ht) (fun i x σ H3 hx hp => ?_) (fun σ H3 hp => ?_)⟩
      · obtain ⟨rfl, y4, y5, rfl⟩ := hp
        obtain ⟨d, hd, hdt⟩ := DtAll.at i hts hx
        rw [List.getElem?_map] at hd
        obtain ⟨⟨n, f⟩, he, rfl⟩ := Option.map_eq_some_iff.mp hd
        have tok : f.1 ≠ 0 ∧ BdF f ∧ n.length ≤ 7 := hok.2 _ (List.mem_of_getElem? he)
        change Dt _ _ _ (.tuple [.str (SX.S n), frP f]) at hdt
        match x, hdt with
        | _, .tup (a := pp) hpp (.cons (.str _ _) (.cons hr .nil)) =>
          obtain ⟨pr, rfl, hpr⟩ := dt_fr hr
          have lp : 0 < f.2 := tok.2.1.2.1
          have le : L.fdiv f.2 ≤ 1000000000000 ∧ 0 ≤ L.fdiv f.2 := by
            rw [Int.fdiv_eq_ediv_of_nonneg _ (by omega)]
            exact ⟨Int.le_trans (Int.ediv_le_self _ (by omega)) Lm, Int.ediv_nonneg (by omega) (by omega)⟩
          refine ⟨pp, _, rfl, .inl (.inl hpp), rfl, _, _, rfl, _, _, rfl, rfl, _, rfl, _, rfl, pr, _, _, _, rfl, rfl, SqT.of hpr, t0, _, rfl, _, rfl, pr, _, _, _, rfl, rfl, SqT.of hpr, t1, _, _, rfl, rfl, ⟨by omega, ?_⟩, _, _, rfl, rfl, .inl tok.2.1.sm.1, _, _, rfl, rfl, some (.str (SX.S n)), some (.ref pr), ?_⟩
          · have := tok.2.1.2.2
            exact log2_mono (b := 1000000) (by omega) (by decide +kernel)
          · rw [List.take_add_one, he]
            unfold rts
            rw [List.map_append, gcdF_app, Int.mul_comm f.1]
            rfl
      · obtain ⟨rfl, y4, y5, rfl⟩ := hp
        rw [xl, List.take_length]
        exact ⟨rfl, _, _, rfl⟩
    clear y4 y5
    obtain ⟨rfl, y4, y5, rfl⟩ := hM
    generalize gcdF L 0 (rts tl) = G at *
    -- scale
    refine ⟨fun σ H6 => ∃ ps, H5 ps = none ∧ Same H5 H6 ∧ H6 ps = some (.tup [.int (scl (rts tl)).1, .int (scl (rts tl)).2]) ∧ σ = [some (.ref P), some (.int L), some (.int G), y4, y5, some (.ref ps)], ?_, fun σ H6 hM => ?_⟩
    · refine ⟨_, rfl, _, rfl, _, _, rfl, by omega, log64 (by omega), fun ps nps => ⟨ps, nps, same_upd nps, ?_, rfl⟩⟩
      rw [hscl]
      exact upd_same
    obtain ⟨ps, nps, s6, hps, rfl⟩ := hM
    have ht6 := s6 _ _ ht
    have hts6 := hts.same s6
    have mulok : ∀ f : FR, BdF f → f.2 * (scl (rts tl)).2 ≠ 0 ∧ (f.2 * (scl (rts tl)).2).natAbs.log2 < 4096 := fun f hf => by
      refine ⟨Int.mul_ne_zero (by have := hf.2.1; omega) (by omega), log64 ?_⟩
      rw [Int.natAbs_mul]
      exact Nat.le_trans (Nat.mul_le_mul (show f.2.natAbs ≤ 1000000 by have := hf.2; omega) (show (scl (rts tl)).2.natAbs ≤ 1000000000000000000 by omega)) (by decide)
    refine ⟨_, rfl, P, _, _, _, rfl, rfl, SqT.of (s6 _ _ hP), rfl, t, rfl, ⟨_, SqT.of ht6⟩, fun D nD => ?_⟩
    refine lc_tup (K := K) (a := t) (xs := xs) (fun i G => Same H6 G ∧ ∃ vs, G D = some (.lst vs) ∧ DtAll z G vs (((redL tl).take i).map tmP)) ⟨same_upd nD, [], upd_same, .nil⟩ (fun i G _ hq => SqT.of (hq.1 _ _ ht6)) (fun i x G hx hq => ?_) (fun G hq => ?_)
    · obtain ⟨sG, vs, hD, hvs⟩ := hq
      obtain ⟨d, hd, hdt⟩ := DtAll.at i hts6 hx
      rw [List.getElem?_map] at hd
      obtain ⟨⟨n, f⟩, he, rfl⟩ := Option.map_eq_some_iff.mp hd
      have tok : f.1 ≠ 0 ∧ BdF f ∧ n.length ≤ 7 := hok.2 _ (List.mem_of_getElem? he)
      change Dt _ _ _ (.tuple [.str (SX.S n), frP f]) at hdt
      have vl : vs.length < sizeLine := by
        have e1 := hvs.len
        rw [List.length_map, List.length_take] at e1
        have := hok.1
        have : (redL tl).length = tl.length := List.length_map ..
        exact small1000 (by omega)
      match x, hdt with
      | _, .tup (a := pp) hpp (.cons (.str _ hn) (.cons hr .nil)) =>
        obtain ⟨pr, rfl, hpr⟩ := dt_fr hr
        refine ⟨pp, _, rfl, .inl (.inl (sG _ _ hpp)), rfl, _, _, rfl, _, _, rfl, rfl, rfl, _, rfl, _, rfl, _, rfl, pr, ps, f, scl (rts tl), rfl, SqT.of (sG _ _ hpr), SqT.of (sG _ _ hps), tok.2.1.sm, ssm, _, _, rfl, (mulok f tok.2.1).1, (mulok f tok.2.1).2, fun e ne => ?_⟩
        obtain ⟨se, de⟩ := dnewT (z := z) ne (.cons (.int (lowT (f.1 * (scl (rts tl)).1) (f.2 * (scl (rts tl)).2)) (low_mul_bd tok.2.1.sm ssm (mulok f tok.2.1).1).1) (.cons (.int (lowD (f.1 * (scl (rts tl)).1) (f.2 * (scl (rts tl)).2)) (low_mul_bd tok.2.1.sm ssm (mulok f tok.2.1).1).2) .nil))
        refine ⟨two_line, fun e2 ne2 => ?_⟩
        obtain ⟨se2, de2⟩ := dnewT (z := z) ne2 (.cons (.str (SX.S n) hn) (.cons de .nil))
        have hD2 := (se.trans se2) _ _ hD
        refine ⟨vs, hD2, vl, fun b o e => (by rw [upd_ne (ne_of_none e nD)]; exact (se.trans se2) _ _ (sG _ _ e)), vs ++ [.ref e2], upd_same, ?_⟩
        have er : (redL tl)[i]? = some (n, redF (scl (rts tl)) f) := by
          unfold redL
          rw [List.getElem?_map, he]
          rfl
        rw [List.take_add_one, er, List.map_append]
        refine DtAll.snoc (hvs.tups ((TT.of (se.trans se2)).trans (TT.upd hD2)) _ _ (noLs_tm _)) ?_
        exact Dt.tups (TT.upd hD2) _ _ rfl de2
    · obtain ⟨sG, vs, hD, hvs⟩ := hq
      have : (redL tl).length = tl.length := List.length_map ..
      rw [xl, ← this, List.take_length] at hvs
      refine ⟨D, vs, rfl, .inl ⟨SqL.of hD, fun l nl => ?_⟩⟩
      obtain ⟨sl, dl⟩ := dnewT (z := z) nl hvs
      have s5 := s6.trans (sG.trans sl)
      refine ⟨_, rfl, P, _, _, _, rfl, rfl, SqT.of (s5 _ _ hP), rfl, _, rfl, pb, ps, b, scl (rts tl), rfl, SqT.of (s5 _ _ hpb), SqT.of ((sG.trans sl) _ _ hps), hb.sm, ssm, _, _, rfl, (mulok b hb).1, (mulok b hb).2, fun e ne => ?_⟩
      obtain ⟨se, de⟩ := dnewT (z := z) ne (.cons (.int (lowT (b.1 * (scl (rts tl)).1) (b.2 * (scl (rts tl)).2)) (low_mul_bd hb.sm ssm (mulok b hb).1).1) (.cons (.int (lowD (b.1 * (scl (rts tl)).1) (b.2 * (scl (rts tl)).2)) (low_mul_bd hb.sm ssm (mulok b hb).1).2) .nil))
      refine ⟨two_line, fun o no => ?_⟩
      obtain ⟨so, d0⟩ := dnewT (z := z) no (.cons (dl.same se) (.cons de .nil))
      exact q (.ref o) _ (s2.trans (s5.trans (se.trans so))) d0
end
def mulL (f g : FR) : FR := lowF (f.1 * g.1) (f.2 * g.2)
def addL (f g : FR) : FR := lowF (f.1 * g.2 + g.1 * f.2) (f.2 * g.2)
def totF (val : List Nat → FR) (acc : FR) : List (List Nat × FR) → FR
  | [] => acc
  | t :: r => totF val (addL acc (mulL t.2 (val t.1))) r
theorem totF_app (val : List Nat → FR) : ∀ (l r : List (List Nat × FR)) (acc : FR), totF val acc (l ++ r) = totF val (totF val acc l) r
  | [], _, _ => rfl
  | _ :: l, r, _ => totF_app val l r _
def Bf (N : Nat) (f : FR) : Prop := f.1.natAbs ≤ N ∧ 0 < f.2 ∧ f.2.natAbs ≤ N
theorem Bf.low {N : Nat} {u v : Int} (hv : 0 < v) (h1 : u.natAbs ≤ N) (h2 : v.natAbs ≤ N) : Bf N (lowF u v) := by
  have a := lowT_abs (u := u) (v := v) (by omega)
  have b := lowD_abs (u := u) (v := v) (by omega)
  exact ⟨by show (lowT u v).natAbs ≤ N; omega, lowD_pos (by omega), by show (lowD u v).natAbs ≤ N; omega⟩
theorem Bf.mono {N M : Nat} {f : FR} (h : Bf N f) (k : N ≤ M) : Bf M f := ⟨Nat.le_trans h.1 k, h.2.1, Nat.le_trans h.2.2 k⟩
theorem Bf.mul {N M : Nat} {f g : FR} (hf : Bf N f) (hg : Bf M g) : Bf (N * M) (mulL f g) :=
  Bf.low (Int.mul_pos hf.2.1 hg.2.1) (by rw [Int.natAbs_mul]; exact Nat.mul_le_mul hf.1 hg.1) (by rw [Int.natAbs_mul]; exact Nat.mul_le_mul hf.2.2 hg.2.2)
theorem Bf.add {N M : Nat} {f g : FR} (hf : Bf N f) (hg : Bf M g) : Bf (2 * (N * M)) (addL f g) := by
  refine Bf.low (Int.mul_pos hf.2.1 hg.2.1) ?_ ?_
  · have h1 : (f.1 * g.2).natAbs ≤ N * M := by rw [Int.natAbs_mul]; exact Nat.mul_le_mul hf.1 hg.2.2
    have h2 : (g.1 * f.2).natAbs ≤ M * N := by rw [Int.natAbs_mul]; exact Nat.mul_le_mul hg.1 hf.2.2
    rw [Nat.mul_comm M N] at h2
    have := Int.natAbs_add_le (f.1 * g.2) (g.1 * f.2)
    omega
  · have h1 : (f.2 * g.2).natAbs ≤ N * M := by rw [Int.natAbs_mul]; exact Nat.mul_le_mul hf.2.2 hg.2.2
    omega
theorem Bf.sm {N : Nat} {f : FR} (h : Bf N f) (k : N ≤ 1000000000000000000) : SmF f := sm_of (Nat.le_trans h.1 k) (Nat.le_trans h.2.2 k)
theorem BdF.bf {f : FR} (h : BdF f) : Bf 1000000 f := ⟨h.1, h.2.1, by have := h.2; omega⟩
def tB : Nat → Nat
  | 0 => 1
  | n + 1 => 2 * (tB n * (1000000 * 10))
theorem tot_bd {tl : List (List Nat × FR)} {val : List Nat → FR} (h : ∀ t ∈ tl, BdF t.2 ∧ Bf 10 (val t.1)) : ∀ (i : Nat), Bf (tB i) (totF val (0, 1) (tl.take i))
  | 0 => ⟨Nat.zero_le _, by show (0 : Int) < 1; decide, Nat.le_refl _⟩
  | i + 1 => by
    have ih := tot_bd h i
    rw [List.take_add_one]
    cases e : tl[i]? with
    | none =>
      show Bf _ (totF val (0, 1) (tl.take i ++ []))
      rw [List.append_nil]
      refine ih.mono ?_
      show tB i ≤ 2 * (tB i * _)
      omega
    | some t =>
      show Bf _ (totF val (0, 1) (tl.take i ++ [t]))
      rw [totF_app]
      have ht := h t (List.mem_of_getElem? e)
      exact Bf.add ih (Bf.mul ht.1.bf ht.2)
theorem tB_le : ∀ i : Nat, i ≤ 2 → tB i ≤ 1000000000000000 := by decide +kernel
abbrev FrH (H : Hp) (p : Addr) (f : FR) : Prop := H p = some (.tup [.int f.1, .int f.2])
/-- a dict of values -/
def ValD (H : Hp) (d : Addr) (val : List Nat → FR) (ns : List (List Nat)) : Prop := ∃ kvs, H d = some (.dK kvs) ∧ ∀ x ∈ ns, Bf 10 (val x) ∧ ∃ p, valV kvs (.inr (SX.S x)) = some (.ref p) ∧ H p = some (.tup [.int (val x).1, .int (val x).2])
theorem ValD.same {H H' : Hp} {d : Addr} {val : List Nat → FR} {ns : List (List Nat)} (h : ValD H d val ns) (s : Same H H') : ValD H' d val ns := by
  obtain ⟨kvs, e, k⟩ := h
  refine ⟨kvs, s _ _ e, fun x hx => ?_⟩
  obtain ⟨b, p, e1, e2⟩ := k x hx
  exact ⟨b, p, e1, s _ _ e2⟩
theorem SqT_same {K : PySem.W.Frag} {H H' : Hp} {a : Addr} {xs : List V} (h : SqT K H a xs) (s : Same H H') : SqT K H' a xs := by
  rcases h with (h | ⟨o, h⟩) | h
  · exact .inl (.inl (s _ _ h))
  · exact .inl (.inr ⟨o, s _ _ h⟩)
  · exact .inr h
abbrev BfB (f : FR) : Prop := Bf 1000000000000000000 f
section
variable {P : Program} {w : World} {K : PySem.W.Frag} {mg : Str → Option Value} {base : Heap} {fa : Nat → Addr} {fd : Nat → FuncData}
def spTotal (K : PySem.W.Frag) : Sp := fun vs H Q _ => ∃ v tl d z val, vs = [v, .ref d] ∧ Dt z H v (.tuple (tl.map tmP)) ∧ TlOk tl ∧ ValD H d val (tl.map (·.1)) ∧ ∀ p H', Same H H' → FrH H' p (totF val (0, 1) tl) → Bf 1000000000000000 (totF val (0, 1) tl) → Q (.ref p) H'
theorem ok_total (T : Txt K mg fa fd) : FnOk P w K mg base CX0 5 (fa 35) (fd 35) ["_law_terms_here", "_law_values"] (spTotal K) := by
  refine T.F_total.ok sc_total (fun vs H Q E h => ?_) (fun cdv A outer s H vs Q E hr h => ?_)
  · obtain ⟨v, tl, d, z, val, rfl, _⟩ := h
    rfl
  · obtain ⟨v, tl, d, z, val, rfl, hv, hok, hd, q⟩ := h
    refine ⟨_, (C8.pss_cut (ps_set (i := 2) sc_total.nd rfl (.inl rfl) (pe_tup (pa_cons pe_int (pa_cons pe_int pa_nil))))
      (C8.pss_cut (ps_for PassesOwn.never rfl (pi_tup (pv 0)) (pg_tup (by rfl) (pgs_cons (pg_name (i := 3) sc_total.nd rfl (.inl rfl)) (pgs_cons (pg_name (i := 4) sc_total.nd rfl (.inl rfl)) pgs_nil))) (pss_one (ps_set (i := 2) sc_total.nd rfl (.inl rfl) (pe_call (ok_plus T) (hr.mono (by decide)) (by rfl) T.g_plus T.F_plus.kp T.b_plus .nil pass0 (pa_cons (pv 2) (pa_cons (pe_call (ok_by T) (hr.mono (by decide)) (by rfl) T.g_by T.F_by.kp T.b_by .nil pass0 (pa_cons (pv 4) (pa_cons (pe_dget (Nat.lt_of_le_of_lt (Nat.add_le_add_left (by decide) _) hr.units) (pv 1) (pv 3) (fun _ _ => rfl)) pa_nil))) pa_nil))))))
      (pss_one (ps_ret (pv 2))))), ?_⟩
    obtain ⟨t, xs, rfl, ht, hts⟩ : ∃ t xs, v = .ref t ∧ H t = some (.tup xs) ∧ DtAll z H xs (tl.map tmP) := by
      generalize tl.map tmP = dd at hv
      match v, hv with
      | _, .tup h1 h2 => exact ⟨_, _, rfl, h1, h2⟩
    have xl : xs.length = tl.length := by
      have := hts.len
      rw [List.length_map] at this
      exact this
    have bd := tot_bd (tl := tl) (val := val) fun t ht => ⟨(hok.2 t ht).2.1, by
      obtain ⟨kvs, _, k⟩ := hd
      exact (k t.1 (List.mem_map_of_mem ht)).1⟩
    have bdm : ∀ i, i ≤ tl.length → Bf 1000000000000000 (totF val (0, 1) (tl.take i)) := fun i hi => (bd i).mono (tB_le i (by have := hok.1; omega))
    refine ⟨fun σ H1 => Same H H1 ∧ ∃ p, FrH H1 p (totF val (0, 1) (tl.take 0)) ∧ σ = [some (.ref t), some (.ref d), some (.ref p), none, none], ⟨two_line, fun p np => ⟨same_upd np, p, upd_same, rfl⟩⟩, fun σ H1 hM => ?_⟩
    obtain ⟨s1, p0, hp0, rfl⟩ := hM
    refine ⟨fun σ H2 => Same H H2 ∧ ∃ p y3 y4, FrH H2 p (totF val (0, 1) tl) ∧ σ = [some (.ref t), some (.ref d), some (.ref p), y3, y4], ?_, fun σ H2 hM => ?_⟩
    · refine ⟨_, rfl, t, rfl, ⟨_, SqT.of (s1 _ _ ht)⟩, for_tup (K := K) (a := t) (xs := xs) (fun i σ H2 => Same H H2 ∧ ∃ p y3 y4, FrH H2 p (totF val (0, 1) (tl.take i)) ∧ σ = [some (.ref t), some (.ref d), some (.ref p), y3, y4]) ⟨s1, p0, _, _, hp0, rfl⟩ (fun i σ H2 _ hp => SqT.of (hp.1 _ _ ht)) (fun i x σ H2 hx hp => ?_) (fun σ H2 hp => ?_)⟩
      · obtain ⟨s2, p, y3, y4, hp, rfl⟩ := hp
        obtain ⟨dt, hdd, hdt⟩ := DtAll.at i hts hx
        rw [List.getElem?_map] at hdd
        obtain ⟨⟨n, f⟩, he, rfl⟩ := Option.map_eq_some_iff.mp hdd
        have tok : f.1 ≠ 0 ∧ BdF f ∧ n.length ≤ 7 := hok.2 _ (List.mem_of_getElem? he)
        change Dt _ _ _ (.tuple [.str (SX.S n), frP f]) at hdt
        have il : i < tl.length := (List.getElem?_eq_some_iff.mp he).1
        have bi := bdm i (by omega)
        obtain ⟨kvs, hk, hkv⟩ := hd
        obtain ⟨bv, pv, ev, hpv⟩ := hkv n (List.mem_map_of_mem (f := fun t : List Nat × FR => t.1) (List.mem_of_getElem? he))
        have bm := Bf.mul tok.2.1.bf bv
        match x, hdt with
        | _, .tup (a := pp) hpp (.cons (.str _ _) (.cons hr' .nil)) =>
          obtain ⟨pr, rfl, hpr⟩ := dt_fr hr'
          refine ⟨pp, _, rfl, .inl (.inl (s2 _ _ hpp)), rfl, _, _, rfl, _, _, rfl, rfl, _, rfl, _, rfl, _, rfl, _, rfl, d, _, rfl, by rw [← ev]; exact DGet.k (k := Sum.inr (SX.S n)) (s2 _ _ hk), ?_⟩
          refine ⟨pr, pv, f, val n, rfl, SqT.of (s2 _ _ hpr), SqT.of (s2 _ _ hpv), tok.2.1.sm, bv.sm (by decide), _, _, rfl, ?_, ?_, fun e ne => ?_⟩
          · exact Int.mul_ne_zero (by have := tok.2.1.2.1; omega) (by have := bv.2.1; omega)
          · show (f.2 * (val n).2).natAbs.log2 < 4096
            rw [Int.natAbs_mul]
            exact log2_mono (Nat.mul_le_mul tok.2.1.bf.2.2 bv.2.2) (by decide +kernel)
          have se := same_upd (o := .tup [.int (lowT (f.1 * (val n).1) (f.2 * (val n).2)), .int (lowD (f.1 * (val n).1) (f.2 * (val n).2))]) ne
          refine ⟨p, e, totF val (0, 1) (tl.take i), mulL f (val n), rfl, SqT.of (se _ _ hp), SqT.of upd_same, bi.sm (by decide), bm.sm (by decide), _, _, rfl, ?_, ?_, fun e2 ne2 => ?_⟩
          · exact Int.mul_ne_zero (by have := bi.2.1; omega) (by have := bm.2.1; omega)
          · show ((totF val (0, 1) (tl.take i)).2 * (mulL f (val n)).2).natAbs.log2 < 4096
            rw [Int.natAbs_mul]
            exact log2_mono (Nat.mul_le_mul bi.2.2 bm.2.2) (by decide +kernel)
          have se2 := same_upd (o := .tup [.int (addL (totF val (0, 1) (tl.take i)) (mulL f (val n))).1, .int (addL (totF val (0, 1) (tl.take i)) (mulL f (val n))).2]) ne2
          refine ⟨s2.trans (se.trans se2), e2, some (.str (SX.S n)), some (.ref pr), ?_, rfl⟩
          rw [List.take_add_one, he]
          show FrH _ e2 (totF val (0, 1) (tl.take i ++ [(n, f)]))
          rw [totF_app]
          exact upd_same
      · obtain ⟨s2, p, y3, y4, hp, rfl⟩ := hp
        rw [xl, List.take_length] at hp
        exact ⟨s2, p, _, _, hp, rfl⟩
    obtain ⟨s2, p, y3, y4, hp, rfl⟩ := hM
    have := bdm tl.length (Nat.le_refl _)
    rw [List.take_length] at this
    exact ⟨_, rfl, q p H2 s2 hp this⟩
def spKept : Sp := fun vs H Q _ => ∃ v tl b d z val, vs = [v, .ref d] ∧ Dt z H v (tieP tl b) ∧ TlOk tl ∧ BfB b ∧ ValD H d val (tl.map (·.1)) ∧ ∀ H', Same H H' → Q (.bl (!ltF b (totF val (0, 1) tl))) H'
theorem ok_p_is_kept (T : Txt K mg fa fd) : FnOk P w K mg base CX0 5 (fa 18) (fd 18) ["tie", "values"] spKept := by
  refine T.F_p_is_kept.ok sc_p_is_kept (fun vs H Q E h => ?_) (fun cdv A outer s H vs Q E hr h => ?_)
  · obtain ⟨v, tl, b, d, z, val, rfl, _⟩ := h
    rfl
  · obtain ⟨v, tl, b, d, z, val, rfl, hv, hok, hb, hd, q⟩ := h
    refine ⟨_, (C8.pss_cut (ps_asg (pv 0) (pg_tup (by rfl) (pgs_cons (pg_name (i := 2) sc_p_is_kept.nd rfl (.inl rfl)) (pgs_cons (pg_name (i := 3) sc_p_is_kept.nd rfl (.inl rfl)) pgs_nil))))
      (C8.pss_cut (ps_set (i := 4) sc_p_is_kept.nd rfl (.inl rfl) (C8.pe_gc (by rfl) T.c_ZERO))
      (C8.pss_cut (ps_for PassesOwn.never rfl (pi_tup (pv 2)) (pg_tup (by rfl) (pgs_cons (pg_name (i := 5) sc_p_is_kept.nd rfl (.inl rfl)) (pgs_cons (pg_name (i := 6) sc_p_is_kept.nd rfl (.inl rfl)) pgs_nil))) (pss_one (ps_set (i := 4) sc_p_is_kept.nd rfl (.inl rfl) (pe_call (ok_p_add T) (hr.mono (by decide)) (by rfl) T.g_p_add T.F_p_add.kp T.b_p_add .nil pass0 (pa_cons (pv 4) (pa_cons (pe_call (ok_p_multiply T) (hr.mono (by decide)) (by rfl) T.g_p_multiply T.F_p_multiply.kp T.b_p_multiply .nil pass0 (pa_cons (pv 6) (pa_cons (pe_dget (Nat.lt_of_le_of_lt (Nat.add_le_add_left (by decide) _) hr.units) (pv 1) (pv 5) (fun _ _ => rfl)) pa_nil))) pa_nil))))))
      (pss_one (ps_ret (pe_not (pe_call (ok_p_is_less T) (hr.mono (by decide)) (by rfl) T.g_p_is_less T.F_p_is_less.kp T.b_p_is_less .nil pass0 (pa_cons (pv 3) (pa_cons (pv 4) pa_nil))))))))), ?_⟩
    obtain ⟨PP, t, y, xs, rfl, hPP, ht, hts, hy⟩ := tie_inv hv
    obtain ⟨pb, rfl, hpb⟩ := dt_fr hy
    have xl : xs.length = tl.length := by
      have := hts.len
      rw [List.length_map] at this
      exact this
    have bd := tot_bd (tl := tl) (val := val) fun t ht => ⟨(hok.2 t ht).2.1, by
      obtain ⟨kvs, _, k⟩ := hd
      exact (k t.1 (List.mem_map_of_mem ht)).1⟩
    have bdm : ∀ i, i ≤ tl.length → Bf 1000000000000000000 (totF val (0, 1) (tl.take i)) := fun i hi => (bd i).mono (Nat.le_trans (tB_le i (by have := hok.1; omega)) (by decide))
    refine ⟨fun σ H1 => H1 = H ∧ σ = [some (.ref PP), some (.ref d), some (.ref t), some (.ref pb), none, none, none], ⟨_, rfl, PP, _, rfl, .inl (.inl hPP), rfl, _, _, rfl, _, _, rfl, rfl, rfl, rfl⟩, fun σ H1 hM => ?_⟩
    obtain ⟨rfl, rfl⟩ := hM
    refine ⟨fun σ H2 => H2 = H1 ∧ σ = [some (.ref PP), some (.ref d), some (.ref t), some (.ref pb), some (.ref (fa 2000)), none, none], ⟨rfl, rfl⟩, fun σ H2 hM => ?_⟩
    obtain ⟨rfl, rfl⟩ := hM
    refine ⟨fun σ H3 => Same H2 H3 ∧ ∃ p y3 y4, FrK K H3 p (totF val (0, 1) tl) ∧ σ = [some (.ref PP), some (.ref d), some (.ref t), some (.ref pb), some (.ref p), y3, y4], ?_, fun σ H2 hM => ?_⟩
    · refine ⟨_, rfl, t, rfl, ⟨_, SqT.of ht⟩, for_tup (K := K) (a := t) (xs := xs) (fun i σ H3 => Same H2 H3 ∧ ∃ p y3 y4, FrK K H3 p (totF val (0, 1) (tl.take i)) ∧ σ = [some (.ref PP), some (.ref d), some (.ref t), some (.ref pb), some (.ref p), y3, y4]) ⟨Same.refl _, fa 2000, _, _, T.z_ZERO _, rfl⟩ (fun i σ H2 _ hp => SqT.of (hp.1 _ _ ht)) (fun i x σ H2 hx hp => ?_) (fun σ H2 hp => ?_)⟩
      · obtain ⟨s2, p, y3, y4, hp, rfl⟩ := hp
        obtain ⟨dt, hdd, hdt⟩ := DtAll.at i hts hx
        rw [List.getElem?_map] at hdd
        obtain ⟨⟨n, f⟩, he, rfl⟩ := Option.map_eq_some_iff.mp hdd
        have tok : f.1 ≠ 0 ∧ BdF f ∧ n.length ≤ 7 := hok.2 _ (List.mem_of_getElem? he)
        change Dt _ _ _ (.tuple [.str (SX.S n), frP f]) at hdt
        have il : i < tl.length := (List.getElem?_eq_some_iff.mp he).1
        have bi := bdm i (by omega)
        obtain ⟨kvs, hk, hkv⟩ := hd
        obtain ⟨bv, pv, ev, hpv⟩ := hkv n (List.mem_map_of_mem (f := fun t : List Nat × FR => t.1) (List.mem_of_getElem? he))
        have bm := Bf.mul tok.2.1.bf bv
        match x, hdt with
        | _, .tup (a := pp) hpp (.cons (.str _ _) (.cons hr' .nil)) =>
          obtain ⟨pr, rfl, hpr⟩ := dt_fr hr'
          refine ⟨pp, _, rfl, .inl (.inl (s2 _ _ hpp)), rfl, _, _, rfl, _, _, rfl, rfl, _, rfl, _, rfl, _, rfl, _, rfl, d, _, rfl, by rw [← ev]; exact DGet.k (k := Sum.inr (SX.S n)) (s2 _ _ hk), ?_⟩
          refine ⟨pr, pv, f, val n, rfl, SqT.of (s2 _ _ hpr), SqT.of (s2 _ _ hpv), tok.2.1.sm, bv.sm (by decide), _, _, rfl, ?_, ?_, fun e ne => ?_⟩
          · exact Int.mul_ne_zero (by have := tok.2.1.2.1; omega) (by have := bv.2.1; omega)
          · show (f.2 * (val n).2).natAbs.log2 < 4096
            rw [Int.natAbs_mul]
            exact log2_mono (Nat.mul_le_mul tok.2.1.bf.2.2 bv.2.2) (by decide +kernel)
          have se := same_upd (o := .tup [.int (lowT (f.1 * (val n).1) (f.2 * (val n).2)), .int (lowD (f.1 * (val n).1) (f.2 * (val n).2))]) ne
          refine ⟨p, e, totF val (0, 1) (tl.take i), mulL f (val n), rfl, SqT_same hp se, SqT.of upd_same, bi.sm (Nat.le_refl _), bm.sm (by decide), _, _, rfl, ?_, ?_, fun e2 ne2 => ?_⟩
          · exact Int.mul_ne_zero (by have := bi.2.1; omega) (by have := bm.2.1; omega)
          · show ((totF val (0, 1) (tl.take i)).2 * (mulL f (val n)).2).natAbs.log2 < 4096
            rw [Int.natAbs_mul]
            exact log2_mono (Nat.mul_le_mul bi.2.2 bm.2.2) (by decide +kernel)
          have se2 := same_upd (o := .tup [.int (addL (totF val (0, 1) (tl.take i)) (mulL f (val n))).1, .int (addL (totF val (0, 1) (tl.take i)) (mulL f (val n))).2]) ne2
          refine ⟨s2.trans (se.trans se2), e2, some (.str (SX.S n)), some (.ref pr), ?_, rfl⟩
          rw [List.take_add_one, he]
          show FrK K _ e2 (totF val (0, 1) (tl.take i ++ [(n, f)]))
          rw [totF_app]
          exact SqT.of upd_same
      · obtain ⟨s2, p, y3, y4, hp, rfl⟩ := hp
        rw [xl, List.take_length] at hp
        exact ⟨s2, p, _, _, hp, rfl⟩
    obtain ⟨s2, p, y3, y4, hp, rfl⟩ := hM
    have bt := bdm tl.length (Nat.le_refl _)
    rw [List.take_length] at bt
    exact ⟨_, rfl, _, rfl, pb, p, b, totF val (0, 1) tl, rfl, SqT.of (s2 _ _ hpb), hp, hb.sm (Nat.le_refl _), bt.sm (Nat.le_refl _), _, rfl, q _ s2⟩
theorem ok_keeps (T : Txt K mg fa fd) : FnOk P w K mg base CX0 6 (fa 36) (fd 36) ["_law_tie", "_law_values"] spKept := by
  refine T.F_keeps.ok sc_keeps (fun vs H Q E h => ?_) (fun cdv A outer s H vs Q E hr h => ?_)
  · obtain ⟨v, tl, b, d, z, val, rfl, _⟩ := h
    rfl
  · obtain ⟨v, tl, b, d, z, val, rfl, hv, hok, hb, hd, q⟩ := h
    refine ⟨_, (pss_one (ps_ret (pe_not (pe_call (ok_under T) (hr.mono (by decide)) (by rfl) T.g_under T.F_under.kp T.b_under .nil pass0 (pa_cons (pe_ix ix_tup (pv 0) pe_int (fun _ _ => rfl)) (pa_cons (pe_call (ok_total T) (hr.mono (by decide)) (by rfl) T.g_total T.F_total.kp T.b_total .nil pass0 (pa_cons (pe_ix ix_tup (pv 0) pe_int (fun _ _ => rfl)) (pa_cons (pv 1) pa_nil))) pa_nil)))))), ?_⟩
    obtain ⟨PP, t, y, xs, rfl, hPP, ht, hts, hy⟩ := tie_inv hv
    obtain ⟨pb, rfl, hpb⟩ := dt_fr hy
    exact ⟨_, rfl, PP, _, _, _, rfl, rfl, SqT.of hPP, t1, _, rfl, PP, _, _, _, rfl, rfl, SqT.of hPP, t0, _, rfl, _, tl, d, z, val, rfl, .tup ht hts, hok, hd, fun p H' s' hp bt => ⟨pb, p, b, totF val (0, 1) tl, rfl, SqT.of (s' _ _ hpb), SqT.of hp, hb.sm (Nat.le_refl _), bt.sm (by decide), _, rfl, q _ s'⟩⟩
end
def tmL (x : List Nat) (f : FR) : List Nat := if f = (1, 1) then x else if f = (-1, 1) then 45 :: x else txtL f.1 f.2 ++ 42 :: x
def Fsm (f : FR) : Prop := f.1.natAbs < 10 ^ 62 ∧ 0 < f.2 ∧ f.2.natAbs < 10 ^ 62
theorem txtL_len {f : FR} (h : Fsm f) : (txtL f.1 f.2).length ≤ 127 := by
  rw [txt_int f.1 f.2 h.2.1]
  have a := intL_len h.1
  have b := intL_len h.2.2
  split
  · omega
  · rw [List.length_append, List.length_cons]
    omega
theorem tmL_len {x : List Nat} {f : FR} (hx : x.length ≤ 7) (h : Fsm f) : (tmL x f).length ≤ 135 := by
  have := txtL_len h
  unfold tmL
  split
  · omega
  · split
    · rw [List.length_cons]
      omega
    · rw [List.length_append, List.length_cons]
      omega
theorem star : (Str.ofString "*" : Str) = SX.S [42] := by decide +kernel
theorem minusT : (Str.ofString " - " : Str) = SX.S [32, 45, 32] := by decide +kernel
theorem plusT : (Str.ofString " + " : Str) = SX.S [32, 43, 32] := by decide +kernel
theorem leT : (Str.ofString " <= " : Str) = SX.S [32, 60, 61, 32] := by decide +kernel
theorem eqv_pair (a b c d : Int) : PyData.eqv (.tuple [.int a, .int b]) (.tuple [.int c, .int d]) = decide ((a, b) = (c, d)) := by
  show ((a == c) && ((b == d) && true)) = _
  rw [Bool.and_true, Bool.eq_iff_iff, Bool.and_eq_true, beq_iff_eq, beq_iff_eq, decide_eq_true_eq, Prod.mk.injEq]
theorem dp_fr {K : PySem.W.Frag} {H : Hp} {p : Addr} {a b : Int} (h : H p = some (.tup [.int a, .int b])) : Dp K H (.ref p) (.tuple [.int a, .int b]) := .tup (SqT.of h) (.cons (.int a) (.cons (.int b) .nil))
section
variable {P : Program} {w : World} {K : PySem.W.Frag} {mg : Str → Option Value} {base : Heap} {fa : Nat → Addr} {fd : Nat → FuncData}
def spTermT : Sp := fun vs H Q _ => ∃ (x : List Nat) (p : Addr) (f : FR), vs = [vS x, .ref p] ∧ x.length ≤ 7 ∧ H p = some (.tup [.int f.1, .int f.2]) ∧ Fsm f ∧ ∀ H', Same H H' → Q (vS (tmL x f)) H'
theorem ok_p_term_text (T : Txt K mg fa fd) : FnOk P w K mg base CX0 3 (fa 19) (fd 19) ["name", "rate"] spTermT := by
  refine T.F_p_term_text.ok sc_p_term_text (fun vs H Q E h => ?_) (fun cdv A outer s H vs Q E hr h => ?_)
  · obtain ⟨x, p, f, rfl, _⟩ := h
    rfl
  · obtain ⟨x, p, f, rfl, hx, hp, hf, q⟩ := h
    refine ⟨_, (pss_cons (ps_if (pt_cmpR (op_eqD hr.units) (pv 1) (pe_tup (pa_cons pe_int (pa_cons pe_int pa_nil))) (nomark _)) (pss_one (ps_ret (pv 0))) pss_nil)
      (pss_cons (ps_if (pt_cmpR (op_eqD hr.units) (pv 1) (pe_tup (pa_cons (pe_un un_neg pe_int) (pa_cons pe_int pa_nil))) (nomark _)) (pss_one (ps_ret (pe_op op_add_str pe_str (pv 0)))) pss_nil)
      (pss_one (ps_ret (pe_op op_add_str (pe_op op_add_str (pe_call (ok_p_ratio_text T) (hr.mono (by decide)) (by rfl) T.g_p_ratio_text T.F_p_ratio_text.kp T.b_p_ratio_text .nil pass0 (pa_cons (pv 1) pa_nil)) pe_str) (pv 0)))))), ?_⟩
    refine ⟨_, rfl, two_line, fun e ne => ?_⟩
    have s1 := same_upd (o := .tup [V.int 1, .int 1]) ne
    refine ⟨_, _, dp_fr (s1 _ _ hp), dp_fr upd_same, rfl, rfl, _, rfl, ?_⟩
    rw [eqv_pair]
    refine ite2 (fun c => ?_) (fun c => ?_)
    · have := q _ s1
      unfold tmL at this
      rw [if_pos (of_decide_eq_true c)] at this
      exact ⟨_, rfl, this⟩
    · refine ⟨_, rfl, _, rfl, two_line, fun e2 ne2 => ?_⟩
      have s2 := same_upd (o := .tup [V.int (-1), .int 1]) ne2
      refine ⟨_, _, dp_fr (s2 _ _ (s1 _ _ hp)), dp_fr upd_same, rfl, rfl, _, rfl, ?_⟩
      rw [eqv_pair]
      have c1 : f ≠ (1, 1) := fun z => c (decide_eq_true z)
      refine ite2 (fun c2 => ?_) (fun c2 => ?_)
      · have := q _ (s1.trans s2)
        unfold tmL at this
        rw [if_neg c1, if_pos (of_decide_eq_true c2)] at this
        refine ⟨_, rfl, _, _, rfl, rfl, ?_, ?_⟩
        · rw [dash, SX.S_len, SX.S_len]
          exact small_line (by show 1 + x.length ≤ 1000; omega)
        · rw [dash, SX.S_cat]
          exact this
      · have c3 : f ≠ (-1, 1) := fun z => c2 (decide_eq_true z)
        have tl := txtL_len hf
        refine ⟨_, rfl, p, f.1, f.2, rfl, (s1.trans s2) _ _ hp, hf.2.1, hf.1, hf.2.2, fun H' s3 => ⟨_, _, rfl, rfl, ?_, _, rfl, _, _, rfl, rfl, ?_, ?_⟩⟩
        · rw [star, SX.S_len, SX.S_len]
          exact small_line (by show _ + 1 ≤ 1000; omega)
        · rw [star, SX.S_cat, SX.S_len, SX.S_len, List.length_append]
          exact small_line (by show _ + 1 + _ ≤ 1000; omega)
        · have := q _ (s1.trans (s2.trans s3))
          unfold tmL at this
          rw [if_neg c1, if_neg c3] at this
          rw [star, SX.S_cat, SX.S_cat, List.append_assoc]
          exact this
end
def stepT (acc : List Nat) (u : List Nat × FR) : List Nat := if u.2.1 < 0 then acc ++ [32, 45, 32] ++ tmL u.1 (-u.2.1, u.2.2) else acc ++ [32, 43, 32] ++ tmL u.1 u.2
def tsL : List (List Nat × FR) → List Nat
  | [] => []
  | t :: r => r.foldl stepT (tmL t.1 t.2)
def TsOk (tl : List (List Nat × FR)) : Prop := (tl.length = 1 ∨ tl.length = 2) ∧ ∀ t ∈ tl, t.1.length ≤ 7 ∧ Fsm t.2
theorem Fsm.neg {f : FR} (h : Fsm f) : Fsm (-f.1, f.2) := ⟨by show (-f.1).natAbs < _; rw [Int.natAbs_neg]; exact h.1, h.2⟩
theorem stepT_len {acc : List Nat} {u : List Nat × FR} (hx : u.1.length ≤ 7) (h : Fsm u.2) : (stepT acc u).length ≤ acc.length + 138 := by
  unfold stepT
  split
  · have := tmL_len hx h.neg
    simp only [List.length_append, List.length_cons, List.length_nil]
    omega
  · have := tmL_len hx h
    simp only [List.length_append, List.length_cons, List.length_nil]
    omega
theorem cut_1 {xs : List V} (h : 1 ≤ xs.length) : cutV xs (some 1) none = xs.drop 1 := by
  unfold cutV
  rw [show HT.sIx xs.length 0 (some 1) = min 1 xs.length from HT.sIx_nat xs.length 0 1, HT.sIx_none, Nat.min_eq_left h]
  exact List.take_of_length_le (by rw [List.length_drop]; exact Nat.le_refl _)
section
variable {P : Program} {w : World} {K : PySem.W.Frag} {mg : Str → Option Value} {base : Heap} {fa : Nat → Addr} {fd : Nat → FuncData}
def spTermsT : Sp := fun vs H Q _ => ∃ v tl z, vs = [v] ∧ Dt z H v (.tuple (tl.map tmP)) ∧ TsOk tl ∧ ∀ H', Same H H' → Q (vS (tsL tl)) H'
theorem ok_p_terms_text (T : Txt K mg fa fd) : FnOk P w K mg base CX0 4 (fa 20) (fd 20) ["terms"] spTermsT := by
  refine T.F_p_terms_text.ok sc_p_terms_text (fun vs H Q E h => ?_) (fun cdv A outer s H vs Q E hr h => ?_)
  · obtain ⟨v, tl, z, rfl, _⟩ := h
    rfl
  · obtain ⟨v, tl, z, rfl, hv, hok, q⟩ := h
    refine ⟨_, (C8.pss_cut (ps_set (i := 1) sc_p_terms_text.nd rfl (.inl rfl) (pe_call (ok_p_term_text T) (hr.mono (by decide)) (by rfl) T.g_p_term_text T.F_p_term_text.kp T.b_p_term_text .nil pass0 (pa_cons (pe_ix ix_tup (pe_ix ix_tup (pv 0) pe_int (fun _ _ => rfl)) pe_int (fun _ _ => rfl)) (pa_cons (pe_ix ix_tup (pe_ix ix_tup (pv 0) pe_int (fun _ _ => rfl)) pe_int (fun _ _ => rfl)) pa_nil))))
      (C8.pss_cut (ps_for PassesOwn.never rfl (pi_tup (pe_slice sl_tup (pv 0) (po_some pe_int) po_none)) (pg_tup (by rfl) (pgs_cons (pg_name (i := 2) sc_p_terms_text.nd rfl (.inl rfl)) (pgs_cons (pg_name (i := 3) sc_p_terms_text.nd rfl (.inl rfl)) pgs_nil))) (pss_one (ps_if (pt_cmpR op_lt (pe_ix ix_tup (pv 3) pe_int (fun _ _ => rfl)) pe_int (nomark _)) (pss_one (ps_set (i := 1) sc_p_terms_text.nd rfl (.inl rfl) (pe_op op_add_str (pe_op op_add_str (pv 1) pe_str) (pe_call (ok_p_term_text T) (hr.mono (by decide)) (by rfl) T.g_p_term_text T.F_p_term_text.kp T.b_p_term_text .nil pass0 (pa_cons (pv 2) (pa_cons (pe_tup (pa_cons (pe_un un_neg (pe_ix ix_tup (pv 3) pe_int (fun _ _ => rfl))) (pa_cons (pe_ix ix_tup (pv 3) pe_int (fun _ _ => rfl)) pa_nil))) pa_nil)))))) (pss_one (ps_set (i := 1) sc_p_terms_text.nd rfl (.inl rfl) (pe_op op_add_str (pe_op op_add_str (pv 1) pe_str) (pe_call (ok_p_term_text T) (hr.mono (by decide)) (by rfl) T.g_p_term_text T.F_p_term_text.kp T.b_p_term_text .nil pass0 (pa_cons (pv 2) (pa_cons (pv 3) pa_nil)))))))))
      (pss_one (ps_ret (pv 1))))), ?_⟩
    obtain ⟨t, xs, rfl, ht, hts⟩ : ∃ t xs, v = .ref t ∧ H t = some (.tup xs) ∧ DtAll z H xs (tl.map tmP) := by
      generalize tl.map tmP = dd at hv
      match v, hv with
      | _, .tup h1 h2 => exact ⟨_, _, rfl, h1, h2⟩
    obtain ⟨⟨x, f⟩, r, rfl⟩ : ∃ u r, tl = u :: r := by
      cases tl with
      | nil => have := hok.1; simp at this
      | cons u r => exact ⟨u, r, rfl⟩
    obtain ⟨pp, pf, xs', rfl, hpp, hpf, hts'⟩ : ∃ pp pf xs', xs = .ref pp :: xs' ∧ H pp = some (.tup [vS x, .ref pf]) ∧ H pf = some (.tup [.int f.1, .int f.2]) ∧ DtAll z H xs' (r.map tmP) := by
      change DtAll z H xs (.tuple [.str (SX.S x), frP f] :: r.map tmP) at hts
      match xs, hts with
      | _, .cons (.tup h1 (.cons (.str _ _) (.cons h2 .nil))) h3 =>
        obtain ⟨pf, rfl, h4⟩ := dt_fr h2
        exact ⟨_, _, _, rfl, h1, h4, h3⟩
    have xl : xs'.length = r.length := by
      have := hts'.len
      rw [List.length_map] at this
      exact this
    have rl : r.length ≤ 1 := by
      have := hok.1
      simp only [List.length_cons] at this
      omega
    have h0 := hok.2 (x, f) List.mem_cons_self
    have l0 : (tmL x f).length ≤ 135 := tmL_len h0.1 h0.2
    refine ⟨fun σ H1 => Same H H1 ∧ σ = [some (.ref t), some (vS (tmL x f)), none, none], ?_, fun σ H1 hM => ?_⟩
    · exact ⟨_, rfl, t, _, _, _, rfl, rfl, SqT.of ht, at_of (j := 0) rfl rfl, pp, _, _, _, rfl, rfl, SqT.of hpp, rfl, _, rfl, t, _, _, _, rfl, rfl, SqT.of ht, at_of (j := 0) rfl rfl, pp, _, _, _, rfl, rfl, SqT.of hpp, rfl, x, pf, f, rfl, h0.1, hpf, h0.2, fun H' s' => ⟨s', rfl⟩⟩
    obtain ⟨s1, rfl⟩ := hM
    have ht1 := s1 _ _ ht
    have hts1 := hts'.same s1
    refine ⟨fun σ H2 => Same H1 H2 ∧ ∃ y2 y3, σ = [some (.ref t), some (vS (tsL ((x, f) :: r))), y2, y3], ?_, fun σ H2 hM => ?_⟩
    · refine ⟨_, rfl, 1, rfl, t, _, rfl, SqT.of ht1, ?_, fun p np => ?_⟩
      · intro z
        have z1 := z.1
        rw [show HT.sIx (V.ref pp :: xs').length 0 (some 1) = min 1 _ from HT.sIx_nat _ 0 1] at z1
        simp only [List.length_cons] at z1
        omega
      have sp := same_upd (o := .tup (cutV (V.ref pp :: xs') (some 1) none)) np
      have hp : (upd H1 p (.tup (cutV (V.ref pp :: xs') (some 1) none))) p = some (.tup xs') := by
        rw [upd_same, cut_1 (by simp)]
        rfl
      have hts2 := hts1.same sp
      refine ⟨p, rfl, ⟨_, SqT.of hp⟩, for_tup (K := K) (a := p) (xs := xs') (fun i σ H2 => Same (upd H1 p (.tup (cutV (V.ref pp :: xs') (some 1) none))) H2 ∧ ∃ y2 y3, σ = [some (.ref t), some (vS ((r.take i).foldl stepT (tmL x f))), y2, y3]) ⟨Same.refl _, _, _, rfl⟩ (fun i σ H2 _ hq => SqT.of (hq.1 _ _ hp)) (fun i y σ H2 hy hq => ?_) (fun σ H2 hq => ?_)⟩
      · obtain ⟨s2, y2, y3, rfl⟩ := hq
        obtain ⟨dt, hdd, hdt⟩ := DtAll.at i hts2 hy
        rw [List.getElem?_map] at hdd
        obtain ⟨⟨n, g⟩, he, rfl⟩ := Option.map_eq_some_iff.mp hdd
        have i0 : i = 0 := by
          have := (List.getElem?_eq_some_iff.mp he).1
          omega
        subst i0
        have hu := hok.2 (n, g) (List.mem_cons_of_mem _ (List.mem_of_getElem? he))
        change Dt _ _ _ (.tuple [.str (SX.S n), frP g]) at hdt
        have e1 : (r.take (0 + 1)).foldl stepT (tmL x f) = stepT (tmL x f) (n, g) := by
          rw [List.take_add_one, he]
          rfl
        rw [e1]
        have nl : n.length ≤ 7 := hu.1
        have tn : (tmL n (-g.1, g.2)).length ≤ 135 := tmL_len nl hu.2.neg
        have tp : (tmL n g).length ≤ 135 := tmL_len nl hu.2
        match y, hdt with
        | _, .tup (a := pp2) hpp2 (.cons (.str _ _) (.cons hr' .nil)) =>
          obtain ⟨pr, rfl, hpr⟩ := dt_fr hr'
          refine ⟨pp2, _, rfl, .inl (.inl (s2 _ _ hpp2)), rfl, _, _, rfl, _, _, rfl, rfl, _, rfl, pr, _, _, _, rfl, rfl, SqT.of (s2 _ _ hpr), t0, _, _, rfl, rfl, _, rfl, ite2 (fun c => ?_) (fun c => ?_)⟩
          · have c := of_decide_eq_true c
            refine ⟨_, rfl, _, _, rfl, rfl, ?_, _, rfl, _, rfl, pr, _, _, _, rfl, rfl, SqT.of (s2 _ _ hpr), t0, _, rfl, _, rfl, pr, _, _, _, rfl, rfl, SqT.of (s2 _ _ hpr), t1, two_line, fun e ne => ?_⟩
            · rw [minusT, SX.S_len, SX.S_len]
              exact small_line (by show (tmL x f).length + 3 ≤ 1000; omega)
            · have se := same_upd (o := .tup [V.int (-g.1), .int g.2]) ne
              refine ⟨n, e, (-g.1, g.2), rfl, nl, upd_same, hu.2.neg, fun H' s' => ⟨_, _, rfl, rfl, ?_, s2.trans (se.trans s'), some (vS n), some (.ref pr), ?_⟩⟩
              · rw [minusT, SX.S_cat, SX.S_len, SX.S_len, List.length_append]
                exact small_line (by show (tmL x f).length + 3 + (tmL n (-g.1, g.2)).length ≤ 1000; omega)
              · unfold stepT
                rw [if_pos c, minusT, SX.S_cat, SX.S_cat]
                rfl
          · have c : ¬ g.1 < 0 := fun z => c (decide_eq_true z)
            refine ⟨_, rfl, _, _, rfl, rfl, ?_, _, rfl, _, rfl, n, pr, g, rfl, nl, s2 _ _ hpr, hu.2, fun H' s' => ⟨_, _, rfl, rfl, ?_, s2.trans s', some (vS n), some (.ref pr), ?_⟩⟩
            · rw [plusT, SX.S_len, SX.S_len]
              exact small_line (by show (tmL x f).length + 3 ≤ 1000; omega)
            · rw [plusT, SX.S_cat, SX.S_len, SX.S_len, List.length_append]
              exact small_line (by show (tmL x f).length + 3 + (tmL n g).length ≤ 1000; omega)
            · unfold stepT
              rw [if_neg c, plusT, SX.S_cat, SX.S_cat]
              rfl
      · obtain ⟨s2, y2, y3, rfl⟩ := hq
        rw [xl, List.take_length]
        exact ⟨sp.trans s2, _, _, rfl⟩
    obtain ⟨s2, y2, y3, rfl⟩ := hM
    exact ⟨_, rfl, q H2 (s1.trans s2)⟩
end
def wordL (x : List Nat) (f : FR) : List Nat := if ((f.1.natAbs : Int), f.2) = ((1 : Int), (1 : Int)) then x else txtL (f.1.natAbs : Int) f.2 ++ 42 :: x
def leadL (acc : List Nat) (n : Int) : List Nat := if acc = [] then (if n < 0 then [45] else []) else (if n < 0 then [32, 45, 32] else [32, 43, 32])
def sumS (acc : List Nat) (u : List Nat × FR) : List Nat := acc ++ leadL acc u.2.1 ++ wordL u.1 u.2
def sumL (tl : List (List Nat × FR)) : List Nat := tl.foldl sumS []
theorem Fsm.abs {f : FR} (h : Fsm f) : Fsm ((f.1.natAbs : Int), f.2) := ⟨by show ((f.1.natAbs : Int)).natAbs < _; rw [Int.natAbs_natCast]; exact h.1, h.2⟩
theorem wordL_len {x : List Nat} {f : FR} (hx : x.length ≤ 7) (h : Fsm f) : (wordL x f).length ≤ 135 := by
  have := txtL_len h.abs
  unfold wordL
  split
  · omega
  · rw [List.length_append, List.length_cons]
    change (txtL (f.1.natAbs : Int) f.2).length ≤ 127 at this
    omega
theorem leadL_len (acc : List Nat) (n : Int) : (leadL acc n).length ≤ 3 := by
  unfold leadL
  split <;> split <;> decide
theorem sumS_len {acc : List Nat} {u : List Nat × FR} (hx : u.1.length ≤ 7) (h : Fsm u.2) : (sumS acc u).length ≤ acc.length + 138 := by
  have a := wordL_len hx h
  have b := leadL_len acc u.2.1
  unfold sumS
  simp only [List.length_append]
  omega
theorem sum_len : ∀ {tl : List (List Nat × FR)} (i : Nat) (_ : ∀ t ∈ tl, t.1.length ≤ 7 ∧ Fsm t.2), ((tl.take i).foldl sumS []).length ≤ 138 * i
  | _, 0, _ => by simp
  | tl, i + 1, h => by
    have ih := sum_len (tl := tl) i h
    rw [List.take_add_one]
    cases e : tl[i]? with
    | none =>
      simp only [Option.toList_none, List.append_nil]
      omega
    | some t =>
      have ht := h t (List.mem_of_getElem? e)
      simp only [Option.toList_some, List.foldl_append, List.foldl_cons, List.foldl_nil]
      have := sumS_len (acc := (tl.take i).foldl sumS []) ht.1 ht.2
      omega
section
variable {P : Program} {w : World} {K : PySem.W.Frag} {mg : Str → Option Value} {base : Heap} {fa : Nat → Addr} {fd : Nat → FuncData}
def spSumT : Sp := fun vs H Q _ => ∃ v tl z, vs = [v] ∧ Dt z H v (.tuple (tl.map tmP)) ∧ TsOk tl ∧ ∀ H', Same H H' → Q (vS (sumL tl)) H'
theorem ok_sum_text (T : Txt K mg fa fd) : FnOk P w K mg base CX0 4 (fa 41) (fd 41) ["_law_terms_here"] spSumT := by
  refine T.F_sum_text.ok sc_sum_text (fun vs H Q E h => ?_) (fun cdv A outer s H vs Q E hr h => ?_)
  · obtain ⟨v, tl, z, rfl, _⟩ := h
    rfl
  · obtain ⟨v, tl, z, rfl, hv, hok, q⟩ := h
    refine ⟨_, (C8.pss_cut (ps_set (i := 1) sc_sum_text.nd rfl (.inl rfl) pe_str)
      (C8.pss_cut (ps_for PassesOwn.never rfl (pi_tup (pv 0)) (pg_tup (by rfl) (pgs_cons (pg_name (i := 2) sc_sum_text.nd rfl (.inl rfl)) (pgs_cons (pg_name (i := 3) sc_sum_text.nd rfl (.inl rfl)) pgs_nil))) (C8.pss_cut (ps_set (i := 4) sc_sum_text.nd rfl (.inl rfl) (pe_tup (pa_cons (pe_callB call_abs (by rfl) T.m_abs PyProof.Rows.boot_abs (pa_cons (pe_ix ix_tup (pv 3) pe_int (fun _ _ => rfl)) pa_nil)) (pa_cons (pe_ix ix_tup (pv 3) pe_int (fun _ _ => rfl)) pa_nil))))
      (C8.pss_cut (ps_set (i := 5) sc_sum_text.nd rfl (.inl rfl) (pe_ifExp (pt_cmpR (op_eqD hr.units) (pv 4) (pe_tup (pa_cons pe_int (pa_cons pe_int pa_nil))) (nomark _)) (pv 2) (pe_op op_add_str (pe_op op_add_str (pe_call (ok_part_text T) (hr.mono (by decide)) (by rfl) T.g_part_text T.F_part_text.kp T.b_part_text .nil pass0 (pa_cons (pv 4) pa_nil)) pe_str) (pv 2))))
      (C8.pss_cut (ps_set (i := 6) sc_sum_text.nd rfl (.inl rfl) (pe_ifExp (pt_cmpR op_eq (pv 1) pe_str (nomark _)) (pe_ifExp (pt_cmpR op_lt (pe_ix ix_tup (pv 3) pe_int (fun _ _ => rfl)) pe_int (nomark _)) pe_str pe_str) (pe_ifExp (pt_cmpR op_lt (pe_ix ix_tup (pv 3) pe_int (fun _ _ => rfl)) pe_int (nomark _)) pe_str pe_str)))
      (pss_one (ps_set (i := 1) sc_sum_text.nd rfl (.inl rfl) (pe_op op_add_str (pe_op op_add_str (pv 1) (pv 6)) (pv 5))))))))
      (pss_one (ps_ret (pv 1))))), ?_⟩
    obtain ⟨t, xs, rfl, ht, hts⟩ : ∃ t xs, v = .ref t ∧ H t = some (.tup xs) ∧ DtAll z H xs (tl.map tmP) := by
      generalize tl.map tmP = dd at hv
      match v, hv with
      | _, .tup h1 h2 => exact ⟨_, _, rfl, h1, h2⟩
    have xl : xs.length = tl.length := by
      have := hts.len
      rw [List.length_map] at this
      exact this
    refine ⟨fun σ H1 => H1 = H ∧ σ = [some (.ref t), some (.str (Str.ofString "")), none, none, none, none, none], ⟨rfl, rfl⟩, fun σ H1 hM => ?_⟩
    obtain ⟨rfl, rfl⟩ := hM
    rw [emptyS]
    refine ⟨fun σ H2 => Same H1 H2 ∧ ∃ y2 y3 y4 y5 y6, σ = [some (.ref t), some (vS (sumL tl)), y2, y3, y4, y5, y6], ?_, fun σ H2 hM => ?_⟩
    · refine ⟨_, rfl, t, rfl, ⟨_, SqT.of ht⟩, for_tup (K := K) (a := t) (xs := xs) (fun i σ H2 => Same H1 H2 ∧ ∃ y2 y3 y4 y5 y6, σ = [some (.ref t), some (vS ((tl.take i).foldl sumS [])), y2, y3, y4, y5, y6]) ⟨Same.refl _, _, _, _, _, _, rfl⟩ (fun i σ H2 _ hq => SqT.of (hq.1 _ _ ht)) (fun i y σ H2 hy hq => ?_) (fun σ H2 hq => ?_)⟩
      · obtain ⟨s2, y2, y3, y4, y5, y6, rfl⟩ := hq
        obtain ⟨dt, hdd, hdt⟩ := DtAll.at i hts hy
        rw [List.getElem?_map] at hdd
        obtain ⟨⟨n, g⟩, he, rfl⟩ := Option.map_eq_some_iff.mp hdd
        have hu : n.length ≤ 7 ∧ Fsm g := hok.2 (n, g) (List.mem_of_getElem? he)
        have il : i < tl.length := (List.getElem?_eq_some_iff.mp he).1
        have al := sum_len i hok.2
        have ol := hok.1
        change Dt _ _ _ (.tuple [.str (SX.S n), frP g]) at hdt
        have e1 : (tl.take (i + 1)).foldl sumS [] = sumS ((tl.take i).foldl sumS []) (n, g) := by
          rw [List.take_add_one, he]
          simp only [Option.toList_some, List.foldl_append, List.foldl_cons, List.foldl_nil]
        rw [e1]
        generalize (tl.take i).foldl sumS [] = acc at al ⊢
        have wl := wordL_len hu.1 hu.2
        have ll := leadL_len acc g.1
        match y, hdt with
        | _, .tup (a := pp) hpp (.cons (.str _ _) (.cons hr' .nil)) =>
          obtain ⟨pr, rfl, hpr⟩ := dt_fr hr'
          have hpr2 := s2 _ _ hpr
          refine ⟨pp, _, rfl, .inl (.inl (s2 _ _ hpp)), rfl, _, _, rfl, _, _, rfl, rfl, ?_⟩
          -- size
          refine ⟨fun σ H3 => Same H2 H3 ∧ ∃ e, H3 e = some (.tup [.int (g.1.natAbs : Int), .int g.2]) ∧ σ = [some (.ref t), some (vS acc), some (vS n), some (.ref pr), some (.ref e), y5, y6], ?_, fun σ H3 hM => ?_⟩
          · refine ⟨_, rfl, pr, _, _, _, rfl, rfl, SqT.of hpr2, t0, _, rfl, _, rfl, pr, _, _, _, rfl, rfl, SqT.of hpr2, t1, two_line, fun e ne => ?_⟩
            rw [abs_nat]
            exact ⟨same_upd ne, e, upd_same, rfl⟩
          obtain ⟨s3, e, he3, rfl⟩ := hM
          -- word
          refine ⟨fun σ H4 => Same H3 H4 ∧ σ = [some (.ref t), some (vS acc), some (vS n), some (.ref pr), some (.ref e), some (vS (wordL n g)), y6], ?_, fun σ H4 hM => ?_⟩
          · refine ⟨_, rfl, two_line, fun e2 ne2 => ?_⟩
            have s4 := same_upd (o := .tup [V.int 1, .int 1]) ne2
            refine ⟨_, _, dp_fr (s4 _ _ he3), dp_fr upd_same, rfl, rfl, _, rfl, ?_⟩
            rw [eqv_pair]
            refine ite2 (fun c => ?_) (fun c => ?_)
            · refine ⟨_, rfl, s4, ?_⟩
              unfold wordL
              rw [if_pos (of_decide_eq_true c)]
              rfl
            · have tl := txtL_len hu.2.abs
              refine ⟨_, rfl, e, (g.1.natAbs : Int), g.2, rfl, s4 _ _ he3, hu.2.2.1, hu.2.abs.1, hu.2.2.2, fun H' s5 => ⟨_, _, rfl, rfl, ?_, _, rfl, _, _, rfl, rfl, ?_, s4.trans s5, ?_⟩⟩
              · rw [star, SX.S_len, SX.S_len]
                exact small_line (by show (txtL (g.1.natAbs : Int) g.2).length + 1 ≤ 1000; change (txtL (g.1.natAbs : Int) g.2).length ≤ 127 at tl; omega)
              · rw [star, SX.S_cat, SX.S_len, SX.S_len, List.length_append]
                exact small_line (by show (txtL (g.1.natAbs : Int) g.2).length + 1 + n.length ≤ 1000; change (txtL (g.1.natAbs : Int) g.2).length ≤ 127 at tl; omega)
              · unfold wordL
                rw [if_neg (fun z => c (decide_eq_true z)), star, SX.S_cat, SX.S_cat, List.append_assoc]
                rfl
          obtain ⟨s4, rfl⟩ := hM
          have hpr4 := s4 _ _ (s3 _ _ hpr2)
          -- lead
          refine ⟨fun σ H5 => H5 = H4 ∧ σ = [some (.ref t), some (vS acc), some (vS n), some (.ref pr), some (.ref e), some (vS (wordL n g)), some (vS (leadL acc g.1))], ?_, fun σ H5 hM => ?_⟩
          · refine ⟨_, rfl, rfl, _, rfl, ite2 (fun c => ?_) (fun c => ?_)⟩
            · have c : acc = [] := by
                have := V.str.inj (of_decide_eq_true c)
                exact S_inj this
              refine ⟨_, rfl, pr, _, _, _, rfl, rfl, SqT.of hpr4, t0, _, _, rfl, rfl, _, rfl, ite2 (fun d => ⟨rfl, ?_⟩) (fun d => ⟨rfl, ?_⟩)⟩
              · unfold leadL
                rw [if_pos c, if_pos (of_decide_eq_true d)]
                rfl
              · unfold leadL
                rw [if_pos c, if_neg (fun z => d (decide_eq_true z))]
                rfl
            · have c : acc ≠ [] := fun z => c (decide_eq_true (by rw [z]))
              refine ⟨_, rfl, pr, _, _, _, rfl, rfl, SqT.of hpr4, t0, _, _, rfl, rfl, _, rfl, ite2 (fun d => ⟨rfl, ?_⟩) (fun d => ⟨rfl, ?_⟩)⟩
              · unfold leadL
                rw [if_neg c, if_pos (of_decide_eq_true d), minusT]
                rfl
              · unfold leadL
                rw [if_neg c, if_neg (fun z => d (decide_eq_true z)), plusT]
                rfl
          obtain ⟨rfl, rfl⟩ := hM
          refine ⟨_, rfl, _, rfl, _, _, rfl, rfl, ?_, _, rfl, _, _, rfl, rfl, ?_, s2.trans (s3.trans s4), some (vS n), some (.ref pr), some (.ref e), some (vS (wordL n g)), some (vS (leadL acc g.1)), ?_⟩
          · rw [SX.S_len, SX.S_len]
            exact small_line (by omega)
          · rw [SX.S_cat, SX.S_len, SX.S_len, List.length_append]
            exact small_line (by omega)
          · rw [SX.S_cat, SX.S_cat]
            rfl
      · obtain ⟨s2, y2, y3, y4, y5, y6, rfl⟩ := hq
        rw [xl, List.take_length]
        exact ⟨s2, _, _, _, _, _, rfl⟩
    obtain ⟨s2, y2, y3, y4, y5, y6, rfl⟩ := hM
    exact ⟨_, rfl, q H2 s2⟩
end
/-! ### the mathematics of kept ties: a tie and its multiple -/
/-- f is g times p / q -/
def Kx (p q : Int) (f g : FR) : Prop := f.1 * (g.2 * q) = (g.1 * p) * f.2
theorem Kx.low {p q : Int} {g : FR} (hg : 0 < g.2) (hq : 0 < q) : Kx p q (lowF (g.1 * p) (g.2 * q)) g := lowT_self (Int.mul_ne_zero (by omega) (by omega))
theorem lowF_pos {u v : Int} (h : 0 < v) : 0 < (lowF u v).2 := lowD_pos (by omega)
theorem lowF_eq {u v : Int} (h : 0 < v) : (lowF u v).1 * v = u * (lowF u v).2 := lowT_self (by omega)
theorem Kx.mul {p q : Int} {r' r v : FR} (h : Kx p q r' r) (h1 : 0 < r'.2) (h2 : 0 < r.2) (h3 : 0 < v.2) : Kx p q (mulL r' v) (mulL r v) := by
  have a1 := lowF_eq (u := r'.1 * v.1) (Int.mul_pos h1 h3)
  have a2 := lowF_eq (u := r.1 * v.1) (Int.mul_pos h2 h3)
  unfold Kx at *
  unfold mulL
  generalize lowF (r'.1 * v.1) (r'.2 * v.2) = X at *
  generalize lowF (r.1 * v.1) (r.2 * v.2) = Y at *
  refine cancel3 (k := r'.2 * v.2 * (r.2 * v.2)) (Int.mul_ne_zero (Int.mul_ne_zero (by omega) (by omega)) (Int.mul_ne_zero (by omega) (by omega))) ?_
  calc r'.2 * v.2 * (r.2 * v.2) * (X.1 * (Y.2 * q)) = X.1 * (r'.2 * v.2) * (r.2 * v.2 * Y.2 * q) := by ac_rfl
    _ = r'.1 * v.1 * X.2 * (r.2 * v.2 * Y.2 * q) := by rw [a1]
    _ = r'.1 * (r.2 * q) * (v.1 * X.2 * v.2 * Y.2) := by ac_rfl
    _ = r.1 * p * r'.2 * (v.1 * X.2 * v.2 * Y.2) := by rw [h]
    _ = r.1 * v.1 * Y.2 * (p * X.2 * r'.2 * v.2) := by ac_rfl
    _ = Y.1 * (r.2 * v.2) * (p * X.2 * r'.2 * v.2) := by rw [a2]
    _ = _ := by ac_rfl
theorem Kx.add {p q : Int} {f' f g' g : FR} (h : Kx p q f' f) (k : Kx p q g' g) (h1 : 0 < f'.2) (h2 : 0 < f.2) (h3 : 0 < g'.2) (h4 : 0 < g.2) : Kx p q (addL f' g') (addL f g) := by
  have a1 := lowF_eq (u := f'.1 * g'.2 + g'.1 * f'.2) (Int.mul_pos h1 h3)
  have a2 := lowF_eq (u := f.1 * g.2 + g.1 * f.2) (Int.mul_pos h2 h4)
  unfold Kx at *
  unfold addL
  generalize lowF (f'.1 * g'.2 + g'.1 * f'.2) (f'.2 * g'.2) = X at *
  generalize lowF (f.1 * g.2 + g.1 * f.2) (f.2 * g.2) = Y at *
  have key : (f'.1 * g'.2 + g'.1 * f'.2) * (f.2 * g.2 * q) = (f.1 * g.2 + g.1 * f.2) * p * (f'.2 * g'.2) := by
    rw [Int.add_mul, Int.add_mul, Int.add_mul]
    congr 1
    · calc f'.1 * g'.2 * (f.2 * g.2 * q) = f'.1 * (f.2 * q) * (g'.2 * g.2) := by ac_rfl
        _ = f.1 * p * f'.2 * (g'.2 * g.2) := by rw [h]
        _ = _ := by ac_rfl
    · calc g'.1 * f'.2 * (f.2 * g.2 * q) = g'.1 * (g.2 * q) * (f'.2 * f.2) := by ac_rfl
        _ = g.1 * p * g'.2 * (f'.2 * f.2) := by rw [k]
        _ = _ := by ac_rfl
  generalize f'.1 * g'.2 + g'.1 * f'.2 = S' at *
  generalize f.1 * g.2 + g.1 * f.2 = S at *
  refine cancel3 (k := f'.2 * g'.2 * (f.2 * g.2)) (Int.mul_ne_zero (Int.mul_ne_zero (by omega) (by omega)) (Int.mul_ne_zero (by omega) (by omega))) ?_
  calc f'.2 * g'.2 * (f.2 * g.2) * (X.1 * (Y.2 * q)) = X.1 * (f'.2 * g'.2) * (f.2 * g.2 * Y.2 * q) := by ac_rfl
    _ = S' * X.2 * (f.2 * g.2 * Y.2 * q) := by rw [a1]
    _ = S' * (f.2 * g.2 * q) * (X.2 * Y.2) := by ac_rfl
    _ = S * p * (f'.2 * g'.2) * (X.2 * Y.2) := by rw [key]
    _ = S * Y.2 * (p * X.2 * (f'.2 * g'.2)) := by ac_rfl
    _ = Y.1 * (f.2 * g.2) * (p * X.2 * (f'.2 * g'.2)) := by rw [a2]
    _ = _ := by ac_rfl
theorem Kx.lt {p q : Int} {b' b t' t : FR} (hp : 0 < p) (hq : 0 < q) (h : Kx p q b' b) (k : Kx p q t' t) (h1 : 0 < b'.2) (h2 : 0 < b.2) (h3 : 0 < t'.2) (h4 : 0 < t.2) : ltF b' t' = ltF b t := by
  unfold ltF
  rw [decide_eq_decide]
  have e1 : b'.1 * t'.2 * (b.2 * t.2 * q) = b.1 * t.2 * (p * (b'.2 * t'.2)) := by
    calc b'.1 * t'.2 * (b.2 * t.2 * q) = b'.1 * (b.2 * q) * (t'.2 * t.2) := by ac_rfl
      _ = b.1 * p * b'.2 * (t'.2 * t.2) := by rw [h]
      _ = _ := by ac_rfl
  have e2 : t'.1 * b'.2 * (b.2 * t.2 * q) = t.1 * b.2 * (p * (b'.2 * t'.2)) := by
    calc t'.1 * b'.2 * (b.2 * t.2 * q) = t'.1 * (t.2 * q) * (b'.2 * b.2) := by ac_rfl
      _ = t.1 * p * t'.2 * (b'.2 * b.2) := by rw [k]
      _ = _ := by ac_rfl
  have c1 : 0 < b.2 * t.2 * q := Int.mul_pos (Int.mul_pos h2 h4) hq
  have c2 : 0 < p * (b'.2 * t'.2) := Int.mul_pos hp (Int.mul_pos h1 h3)
  constructor
  · intro z
    have := Int.mul_lt_mul_of_pos_right z c1
    rw [e1, e2] at this
    exact Int.lt_of_mul_lt_mul_right this (by omega)
  · intro z
    have := Int.mul_lt_mul_of_pos_right z c2
    rw [← e1, ← e2] at this
    exact Int.lt_of_mul_lt_mul_right this (by omega)
def wideL (sh : FR) (tl : List (List Nat × FR)) : List (List Nat × FR) := tl.map fun t => (t.1, mulL t.2 sh)
theorem tot_wide {val : List Nat → FR} {sh : FR} (hp : 0 < sh.1) (hq : 0 < sh.2) : ∀ (tl : List (List Nat × FR)) (acc' acc : FR), (∀ t ∈ tl, 0 < t.2.2 ∧ 0 < (val t.1).2) → 0 < acc'.2 → 0 < acc.2 → Kx sh.1 sh.2 acc' acc →
    Kx sh.1 sh.2 (totF val acc' (wideL sh tl)) (totF val acc tl) ∧ 0 < (totF val acc' (wideL sh tl)).2 ∧ 0 < (totF val acc tl).2
  | [], _, _, _, h1, h2, h => ⟨h, h1, h2⟩
  | t :: r, acc', acc, hb, h1, h2, h => by
    have ht := hb t List.mem_cons_self
    have m1 : 0 < (mulL t.2 sh).2 := lowF_pos (Int.mul_pos ht.1 hq)
    have k1 := Kx.mul (v := val t.1) (Kx.low (p := sh.1) ht.1 hq) (lowF_pos (Int.mul_pos ht.1 hq)) ht.1 ht.2
    have p1 : 0 < (mulL (mulL t.2 sh) (val t.1)).2 := lowF_pos (Int.mul_pos m1 ht.2)
    have p2 : 0 < (mulL t.2 (val t.1)).2 := lowF_pos (Int.mul_pos ht.1 ht.2)
    exact tot_wide hp hq r _ _ (fun u hu => hb u (List.mem_cons_of_mem _ hu)) (lowF_pos (Int.mul_pos h1 p1)) (lowF_pos (Int.mul_pos h2 p2)) (Kx.add h k1 h1 h2 p1 p2)
theorem kept_wide {val : List Nat → FR} {sh b : FR} (hp : 0 < sh.1) (hq : 0 < sh.2) (hb : 0 < b.2) {tl : List (List Nat × FR)} (h : ∀ t ∈ tl, 0 < t.2.2 ∧ 0 < (val t.1).2) : ltF (mulL b sh) (totF val (0, 1) (wideL sh tl)) = ltF b (totF val (0, 1) tl) := by
  obtain ⟨k, h1, h2⟩ := tot_wide hp hq tl (0, 1) (0, 1) h (by decide) (by decide) (by unfold Kx; simp)
  exact Kx.lt hp hq (Kx.low hb hq) k (lowF_pos (Int.mul_pos hb hq)) hb h1 h2
theorem lt_self (t : FR) : ltF t t = false := decide_eq_false (Int.lt_irrefl _)
theorem lt_beyond {t : FR} (h : 0 < t.2) : ltF (addL t (-1, 7)) t = true := by
  have e := lowF_eq (u := t.1 * 7 + -1 * t.2) (v := t.2 * 7) (by omega)
  have pd := lowF_pos (u := t.1 * 7 + -1 * t.2) (v := t.2 * 7) (by omega)
  unfold ltF addL
  refine decide_eq_true ?_
  show (lowF (t.1 * 7 + -1 * t.2) (t.2 * 7)).1 * t.2 < t.1 * (lowF (t.1 * 7 + -1 * t.2) (t.2 * 7)).2
  generalize lowF (t.1 * 7 + -1 * t.2) (t.2 * 7) = X at *
  have e2 : X.1 * t.2 * 7 = t.1 * X.2 * 7 - t.2 * X.2 := by
    calc X.1 * t.2 * 7 = X.1 * (t.2 * 7) := by ac_rfl
      _ = (t.1 * 7 + -1 * t.2) * X.2 := e
      _ = t.1 * X.2 * 7 + -1 * (t.2 * X.2) := by rw [Int.add_mul]; congr 1 <;> ac_rfl
      _ = _ := by omega
  have p2 := Int.mul_pos h pd
  generalize X.1 * t.2 = a at *
  generalize t.1 * X.2 = c at *
  generalize t.2 * X.2 = d at *
  omega
/-! ### the texts are the same -/
theorem txt_lead (n d : Int) : txtL n d = (if n < 0 then [45] else []) ++ txtL (n.natAbs : Int) d := by
  unfold txtL
  rw [if_neg (show ¬ ((n.natAbs : Int) < 0) by omega), Int.natAbs_natCast]
  rfl
theorem tm_word (x : List Nat) (f : FR) : tmL x f = (if f.1 < 0 then [45] else []) ++ wordL x f := by
  unfold tmL wordL
  by_cases h1 : f = (1, 1)
  · subst h1
    rfl
  · rw [if_neg h1]
    by_cases h2 : f = (-1, 1)
    · subst h2
      rfl
    · have h3 : ¬ ((f.1.natAbs : Int), f.2) = ((1 : Int), (1 : Int)) := fun z => by
        have z1 := (Prod.mk.inj z).1
        have z2 := (Prod.mk.inj z).2
        have : f.1 = 1 ∨ f.1 = -1 := by omega
        rcases this with e | e
        · exact h1 (Prod.ext e z2)
        · exact h2 (Prod.ext e z2)
      rw [if_neg h2, if_neg h3, txt_lead, List.append_assoc]
theorem word_neg (x : List Nat) (f : FR) : wordL x (-f.1, f.2) = wordL x f := by
  unfold wordL
  rw [Int.natAbs_neg]
theorem sums_same {tl : List (List Nat × FR)} (h : tl.length = 1 ∨ tl.length = 2) (hn : ∀ t ∈ tl, t.1 ≠ []) : sumL tl = tsL tl := by
  have first : ∀ (x : List Nat) (f : FR), sumS [] (x, f) = tmL x f := fun x f => by
    rw [tm_word]
    unfold sumS leadL
    rw [if_pos rfl]
    rfl
  have ne : ∀ (x : List Nat) (f : FR), x ≠ [] → tmL x f ≠ [] := fun x f hx z => by
    unfold tmL at z
    split at z
    · exact hx z
    · split at z <;> simp at z
  match tl, h, hn with
  | [(x, f)], _, _ => exact first x f
  | [(x, f), (y, g)], _, hn =>
    show sumS (sumS [] (x, f)) (y, g) = stepT (tmL x f) (y, g)
    rw [first]
    have := ne x f (hn (x, f) List.mem_cons_self)
    unfold sumS stepT leadL
    rw [if_neg this]
    by_cases c : g.1 < 0
    · have e := tm_word y (-g.1, g.2)
      rw [word_neg, if_neg (show ¬ (-g.1 < 0) by omega)] at e
      rw [if_pos c, if_pos c]
      show _ = _ ++ _ ++ tmL y (-g.1, g.2)
      rw [e]
      rfl
    · have e := tm_word y g
      rw [if_neg c] at e
      rw [if_neg c, if_neg c]
      show _ = _ ++ _ ++ tmL y g
      rw [e]
      rfl
  | [], h, _ => simp at h
  | _ :: _ :: _ :: _, h, _ => simp at h
section
variable {P : Program} {w : World} {K : PySem.W.Frag} {mg : Str → Option Value} {base : Heap} {fa : Nat → Addr} {fd : Nat → FuncData}
theorem small_log2 {v : Int} (h : v.natAbs ≤ 8000) : v.natAbs.log2 < 4096 := log2_mono (b := 8000) h (by decide +kernel)
theorem mid_of {m : Int} (h : 0 < m) (h2 : m ≤ 8000) : Mid m := ⟨h, Nat.lt_trans (small_log2 (by omega)) (by decide)⟩
theorem low_ratD {u v : Int} (hv : v ≠ 0) : ratD (.tuple [.int (lowT u v), .int (lowD u v)]) = true := by
  have h1 := lowD_pos (u := u) hv
  have h2 := low_gcd (u := u) hv
  show (decide (1 ≤ lowD u v) && decide (Int.gcd (lowT u v) (lowD u v) = 1)) = true
  rw [decide_eq_true (show 1 ≤ lowD u v by omega), decide_eq_true h2]
  rfl
theorem new_ne {H : Hp} {a c p : Addr} (h : FeedOk H a c) (n : H p = none) : p ≠ a := by
  obtain ⟨_, _, _, _, ha, _⟩ := h
  exact (ne_of_none ha n).symm
/-- a fraction -/
abbrev frD (t u : Int) : PyData := .tuple [.int t, .int u]
def RatAt (z : Addr) (H : Hp) (v : V) (t u : Int) : Prop := Dt z H v (frD t u) ∧ ratD (frD t u) = true
def spPart : Sp := fun vs H Q _ => ∃ (a c : Addr) (n : Int), vs = [.ref a, .int n] ∧ FeedOk H a c ∧ 0 < n ∧ n ≤ 1000 ∧ ∀ v t u H', FeedOk H' a c → But a H H' → RatAt a H' v t u → t.natAbs ≤ n.natAbs → u.natAbs ≤ 4 → Q v H'
theorem ok_part (T : Txt K mg fa fd) : FnOk P w K mg base CX0 3 (fa 32) (fd 32) ["_law_feed_here", "_law_size"] spPart := by
  refine T.F_part.ok sc_part (fun vs H Q E h => ?_) (fun cdv A outer s H vs Q E hr h => ?_)
  · obtain ⟨a, c, n, rfl, _⟩ := h
    rfl
  · obtain ⟨a, c, n, rfl, hF, h0, h1, q⟩ := h
    refine ⟨_, (pss_cons (ps_set (i := 2) sc_part.nd rfl (.inl rfl) (pe_op op_sub (pe_call (ok_draw T) (hr.mono (by decide)) (by rfl) T.g_draw T.F_draw.kp T.b_draw .nil pass0 (pa_cons (pv 0) (pa_cons (pe_op op_add (pe_op op_mul pe_int (pv 1)) pe_int) pa_nil))) (pv 1)))
      (pss_one (ps_ret (pe_call (ok_low T) (hr.mono (by decide)) (by rfl) T.g_low T.F_low.kp T.b_low .nil pass0 (pa_cons (pv 2) (pa_cons (pe_ifExp (pt_cmpR op_eq (pe_call (ok_draw T) (hr.mono (by decide)) (by rfl) T.g_draw T.F_draw.kp T.b_draw .nil pass0 (pa_cons (pv 0) (pa_cons pe_int pa_nil))) pe_int (nomark _)) pe_int (pe_op op_add pe_int (pe_call (ok_draw T) (hr.mono (by decide)) (by rfl) T.g_draw T.F_draw.kp T.b_draw .nil pass0 (pa_cons (pv 0) (pa_cons pe_int pa_nil))))) pa_nil)))))), ?_⟩
    refine ⟨_, rfl, _, rfl, _, _, rfl, rfl, .inl (by decide), _, _, rfl, rfl, a, c, _, rfl, hF, mid_of (by omega) (by omega), fun r H1 r0 r1 hF1 b1 => ?_⟩
    refine ⟨_, rfl, _, _, rfl, rfl, _, rfl, _, rfl, a, c, _, rfl, hF1, mid_of (by decide) (by decide), fun r2 H2 _ _ hF2 b2 => ⟨rfl, _, rfl, ?_⟩⟩
    have fin : ∀ (v : Int) (H3 : Hp), 0 < v → v ≤ 4 → FeedOk H3 a c → But a H H3 → spLow [.int (r - n), .int v] H3 Q E0 := fun v H3 v0 v1 hF3 b3 =>
      ⟨_, _, rfl, by omega, small_log2 (by omega), fun p np => q (.ref p) (lowT (r - n) v) (lowD (r - n) v) _ (hF3.new np) (b3.trans (But.of (same_upd np))) ⟨(dnewT np (.cons (.int _ (small_log2 (Nat.le_trans (lowT_abs (v := v) (by omega)) (by omega)))) (.cons (.int _ (small_log2 (Nat.le_trans (lowD_abs (v := v) (by omega)) (by omega)))) .nil))).2, low_ratD (by omega)⟩ (Nat.le_trans (lowT_abs (v := v) (by omega)) (by omega)) (Nat.le_trans (lowD_abs (v := v) (by omega)) (by omega))⟩
    refine ite2 (fun e => fin 1 H2 (by decide) (by decide) hF2 (b1.trans b2)) (fun e => ?_)
    exact ⟨_, rfl, a, c, _, rfl, hF2, mid_of (by decide) (by decide), fun r3 H3 r4 r5 hF3 b3 => ⟨_, _, rfl, rfl, fin _ H3 (by omega) (by omega) hF3 ((b1.trans b2).trans b3)⟩⟩
def spRate : Sp := fun vs H Q _ => ∃ (a c : Addr), vs = [.ref a] ∧ FeedOk H a c ∧ ∀ v t u H', FeedOk H' a c → But a H H' → RatAt a H' v t u → t ≠ 0 → t.natAbs ≤ 5 → u.natAbs ≤ 3 → Q v H'
theorem small_line' {n : Nat} (h : n ≤ 1000) : n ≤ sizeLine := small_line h
theorem ok_rate (T : Txt K mg fa fd) : FnOk P w K mg base CX0 3 (fa 33) (fd 33) ["_law_feed_here"] spRate := by
  refine T.F_rate.ok sc_rate (fun vs H Q E h => ?_) (fun cdv A outer s H vs Q E hr h => ?_)
  · obtain ⟨a, c, rfl, _⟩ := h
    rfl
  · obtain ⟨a, c, rfl, hF, q⟩ := h
    refine ⟨_, (pss_one (ps_ret (pe_call (ok_any T) (hr.mono (by decide)) (by rfl) T.g_any T.F_any.kp T.b_any .nil pass0 (pa_cons (pv 0) (pa_cons (pe_lst (pa_cons (pe_tup (pa_cons pe_int (pa_cons pe_int pa_nil))) (pa_cons (pe_tup (pa_cons (pe_un un_neg pe_int) (pa_cons pe_int pa_nil))) (pa_cons (pe_tup (pa_cons pe_int (pa_cons pe_int pa_nil))) (pa_cons (pe_tup (pa_cons pe_int (pa_cons pe_int pa_nil))) (pa_cons (pe_tup (pa_cons (pe_un un_neg pe_int) (pa_cons pe_int pa_nil))) (pa_cons (pe_tup (pa_cons pe_int (pa_cons pe_int pa_nil))) (pa_cons (pe_tup (pa_cons pe_int (pa_cons pe_int pa_nil))) (pa_cons (pe_tup (pa_cons (pe_un un_neg pe_int) (pa_cons pe_int pa_nil))) (pa_cons (pe_tup (pa_cons (pe_un un_neg pe_int) (pa_cons pe_int pa_nil))) (pa_cons (pe_tup (pa_cons pe_int (pa_cons pe_int pa_nil))) pa_nil))))))))))) pa_nil))))), ?_⟩
    refine ⟨_, rfl, (small_line (by decide : 2 ≤ 1000)), fun p1 n1 => ?_⟩
    obtain ⟨s1, d1⟩ := dnewT (z := a) n1 (.cons (.int 1 (by decide +kernel)) (.cons (.int 1 (by decide +kernel)) .nil))
    refine ⟨_, rfl, (small_line (by decide : 2 ≤ 1000)), fun p2 n2 => ?_⟩
    obtain ⟨s2, d2⟩ := dnewT (z := a) n2 (.cons (.int (-1) (by decide +kernel)) (.cons (.int 1 (by decide +kernel)) .nil))
    refine ⟨(small_line (by decide : 2 ≤ 1000)), fun p3 n3 => ?_⟩
    obtain ⟨s3, d3⟩ := dnewT (z := a) n3 (.cons (.int 1 (by decide +kernel)) (.cons (.int 1 (by decide +kernel)) .nil))
    refine ⟨(small_line (by decide : 2 ≤ 1000)), fun p4 n4 => ?_⟩
    obtain ⟨s4, d4⟩ := dnewT (z := a) n4 (.cons (.int 2 (by decide +kernel)) (.cons (.int 1 (by decide +kernel)) .nil))
    refine ⟨_, rfl, (small_line (by decide : 2 ≤ 1000)), fun p5 n5 => ?_⟩
    obtain ⟨s5, d5⟩ := dnewT (z := a) n5 (.cons (.int (-2) (by decide +kernel)) (.cons (.int 1 (by decide +kernel)) .nil))
    refine ⟨(small_line (by decide : 2 ≤ 1000)), fun p6 n6 => ?_⟩
    obtain ⟨s6, d6⟩ := dnewT (z := a) n6 (.cons (.int 3 (by decide +kernel)) (.cons (.int 1 (by decide +kernel)) .nil))
    refine ⟨(small_line (by decide : 2 ≤ 1000)), fun p7 n7 => ?_⟩
    obtain ⟨s7, d7⟩ := dnewT (z := a) n7 (.cons (.int 1 (by decide +kernel)) (.cons (.int 2 (by decide +kernel)) .nil))
    refine ⟨_, rfl, (small_line (by decide : 2 ≤ 1000)), fun p8 n8 => ?_⟩
    obtain ⟨s8, d8⟩ := dnewT (z := a) n8 (.cons (.int (-3) (by decide +kernel)) (.cons (.int 2 (by decide +kernel)) .nil))
    refine ⟨_, rfl, (small_line (by decide : 2 ≤ 1000)), fun p9 n9 => ?_⟩
    obtain ⟨s9, d9⟩ := dnewT (z := a) n9 (.cons (.int (-1) (by decide +kernel)) (.cons (.int 1 (by decide +kernel)) .nil))
    refine ⟨(small_line (by decide : 2 ≤ 1000)), fun p10 n10 => ?_⟩
    obtain ⟨s10, d10⟩ := dnewT (z := a) n10 (.cons (.int 5 (by decide +kernel)) (.cons (.int 3 (by decide +kernel)) .nil))
    refine ⟨(small_line (by decide : 10 ≤ 1000)), fun p11 n11 => ?_⟩
    obtain ⟨s11, all, hrw⟩ := drow (z := a) n11 (.cons (d1.same (s2.trans (s3.trans (s4.trans (s5.trans (s6.trans (s7.trans (s8.trans (s9.trans s10))))))))) (.cons (d2.same (s3.trans (s4.trans (s5.trans (s6.trans (s7.trans (s8.trans (s9.trans s10)))))))) (.cons (d3.same (s4.trans (s5.trans (s6.trans (s7.trans (s8.trans (s9.trans s10))))))) (.cons (d4.same (s5.trans (s6.trans (s7.trans (s8.trans (s9.trans s10)))))) (.cons (d5.same (s6.trans (s7.trans (s8.trans (s9.trans s10))))) (.cons (d6.same (s7.trans (s8.trans (s9.trans s10)))) (.cons (d7.same (s8.trans (s9.trans s10))) (.cons (d8.same (s9.trans s10)) (.cons (d9.same s10) (.cons d10 .nil))))))))))
    have sR := (s1.trans (s2.trans (s3.trans (s4.trans (s5.trans (s6.trans (s7.trans (s8.trans (s9.trans (s10.trans s11))))))))))
    refine ⟨a, c, p11, _, rfl, hF.same sR, hrw, new_ne (hF.same (s1.trans (s2.trans (s3.trans (s4.trans (s5.trans (s6.trans (s7.trans (s8.trans (s9.trans s10)))))))))) n11, by show 0 < 10; decide, by show 10 ≤ 1000; decide, fun v H2 hv hF2 b2 => ?_⟩
    obtain ⟨d, hd, h⟩ := all.mem hv
    have h2 := h.but (hF.same sR) b2
    have bb := (But.of (a := a) sR).trans b2
    simp only [List.mem_cons, List.not_mem_nil, or_false] at hd
    rcases hd with rfl | rfl | rfl | rfl | rfl | rfl | rfl | rfl | rfl | rfl <;> exact q _ _ _ _ hF2 bb ⟨h2, by decide +kernel⟩ (by decide) (by decide) (by decide)
end
theorem join_singles : ∀ cs : List Nat, TL.joinL [] (cs.map fun c => [c]) = cs
  | [] => rfl
  | [c] => rfl
  | c :: d :: r => by
    show [c] ++ ([] ++ TL.joinL [] ((d :: r).map fun c => [c])) = c :: d :: r
    rw [join_singles (d :: r)]
    rfl
theorem FeedOk.put {H : Hp} {a c p : Addr} {o : HO} (h : FeedOk H a c) (h1 : p ≠ a) (h2 : p ≠ c) : FeedOk (L2.upd H p o) a c := by
  obtain ⟨ns, k, big, mark, e1, e2, h3⟩ := h
  exact ⟨ns, k, big, mark, by rw [upd_ne h1.symm]; exact e1, by rw [upd_ne h2.symm]; exact e2, h3⟩
theorem but_none {a p : Addr} {H H' : Hp} (b : But a H H') (n : H' p = none) (ne : p ≠ a) : H p = none := by
  cases e : H p with
  | none => rfl
  | some o =>
    rw [b p o ne e] at n
    cases n
theorem But.updN {a p : Addr} {H H' : Hp} {o : HO} (b : But a H H') (n : H p = none) : But a H (L2.upd H' p o) := fun q x hq e => by
  rw [upd_ne (ne_of_none e n)]
  exact b q x hq e
theorem new_nc {H : Hp} {a c p : Addr} (h : FeedOk H a c) (n : H p = none) : p ≠ c := by
  obtain ⟨_, _, _, _, _, hc, _⟩ := h
  exact (ne_of_none hc n).symm
section
variable {P : Program} {w : World} {K : PySem.W.Frag} {mg : Str → Option Value} {base : Heap} {fa : Nat → Addr} {fd : Nat → FuncData}
def spWords : Sp := fun vs H Q _ => ∃ (a c : Addr) (m : Nat), vs = [.ref a, .int (m : Int)] ∧ FeedOk H a c ∧ m ≤ 6 ∧ ∀ (p : Addr) (ws : List (List Nat)) (H' : Hp), FeedOk H' a c → But a H H' → p ≠ a → H' p = some (.lst (ws.map vS)) → ws.length = m → ws.Nodup → (∀ x ∈ ws, LW x) → Q (.ref p) H'
theorem ok_words (T : Txt K mg fa fd) : FnOk P w K mg base CX0 3 (fa 34) (fd 34) ["_law_feed_here", "_law_many"] spWords := by
  refine T.F_words.ok sc_words (fun vs H Q E h => ?_) (fun cdv A outer s H vs Q E hr h => ?_)
  · obtain ⟨a, c, m, rfl, _⟩ := h
    rfl
  · obtain ⟨a, c, m, rfl, hF, hm, q⟩ := h
    refine ⟨_, (C8.pss_cut (ps_set (i := 2) sc_words.nd rfl (.inr rfl) pe_str)
      (C8.pss_cut (ps_set (i := 3) sc_words.nd rfl (.inr rfl) (pe_m1 PySem.F.slot_str_join PySem.F.type_str_join mt_join pe_str (pe_lc (own := [("_law_k", 8)]) (g := gName 8) (tt := tYes) rfl sc_words.nd (pi_range1 (by rfl) T.m_range (pa_cons (pe_call (ok_draw T) (hr.mono (by decide)) (by rfl) T.g_draw T.F_draw.kp T.b_draw .nil pass0 (pa_cons (pv 0) (pa_cons pe_int pa_nil))) pa_nil)) (blkOk_by (own := [("_law_k", 8)]) (N := ["_law_feed_here", "_law_many", "_law_letters", "_law_stem", "_law_spot", "_law_first", "_law_way", "_law_found", "_law_k"]) (sc := defScope s_words) (by decide +kernel)) (fun _ _ _ _ _ => pg_name (i := 8) sc_words.nd rfl (Or.inl rfl)) (fun _ _ _ _ _ => pts_nil) (fun _ _ _ _ _ => (pe_ix ix_str (pv 2) (pe_call (ok_draw T) (hr.mono (by decide)) (by rfl) T.g_draw T.F_draw.kp T.b_draw .nil pass0 (pa_cons (pv 0) (pa_cons pe_int pa_nil))) (fun _ _ => rfl)))) (by rfl) (by rfl) (by rfl)))
      (C8.pss_cut (ps_asg (pe_tup (pa_cons (pe_call (ok_draw T) (hr.mono (by decide)) (by rfl) T.g_draw T.F_draw.kp T.b_draw .nil pass0 (pa_cons (pv 0) (pa_cons (pe_op op_add (pe_callB call_len_str (by rfl) T.m_len PySem.boot_len (pa_cons (pv 3) pa_nil)) pe_int) pa_nil))) (pa_cons (pe_call (ok_draw T) (hr.mono (by decide)) (by rfl) T.g_draw T.F_draw.kp T.b_draw .nil pass0 (pa_cons (pv 0) (pa_cons pe_int pa_nil))) (pa_cons (pe_call (ok_draw T) (hr.mono (by decide)) (by rfl) T.g_draw T.F_draw.kp T.b_draw .nil pass0 (pa_cons (pv 0) (pa_cons pe_int pa_nil))) pa_nil)))) (pg_tup (by rfl) (pgs_cons (pg_name (i := 4) sc_words.nd rfl (.inr rfl)) (pgs_cons (pg_name (i := 5) sc_words.nd rfl (.inr rfl)) (pgs_cons (pg_name (i := 6) sc_words.nd rfl (.inl rfl)) pgs_nil)))))
      (C8.pss_cut (ps_setLc (i := 7) (own := [("_law_k", 8)]) (g := gName 8) (tt := tYes) rfl sc_words.nd rfl rfl (sw_true rfl rfl rfl (by decide +kernel)) (pi_range1 (by rfl) T.m_range (pa_cons (pv 1) pa_nil)) (blkOk_by (own := [("_law_k", 8)]) (N := ["_law_feed_here", "_law_many", "_law_letters", "_law_stem", "_law_spot", "_law_first", "_law_way", "_law_found", "_law_k"]) (sc := defScope s_words) (by decide +kernel)) (fun _ _ _ _ _ => pg_name (i := 8) sc_words.nd rfl (Or.inl rfl)) (fun _ _ _ _ _ => pts_nil) (fun _ _ _ _ _ => (pe_op op_add_str (pe_op op_add_str (pe_slice sl_str (pv 3) po_none (po_some (pv 4))) (pe_ix ix_str (pv 2) (pe_op op_mod (pe_callTy call_int1 (by rfl) T.m_int PySem.Pv.boot_int (pa_cons (pe_op op_add (pv 5) (pe_op op_mul pe_int (pv 8))) pa_nil)) pe_int) (fun _ _ => rfl))) (pe_slice sl_str (pv 3) (po_some (pv 4)) po_none))))
      (C8.pss_cut (ps_if (pt_cmpR op_eq (pv 6) pe_int (nomark _)) (C8.pss_cut (ps_setLc (i := 7) (own := [("_law_k", 8)]) (g := gName 8) (tt := tYes) rfl sc_words.nd rfl rfl (sw_true rfl rfl rfl (by decide +kernel)) (pi_range1 (by rfl) T.m_range (pa_cons (pv 1) pa_nil)) (blkOk_by (own := [("_law_k", 8)]) (N := ["_law_feed_here", "_law_many", "_law_letters", "_law_stem", "_law_spot", "_law_first", "_law_way", "_law_found", "_law_k"]) (sc := defScope s_words) (by decide +kernel)) (fun _ _ _ _ _ => pg_name (i := 8) sc_words.nd rfl (Or.inl rfl)) (fun _ _ _ _ _ => pts_nil) (fun _ _ _ _ _ => (pe_slice sl_str (pe_op op_add_str (pe_slice sl_str (pv 3) po_none (po_some pe_int)) (pe_op op_mul_str (pe_ix ix_str (pv 2) (pe_op op_mod (pe_callTy call_int1 (by rfl) T.m_int PySem.Pv.boot_int (pa_cons (pe_op op_add (pv 5) (pe_op op_mul pe_int (pv 8))) pa_nil)) pe_int) (fun _ _ => rfl)) (pe_op op_add pe_int (pe_op op_mod (pe_callTy call_int1 (by rfl) T.m_int PySem.Pv.boot_int (pa_cons (pe_op op_add (pv 8) (pv 5)) pa_nil)) pe_int)))) (po_some (pe_un un_neg pe_int)) po_none)))
      (pss_one (ps_set (i := 7) sc_words.nd rfl (.inl rfl) (pe_ifExp (pt_cmpR op_eq (pe_callB call_len_seq (by rfl) T.m_len PySem.boot_len (pa_cons (pe_callB (cr_sortedW rfl) (by rfl) T.m_sorted (by decide +kernel) (pa_cons (pe_callTy (cr_setS rfl) (by rfl) T.m_set (by decide +kernel) (pa_cons (pv 7) pa_nil)) pa_nil)) pa_nil)) (pv 1) (nomark _)) (pv 7) (pe_lc (own := [("_law_k", 8)]) (g := gName 8) (tt := tYes) rfl sc_words.nd (pi_range1 (by rfl) T.m_range (pa_cons (pv 1) pa_nil)) (blkOk_by (own := [("_law_k", 8)]) (N := ["_law_feed_here", "_law_many", "_law_letters", "_law_stem", "_law_spot", "_law_first", "_law_way", "_law_found", "_law_k"]) (sc := defScope s_words) (by decide +kernel)) (fun _ _ _ _ _ => pg_name (i := 8) sc_words.nd rfl (Or.inl rfl)) (fun _ _ _ _ _ => pts_nil) (fun _ _ _ _ _ => (pe_ix ix_str (pv 2) (pe_op op_mod (pe_callTy call_int1 (by rfl) T.m_int PySem.Pv.boot_int (pa_cons (pe_op op_add (pv 5) (pe_op op_mul pe_int (pv 8))) pa_nil)) pe_int) (fun _ _ => rfl)))))))) pss_nil)
      (pss_one (ps_ret (pv 7)))))))), ?_⟩
    refine ⟨fun σ H1 => H1 = H ∧ σ = [some (.ref a), some (.int m), some (.str ABC), none, none, none, none, none, none], ⟨rfl, rfl⟩, fun σ H1 hM => ?_⟩
    obtain ⟨rfl, rfl⟩ := hM
    -- stem
    refine ⟨fun σ H2 => FeedOk H2 a c ∧ But a H1 H2 ∧ ∃ st : List Nat, st.length ≤ 5 ∧ st.all lowc = true ∧ σ = [some (.ref a), some (.int m), some (.str ABC), some (vS st), none, none, none, none, none], ?_, fun σ H2 hM => ?_⟩
    · refine ⟨⟨_, rfl⟩, _, rfl, a, c, _, rfl, hF, mid_of (by decide) (by decide), fun r H2 r0 r1 hF2 b2 => ?_⟩
      refine ⟨r, rfl, by omega, by omega, fun D nD => ?_⟩
      obtain ⟨n, rfl⟩ := Int.eq_ofNat_of_zero_le r0
      have nDa := new_ne hF2 nD
      have nDc := new_nc hF2 nD
      have nD1 := but_none b2 nD nDa
      refine lc_range (n := n) (fun i H3 => FeedOk H3 a c ∧ But a H1 H3 ∧ ∃ st : List Nat, st.length = i ∧ st.all lowc = true ∧ H3 D = some (.lst (st.map fun c => vS [c]))) ⟨hF2.new nD, b2.updN nD1, [], rfl, rfl, upd_same⟩ (fun i H3 hi hp => ?_) (fun H3 hp => ?_)
      · obtain ⟨hF3, b3, st, hl, hs, hD⟩ := hp
        refine ⟨rfl, _, rfl, _, rfl, a, c, _, rfl, hF3, mid_of (by decide) (by decide), fun r2 H4 r3 r4 hF4 b4 => ?_⟩
        refine ⟨_, _, _, rfl, rfl, small_line (by decide), abc_at r3 r4, _, b4 _ _ nDa hD, ?_, hF4.put nDa nDc, (b3.trans b4).updN nD1, st ++ [97 + r2.toNat], ?_, ?_, ?_⟩
        · rw [List.length_map]
          exact small1000 (by omega)
        · rw [List.length_append, hl]
          rfl
        · rw [List.all_append, hs, Bool.true_and]
          simp [low_abc (show r2.toNat < 26 by omega)]
        · rw [upd_same, List.map_append]
          rfl
      · obtain ⟨hF3, b3, st, hl, hs, hD⟩ := hp
        have em : (st.map fun c => vS [c]) = (st.map fun c => SX.S [c]).map V.str := by rw [List.map_map]; rfl
        refine ⟨_, D, st.map fun c => SX.S [c], rfl, rfl, .inl (SqL.of (by rw [← em]; exact hD)), ?_, hF3, b3, st, by omega, hs, ?_⟩
        · have : ∀ l : List Nat, ((l.map fun c => SX.S [c]).map (·.length)).sum = l.length := fun l => by
            induction l with
            | nil => rfl
            | cons x l ih =>
              rw [List.map_cons, List.map_cons, List.sum_cons, ih, List.length_cons, SX.S_len]
              exact Nat.add_comm _ _
          rw [this, List.length_map]
          show st.length + st.length * 0 ≤ _
          omega
        · have e : Txt.join (Str.ofString "") (st.map fun c => SX.S [c]) = SX.S st := by
            have := SX.join_S [] (st.map fun c => [c])
            rw [join_singles, List.map_map] at this
            exact this
          rw [e]
          rfl
    · obtain ⟨hF2, b2, st, hst, hsl, rfl⟩ := hM
      -- spot, first, way
      refine ⟨fun σ H3 => FeedOk H3 a c ∧ But a H1 H3 ∧ ∃ (sp f : Nat) (wy : Int), f < 26 ∧ σ = [some (.ref a), some (.int m), some (.str ABC), some (vS st), some (.int sp), some (.int f), some (.int wy), none, none], ?_, fun σ H3 hM => ?_⟩
      · have sl : (SX.S st).length = st.length := SX.S_len st
        refine ⟨_, rfl, _, rfl, _, rfl, small_line (by omega), _, _, rfl, rfl, a, c, _, rfl, hF2, mid_of (by omega) (by omega), fun r H3 r0 r1 hF3 b3 => ?_⟩
        refine ⟨_, rfl, a, c, _, rfl, hF3, mid_of (by decide) (by decide), fun r2 H4 r3 r4 hF4 b4 => ?_⟩
        refine ⟨_, rfl, a, c, _, rfl, hF4, mid_of (by decide) (by decide), fun r5 H5 _ _ hF5 b5 => ?_⟩
        refine ⟨small_line (by show 3 ≤ 1000; decide), fun p np => ⟨p, _, rfl, .inl (.inl upd_same), rfl, _, _, rfl, _, _, rfl, _, _, rfl, rfl, ?_⟩⟩
        obtain ⟨sp, rfl⟩ := Int.eq_ofNat_of_zero_le r0
        obtain ⟨f, rfl⟩ := Int.eq_ofNat_of_zero_le r3
        exact ⟨hF5.new np, (b2.trans (b3.trans (b4.trans b5))).trans (But.of (same_upd np)), sp, f, r5, by omega, rfl⟩
      · clear hF2 b2 H2
        obtain ⟨hF3, b3, sp, f, wy, hf, rfl⟩ := hM
        -- found
        refine ⟨fun σ H4 => FeedOk H4 a c ∧ But a H1 H4 ∧ ∃ p, p ≠ a ∧ H4 p = some (.lst (((List.range m).map fun k => st.take sp ++ [five f k] ++ st.drop sp).map vS)) ∧ σ = [some (.ref a), some (.int m), some (.str ABC), some (vS st), some (.int sp), some (.int f), some (.int wy), some (.ref p), none], ?_, fun σ H4 hM => ?_⟩
        · refine ⟨_, rfl, _, rfl, by omega, by omega, fun D nD => ?_⟩
          have nDa := new_ne hF3 nD
          have nDc := new_nc hF3 nD
          have nD1 := but_none b3 nD nDa
          have sl : (SX.S st).length = st.length := SX.S_len st
          refine lc_range (n := m) (fun i H4 => FeedOk H4 a c ∧ But a H1 H4 ∧ H4 D = some (.lst (((List.range i).map fun k => st.take sp ++ [five f k] ++ st.drop sp).map vS))) ⟨hF3.new nD, b3.updN nD1, upd_same⟩ (fun i H4 hi hp => ?_) (fun H4 hp => ⟨hp.1, hp.2.1, D, nDa, hp.2.2, rfl⟩)
          obtain ⟨hF4, b4, hD⟩ := hp
          have m0 : (0 : Int) ≤ ((f : Int) + 5 * (0 + (i : Int))) % 26 := by omega
          have m1 : ((f : Int) + 5 * (0 + (i : Int))) % 26 < 26 := by omega
          have m2 : 97 + (((f : Int) + 5 * (0 + (i : Int))) % 26).toNat = five f i := by
            unfold five
            omega
          have it := abc_at m0 m1
          rw [m2] at it
          refine ⟨rfl, _, rfl, _, rfl, _, rfl, _, rfl, small_line (by omega), _, rfl, _, rfl, _, rfl, _, _, rfl, rfl, .inl (by decide), _, _, rfl, rfl, .inl ⟨_, rfl, _, _, rfl, rfl, (by show (0 : Int) < 26; decide), ?_⟩⟩
          refine ⟨_, _, _, rfl, rfl, small_line (by decide), it, _, _, rfl, rfl, ?_, _, rfl, _, rfl, _, rfl, _, rfl, small_line (by omega), _, _, rfl, rfl, ?_, _, hD, ?_, ?_, ?_, ?_⟩
          · rw [cut_to, SX.S_len, List.length_take]
            exact small_line (by show min sp st.length + 1 ≤ 1000; omega)
          · rw [cut_to, cut_from, show ({ cps := #[five f i] } : Str) = SX.S [five f i] from rfl, SX.S_cat, SX.S_len, SX.S_len, List.length_append, List.length_take, List.length_drop]
            exact small_line (by show min sp st.length + 1 + (st.length - sp) ≤ 1000; omega)
          · rw [List.length_map, List.length_map, List.length_range]
            exact small1000 (by omega)
          · exact hF4.put nDa nDc
          · exact b4.updN nD1
          · rw [upd_same, cut_to, cut_from, show ({ cps := #[five f i] } : Str) = SX.S [five f i] from rfl, SX.S_cat, SX.S_cat, List.range_succ, List.map_append, List.map_append]
            rfl
        · clear hF3 b3 H3
          obtain ⟨hF4, b4, p, npa, hp, rfl⟩ := hM
          have lw0 : ∀ x ∈ (List.range m).map fun k => st.take sp ++ [five f k] ++ st.drop sp, LW x := fun x hx => by
            obtain ⟨k, hk, rfl⟩ := List.mem_map.mp hx
            exact LW.put hst hsl (low_abc (Nat.mod_lt _ (by decide)))
          have nd0 : ((List.range m).map fun k => st.take sp ++ [five f k] ++ st.drop sp).Nodup := nodup_range_map fun i j hi hj e => five_inj (by omega) (by omega) (put_inj e)
          -- way
          refine ⟨fun σ H5 => ∃ (p : Addr) (ws : List (List Nat)), FeedOk H5 a c ∧ But a H1 H5 ∧ p ≠ a ∧ H5 p = some (.lst (ws.map vS)) ∧ ws.length = m ∧ ws.Nodup ∧ (∀ x ∈ ws, LW x) ∧ σ = [some (.ref a), some (.int m), some (.str ABC), some (vS st), some (.int sp), some (.int f), some (.int wy), some (.ref p), none], ?_, fun σ H5 hM => ?_⟩
          · refine ⟨_, rfl, rfl, _, rfl, ite2 (fun _ => ?_) (fun _ => ⟨p, _, hF4, b4, npa, hp, by rw [List.length_map, List.length_range], nd0, lw0, rfl⟩)⟩
            refine ⟨fun σ H5 => FeedOk H5 a c ∧ But a H1 H5 ∧ ∃ (p : Addr) (ws : List (List Nat)), p ≠ a ∧ H5 p = some (.lst (ws.map vS)) ∧ ws.length = m ∧ (∀ x ∈ ws, LW x) ∧ σ = [some (.ref a), some (.int m), some (.str ABC), some (vS st), some (.int sp), some (.int f), some (.int wy), some (.ref p), none], ?_, fun σ H5 hM => ?_⟩
            · refine ⟨_, rfl, _, rfl, by omega, by omega, fun D nD => ?_⟩
              have nDa := new_ne hF4 nD
              have nDc := new_nc hF4 nD
              have nD1 := but_none b4 nD nDa
              refine lc_range (n := m) (fun i H5 => FeedOk H5 a c ∧ But a H1 H5 ∧ ∃ ws : List (List Nat), ws.length = i ∧ (∀ x ∈ ws, LW x) ∧ H5 D = some (.lst (ws.map vS))) ⟨hF4.new nD, b4.updN nD1, [], rfl, (fun x h => by cases h), upd_same⟩ (fun i H5 hi hp => ?_) (fun H5 hp => by
                obtain ⟨h1, h2, ws, h3, h4, h5⟩ := hp
                exact ⟨h1, h2, D, ws, nDa, h5, h3, h4, rfl⟩)
              obtain ⟨hF5, b5, ws, hl, hw, hD⟩ := hp
              have m0 : (0 : Int) ≤ ((f : Int) + 7 * (0 + (i : Int))) % 26 := by omega
              have m1 : ((f : Int) + 7 * (0 + (i : Int))) % 26 < 26 := by omega
              have it := abc_at m0 m1
              have lc := low_abc (show (((f : Int) + 7 * (0 + (i : Int))) % 26).toNat < 26 by omega)
              generalize 97 + (((f : Int) + 7 * (0 + (i : Int))) % 26).toNat = cd at it lc
              have r0 : 0 ≤ (1 : Int) + ((0 + (i : Int)) + (f : Int)) % 4 := by omega
              have r1 : 1 ≤ ((1 : Int) + ((0 + (i : Int)) + (f : Int)) % 4).toNat := by omega
              have r2 : ((1 : Int) + ((0 + (i : Int)) + (f : Int)) % 4).toNat ≤ 4 := by omega
              have r3 : (1 : Int) + ((0 + (i : Int)) + (f : Int)) % 4 ≤ 4 := by omega
              have sl : (SX.S st).length = st.length := SX.S_len st
              refine ⟨rfl, _, rfl, _, rfl, _, rfl, small_line (by omega), _, rfl, _, rfl, _, rfl, _, _, rfl, rfl, .inl (by decide), _, _, rfl, rfl, .inl ⟨_, rfl, _, _, rfl, rfl, (by show (0 : Int) < 26; decide), ?_⟩⟩
              refine ⟨_, _, _, rfl, rfl, small_line (by decide), it, _, rfl, _, rfl, _, _, rfl, rfl, .inl ⟨_, rfl, _, _, rfl, rfl, (by show (0 : Int) < 4; decide), ?_⟩⟩
              refine ⟨_, _, rfl, rfl, _, _, rfl, rfl, mul_one1 rfl (by omega) (by omega), ?_⟩
              generalize (1 : Int) + ((0 + (i : Int)) + (f : Int)) % 4 = N at r0 r1 r2 r3
              have e1 : cutS (SX.S st) none (some 1) = SX.S (st.take 1) := cut_to st 1
              have e2 : Txt.mul { cps := #[cd] } N = SX.S (List.replicate N.toNat cd) := mul_rep cd N
              have l5 : (st.take 1 ++ List.replicate N.toNat cd).length ≤ 6 := (LW.rep (a := st) hsl lc r1 (by omega)).2.1
              have whole : cutS (cutS (SX.S st) none (some 1) ++ Txt.mul { cps := #[cd] } N) (some (-6)) none = SX.S (st.take 1 ++ List.replicate N.toNat cd) := by
                rw [e1, e2, SX.S_cat]
                exact cut_last _ (k := 6) l5 (by decide)
              refine ⟨_, _, rfl, rfl, ?_, _, rfl, _, rfl, _, rfl, ?_, _, hD, ?_, hF5.put nDa nDc, b5.updN nD1, ws ++ [st.take 1 ++ List.replicate N.toNat cd], ?_, ?_, ?_⟩
              · rw [e1, e2, SX.S_len, SX.S_len, ← List.length_append]
                exact small_line (by omega)
              · rw [e1, e2, SX.S_cat, SX.S_len]
                exact small_line (by omega)
              · rw [List.length_map]
                exact small1000 (by omega)
              · rw [List.length_append, hl]
                rfl
              · intro x hx
                rcases List.mem_append.mp hx with h | h
                · exact hw x h
                · rw [List.mem_singleton.mp h]
                  exact LW.rep hsl lc r1 (by omega)
              · rw [upd_same, List.map_append]
                exact congrArg (fun z => some (HO.lst (ws.map vS ++ [V.str z]))) whole
            · clear hF4 b4 hp npa p nd0 lw0 H4
              obtain ⟨hF5, b5, p, ws, npa, hp, hl, hw, rfl⟩ := hM
              have hpS : H5 p = some (.lst ((ws.map SX.S).map V.str)) := by
                rw [List.map_map]
                exact hp
              have il := insAll_len (ws.map SX.S) []
              rw [List.length_map] at il
              simp only [List.length_nil, Nat.add_zero] at il
              refine ⟨_, rfl, p, _, rfl, SqL.of hpS, by rw [List.length_map]; omega, fun q nq => ⟨q, _, rfl, upd_same, insAll_nodup _ List.nodup_nil, by omega, fun zs r pm _ nr => ?_⟩⟩
              refine ⟨r, _, rfl, .inl (SqL.of upd_same), _, rfl, rfl, _, rfl, ?_⟩
              have sq := same_upd (o := SetW P w q (insAll (ws.map SX.S) [])) nq
              have sr := same_upd (o := .lst (zs.map V.str)) nr
              have sx := sq.trans sr
              have hF7 := hF5.same sx
              have b7 := b5.trans (But.of (a := a) sx)
              have hp7 := sx _ _ hp
              generalize upd (upd H5 q (SetW P w q (insAll (ws.map SX.S) []))) r (.lst (zs.map V.str)) = H7 at hF7 b7 hp7 ⊢
              refine ite2 (fun e => ?_) (fun _ => ?_)
              · have e := V.int.inj (of_decide_eq_true e)
                rw [List.length_map] at e
                have el : (insAll (ws.map SX.S) []).length = (ws.map SX.S).length + ([] : List Str).length := by
                  rw [← pm.length_eq, List.length_map, List.length_nil]
                  omega
                exact ⟨_, rfl, p, ws, hF7, b7, npa, hp7, hl, nodup_S (ins_all_full _ _ el).1, hw, rfl⟩
              · refine ⟨_, rfl, _, rfl, by omega, by omega, fun D nD => ?_⟩
                have nDa := new_ne hF7 nD
                have nDc := new_nc hF7 nD
                have nD1 := but_none b7 nD nDa
                refine lc_range (n := m) (fun i H8 => FeedOk H8 a c ∧ But a H1 H8 ∧ H8 D = some (.lst (((List.range i).map fun k => [five f k]).map vS))) ⟨hF7.new nD, b7.updN nD1, upd_same⟩ (fun i H8 hi hp => ?_) (fun H8 hp => ?_)
                · obtain ⟨hF8, b8, hD⟩ := hp
                  have m0 : (0 : Int) ≤ ((f : Int) + 5 * (0 + (i : Int))) % 26 := by omega
                  have m1 : ((f : Int) + 5 * (0 + (i : Int))) % 26 < 26 := by omega
                  have m2 : 97 + (((f : Int) + 5 * (0 + (i : Int))) % 26).toNat = five f i := by
                    unfold five
                    omega
                  have it := abc_at m0 m1
                  rw [m2] at it
                  refine ⟨rfl, _, rfl, _, rfl, _, rfl, _, _, rfl, rfl, .inl (by decide), _, _, rfl, rfl, .inl ⟨_, rfl, _, _, rfl, rfl, (by show (0 : Int) < 26; decide), ?_⟩⟩
                  refine ⟨_, _, _, rfl, rfl, small_line (by decide), it, _, hD, ?_, hF8.put nDa nDc, b8.updN nD1, ?_⟩
                  · rw [List.length_map, List.length_map, List.length_range]
                    exact small1000 (by omega)
                  · rw [upd_same, List.range_succ, List.map_append, List.map_append]
                    rfl
                · obtain ⟨hF8, b8, hD⟩ := hp
                  refine ⟨D, _, hF8, b8, nDa, hD, by rw [List.length_map, List.length_range], nodup_range_map fun i j hi hj e => five_inj (by omega) (by omega) (List.cons.inj e).1, fun x hx => ?_, rfl⟩
                  obtain ⟨k, hk, rfl⟩ := List.mem_map.mp hx
                  exact LW.one (low_abc (Nat.mod_lt _ (by decide)))
          · obtain ⟨p, ws, hF5, b5, npa, hp, hl, hn, hw, rfl⟩ := hM
            exact ⟨_, rfl, q p ws H5 hF5 b5 npa hp hl hn hw⟩
end
section
variable {P : Program} {w : World} {K : PySem.W.Frag} {mg : Str → Option Value} {base : Heap} {fa : Nat → Addr} {fd : Nat → FuncData}
/-- good terms: what terms are drawn -/
def TrmOk (ws : List (List Nat)) (ts : List (Str × PyData)) : Prop := (ts.length = 1 ∨ ts.length = 2) ∧ termsD (trmD ts) = true ∧ (∀ t ∈ ts, okR t.2 ∧ ∃ x ∈ ws, t.1 = SX.S x)
def spTerms : Sp := fun vs H Q _ => ∃ (a c p : Addr) (ws : List (List Nat)) (m : Int), vs = [.ref a, .ref p, .int m] ∧ FeedOk H a c ∧ p ≠ a ∧ H p = some (.lst (ws.map vS)) ∧ ws ≠ [] ∧ ws.length ≤ 6 ∧ ws.Nodup ∧ (∀ x ∈ ws, nameB x = true ∧ x.length ≤ 7) ∧
  ∀ (v : V) (ts : List (Str × PyData)) (H' : Hp), FeedOk H' a c → But a H H' → Dt a H' v (trmD ts) → TrmOk ws ts → Q v H'
theorem ok_terms (T : Txt K mg fa fd) : FnOk P w K mg base CX0 4 (fa 38) (fd 38) ["_law_feed_here", "_law_words_here", "_law_pairs"] spTerms := by
  refine T.F_terms.ok sc_terms (fun vs H Q E h => ?_) (fun cdv A outer s H vs Q E hr h => ?_)
  · obtain ⟨a, c, p, ws, m, rfl, _⟩ := h
    rfl
  · obtain ⟨a, c, p, ws, m, rfl, hF, npa, hp, ne, hl, hn, hw, q⟩ := h
    refine ⟨_, (C8.pss_cut (ps_set (i := 3) sc_terms.nd rfl (.inl rfl) (pe_call (ok_draw T) (hr.mono (by decide)) (by rfl) T.g_draw T.F_draw.kp T.b_draw .nil pass0 (pa_cons (pv 0) (pa_cons (pe_callB call_len_seq (by rfl) T.m_len PySem.boot_len (pa_cons (pv 1) pa_nil)) pa_nil))))
      (C8.pss_cut (ps_set (i := 4) sc_terms.nd rfl (.inl rfl) (pe_lst (pa_cons (pe_ix ix_list (pv 1) (pv 3) (fun _ _ => rfl)) pa_nil)))
      (C8.pss_cut (ps_if (PW.pt (pw_and (pt_cmpR op_gt (pe_callB call_len_seq (by rfl) T.m_len PySem.boot_len (pa_cons (pv 1) pa_nil)) pe_int (nomark _)) (pw_and1 (pt_cmpR op_lt (pe_call (ok_draw T) (hr.mono (by decide)) (by rfl) T.g_draw T.F_draw.kp T.b_draw .nil pass0 (pa_cons (pv 0) (pa_cons pe_int pa_nil))) (pv 2) (nomark _))))) (pss_one (ps_expr (pe_bm PySem.F.plainAttrs_list PySem.F.slot_list_append PySem.F.type_list_append mt_append (pv 4) (pa_cons (pe_ix ix_list (pv 1) (pe_op op_mod (pe_callTy call_int1 (by rfl) T.m_int PySem.Pv.boot_int (pa_cons (pe_op op_add (pe_op op_add (pv 3) pe_int) (pe_call (ok_draw T) (hr.mono (by decide)) (by rfl) T.g_draw T.F_draw.kp T.b_draw .nil pass0 (pa_cons (pv 0) (pa_cons (pe_op op_sub (pe_callB call_len_seq (by rfl) T.m_len PySem.boot_len (pa_cons (pv 1) pa_nil)) pe_int) pa_nil)))) pa_nil)) (pe_callB call_len_seq (by rfl) T.m_len PySem.boot_len (pa_cons (pv 1) pa_nil))) (fun _ _ => rfl)) pa_nil)))) pss_nil)
      (pss_one (ps_ret (pe_callTy call_tuple_of (by rfl) T.m_tuple (by decide +kernel) (pa_cons (pe_lc (own := [("_law_name", 5)]) (g := gName 5) (tt := tYes) rfl sc_terms.nd (pi_list (pe_callB cr_sortedS (by rfl) T.m_sorted (by decide +kernel) (pa_cons (pv 4) pa_nil))) (blkOk_by (own := [("_law_name", 5)]) (N := ["_law_feed_here", "_law_words_here", "_law_pairs", "_law_one", "_law_chosen", "_law_name"]) (sc := defScope s_terms) (by decide +kernel)) (fun _ _ _ _ _ => pg_name (i := 5) sc_terms.nd rfl (Or.inl rfl)) (fun _ _ _ _ _ => pts_nil) (fun _ _ _ _ _ => (pe_tup (pa_cons (pv 5) (pa_cons (pe_call (ok_rate T) (hr.mono (by decide)) (by rfl) T.g_rate T.F_rate.kp T.b_rate .nil pass0 (pa_cons (pv 0) pa_nil)) pa_nil))))) pa_nil))))))), ?_⟩
    have l0 : 0 < ws.length := by
      cases ws with
      | nil => exact absurd rfl ne
      | cons _ _ => simp
    have lv : (ws.map vS).length = ws.length := List.length_map ..
    refine ⟨fun σ H1 => FeedOk H1 a c ∧ But a H H1 ∧ ∃ i : Nat, i < ws.length ∧ σ = [some (.ref a), some (.ref p), some (.int m), some (.int i), none, none], ?_, fun σ H1 hM => ?_⟩
    · refine ⟨_, rfl, _, rfl, p, _, rfl, .inl (SqL.of hp), a, c, _, rfl, hF, mid_of (by omega) (by omega), fun r H1 r0 r1 hF1 b1 => ?_⟩
      obtain ⟨i, rfl⟩ := Int.eq_ofNat_of_zero_le r0
      exact ⟨hF1, b1, i, by omega, rfl⟩
    · obtain ⟨hF1, b1, i, hi, rfl⟩ := hM
      have gi : (ws.map vS)[i]? = some (vS ws[i]) := by rw [List.getElem?_map, List.getElem?_eq_getElem hi]; rfl
      -- chosen
      refine ⟨fun σ H2 => Same H1 H2 ∧ ∃ C, C ≠ a ∧ C ≠ c ∧ H C = none ∧ H2 C = some (.lst ([ws[i]].map vS)) ∧ σ = [some (.ref a), some (.ref p), some (.int m), some (.int i), some (.ref C), none], ?_, fun σ H2 hM => ?_⟩
      · refine ⟨_, rfl, _, rfl, p, _, _, _, rfl, rfl, SqL.of (b1 _ _ npa hp), at_of (j := i) rfl gi, small_line (by show 1 ≤ 1000; decide), fun C nC => ?_⟩
        exact ⟨same_upd nC, C, new_ne hF1 nC, new_nc hF1 nC, but_none b1 nC (new_ne hF1 nC), upd_same, rfl⟩
      · obtain ⟨s2, C, nCa, nCc, nC, hC, rfl⟩ := hM
        have hF2 := hF1.same s2
        have b2 := b1.trans (But.of (a := a) s2)
        clear hF1 b1 s2 H1
        -- one more
        refine ⟨fun σ H3 => FeedOk H3 a c ∧ But a H H3 ∧ ∃ xs : List (List Nat), (xs.length = 1 ∨ xs.length = 2) ∧ xs.Nodup ∧ (∀ x ∈ xs, x ∈ ws) ∧ H3 C = some (.lst (xs.map vS)) ∧ σ = [some (.ref a), some (.ref p), some (.int m), some (.int i), some (.ref C), none], ?_, fun σ H3 hM => ?_⟩
        · have stay : ∀ H3, FeedOk H3 a c → But a H2 H3 → (FeedOk H3 a c ∧ But a H H3 ∧ ∃ xs : List (List Nat), (xs.length = 1 ∨ xs.length = 2) ∧ xs.Nodup ∧ (∀ x ∈ xs, x ∈ ws) ∧ H3 C = some (.lst (xs.map vS)) ∧ [some (V.ref a), some (.ref p), some (.int m), some (.int (i : Int)), some (.ref C), none] = [some (.ref a), some (.ref p), some (.int m), some (.int i), some (.ref C), none]) := fun H3 hF3 b3 =>
            ⟨hF3, b2.trans b3, [ws[i]], .inl rfl, by simp, fun x hx => by rw [List.mem_singleton.mp hx]; exact List.getElem_mem hi, b3 _ _ nCa hC, rfl⟩
          refine ⟨_, rfl, p, _, rfl, .inl (SqL.of (b2 _ _ npa hp)), _, _, rfl, rfl, _, rfl, ite2 (fun e => ?_) (fun _ => stay H2 hF2 (But.refl _ _))⟩
          have e : (1 : Int) < ((ws.map vS).length : Int) := of_decide_eq_true e
          rw [lv] at e
          refine ⟨_, rfl, a, c, _, rfl, hF2, mid_of (by decide) (by decide), fun r H3 _ _ hF3 b3 => ?_⟩
          refine ⟨_, rfl, _, _, rfl, rfl, _, rfl, ite2 (fun _ => ?_) (fun _ => stay H3 hF3 b3)⟩
          have hp3 := b3 _ _ npa (b2 _ _ npa hp)
          refine ⟨_, rfl, .inl ⟨rfl, _, SqL.of (b3 _ _ nCa hC)⟩, _, rfl, _, rfl, _, _, rfl, rfl, _, rfl, _, rfl, p, _, rfl, .inl (SqL.of hp3), _, _, rfl, rfl, a, c, _, rfl, hF3, mid_of (by omega) (by omega), fun r2 H4 r3 r4 hF4 b4 => ?_⟩
          rw [lv] at r4
          have hp4 := b4 _ _ npa hp3
          have hC4 := b4 _ _ nCa (b3 _ _ nCa hC)
          obtain ⟨j, hj, ej, ji⟩ : ∃ j : Nat, j < ws.length ∧ ((i : Int) + 1 + r2) % ((ws.map vS).length : Int) = (j : Int) ∧ j ≠ i := by
            rw [lv]
            refine ⟨(((i : Int) + 1 + r2) % (ws.length : Int)).toNat, ?_, ?_, ?_⟩
            · have h1 := Int.emod_lt_of_pos ((i : Int) + 1 + r2) (show (0 : Int) < ws.length by omega)
              omega
            · have h0 := Int.emod_nonneg ((i : Int) + 1 + r2) (show (ws.length : Int) ≠ 0 by omega)
              omega
            · intro z
              have h0 := Int.emod_nonneg ((i : Int) + 1 + r2) (show (ws.length : Int) ≠ 0 by omega)
              by_cases c1 : (i : Int) + 1 + r2 < ws.length
              · rw [Int.emod_eq_of_lt (by omega) c1] at z
                omega
              · have e2 : ((i : Int) + 1 + r2) % (ws.length : Int) = (i : Int) + 1 + r2 - ws.length := by
                  rw [← Int.sub_emod_right, Int.emod_eq_of_lt (by omega) (by omega)]
                rw [e2] at z
                omega
          have gj : (ws.map vS)[j]? = some (vS ws[j]) := by rw [List.getElem?_map, List.getElem?_eq_getElem hj]; rfl
          refine ⟨_, _, rfl, rfl, .inl ⟨_, rfl, _, rfl, p, _, rfl, .inl (SqL.of hp4), _, _, rfl, rfl, (by show (0 : Int) < _; omega), p, _, _, _, rfl, rfl, SqL.of hp4, at_of (j := j) ej gj, ?_⟩⟩
          refine ⟨C, _, _, rfl, rfl, hC4, small1000 (by show 1 ≤ 1000; decide), ?_⟩
          refine ⟨hF4.put nCa nCc, ((b2.trans b3).trans b4).updN nC, [ws[i], ws[j]], .inr rfl, ?_, ?_, upd_same, rfl⟩
          · refine List.nodup_cons.mpr ⟨fun z => ?_, by simp⟩
            rw [List.mem_singleton] at z
            exact ji (nd_ix hn (List.getElem?_eq_getElem hi) (by rw [List.getElem?_eq_getElem hj, z])).symm
          · intro x hx
            rcases List.mem_cons.mp hx with rfl | hx
            · exact List.getElem_mem hi
            · rw [List.mem_singleton.mp hx]
              exact List.getElem_mem hj
        · clear hC hF2 b2 H2
          obtain ⟨hF3, b3, xs, hx, hxn, hxw, hC, rfl⟩ := hM
          have hCS : H3 C = some (.lst ((xs.map SX.S).map V.str)) := by
            rw [List.map_map]
            exact hC
          refine ⟨_, rfl, C, _, rfl, SqL.of hCS, by rw [List.length_map]; omega, fun zs r pm srt nr => ?_⟩
          have sr := same_upd (o := .lst (zs.map V.str)) nr
          have hF4 := hF3.same sr
          have b4 := b3.trans (But.of (a := a) sr)
          have nra := new_ne hF3 nr
          have nr0 := but_none b3 nr nra
          have hr4 : (upd H3 r (.lst (zs.map V.str))) r = some (.lst (zs.map V.str)) := upd_same
          generalize upd H3 r (.lst (zs.map V.str)) = H4 at hF4 b4 hr4 ⊢
          refine ⟨r, rfl, ⟨_, SqL.of hr4⟩, fun D nD => ?_⟩
          have nDa := new_ne hF4 nD
          have nDc := new_nc hF4 nD
          have nD0 := but_none b4 nD nDa
          have nDr : r ≠ D := ne_of_none hr4 nD
          have zl : zs.length ≤ 2 := by
            rw [pm.length_eq, List.length_map]
            omega
          refine lc_list (K := K) (a := r) (xs := zs.map V.str) (fun i H5 => FeedOk H5 a c ∧ But a H H5 ∧ H5 r = some (.lst (zs.map V.str)) ∧ ∃ (vs : List V) (ts : List (Str × PyData)), H5 D = some (.lst vs) ∧ DtAll a H5 vs (ts.map trm1) ∧ ts.map (·.1) = zs.take i ∧ ∀ t ∈ ts, okR t.2)
            ⟨hF4.new nD, b4.updN nD0, same_upd nD _ _ hr4, [], [], upd_same, .nil, rfl, fun t h => by cases h⟩ (fun i H5 _ hq => SqL.of hq.2.2.1) (fun i x H5 hx hq => ?_) (fun H5 hq => ?_)
          · obtain ⟨hF5, b5, hr5, vs, ts, hD, hts, hnm, hok⟩ := hq
            rw [List.getElem?_map] at hx
            obtain ⟨x, hxz, rfl⟩ := Option.map_eq_some_iff.mp hx
            refine ⟨rfl, _, rfl, _, rfl, a, c, rfl, hF5, fun v t u H6 hF6 b6 hR t0 tb ub => ⟨two_line, fun e ne => ?_⟩⟩
            have hD6 := b6 _ _ nDa hD
            have xl : x.length ≤ 1000 := by
              obtain ⟨y, hy, rfl⟩ := List.mem_map.mp (pm.mem_iff.mp (List.mem_of_getElem? hxz))
              rw [SX.S_len]
              have := (hw y (hxw y hy)).2
              omega
            obtain ⟨se, de⟩ := dnewT (z := a) ne (.cons (.str x xl) (.cons hR.1 .nil))
            have hD7 := se _ _ hD6
            have hts7 := hts.tups (z' := a) ((TT.but hF5 b6).trans (TT.of se)) _ _ (noLs_trms hok)
            have vl : vs.length < sizeLine := by
              have e1 := hts.len
              rw [List.length_map, ← List.length_map (f := Prod.fst) (as := ts), hnm, List.length_take] at e1
              exact small1000 (by omega)
            refine ⟨vs, hD7, vl, (hF6.same se).put nDa nDc, ((b5.trans b6).trans (But.of se)).updN nD0, ?_, vs ++ [.ref e], ts ++ [(x, frD t u)], upd_same, ?_, ?_, ?_⟩
            · rw [upd_ne nDr]
              exact se _ _ (b6 _ _ nra hr5)
            · rw [List.map_append]
              refine DtAll.snoc (hts7.tups (TT.upd hD7) _ _ (noLs_trms hok)) ?_
              exact Dt.tups (TT.upd hD7) _ _ rfl de
            · rw [List.map_append, hnm, List.take_add_one, hxz]
              rfl
            · intro s hs
              rcases List.mem_append.mp hs with h | h
              · exact hok s h
              · rw [List.mem_singleton.mp h]
                exact ⟨hR.2, decide_eq_true t0, decide_eq_true ⟨tb, ub⟩⟩
          · obtain ⟨hF5, b5, hr5, vs, ts, hD, hts, hnm, hok⟩ := hq
            rw [List.length_map, List.take_length] at hnm
            refine ⟨D, vs, rfl, .inl ⟨SqL.of hD, fun l nl => ?_⟩⟩
            have sl := same_upd (o := .tup vs) nl
            refine q (.ref l) ts _ (hF5.same sl) (b5.trans (But.of sl)) (.tup upd_same (hts.same sl)) ?_
            have nm : ∀ t ∈ ts, ∃ x ∈ ws, t.1 = SX.S x := fun t ht => by
              have : t.1 ∈ zs := by
                rw [← hnm]
                exact List.mem_map_of_mem ht
              obtain ⟨y, hy, e⟩ := List.mem_map.mp (pm.mem_iff.mp this)
              exact ⟨y, hxw y hy, e.symm⟩
            have tl : ts.length = xs.length := by
              rw [← List.length_map (f := Prod.fst), hnm, pm.length_eq, List.length_map]
            have tr : ∀ t ∈ ts, termD (trm1 t) = true := fun t ht => by
              obtain ⟨x, hx, e⟩ := nm t ht
              show (nameB t.1.cps.toList && ratD t.2 && nonz t.2) = true
              rw [e, S_list, (hw x hx).1, (hok t ht).1, (hok t ht).2.1]
              rfl
            refine ⟨by omega, ?_, fun t ht => ⟨hok t ht, nm t ht⟩⟩
            have zn : zs.Nodup := by
              refine pm.nodup_iff.mpr ?_
              rw [List.Nodup, List.pairwise_map]
              exact List.Pairwise.imp (fun h z => h (S_inj z)) hxn
            match ts, tl, tr, hnm with
            | [t], _, tr, _ => exact tr t List.mem_cons_self
            | [t, u], _, tr, hnm =>
              show (termD (trm1 t) && termD (trm1 u) && ltD (trm1 t) (trm1 u)) = true
              rw [tr t List.mem_cons_self, tr u (List.mem_cons_of_mem _ List.mem_cons_self)]
              have hnm : [t.1, u.1] = zs := hnm
              subst hnm
              exact sorted_two srt (fun z => (List.nodup_cons.mp zn).1 (by rw [z]; exact List.mem_cons_self))
            | [], tl, _, _ => simp at tl; omega
            | _ :: _ :: _ :: _, tl, _, _ => simp at tl; omega
end
def ttL (tl : List (List Nat × FR)) (b : FR) : List Nat := tsL (redL tl) ++ [32, 60, 61, 32] ++ txtL (redF (scl (rts tl)) b).1 (redF (scl (rts tl)) b).2
theorem redF_fsm {tl : List (List Nat × FR)} (h : TlOk tl) {f : FR} (hf : BdF f) : Fsm (redF (scl (rts tl)) f) := by
  obtain ⟨sm, s2, s3, s1⟩ := scl_sm h
  have a : (f.1 * (scl (rts tl)).1).natAbs ≤ 1000000 * 20000000000000000000 := by
    rw [Int.natAbs_mul]
    refine Nat.mul_le_mul hf.1 ?_
    have := sm.1
    unfold Sm at this
    omega
  have b : (f.2 * (scl (rts tl)).2).natAbs ≤ 1000000 * 20000000000000000000 := by
    rw [Int.natAbs_mul]
    refine Nat.mul_le_mul hf.bf.2.2 ?_
    omega
  have := Bf.low (u := f.1 * (scl (rts tl)).1) (Int.mul_pos hf.2.1 s2) a b
  exact ⟨Nat.lt_of_le_of_lt this.1 (by decide), this.2.1, Nat.lt_of_le_of_lt this.2.2 (by decide)⟩
theorem redL_ts {tl : List (List Nat × FR)} (h : TlOk tl) : TsOk (redL tl) := by
  refine ⟨by unfold redL; rw [List.length_map]; exact h.1, fun t ht => ?_⟩
  obtain ⟨u, hu, rfl⟩ := List.mem_map.mp ht
  exact ⟨(h.2 u hu).2.2, redF_fsm h (h.2 u hu).2.1⟩
theorem tsL_len {tl : List (List Nat × FR)} (h : TsOk tl) : (tsL tl).length ≤ 273 := by
  match tl, h with
  | [t], h =>
    have := tmL_len (h.2 t List.mem_cons_self).1 (h.2 t List.mem_cons_self).2
    show (tmL t.1 t.2).length ≤ _
    omega
  | [t, u], h =>
    have a := tmL_len (h.2 t List.mem_cons_self).1 (h.2 t List.mem_cons_self).2
    have hu := h.2 u (List.mem_cons_of_mem _ List.mem_cons_self)
    have b := stepT_len (acc := tmL t.1 t.2) hu.1 hu.2
    show (stepT (tmL t.1 t.2) u).length ≤ _
    omega
  | [], h => have := h.1; simp at this
  | _ :: _ :: _ :: _, h => have := h.1; simp at this
section
variable {P : Program} {w : World} {K : PySem.W.Frag} {mg : Str → Option Value} {base : Heap} {fa : Nat → Addr} {fd : Nat → FuncData}
def spTieT : Sp := fun vs H Q _ => ∃ v tl b z, vs = [v] ∧ Dt z H v (tieP tl b) ∧ TlOk tl ∧ BdF b ∧ (∀ t ∈ tl, t.1 ≠ []) ∧ ∀ H', Same H H' → Q (vS (ttL tl b)) H'
theorem ok_p_tie_text (T : Txt K mg fa fd) : FnOk P w K mg base CX0 6 (fa 21) (fd 21) ["tie"] spTieT := by
  refine T.F_p_tie_text.ok sc_p_tie_text (fun vs H Q E h => ?_) (fun cdv A outer s H vs Q E hr h => ?_)
  · obtain ⟨v, tl, b, z, rfl, _⟩ := h
    rfl
  · obtain ⟨v, tl, b, z, rfl, hv, hok, hb, hn, q⟩ := h
    refine ⟨_, (C8.pss_cut (ps_asg (pe_call (ok_p_reduced T) (hr.mono (by decide)) (by rfl) T.g_p_reduced T.F_p_reduced.kp T.b_p_reduced .nil pass0 (pa_cons (pv 0) pa_nil)) (pg_tup (by rfl) (pgs_cons (pg_name (i := 1) sc_p_tie_text.nd rfl (.inl rfl)) (pgs_cons (pg_name (i := 2) sc_p_tie_text.nd rfl (.inl rfl)) pgs_nil))))
      (pss_one (ps_ret (pe_op op_add_str (pe_op op_add_str (pe_call (ok_p_terms_text T) (hr.mono (by decide)) (by rfl) T.g_p_terms_text T.F_p_terms_text.kp T.b_p_terms_text .nil pass0 (pa_cons (pv 1) pa_nil)) pe_str) (pe_call (ok_p_ratio_text T) (hr.mono (by decide)) (by rfl) T.g_p_ratio_text T.F_p_ratio_text.kp T.b_p_ratio_text .nil pass0 (pa_cons (pv 2) pa_nil)))))), ?_⟩
    have hts := redL_ts hok
    have tl1 := tsL_len hts
    have fb := redF_fsm hok hb
    have tl2 := txtL_len fb
    refine ⟨fun σ H1 => Same H H1 ∧ ∃ vt pb, Dt z H1 vt (.tuple ((redL tl).map tmP)) ∧ H1 pb = some (.tup [.int (redF (scl (rts tl)) b).1, .int (redF (scl (rts tl)) b).2]) ∧ ∃ y0, σ = [y0, some vt, some (.ref pb)], ?_, fun σ H1 hM => ?_⟩
    · refine ⟨_, rfl, v, tl, b, z, rfl, hv, hok, hb, fun v' H1 s1 hv' => ?_⟩
      obtain ⟨P, t, y, xs, rfl, hP, ht, hxs, hy⟩ := tie_inv hv'
      obtain ⟨pb, rfl, hpb⟩ := dt_fr hy
      exact ⟨P, _, rfl, .inl (.inl hP), rfl, _, _, rfl, _, _, rfl, rfl, s1, .ref t, pb, .tup ht hxs, hpb, _, rfl⟩
    obtain ⟨s1, vt, pb, hvt, hpb, y0, rfl⟩ := hM
    refine ⟨_, rfl, vt, redL tl, z, rfl, hvt, hts, fun H2 s2 => ⟨_, _, rfl, rfl, ?_, _, rfl, pb, _, _, rfl, s2 _ _ hpb, fb.2.1, fb.1, fb.2.2, fun H3 s3 => ⟨_, _, rfl, rfl, ?_, ?_⟩⟩⟩
    · rw [leT, SX.S_len, SX.S_len]
      exact small_line (by show _ + 4 ≤ 1000; omega)
    · rw [leT, SX.S_cat, SX.S_len, SX.S_len, List.length_append]
      exact small_line (by show (tsL (redL tl)).length + 4 + _ ≤ 1000; omega)
    · rw [leT, SX.S_cat, SX.S_cat]
      exact q H3 (s1.trans (s2.trans s3))
theorem ok_tie_text (T : Txt K mg fa fd) : FnOk P w K mg base CX0 6 (fa 42) (fd 42) ["_law_tie"] spTieT := by
  refine T.F_tie_text.ok sc_tie_text (fun vs H Q E h => ?_) (fun cdv A outer s H vs Q E hr h => ?_)
  · obtain ⟨v, tl, b, z, rfl, _⟩ := h
    rfl
  · obtain ⟨v, tl, b, z, rfl, hv, hok, hb, hn, q⟩ := h
    refine ⟨_, (C8.pss_cut (ps_asg (pe_call (ok_brief T) (hr.mono (by decide)) (by rfl) T.g_brief T.F_brief.kp T.b_brief .nil pass0 (pa_cons (pv 0) pa_nil)) (pg_tup (by rfl) (pgs_cons (pg_name (i := 1) sc_tie_text.nd rfl (.inl rfl)) (pgs_cons (pg_name (i := 2) sc_tie_text.nd rfl (.inl rfl)) pgs_nil))))
      (pss_one (ps_ret (pe_op op_add_str (pe_op op_add_str (pe_call (ok_sum_text T) (hr.mono (by decide)) (by rfl) T.g_sum_text T.F_sum_text.kp T.b_sum_text .nil pass0 (pa_cons (pv 1) pa_nil)) pe_str) (pe_call (ok_part_text T) (hr.mono (by decide)) (by rfl) T.g_part_text T.F_part_text.kp T.b_part_text .nil pass0 (pa_cons (pv 2) pa_nil)))))), ?_⟩
    have hts := redL_ts hok
    have same : sumL (redL tl) = tsL (redL tl) := sums_same hts.1 fun t ht => by
      obtain ⟨u, hu, rfl⟩ := List.mem_map.mp ht
      exact hn u hu
    have tl1 := tsL_len hts
    have fb := redF_fsm hok hb
    have tl2 := txtL_len fb
    refine ⟨fun σ H1 => Same H H1 ∧ ∃ vt pb, Dt z H1 vt (.tuple ((redL tl).map tmP)) ∧ H1 pb = some (.tup [.int (redF (scl (rts tl)) b).1, .int (redF (scl (rts tl)) b).2]) ∧ ∃ y0, σ = [y0, some vt, some (.ref pb)], ?_, fun σ H1 hM => ?_⟩
    · refine ⟨_, rfl, v, tl, b, z, rfl, hv, hok, hb, fun v' H1 s1 hv' => ?_⟩
      obtain ⟨P, t, y, xs, rfl, hP, ht, hxs, hy⟩ := tie_inv hv'
      obtain ⟨pb, rfl, hpb⟩ := dt_fr hy
      exact ⟨P, _, rfl, .inl (.inl hP), rfl, _, _, rfl, _, _, rfl, rfl, s1, .ref t, pb, .tup ht hxs, hpb, _, rfl⟩
    obtain ⟨s1, vt, pb, hvt, hpb, y0, rfl⟩ := hM
    refine ⟨_, rfl, vt, redL tl, z, rfl, hvt, hts, fun H2 s2 => ?_⟩
    rw [same]
    refine ⟨_, _, rfl, rfl, ?_, _, rfl, pb, _, _, rfl, s2 _ _ hpb, fb.2.1, fb.1, fb.2.2, fun H3 s3 => ⟨_, _, rfl, rfl, ?_, ?_⟩⟩
    · rw [leT, SX.S_len, SX.S_len]
      exact small_line (by show _ + 4 ≤ 1000; omega)
    · rw [leT, SX.S_cat, SX.S_len, SX.S_len, List.length_append]
      exact small_line (by show (tsL (redL tl)).length + 4 + _ ≤ 1000; omega)
    · rw [leT, SX.S_cat, SX.S_cat]
      exact q H3 (s1.trans (s2.trans s3))
end
/-! ### drawn values -/
theorem valV_not {kvs : List (Key × V)} {k : Key} (h : k ∉ kvs.map (·.1)) : valV kvs k = none := by
  induction kvs with
  | nil => rfl
  | cons p r ih =>
    rw [List.map_cons, List.mem_cons] at h
    rw [valV_neg (fun z => h (.inl z.symm))]
    exact ih fun z => h (.inr z)
theorem merge_nodup : ∀ (kvs acc : List (Key × V)), ((acc ++ kvs).map (·.1)).Nodup → mergeK acc kvs = acc ++ kvs
  | [], acc, _ => (List.append_nil acc).symm
  | kv :: kvs, acc, h => by
    have h1 : valV acc kv.1 = none := valV_not fun z => by
      rw [List.map_append, List.map_cons] at h
      exact (List.nodup_append.mp h).2.2 _ z _ List.mem_cons_self rfl
    show mergeK (putK acc kv.1 kv.2) kvs = _
    rw [putK_new _ h1, merge_nodup kvs (acc ++ [kv]) (by rw [List.append_assoc]; exact h), List.append_assoc]
    rfl
theorem paired_mono {α β : Type} {R S : α → β → Prop} (h : ∀ a b, R a b → S a b) : ∀ {xs : List α} {ys : List β}, Paired R xs ys → Paired S xs ys
  | _, _, .nil => .nil
  | _, _, .cons r t => .cons (h _ _ r) (paired_mono h t)
theorem paired_snoc {α β : Type} {R : α → β → Prop} : ∀ {xs : List α} {ys : List β} {x : α} {y : β}, Paired R xs ys → R x y → Paired R (xs ++ [x]) (ys ++ [y])
  | _, _, _, _, .nil, h => .cons h .nil
  | _, _, _, _, .cons r t, h => .cons r (paired_snoc t h)
def PointD (H : Hp) (d : Addr) (val : List Nat → FR) (ns : List (List Nat)) : Prop := ∃ kvs, H d = some (.dK kvs) ∧ (∀ e ∈ kvs, valV kvs e.1 = some e.2 ∧ okV e.2) ∧ ∀ x ∈ ns, Bf 10 (val x) ∧ ∃ p, valV kvs (.inr (SX.S x)) = some (.ref p) ∧ H p = some (.tup [.int (val x).1, .int (val x).2])
theorem PointD.val {H : Hp} {d : Addr} {val : List Nat → FR} {ns ms : List (List Nat)} (h : PointD H d val ns) (s : ∀ x ∈ ms, x ∈ ns) : ValD H d val ms := by
  obtain ⟨kvs, e, _, k⟩ := h
  exact ⟨kvs, e, fun x hx => k x (s x hx)⟩
theorem PointD.same {H H' : Hp} {d : Addr} {val : List Nat → FR} {ns : List (List Nat)} (h : PointD H d val ns) (s : Same H H') : PointD H' d val ns := by
  obtain ⟨kvs, e, g, k⟩ := h
  refine ⟨kvs, s _ _ e, g, fun x hx => ?_⟩
  obtain ⟨b, p, e1, e2⟩ := k x hx
  exact ⟨b, p, e1, s _ _ e2⟩
section
variable {P : Program} {w : World} {K : PySem.W.Frag} {mg : Str → Option Value} {base : Heap} {fa : Nat → Addr} {fd : Nat → FuncData}
def spPoint : Sp := fun vs H Q _ => ∃ (a c p : Addr) (ws : List (List Nat)), vs = [.ref a, .ref p] ∧ FeedOk H a c ∧ p ≠ a ∧ H p = some (.lst (ws.map vS)) ∧ ws.Nodup ∧ ws.length ≤ 6 ∧ ∀ d val H', FeedOk H' a c → But a H H' → PointD H' d val ws → Q (.ref d) H'
theorem ok_point (T : Txt K mg fa fd) : FnOk P w K mg base CX0 3 (fa 37) (fd 37) ["_law_feed_here", "_law_words_here"] spPoint := by
  refine T.F_point.ok sc_point (fun vs H Q E h => ?_) (fun cdv A outer s H vs Q E hr h => ?_)
  · obtain ⟨a, c, p, ws, rfl, _⟩ := h
    rfl
  · obtain ⟨a, c, p, ws, rfl, hF, npa, hp, hnd, hl, q⟩ := h
    refine ⟨_, (pss_one (ps_ret (pe_callTy (call_dictP rfl) (by rfl) T.m_dict (by decide +kernel) (pa_cons (pe_lc (own := [("_law_name", 2)]) (g := gName 2) (tt := tYes) rfl sc_point.nd (pi_list (pv 1)) (blkOk_by (own := [("_law_name", 2)]) (N := ["_law_feed_here", "_law_words_here", "_law_name"]) (sc := defScope s_point) (by decide +kernel)) (fun _ _ _ _ _ => pg_name (i := 2) sc_point.nd rfl (Or.inl rfl)) (fun _ _ _ _ _ => pts_nil) (fun _ _ _ _ _ => (pe_tup (pa_cons (pv 2) (pa_cons (pe_call (ok_any T) (hr.mono (by decide)) (by rfl) T.g_any T.F_any.kp T.b_any .nil pass0 (pa_cons (pv 0) (pa_cons (pe_lst (pa_cons (pe_tup (pa_cons pe_int (pa_cons pe_int pa_nil))) (pa_cons (pe_tup (pa_cons pe_int (pa_cons pe_int pa_nil))) (pa_cons (pe_tup (pa_cons pe_int (pa_cons pe_int pa_nil))) (pa_cons (pe_tup (pa_cons (pe_un un_neg pe_int) (pa_cons pe_int pa_nil))) (pa_cons (pe_tup (pa_cons pe_int (pa_cons pe_int pa_nil))) (pa_cons (pe_tup (pa_cons pe_int (pa_cons pe_int pa_nil))) (pa_cons (pe_tup (pa_cons (pe_un un_neg pe_int) (pa_cons pe_int pa_nil))) pa_nil)))))))) pa_nil))) pa_nil))))) pa_nil)))), ?_⟩
    refine ⟨_, rfl, p, rfl, ⟨_, SqL.of hp⟩, fun D nD => ?_⟩
    have nDa := new_ne hF nD
    have nDc := new_nc hF nD
    have npD : p ≠ D := ne_of_none hp nD
    refine lc_list (K := K) (a := p) (xs := ws.map vS) (fun i G => FeedOk G a c ∧ But a H G ∧ G p = some (.lst (ws.map vS)) ∧ ∃ (ps : List Addr) (kvs : List (Key × V)), G D = some (.lst (ps.map V.ref)) ∧ Paired (fun p kv => G p = some (.tup [kV kv.1, kv.2])) ps kvs ∧ kvs.map (·.1) = (ws.take i).map (fun x => (.inr (SX.S x) : Key)) ∧ ∀ kv ∈ kvs, ∃ (q : Addr) (f : FR), kv.2 = .ref q ∧ G q = some (.tup [.int f.1, .int f.2]) ∧ Bf 10 f)
      ⟨hF.new nD, But.of (same_upd nD), same_upd nD _ _ hp, [], [], upd_same, .nil, rfl, fun kv h => by cases h⟩ (fun i G _ hq => SqL.of hq.2.2.1) (fun i x G hx hq => ?_) (fun G hq => ?_)
    · obtain ⟨hG, bG, hpG, ps, kvs, hD, hpk, hkeys, hvals⟩ := hq
      rw [List.getElem?_map] at hx
      obtain ⟨x, hxz, rfl⟩ := Option.map_eq_some_iff.mp hx
      refine ⟨rfl, ?_⟩
      refine ⟨_, rfl, _, rfl, (small_line (by decide : 2 ≤ 1000)), fun p1 n1 => ?_⟩
      obtain ⟨s1, d1⟩ := dnewT (z := a) n1 (.cons (.int 0 (by decide +kernel)) (.cons (.int 1 (by decide +kernel)) .nil))
      refine ⟨(small_line (by decide : 2 ≤ 1000)), fun p2 n2 => ?_⟩
      obtain ⟨s2, d2⟩ := dnewT (z := a) n2 (.cons (.int 1 (by decide +kernel)) (.cons (.int 1 (by decide +kernel)) .nil))
      refine ⟨(small_line (by decide : 2 ≤ 1000)), fun p3 n3 => ?_⟩
      obtain ⟨s3, d3⟩ := dnewT (z := a) n3 (.cons (.int 2 (by decide +kernel)) (.cons (.int 1 (by decide +kernel)) .nil))
      refine ⟨_, rfl, (small_line (by decide : 2 ≤ 1000)), fun p4 n4 => ?_⟩
      obtain ⟨s4, d4⟩ := dnewT (z := a) n4 (.cons (.int (-1) (by decide +kernel)) (.cons (.int 1 (by decide +kernel)) .nil))
      refine ⟨(small_line (by decide : 2 ≤ 1000)), fun p5 n5 => ?_⟩
      obtain ⟨s5, d5⟩ := dnewT (z := a) n5 (.cons (.int 1 (by decide +kernel)) (.cons (.int 2 (by decide +kernel)) .nil))
      refine ⟨(small_line (by decide : 2 ≤ 1000)), fun p6 n6 => ?_⟩
      obtain ⟨s6, d6⟩ := dnewT (z := a) n6 (.cons (.int 3 (by decide +kernel)) (.cons (.int 1 (by decide +kernel)) .nil))
      refine ⟨_, rfl, (small_line (by decide : 2 ≤ 1000)), fun p7 n7 => ?_⟩
      obtain ⟨s7, d7⟩ := dnewT (z := a) n7 (.cons (.int (-5) (by decide +kernel)) (.cons (.int 3 (by decide +kernel)) .nil))
      refine ⟨(small_line (by decide : 7 ≤ 1000)), fun p8 n8 => ?_⟩
      obtain ⟨s8, all, hrw⟩ := drow (z := a) n8 (.cons (d1.same (s2.trans (s3.trans (s4.trans (s5.trans (s6.trans s7)))))) (.cons (d2.same (s3.trans (s4.trans (s5.trans (s6.trans s7))))) (.cons (d3.same (s4.trans (s5.trans (s6.trans s7)))) (.cons (d4.same (s5.trans (s6.trans s7))) (.cons (d5.same (s6.trans s7)) (.cons (d6.same s7) (.cons d7 .nil)))))))
      have sR := (s1.trans (s2.trans (s3.trans (s4.trans (s5.trans (s6.trans (s7.trans s8)))))))
      refine ⟨a, c, p8, _, rfl, hG.same sR, hrw, new_ne (hG.same (s1.trans (s2.trans (s3.trans (s4.trans (s5.trans (s6.trans s7))))))) n8, by show 0 < 7; decide, by show 7 ≤ 1000; decide, fun v H2 hv hF2 b2 => ?_⟩
      obtain ⟨d, hd, hdt⟩ := all.mem hv
      have hdt := hdt.but (hG.same sR) b2
      have bb := (But.of (a := a) sR).trans b2
      have tt := TT.but hG bb
      obtain ⟨f, rfl, hf⟩ : ∃ f : FR, d = frP f ∧ Bf 10 f := by
        simp only [List.mem_cons, List.not_mem_nil, or_false] at hd
        rcases hd with rfl | rfl | rfl | rfl | rfl | rfl | rfl
        · exact ⟨(0, 1), rfl, by unfold Bf; decide⟩
        · exact ⟨(1, 1), rfl, by unfold Bf; decide⟩
        · exact ⟨(2, 1), rfl, by unfold Bf; decide⟩
        · exact ⟨(-1, 1), rfl, by unfold Bf; decide⟩
        · exact ⟨(1, 2), rfl, by unfold Bf; decide⟩
        · exact ⟨(3, 1), rfl, by unfold Bf; decide⟩
        · exact ⟨(-5, 3), rfl, by unfold Bf; decide⟩
      obtain ⟨pf, rfl, hpf⟩ := dt_fr hdt
      refine ⟨two_line, fun e ne => ?_⟩
      have se := same_upd (o := .tup [vS x, .ref pf]) ne
      have hD2 := bb _ _ nDa hD
      have hD3 := se _ _ hD2
      have il : i < ws.length := (List.getElem?_eq_some_iff.mp hxz).1
      have kl : kvs.length = ps.length := (Paired.length hpk).symm
      have k2 : kvs.length ≤ 6 := by
        have := congrArg List.length hkeys
        rw [List.length_map, List.length_map, List.length_take] at this
        omega
      refine ⟨ps.map V.ref, hD3, by rw [List.length_map]; exact small1000 (by omega), (hF2.same se).put nDa nDc, ((bG.trans bb).trans (But.of se)).updN nD, ?_, ps ++ [e], kvs ++ [(.inr (SX.S x), .ref pf)], ?_, ?_, ?_, ?_⟩
      · rw [upd_ne npD]
        exact se _ _ (bb _ _ npa hpG)
      · rw [upd_same, List.map_append]
        rfl
      · have t2 := (tt.trans (TT.of se)).trans (TT.upd (zs := ps.map V.ref ++ [.ref e]) hD3)
        refine paired_snoc (paired_mono (fun a b h => t2 _ _ h) hpk) ?_
        exact TT.upd (zs := ps.map V.ref ++ [.ref e]) hD3 _ _ upd_same
      · rw [List.map_append, hkeys, List.take_add_one, hxz, List.map_append]
        rfl
      · intro kv hkv
        have t2 := (tt.trans (TT.of se)).trans (TT.upd (zs := ps.map V.ref ++ [.ref e]) hD3)
        rcases List.mem_append.mp hkv with h | h
        · obtain ⟨q, f, e1, e2, e3⟩ := hvals kv h
          exact ⟨q, f, e1, t2 _ _ e2, e3⟩
        · rw [List.mem_singleton.mp h]
          exact ⟨pf, f, rfl, TT.upd (zs := ps.map V.ref ++ [.ref e]) hD3 _ _ (se _ _ hpf), hf⟩
    · obtain ⟨hG, bG, hpG, ps, kvs, hD, hpk, hkeys, hvals⟩ := hq
      rw [List.length_map, List.take_length] at hkeys
      refine ⟨D, ps, kvs, rfl, SqL.of hD, paired_mono (fun a b h => SqT.of h) hpk, fun d nd => ?_⟩
      have nk : (kvs.map (·.1)).Nodup := by
        rw [hkeys]
        rw [List.Nodup, List.pairwise_map]
        exact List.Pairwise.imp (fun h z => h (S_inj (Sum.inr.inj z))) hnd
      rw [merge_nodup kvs [] nk]
      have sd := same_upd (o := .dK kvs) nd
      have pick : ∀ x, ∃ f : FR, x ∈ ws → Bf 10 f ∧ ∃ q, valV kvs (.inr (SX.S x)) = some (.ref q) ∧ G q = some (.tup [.int f.1, .int f.2]) := fun x => by
        by_cases hx : x ∈ ws
        · have : (.inr (SX.S x) : Key) ∈ kvs.map (·.1) := by
            rw [hkeys]
            exact List.mem_map_of_mem (f := fun x => (.inr (SX.S x) : Key)) hx
          obtain ⟨kv, hkv, ek⟩ := List.mem_map.mp this
          obtain ⟨q, f, e1, e2, e3⟩ := hvals kv hkv
          refine ⟨f, fun _ => ⟨e3, q, ?_, e2⟩⟩
          rw [← ek, val_nodup nk kv hkv, e1]
        · exact ⟨(0, 1), fun h => absurd h hx⟩
      obtain ⟨val, hval⟩ := Classical.axiomOfChoice pick
      refine q d val _ (hG.same sd) (bG.trans (But.of sd)) ⟨kvs, upd_same, fun e he => ⟨val_nodup nk e he, ?_⟩, fun x hx => ?_⟩
      · obtain ⟨q, f, e1, _, _⟩ := hvals e he
        exact .inr ⟨q, e1⟩
      · obtain ⟨h1, q, h2, h3⟩ := hval x hx
        exact ⟨h1, q, h2, sd _ _ h3⟩
end
theorem Eqd.up {H : Hp} : ∀ {n : Nat} {v w : V}, Eqd H n v w → Eqd H (n + 1) v w
  | 0, _, _, h => .inl h
  | n + 1, _, _, h => by
    rcases h with h | ⟨a, b, xs, ys, e1, e2, h, l1, l2, r⟩
    · exact .inl h
    · exact .inr ⟨a, b, xs, ys, e1, e2, h, l1, l2, fun i x y h1 h2 => Eqd.up (r i x y h1 h2)⟩
theorem Eqd.le {H : Hp} {n m : Nat} {v w : V} (h : Eqd H n v w) (k : n ≤ m) : Eqd H m v w := by
  induction k with
  | refl => exact h
  | step _ ih => exact ih.up
theorem eqd_bl {H : Hp} {n : Nat} (b : Bool) : Eqd H n (.bl b) (.bl b) := Eqd.leaf ⟨rfl, .inr (.inl ⟨b, rfl⟩)⟩
theorem eqd_bls {H : Hp} {a b : Addr} {bs : List Bool} (ha : H a = some (.lst (bs.map V.bl))) (hb : H b = some (.lst (bs.map V.bl))) (hl : bs.length ≤ 1000) : Eqd H 5 (.ref a) (.ref b) := by
  refine .inr ⟨a, b, _, _, rfl, rfl, .inl ⟨ha, hb⟩, rfl, by rw [List.length_map]; exact hl, fun i y z h1 h2 => ?_⟩
  have e : y = z := Option.some.inj (h1.symm.trans h2)
  subst e
  rw [List.getElem?_map] at h1
  obtain ⟨o, ho, rfl⟩ := Option.map_eq_some_iff.mp h1
  exact eqd_bl o
theorem eqd_strs {H : Hp} {a b : Addr} {l : List Str} (ha : H a = some (.lst (l.map V.str))) (hb : H b = some (.lst (l.map V.str))) (hl : l.length ≤ 1000) : Eqd H 1 (.ref a) (.ref b) := by
  refine .inr ⟨a, b, _, _, rfl, rfl, .inl ⟨ha, hb⟩, rfl, by rw [List.length_map]; exact hl, fun i y z h1 h2 => ?_⟩
  have e : y = z := Option.some.inj (h1.symm.trans h2)
  subst e
  rw [List.getElem?_map] at h1
  obtain ⟨o, ho, rfl⟩ := Option.map_eq_some_iff.mp h1
  exact ⟨rfl, .inr (.inr (.inr ⟨_, rfl⟩))⟩
theorem eqd_int {H : Hp} {n : Nat} (i : Int) : Eqd H n (.int i) (.int i) := Eqd.leaf ⟨rfl, .inr (.inr (.inl ⟨i, rfl⟩))⟩
theorem eqd_tup2 {H : Hp} {n : Nat} {a b : Addr} {v1 v2 w1 w2 : V} (ha : H a = some (.tup [v1, v2])) (hb : H b = some (.tup [w1, w2])) (h1 : Eqd H n v1 w1) (h2 : Eqd H n v2 w2) : Eqd H (n + 1) (.ref a) (.ref b) := by
  refine .inr ⟨a, b, _, _, rfl, rfl, .inr ⟨ha, hb⟩, rfl, (by show 2 ≤ 1000; decide), fun i y z g1 g2 => ?_⟩
  match i, g1, g2 with
  | 0, g1, g2 => cases g1; cases g2; exact h1
  | 1, g1, g2 => cases g1; cases g2; exact h2
theorem eqd_frP {z : Addr} {H : Hp} {v w : V} {f : FR} (h1 : Dt z H v (frP f)) (h2 : Dt z H w (frP f)) : Eqd H 1 v w := by
  obtain ⟨p, rfl, hp⟩ := dt_fr h1
  obtain ⟨q, rfl, hq⟩ := dt_fr h2
  exact eqd_tup2 hp hq (eqd_int _) (eqd_int _)
theorem eqd_tie {z : Addr} {H : Hp} {v w : V} {tl : List (List Nat × FR)} {b : FR} (hl : tl.length ≤ 1000) (h1 : Dt z H v (tieP tl b)) (h2 : Dt z H w (tieP tl b)) : Eqd H 4 v w := by
  obtain ⟨p, t, y, xs, rfl, hp, ht, hxs, hy⟩ := tie_inv h1
  obtain ⟨p', t', y', xs', rfl, hp', ht', hxs', hy'⟩ := tie_inv h2
  have e1 := hxs.len
  have e2 := hxs'.len
  rw [List.length_map] at e1 e2
  refine eqd_tup2 hp hp' ?_ ((eqd_frP hy hy').le (by decide))
  refine .inr ⟨t, t', _, _, rfl, rfl, .inr ⟨ht, ht'⟩, by omega, by omega, fun i y z g1 g2 => ?_⟩
  obtain ⟨d, hd, k1⟩ := DtAll.at i hxs g1
  obtain ⟨d', hd', k2⟩ := DtAll.at i hxs' g2
  have := hd.symm.trans hd'
  cases this
  rw [List.getElem?_map] at hd
  obtain ⟨⟨n, f⟩, he, rfl⟩ := Option.map_eq_some_iff.mp hd
  change Dt _ _ _ (.tuple [.str (SX.S n), frP f]) at k1
  change Dt _ _ _ (.tuple [.str (SX.S n), frP f]) at k2
  match y, k1, z, k2 with
  | _, .tup h1 (.cons (.str _ _) (.cons r1 .nil)), _, .tup h2 (.cons (.str _ _) (.cons r2 .nil)) =>
    exact eqd_tup2 h1 h2 (Eqd.leaf ⟨rfl, .inr (.inr (.inr ⟨_, rfl⟩))⟩) (eqd_frP r1 r2)
theorem Bf.bd {N : Nat} {f : FR} (h : Bf N f) (k : N ≤ 1000000) : BdF f := ⟨Nat.le_trans h.1 k, h.2.1, by have := h.2.1; have := h.2.2; omega⟩
theorem red_wide {tl : List (List Nat × FR)} {b sh : FR} (h : RsOk (rts tl)) (hp : 0 < sh.1) (hq : 0 < sh.2) (hb : 0 < b.2) : redL (wideL sh tl) = redL tl ∧ redF (scl (rts (wideL sh tl))) (mulL b sh) = redF (scl (rts tl)) b := by
  obtain ⟨_, h1, h2⟩ := red_scaled h hp hq
  have e : rts (wideL sh tl) = (rts tl).map fun f => lowF (f.1 * sh.1) (f.2 * sh.2) := by
    unfold rts wideL
    rw [List.map_map, List.map_map]
    rfl
  refine ⟨?_, by rw [e]; exact h2 b hb⟩
  unfold redL
  rw [e]
  unfold wideL
  rw [List.map_map]
  exact List.map_congr_left fun t ht => Prod.ext rfl (h1 t.2 (List.mem_map_of_mem (f := fun t : List Nat × FR => t.2) ht))
theorem lcm_le3 : ∀ (rs : List FR) (u : Int), 0 < u → (∀ f ∈ rs, 0 < f.2 ∧ f.2 ≤ 3) → lcmF u rs ≤ u * 3 ^ rs.length
  | [], u, _, _ => by simp [lcmF]
  | f :: r, u, hu, h => by
    have hf := h f List.mem_cons_self
    have s := lcm_step hu hf.1
    have l := step_le hu hf.1
    have m : u * f.2 ≤ u * 3 := Int.mul_le_mul_of_nonneg_left hf.2 (by omega)
    have ih := lcm_le3 r _ s.1 fun g hg => h g (List.mem_cons_of_mem _ hg)
    refine Int.le_trans ih ?_
    rw [List.length_cons, Int.pow_succ, Int.mul_comm (3 ^ r.length) 3, ← Int.mul_assoc]
    exact Int.mul_le_mul_of_nonneg_right (by omega) (Int.le_of_lt (Int.pow_pos (by decide)))
theorem scl_small {tl : List (List Nat × FR)} (h : RsOk (rts tl)) (hl : tl.length ≤ 2) (hb : ∀ t ∈ tl, 0 < t.2.2 ∧ t.2.1.natAbs ≤ 5 ∧ t.2.2.natAbs ≤ 3) : Bf 45 (scl (rts tl)) ∧ 0 < (scl (rts tl)).1 := by
  obtain ⟨L, G, Lp, Gp, eL, eG, m, hm, hg⟩ := red_facts h
  have l9 : L ≤ 9 := by
    have := lcm_le3 (rts tl) 1 (by decide) fun f hf => by
      obtain ⟨t, ht, rfl⟩ := List.mem_map.mp hf
      have := hb t ht
      omega
    rw [eL, Int.one_mul] at this
    have rl : (rts tl).length ≤ 2 := by unfold rts; rw [List.length_map]; exact hl
    refine Int.le_trans this ?_
    match (rts tl).length, rl with
    | 0, _ => decide
    | 1, _ => decide
    | 2, _ => decide
  obtain ⟨f, r, e⟩ : ∃ f r, rts tl = f :: r := by
    cases e : rts tl with
    | nil => exact absurd e h.1
    | cons f r => exact ⟨f, r, rfl⟩
  have hf : f ∈ rts tl := by rw [e]; exact List.mem_cons_self
  have e1 := hm f hf
  have hne := h.2 f hf
  have hbf : f.1.natAbs ≤ 5 := by
    obtain ⟨t, ht, rfl⟩ := List.mem_map.mp hf
    exact (hb t ht).2.1
  have e2 : L.natAbs * f.1.natAbs = (m f * f.2).natAbs * G.natAbs := by
    rw [← Int.natAbs_mul, ← Int.natAbs_mul, ← e1, Int.mul_right_comm]
  have ne : (m f * f.2).natAbs ≠ 0 := fun z => by
    rw [z, Nat.zero_mul] at e2
    have := Nat.mul_eq_zero.mp e2
    omega
  have g45 : G.natAbs ≤ L.natAbs * f.1.natAbs := by
    rw [e2]
    exact Nat.le_mul_of_pos_left _ (by omega)
  have g2 : L.natAbs * f.1.natAbs ≤ 9 * 5 := Nat.mul_le_mul (by omega) hbf
  have bf := Bf.low (N := 45) (u := L) (v := G) Gp (by omega) (by omega)
  unfold scl
  rw [eL, eG]
  refine ⟨bf, ?_⟩
  have e := lowF_eq (u := L) Gp
  have := Int.mul_pos Lp bf.2.1
  rw [← e] at this
  rcases Int.lt_trichotomy (lowF L G).1 0 with h | h | h
  · have := Int.mul_neg_of_neg_of_pos h Gp
    omega
  · rw [h, Int.zero_mul] at this
    omega
  · exact h
/-- drawn terms as names and fractions -/
theorem trm_tl {ws : List (List Nat)} (hw : ∀ x ∈ ws, LW x) : ∀ {ts : List (Str × PyData)}, (∀ t ∈ ts, okR t.2 ∧ ∃ x ∈ ws, t.1 = SX.S x) → ∃ tl : List (List Nat × FR), ts.map trm1 = tl.map tmP ∧ tl.length = ts.length ∧ ∀ t ∈ tl, t.1 ∈ ws ∧ t.2.1 ≠ 0 ∧ 0 < t.2.2 ∧ t.2.1.natAbs ≤ 5 ∧ t.2.2.natAbs ≤ 3
  | [], _ => ⟨[], rfl, rfl, fun _ h => nomatch h⟩
  | (n, r) :: ts, h => by
    obtain ⟨tl, e1, e2, e3⟩ := trm_tl hw fun t ht => h t (List.mem_cons_of_mem _ ht)
    obtain ⟨hr, x, hx, e⟩ := h (n, r) List.mem_cons_self
    obtain ⟨t, u, rfl⟩ : ∃ t u, r = .tuple [.int t, .int u] := ratD_inv hr.1
    have e : n = SX.S x := e
    subst e
    have h1 : (decide (1 ≤ u) && decide (Int.gcd t u = 1)) = true := hr.1
    have h2 : decide (t ≠ 0) = true := hr.2.1
    have h3 : decide (t.natAbs ≤ 5 ∧ u.natAbs ≤ 3) = true := hr.2.2
    rw [Bool.and_eq_true, decide_eq_true_eq] at h1
    have h2 := of_decide_eq_true h2
    have h3 := of_decide_eq_true h3
    refine ⟨(x, (t, u)) :: tl, by rw [List.map_cons, List.map_cons, e1], by rw [List.length_cons, List.length_cons, e2], fun s hs => ?_⟩
    rcases List.mem_cons.mp hs with rfl | hs
    · exact ⟨hx, h2, by show 0 < u; omega, h3⟩
    · exact e3 s hs
section
variable {P : Program} {w : World} {K : PySem.W.Frag} {mg : Str → Option Value} {base : Heap} {fa : Nat → Addr} {fd : Nat → FuncData}
def spLaw (K : PySem.W.Frag) : Sp := fun vs H Q _ => ∃ (a : Addr) (ns : List Int), vs = [.ref a] ∧ SqL K H a (ns.map V.int) ∧ ns.length ≤ 63 ∧ ∀ H', Q (.bl true) H'
theorem ok_p_law (T : Txt K mg fa fd) : FnOk P w K mg base CX0 8 (fa 43) (fd 43) ["_law_script"] (spLaw K) := by
  refine T.F_p_law.ok sc_p_law (fun vs H Q E h => ?_) (fun cdv A outer s H vs Q E hr h => ?_)
  · obtain ⟨a, ns, rfl, _⟩ := h
    rfl
  · obtain ⟨s0, ns, rfl, hS, hlen, q⟩ := h
    refine ⟨_, (C8.pss_cut (ps_set (i := 1) sc_p_law.nd rfl (.inl rfl) (pe_call (ok_feed T) (hr.mono (by decide)) (by rfl) T.g_feed T.F_feed.kp T.b_feed .nil pass0 (pa_cons (pv 0) pa_nil)))
      (C8.pss_cut (ps_for PassesOwn.never rfl (pi_range1 (by rfl) T.m_range (pa_cons pe_int pa_nil)) (pg_name (i := 2) sc_p_law.nd rfl (.inl rfl)) (C8.pss_cut (ps_set (i := 3) sc_p_law.nd rfl (.inl rfl) (pe_call (ok_words T) (hr.mono (by decide)) (by rfl) T.g_words T.F_words.kp T.b_words .nil pass0 (pa_cons (pv 1) (pa_cons pe_int pa_nil))))
      (C8.pss_cut (ps_set (i := 4) sc_p_law.nd rfl (.inl rfl) (pe_tup (pa_cons (pe_call (ok_terms T) (hr.mono (by decide)) (by rfl) T.g_terms T.F_terms.kp T.b_terms .nil pass0 (pa_cons (pv 1) (pa_cons (pv 3) (pa_cons pe_int pa_nil)))) (pa_cons (pe_call (ok_part T) (hr.mono (by decide)) (by rfl) T.g_part T.F_part.kp T.b_part .nil pass0 (pa_cons (pv 1) (pa_cons pe_int pa_nil))) pa_nil))))
      (C8.pss_cut (ps_set (i := 5) sc_p_law.nd rfl (.inr rfl) (pe_call (ok_low T) (hr.mono (by decide)) (by rfl) T.g_low T.F_low.kp T.b_low .nil pass0 (pa_cons (pe_op op_add pe_int (pe_call (ok_draw T) (hr.mono (by decide)) (by rfl) T.g_draw T.F_draw.kp T.b_draw .nil pass0 (pa_cons (pv 1) (pa_cons pe_int pa_nil)))) (pa_cons (pe_op op_add pe_int (pe_call (ok_draw T) (hr.mono (by decide)) (by rfl) T.g_draw T.F_draw.kp T.b_draw .nil pass0 (pa_cons (pv 1) (pa_cons pe_int pa_nil)))) pa_nil))))
      (C8.pss_cut (ps_set (i := 6) sc_p_law.nd rfl (.inl rfl) (pe_tup (pa_cons (pe_callTy call_tuple_of (by rfl) T.m_tuple (by decide +kernel) (pa_cons (pe_lc (own := [("_law_name", 15), ("_law_rate_here", 16)]) (g := gTup K 2 (gCons (gName 15) (gCons (gName 16) gNil))) (tt := tYes) rfl sc_p_law.nd (pi_tup (pe_ix ix_tup (pv 4) pe_int (fun _ _ => rfl))) (blkOk_by (own := [("_law_name", 15), ("_law_rate_here", 16)]) (N := ["_law_script", "_law_feed_here", "_law_turn", "_law_words_here", "_law_tie", "_law_share", "_law_wide", "_law_due", "_law_text", "_law_again", "_law_values", "_law_handed", "_law_edge", "_law_found", "_law_beyond", "_law_name", "_law_rate_here"]) (sc := defScope s_p_law) (by decide +kernel)) (fun _ _ _ _ _ => pg_tup rfl (pgs_cons (pg_name (i := 15) sc_p_law.nd rfl (Or.inl rfl)) (pgs_cons (pg_name (i := 16) sc_p_law.nd rfl (Or.inl rfl)) pgs_nil))) (fun _ _ _ _ _ => pts_nil) (fun _ _ _ _ _ => (pe_tup (pa_cons (pv 15) (pa_cons (pe_call (ok_by T) (hr.mono (by decide)) (by rfl) T.g_by T.F_by.kp T.b_by .nil pass0 (pa_cons (pv 16) (pa_cons (pv 5) pa_nil))) pa_nil))))) pa_nil)) (pa_cons (pe_call (ok_by T) (hr.mono (by decide)) (by rfl) T.g_by T.F_by.kp T.b_by .nil pass0 (pa_cons (pe_ix ix_tup (pv 4) pe_int (fun _ _ => rfl)) (pa_cons (pv 5) pa_nil))) pa_nil))))
      (C8.pss_cut (ps_set (i := 7) sc_p_law.nd rfl (.inl rfl) (pe_call (ok_brief T) (hr.mono (by decide)) (by rfl) T.g_brief T.F_brief.kp T.b_brief .nil pass0 (pa_cons (pv 4) pa_nil)))
      (C8.pss_cut (ps_if (pt_not (pt_val (pe_call (ok_same T 6) (hr.mono (by decide)) (by rfl) T.g_same T.F_same.kp T.b_same .nil pass0 (pa_cons (pe_lst (pa_cons (pe_call (ok_p_reduced T) (hr.mono (by decide)) (by rfl) T.g_p_reduced T.F_p_reduced.kp T.b_p_reduced .nil pass0 (pa_cons (pv 4) pa_nil)) (pa_cons (pe_call (ok_p_reduced T) (hr.mono (by decide)) (by rfl) T.g_p_reduced T.F_p_reduced.kp T.b_p_reduced .nil pass0 (pa_cons (pv 6) pa_nil)) (pa_cons (pe_call (ok_p_reduced T) (hr.mono (by decide)) (by rfl) T.g_p_reduced T.F_p_reduced.kp T.b_p_reduced .nil pass0 (pa_cons (pv 7) pa_nil)) pa_nil)))) (pa_cons (pe_lst (pa_cons (pv 7) (pa_cons (pv 7) (pa_cons (pv 7) pa_nil)))) pa_nil))))) (pss_one (ps_ret pe_bl)) pss_nil)
      (C8.pss_cut (ps_set (i := 8) sc_p_law.nd rfl (.inl rfl) (pe_call (ok_tie_text T) (hr.mono (by decide)) (by rfl) T.g_tie_text T.F_tie_text.kp T.b_tie_text .nil pass0 (pa_cons (pv 4) pa_nil)))
      (C8.pss_cut (ps_if (pt_not (pt_val (pe_call (ok_same T 6) (hr.mono (by decide)) (by rfl) T.g_same T.F_same.kp T.b_same .nil pass0 (pa_cons (pe_lst (pa_cons (pe_call (ok_p_tie_text T) (hr.mono (by decide)) (by rfl) T.g_p_tie_text T.F_p_tie_text.kp T.b_p_tie_text .nil pass0 (pa_cons (pv 4) pa_nil)) (pa_cons (pe_call (ok_p_tie_text T) (hr.mono (by decide)) (by rfl) T.g_p_tie_text T.F_p_tie_text.kp T.b_p_tie_text .nil pass0 (pa_cons (pv 6) pa_nil)) pa_nil))) (pa_cons (pe_lst (pa_cons (pv 8) (pa_cons (pv 8) pa_nil))) pa_nil))))) (pss_one (ps_ret pe_bl)) pss_nil)
      (pss_one (ps_for PassesOwn.never rfl (pi_range1 (by rfl) T.m_range (pa_cons pe_int pa_nil)) (pg_name (i := 9) sc_p_law.nd rfl (.inl rfl)) (C8.pss_cut (ps_set (i := 10) sc_p_law.nd rfl (.inl rfl) (pe_call (ok_point T) (hr.mono (by decide)) (by rfl) T.g_point T.F_point.kp T.b_point .nil pass0 (pa_cons (pv 1) (pa_cons (pv 3) pa_nil))))
      (C8.pss_cut (ps_set (i := 11) sc_p_law.nd rfl (.inl rfl) (pe_callTy call_dictD (by rfl) T.m_dict (by decide +kernel) (pa_cons (pv 10) pa_nil)))
      (C8.pss_cut (ps_set (i := 12) sc_p_law.nd rfl (.inl rfl) (pe_tup (pa_cons (pe_ix ix_tup (pv 4) pe_int (fun _ _ => rfl)) (pa_cons (pe_call (ok_total T) (hr.mono (by decide)) (by rfl) T.g_total T.F_total.kp T.b_total .nil pass0 (pa_cons (pe_ix ix_tup (pv 4) pe_int (fun _ _ => rfl)) (pa_cons (pv 10) pa_nil))) pa_nil))))
      (C8.pss_cut (ps_set (i := 13) sc_p_law.nd rfl (.inl rfl) (pe_lst (pa_cons (pe_call (ok_p_is_kept T) (hr.mono (by decide)) (by rfl) T.g_p_is_kept T.F_p_is_kept.kp T.b_p_is_kept .nil pass0 (pa_cons (pv 4) (pa_cons (pv 11) pa_nil))) (pa_cons (pe_call (ok_p_is_kept T) (hr.mono (by decide)) (by rfl) T.g_p_is_kept T.F_p_is_kept.kp T.b_p_is_kept .nil pass0 (pa_cons (pv 6) (pa_cons (pv 11) pa_nil))) (pa_cons (pe_call (ok_p_is_kept T) (hr.mono (by decide)) (by rfl) T.g_p_is_kept T.F_p_is_kept.kp T.b_p_is_kept .nil pass0 (pa_cons (pv 12) (pa_cons (pv 11) pa_nil))) pa_nil)))))
      (C8.pss_cut (ps_if (PW.pt (pw_or (pt_not (pt_val (pe_call (ok_same T 6) (hr.mono (by decide)) (by rfl) T.g_same T.F_same.kp T.b_same .nil pass0 (pa_cons (pv 13) (pa_cons (pe_op op_cat (pe_op op_rep (pe_lst (pa_cons (pe_call (ok_keeps T) (hr.mono (by decide)) (by rfl) T.g_keeps T.F_keeps.kp T.b_keeps .nil pass0 (pa_cons (pv 4) (pa_cons (pv 10) pa_nil))) pa_nil)) pe_int) (pe_lst (pa_cons pe_bl pa_nil))) pa_nil))))) (pw_or1 (pt_cmpR (op_ne_dictR (Nat.lt_of_le_of_lt (Nat.le_add_right _ _) hr.units)) (pv 11) (pv 10) (nomark _))))) (pss_one (ps_ret pe_bl)) pss_nil)
      (C8.pss_cut (ps_set (i := 14) sc_p_law.nd rfl (.inl rfl) (pe_tup (pa_cons (pe_ix ix_tup (pv 4) pe_int (fun _ _ => rfl)) (pa_cons (pe_call (ok_plus T) (hr.mono (by decide)) (by rfl) T.g_plus T.F_plus.kp T.b_plus .nil pass0 (pa_cons (pe_ix ix_tup (pv 12) pe_int (fun _ _ => rfl)) (pa_cons (pe_tup (pa_cons (pe_un un_neg pe_int) (pa_cons pe_int pa_nil))) pa_nil))) pa_nil))))
      (pss_one (ps_if (pt_cmpR op_notBl (pe_call (ok_p_is_kept T) (hr.mono (by decide)) (by rfl) T.g_p_is_kept T.F_p_is_kept.kp T.b_p_is_kept .nil pass0 (pa_cons (pv 14) (pa_cons (pv 10) pa_nil))) pe_bl (nomark _)) (pss_one (ps_ret pe_bl)) pss_nil)))))))))))))))))))
      (pss_one (ps_ret (pe_call (ok_same T 6) (hr.mono (by decide)) (by rfl) T.g_same T.F_same.kp T.b_same .nil pass0 (pa_cons (pe_call (ok_p_tie_text T) (hr.mono (by decide)) (by rfl) T.g_p_tie_text T.F_p_tie_text.kp T.b_p_tie_text .nil pass0 (pa_cons (pe_tup (pa_cons (pe_tup (pa_cons (pe_tup (pa_cons pe_str (pa_cons (pe_tup (pa_cons pe_int (pa_cons pe_int pa_nil))) pa_nil))) (pa_cons (pe_tup (pa_cons pe_str (pa_cons (pe_tup (pa_cons (pe_un un_neg pe_int) (pa_cons pe_int pa_nil))) pa_nil))) pa_nil))) (pa_cons (pe_tup (pa_cons pe_int (pa_cons pe_int pa_nil))) pa_nil))) pa_nil)) (pa_cons pe_str pa_nil))))))), ?_⟩
    refine ⟨fun σ H1 => ∃ a c, σ = [some (.ref s0), some (.ref a), none, none, none, none, none, none, none, none, none, none, none, none, none, none, none] ∧ FeedOk H1 a c, ⟨_, rfl, s0, ns, rfl, hS, hlen, fun a c H1 _ _ s1 hF => ⟨a, c, rfl, hF⟩⟩, fun σ H1 hM => ?_⟩
    obtain ⟨a, c, rfl, hF⟩ := hM
    refine ⟨fun σ H2 => ∃ y2 y3 y4 y5 y6 y7 y8 y9 y10 y11 y12 y13 y14 y15 y16, σ = [some (.ref s0), some (.ref a), y2, y3, y4, y5, y6, y7, y8, y9, y10, y11, y12, y13, y14, y15, y16], ?_, fun σ H2 hM => ?_⟩
    · refine ⟨6, rfl, by decide, by decide, for_range (n := 6) (fun i σ H2 => FeedOk H2 a c ∧ ∃ y2 y3 y4 y5 y6 y7 y8 y9 y10 y11 y12 y13 y14 y15 y16, σ = [some (.ref s0), some (.ref a), y2, y3, y4, y5, y6, y7, y8, y9, y10, y11, y12, y13, y14, y15, y16]) ⟨hF, _, _, _, _, _, _, _, _, _, _, _, _, _, _, _, rfl⟩ (fun i σ H2 hi hp => ?_) (fun σ H2 hp => hp.2)⟩
      obtain ⟨hF2, y2, y3, y4, y5, y6, y7, y8, y9, y10, y11, y12, y13, y14, y15, y16, rfl⟩ := hp
      -- words
      refine ⟨fun σ H3 => FeedOk H3 a c ∧ ∃ (p : Addr) (ws : List (List Nat)) (y2 : Option V), p ≠ a ∧ H3 p = some (.lst (ws.map vS)) ∧ ws.length = 3 ∧ ws.Nodup ∧ (∀ x ∈ ws, LW x) ∧ σ = [some (.ref s0), some (.ref a), y2, some (.ref p), y4, y5, y6, y7, y8, y9, y10, y11, y12, y13, y14, y15, y16], ?_, fun σ H3 hM => ?_⟩
      · exact ⟨_, rfl, a, c, 3, rfl, hF2, by decide, fun p ws H3 hF3 _ npa hp hl hn hw => ⟨hF3, p, ws, _, npa, hp, hl, hn, hw, rfl⟩⟩
      clear hF2 H2 y2 y3
      obtain ⟨hF3, p, ws, y2, npa, hp, hl, hn, hw, rfl⟩ := hM
      -- tie
      refine ⟨fun σ H4 => FeedOk H4 a c ∧ H4 p = some (.lst (ws.map vS)) ∧ ∃ v tl b, Dt a H4 v (tieP tl b) ∧ (tl.length = 1 ∨ tl.length = 2) ∧ (∀ t ∈ tl, t.1 ∈ ws ∧ t.2.1 ≠ 0 ∧ 0 < t.2.2 ∧ t.2.1.natAbs ≤ 5 ∧ t.2.2.natAbs ≤ 3) ∧ Bf 9 b ∧ σ = [some (.ref s0), some (.ref a), y2, some (.ref p), some v, y5, y6, y7, y8, y9, y10, y11, y12, y13, y14, y15, y16], ?_, fun σ H4 hM => ?_⟩
      · refine ⟨_, rfl, _, rfl, a, c, p, ws, _, rfl, hF3, npa, hp, (fun z => by rw [z] at hl; cases hl), by omega, hn, (fun x hx => by have := name_lw (hw x hx) (k := 0) (by decide); rw [List.replicate_zero, List.append_nil] at this; exact this), fun v ts H5 hF5 b5 hv hok => ?_⟩
        refine ⟨_, rfl, a, c, _, rfl, hF5, by decide, by decide, fun v2 t u H6 hF6 b6 hR tb ub => ⟨two_line, fun e ne => ?_⟩⟩
        obtain ⟨tl, e1, e2, e3⟩ := trm_tl hw hok.2.2
        obtain ⟨se, de⟩ := dnewT (z := a) ne (.cons (hv.but hF5 b6) (.cons hR.1 .nil))
        have hu : 0 < u := by
          have h1 : (decide (1 ≤ u) && decide (Int.gcd t u = 1)) = true := hR.2
          rw [Bool.and_eq_true, decide_eq_true_eq] at h1
          omega
        refine ⟨hF6.same se, se _ _ (b6 _ _ npa (b5 _ _ npa hp)), _, tl, (t, u), ?_, by rw [e2]; exact hok.1, e3, ⟨tb, hu, Nat.le_trans ub (by decide)⟩, rfl⟩
        show Dt a _ _ (.tuple [.tuple (tl.map tmP), frP (t, u)])
        rw [← e1]
        exact de
      clear hF3 hp H3
      obtain ⟨hF4, hp4, v, tl, b, hv, htl, htb, hb, rfl⟩ := hM
      -- share
      refine ⟨fun σ H5 => FeedOk H5 a c ∧ H5 p = some (.lst (ws.map vS)) ∧ Dt a H5 v (tieP tl b) ∧ ∃ (ps : Addr) (sh : FR), H5 ps = some (.tup [.int sh.1, .int sh.2]) ∧ Bf 12 sh ∧ 0 < sh.1 ∧ σ = [some (.ref s0), some (.ref a), y2, some (.ref p), some v, some (.ref ps), y6, y7, y8, y9, y10, y11, y12, y13, y14, y15, y16], ?_, fun σ H5 hM => ?_⟩
      · refine ⟨_, rfl, a, c, _, rfl, hF4, mid_of (by decide) (by decide), fun r H5 r0 r1 hF5 b5 => ⟨_, _, rfl, rfl, _, rfl, a, c, _, rfl, hF5, mid_of (by decide) (by decide), fun r2 H6 r3 r4 hF6 b6 => ⟨_, _, rfl, rfl, _, _, rfl, by omega, small_log2 (by omega), fun ps nps => ?_⟩⟩⟩
        have bb := b5.trans b6
        have s7 := same_upd (o := .tup [.int (lowT (1 + r) (1 + r2)), .int (lowD (1 + r) (1 + r2))]) nps
        have bf := Bf.low (N := 12) (u := 1 + r) (v := 1 + r2) (by omega) (by omega) (by omega)
        refine ⟨hF6.same s7, s7 _ _ (bb _ _ npa hp4), (hv.but hF4 bb).same s7, ps, lowF (1 + r) (1 + r2), upd_same, bf, ?_, rfl⟩
        have e := lowF_eq (u := 1 + r) (v := 1 + r2) (by omega)
        have k := bf.2.1
        have := Int.mul_pos (show (0 : Int) < 1 + r by omega) k
        rw [← e] at this
        rcases Int.lt_trichotomy (lowF (1 + r) (1 + r2)).1 0 with h | h | h
        · have := Int.mul_neg_of_neg_of_pos h (show (0 : Int) < 1 + r2 by omega)
          omega
        · rw [h, Int.zero_mul] at this
          omega
        · exact h
      clear hF4 hp4 hv H4
      obtain ⟨hF5, hp5, hv5, ps, sh, hps, bsh, sh1, rfl⟩ := hM
      have sh2 := bsh.2.1
      have hok : TlOk tl := ⟨htl, fun t ht => by
        obtain ⟨h1, h2, h3, h4, h5⟩ := htb t ht
        exact ⟨h2, ⟨by omega, h3, by omega⟩, by have := (hw _ h1).2.1; omega⟩⟩
      have hb6 : BdF b := hb.bd (by decide)
      have b9 : ∀ t ∈ tl, Bf 9 t.2 := fun t ht => by
        obtain ⟨h1, h2, h3, h4, h5⟩ := htb t ht
        exact ⟨by omega, h3, by omega⟩
      obtain ⟨rw1, rw2⟩ := red_wide hok.rs sh1 sh2 hb.2.1
      have hokw : TlOk (wideL sh tl) := by
        refine ⟨by unfold wideL; rw [List.length_map]; exact htl, fun t ht => ?_⟩
        have hrs := (red_scaled hok.rs sh1 sh2).1
        obtain ⟨u, hu, rfl⟩ := List.mem_map.mp ht
        refine ⟨(hrs.2 _ (List.mem_map_of_mem (f := fun f : FR => lowF (f.1 * sh.1) (f.2 * sh.2)) (List.mem_map_of_mem (f := fun t : List Nat × FR => t.2) hu))).2, ((b9 u hu).mul bsh).bd (by decide), (hok.2 u hu).2.2⟩
      have hbw : BdF (mulL b sh) := (hb.mul bsh).bd (by decide)
      -- wide
      refine ⟨fun σ H6 => Same H5 H6 ∧ ∃ vw, Dt a H6 vw (tieP (wideL sh tl) (mulL b sh)) ∧ σ = [some (.ref s0), some (.ref a), y2, some (.ref p), some v, some (.ref ps), some vw, y7, y8, y9, y10, y11, y12, y13, y14, y15, y16], ?_, fun σ H6 hM => ?_⟩
      · obtain ⟨P, t, y, xs, rfl, hP, ht, hts, hy⟩ := tie_inv hv5
        obtain ⟨pb, rfl, hpb⟩ := dt_fr hy
        have xl : xs.length = tl.length := by
          have := hts.len
          rw [List.length_map] at this
          exact this
        have wl : (wideL sh tl).length = tl.length := List.length_map ..
        refine ⟨_, rfl, P, _, _, _, rfl, rfl, SqT.of hP, rfl, t, rfl, ⟨_, SqT.of ht⟩, fun D nD => ?_⟩
        refine lc_tup (K := K) (a := t) (xs := xs) (fun i G => Same H5 G ∧ ∃ vs, G D = some (.lst vs) ∧ DtAll a G vs (((wideL sh tl).take i).map tmP)) ⟨same_upd nD, [], upd_same, .nil⟩ (fun i G _ hq => SqT.of (hq.1 _ _ ht)) (fun i x G hx hq => ?_) (fun G hq => ?_)
        · obtain ⟨sG, vs, hD, hvs⟩ := hq
          obtain ⟨d, hd, hdt⟩ := DtAll.at i hts hx
          rw [List.getElem?_map] at hd
          obtain ⟨⟨n, f⟩, he, rfl⟩ := Option.map_eq_some_iff.mp hd
          have bf : Bf 9 f := b9 (n, f) (List.mem_of_getElem? he)
          change Dt _ _ _ (.tuple [.str (SX.S n), frP f]) at hdt
          have vl : vs.length < sizeLine := by
            have e1 := hvs.len
            rw [List.length_map, List.length_take] at e1
            exact small1000 (by omega)
          match x, hdt with
          | _, .tup (a := pp) hpp (.cons (.str _ hn) (.cons hr .nil)) =>
            obtain ⟨pr, rfl, hpr⟩ := dt_fr hr
            refine ⟨pp, _, rfl, .inl (.inl (sG _ _ hpp)), rfl, _, _, rfl, _, _, rfl, rfl, rfl, _, rfl, _, rfl, _, rfl, pr, ps, f, sh, rfl, SqT.of (sG _ _ hpr), SqT.of (sG _ _ hps), bf.sm (by decide), bsh.sm (by decide), _, _, rfl, ?_, ?_, fun e ne => ?_⟩
            · exact Int.mul_ne_zero (by have := bf.2.1; omega) (by omega)
            · show (f.2 * sh.2).natAbs.log2 < 4096
              rw [Int.natAbs_mul]
              exact log2_mono (Nat.mul_le_mul bf.2.2 bsh.2.2) (by decide +kernel)
            obtain ⟨se, de⟩ := dnewT (z := a) ne (.cons (.int (mulL f sh).1 (low_mul_bd (bf.sm (by decide)) (bsh.sm (by decide)) (Int.mul_ne_zero (by have := bf.2.1; omega) (by omega))).1) (.cons (.int (mulL f sh).2 (low_mul_bd (bf.sm (by decide)) (bsh.sm (by decide)) (Int.mul_ne_zero (by have := bf.2.1; omega) (by omega))).2) .nil))
            refine ⟨two_line, fun e2 ne2 => ?_⟩
            obtain ⟨se2, de2⟩ := dnewT (z := a) ne2 (.cons (.str (SX.S n) hn) (.cons de .nil))
            have hD2 := (se.trans se2) _ _ hD
            refine ⟨vs, hD2, vl, fun b o e => (by rw [upd_ne (ne_of_none e nD)]; exact (se.trans se2) _ _ (sG _ _ e)), vs ++ [.ref e2], upd_same, ?_⟩
            have er : (wideL sh tl)[i]? = some (n, mulL f sh) := by
              unfold wideL
              rw [List.getElem?_map, he]
              rfl
            rw [List.take_add_one, er, List.map_append]
            refine DtAll.snoc (hvs.tups ((TT.of (se.trans se2)).trans (TT.upd hD2)) _ _ (noLs_tm _)) ?_
            exact Dt.tups (TT.upd hD2) _ _ rfl de2
        · obtain ⟨sG, vs, hD, hvs⟩ := hq
          rw [xl, ← wl, List.take_length] at hvs
          refine ⟨D, vs, rfl, .inl ⟨SqL.of hD, fun l nl => ?_⟩⟩
          obtain ⟨sl, dl⟩ := dnewT (z := a) nl hvs
          have s5 := sG.trans sl
          refine ⟨_, rfl, P, _, _, _, rfl, rfl, SqT.of (s5 _ _ hP), rfl, _, rfl, pb, ps, b, sh, rfl, SqT.of (s5 _ _ hpb), SqT.of (s5 _ _ hps), hb.sm (by decide), bsh.sm (by decide), _, _, rfl, ?_, ?_, fun e ne => ?_⟩
          · exact Int.mul_ne_zero (by have := hb.2.1; omega) (by omega)
          · show (b.2 * sh.2).natAbs.log2 < 4096
            rw [Int.natAbs_mul]
            exact log2_mono (Nat.mul_le_mul hb.2.2 bsh.2.2) (by decide +kernel)
          obtain ⟨se, de⟩ := dnewT (z := a) ne (.cons (.int (mulL b sh).1 (low_mul_bd (hb.sm (by decide)) (bsh.sm (by decide)) (Int.mul_ne_zero (by have := hb.2.1; omega) (by omega))).1) (.cons (.int (mulL b sh).2 (low_mul_bd (hb.sm (by decide)) (bsh.sm (by decide)) (Int.mul_ne_zero (by have := hb.2.1; omega) (by omega))).2) .nil))
          refine ⟨two_line, fun o no => ?_⟩
          obtain ⟨so, d0⟩ := dnewT (z := a) no (.cons (dl.same se) (.cons de .nil))
          exact ⟨s5.trans (se.trans so), _, d0, rfl⟩
      obtain ⟨s6, vw, hvw, rfl⟩ := hM
      have hF6 := hF5.same s6
      have hp6 := s6 _ _ hp5
      have hv6 := hv5.same s6
      clear hF5 hp5 hv5 hps s6 H5
      -- due
      refine ⟨fun σ H7 => Same H6 H7 ∧ ∃ vd, Dt a H7 vd (redP tl b) ∧ σ = [some (.ref s0), some (.ref a), y2, some (.ref p), some v, some (.ref ps), some vw, some vd, y8, y9, y10, y11, y12, y13, y14, y15, y16], ?_, fun σ H7 hM => ?_⟩
      · exact ⟨_, rfl, v, tl, b, a, rfl, hv6, hok, hb6, fun vd H7 s7 hvd => ⟨s7, vd, hvd, rfl⟩⟩
      obtain ⟨s7, vd, hvd, rfl⟩ := hM
      have hF7 := hF6.same s7
      have hp7 := s7 _ _ hp6
      have hv7 := hv6.same s7
      have hvw7 := hvw.same s7
      clear hF6 hp6 hv6 hvw s7 H6
      have htl2 : tl.length ≤ 2 := by omega
      obtain ⟨bs45, sc1⟩ := scl_small hok.rs htl2 fun t ht => ⟨(htb t ht).2.2.1, (htb t ht).2.2.2⟩
      obtain ⟨rr1, rr2⟩ := red_wide hok.rs sc1 bs45.2.1 hb.2.1
      have hokr : TlOk (redL tl) := by
        refine ⟨by unfold redL; rw [List.length_map]; exact htl, fun t ht => ?_⟩
        have hrs := (red_scaled hok.rs sc1 bs45.2.1).1
        obtain ⟨u, hu, rfl⟩ := List.mem_map.mp ht
        exact ⟨(hrs.2 _ (List.mem_map_of_mem (f := fun f : FR => lowF (f.1 * (scl (rts tl)).1) (f.2 * (scl (rts tl)).2)) (List.mem_map_of_mem (f := fun t : List Nat × FR => t.2) hu))).2, ((b9 u hu).mul bs45).bd (by decide), (hok.2 u hu).2.2⟩
      have hbr : BdF (redF (scl (rts tl)) b) := (hb.mul bs45).bd (by decide)
      have ew : redP (wideL sh tl) (mulL b sh) = redP tl b := by
        show tieP (redL (wideL sh tl)) _ = tieP (redL tl) _
        rw [rw1, rw2]
      have ed : redP (redL tl) (redF (scl (rts tl)) b) = redP tl b := by
        show tieP (redL (wideL (scl (rts tl)) tl)) (redF (scl (rts (wideL (scl (rts tl)) tl))) (mulL b (scl (rts tl)))) = tieP (redL tl) _
        rw [rr1, rr2]
      -- reduced ties
      refine ⟨fun σ H8 => Same H7 H8 ∧ σ = [some (.ref s0), some (.ref a), y2, some (.ref p), some v, some (.ref ps), some vw, some vd, y8, y9, y10, y11, y12, y13, y14, y15, y16], ?_, fun σ H8 hM => ?_⟩
      · refine ⟨_, rfl, v, tl, b, a, rfl, hv7, hok, hb6, fun v1 K1 k1 d1 => ?_⟩
        refine ⟨_, rfl, vw, _, _, a, rfl, hvw7.same k1, hokw, hbw, fun v2 K2 k2 d2 => ?_⟩
        rw [ew] at d2
        refine ⟨_, rfl, vd, redL tl, _, a, rfl, hvd.same (k1.trans k2), hokr, hbr, fun v3 K3 k3 d3 => ?_⟩
        rw [ed] at d3
        refine ⟨small_line (by show 3 ≤ 1000; decide), fun q1 m1 => ⟨_, rfl, _, rfl, _, rfl, small_line (by show 3 ≤ 1000; decide), fun q2 m2 => ?_⟩⟩
        have t1 := same_upd (o := .lst [v1, v2, v3]) m1
        have t2 := same_upd (o := .lst [vd, vd, vd]) m2
        have tt := t1.trans t2
        have rl : (redL tl).length ≤ 1000 := by unfold redL; rw [List.length_map]; omega
        have dd := hvd.same (k1.trans (k2.trans (k3.trans tt)))
        refine ⟨.ref q1, .ref q2, rfl, ?_, fun H9 s9 => ⟨_, rfl, iteF ⟨k1.trans (k2.trans (k3.trans (tt.trans s9))), rfl⟩⟩⟩
        refine .inr ⟨q1, q2, _, _, rfl, rfl, .inl ⟨t2 _ _ upd_same, upd_same⟩, rfl, (by show 3 ≤ 1000; decide), fun i y z g1 g2 => ?_⟩
        match i, g1, g2 with
        | 0, g1, g2 => cases g1; cases g2; exact eqd_tie rl (d1.same (k2.trans (k3.trans tt))) dd
        | 1, g1, g2 => cases g1; cases g2; exact eqd_tie rl (d2.same (k3.trans tt)) dd
        | 2, g1, g2 => cases g1; cases g2; exact eqd_tie rl (d3.same tt) dd
      obtain ⟨s8, rfl⟩ := hM
      have hF8 := hF7.same s8
      have hp8 := s8 _ _ hp7
      have hv8 := hv7.same s8
      have hvw8 := hvw7.same s8
      clear hF7 hp7 hv7 hvw7 s8 hvd H7
      -- text
      have hne : ∀ t ∈ tl, t.1 ≠ [] := fun t ht => (hw _ (htb t ht).1).1
      have hnew : ∀ t ∈ wideL sh tl, t.1 ≠ [] := fun t ht => by
        obtain ⟨u, hu, rfl⟩ := List.mem_map.mp ht
        exact hne u hu
      have et : ttL (wideL sh tl) (mulL b sh) = ttL tl b := by
        unfold ttL
        rw [rw1, rw2]
      refine ⟨fun σ H9 => Same H8 H9 ∧ σ = [some (.ref s0), some (.ref a), y2, some (.ref p), some v, some (.ref ps), some vw, some vd, some (vS (ttL tl b)), y9, y10, y11, y12, y13, y14, y15, y16], ?_, fun σ H9 hM => ?_⟩
      · exact ⟨_, rfl, v, tl, b, a, rfl, hv8, hok, hb6, hne, fun H9 s9 => ⟨s9, rfl⟩⟩
      obtain ⟨s9, rfl⟩ := hM
      have hF9 := hF8.same s9
      have hp9 := s9 _ _ hp8
      have hv9 := hv8.same s9
      have hvw9 := hvw8.same s9
      clear hF8 hp8 hv8 hvw8 s9 H8
      refine ⟨fun σ HA => Same H9 HA ∧ σ = [some (.ref s0), some (.ref a), y2, some (.ref p), some v, some (.ref ps), some vw, some vd, some (vS (ttL tl b)), y9, y10, y11, y12, y13, y14, y15, y16], ?_, fun σ HA hM => ?_⟩
      · refine ⟨_, rfl, v, tl, b, a, rfl, hv9, hok, hb6, hne, fun K1 k1 => ⟨_, rfl, vw, _, _, a, rfl, hvw9.same k1, hokw, hbw, hnew, fun K2 k2 => ?_⟩⟩
        rw [et]
        refine ⟨two_line, fun q1 m1 => ⟨_, rfl, _, rfl, two_line, fun q2 m2 => ?_⟩⟩
        have t1 := same_upd (o := .lst ([SX.S (ttL tl b), SX.S (ttL tl b)].map V.str)) m1
        have t2 := same_upd (o := .lst ([SX.S (ttL tl b), SX.S (ttL tl b)].map V.str)) m2
        exact ⟨.ref q1, .ref q2, rfl, (eqd_strs (t2 _ _ upd_same) upd_same (by show 2 ≤ 1000; decide)).le (by decide), fun H' s' => ⟨_, rfl, iteF ⟨k1.trans (k2.trans (t1.trans (t2.trans s'))), rfl⟩⟩⟩
      obtain ⟨sA, rfl⟩ := hM
      have hFA := hF9.same sA
      have hpA := sA _ _ hp9
      have hvA := hv9.same sA
      have hvwA := hvw9.same sA
      clear hF9 hp9 hv9 hvw9 sA H9
      -- values
      refine ⟨_, rfl, by decide, by decide, for_range (n := 3) (fun i σ G => FeedOk G a c ∧ G p = some (.lst (ws.map vS)) ∧ Dt a G v (tieP tl b) ∧ Dt a G vw (tieP (wideL sh tl) (mulL b sh)) ∧ ∃ y9 y10 y11 y12 y13 y14 y15 y16, σ = [some (.ref s0), some (.ref a), y2, some (.ref p), some v, some (.ref ps), some vw, some vd, some (vS (ttL tl b)), y9, y10, y11, y12, y13, y14, y15, y16]) ⟨hFA, hpA, hvA, hvwA, _, _, _, _, _, _, _, _, rfl⟩ (fun i σ G hi hq => ?_) (fun σ G hq => ?_)⟩
      · clear hFA hpA hvA hvwA HA y9 y10 y11 y12 y13 y14 y15 y16
        obtain ⟨hFG, hpG, hvG, hvwG, y9, y10, y11, y12, y13, y14, y15, y16, rfl⟩ := hq
        refine ⟨fun σ H1 => FeedOk H1 a c ∧ H1 p = some (.lst (ws.map vS)) ∧ Dt a H1 v (tieP tl b) ∧ Dt a H1 vw (tieP (wideL sh tl) (mulL b sh)) ∧ ∃ d val y9, PointD H1 d val ws ∧ σ = [some (.ref s0), some (.ref a), y2, some (.ref p), some v, some (.ref ps), some vw, some vd, some (vS (ttL tl b)), y9, some (.ref d), y11, y12, y13, y14, y15, y16], ?_, fun σ H1 hM => ?_⟩
        · exact ⟨_, rfl, _, rfl, a, c, p, ws, rfl, hFG, npa, hpG, hn, by omega, fun d val H1 hF1 b1 hpt => ⟨hF1, b1 _ _ npa hpG, hvG.but hFG b1, hvwG.but hFG b1, d, val, _, hpt, rfl⟩⟩
        clear hFG hpG hvG hvwG G y9 y10
        obtain ⟨hF1, hp1, hv1, hvw1, d, val, y9, hpt1, rfl⟩ := hM
        have sub1 : ∀ x ∈ tl.map (·.1), x ∈ ws := fun x hx => by
          obtain ⟨t, ht, rfl⟩ := List.mem_map.mp hx
          exact (htb t ht).1
        have sub2 : ∀ x ∈ (wideL sh tl).map (·.1), x ∈ ws := fun x hx => by
          obtain ⟨t, ht, rfl⟩ := List.mem_map.mp hx
          obtain ⟨u, hu, rfl⟩ := List.mem_map.mp ht
          exact (htb u hu).1
        have vpos : ∀ t ∈ tl, 0 < t.2.2 ∧ 0 < (val t.1).2 := fun t ht => by
          obtain ⟨kvs, _, _, k⟩ := hpt1
          exact ⟨(htb t ht).2.2.1, (k t.1 (htb t ht).1).1.2.1⟩
        -- handed
        refine ⟨fun σ H2 => Same H1 H2 ∧ ∃ dh, (∃ kvs, H2 d = some (.dK kvs) ∧ H2 dh = some (.dK kvs)) ∧ σ = [some (.ref s0), some (.ref a), y2, some (.ref p), some v, some (.ref ps), some vw, some vd, some (vS (ttL tl b)), y9, some (.ref d), some (.ref dh), y12, y13, y14, y15, y16], ?_, fun σ H2 hM => ?_⟩
        · obtain ⟨kvs, hk, _, _⟩ := hpt1
          exact ⟨_, rfl, d, kvs, rfl, .inl hk, fun dh ndh => ⟨same_upd ndh, dh, ⟨kvs, same_upd ndh _ _ hk, upd_same⟩, rfl⟩⟩
        obtain ⟨s2, dh, ⟨kvs, hkd, hkh⟩, rfl⟩ := hM
        have hF2 := hF1.same s2
        have hp2 := s2 _ _ hp1
        have hv2 := hv1.same s2
        have hvw2 := hvw1.same s2
        have hpt2 := hpt1.same s2
        have hph2 : PointD H2 dh val ws := by
          obtain ⟨kvs', e, g, k⟩ := hpt2
          have := e.symm.trans hkd
          cases this
          exact ⟨kvs, hkh, g, k⟩
        clear hF1 hp1 hv1 hvw1 hpt1 s2 H1
        -- edge
        refine ⟨fun σ H3 => Same H2 H3 ∧ ∃ ve, Dt a H3 ve (tieP tl (totF val (0, 1) tl)) ∧ Bf 1000000000000000 (totF val (0, 1) tl) ∧ σ = [some (.ref s0), some (.ref a), y2, some (.ref p), some v, some (.ref ps), some vw, some vd, some (vS (ttL tl b)), y9, some (.ref d), some (.ref dh), some ve, y13, y14, y15, y16], ?_, fun σ H3 hM => ?_⟩
        · obtain ⟨P, t, y, xs, rfl, hP, ht, hts, hy⟩ := tie_inv hv2
          refine ⟨_, rfl, P, _, _, _, rfl, rfl, SqT.of hP, rfl, _, rfl, P, _, _, _, rfl, rfl, SqT.of hP, rfl, _, rfl, .ref t, tl, d, a, val, rfl, .tup ht hts, hok, hpt2.val sub1, fun pt H3 s3 hfr hbt => ⟨two_line, fun e ne => ?_⟩⟩
          obtain ⟨se, de⟩ := dnewT (z := a) ne (.cons (Dt.tup (s3 _ _ ht) (hts.same s3)) (.cons (Dt.tup hfr (.cons (.int _ (log64 (Nat.le_trans hbt.1 (by decide)))) (.cons (.int _ (log64 (Nat.le_trans hbt.2.2 (by decide)))) .nil))) .nil))
          exact ⟨s3.trans se, _, de, hbt, rfl⟩
        obtain ⟨s3, ve, hve, btot, rfl⟩ := hM
        have hF3 := hF2.same s3
        have hp3 := s3 _ _ hp2
        have hv3 := hv2.same s3
        have hvw3 := hvw2.same s3
        have hpt3 := hpt2.same s3
        have hph3 := hph2.same s3
        have hkd3 := s3 _ _ hkd
        have hkh3 := s3 _ _ hkh
        clear hF2 hp2 hv2 hvw2 hpt2 hph2 hkd hkh s3 H2
        have hbB : BfB b := hb.mono (by decide)
        have hbwB : BfB (mulL b sh) := (hb.mul bsh).mono (by decide)
        -- found
        refine ⟨fun σ H4 => Same H3 H4 ∧ ∃ q1, H4 q1 = some (.lst ([!ltF b (totF val (0, 1) tl), !ltF b (totF val (0, 1) tl), true].map V.bl)) ∧ σ = [some (.ref s0), some (.ref a), y2, some (.ref p), some v, some (.ref ps), some vw, some vd, some (vS (ttL tl b)), y9, some (.ref d), some (.ref dh), some ve, some (.ref q1), y14, y15, y16], ?_, fun σ H4 hM => ?_⟩
        · refine ⟨_, rfl, _, rfl, v, tl, b, dh, a, val, rfl, hv3, hok, hbB, hph3.val sub1, fun K1 k1 => ?_⟩
          refine ⟨_, rfl, _, rfl, vw, _, _, dh, a, val, rfl, hvw3.same k1, hokw, hbwB, (hph3.same k1).val sub2, fun K2 k2 => ?_⟩
          rw [kept_wide sh1 sh2 hb.2.1 vpos]
          refine ⟨_, rfl, _, rfl, ve, tl, _, dh, a, val, rfl, hve.same (k1.trans k2), hok, btot.mono (by decide), (hph3.same (k1.trans k2)).val sub1, fun K3 k3 => ?_⟩
          rw [lt_self]
          exact ⟨small_line (by show 3 ≤ 1000; decide), fun q1 m1 => ⟨k1.trans (k2.trans (k3.trans (same_upd m1))), q1, upd_same, rfl⟩⟩
        obtain ⟨s4, q1, hq1, rfl⟩ := hM
        have hF4 := hF3.same s4
        have hp4 := s4 _ _ hp3
        have hv4 := hv3.same s4
        have hvw4 := hvw3.same s4
        have hpt4 := hpt3.same s4
        have hve4 := hve.same s4
        have hkd4 := s4 _ _ hkd3
        have hkh4 := s4 _ _ hkh3
        clear hF3 hp3 hv3 hvw3 hpt3 hph3 hkd3 hkh3 hve s4 H3
        -- the same
        refine ⟨fun σ H5 => Same H4 H5 ∧ σ = [some (.ref s0), some (.ref a), y2, some (.ref p), some v, some (.ref ps), some vw, some vd, some (vS (ttL tl b)), y9, some (.ref d), some (.ref dh), some ve, some (.ref q1), y14, y15, y16], ?_, fun σ H5 hM => ?_⟩
        · refine ⟨_, rfl, _, rfl, _, rfl, v, tl, b, d, a, val, rfl, hv4, hok, hbB, hpt4.val sub1, fun K1 k1 => ?_⟩
          generalize (!ltF b (totF val (0, 1) tl)) = B at hq1 ⊢
          have oks : ∀ e ∈ kvs, valV kvs e.1 = some e.2 ∧ okV e.2 := by
            obtain ⟨kvs', e, g, k⟩ := hpt4
            have := e.symm.trans hkd4
            cases this
            exact g
          refine ⟨small_line (by show 1 ≤ 1000; decide), fun r1 m1 => ⟨r1, 2, _, rfl, rfl, upd_same, by decide, by decide, small_line (by show 1 * 2 ≤ 1000; decide), fun r2 m2 => ⟨small_line (by show 1 ≤ 1000; decide), fun r3 m3 => ?_⟩⟩⟩
          have t1 := same_upd (o := .lst [V.bl B]) m1
          have t2 := same_upd (o := .lst [V.bl B, .bl B]) m2
          have t3 := same_upd (o := .lst [V.bl true]) m3
          refine ⟨r2, r3, [V.bl B, .bl B], [V.bl true], rfl, rfl, t3 _ _ upd_same, upd_same, small_line (by show 3 ≤ 1000; decide), fun r4 m4 => ?_⟩
          have t4 := same_upd (o := .lst ([B, B, true].map V.bl)) m4
          have tt := k1.trans (t1.trans (t2.trans (t3.trans t4)))
          refine ⟨.ref q1, .ref r4, rfl, eqd_bls (bs := [B, B, true]) (tt _ _ hq1) upd_same (by show 3 ≤ 1000; decide), fun H' s' => ⟨_, rfl, iteF ?_⟩⟩
          have sz := tt.trans s'
          exact ⟨_, rfl, _, rfl, dh, d, kvs, rfl, rfl, sz _ _ hkh4, sz _ _ hkd4, oks, _, rfl, iteF ⟨sz, rfl⟩⟩
        obtain ⟨s5, rfl⟩ := hM
        have hF5 := hF4.same s5
        have hp5 := s5 _ _ hp4
        have hv5 := hv4.same s5
        have hvw5 := hvw4.same s5
        have hpt5 := hpt4.same s5
        have hve5 := hve4.same s5
        clear hF4 hp4 hv4 hvw4 hpt4 hve4 s5 hq1 hkd4 hkh4 H4
        -- beyond
        refine ⟨fun σ H6 => Same H5 H6 ∧ ∃ vb, Dt a H6 vb (tieP tl (addL (totF val (0, 1) tl) (-1, 7))) ∧ σ = [some (.ref s0), some (.ref a), y2, some (.ref p), some v, some (.ref ps), some vw, some vd, some (vS (ttL tl b)), y9, some (.ref d), some (.ref dh), some ve, some (.ref q1), some vb, y15, y16], ?_, fun σ H6 hM => ?_⟩
        · obtain ⟨P, t, y, xs, rfl, hP, ht, hts, hy⟩ := tie_inv hv5
          obtain ⟨Pe, te, ye, xe, rfl, hPe, hte, htse, hye⟩ := tie_inv hve5
          obtain ⟨pt, rfl, hpt⟩ := dt_fr hye
          refine ⟨_, rfl, P, _, _, _, rfl, rfl, SqT.of hP, rfl, _, rfl, Pe, _, _, _, rfl, rfl, SqT.of hPe, rfl, _, rfl, two_line, fun e ne => ?_⟩
          have se := same_upd (o := .tup [V.int (-1), .int 7]) ne
          refine ⟨pt, e, totF val (0, 1) tl, (-1, 7), rfl, SqT.of (se _ _ hpt), SqT.of upd_same, btot.sm (by decide), by unfold SmF Sm; decide, _, _, rfl, ?_, ?_, fun e2 ne2 => ?_⟩
          · exact Int.mul_ne_zero (by have := btot.2.1; omega) (by decide)
          · show ((totF val (0, 1) tl).2 * 7).natAbs.log2 < 4096
            rw [Int.natAbs_mul]
            exact log2_mono (Nat.mul_le_mul btot.2.2 (Nat.le_refl 7)) (by decide +kernel)
          have b7 := btot.add (show Bf 7 ((-1, 7) : FR) from ⟨by decide, by decide, by decide⟩)
          obtain ⟨se2, de2⟩ := dnewT (z := a) ne2 (.cons (.int (addL (totF val (0, 1) tl) (-1, 7)).1 (log64 (Nat.le_trans b7.1 (by decide)))) (.cons (.int (addL (totF val (0, 1) tl) (-1, 7)).2 (log64 (Nat.le_trans b7.2.2 (by decide)))) .nil))
          refine ⟨two_line, fun o no => ?_⟩
          have s2 := se.trans se2
          obtain ⟨so, d0⟩ := dnewT (z := a) no (.cons (Dt.tup (s2 _ _ ht) (hts.same s2)) (.cons de2 .nil))
          exact ⟨s2.trans so, _, d0, rfl⟩
        obtain ⟨s6, vb, hvb, rfl⟩ := hM
        have bb7 : Bf (2 * (1000000000000000 * 7)) (addL (totF val (0, 1) tl) (-1, 7)) := Bf.add btot ⟨by decide, by decide, by decide⟩
        refine ⟨_, rfl, _, rfl, vb, tl, _, d, a, val, rfl, hvb, hok, bb7.mono (by decide), (hpt5.same s6).val sub1, fun K1 k1 => ?_⟩
        rw [lt_beyond btot.2.1]
        refine ⟨_, _, rfl, rfl, _, rfl, ?_⟩
        exact iteF ⟨hF5.same (s6.trans k1), (s6.trans k1) _ _ hp5, hv5.same (s6.trans k1), hvw5.same (s6.trans k1), _, _, _, _, _, _, _, _, rfl⟩
      · obtain ⟨hFG, hpG, hvG, hvwG, y9, y10, y11, y12, y13, y14, y15, y16, rfl⟩ := hq
        exact ⟨hFG, _, _, _, _, _, _, _, _, _, _, _, _, _, _, _, rfl⟩
    · obtain ⟨y2, y3, y4, y5, y6, y7, y8, y9, y10, y11, y12, y13, y14, y15, y16, rfl⟩ := hM
      have et : ttL [([120], (1, 2)), ([121], (-1, 3))] (1, 6) = [51, 42, 120, 32, 45, 32, 50, 42, 121, 32, 60, 61, 32, 49] := by decide +kernel
      have ex : (Str.ofString "x" : Str) = SX.S [120] := by decide +kernel
      have ey : (Str.ofString "y" : Str) = SX.S [121] := by decide +kernel
      refine ⟨(small_line (by decide : 2 ≤ 1000)), fun p1 n1 => ?_⟩
      obtain ⟨s1, d1⟩ := dnewT (z := a) n1 (.cons (.int 1 (by decide +kernel)) (.cons (.int 2 (by decide +kernel)) .nil))
      refine ⟨(small_line (by decide : 2 ≤ 1000)), fun p2 n2 => ?_⟩
      obtain ⟨s2, d2⟩ := dnewT (z := a) n2 (.cons (.str (Str.ofString "x") (by decide +kernel)) (.cons d1 .nil))
      refine ⟨_, rfl, (small_line (by decide : 2 ≤ 1000)), fun p3 n3 => ?_⟩
      obtain ⟨s3, d3⟩ := dnewT (z := a) n3 (.cons (.int (-1) (by decide +kernel)) (.cons (.int 3 (by decide +kernel)) .nil))
      refine ⟨(small_line (by decide : 2 ≤ 1000)), fun p4 n4 => ?_⟩
      obtain ⟨s4, d4⟩ := dnewT (z := a) n4 (.cons (.str (Str.ofString "y") (by decide +kernel)) (.cons d3 .nil))
      refine ⟨(small_line (by decide : 2 ≤ 1000)), fun p5 n5 => ?_⟩
      obtain ⟨s5, d5⟩ := dnewT (z := a) n5 (.cons (d2.same (s3.trans s4)) (.cons d4 .nil))
      refine ⟨(small_line (by decide : 2 ≤ 1000)), fun p6 n6 => ?_⟩
      obtain ⟨s6, d6⟩ := dnewT (z := a) n6 (.cons (.int 1 (by decide +kernel)) (.cons (.int 6 (by decide +kernel)) .nil))
      refine ⟨(small_line (by decide : 2 ≤ 1000)), fun p7 n7 => ?_⟩
      obtain ⟨s7, d7⟩ := dnewT (z := a) n7 (.cons (d5.same s6) (.cons d6 .nil))
      rw [ex, ey] at d7
      have e3 : (Str.ofString "3*x - 2*y <= 1" : Str) = SX.S [51, 42, 120, 32, 45, 32, 50, 42, 121, 32, 60, 61, 32, 49] := by decide +kernel
      refine ⟨.ref p7, [([120], (1, 2)), ([121], (-1, 3))], (1, 6), a, rfl, d7, ⟨.inr rfl, fun t ht => ?_⟩, by unfold BdF; decide, fun t ht => ?_, fun H' s' => ?_⟩
      · simp only [List.mem_cons, List.not_mem_nil, or_false] at ht
        rcases ht with rfl | rfl <;> (unfold BdF; decide)
      · simp only [List.mem_cons, List.not_mem_nil, or_false] at ht
        rcases ht with rfl | rfl <;> decide
      · rw [et]
        exact ⟨_, _, rfl, Eqd.leaf ⟨by rw [e3], .inr (.inr (.inr ⟨_, rfl⟩))⟩, fun H'' _ => q H''⟩
end
theorem all_mk {l : PySem.W.OpenLaw} {w : World} {K : PySem.W.Frag} {h : Heap} {mg : Str → Option Value} {fl f8 f9 f10 f11 f12 f13 f14 f15 f17 f18 f19 f20 f21 f23 f24 f25 f26 f27 f28 f29 f30 f31 f32 f33 f34 f35 f36 f37 f38 f39 f40 f41 f42 f43 fZ_ZERO fT10 : Addr} (X : K.In h) (G : h.Ns mainGlobals mg) (hfa : mg "law" = some (.ref fl))
    {od8 an8 od9 an9 od10 an10 od11 an11 od12 an12 od13 an13 od14 an14 od15 an15 od17 an17 od18 an18 od19 an19 od20 an20 od21 an21 od23 an23 od24 an24 od25 an25 od26 an26 od27 an27 od28 an28 od29 an29 od30 an30 od31 an31 od32 an32 od33 an33 od34 an34 od35 an35 od36 an36 od37 an37 od38 an38 od39 an39 od40 an40 od41 an41 od42 an42 od43 an43 : Option Addr}
    {sl8 sl9 sl10 sl11 sl12 sl13 sl14 sl15 sl17 sl18 sl19 sl20 sl21 sl23 sl24 sl25 sl26 sl27 sl28 sl29 sl30 sl31 sl32 sl33 sl34 sl35 sl36 sl37 sl38 sl39 sl40 sl41 sl42 sl43 : Array (Option Value)}
    {oc8 kV8 dc8 pm8 cd8 ct8 oc9 kV9 dc9 pm9 cd9 ct9 oc10 kV10 dc10 pm10 cd10 ct10 oc11 kV11 dc11 pm11 cd11 ct11 oc12 kV12 dc12 pm12 cd12 ct12 oc13 kV13 dc13 pm13 cd13 ct13 oc14 kV14 dc14 pm14 cd14 ct14 oc15 kV15 dc15 pm15 cd15 ct15 oc17 kV17 dc17 pm17 cd17 ct17 oc18 kV18 dc18 pm18 cd18 ct18 oc19 kV19 dc19 pm19 cd19 ct19 oc20 kV20 dc20 pm20 cd20 ct20 oc21 kV21 dc21 pm21 cd21 ct21 oc23 kV23 dc23 pm23 cd23 ct23 oc24 kV24 dc24 pm24 cd24 ct24 oc25 kV25 dc25 pm25 cd25 ct25 oc26 kV26 dc26 pm26 cd26 ct26 oc27 kV27 dc27 pm27 cd27 ct27 oc28 kV28 dc28 pm28 cd28 ct28 oc29 kV29 dc29 pm29 cd29 ct29 oc30 kV30 dc30 pm30 cd30 ct30 oc31 kV31 dc31 pm31 cd31 ct31 oc32 kV32 dc32 pm32 cd32 ct32 oc33 kV33 dc33 pm33 cd33 ct33 oc34 kV34 dc34 pm34 cd34 ct34 oc35 kV35 dc35 pm35 cd35 ct35 oc36 kV36 dc36 pm36 cd36 ct36 oc37 kV37 dc37 pm37 cd37 ct37 oc38 kV38 dc38 pm38 cd38 ct38 oc39 kV39 dc39 pm39 cd39 ct39 oc40 kV40 dc40 pm40 cd40 ct40 oc41 kV41 dc41 pm41 cd41 ct41 oc42 kV42 dc42 pm42 cd42 ct42 oc43 kV43 dc43 pm43 cd43 ct43 : Value}
    {ocT10 : Value} {odT10 : Option Addr} {nT10 : Nat} {slT10 : Array (Option Value)} {tk10_0 : Tok}
    (t10 : K.lookup fT10 = some ⟨ocT10, odT10, .seq ([Value.int 1 tk10_0] : List Value).toArray nT10, slT10⟩)
    (a8 : PySem.W.nsIn K mainGlobals "shortened" = some (some (.ref f8))) (l8 : K.lookup f8 = some ⟨oc8, od8, .func (PySem.W.fnOf "shortened" "shortened" (defArgs s_p_shortened) (defBody s_p_shortened) (defScope s_p_shortened) .none kV8 dc8 pm8 an8 cd8 ct8), sl8⟩) (c8 : PySem.W.codeIn K cd8 "shortened" = true) (k8 : PySem.W.keepIn K (.ref f8) = true)
    (a9 : PySem.W.nsIn K mainGlobals "common_divisor" = some (some (.ref f9))) (l9 : K.lookup f9 = some ⟨oc9, od9, .func (PySem.W.fnOf "common_divisor" "common_divisor" (defArgs s_p_common_divisor) (defBody s_p_common_divisor) (defScope s_p_common_divisor) .none kV9 dc9 pm9 an9 cd9 ct9), sl9⟩) (c9 : PySem.W.codeIn K cd9 "common_divisor" = true) (k9 : PySem.W.keepIn K (.ref f9) = true)
    (a10 : PySem.W.nsIn K mainGlobals "ratio" = some (some (.ref f10))) (l10 : K.lookup f10 = some ⟨oc10, od10, .func (PySem.W.fnOf "ratio" "ratio" (defArgs s_p_ratio) (defBody s_p_ratio) (defScope s_p_ratio) (.ref fT10) kV10 dc10 pm10 an10 cd10 ct10), sl10⟩) (c10 : PySem.W.codeIn K cd10 "ratio" = true) (k10 : PySem.W.keepIn K (.ref f10) = true)
    (a11 : PySem.W.nsIn K mainGlobals "add" = some (some (.ref f11))) (l11 : K.lookup f11 = some ⟨oc11, od11, .func (PySem.W.fnOf "add" "add" (defArgs s_p_add) (defBody s_p_add) (defScope s_p_add) .none kV11 dc11 pm11 an11 cd11 ct11), sl11⟩) (c11 : PySem.W.codeIn K cd11 "add" = true) (k11 : PySem.W.keepIn K (.ref f11) = true)
    (a12 : PySem.W.nsIn K mainGlobals "multiply" = some (some (.ref f12))) (l12 : K.lookup f12 = some ⟨oc12, od12, .func (PySem.W.fnOf "multiply" "multiply" (defArgs s_p_multiply) (defBody s_p_multiply) (defScope s_p_multiply) .none kV12 dc12 pm12 an12 cd12 ct12), sl12⟩) (c12 : PySem.W.codeIn K cd12 "multiply" = true) (k12 : PySem.W.keepIn K (.ref f12) = true)
    (a13 : PySem.W.nsIn K mainGlobals "is_less" = some (some (.ref f13))) (l13 : K.lookup f13 = some ⟨oc13, od13, .func (PySem.W.fnOf "is_less" "is_less" (defArgs s_p_is_less) (defBody s_p_is_less) (defScope s_p_is_less) .none kV13 dc13 pm13 an13 cd13 ct13), sl13⟩) (c13 : PySem.W.codeIn K cd13 "is_less" = true) (k13 : PySem.W.keepIn K (.ref f13) = true)
    (a14 : PySem.W.nsIn K mainGlobals "number_text" = some (some (.ref f14))) (l14 : K.lookup f14 = some ⟨oc14, od14, .func (PySem.W.fnOf "number_text" "number_text" (defArgs s_p_number_text) (defBody s_p_number_text) (defScope s_p_number_text) .none kV14 dc14 pm14 an14 cd14 ct14), sl14⟩) (c14 : PySem.W.codeIn K cd14 "number_text" = true) (k14 : PySem.W.keepIn K (.ref f14) = true)
    (a15 : PySem.W.nsIn K mainGlobals "ratio_text" = some (some (.ref f15))) (l15 : K.lookup f15 = some ⟨oc15, od15, .func (PySem.W.fnOf "ratio_text" "ratio_text" (defArgs s_p_ratio_text) (defBody s_p_ratio_text) (defScope s_p_ratio_text) .none kV15 dc15 pm15 an15 cd15 ct15), sl15⟩) (c15 : PySem.W.codeIn K cd15 "ratio_text" = true) (k15 : PySem.W.keepIn K (.ref f15) = true)
    (a17 : PySem.W.nsIn K mainGlobals "reduced" = some (some (.ref f17))) (l17 : K.lookup f17 = some ⟨oc17, od17, .func (PySem.W.fnOf "reduced" "reduced" (defArgs s_p_reduced) (defBody s_p_reduced) (defScope s_p_reduced) .none kV17 dc17 pm17 an17 cd17 ct17), sl17⟩) (c17 : PySem.W.codeIn K cd17 "reduced" = true) (k17 : PySem.W.keepIn K (.ref f17) = true)
    (a18 : PySem.W.nsIn K mainGlobals "is_kept" = some (some (.ref f18))) (l18 : K.lookup f18 = some ⟨oc18, od18, .func (PySem.W.fnOf "is_kept" "is_kept" (defArgs s_p_is_kept) (defBody s_p_is_kept) (defScope s_p_is_kept) .none kV18 dc18 pm18 an18 cd18 ct18), sl18⟩) (c18 : PySem.W.codeIn K cd18 "is_kept" = true) (k18 : PySem.W.keepIn K (.ref f18) = true)
    (a19 : PySem.W.nsIn K mainGlobals "term_text" = some (some (.ref f19))) (l19 : K.lookup f19 = some ⟨oc19, od19, .func (PySem.W.fnOf "term_text" "term_text" (defArgs s_p_term_text) (defBody s_p_term_text) (defScope s_p_term_text) .none kV19 dc19 pm19 an19 cd19 ct19), sl19⟩) (c19 : PySem.W.codeIn K cd19 "term_text" = true) (k19 : PySem.W.keepIn K (.ref f19) = true)
    (a20 : PySem.W.nsIn K mainGlobals "terms_text" = some (some (.ref f20))) (l20 : K.lookup f20 = some ⟨oc20, od20, .func (PySem.W.fnOf "terms_text" "terms_text" (defArgs s_p_terms_text) (defBody s_p_terms_text) (defScope s_p_terms_text) .none kV20 dc20 pm20 an20 cd20 ct20), sl20⟩) (c20 : PySem.W.codeIn K cd20 "terms_text" = true) (k20 : PySem.W.keepIn K (.ref f20) = true)
    (a21 : PySem.W.nsIn K mainGlobals "tie_text" = some (some (.ref f21))) (l21 : K.lookup f21 = some ⟨oc21, od21, .func (PySem.W.fnOf "tie_text" "tie_text" (defArgs s_p_tie_text) (defBody s_p_tie_text) (defScope s_p_tie_text) .none kV21 dc21 pm21 an21 cd21 ct21), sl21⟩) (c21 : PySem.W.codeIn K cd21 "tie_text" = true) (k21 : PySem.W.keepIn K (.ref f21) = true)
    (a23 : PySem.W.nsIn K mainGlobals "_law_feed" = some (some (.ref f23))) (l23 : K.lookup f23 = some ⟨oc23, od23, .func (PySem.W.fnOf "_law_feed" "_law_feed" (defArgs s_feed) (defBody s_feed) (defScope s_feed) .none kV23 dc23 pm23 an23 cd23 ct23), sl23⟩) (c23 : PySem.W.codeIn K cd23 "_law_feed" = true) (k23 : PySem.W.keepIn K (.ref f23) = true)
    (a24 : PySem.W.nsIn K mainGlobals "_law_draw" = some (some (.ref f24))) (l24 : K.lookup f24 = some ⟨oc24, od24, .func (PySem.W.fnOf "_law_draw" "_law_draw" (defArgs s_draw) (defBody s_draw) (defScope s_draw) .none kV24 dc24 pm24 an24 cd24 ct24), sl24⟩) (c24 : PySem.W.codeIn K cd24 "_law_draw" = true) (k24 : PySem.W.keepIn K (.ref f24) = true)
    (a25 : PySem.W.nsIn K mainGlobals "_law_any" = some (some (.ref f25))) (l25 : K.lookup f25 = some ⟨oc25, od25, .func (PySem.W.fnOf "_law_any" "_law_any" (defArgs s_any) (defBody s_any) (defScope s_any) .none kV25 dc25 pm25 an25 cd25 ct25), sl25⟩) (c25 : PySem.W.codeIn K cd25 "_law_any" = true) (k25 : PySem.W.keepIn K (.ref f25) = true)
    (a26 : PySem.W.nsIn K mainGlobals "_law_same" = some (some (.ref f26))) (l26 : K.lookup f26 = some ⟨oc26, od26, .func (PySem.W.fnOf "_law_same" "_law_same" (defArgs s_same) (defBody s_same) (defScope s_same) .none kV26 dc26 pm26 an26 cd26 ct26), sl26⟩) (c26 : PySem.W.codeIn K cd26 "_law_same" = true) (k26 : PySem.W.keepIn K (.ref f26) = true)
    (a27 : PySem.W.nsIn K mainGlobals "_law_gcd" = some (some (.ref f27))) (l27 : K.lookup f27 = some ⟨oc27, od27, .func (PySem.W.fnOf "_law_gcd" "_law_gcd" (defArgs s_gcd) (defBody s_gcd) (defScope s_gcd) .none kV27 dc27 pm27 an27 cd27 ct27), sl27⟩) (c27 : PySem.W.codeIn K cd27 "_law_gcd" = true) (k27 : PySem.W.keepIn K (.ref f27) = true)
    (a28 : PySem.W.nsIn K mainGlobals "_law_low" = some (some (.ref f28))) (l28 : K.lookup f28 = some ⟨oc28, od28, .func (PySem.W.fnOf "_law_low" "_law_low" (defArgs s_low) (defBody s_low) (defScope s_low) .none kV28 dc28 pm28 an28 cd28 ct28), sl28⟩) (c28 : PySem.W.codeIn K cd28 "_law_low" = true) (k28 : PySem.W.keepIn K (.ref f28) = true)
    (a29 : PySem.W.nsIn K mainGlobals "_law_plus" = some (some (.ref f29))) (l29 : K.lookup f29 = some ⟨oc29, od29, .func (PySem.W.fnOf "_law_plus" "_law_plus" (defArgs s_plus) (defBody s_plus) (defScope s_plus) .none kV29 dc29 pm29 an29 cd29 ct29), sl29⟩) (c29 : PySem.W.codeIn K cd29 "_law_plus" = true) (k29 : PySem.W.keepIn K (.ref f29) = true)
    (a30 : PySem.W.nsIn K mainGlobals "_law_by" = some (some (.ref f30))) (l30 : K.lookup f30 = some ⟨oc30, od30, .func (PySem.W.fnOf "_law_by" "_law_by" (defArgs s_by) (defBody s_by) (defScope s_by) .none kV30 dc30 pm30 an30 cd30 ct30), sl30⟩) (c30 : PySem.W.codeIn K cd30 "_law_by" = true) (k30 : PySem.W.keepIn K (.ref f30) = true)
    (a31 : PySem.W.nsIn K mainGlobals "_law_under" = some (some (.ref f31))) (l31 : K.lookup f31 = some ⟨oc31, od31, .func (PySem.W.fnOf "_law_under" "_law_under" (defArgs s_under) (defBody s_under) (defScope s_under) .none kV31 dc31 pm31 an31 cd31 ct31), sl31⟩) (c31 : PySem.W.codeIn K cd31 "_law_under" = true) (k31 : PySem.W.keepIn K (.ref f31) = true)
    (a32 : PySem.W.nsIn K mainGlobals "_law_part" = some (some (.ref f32))) (l32 : K.lookup f32 = some ⟨oc32, od32, .func (PySem.W.fnOf "_law_part" "_law_part" (defArgs s_part) (defBody s_part) (defScope s_part) .none kV32 dc32 pm32 an32 cd32 ct32), sl32⟩) (c32 : PySem.W.codeIn K cd32 "_law_part" = true) (k32 : PySem.W.keepIn K (.ref f32) = true)
    (a33 : PySem.W.nsIn K mainGlobals "_law_rate" = some (some (.ref f33))) (l33 : K.lookup f33 = some ⟨oc33, od33, .func (PySem.W.fnOf "_law_rate" "_law_rate" (defArgs s_rate) (defBody s_rate) (defScope s_rate) .none kV33 dc33 pm33 an33 cd33 ct33), sl33⟩) (c33 : PySem.W.codeIn K cd33 "_law_rate" = true) (k33 : PySem.W.keepIn K (.ref f33) = true)
    (a34 : PySem.W.nsIn K mainGlobals "_law_words" = some (some (.ref f34))) (l34 : K.lookup f34 = some ⟨oc34, od34, .func (PySem.W.fnOf "_law_words" "_law_words" (defArgs s_words) (defBody s_words) (defScope s_words) .none kV34 dc34 pm34 an34 cd34 ct34), sl34⟩) (c34 : PySem.W.codeIn K cd34 "_law_words" = true) (k34 : PySem.W.keepIn K (.ref f34) = true)
    (a35 : PySem.W.nsIn K mainGlobals "_law_total" = some (some (.ref f35))) (l35 : K.lookup f35 = some ⟨oc35, od35, .func (PySem.W.fnOf "_law_total" "_law_total" (defArgs s_total) (defBody s_total) (defScope s_total) .none kV35 dc35 pm35 an35 cd35 ct35), sl35⟩) (c35 : PySem.W.codeIn K cd35 "_law_total" = true) (k35 : PySem.W.keepIn K (.ref f35) = true)
    (a36 : PySem.W.nsIn K mainGlobals "_law_keeps" = some (some (.ref f36))) (l36 : K.lookup f36 = some ⟨oc36, od36, .func (PySem.W.fnOf "_law_keeps" "_law_keeps" (defArgs s_keeps) (defBody s_keeps) (defScope s_keeps) .none kV36 dc36 pm36 an36 cd36 ct36), sl36⟩) (c36 : PySem.W.codeIn K cd36 "_law_keeps" = true) (k36 : PySem.W.keepIn K (.ref f36) = true)
    (a37 : PySem.W.nsIn K mainGlobals "_law_point" = some (some (.ref f37))) (l37 : K.lookup f37 = some ⟨oc37, od37, .func (PySem.W.fnOf "_law_point" "_law_point" (defArgs s_point) (defBody s_point) (defScope s_point) .none kV37 dc37 pm37 an37 cd37 ct37), sl37⟩) (c37 : PySem.W.codeIn K cd37 "_law_point" = true) (k37 : PySem.W.keepIn K (.ref f37) = true)
    (a38 : PySem.W.nsIn K mainGlobals "_law_terms" = some (some (.ref f38))) (l38 : K.lookup f38 = some ⟨oc38, od38, .func (PySem.W.fnOf "_law_terms" "_law_terms" (defArgs s_terms) (defBody s_terms) (defScope s_terms) .none kV38 dc38 pm38 an38 cd38 ct38), sl38⟩) (c38 : PySem.W.codeIn K cd38 "_law_terms" = true) (k38 : PySem.W.keepIn K (.ref f38) = true)
    (a39 : PySem.W.nsIn K mainGlobals "_law_brief" = some (some (.ref f39))) (l39 : K.lookup f39 = some ⟨oc39, od39, .func (PySem.W.fnOf "_law_brief" "_law_brief" (defArgs s_brief) (defBody s_brief) (defScope s_brief) .none kV39 dc39 pm39 an39 cd39 ct39), sl39⟩) (c39 : PySem.W.codeIn K cd39 "_law_brief" = true) (k39 : PySem.W.keepIn K (.ref f39) = true)
    (a40 : PySem.W.nsIn K mainGlobals "_law_part_text" = some (some (.ref f40))) (l40 : K.lookup f40 = some ⟨oc40, od40, .func (PySem.W.fnOf "_law_part_text" "_law_part_text" (defArgs s_part_text) (defBody s_part_text) (defScope s_part_text) .none kV40 dc40 pm40 an40 cd40 ct40), sl40⟩) (c40 : PySem.W.codeIn K cd40 "_law_part_text" = true) (k40 : PySem.W.keepIn K (.ref f40) = true)
    (a41 : PySem.W.nsIn K mainGlobals "_law_sum_text" = some (some (.ref f41))) (l41 : K.lookup f41 = some ⟨oc41, od41, .func (PySem.W.fnOf "_law_sum_text" "_law_sum_text" (defArgs s_sum_text) (defBody s_sum_text) (defScope s_sum_text) .none kV41 dc41 pm41 an41 cd41 ct41), sl41⟩) (c41 : PySem.W.codeIn K cd41 "_law_sum_text" = true) (k41 : PySem.W.keepIn K (.ref f41) = true)
    (a42 : PySem.W.nsIn K mainGlobals "_law_tie_text" = some (some (.ref f42))) (l42 : K.lookup f42 = some ⟨oc42, od42, .func (PySem.W.fnOf "_law_tie_text" "_law_tie_text" (defArgs s_tie_text) (defBody s_tie_text) (defScope s_tie_text) .none kV42 dc42 pm42 an42 cd42 ct42), sl42⟩) (c42 : PySem.W.codeIn K cd42 "_law_tie_text" = true) (k42 : PySem.W.keepIn K (.ref f42) = true)
    (a43 : PySem.W.nsIn K mainGlobals "law" = some (some (.ref f43))) (l43 : K.lookup f43 = some ⟨oc43, od43, .func (PySem.W.fnOf "law" "law" (defArgs s_p_law) (defBody s_p_law) (defScope s_p_law) .none kV43 dc43 pm43 an43 cd43 ct43), sl43⟩) (c43 : PySem.W.codeIn K cd43 "law" = true) (k43 : PySem.W.keepIn K (.ref f43) = true)
    (z_int : PySem.W.nsIn K mainGlobals "int" = some none)
    (z_len : PySem.W.nsIn K mainGlobals "len" = some none)
    (z_abs : PySem.W.nsIn K mainGlobals "abs" = some none)
    (z_range : PySem.W.nsIn K mainGlobals "range" = some none)
    (z_zip : PySem.W.nsIn K mainGlobals "zip" = some none)
    (z_all : PySem.W.nsIn K mainGlobals "all" = some none)
    (z_isinstance : PySem.W.nsIn K mainGlobals "isinstance" = some none)
    (z_bool : PySem.W.nsIn K mainGlobals "bool" = some none)
    (z_str : PySem.W.nsIn K mainGlobals "str" = some none)
    (z_tuple : PySem.W.nsIn K mainGlobals "tuple" = some none)
    (z_list : PySem.W.nsIn K mainGlobals "list" = some none)
    (z_dict : PySem.W.nsIn K mainGlobals "dict" = some none)
    (z_sorted : PySem.W.nsIn K mainGlobals "sorted" = some none)
    (z_set : PySem.W.nsIn K mainGlobals "set" = some none)
    {odZ_ZERO : Option Addr} {nZ_ZERO : Nat} {slZ_ZERO : Array (Option Value)} {tz_ZERO0 tz_ZERO1 : Tok} (zc_ZERO : PySem.W.nsIn K mainGlobals "ZERO" = some (some (.ref fZ_ZERO))) (lz_ZERO : K.lookup fZ_ZERO = some ⟨.type "tuple", odZ_ZERO, .seq ([Value.int 0 tz_ZERO0, Value.int 1 tz_ZERO1] : List Value).toArray nZ_ZERO, slZ_ZERO⟩)
    {tk_LONG : Tok} (zc_LONG : PySem.W.nsIn K mainGlobals "LONG" = some (some (Value.int 4096 tk_LONG)))
    : ∃ fd : FuncData, (∀ (s : Shared) (v : Value), BindsTo s fd ⟨[v], []⟩ [("_law_script", v)]) ∧ ∀ base : Heap, K.In base → base.Ns mainGlobals mg → FnOk l.prog w K mg base CX0 8 fl fd ["_law_script"] (spLaw K) := by
  have e := hfa.symm.trans (PySem.W.mg_of X G a43)
  cases e
  have F8 := fun_mk (st := s_p_shortened) l8 c8 k8
  have F9 := fun_mk (st := s_p_common_divisor) l9 c9 k9
  have F10 : FunD K "ratio" "ratio" (defArgs s_p_ratio) (defBody s_p_ratio) (defScope s_p_ratio) [V.int 1] [] f10 (PySem.W.fnOf "ratio" "ratio" (defArgs s_p_ratio) (defBody s_p_ratio) (defScope s_p_ratio) (.ref fT10) kV10 dc10 pm10 an10 cd10 ct10) := ⟨⟨_, _, _, _, _, _, _, _, _, _, rfl, l10, c10, .inr ⟨by simp, _, _, _, _, rfl, t10, rfl, (.cons ⟨_, rfl⟩ .nil)⟩, .inl rfl⟩, k10⟩
  have Bn10 : Binds K (PySem.W.fnOf "ratio" "ratio" (defArgs s_p_ratio) (defBody s_p_ratio) (defScope s_p_ratio) (.ref fT10) kV10 dc10 pm10 an10 cd10 ct10) ["top", "under"] [] := by
    obtain ⟨ds, v, b⟩ := F10.binds1 (ps := ["top", "under"]) 2 1 (by simp) rfl fun T kV doc pm an cdv ct us its h1 h2 => match us, its, h1, h2 with | [_, _], [_], _, _ => ⟨_, rfl, rfl⟩
    cases v
    exact b
  have Bd10 := F10.binds1 (ps := ["top", "under"]) 1 0 (by simp) rfl fun T kV doc pm an cdv ct us its h1 h2 => match us, its, h1, h2 with | [_], [_], _, _ => ⟨_, rfl, rfl⟩
  have F11 := fun_mk (st := s_p_add) l11 c11 k11
  have F12 := fun_mk (st := s_p_multiply) l12 c12 k12
  have F13 := fun_mk (st := s_p_is_less) l13 c13 k13
  have F14 := fun_mk (st := s_p_number_text) l14 c14 k14
  have F15 := fun_mk (st := s_p_ratio_text) l15 c15 k15
  have F17 := fun_mk (st := s_p_reduced) l17 c17 k17
  have F18 := fun_mk (st := s_p_is_kept) l18 c18 k18
  have F19 := fun_mk (st := s_p_term_text) l19 c19 k19
  have F20 := fun_mk (st := s_p_terms_text) l20 c20 k20
  have F21 := fun_mk (st := s_p_tie_text) l21 c21 k21
  have F23 := fun_mk (st := s_feed) l23 c23 k23
  have F24 := fun_mk (st := s_draw) l24 c24 k24
  have F25 := fun_mk (st := s_any) l25 c25 k25
  have F26 := fun_mk (st := s_same) l26 c26 k26
  have F27 := fun_mk (st := s_gcd) l27 c27 k27
  have F28 := fun_mk (st := s_low) l28 c28 k28
  have F29 := fun_mk (st := s_plus) l29 c29 k29
  have F30 := fun_mk (st := s_by) l30 c30 k30
  have F31 := fun_mk (st := s_under) l31 c31 k31
  have F32 := fun_mk (st := s_part) l32 c32 k32
  have F33 := fun_mk (st := s_rate) l33 c33 k33
  have F34 := fun_mk (st := s_words) l34 c34 k34
  have F35 := fun_mk (st := s_total) l35 c35 k35
  have F36 := fun_mk (st := s_keeps) l36 c36 k36
  have F37 := fun_mk (st := s_point) l37 c37 k37
  have F38 := fun_mk (st := s_terms) l38 c38 k38
  have F39 := fun_mk (st := s_brief) l39 c39 k39
  have F40 := fun_mk (st := s_part_text) l40 c40 k40
  have F41 := fun_mk (st := s_sum_text) l41 c41 k41
  have F42 := fun_mk (st := s_tie_text) l42 c42 k42
  have F43 := fun_mk (st := s_p_law) l43 c43 k43
  have T : Txt K mg (fun i => match i with
      | 8 => f8
      | 9 => f9
      | 10 => f10
      | 11 => f11
      | 12 => f12
      | 13 => f13
      | 14 => f14
      | 15 => f15
      | 17 => f17
      | 18 => f18
      | 19 => f19
      | 20 => f20
      | 21 => f21
      | 23 => f23
      | 24 => f24
      | 25 => f25
      | 26 => f26
      | 27 => f27
      | 28 => f28
      | 29 => f29
      | 30 => f30
      | 31 => f31
      | 32 => f32
      | 33 => f33
      | 34 => f34
      | 35 => f35
      | 36 => f36
      | 37 => f37
      | 38 => f38
      | 39 => f39
      | 40 => f40
      | 41 => f41
      | 42 => f42
      | 43 => fl
      | 2000 => fZ_ZERO
      | _ => fl) (fun i => match i with
      | 8 => (PySem.W.fnOf "shortened" "shortened" (defArgs s_p_shortened) (defBody s_p_shortened) (defScope s_p_shortened) .none kV8 dc8 pm8 an8 cd8 ct8)
      | 9 => (PySem.W.fnOf "common_divisor" "common_divisor" (defArgs s_p_common_divisor) (defBody s_p_common_divisor) (defScope s_p_common_divisor) .none kV9 dc9 pm9 an9 cd9 ct9)
      | 10 => (PySem.W.fnOf "ratio" "ratio" (defArgs s_p_ratio) (defBody s_p_ratio) (defScope s_p_ratio) (.ref fT10) kV10 dc10 pm10 an10 cd10 ct10)
      | 11 => (PySem.W.fnOf "add" "add" (defArgs s_p_add) (defBody s_p_add) (defScope s_p_add) .none kV11 dc11 pm11 an11 cd11 ct11)
      | 12 => (PySem.W.fnOf "multiply" "multiply" (defArgs s_p_multiply) (defBody s_p_multiply) (defScope s_p_multiply) .none kV12 dc12 pm12 an12 cd12 ct12)
      | 13 => (PySem.W.fnOf "is_less" "is_less" (defArgs s_p_is_less) (defBody s_p_is_less) (defScope s_p_is_less) .none kV13 dc13 pm13 an13 cd13 ct13)
      | 14 => (PySem.W.fnOf "number_text" "number_text" (defArgs s_p_number_text) (defBody s_p_number_text) (defScope s_p_number_text) .none kV14 dc14 pm14 an14 cd14 ct14)
      | 15 => (PySem.W.fnOf "ratio_text" "ratio_text" (defArgs s_p_ratio_text) (defBody s_p_ratio_text) (defScope s_p_ratio_text) .none kV15 dc15 pm15 an15 cd15 ct15)
      | 17 => (PySem.W.fnOf "reduced" "reduced" (defArgs s_p_reduced) (defBody s_p_reduced) (defScope s_p_reduced) .none kV17 dc17 pm17 an17 cd17 ct17)
      | 18 => (PySem.W.fnOf "is_kept" "is_kept" (defArgs s_p_is_kept) (defBody s_p_is_kept) (defScope s_p_is_kept) .none kV18 dc18 pm18 an18 cd18 ct18)
      | 19 => (PySem.W.fnOf "term_text" "term_text" (defArgs s_p_term_text) (defBody s_p_term_text) (defScope s_p_term_text) .none kV19 dc19 pm19 an19 cd19 ct19)
      | 20 => (PySem.W.fnOf "terms_text" "terms_text" (defArgs s_p_terms_text) (defBody s_p_terms_text) (defScope s_p_terms_text) .none kV20 dc20 pm20 an20 cd20 ct20)
      | 21 => (PySem.W.fnOf "tie_text" "tie_text" (defArgs s_p_tie_text) (defBody s_p_tie_text) (defScope s_p_tie_text) .none kV21 dc21 pm21 an21 cd21 ct21)
      | 23 => (PySem.W.fnOf "_law_feed" "_law_feed" (defArgs s_feed) (defBody s_feed) (defScope s_feed) .none kV23 dc23 pm23 an23 cd23 ct23)
      | 24 => (PySem.W.fnOf "_law_draw" "_law_draw" (defArgs s_draw) (defBody s_draw) (defScope s_draw) .none kV24 dc24 pm24 an24 cd24 ct24)
      | 25 => (PySem.W.fnOf "_law_any" "_law_any" (defArgs s_any) (defBody s_any) (defScope s_any) .none kV25 dc25 pm25 an25 cd25 ct25)
      | 26 => (PySem.W.fnOf "_law_same" "_law_same" (defArgs s_same) (defBody s_same) (defScope s_same) .none kV26 dc26 pm26 an26 cd26 ct26)
      | 27 => (PySem.W.fnOf "_law_gcd" "_law_gcd" (defArgs s_gcd) (defBody s_gcd) (defScope s_gcd) .none kV27 dc27 pm27 an27 cd27 ct27)
      | 28 => (PySem.W.fnOf "_law_low" "_law_low" (defArgs s_low) (defBody s_low) (defScope s_low) .none kV28 dc28 pm28 an28 cd28 ct28)
      | 29 => (PySem.W.fnOf "_law_plus" "_law_plus" (defArgs s_plus) (defBody s_plus) (defScope s_plus) .none kV29 dc29 pm29 an29 cd29 ct29)
      | 30 => (PySem.W.fnOf "_law_by" "_law_by" (defArgs s_by) (defBody s_by) (defScope s_by) .none kV30 dc30 pm30 an30 cd30 ct30)
      | 31 => (PySem.W.fnOf "_law_under" "_law_under" (defArgs s_under) (defBody s_under) (defScope s_under) .none kV31 dc31 pm31 an31 cd31 ct31)
      | 32 => (PySem.W.fnOf "_law_part" "_law_part" (defArgs s_part) (defBody s_part) (defScope s_part) .none kV32 dc32 pm32 an32 cd32 ct32)
      | 33 => (PySem.W.fnOf "_law_rate" "_law_rate" (defArgs s_rate) (defBody s_rate) (defScope s_rate) .none kV33 dc33 pm33 an33 cd33 ct33)
      | 34 => (PySem.W.fnOf "_law_words" "_law_words" (defArgs s_words) (defBody s_words) (defScope s_words) .none kV34 dc34 pm34 an34 cd34 ct34)
      | 35 => (PySem.W.fnOf "_law_total" "_law_total" (defArgs s_total) (defBody s_total) (defScope s_total) .none kV35 dc35 pm35 an35 cd35 ct35)
      | 36 => (PySem.W.fnOf "_law_keeps" "_law_keeps" (defArgs s_keeps) (defBody s_keeps) (defScope s_keeps) .none kV36 dc36 pm36 an36 cd36 ct36)
      | 37 => (PySem.W.fnOf "_law_point" "_law_point" (defArgs s_point) (defBody s_point) (defScope s_point) .none kV37 dc37 pm37 an37 cd37 ct37)
      | 38 => (PySem.W.fnOf "_law_terms" "_law_terms" (defArgs s_terms) (defBody s_terms) (defScope s_terms) .none kV38 dc38 pm38 an38 cd38 ct38)
      | 39 => (PySem.W.fnOf "_law_brief" "_law_brief" (defArgs s_brief) (defBody s_brief) (defScope s_brief) .none kV39 dc39 pm39 an39 cd39 ct39)
      | 40 => (PySem.W.fnOf "_law_part_text" "_law_part_text" (defArgs s_part_text) (defBody s_part_text) (defScope s_part_text) .none kV40 dc40 pm40 an40 cd40 ct40)
      | 41 => (PySem.W.fnOf "_law_sum_text" "_law_sum_text" (defArgs s_sum_text) (defBody s_sum_text) (defScope s_sum_text) .none kV41 dc41 pm41 an41 cd41 ct41)
      | 42 => (PySem.W.fnOf "_law_tie_text" "_law_tie_text" (defArgs s_tie_text) (defBody s_tie_text) (defScope s_tie_text) .none kV42 dc42 pm42 an42 cd42 ct42)
      | 43 => (PySem.W.fnOf "law" "law" (defArgs s_p_law) (defBody s_p_law) (defScope s_p_law) .none kV43 dc43 pm43 an43 cd43 ct43)
      | _ => (PySem.W.fnOf "shortened" "shortened" (defArgs s_p_shortened) (defBody s_p_shortened) (defScope s_p_shortened) .none kV8 dc8 pm8 an8 cd8 ct8)) := {
    F_p_shortened := F8, g_p_shortened := PySem.W.mg_of X G a8
    b_p_shortened := F8.binds (ps := ["one", "other"]) fun _ _ _ _ _ _ us hl => match us, hl with | [_, _], _ => rfl
    F_p_common_divisor := F9, g_p_common_divisor := PySem.W.mg_of X G a9
    b_p_common_divisor := F9.binds (ps := ["one", "other"]) fun _ _ _ _ _ _ us hl => match us, hl with | [_, _], _ => rfl
    F_p_ratio := F10, g_p_ratio := PySem.W.mg_of X G a10
    b_p_ratio := Bn10, d_p_ratio := Bd10
    F_p_add := F11, g_p_add := PySem.W.mg_of X G a11
    b_p_add := F11.binds (ps := ["one", "other"]) fun _ _ _ _ _ _ us hl => match us, hl with | [_, _], _ => rfl
    F_p_multiply := F12, g_p_multiply := PySem.W.mg_of X G a12
    b_p_multiply := F12.binds (ps := ["one", "other"]) fun _ _ _ _ _ _ us hl => match us, hl with | [_, _], _ => rfl
    F_p_is_less := F13, g_p_is_less := PySem.W.mg_of X G a13
    b_p_is_less := F13.binds (ps := ["one", "other"]) fun _ _ _ _ _ _ us hl => match us, hl with | [_, _], _ => rfl
    F_p_number_text := F14, g_p_number_text := PySem.W.mg_of X G a14
    b_p_number_text := F14.binds (ps := ["number"]) fun _ _ _ _ _ _ us hl => match us, hl with | [_], _ => rfl
    F_p_ratio_text := F15, g_p_ratio_text := PySem.W.mg_of X G a15
    b_p_ratio_text := F15.binds (ps := ["one"]) fun _ _ _ _ _ _ us hl => match us, hl with | [_], _ => rfl
    F_p_reduced := F17, g_p_reduced := PySem.W.mg_of X G a17
    b_p_reduced := F17.binds (ps := ["tie"]) fun _ _ _ _ _ _ us hl => match us, hl with | [_], _ => rfl
    F_p_is_kept := F18, g_p_is_kept := PySem.W.mg_of X G a18
    b_p_is_kept := F18.binds (ps := ["tie", "values"]) fun _ _ _ _ _ _ us hl => match us, hl with | [_, _], _ => rfl
    F_p_term_text := F19, g_p_term_text := PySem.W.mg_of X G a19
    b_p_term_text := F19.binds (ps := ["name", "rate"]) fun _ _ _ _ _ _ us hl => match us, hl with | [_, _], _ => rfl
    F_p_terms_text := F20, g_p_terms_text := PySem.W.mg_of X G a20
    b_p_terms_text := F20.binds (ps := ["terms"]) fun _ _ _ _ _ _ us hl => match us, hl with | [_], _ => rfl
    F_p_tie_text := F21, g_p_tie_text := PySem.W.mg_of X G a21
    b_p_tie_text := F21.binds (ps := ["tie"]) fun _ _ _ _ _ _ us hl => match us, hl with | [_], _ => rfl
    F_feed := F23, g_feed := PySem.W.mg_of X G a23
    b_feed := F23.binds (ps := ["_law_script"]) fun _ _ _ _ _ _ us hl => match us, hl with | [_], _ => rfl
    F_draw := F24, g_draw := PySem.W.mg_of X G a24
    b_draw := F24.binds (ps := ["_law_feed_here", "_law_many"]) fun _ _ _ _ _ _ us hl => match us, hl with | [_, _], _ => rfl
    F_any := F25, g_any := PySem.W.mg_of X G a25
    b_any := F25.binds (ps := ["_law_feed_here", "_law_row"]) fun _ _ _ _ _ _ us hl => match us, hl with | [_, _], _ => rfl
    F_same := F26, g_same := PySem.W.mg_of X G a26
    b_same := F26.binds (ps := ["_law_found", "_law_due"]) fun _ _ _ _ _ _ us hl => match us, hl with | [_, _], _ => rfl
    F_gcd := F27, g_gcd := PySem.W.mg_of X G a27
    b_gcd := F27.binds (ps := ["_law_one", "_law_two"]) fun _ _ _ _ _ _ us hl => match us, hl with | [_, _], _ => rfl
    F_low := F28, g_low := PySem.W.mg_of X G a28
    b_low := F28.binds (ps := ["_law_upper", "_law_lower"]) fun _ _ _ _ _ _ us hl => match us, hl with | [_, _], _ => rfl
    F_plus := F29, g_plus := PySem.W.mg_of X G a29
    b_plus := F29.binds (ps := ["_law_one", "_law_two"]) fun _ _ _ _ _ _ us hl => match us, hl with | [_, _], _ => rfl
    F_by := F30, g_by := PySem.W.mg_of X G a30
    b_by := F30.binds (ps := ["_law_one", "_law_two"]) fun _ _ _ _ _ _ us hl => match us, hl with | [_, _], _ => rfl
    F_under := F31, g_under := PySem.W.mg_of X G a31
    b_under := F31.binds (ps := ["_law_one", "_law_two"]) fun _ _ _ _ _ _ us hl => match us, hl with | [_, _], _ => rfl
    F_part := F32, g_part := PySem.W.mg_of X G a32
    b_part := F32.binds (ps := ["_law_feed_here", "_law_size"]) fun _ _ _ _ _ _ us hl => match us, hl with | [_, _], _ => rfl
    F_rate := F33, g_rate := PySem.W.mg_of X G a33
    b_rate := F33.binds (ps := ["_law_feed_here"]) fun _ _ _ _ _ _ us hl => match us, hl with | [_], _ => rfl
    F_words := F34, g_words := PySem.W.mg_of X G a34
    b_words := F34.binds (ps := ["_law_feed_here", "_law_many"]) fun _ _ _ _ _ _ us hl => match us, hl with | [_, _], _ => rfl
    F_total := F35, g_total := PySem.W.mg_of X G a35
    b_total := F35.binds (ps := ["_law_terms_here", "_law_values"]) fun _ _ _ _ _ _ us hl => match us, hl with | [_, _], _ => rfl
    F_keeps := F36, g_keeps := PySem.W.mg_of X G a36
    b_keeps := F36.binds (ps := ["_law_tie", "_law_values"]) fun _ _ _ _ _ _ us hl => match us, hl with | [_, _], _ => rfl
    F_point := F37, g_point := PySem.W.mg_of X G a37
    b_point := F37.binds (ps := ["_law_feed_here", "_law_words_here"]) fun _ _ _ _ _ _ us hl => match us, hl with | [_, _], _ => rfl
    F_terms := F38, g_terms := PySem.W.mg_of X G a38
    b_terms := F38.binds (ps := ["_law_feed_here", "_law_words_here", "_law_pairs"]) fun _ _ _ _ _ _ us hl => match us, hl with | [_, _, _], _ => rfl
    F_brief := F39, g_brief := PySem.W.mg_of X G a39
    b_brief := F39.binds (ps := ["_law_tie"]) fun _ _ _ _ _ _ us hl => match us, hl with | [_], _ => rfl
    F_part_text := F40, g_part_text := PySem.W.mg_of X G a40
    b_part_text := F40.binds (ps := ["_law_one"]) fun _ _ _ _ _ _ us hl => match us, hl with | [_], _ => rfl
    F_sum_text := F41, g_sum_text := PySem.W.mg_of X G a41
    b_sum_text := F41.binds (ps := ["_law_terms_here"]) fun _ _ _ _ _ _ us hl => match us, hl with | [_], _ => rfl
    F_tie_text := F42, g_tie_text := PySem.W.mg_of X G a42
    b_tie_text := F42.binds (ps := ["_law_tie"]) fun _ _ _ _ _ _ us hl => match us, hl with | [_], _ => rfl
    F_p_law := F43, g_p_law := PySem.W.mg_of X G a43
    b_p_law := F43.binds (ps := ["_law_script"]) fun _ _ _ _ _ _ us hl => match us, hl with | [_], _ => rfl
    m_int := PySem.W.mg_none_of X G z_int
    m_len := PySem.W.mg_none_of X G z_len
    m_abs := PySem.W.mg_none_of X G z_abs
    m_range := PySem.W.mg_none_of X G z_range
    m_zip := PySem.W.mg_none_of X G z_zip
    m_all := PySem.W.mg_none_of X G z_all
    m_isinstance := PySem.W.mg_none_of X G z_isinstance
    m_bool := PySem.W.mg_none_of X G z_bool
    m_str := PySem.W.mg_none_of X G z_str
    m_tuple := PySem.W.mg_none_of X G z_tuple
    m_list := PySem.W.mg_none_of X G z_list
    m_dict := PySem.W.mg_none_of X G z_dict
    m_sorted := PySem.W.mg_none_of X G z_sorted
    m_set := PySem.W.mg_none_of X G z_set
    c_LONG := ⟨_, PySem.W.mg_of X G zc_LONG, ⟨_, rfl⟩⟩
    c_ZERO := ⟨_, PySem.W.mg_of X G zc_ZERO, rfl⟩
    z_ZERO := fun H => .inr ⟨_, _, _, lz_ZERO, rfl, rfl, small_line (by show 2 ≤ 1000; decide), .cons ⟨_, rfl⟩ (.cons ⟨_, rfl⟩ .nil)⟩
  }
  exact ⟨_, fun s v => .of_eq rfl, fun base _ _ => ok_p_law T⟩
end T6
open PySem PySem.W PyProof.Rows
set_option maxHeartbeats 0 in
theorem PySem.Challenge.cw_tiespan_k06_ties_kept_and_reduced_holds : PySem.Challenge.rw_tiespan_k06_ties_kept_and_reduced.Holds := by
  w_on; o_law; k_head; (case hw => w_witness2)
  k_fill
  refine L2.walk_of (l := PySem.Challenge.rw_tiespan_k06_ties_kept_and_reduced) (n := 63) (k := 8) (x := "_law_script") (CX := fun _ => L2.CX0) (sp := fun w => T6.spLaw _) rfl (by decide) rfl ⟨rfl, by decide, by decide⟩ (fun w h Y => PySem.W.kIn_of Y) ?F (fun _ _ a ns hl _ hS => ⟨a, ns, rfl, hS, hl, fun _ => rfl⟩) (fun _ _ _ _ _ h => h)
  case F =>
    intro w mg fa h KX G hmg
    refine' T6.all_mk KX G hmg ?t10 ?a8 ?l8 ?c8 ?k8 ?a9 ?l9 ?c9 ?k9 ?a10 ?l10 ?c10 ?k10 ?a11 ?l11 ?c11 ?k11 ?a12 ?l12 ?c12 ?k12 ?a13 ?l13 ?c13 ?k13 ?a14 ?l14 ?c14 ?k14 ?a15 ?l15 ?c15 ?k15 ?a17 ?l17 ?c17 ?k17 ?a18 ?l18 ?c18 ?k18 ?a19 ?l19 ?c19 ?k19 ?a20 ?l20 ?c20 ?k20 ?a21 ?l21 ?c21 ?k21 ?a23 ?l23 ?c23 ?k23 ?a24 ?l24 ?c24 ?k24 ?a25 ?l25 ?c25 ?k25 ?a26 ?l26 ?c26 ?k26 ?a27 ?l27 ?c27 ?k27 ?a28 ?l28 ?c28 ?k28 ?a29 ?l29 ?c29 ?k29 ?a30 ?l30 ?c30 ?k30 ?a31 ?l31 ?c31 ?k31 ?a32 ?l32 ?c32 ?k32 ?a33 ?l33 ?c33 ?k33 ?a34 ?l34 ?c34 ?k34 ?a35 ?l35 ?c35 ?k35 ?a36 ?l36 ?c36 ?k36 ?a37 ?l37 ?c37 ?k37 ?a38 ?l38 ?c38 ?k38 ?a39 ?l39 ?c39 ?k39 ?a40 ?l40 ?c40 ?k40 ?a41 ?l41 ?c41 ?k41 ?a42 ?l42 ?c42 ?k42 ?a43 ?l43 ?c43 ?k43 ?z_int ?z_len ?z_abs ?z_range ?z_zip ?z_all ?z_isinstance ?z_bool ?z_str ?z_tuple ?z_list ?z_dict ?z_sorted ?z_set ?zc_ZERO ?lz_ZERO ?zc_LONG
    (case a8 => k_is); (case l8 => k_is); (case c8 => k_is); (case k8 => k_is)
    (case a9 => k_is); (case l9 => k_is); (case c9 => k_is); (case k9 => k_is)
    (case a10 => k_is); (case l10 => k_is); (case c10 => k_is); (case k10 => k_is)
    (case a11 => k_is); (case l11 => k_is); (case c11 => k_is); (case k11 => k_is)
    (case a12 => k_is); (case l12 => k_is); (case c12 => k_is); (case k12 => k_is)
    (case a13 => k_is); (case l13 => k_is); (case c13 => k_is); (case k13 => k_is)
    (case a14 => k_is); (case l14 => k_is); (case c14 => k_is); (case k14 => k_is)
    (case a15 => k_is); (case l15 => k_is); (case c15 => k_is); (case k15 => k_is)
    (case a17 => k_is); (case l17 => k_is); (case c17 => k_is); (case k17 => k_is)
    (case a18 => k_is); (case l18 => k_is); (case c18 => k_is); (case k18 => k_is)
    (case a19 => k_is); (case l19 => k_is); (case c19 => k_is); (case k19 => k_is)
    (case a20 => k_is); (case l20 => k_is); (case c20 => k_is); (case k20 => k_is)
    (case a21 => k_is); (case l21 => k_is); (case c21 => k_is); (case k21 => k_is)
    (case a23 => k_is); (case l23 => k_is); (case c23 => k_is); (case k23 => k_is)
    (case a24 => k_is); (case l24 => k_is); (case c24 => k_is); (case k24 => k_is)
    (case a25 => k_is); (case l25 => k_is); (case c25 => k_is); (case k25 => k_is)
    (case a26 => k_is); (case l26 => k_is); (case c26 => k_is); (case k26 => k_is)
    (case a27 => k_is); (case l27 => k_is); (case c27 => k_is); (case k27 => k_is)
    (case a28 => k_is); (case l28 => k_is); (case c28 => k_is); (case k28 => k_is)
    (case a29 => k_is); (case l29 => k_is); (case c29 => k_is); (case k29 => k_is)
    (case a30 => k_is); (case l30 => k_is); (case c30 => k_is); (case k30 => k_is)
    (case a31 => k_is); (case l31 => k_is); (case c31 => k_is); (case k31 => k_is)
    (case a32 => k_is); (case l32 => k_is); (case c32 => k_is); (case k32 => k_is)
    (case a33 => k_is); (case l33 => k_is); (case c33 => k_is); (case k33 => k_is)
    (case a34 => k_is); (case l34 => k_is); (case c34 => k_is); (case k34 => k_is)
    (case a35 => k_is); (case l35 => k_is); (case c35 => k_is); (case k35 => k_is)
    (case a36 => k_is); (case l36 => k_is); (case c36 => k_is); (case k36 => k_is)
    (case a37 => k_is); (case l37 => k_is); (case c37 => k_is); (case k37 => k_is)
    (case a38 => k_is); (case l38 => k_is); (case c38 => k_is); (case k38 => k_is)
    (case a39 => k_is); (case l39 => k_is); (case c39 => k_is); (case k39 => k_is)
    (case a40 => k_is); (case l40 => k_is); (case c40 => k_is); (case k40 => k_is)
    (case a41 => k_is); (case l41 => k_is); (case c41 => k_is); (case k41 => k_is)
    (case a42 => k_is); (case l42 => k_is); (case c42 => k_is); (case k42 => k_is)
    (case a43 => k_is); (case l43 => k_is); (case c43 => k_is); (case k43 => k_is)
    (case z_int => k_is)
    (case z_len => k_is)
    (case z_abs => k_is)
    (case z_range => k_is)
    (case z_zip => k_is)
    (case z_all => k_is)
    (case z_isinstance => k_is)
    (case z_bool => k_is)
    (case z_str => k_is)
    (case z_tuple => k_is)
    (case z_list => k_is)
    (case z_dict => k_is)
    (case z_sorted => k_is)
    (case z_set => k_is)
    (case zc_LONG => k_is)
    (case zc_ZERO => k_is)
    (case lz_ZERO => k_is)
    (case t10 => k_is)

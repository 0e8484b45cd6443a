import PyProof.Rows.All
import Wide.All
import OpenK.AllK
import Wide.FinOn
import HandS.Base
import HandS.Call
import HandS.List
import HandS.Comp
import HandS.Ends
import HandS.Words
import HandS.WordsList
import HandS.Codes
import HandS.Wide
import HandS.Iter
import HandS.Zip
import HandS.Star
import HandS.More
import HandS.IsInst
import HandS.Conv
import HandS.NoneIn
import HandS.WideBits
import HandS.Defaults
import HandS.Text
import HandS.StrMore
import HandS.Style
import HandS.SetTxt0
import HandS.Set
import HandS.Strs
import HandS.Dict
import HandS.DictComp
import HandS.Deep
import PyProof.ListStr
import PyProof.StrBlock2
import KE.IntTextText
import KE.KDictPairs
import PySem.Challenge.RW_tiespan_k27_certificates_judged
set_option Elab.async false
set_option linter.all false
set_option maxRecDepth 100000
set_option maxHeartbeats 4000000
namespace EK
open PySem PySem.Spec PyProof.Rows L2
/-! ### list(text); text * number -/
theorem call_list_text {X : Cx} (hc : X.calm = true) : CallR X (.type "list") (fun xs H Q => ∃ z : Str, xs = [.str z] ∧ z.length ≤ sizeLine ∧ ∀ p, H p = none → Q (.ref p) (upd H p (.lst (z.cps.toList.map fun c => V.str ⟨#[c]⟩)))) := by
  intro pn s σ H xs us Q I r h
  obtain ⟨z, e, hz, q⟩ := h
  subst e
  obtain ⟨u, eu, rx⟩ := vals1 r
  subst eu
  obtain ⟨t, rfl⟩ := rx
  refine call_list_str (I.ok.hd hc) z t (fun h' tk acc' c' hkeep hS hacc => ?_) hz
  refine ⟨.ref s.heap.objs.size, upd H s.heap.objs.size (.lst (z.cps.toList.map fun c => V.str ⟨#[c]⟩)), I.laid hkeep (Nat.le_refl _) (show ObjOk X.prog X.w _ _ _ (.lst (z.cps.toList.map fun c => V.str ⟨#[c]⟩)) from ⟨?_, acc'.toList, c', ?_, ?_⟩), rfl, q _ (I.hok.fresh (Nat.le_refl _))⟩
  · rw [List.length_map]
    exact hz
  · refine vals_of_idx _ _ (by rw [List.length_map, Array.length_toList, Array.length_toList, hacc.1]) fun j v hj => ?_
    obtain ⟨c, u, hc2, rfl⟩ := hacc.2 j v (by rw [← Array.getElem?_toList]; exact hj)
    refine ⟨.str ⟨#[c]⟩, ?_, ⟨_, rfl⟩⟩
    rw [List.getElem?_map, Array.getElem?_toList, hc2]
    rfl
  · exact hS
theorem op_mul_str {X : Cx} : OpR X (binaryOp .Mult) (fun x y H Q => ∃ (z : Str) (n : Int), x = .str z ∧ y = .int n ∧ MulOk z n ∧ Q (.str (Txt.mul z n)) H) := by
  intro pn s σ H x y v u Q I rx ry h
  obtain ⟨z, n, rfl, rfl, hz, q⟩ := h
  obtain ⟨t, rfl⟩ := rx
  obtain ⟨t', rfl⟩ := ry
  exact PySem.SB.mul hz fun t' tk => ⟨.str (Txt.mul z n), H, I.tok _, ⟨_, rfl⟩, q⟩
/-! ### sets of texts: what an add keeps -/
open PySem.Froz
structure TxW (P : Program) (w : World) (D : SD) (l : List Str) : Prop where
  ok : TxOk P w D l
  ris : Ris D.2.2.place.toList
  led : w.params.followText "set-order" = true ∨ D.2.2.led = true
theorem tail_keeps {ep : Nat} {es : Array (Int × Value)} {t : SetTable} {b : Bool} (r : Ris t.place.toList) : Ris (tailTx ep es t b).2.2.place.toList ∧ (tailTx ep es t b).2.2.led = t.led := by
  unfold tailTx
  split
  · exact ⟨relayAll_ris t es _, relayAll_led t es _⟩
  · exact ⟨r, rfl⟩
theorem add_keeps {D : SD} {h : Int} {v : Value} (r : Ris D.2.2.place.toList) : Ris (addTx h v D).2.2.place.toList ∧ (addTx h v D).2.2.led = D.2.2.led := by
  have r1 := layNew_ris D.2.2 D.1 h v r
  have l1 := layNew_led D.2.2 D.1 h v
  have key : ∀ t : SetTable, Ris t.place.toList → t.led = D.2.2.led → Ris (if t.plain = true then { t with plain := false } else t).place.toList ∧ (if t.plain = true then { t with plain := false } else t).led = D.2.2.led := fun t a b => by
    split <;> exact ⟨a, b⟩
  obtain ⟨k1, k2⟩ := key _ r1 l1
  obtain ⟨t1, t2⟩ := tail_keeps (ep := D.2.1) (es := (layNew D.2.2 D.1 h v).1) (b := (layNew D.2.2 D.1 h v).2.2.1) k1
  exact ⟨t1, t2.trans k2⟩
theorem TxW.add {P : Program} {w : World} {D : SD} {l : List Str} {k : Str} (u : Tok) (F : TxW P w D l) : TxW P w (addTx (hashStr w k) (.str k u) D) (k :: l) := by
  obtain ⟨a, b⟩ := add_keeps (D := D) (h := hashStr w k) (v := .str k u) F.ris
  exact ⟨add_ok u F.ok, a, F.led.imp id fun z => b.trans z⟩
section
variable {A : Around} {s : Shared} {P : Program} {w : World} {E : Value → Shared → Prop}
/-- a text that is there already -/
theorem add_there {a : Addr} {T : String} {D : SD} {l : List Str} {k : Str} {u : Tok} {Q : Bool → Shared → Prop} (ho : s.heap.get? a = some (sObj T D)) (F : TxOk P w D l) (hk : k ∈ l) (hb : l.length < scanBound)
    (h : Q false s) : wpAny (model P w) A (setAddHashed a (.str k u) (hashStr w k)) Q E s := by
  obtain ⟨es, ep, t⟩ := D
  obtain ⟨el, mem, sz, fit⟩ := F
  obtain ⟨e, he, hp⟩ := (mem k).mp hk
  have small : es.size < scanBound := Nat.lt_of_le_of_lt (Nat.le_of_eq sz) hb
  obtain ⟨j, hj⟩ : ∃ j, List.findIdx? (fun e => (strKind P w).is k e.2) es.toList = some j := by
    cases q : List.findIdx? (fun e => (strKind P w).is k e.2) es.toList with
    | some j => exact ⟨j, rfl⟩
    | none =>
      have c := List.findIdx?_eq_none_iff.mp q e he
      rw [hp] at c
      cases c
  unfold setAddHashed; unfold setAddHashedIn
  refine wpAny_holding (wpAny_bind (wpAny_setState_of ho (ep := ep) (es := es) (t := t) rfl fit ?_))
  dsimp only
  rw [byScan_of rfl small el, if_pos rfl]
  unfold setAddByScan
  refine wpAny_bind (wpAny_bind (wpAny_rule (wpAny_bind (wpAny_setScan_of (knd := strKind P w) (k := k) (is_str k u) ho rfl fit el ?_))))
  rw [hj]
  exact wpAny_pure <| wpAny_pure h
/-- either way -/
def ins (k : Str) (l : List Str) : List Str := if k ∈ l then l else k :: l
theorem add_any {a : Addr} {T : String} {D : SD} {l : List Str} {k : Str} {u : Tok} {Q : Bool → Shared → Prop} (ho : s.heap.get? a = some (sObj T D)) (F : TxW P w D l) (hb : l.length + 1 < scanBound)
    (h : ∀ b h' D', TxW P w D' (ins k l) → h'.get? a = some (sObj T D') → (∀ c o, c ≠ a → s.heap.get? c = some o → h'.get? c = some o) → h'.objs.size = s.heap.objs.size → Q b { s with heap := h' }) : wpAny (model P w) A (setAddHashed a (.str k u) (hashStr w k)) Q E s := by
  by_cases hk : k ∈ l
  · refine add_there ho F.ok hk (by omega) (h false s.heap D ?_ ho (fun _ _ _ e => e) rfl)
    unfold ins
    rw [if_pos hk]
    exact F
  · refine add_x ho F.ok hk hb (h true _ _ ?_ (get_upd _ ho rfl) (fun c o hc e => ?_) ?_)
    · unfold ins
      rw [if_neg hk]
      exact F.add u
    · exact (Heap.get?_update_other _ _ (Ne.symm hc)).trans e
    · exact Heap.size_update _ _ _
end
def insAll : List Str → List Str → List Str
  | [], l => l
  | x :: xs, l => insAll xs (ins x l)
theorem ins_len (x : Str) (l : List Str) : (ins x l).length ≤ l.length + 1 := by
  unfold ins
  split
  · omega
  · exact Nat.le_refl _
theorem ins_mem (x y : Str) (l : List Str) : y ∈ ins x l ↔ y = x ∨ y ∈ l := by
  unfold ins
  split
  · rename_i h
    exact ⟨.inr, fun z => z.elim (fun e => e ▸ h) id⟩
  · exact List.mem_cons
theorem ins_nodup {x : Str} {l : List Str} (h : l.Nodup) : (ins x l).Nodup := by
  unfold ins
  split
  · exact h
  · rename_i n
    exact List.nodup_cons.mpr ⟨n, h⟩
theorem insAll_mem (y : Str) : ∀ xs l : List Str, y ∈ insAll xs l ↔ y ∈ xs ∨ y ∈ l
  | [], l => by simp [insAll]
  | x :: xs, l => by
    show y ∈ insAll xs (ins x l) ↔ _
    rw [insAll_mem y xs, ins_mem, List.mem_cons]
    constructor
    · rintro (h | h | h)
      · exact .inl (.inr h)
      · exact .inl (.inl h)
      · exact .inr h
    · rintro ((h | h) | h)
      · exact .inr (.inl h)
      · exact .inl h
      · exact .inr (.inr h)
theorem insAll_nodup : ∀ (xs : List Str) {l : List Str}, l.Nodup → (insAll xs l).Nodup
  | [], _, h => h
  | _ :: xs, _, h => insAll_nodup xs (ins_nodup h)
theorem insAll_len : ∀ (xs l : List Str), (insAll xs l).length ≤ xs.length + l.length
  | [], l => by simp [insAll]
  | x :: xs, l => by
    have h1 := insAll_len xs (ins x l)
    have h2 := ins_len x l
    show (insAll xs (ins x l)).length ≤ xs.length + 1 + l.length
    omega
section
variable {prog : Program} {w : World} {A : Around} {R : Result → Shared → Prop} {I : Addr} {fp wr : List Addr} {G : Array GenState → Array GenState → Prop} {n : Nat} {Pv : Nat → Value → Prop} {St : Nat → Shared → Prop}
theorem upd_loop (W : WalksS prog w A.in1 I fp wr G n Pv St) (a : Addr) (hf : a ∉ fp) (xs : List Str) (hl : xs.length = n) (hv : ∀ i v, Pv i v → ∃ t, v = .str (xs.getD i Str.empty) t) (hb : n + 1 < scanBound) :
    ∀ (k i : Nat) (s : Shared) (D : SD) (l : List Str), n - i = k → i ≤ n → l.length ≤ i → St i s → s.heap.get? a = some (sObj "set" D) → TxW prog w D l →
      (∀ s' D', Moved (a :: wr) G s s' → s'.heap.get? a = some (sObj "set" D') → TxW prog w D' (insAll (xs.drop i) l) → R (.ok (.ret .none)) s') →
      codeAny (model prog w) A (.builtin "set.update.loop" ⟨[.ref a, .ref I], []⟩) R s := by
  have haw : a ∉ wr := fun h => hf (W.sub _ h)
  have more : ∀ b ∈ wr, b ∈ a :: wr := fun b h => List.mem_cons_of_mem _ h
  intro k
  induction k with
  | zero =>
    intro i s D l hk hi _ hst ho F hR
    have e : i = n := by omega
    refine codeAny_builtin PyProof.Rows.F.entry_set_update_loop (by
      rw [(Around.under_plainId PyProof.Rows.F.plain_set_update_loop _)]
      refine wpAny_bind (W.done s _ _ (e ▸ hst) fun s' hm => wpAny_pure (hR s' D (hm.mono more) (hm.heap a _ haw ho) ?_))
      rw [e, ← hl, List.drop_length]
      exact F)
  | succ k ih =>
    intro i s D l hk hi hll hst ho F hR
    have lt : i < n := by omega
    refine codeAny_builtin PyProof.Rows.F.entry_set_update_loop (by
      rw [(Around.under_plainId PyProof.Rows.F.plain_set_update_loop _)]
      refine wpAny_bind (W.item i s _ _ lt hst fun v s1 hp hst1 hm => ?_)
      obtain ⟨t, rfl⟩ := hv i v hp
      have ho1 := hm.heap a _ haw ho
      show wpAny _ A.in1 (holding [Value.str (xs.getD i Str.empty) t] (setAdd a (.str (xs.getD i Str.empty) t)) >>= _) _ _ s1
      refine wpAny_bind (wpAny_holding (by
        unfold setAdd
        refine wpAny_holding (wpAny_bind ((strKind prog w).pyHash (k := xs.getD i Str.empty) (is_str _ _) ?_))
        refine add_any (s := { s1 with toks := s1.toks + 1 }) ho1 F (by omega) fun b h2 D2 F2 ho2 oth sz => ?_
        have hd : xs.drop i = xs.getD i Str.empty :: xs.drop (i + 1) := by
          have : i < xs.length := by omega
          rw [List.drop_eq_getElem_cons this]
          congr 1
          rw [List.getD_eq_getElem?_getD, List.getElem?_eq_getElem this]
          rfl
        have il := ins_len (xs.getD i Str.empty) l
        refine wpAny_pure ⟨plainId_quiet PyProof.Rows.F.plain_set_update_loop _, ih (i + 1) _ D2 _ (by omega) lt (by omega) (W.frame _ s1 _ _ hst1 (Nat.le_succ _) fun b hb o e => oth b o (fun z => hf (z ▸ hb)) e) ho2 F2 fun s3 D3 hm3 ho3 F3 => ?_⟩
        refine hR s3 D3 (Moved.trans W.gtrans ((hm.mono more).then_heap (Nat.le_succ _) fun b o hb e => oth b o (fun z => hb (by rw [z]; exact List.mem_cons_self)) e) hm3) ho3 ?_
        rw [hd]
        exact F3)))
end
section
variable {A : Around} {s : Shared} {prog : Program} {w : World} {E : Value → Shared → Prop}
/-- a new set's table -/
abbrev tb0 (w : World) : SetTable := .fresh 0 0 (!w.params.followText "set-order")
theorem new_keeps (P : Program) (w : World) : TxW P w (#[], 0, tb0 w) [] := by
  refine ⟨TxOk.nil (by rfl), List.Pairwise.nil, ?_⟩
  show (_ ∨ (!w.params.followText "set-order") = true)
  cases w.params.followText "set-order" <;> simp
theorem code_new1 (x : Value) {Q₁ : Value → Shared → Prop} (h : Q₁ (.ref s.heap.objs.size) { s with heap := s.heap.push (sObj "set" (#[], 0, tb0 w)) }) :
    codeAny (model prog w) A (.call (.builtin "set.__new__") ⟨[.type "set", x], []⟩) (wants Q₁ E) s := by
  refine codeAny_of_tree (wpAny_bind (wpAny_of_eq (PySem.F.newCall_set_1 x) (wpAny_pure ⟨plainId_quiet PySem.F.plain_set_new _, codeAny_builtin PySem.F.entry_set_new (by
    rw [Around.under_plainId PySem.F.plain_set_new _]
    unfold Builtin.«set.__new__»; unfold Builtin.Frozenset.newClass
    have self := PySem.sub_set_self
    obtain ⟨hp0, g0, d0, tk0, os0⟩ := s
    dsimp only
    wp_walk
    refine wpAny_askSetting (wpAny_pure (by
      dsimp only
      simp only [newObj]
      exact wpAny_bind (wpAny_alloc (wpAny_pure (wpAny_pure h))))))⟩)))
theorem str_at : ∀ {us : List Value} {ys : List Str}, StrsAre us ys → ∀ (i : Nat) (v : Value), us[i]? = some v → ∃ t, v = .str (ys.getD i Str.empty) t
  | _, _, .cons y t _, 0, v, e => ⟨t, (Option.some.inj e).symm⟩
  | _, _, .cons _ _ r, i + 1, v, e => str_at r i v e
theorem call_set_texts {l : Addr} {items : Array Value} {xs : List Str} {Q : Value → Shared → Prop} (hh : A.handled = none) (hl : s.heap.IsList l items) (hi : StrsAre items.toList xs) (hb : xs.length + 1 < scanBound)
    (h : ∀ (h' : Heap) (tk : Nat) (D : SD), TxW prog w D (insAll xs []) → h'.get? s.heap.objs.size = some (sObj "set" D) → (∀ b o, b < s.heap.objs.size → s.heap.get? b = some o → h'.get? b = some o) → Q (.ref s.heap.objs.size) { s with heap := h', toks := tk }) :
    (wpAny (model prog w) A (call (.type "set") [.ref l]) Q E s) := by
  obtain ⟨c, tl, mro⟩ := PySem.F.called_set.mro
  have made := PySem.F.called_set.made; have subs := PySem.F.called_set.sub
  refine wpAny_call (codeAny_of_tree (wpAny_pure ⟨Code.quiet_builtin _ (by decide +kernel), codeAny_builtin PySem.F.entry_type_call (by
    rw [(Around.under_plain (weight_type_call_type "set" [.ref l] []) rfl)]
    have n1 := PySem.F.called_set.notType; have n2 := PySem.F.called_set.canCreate; have n3 := PySem.F.typeCall_set_1 (.ref l)
    repeat (any_goals first | assumption | wp_step)
    refine codeAny_mono (code_new1 (.ref l) (E := E) (Q₁ := fun obj s1 => obj = .ref s.heap.objs.size ∧ s1 = { s with heap := s.heap.push (sObj "set" (#[], 0, tb0 w)) }) ⟨rfl, rfl⟩) fun r s1 hr => ?_
    match r, hr with
    | .error e, hr => exact hr
    | .ok (.ret obj), hr =>
      obtain ⟨rfl, rfl⟩ := hr
      have hN : (s.heap.push (sObj "set" (#[], 0, tb0 w))).get? s.heap.objs.size = some (sObj "set" (#[], 0, tb0 w)) := Heap.get?_push_size _ rfl
      have hT : Shared.TypeIs { s with heap := s.heap.push (sObj "set" (#[], 0, tb0 w)) } (.ref s.heap.objs.size) "set" := ⟨_, hN, rfl⟩
      have i1 := PySem.F.called_set.init.lookup; have i2 := PySem.F.called_set.init.bind (.ref s.heap.objs.size)
      repeat (any_goals first | assumption | wp_step)
      refine codeAny_mono (codeAny_call_builtin (R := wants (fun r s2 => r = .none ∧ ∃ h' tk D, s2 = { s with heap := h', toks := tk } ∧ TxW prog w D (insAll xs []) ∧ h'.get? s.heap.objs.size = some (sObj "set" D) ∧
          (∀ b o, b < s.heap.objs.size → s.heap.get? b = some o → h'.get? b = some o)) E) PySem.F.called_set.init.plain PySem.F.entry_set_init (check_set_init_1 hT ?_)) fun r2 s2 hr2 => ?_
      · obtain ⟨⟨oc, od, da, os⟩, ho, hc, nl, hd⟩ := hl
        simp only at hc hd
        subst hc hd
        have ho2 : (s.heap.push (sObj "set" (#[], 0, tb0 w))).get? l = some { cls := .type "list", dict := od, data := .seq items nl, slots := os } := Heap.get?_push_of_some _ ho
        have q1 := PySem.F.sub_list_set; have q2 := PySem.F.sub_list_frozenset; have q3 : (Value.type "list" == Value.type "dict") = false := by decide
        have hl1 : (s.heap.push (sObj "set" (#[], 0, tb0 w))).IsList l items := ⟨_, ho2, rfl, nl, rfl⟩
        unfold Builtin.«set.__init__»; unfold noKeywords; unfold Builtin.Frozenset.updateFrom
        generalize hPI : pyIter = PI
        wp_walk
        subst hPI
        refine wpAny_pyIter_list hl1 (wpAny_bind (wpAny_runValue ?_))
        have lS : l < s.heap.objs.size := Heap.lt_size ho
        have h3 : A.in1.in1.in1.handled = none := by simp [hh]
        have neI : l ≠ (s.heap.push (sObj "set" (#[], 0, tb0 w))).objs.size := by
          rw [Heap.size_push]
          exact Nat.ne_of_lt (Nat.lt_succ_of_lt lS)
        have nfp : s.heap.objs.size ∉ [(s.heap.push (sObj "set" (#[], 0, tb0 w))).objs.size, l] := by
          rw [Heap.size_push]
          intro z
          rcases (List.mem_cons.mp z) with z | z
          · omega
          · rw [List.mem_singleton] at z
            exact absurd z (Nat.ne_of_gt lS)
        have len : xs.length = items.size := by rw [← StrsAre.len_eq hi, Array.length_toList]
        refine upd_loop ((Walks.list h3 _ l neI items).toS) s.heap.objs.size nfp xs len (fun i v hv => str_at hi i v (by rw [Array.getElem?_toList]; exact hv)) (by omega) (items.size - 0) 0 _ (#[], 0, tb0 w) [] (by omega) (Nat.zero_le _) (Nat.le_refl _)
          ⟨⟨_, Heap.get?_push_size _ rfl, rfl, rfl⟩, hl1.push _⟩ (Heap.get?_push_of_some _ hN) (new_keeps _ _) fun s3 D3 hm ho3 F3 => ?_
        obtain ⟨h', g', d', tk', os'⟩ := s3
        obtain rfl : g' = s.gens := hm.gens
        obtain rfl : d' = s.drawn := hm.drawn
        obtain rfl : os' = s.os := hm.os
        refine wpAny_pure (wpAny_pure ⟨rfl, h', tk', D3, rfl, F3, ho3, fun b o hb e => hm.heap b o (fun z => ?_) (Heap.get?_push_of_some _ (Heap.get?_push_of_some _ e))⟩)
        rcases (List.mem_cons.mp z) with z | z
        · exact absurd z (Nat.ne_of_lt hb)
        · rw [List.mem_singleton, Heap.size_push] at z
          exact absurd z (Nat.ne_of_lt (Nat.lt_succ_of_lt hb))
      · match r2, hr2 with
        | .error e, hr2 => exact hr2
        | .ok (.ret v), hr2 =>
          obtain ⟨rfl, h', tk, D, rfl, F, ho3, hold⟩ := hr2
          repeat (any_goals first | assumption | wp_step)
          exact h _ _ _ F ho3 hold
        | .ok .next, hr2 => exact hr2.elim
        | .ok .brk, hr2 => exact hr2.elim
        | .ok .cont, hr2 => exact hr2.elim
    | .ok .next, hr => exact hr.elim
    | .ok .brk, hr => exact hr.elim
    | .ok .cont, hr => exact hr.elim)⟩))
end
/-- the set at a holds the texts l -/
def SetW (P : Program) (w : World) (a : Addr) (l : List Str) : HO := .ext fun h => ∃ D, h.get? a = some (sObj "set" D) ∧ TxW P w D l
theorem setW_ok {P : Program} {w : World} {H : Hp} {h : Heap} {a : Addr} {D : SD} {l : List Str} (ho : h.get? a = some (sObj "set" D)) (F : TxW P w D l) : ObjOk P w H h a (SetW P w a l) :=
  ⟨⟨D, ho, F⟩, ⟨_, ho⟩, fun h1 h2 z k => by
    obtain ⟨D', e, F'⟩ := z
    exact ⟨D', k _ e, F'⟩⟩
theorem perm_of : ∀ (l ys : List Str), l.Nodup → (∀ y ∈ l, y ∈ ys) → ys.length = l.length → ys.Perm l
  | [], ys, _, _, e => by
    rw [List.length_eq_zero_iff.mp e]
  | y :: l, ys, n, h, e => by
    obtain ⟨n1, n2⟩ := List.nodup_cons.mp n
    obtain ⟨p, q, rfl⟩ := List.append_of_mem (h y List.mem_cons_self)
    have pm : (p ++ y :: q).Perm (y :: (p ++ q)) := List.perm_middle
    refine pm.trans (List.Perm.cons y (perm_of l (p ++ q) n2 (fun z hz => ?_) ?_))
    · have zy : z ≠ y := fun c => n1 (c ▸ hz)
      rcases List.mem_append.mp (h z (List.mem_cons_of_mem _ hz)) with c | c
      · exact List.mem_append_left _ c
      · rcases List.mem_cons.mp c with c | c
        · exact absurd c zy
        · exact List.mem_append_right _ c
    · simp only [List.length_append, List.length_cons] at e ⊢
      omega
theorem strs_are : ∀ (vs : List Value), (∀ v ∈ vs, ∃ y t, v = Value.str y t) → ∃ ys, StrsAre vs ys
  | [], _ => ⟨[], .nil⟩
  | v :: vs, h => by
    obtain ⟨y, t, rfl⟩ := h _ List.mem_cons_self
    obtain ⟨ys, r⟩ := strs_are vs fun u hu => h u (List.mem_cons_of_mem _ hu)
    exact ⟨y :: ys, .cons y t r⟩
theorem strs_mem : ∀ {vs : List Value} {ys : List Str}, StrsAre vs ys → ∀ y t, Value.str y t ∈ vs → y ∈ ys
  | _, _, .cons z u r, y, t, h => by
    rcases (List.mem_cons.mp h) with e | e
    · injection e with e1 e2
      rw [e1]
      exact List.mem_cons_self
    · exact List.mem_cons_of_mem _ (strs_mem r y t e)
section
variable {X : Cx}
/-- set(xs), xs a list of texts -/
theorem cr_setS (hc : X.calm = true) : CallR X (.type "set") (fun vs H Q => ∃ (p : Addr) (ys : List Str), vs = [.ref p] ∧ SqL X.K H p (ys.map V.str) ∧ ys.length ≤ 1000 ∧ ∀ q, H q = none → Q (.ref q) (upd H q (SetW X.prog X.w q (insAll ys [])))) := by
  intro pn s σ H vs us Q I r h
  obtain ⟨p, ys, rfl, hq, hz, q⟩ := h
  rw [Vals.ref1 r]
  obtain ⟨its, rv, pl, _⟩ := I.list hq
  refine call_set_texts (I.ok.hd hc) pl.isList (by simpa using L2.strsAre_of rv) (by unfold scanBound; omega) fun h' tk D F ho keep => ?_
  exact ⟨.ref _, _, I.laid (t' := tk) (fun b o e => keep b o (Heap.lt_size e) e) (Nat.le_refl _) (setW_ok ho F), rfl, q _ (I.hok.fresh (Nat.le_refl _))⟩
/-- sorted(S), S a set of texts -/
theorem cr_sortedW (hc : X.calm = true) : CallR X (.builtin "sorted") (fun vs H Q => ∃ (a : Addr) (l : List Str), vs = [.ref a] ∧ H a = some (SetW X.prog X.w a l) ∧ l.Nodup ∧ l.length < 64 ∧
    ∀ (ys : List Str) (p : Addr), ys.Perm l → sortedS ys = true → H p = none → Q (.ref p) (upd H p (.lst (ys.map V.str)))) := by
  intro pn s σ H vs us Q I r h
  obtain ⟨a, l, rfl, ha, nd, l64, q⟩ := h
  rw [Vals.ref1 r]
  obtain ⟨⟨es, ep, t⟩, ho, F⟩ := (I.hok a _ ha).1
  have sz : es.size = l.length := F.ok.sz
  have small : es.size < scanBound := by unfold scanBound; omega
  refine Calls.call_function_entry PyProof.Rows.kind_sorted PyProof.Rows.plain_sorted PyProof.Rows.entry_sorted (PyProof.Rows.args_sorted1 _) (by
    unfold Builtin.«sorted»
    refine wpAny_bind (m := checkCount "sorted" 1 1 _) (wpAny_pure (wpAny_bind (collect_set (A := X.A.in1) (I.ok.hd hc) ⟨_, ho, rfl, rfl⟩ F.ok.fit small F.ris F.led fun s1 out k1 hz g1 o1 pm => ?_)))
    have all : ∀ v ∈ out, ∃ y u, v = Value.str y u := fun v hv => by
      obtain ⟨e, he, rfl⟩ := List.mem_map.mp (pm.mem_iff.mp hv)
      obtain ⟨⟨k, hk, _⟩, _⟩ := F.ok.el e he
      obtain ⟨u, ev⟩ := Value.isStrOf_shape (x := k) (v := e.2) hk
      exact ⟨k, u, ev⟩
    obtain ⟨zs, hS⟩ := strs_are out all
    have len : out.length = es.size := by rw [pm.length_eq, List.length_map, Array.length_toList]
    have zl : zs.length = l.length := by rw [← hS.len_eq, len, sz]
    have zp : zs.Perm l := perm_of l zs nd (fun y hy => by
      obtain ⟨e, he, z⟩ := (F.ok.mem y).mp hy
      obtain ⟨u, ev⟩ := Value.isStrOf_shape (x := y) (v := e.2) z
      refine strs_mem hS y u (pm.mem_iff.mpr ?_)
      rw [← ev]
      exact List.mem_map.mpr ⟨e, he, rfl⟩) zl
    have o64 : out.length < 64 := by rw [len, sz]; exact l64
    have hoL : (s1.heap.push (seqObj "list" out.toArray 0)).get? s1.heap.objs.size = some (seqObj "list" out.toArray 0) := Heap.get?_push_size _ rfl
    refine wpAny_bind (wpAny_newList (wpAny_bind (wpAny_holding (wpAny_call_entry PyProof.Rows.slot_list_sort ⟨_, hoL, rfl⟩ PyProof.Rows.entry_list_sort
      (list_sort_treeK strKind_oneLt (s := { s1 with heap := s1.heap.push (seqObj "list" out.toArray 0) }) hoL hS.keysOf (fun v₁ v₂ rest e => keyKind_strs (by rw [← e]; exact hS)) o64 fun st' hp hs => ⟨_, rfl, by
        obtain ⟨ys, r1, r2, r3⟩ := sorted_out_str hS hp hs
        obtain ⟨c, hc2⟩ := PyProof.Rows.sortedHeap_at (vs := out) (out := (arrOf st').map (·.2)) hoL
        have hn : H s1.heap.objs.size = none := I.hok.fresh hz
        have ylen : (ys.map V.str).length ≤ sizeLine := by
          rw [List.length_map, r2.length_eq, zl]
          exact Nat.le_trans (Nat.le_of_lt l64) (by decide)
        have k2 : ∀ b u, s.heap.get? b = some u → (PyProof.Rows.sortedHeap (s1.heap.push (seqObj "list" out.toArray 0)) s1.heap.objs.size out ((arrOf st').map (·.2))).get? b = some u := fun b u e => by
          have lt := Heap.lt_size (k1 b u e)
          rw [PyProof.Rows.sortedHeap_old (Nat.ne_of_lt lt) (by rw [size_push']; exact Nat.lt_succ_of_lt lt)]
          exact Heap.get?_push_of_some _ (k1 b u e)
        obtain ⟨hp1, gn1, dr1, tk1, os1⟩ := s1
        dsimp only at g1 o1 hn k2 hc2 ⊢
        subst g1 o1
        refine wpAny_pure ⟨_, rfl, .ref hp1.objs.size, upd H hp1.objs.size (.lst (ys.map V.str)), ?_, rfl, q ys _ (r2.trans zp) r3 hn⟩
        exact I.call (ch := []) (Un.laid k2 hz hn) (I.hok.laid k2 hz ⟨ylen, ((arrOf st').map (·.2)).toList, c, vals_of_strs r1, by rw [Array.toArray_toList]; exact hc2⟩) I.bare (fun _ z => nomatch z)⟩) (PyProof.Rows.args_list_sort _)))) (by rw [sizeLine_eq]; omega)))
end
/-! ### names: the plain mathematics -/
def lowc (c : Nat) : Bool := decide (97 ≤ c) && decide (c ≤ 122)
def upc (c : Nat) : Bool := decide (65 ≤ c) && decide (c ≤ 90)
theorem uni_alpha : ∀ c : Nat, c < 128 → Unicode.isAlpha c = (lowc c || upc c) := by decide +kernel
theorem uni_lower : ∀ c : Nat, c < 128 → Unicode.isLower c = lowc c := by decide +kernel
theorem uni_upper : ∀ c : Nat, c < 128 → (Unicode.isUpper c || Unicode.isTitle c) = upc c := by decide +kernel
/-- the letters of a name -/
def letB (a : List Nat) : Bool := !a.isEmpty && a.all lowc
theorem lower_letters (a : List Nat) : (Txt.isascii (SX.S a) && (Txt.isalpha (SX.S a) && Txt.islower (SX.S a))) = letB a := by
  have e1 : Txt.isascii (SX.S a) = a.all (fun c => decide (c < 128)) := by
    unfold Txt.isascii
    rw [← Array.all_toList]
  have e2 : Txt.isalpha (SX.S a) = (!a.isEmpty && a.all Unicode.isAlpha) := by
    unfold Txt.isalpha
    rw [← Array.all_toList, SX.S_len]
    cases a <;> rfl
  have e3 : Txt.islower (SX.S a) = (a.any Unicode.isLower && !a.any fun c => Unicode.isUpper c || Unicode.isTitle c) := by
    unfold Txt.islower
    rw [← Array.any_toList, ← Array.any_toList]
  rw [e1, e2, e3]
  unfold letB
  cases h : a.all (fun c => decide (c < 128))
  · rw [Bool.false_and]
    symm
    rw [Bool.and_eq_false_iff]
    refine .inr (Bool.eq_false_iff.mpr fun z => ?_)
    have z2 := List.all_eq_true.mp z
    have : a.all (fun c => decide (c < 128)) = true := List.all_eq_true.mpr fun c hc => decide_eq_true (by
      have q := z2 c hc
      unfold lowc at q
      rw [Bool.and_eq_true, decide_eq_true_eq, decide_eq_true_eq] at q
      omega)
    rw [h] at this
    cases this
  · rw [Bool.true_and]
    have h3 : ∀ c ∈ a, c < 128 := fun c hc => of_decide_eq_true (List.all_eq_true.mp h c hc)
    have a1 : a.all Unicode.isAlpha = a.all (fun c => lowc c || upc c) := by
      rw [Bool.eq_iff_iff, List.all_eq_true, List.all_eq_true]
      exact ⟨fun q c hc => by rw [← uni_alpha c (h3 c hc)]; exact q c hc, fun q c hc => by rw [uni_alpha c (h3 c hc)]; exact q c hc⟩
    have a2 : a.any Unicode.isLower = a.any lowc := by
      rw [Bool.eq_iff_iff, List.any_eq_true, List.any_eq_true]
      exact ⟨fun ⟨c, hc, q⟩ => ⟨c, hc, by rw [← uni_lower c (h3 c hc)]; exact q⟩, fun ⟨c, hc, q⟩ => ⟨c, hc, by rw [uni_lower c (h3 c hc)]; exact q⟩⟩
    have a3 : (a.any fun c => Unicode.isUpper c || Unicode.isTitle c) = a.any upc := by
      rw [Bool.eq_iff_iff, List.any_eq_true, List.any_eq_true]
      exact ⟨fun ⟨c, hc, q⟩ => ⟨c, hc, by rw [← uni_upper c (h3 c hc)]; exact q⟩, fun ⟨c, hc, q⟩ => ⟨c, hc, by rw [uni_upper c (h3 c hc)]; exact q⟩⟩
    rw [a1, a2, a3]
    have dis : ∀ c : Nat, lowc c = true → upc c = false := fun c q => by
      unfold lowc at q
      unfold upc
      rw [Bool.and_eq_true, decide_eq_true_eq, decide_eq_true_eq] at q
      rw [Bool.and_eq_false_iff, decide_eq_false_iff_not, decide_eq_false_iff_not]
      omega
    rw [Bool.eq_iff_iff]
    simp only [Bool.and_eq_true, Bool.not_eq_true', List.any_eq_true, List.all_eq_true, Bool.or_eq_true]
    constructor
    · rintro ⟨⟨n, al⟩, _, nu⟩
      refine ⟨n, fun c hc => ?_⟩
      rcases al c hc with q | q
      · exact q
      · exfalso
        have : a.any upc = true := List.any_eq_true.mpr ⟨c, hc, q⟩
        rw [nu] at this
        cases this
    · rintro ⟨n, al⟩
      refine ⟨⟨n, fun c hc => .inl (al c hc)⟩, ?_, ?_⟩
      · cases a with
        | nil => cases n
        | cons c r => exact ⟨c, List.mem_cons_self, al c List.mem_cons_self⟩
      · refine Bool.eq_false_iff.mpr fun q => ?_
        obtain ⟨c, hc, q⟩ := List.any_eq_true.mp q
        rw [dis c (al c hc)] at q
        cases q
/-- without one apostrophe at the end -/
def cutQ (a : List Nat) : List Nat := if a.getLast? = some 39 then a.dropLast else a
def nameB (a : List Nat) : Bool := decide ((cutQ a).length ≤ 6) && letB (cutQ a)
theorem last_at (b : List Nat) (c : Nat) : PySem.Builtin.Str.subAt (SX.S (b ++ [c])) (SX.S [39]) ((SX.S (b ++ [c])).length - (SX.S [39]).length) = decide (c = 39) := by
  have e : (SX.S (b ++ [c])).cps.extract ((SX.S (b ++ [c])).length - (SX.S [39]).length) ((SX.S (b ++ [c])).length - (SX.S [39]).length + (SX.S [39]).length) = [c].toArray := by
    rw [SX.S_len, SX.S_len, List.length_append]
    simp [List.extract]
  show ((SX.S (b ++ [c])).cps.extract ((SX.S (b ++ [c])).length - (SX.S [39]).length) ((SX.S (b ++ [c])).length - (SX.S [39]).length + (SX.S [39]).length) == (SX.S [39]).cps) = _
  rw [e]
  by_cases h : c = 39
  · subst h
    rfl
  · rw [decide_eq_false h, beq_eq_false_iff_ne]
    intro z
    exact h (List.cons.inj (congrArg Array.toList z)).1
theorem rem_quote (a : List Nat) : Txt.removesuffix (SX.S a) (SX.S [39]) = SX.S (cutQ a) := by
  have e := eq_of_beq (PyProof.Rows.removesuffix_closes (SX.S a) (SX.S [39]))
  rw [e]
  rcases List.eq_nil_or_concat a with rfl | ⟨b, c, rfl⟩
  · rfl
  · rw [List.concat_eq_append, last_at]
    have e1 : decide (0 + (SX.S [39]).length ≤ (SX.S (b ++ [c])).length) = true := by
      rw [SX.S_len, SX.S_len, List.length_append]
      exact decide_eq_true (by show 0 + 1 ≤ b.length + 1; omega)
    rw [e1, Bool.true_and]
    unfold cutQ
    rw [List.getLast?_append, List.getLast?_singleton, Option.some_or, List.dropLast_concat]
    by_cases h : c = 39
    · subst h
      rw [decide_eq_true rfl, if_pos rfl, if_pos rfl]
      refine TL.ext_tl ?_
      show ((b ++ [39]).drop 0).take ((((SX.S (b ++ [39])).length : Nat) : Int) - (((SX.S [39]).length : Nat) : Int) - 0).toNat = b
      rw [SX.S_len, SX.S_len, List.length_append, List.drop_zero]
      have : ((((b.length + [39].length : Nat)) : Int) - (([39] : List Nat).length : Nat) - 0).toNat = b.length := by
        show (((b.length + 1 : Nat) : Int) - 1 - 0).toNat = b.length
        omega
      rw [this, List.take_left]
    · rw [decide_eq_false h, if_neg (by decide), if_neg (fun z => h (Option.some.inj z))]
/-! ### drawn words: the plain mathematics -/
abbrev ABC : Str := Str.ofString "abcdefghijklmnopqrstuvwxyz"
theorem abc_nat : ∀ n : Nat, n < 26 → L2.atI ABC.cps.toList (n : Int) = some (97 + n) := by decide +kernel
theorem abc_at {r : Int} (h0 : 0 ≤ r) (h1 : r < 26) : L2.atI ABC.cps.toList r = some (97 + r.toNat) := by
  obtain ⟨n, rfl⟩ := Int.eq_ofNat_of_zero_le h0
  rw [Int.toNat_natCast]
  exact abc_nat n (by omega)
theorem low_abc {n : Nat} (h : n < 26) : lowc (97 + n) = true := by
  unfold lowc
  rw [decide_eq_true (by omega), decide_eq_true (by omega)]
  rfl
theorem mul_one1 {x : Str} (hx : x.length = 1) {n : Int} (h1 : n ≤ 8) (h0 : -8 ≤ n) : MulOk x n := by
  unfold MulOk
  rw [hx]
  obtain ⟨k, rfl⟩ : ∃ k : Nat, n = (k : Int) - 8 := ⟨(n + 8).toNat, by omega⟩
  have : ∀ k : Nat, k < 17 → (decide (((k : Int) - 8) < -(2 ^ 63 : Int)) || decide (((k : Int) - 8) ≥ 2 ^ 63)) = false ∧ (¬ ((k : Int) - 8) < 1 → (((k : Int) - 8) == 1 || (1 : Nat) == 0) = false → ¬ (((1 : Nat) : Int) > (2 ^ 63 - 1) / ((k : Int) - 8))) ∧
    (¬ ((k : Int) - 8) < 1 → (((k : Int) - 8) == 1 || (1 : Nat) == 0) = false → PySem.Builtin.Str.tooLong (1 * ((k : Int) - 8).toNat) = false) := by decide +kernel
  exact this k (by omega)
theorem fold_rep (c : Nat) : ∀ (k : Nat) (acc : Array Nat), (List.replicate k (#[c] : Array Nat)).foldl (· ++ ·) acc = acc ++ (List.replicate k c).toArray
  | 0, acc => by simp
  | k + 1, acc => by
    rw [List.replicate_succ, List.foldl_cons, fold_rep c k, List.replicate_succ]
    apply Array.toList_inj.mp
    simp
theorem mul_rep (c : Nat) (n : Int) : Txt.mul (SX.S [c]) n = SX.S (List.replicate n.toNat c) := by
  unfold Txt.mul
  by_cases h : n < 1
  · rw [if_pos h, show n.toNat = 0 by omega]
    rfl
  · rw [if_neg h]
    by_cases h1 : n = 1
    · subst h1
      rfl
    · have : (n == 1 || (SX.S [c]).length == 0) = false := by
        rw [beq_eq_false_iff_ne.mpr h1]
        rfl
      rw [this, if_neg (by decide)]
      unfold SX.S
      have e : (List.replicate n.toNat (⟨[c].toArray⟩ : Str).cps) = List.replicate n.toNat (#[c] : Array Nat) := rfl
      rw [e, fold_rep]
      simp
theorem cut_last (a : List Nat) {k : Nat} (h : a.length ≤ k) (hk : 0 < k) : L2.cutS (SX.S a) (some (-(k : Int))) none = SX.S a := by
  unfold L2.cutS
  have e : HT.sIx (SX.S a).length 0 (some (-(k : Int))) = 0 := by
    rw [SX.S_len]
    unfold HT.sIx
    simp
    omega
  rw [HT.sIx_none, e, SX.S_len]
  refine TL.ext_tl ?_
  show (a.drop 0).take (a.length - 0) = a
  rw [List.drop_zero, Nat.sub_zero, List.take_length]
theorem cut_to (a : List Nat) (k : Nat) : L2.cutS (SX.S a) none (some (k : Int)) = SX.S (a.take k) := by
  unfold L2.cutS
  rw [HT.sIx_none, HT.sIx_nat, SX.S_len, Nat.sub_zero]
  refine TL.ext_tl ?_
  show (a.drop 0).take (min k a.length) = a.take k
  rw [List.drop_zero]
  by_cases h : k ≤ a.length
  · rw [Nat.min_eq_left h]
  · rw [Nat.min_eq_right (by omega), List.take_of_length_le (Nat.le_refl _), List.take_of_length_le (by omega)]
theorem cut_from (a : List Nat) (k : Nat) : L2.cutS (SX.S a) (some (k : Int)) none = SX.S (a.drop k) := by
  unfold L2.cutS
  rw [HT.sIx_none, HT.sIx_nat, SX.S_len]
  refine TL.ext_tl ?_
  show (a.drop (min k a.length)).take (a.length - min k a.length) = a.drop k
  by_cases h : k ≤ a.length
  · rw [Nat.min_eq_left h, List.take_of_length_le (by rw [List.length_drop]; exact Nat.le_refl _)]
  · rw [Nat.min_eq_right (by omega), List.drop_of_length_le (Nat.le_refl _), List.drop_of_length_le (by omega), List.take_nil]
/-- a word of one to six letters -/
def LW (a : List Nat) : Prop := a ≠ [] ∧ a.length ≤ 6 ∧ a.all lowc = true
theorem LW.put {a : List Nat} {c : Nat} {k : Nat} (h : a.length ≤ 5) (ha : a.all lowc = true) (hc : lowc c = true) : LW (a.take k ++ [c] ++ a.drop k) := by
  refine ⟨by simp, ?_, ?_⟩
  · simp only [List.length_append, List.length_take, List.length_drop, List.length_singleton]
    omega
  · rw [List.all_append, List.all_append]
    have e := List.all_eq_true.mp ha
    rw [List.all_eq_true.mpr fun x hx => e x (List.mem_of_mem_take hx), List.all_eq_true.mpr fun x hx => e x (List.mem_of_mem_drop hx)]
    simp [hc]
theorem LW.rep {a : List Nat} {c n : Nat} (ha : a.all lowc = true) (hc : lowc c = true) (n1 : 1 ≤ n) (n4 : n ≤ 5) : LW (a.take 1 ++ List.replicate n c) := by
  refine ⟨?_, ?_, ?_⟩
  · intro z
    have := congrArg List.length z
    rw [List.length_append, List.length_replicate] at this
    simp at this
    omega
  · simp only [List.length_append, List.length_take, List.length_replicate]
    omega
  · rw [List.all_append]
    have e := List.all_eq_true.mp ha
    rw [List.all_eq_true.mpr fun x hx => e x (List.mem_of_mem_take hx), Bool.true_and]
    exact List.all_eq_true.mpr fun x hx => by
      rw [List.eq_of_mem_replicate hx]
      exact hc
theorem LW.one {c : Nat} (hc : lowc c = true) : LW [c] := ⟨by simp, by simp, by simp [hc]⟩
theorem S_inj {a b : List Nat} (h : SX.S a = SX.S b) : a = b := by
  have := congrArg (fun s : Str => s.cps.toList) h
  simpa [SX.S] using this
theorem ins_all_full : ∀ (xs l : List Str), (insAll xs l).length = xs.length + l.length → xs.Nodup ∧ ∀ x ∈ xs, x ∉ l
  | [], _, _ => ⟨List.nodup_nil, fun _ h => nomatch h⟩
  | x :: xs, l, h => by
    unfold insAll at h
    by_cases hx : x ∈ l
    · exfalso
      unfold ins at h
      rw [if_pos hx] at h
      have := insAll_len xs l
      rw [List.length_cons] at h
      omega
    · unfold ins at h
      rw [if_neg hx] at h
      obtain ⟨h1, h2⟩ := ins_all_full xs (x :: l) (by rw [h]; simp only [List.length_cons]; omega)
      refine ⟨List.nodup_cons.mpr ⟨fun z => h2 x z List.mem_cons_self, h1⟩, fun y hy => ?_⟩
      rcases List.mem_cons.mp hy with rfl | hy
      · exact hx
      · exact fun z => h2 y hy (List.mem_cons_of_mem _ z)
theorem nodup_S : ∀ {ws : List (List Nat)}, (ws.map SX.S).Nodup → ws.Nodup
  | [], _ => List.nodup_nil
  | w :: ws, h => by
    rw [List.map_cons, List.nodup_cons] at h
    exact List.nodup_cons.mpr ⟨fun z => h.1 (List.mem_map_of_mem z), nodup_S h.2⟩
/-- the kth letter from a first one, by fives -/
def five (f k : Nat) : Nat := 97 + (f + 5 * k) % 26
theorem five_inj {f i j : Nat} (hi : i < 20) (hj : j < 20) (h : five f i = five f j) : i = j := by
  unfold five at h
  omega
theorem nodup_range_map {α : Type} {f : Nat → α} {m : Nat} (h : ∀ i j, i < m → j < m → f i = f j → i = j) : ((List.range m).map f).Nodup := by
  rw [List.Nodup, List.pairwise_map]
  refine List.Pairwise.imp_of_mem ?_ List.nodup_range
  intro a b ha hb hne e
  exact hne (h a b (List.mem_range.mp ha) (List.mem_range.mp hb) e)
theorem put_inj {a : List Nat} {k c d : Nat} (h : a.take k ++ [c] ++ a.drop k = a.take k ++ [d] ++ a.drop k) : c = d := by
  have h1 := (List.append_cancel_right h)
  have h2 := (List.append_cancel_left h1)
  exact (List.cons.inj h2).1
theorem lc_str {x : Str} {g : TG} {tt : TT} {te : TE} {vs : List Nat} {σ : L2.St} {H1 : Hp} {D : Addr} {Qd : Hp → Prop} (Pv : Nat → Hp → Prop) (h0 : Pv 0 (upd H1 D (.lst [])))
    (hs : ∀ i c H, x.cps[i]? = some c → Pv i H → g (.str ⟨#[c]⟩) (wipe σ vs) H fun σ2 H2 => wipe σ2 vs = wipe σ vs ∧ tt σ2 H2 fun b H3 =>
      if b = true then te σ2 H3 fun y H4 => ∃ acc, H4 D = some (.lst acc) ∧ acc.length < sizeLine ∧ Pv (i + 1) (upd H4 D (.lst (acc ++ [y]))) else Pv (i + 1) H3) (hd : ∀ H, Pv x.cps.size H → Qd H) :
    ∃ W : Nat → Nat → Hp → Prop, (∃ m, W 0 m (upd H1 D (.lst []))) ∧ ∀ i m H, W i m H →
      ((Its x).stop i H ∧ Qd H) ∨ ((Its x).go i H ∧ ∃ Nx : Hp → Prop, (∀ H', Nx H' → ∃ m', m' < m ∧ W (i + 1) m' H') ∧ ∀ y H', (Its x).yld i H y H' → g y (wipe σ vs) H' fun σ2 H2 => wipe σ2 vs = wipe σ vs ∧ tt σ2 H2 fun b H3 =>
        if b = true then te σ2 H3 fun y H4 => ∃ acc, H4 D = some (.lst acc) ∧ acc.length < sizeLine ∧ Nx (upd H4 D (.lst (acc ++ [y]))) else Nx H3) := by
  refine ⟨fun i m H => m = x.cps.size - i ∧ i ≤ x.cps.size ∧ Pv i H, ⟨x.cps.size, by simp, Nat.zero_le _, h0⟩, ?_⟩
  rintro i m H ⟨rfl, hi, p⟩
  by_cases hlt : i < x.cps.size
  · refine .inr ⟨hlt, Pv (i + 1), fun H' p' => ⟨x.cps.size - (i + 1), by omega, rfl, hlt, p'⟩, fun y H' q => ?_⟩
    obtain ⟨e, c, hc, ev⟩ := q
    subst e ev
    exact hs i c _ hc p
  · have e : i = x.cps.size := by omega
    subst e
    exact .inl ⟨Nat.le_refl _, hd H p⟩
/-! ### names with an apostrophe; the law's own test of names -/
theorem last_low {x : List Nat} (h : x.all lowc = true) : x.getLast? ≠ some 39 := fun z => by
  have := List.all_eq_true.mp h 39 (List.mem_of_getLast? z)
  revert this
  decide
theorem cutQ_lw {x : List Nat} (h : LW x) {k : Nat} (hk : k ≤ 1) : cutQ (x ++ List.replicate k 39) = x := by
  unfold cutQ
  match k, hk with
  | 0, _ => rw [List.replicate_zero, List.append_nil, if_neg (last_low h.2.2)]
  | 1, _ => rw [show List.replicate 1 39 = [39] from rfl, List.getLast?_append, List.getLast?_singleton, Option.some_or, if_pos rfl, List.dropLast_concat]
theorem name_lw {x : List Nat} (h : LW x) {k : Nat} (hk : k ≤ 1) : nameB (x ++ List.replicate k 39) = true ∧ (x ++ List.replicate k 39).length ≤ 7 := by
  constructor
  · unfold nameB letB
    rw [cutQ_lw h hk, h.2.2, decide_eq_true h.2.1]
    cases x with
    | nil => exact absurd rfl h.1
    | cons _ _ => rfl
  · rw [List.length_append, List.length_replicate]
    have := h.2.1
    omega
theorem nodup_of_map {α β : Type} (f : α → β) : ∀ {l : List α}, (l.map f).Nodup → l.Nodup
  | [], _ => List.nodup_nil
  | w :: ws, h => by
    rw [List.map_cons, List.nodup_cons] at h
    exact List.nodup_cons.mpr ⟨fun z => h.1 (List.mem_map_of_mem z), nodup_of_map f h.2⟩
theorem sIx_neg1 (n : Nat) (d : Nat) : HT.sIx n d (some (-1)) = n - 1 := by
  unfold HT.sIx
  simp
  omega
theorem cut_but1 (t : List Nat) : L2.cutS (SX.S t) none (some (-1)) = SX.S t.dropLast := by
  unfold L2.cutS
  rw [HT.sIx_none, sIx_neg1, SX.S_len, Nat.sub_zero]
  refine TL.ext_tl ?_
  show (t.drop 0).take (t.length - 1) = t.dropLast
  rw [List.drop_zero, List.dropLast_eq_take]
theorem cut_end1 (t : List Nat) : L2.cutS (SX.S t) (some (-1)) none = SX.S (t.drop (t.length - 1)) := by
  unfold L2.cutS
  rw [HT.sIx_none, sIx_neg1, SX.S_len]
  refine TL.ext_tl ?_
  show (t.drop (t.length - 1)).take (t.length - (t.length - 1)) = t.drop (t.length - 1)
  rw [List.take_of_length_le]
  rw [List.length_drop]
  exact Nat.le_refl _
theorem drop_last (t : List Nat) : (t.drop (t.length - 1) = [39]) ↔ t.getLast? = some 39 := by
  rcases List.eq_nil_or_concat t with rfl | ⟨b, c, rfl⟩
  · simp
  · rw [List.concat_eq_append, List.getLast?_append, List.getLast?_singleton, Option.some_or]
    have e : (b ++ [c]).length - 1 = b.length := by simp
    rw [e, List.drop_left]
    simp
theorem abc_mem (c : Nat) : decide (c ∈ ABC.cps.toList) = lowc c := by
  rw [show ABC.cps.toList = (List.range 26).map (97 + ·) by decide +kernel]
  unfold lowc
  rw [Bool.eq_iff_iff, decide_eq_true_eq, Bool.and_eq_true, decide_eq_true_eq, decide_eq_true_eq, List.mem_map]
  constructor
  · rintro ⟨k, hk, rfl⟩
    have := List.mem_range.mp hk
    omega
  · rintro ⟨h1, h2⟩
    exact ⟨c - 97, List.mem_range.mpr (by omega), by omega⟩
/-! ### lists of texts as data -/
theorem shape_strs : ∀ l : List Str, l.length ≤ 2 → (∀ x ∈ l, PyData.strOk x = true) → SeqAt.shaped (.list (l.map PyData.str)) = true
  | [], _, _ => rfl
  | [x], _, h => by
    show ((PyData.strOk x && true) && true) = true
    rw [h x List.mem_cons_self]
    rfl
  | [x, y], _, h => by
    show ((PyData.strOk x && (PyData.strOk y && true)) && true) = true
    rw [h x List.mem_cons_self, h y (List.mem_cons_of_mem _ List.mem_cons_self)]
    rfl
  | _ :: _ :: _ :: _, h, _ => by simp at h
theorem eqvAll_strs : ∀ l : List Str, PyData.eqvAll (l.map PyData.str) (l.map PyData.str) = true
  | [] => rfl
  | x :: l => by
    show (PyData.eqv (.str x) (.str x) && PyData.eqvAll (l.map PyData.str) (l.map PyData.str)) = true
    rw [eqvAll_strs l, Bool.and_true]
    show (x == x) = true
    exact beq_self_eq_true x
theorem dp_strs {K : PySem.W.Frag} {H : Hp} : ∀ l : List Str, DpAll K H (l.map V.str) (l.map PyData.str)
  | [] => .nil
  | x :: l => .cons (.str x) (dp_strs l)
theorem strOk_name {x : List Nat} (h : nameB x = true) : PyData.strOk (SX.S x) = true := by
  unfold nameB letB at h
  rw [Bool.and_eq_true, Bool.and_eq_true] at h
  have hl := List.all_eq_true.mp h.2.2
  have key : ∀ c ∈ x, c < 0x110000 := fun c hc => by
    by_cases e : c ∈ cutQ x
    · have := hl c e
      unfold lowc at this
      rw [Bool.and_eq_true, decide_eq_true_eq, decide_eq_true_eq] at this
      omega
    · unfold cutQ at e
      split at e
      · rename_i z
        rcases List.eq_nil_or_concat x with rfl | ⟨b, d, rfl⟩
        · cases hc
        · rw [List.concat_eq_append] at *
          rw [List.getLast?_append, List.getLast?_singleton, Option.some_or] at z
          rw [List.dropLast_concat] at e
          rcases List.mem_append.mp hc with k | k
          · exact absurd k e
          · rw [List.mem_singleton.mp k, Option.some.inj z]
            decide
      · exact absurd hc e
  unfold PyData.strOk
  rw [← Array.all_toList, show (SX.S x).cps.toList = x by simp [SX.S]]
  exact List.all_eq_true.mpr fun c hc => decide_eq_true (key c hc)
/-! ### a dict against a copy whose values are the same objects -/
def okV (v : V) : Prop := flatB v = true ∨ ∃ p, v = .ref p
theorem eqAt_sameR {A : Around} {s : Shared} {v : V} {u u' : Value} (r : RelV v u) (r' : RelV v u') (f : okV v) : SeqAt.EqAt A s u u' true := by
  rcases f with f | ⟨p, rfl⟩
  · exact eqAt_same r r' f
  · cases (show u = Value.ref p from r)
    cases (show u' = Value.ref p from r')
    exact SeqAt.EqAt.same _
theorem hits_allR {A : Around} {s : Shared} {kvs : List (Key × V)} {vb : List (Key × Value)} (rb : KV kvs vb) {ks : List (Key × V)} {va : List (Key × Value)} (ra : KV ks va) :
    (∀ p ∈ ks, valV kvs p.1 = some p.2 ∧ okV p.2) → PySem.W.KeqHits A s vb va true := by
  unfold KV at ra
  induction ra with
  | nil => intro _; exact .nil
  | @cons p q ps qs h t ih =>
    intro hp
    obtain ⟨h1, h2⟩ := h
    obtain ⟨e, f⟩ := hp p List.mem_cons_self
    have rr : RelO (some p.2) (valueAt vb p.1) := by rw [← e]; exact rb.val p.1
    obtain ⟨y, hy, ry⟩ := rr.some_of
    obtain ⟨k, v⟩ := q
    have h1' : p.1 = k := h1
    rw [h1'] at hy
    show PySem.W.KeqHits A s vb ((k, v) :: qs) (true && true)
    exact .hit hy (eqAt_sameR h2 ry f) (ih fun p' hm => hp p' (List.mem_cons_of_mem _ hm))
theorem op_ne_dictR {X : Cx} (hu : X.A.units < cLine) : OpR X (compareOp .NotEq) (fun x y H Q => ∃ a b kvs, x = .ref a ∧ y = .ref b ∧ H a = some (.dK kvs) ∧ H b = some (.dK kvs) ∧ (∀ p ∈ kvs, valV kvs p.1 = some p.2 ∧ okV p.2) ∧ Q (.bl false) H) := by
  intro pins s σ H x y v u Q I rx ry h
  obtain ⟨a, b, ks, rfl, rfl, ea, eb, hp, q⟩ := h
  obtain rfl : v = Value.ref a := rx
  obtain rfl : u = Value.ref b := ry
  obtain ⟨_, ya, va, ra, da⟩ := (show ObjOk X.prog X.w H s.heap a (.dK ks) from I.hok a _ ea)
  obtain ⟨_, yb, vb, rb, db⟩ := (show ObjOk X.prog X.w H s.heap b (.dK ks) from I.hok b _ eb)
  have hl : va.length = vb.length := by rw [← ra.length, ← rb.length]
  exact PySem.W.keq_ne (knd := mixKind X.prog X.w) (r := true) ya yb da db hu (fun _ => hits_allR rb ra hp) (fin_bl I q (by simp [hl]))
/-! ### two dicts whose values are data -/
def EqE (K : PySem.W.Frag) (H : Hp) (ls : List (Key × V)) (e : Key → Bool) (p : Key × V) : Prop := (valV ls p.1 = none ∧ e p.1 = false) ∨ ∃ (v' : V) (d d' : PyData), valV ls p.1 = some v' ∧ Dp K H p.2 d ∧ Dp K H v' d' ∧ SeqAt.shaped d = true ∧ SeqAt.shaped d' = true ∧ e p.1 = d.eqv d'
theorem hits_G {X : Cx} {pins : List (Addr × Obj)} {σ : L2.St} {H : Hp} {s : Shared} (I : L2.Inv X pins σ H s) (hu : X.A.in1.units + 64 < cLine) {kvs : List (Key × V)} {vb : List (Key × Value)} (rb : KV kvs vb) {e : Key → Bool} {ks : List (Key × V)} {va : List (Key × Value)} (ra : KV ks va) :
    (∀ p ∈ ks, EqE X.K H kvs e p) → PySem.W.KeqHits X.A.in1 s vb va (ks.all fun p => e p.1) := by
  unfold KV at ra
  induction ra with
  | nil => intro _; exact .nil
  | @cons p q ps qs h t ih =>
    intro hp
    obtain ⟨h1, h2⟩ := h
    obtain ⟨k, v⟩ := q
    have h1' : p.1 = k := h1
    have ih := ih fun p' hm => hp p' (List.mem_cons_of_mem _ hm)
    rw [List.all_cons]
    rcases hp p List.mem_cons_self with ⟨n, f⟩ | ⟨v', d, d', ev, dp1, dp2, s1, s2, f⟩
    · have rr : RelO none (valueAt vb p.1) := by rw [← n]; exact rb.val p.1
      rw [f, Bool.false_and]
      refine .miss ?_
      rw [← h1']
      cases hv : valueAt vb p.1 with
      | none => rfl
      | some y =>
        rw [hv] at rr
        cases rr
    · have rr : RelO (some v') (valueAt vb p.1) := by rw [← ev]; exact rb.val p.1
      obtain ⟨y, hy, ry⟩ := rr.some_of
      rw [h1'] at hy
      obtain ⟨as, r1⟩ := Dp.reads I d p.2 v dp1 h2
      obtain ⟨bs, r2⟩ := Dp.reads I d' v' y dp2 ry
      rw [f]
      exact .hit hy (PySem.W.keq_at r1 r2 s1 s2 hu) ih
def rEqDG (K : PySem.W.Frag) : R2 := fun x y H Q => ∃ (a b : Addr) (ks ls : List (Key × V)) (e : Key → Bool), x = .ref a ∧ y = .ref b ∧ H a = some (.dK ks) ∧ H b = some (.dK ls) ∧ (∀ p ∈ ks, EqE K H ls e p) ∧ Q (.bl (decide (ks.length = ls.length) && ks.all fun p => e p.1)) H
theorem op_eq_dictG {X : Cx} (hu : X.A.units + 65 < cLine) : OpR X (compareOp .Eq) (rEqDG X.K) := by
  intro pins s σ H x y v u Q I rx ry h
  obtain ⟨a, b, ks, ls, e, rfl, rfl, ea, eb, hp, q⟩ := h
  obtain rfl : v = Value.ref a := rx
  obtain rfl : u = Value.ref b := ry
  obtain ⟨_, ya, va, ra, da⟩ := (show ObjOk X.prog X.w H s.heap a (.dK ks) from I.hok a _ ea)
  obtain ⟨_, yb, vb, rb, db⟩ := (show ObjOk X.prog X.w H s.heap b (.dK ls) from I.hok b _ eb)
  have l1 : ks.length = va.length := ra.length
  have l2 : ls.length = vb.length := rb.length
  have hb : (va.length == vb.length && ks.all fun p => e p.1) = (decide (ks.length = ls.length) && ks.all fun p => e p.1) := by
    congr 1
    rw [← l1, ← l2]
    rfl
  exact PySem.W.keq_eq (knd := mixKind X.prog X.w) (r := ks.all fun p => e p.1) ya yb da db (by omega) (fun _ => hits_G I (show X.A.units + 1 + 64 < cLine by omega) rb ra hp) (fin_bl I q (by rw [hb]))
/-! ### dict(xs) of a tuple of pairs -/
theorem pairs_ofV {X : Cx} {pins : List (Addr × Obj)} {σ : L2.St} {H : Hp} {s : Shared} (I : L2.Inv X pins σ H s) : ∀ {ps : List Addr} {kvs : List (Key × V)}, Paired (fun p kv => SqT X.K H p [kV kv.1, kv.2]) ps kvs →
    ∃ (prs : List (Key × Value)) (us : List Value), KV kvs prs ∧ prs.length = ps.length ∧ us.length = ps.length ∧
      ∀ (j : Nat) (b : Addr), ps[j]? = some b → ∃ (q : Key × Value) (u : Value), prs[j]? = some q ∧ us[j]? = some u ∧ IsTup s.heap b #[u, q.2] ∧ keyIs q.1 u = true
  | _, _, .nil => ⟨[], [], .nil, rfl, rfl, fun j q e => by simp at e⟩
  | _, _, .cons (a := p) (b := kv) h t => by
    obtain ⟨prs, us, r, hl, hu, hp⟩ := pairs_ofV I t
    obtain ⟨its, rv, ht, _⟩ := I.tuple h
    obtain ⟨u, y, ei, ru, ry⟩ := vals2 rv
    subst ei
    refine ⟨(kv.1, y) :: prs, u :: us, .cons ⟨rfl, ry⟩ r, by rw [List.length_cons, List.length_cons, hl], by rw [List.length_cons, List.length_cons, hu], fun j b e => ?_⟩
    cases j with
    | zero =>
      have e' : p = b := Option.some.inj e
      subst e'
      exact ⟨(kv.1, y), u, rfl, rfl, ht, kV_is (P := X.prog) (w := X.w) ru⟩
    | succ j =>
      obtain ⟨q, u', e1, e2, e3⟩ := hp j b (by simpa using e)
      exact ⟨q, u', by simpa using e1, by simpa using e2, e3⟩
/-- a tuple of which it is known that it carries no attributes -/
def SqF (K : PySem.W.Frag) (H : Hp) (a : Addr) (xs : List V) : Prop :=
  (∃ o, H a = some (.frz o (.tup xs)) ∧ o.dict = none) ∨
    ∃ (o : Obj) (its : Array Value) (n : Nat), K.lookup a = some o ∧ o.cls = .type "tuple" ∧ o.dict = none ∧ o.data = .seq its n ∧ its.size ≤ sizeLine ∧ Vals xs its.toList
theorem SqF.sqt {K : PySem.W.Frag} {H : Hp} {a : Addr} {xs : List V} (h : SqF K H a xs) : SqT K H a xs := by
  rcases h with ⟨o, h, _⟩ | ⟨o, its, n, h1, h2, _, h3⟩
  · exact .inl (.inr ⟨o, h⟩)
  · exact .inr ⟨o, its, n, h1, h2, h3⟩
theorem inv_sqf {X : Cx} {pins : List (Addr × Obj)} {σ : L2.St} {H : Hp} {s : Shared} {a : Addr} {xs : List V} (I : L2.Inv X pins σ H s) (h : SqF X.K H a xs) :
    ∃ its : List Value, Vals xs its ∧ PlainSeq "tuple" s.heap a its.toArray ∧ xs.length ≤ sizeLine := by
  rcases h with ⟨o, h, hd⟩ | ⟨o, its, n, hk, hc, hd, hs, hz, r⟩
  · obtain ⟨e, z, its, r, o', e', hc, n, hda⟩ := (show ObjOk X.prog X.w H s.heap a (.frz o (.tup xs)) from I.hok a _ h)
    rw [e] at e'
    cases e'
    exact ⟨its, r, ⟨o, n, e, hc, hd, hda⟩, z⟩
  · refine ⟨its.toList, r, ⟨o, n, I.kIn a o hk, hc, hd, by simpa using hs⟩, ?_⟩
    have e := r.length
    simp only [Array.length_toList] at e
    omega
theorem call_dictT {X : Cx} (hcalm : X.calm = true) : CallR X (.type "dict") (fun xs H Q => ∃ (a : Addr) (ps : List Addr) (kvs : List (Key × V)), xs = [.ref a] ∧ SqF X.K H a (ps.map V.ref) ∧ Paired (fun p kv => SqT X.K H p [kV kv.1, kv.2]) ps kvs ∧
    ∀ p, H p = none → Q (.ref p) (upd H p (.dK (mergeK [] kvs)))) := by
  intro pins s σ H xs us Q I r q
  obtain ⟨a, ps, kvs, ex, hq, hp, q⟩ := q
  subst ex
  obtain ⟨u, eu, rx⟩ := vals1 r
  subst eu
  cases rx
  obtain ⟨its, rv, pl, hz⟩ := inv_sqf I hq
  have ei := refs_at rv
  subst ei
  rw [List.length_map] at hz
  obtain ⟨prs, us, rel, hl, hu, hpr⟩ := pairs_ofV I hp
  have hat : ∀ (j : Nat) (k v : Value), (us.zip (prs.map (·.2)))[j]? = some (k, v) → ∃ (b : Addr) (q : Key × Value), ps[j]? = some b ∧ prs[j]? = some q ∧ v = q.2 ∧ IsTup s.heap b #[k, v] ∧ keyIs q.1 k = true := fun j k v e => by
    rw [List.getElem?_zip_eq_some] at e
    obtain ⟨e1, e2⟩ := e
    have lt := (List.getElem?_eq_some_iff.mp e1).1
    obtain ⟨b, eb⟩ : ∃ b, ps[j]? = some b := ⟨_, List.getElem?_eq_getElem (by omega)⟩
    obtain ⟨q, u, f1, f2, f3, f4⟩ := hpr j b eb
    rw [f2] at e1
    cases e1
    rw [List.getElem?_map, f1] at e2
    cases e2
    exact ⟨b, q, eb, f1, rfl, f3, f4⟩
  refine PySem.call_dict_pairs (knd := mixKind X.prog X.w) (kvs := prs) (PairArg.tuple a (ps.map Value.ref).toArray (fun j => ps.getD j 0) (us.zip (prs.map (·.2)))) (I.ok.hd hcalm) ⟨pl, ?_, fun j k v e => ?_⟩ ⟨?_, fun i key v e => ?_⟩ ?_ fun h' tk hd' k => ?_
  · simp [hl, hu]
  · obtain ⟨b, q, eb, _, _, ht, _⟩ := hat j k v e
    have eg : ps.getD j 0 = b := by rw [List.getD_eq_getElem?_getD, eb]; rfl
    exact ⟨by simp [eb], .inl (by dsimp only; rw [eg]; exact ht)⟩
  · simp [hl, hu]
  · obtain ⟨b, q, _, ep, ev, _, hk⟩ := hat i key v e
    exact ⟨q.1, by rw [ep, ev], hk⟩
  · simp [hl, hu]
    exact hz
  · have hm : (s.heap.objs.size == sysModules) = false := beq_eq_false_iff_ne.mpr (Nat.ne_of_gt I.big)
    have hlen : (mergeK [] kvs).length ≤ sizeLine := by
      refine Nat.le_trans (length_mergeK kvs []) ?_
      rw [List.length_nil, Nat.zero_add, rel.length, hl]
      exact hz
    exact ⟨.ref s.heap.objs.size, upd H s.heap.objs.size (.dK (mergeK [] kvs)), I.laid (t' := tk) (fun b o e => k b o (by simp) e) (Nat.le_refl _) (show ObjOk X.prog X.w _ _ _ (.dK (mergeK [] kvs)) from ⟨hlen, hm, merged [] prs, KV.merge rel .nil, hd'⟩), rfl, q _ (I.hok.fresh (Nat.le_refl _))⟩
/-- tuple(xs) of a list: it carries no attributes -/
theorem call_tupleF {X : Cx} : CallR X (.type "tuple") (fun xs H Q => ∃ p ys, xs = [.ref p] ∧ SqL X.K H p ys ∧ ∀ l o, H l = none → o.dict = none → Q (.ref l) (upd H l (.frz o (.tup ys)))) := by
  intro pins s σ H xs us Q I r h
  obtain ⟨p, ys, rfl, hq, q⟩ := h
  obtain ⟨u, rfl, rx⟩ := vals1 r
  cases rx
  obtain ⟨its, r', pl, hz⟩ := I.list hq
  have hlen := r'.length
  refine call_tuple_list pl.isList (fun h' kp => ?_) (by simp only [List.size_toArray] <;> omega)
  have I1 : L2.Inv X pins σ H { s with heap := h' } := I.kept (t' := s.toks) kp
  have I2 : L2.Inv X pins σ (upd H h'.objs.size (.frz { cls := .type "tuple", data := .seq its.toArray } (.tup ys))) { s with heap := h'.push { cls := .type "tuple", data := .seq its.toArray } } :=
    I1.laid (t' := s.toks) (fun b o e => Heap.get?_push_of_some _ e) (Nat.le_refl _) (show ObjOk X.prog X.w _ _ _ (.frz _ (.tup ys)) from ⟨Heap.get?_push_size _ rfl, hz, its, r', IsTup.new _ _⟩)
  exact ⟨.ref h'.objs.size, _, I2, rfl, q _ _ (I1.hok.fresh (Nat.le_refl _)) rfl⟩
def tTupF (t : TA) : TE := fun σ H Q => t σ H fun xs H1 => xs.length ≤ sizeLine ∧ ∀ p o, H1 p = none → o.dict = none → Q (.ref p) (upd H1 p (.frz o (.tup xs)))
theorem pe_tupF {X : Cx} {es : List Expr} {t : TA} {pos : Pos} {x1} (h : PA X es t) : PE X (.Tuple es x1 pos) (tTupF t) := by
  refine ⟨fun pins s σ H Q I hq => ?_⟩
  refine wpAny_Tuple_spliced (thn (h.run pos pins s σ H _ I hq) fun us s1 ⟨xs, H1, I1, r, z, q⟩ => ⟨by rw [← r.length]; exact z, ?_⟩)
  have hf : H1 s1.heap.objs.size = none := I1.hok.fresh (Nat.le_refl _)
  refine ⟨.ref s1.heap.objs.size, upd H1 s1.heap.objs.size (.frz { cls := .type "tuple", data := .seq us.toArray } (.tup xs)), I1.laid (t' := s1.toks) (fun b u e => Heap.get?_push_of_some _ e) (Nat.le_refl _) ?_, rfl, q _ _ hf rfl⟩
  exact ⟨Heap.get?_push_size _ rfl, z, us, r, ⟨_, Heap.get?_push_size _ rfl, rfl, _, rfl⟩⟩
theorem room65 {k : Nat} {A : Around} (r : Room (k + 1) A) : A.units + 65 < cLine := by
  have := r.un
  omega
theorem op_eq_dictGK {X : Cx} {K : PySem.W.Frag} (h : X.K = K) (hu : X.A.units + 65 < cLine) : OpR X (compareOp .Eq) (rEqDG K) := h ▸ op_eq_dictG hu
theorem call_dictTK {X : Cx} {K : PySem.W.Frag} (h : X.K = K) (hcalm : X.calm = true) : CallR X (.type "dict") (fun xs H Q => ∃ (a : Addr) (ps : List Addr) (kvs : List (Key × V)), xs = [.ref a] ∧ SqF K H a (ps.map V.ref) ∧ Paired (fun p kv => SqT K H p [kV kv.1, kv.2]) ps kvs ∧
    ∀ p, H p = none → Q (.ref p) (upd H p (.dK (mergeK [] kvs)))) := h ▸ call_dictT hcalm
theorem call_tupleFK {X : Cx} {K : PySem.W.Frag} (h : X.K = K) : CallR X (.type "tuple") (fun xs H Q => ∃ p ys, xs = [.ref p] ∧ SqL K H p ys ∧ ∀ l o, H l = none → o.dict = none → Q (.ref l) (upd H l (.frz o (.tup ys)))) := h ▸ call_tupleF
end EK
namespace T8
open PySem PySem.Spec PyProof.Rows L2 EK
def topS (i : Nat) : Stmt := PySem.Challenge.pw_tiespan_k27_certificates_judged.main.body.getD i (.Pass ⟨0, 0, 0, 0⟩)
abbrev s_p_is_whole : Stmt := topS 8
abbrev s_p_shortened : Stmt := topS 9
abbrev s_p_common_divisor : Stmt := topS 10
abbrev s_p_ratio : Stmt := topS 11
abbrev s_p_is_ratio : Stmt := topS 12
abbrev s_p_add : Stmt := topS 13
abbrev s_p_multiply : Stmt := topS 14
abbrev s_p_is_less : Stmt := topS 15
abbrev s_p_is_share : Stmt := topS 17
abbrev s_p_is_paper : Stmt := topS 18
abbrev s_p_total : Stmt := topS 19
abbrev s_p_refutes : Stmt := topS 20
abbrev s_p_derives : Stmt := topS 21
abbrev s_feed : Stmt := topS 23
abbrev s_draw : Stmt := topS 24
abbrev s_any : Stmt := topS 25
abbrev s_same : Stmt := topS 26
abbrev s_gcd : Stmt := topS 27
abbrev s_low : Stmt := topS 28
abbrev s_plus : Stmt := topS 29
abbrev s_minus : Stmt := topS 30
abbrev s_by : Stmt := topS 31
abbrev s_under : Stmt := topS 32
abbrev s_part : Stmt := topS 33
abbrev s_rate : Stmt := topS 34
abbrev s_words : Stmt := topS 35
abbrev s_total : Stmt := topS 36
abbrev s_point : Stmt := topS 37
abbrev s_terms : Stmt := topS 38
abbrev s_ties : Stmt := topS 39
abbrev s_is_part : Stmt := topS 40
abbrev s_summed : Stmt := topS 41
abbrev s_refuted : Stmt := topS 42
abbrev s_derived : Stmt := topS 43
abbrev s_bent_paper : Stmt := topS 44
abbrev s_p_law : Stmt := topS 45
theorem sc_p_is_whole : FnScope ["thing"] ["thing"] (defScope s_p_is_whole) := ⟨rfl, rfl, rfl, by decide +kernel, rfl, by decide +kernel, by decide +kernel⟩
theorem sc_p_shortened : FnScope ["one", "other", "shift", "high", "low", "a", "b", "c", "d", "times", "rest", "first", "second"] ["one", "other"] (defScope s_p_shortened) := ⟨rfl, rfl, rfl, by decide +kernel, rfl, by decide +kernel, by decide +kernel⟩
theorem sc_p_common_divisor : FnScope ["one", "other"] ["one", "other"] (defScope s_p_common_divisor) := ⟨rfl, rfl, rfl, by decide +kernel, rfl, by decide +kernel, by decide +kernel⟩
theorem sc_p_ratio : FnScope ["top", "under", "shared"] ["top", "under"] (defScope s_p_ratio) := ⟨rfl, rfl, rfl, by decide +kernel, rfl, by decide +kernel, by decide +kernel⟩
theorem sc_p_is_ratio : FnScope ["thing", "top", "under"] ["thing"] (defScope s_p_is_ratio) := ⟨rfl, rfl, rfl, by decide +kernel, rfl, by decide +kernel, by decide +kernel⟩
theorem sc_p_add : FnScope ["one", "other"] ["one", "other"] (defScope s_p_add) := ⟨rfl, rfl, rfl, by decide +kernel, rfl, by decide +kernel, by decide +kernel⟩
theorem sc_p_multiply : FnScope ["one", "other"] ["one", "other"] (defScope s_p_multiply) := ⟨rfl, rfl, rfl, by decide +kernel, rfl, by decide +kernel, by decide +kernel⟩
theorem sc_p_is_less : FnScope ["one", "other"] ["one", "other"] (defScope s_p_is_less) := ⟨rfl, rfl, rfl, by decide +kernel, rfl, by decide +kernel, by decide +kernel⟩
theorem sc_p_is_share : FnScope ["thing", "many", "at", "share"] ["thing", "many"] (defScope s_p_is_share) := ⟨rfl, rfl, rfl, by decide +kernel, rfl, by decide +kernel, by decide +kernel⟩
theorem sc_p_is_paper : FnScope ["paper", "many", "before", "thing"] ["paper", "many"] (defScope s_p_is_paper) := ⟨rfl, rfl, rfl, by decide +kernel, rfl, by decide +kernel, by decide +kernel⟩
theorem sc_p_total : FnScope ["ties", "paper", "rates", "bound", "at", "share", "terms", "most", "name", "rate"] ["ties", "paper"] (defScope s_p_total) := ⟨rfl, rfl, rfl, by decide +kernel, rfl, by decide +kernel, by decide +kernel⟩
theorem sc_p_refutes : FnScope ["ties", "paper", "rates", "bound"] ["ties", "paper"] (defScope s_p_refutes) := ⟨rfl, rfl, rfl, by decide +kernel, rfl, by decide +kernel, by decide +kernel⟩
theorem sc_p_derives : FnScope ["ties", "tie", "paper", "terms", "most", "rates", "bound"] ["ties", "tie", "paper"] (defScope s_p_derives) := ⟨rfl, rfl, rfl, by decide +kernel, rfl, by decide +kernel, by decide +kernel⟩
theorem sc_feed : FnScope ["_law_script", "_law_cell", "_law_cells", "_law_mark"] ["_law_script"] (defScope s_feed) := ⟨rfl, rfl, rfl, by decide +kernel, rfl, by decide +kernel, by decide +kernel⟩
theorem sc_draw : FnScope ["_law_feed_here", "_law_many", "_law_cell", "_law_one", "_law_two", "_law_drawn"] ["_law_feed_here", "_law_many"] (defScope s_draw) := ⟨rfl, rfl, rfl, by decide +kernel, rfl, by decide +kernel, by decide +kernel⟩
theorem sc_any : FnScope ["_law_feed_here", "_law_row"] ["_law_feed_here", "_law_row"] (defScope s_any) := ⟨rfl, rfl, rfl, by decide +kernel, rfl, by decide +kernel, by decide +kernel⟩
theorem sc_same : FnScope ["_law_found", "_law_due", "_law_key", "_law_one", "_law_two"] ["_law_found", "_law_due"] (defScope s_same) := ⟨rfl, rfl, rfl, by decide +kernel, rfl, by decide +kernel, by decide +kernel⟩
theorem sc_gcd : FnScope ["_law_one", "_law_two"] ["_law_one", "_law_two"] (defScope s_gcd) := ⟨rfl, rfl, rfl, by decide +kernel, rfl, by decide +kernel, by decide +kernel⟩
theorem sc_low : FnScope ["_law_upper", "_law_lower", "_law_part_here"] ["_law_upper", "_law_lower"] (defScope s_low) := ⟨rfl, rfl, rfl, by decide +kernel, rfl, by decide +kernel, by decide +kernel⟩
theorem sc_plus : FnScope ["_law_one", "_law_two"] ["_law_one", "_law_two"] (defScope s_plus) := ⟨rfl, rfl, rfl, by decide +kernel, rfl, by decide +kernel, by decide +kernel⟩
theorem sc_minus : FnScope ["_law_one"] ["_law_one"] (defScope s_minus) := ⟨rfl, rfl, rfl, by decide +kernel, rfl, by decide +kernel, by decide +kernel⟩
theorem sc_by : FnScope ["_law_one", "_law_two"] ["_law_one", "_law_two"] (defScope s_by) := ⟨rfl, rfl, rfl, by decide +kernel, rfl, by decide +kernel, by decide +kernel⟩
theorem sc_under : FnScope ["_law_one", "_law_two"] ["_law_one", "_law_two"] (defScope s_under) := ⟨rfl, rfl, rfl, by decide +kernel, rfl, by decide +kernel, by decide +kernel⟩
theorem sc_part : FnScope ["_law_feed_here", "_law_size", "_law_upper"] ["_law_feed_here", "_law_size"] (defScope s_part) := ⟨rfl, rfl, rfl, by decide +kernel, rfl, by decide +kernel, by decide +kernel⟩
theorem sc_rate : FnScope ["_law_feed_here"] ["_law_feed_here"] (defScope s_rate) := ⟨rfl, rfl, rfl, by decide +kernel, rfl, by decide +kernel, by decide +kernel⟩
theorem sc_words : FnScope ["_law_feed_here", "_law_many", "_law_letters", "_law_stem", "_law_spot", "_law_first", "_law_way", "_law_found", "_law_k"] ["_law_feed_here", "_law_many"] (defScope s_words) := ⟨rfl, rfl, rfl, by decide +kernel, rfl, by decide +kernel, by decide +kernel⟩
theorem sc_total : FnScope ["_law_terms_here", "_law_values", "_law_found", "_law_name", "_law_rate_here"] ["_law_terms_here", "_law_values"] (defScope s_total) := ⟨rfl, rfl, rfl, by decide +kernel, rfl, by decide +kernel, by decide +kernel⟩
theorem sc_point : FnScope ["_law_feed_here", "_law_words_here", "_law_name"] ["_law_feed_here", "_law_words_here"] (defScope s_point) := ⟨rfl, rfl, rfl, by decide +kernel, rfl, by decide +kernel, by decide +kernel⟩
theorem sc_terms : FnScope ["_law_feed_here", "_law_words_here", "_law_pairs", "_law_one", "_law_chosen", "_law_name"] ["_law_feed_here", "_law_words_here", "_law_pairs"] (defScope s_terms) := ⟨rfl, rfl, rfl, by decide +kernel, rfl, by decide +kernel, by decide +kernel⟩
theorem sc_ties : FnScope ["_law_feed_here", "_law_words_here", "_law_many", "_law_open_cases", "_law_point_here", "_law_found", "_law_loose", "_law_k", "_law_terms_here", "_law_bound", "_law_room"] ["_law_feed_here", "_law_words_here", "_law_many", "_law_open_cases"] (defScope s_ties) := ⟨rfl, rfl, rfl, by decide +kernel, rfl, by decide +kernel, by decide +kernel⟩
theorem sc_is_part : FnScope ["_law_thing"] ["_law_thing"] (defScope s_is_part) := ⟨rfl, rfl, rfl, by decide +kernel, rfl, by decide +kernel, by decide +kernel⟩
theorem sc_summed : FnScope ["_law_bonds", "_law_paper", "_law_rates", "_law_bound", "_law_last", "_law_pair", "_law_name", "_law_rate_here"] ["_law_bonds", "_law_paper"] (defScope s_summed) := ⟨rfl, rfl, rfl, by decide +kernel, rfl, by decide +kernel, by decide +kernel⟩
theorem sc_refuted : FnScope ["_law_bonds", "_law_paper", "_law_found"] ["_law_bonds", "_law_paper"] (defScope s_refuted) := ⟨rfl, rfl, rfl, by decide +kernel, rfl, by decide +kernel, by decide +kernel⟩
theorem sc_derived : FnScope ["_law_bonds", "_law_tie", "_law_paper", "_law_found"] ["_law_bonds", "_law_tie", "_law_paper"] (defScope s_derived) := ⟨rfl, rfl, rfl, by decide +kernel, rfl, by decide +kernel, by decide +kernel⟩
theorem sc_bent_paper : FnScope ["_law_feed_here", "_law_paper", "_law_many", "_law_at", "_law_more", "_law_spot", "_law_share"] ["_law_feed_here", "_law_paper", "_law_many"] (defScope s_bent_paper) := ⟨rfl, rfl, rfl, by decide +kernel, rfl, by decide +kernel, by decide +kernel⟩
theorem sc_p_law : FnScope ["_law_script", "_law_feed_here", "_law_turn", "_law_words_here", "_law_bonds", "_law_shares", "_law_found", "_law_tie", "_law_wide", "_law_due", "_law_back", "_law_edge", "_law_both", "_law_paper", "_law_at", "_law_start", "_law_bent", "_law_kept", "_law_told", "_law_k", "_law_one", "_law_name", "_law_rate_here"] ["_law_script"] (defScope s_p_law) := ⟨rfl, rfl, rfl, by decide +kernel, rfl, by decide +kernel, by decide +kernel⟩
structure Txt (K : PySem.W.Frag) (mg : Str → Option Value) (fa : Nat → Addr) (fd : Nat → FuncData) : Prop where
  F_p_is_whole : Fun K "is_whole" "is_whole" s_p_is_whole (fa 8) (fd 8)
  g_p_is_whole : mg "is_whole" = some (.ref (fa 8))
  b_p_is_whole : Binds K (fd 8) ["thing"] []
  F_p_shortened : Fun K "shortened" "shortened" s_p_shortened (fa 9) (fd 9)
  g_p_shortened : mg "shortened" = some (.ref (fa 9))
  b_p_shortened : Binds K (fd 9) ["one", "other"] []
  F_p_common_divisor : Fun K "common_divisor" "common_divisor" s_p_common_divisor (fa 10) (fd 10)
  g_p_common_divisor : mg "common_divisor" = some (.ref (fa 10))
  b_p_common_divisor : Binds K (fd 10) ["one", "other"] []
  F_p_ratio : FunD K "ratio" "ratio" (defArgs s_p_ratio) (defBody s_p_ratio) (defScope s_p_ratio) [V.int 1] [] (fa 11) (fd 11)
  g_p_ratio : mg "ratio" = some (.ref (fa 11))
  b_p_ratio : Binds K (fd 11) ["top", "under"] []
  d_p_ratio : ∃ ds, Vals [V.int 1] ds ∧ Binds K (fd 11) ["top", "under"] ds
  F_p_is_ratio : Fun K "is_ratio" "is_ratio" s_p_is_ratio (fa 12) (fd 12)
  g_p_is_ratio : mg "is_ratio" = some (.ref (fa 12))
  b_p_is_ratio : Binds K (fd 12) ["thing"] []
  F_p_add : Fun K "add" "add" s_p_add (fa 13) (fd 13)
  g_p_add : mg "add" = some (.ref (fa 13))
  b_p_add : Binds K (fd 13) ["one", "other"] []
  F_p_multiply : Fun K "multiply" "multiply" s_p_multiply (fa 14) (fd 14)
  g_p_multiply : mg "multiply" = some (.ref (fa 14))
  b_p_multiply : Binds K (fd 14) ["one", "other"] []
  F_p_is_less : Fun K "is_less" "is_less" s_p_is_less (fa 15) (fd 15)
  g_p_is_less : mg "is_less" = some (.ref (fa 15))
  b_p_is_less : Binds K (fd 15) ["one", "other"] []
  F_p_is_share : Fun K "is_share" "is_share" s_p_is_share (fa 17) (fd 17)
  g_p_is_share : mg "is_share" = some (.ref (fa 17))
  b_p_is_share : Binds K (fd 17) ["thing", "many"] []
  F_p_is_paper : Fun K "is_paper" "is_paper" s_p_is_paper (fa 18) (fd 18)
  g_p_is_paper : mg "is_paper" = some (.ref (fa 18))
  b_p_is_paper : Binds K (fd 18) ["paper", "many"] []
  F_p_total : Fun K "total" "total" s_p_total (fa 19) (fd 19)
  g_p_total : mg "total" = some (.ref (fa 19))
  b_p_total : Binds K (fd 19) ["ties", "paper"] []
  F_p_refutes : Fun K "refutes" "refutes" s_p_refutes (fa 20) (fd 20)
  g_p_refutes : mg "refutes" = some (.ref (fa 20))
  b_p_refutes : Binds K (fd 20) ["ties", "paper"] []
  F_p_derives : Fun K "derives" "derives" s_p_derives (fa 21) (fd 21)
  g_p_derives : mg "derives" = some (.ref (fa 21))
  b_p_derives : Binds K (fd 21) ["ties", "tie", "paper"] []
  F_feed : Fun K "_law_feed" "_law_feed" s_feed (fa 23) (fd 23)
  g_feed : mg "_law_feed" = some (.ref (fa 23))
  b_feed : Binds K (fd 23) ["_law_script"] []
  F_draw : Fun K "_law_draw" "_law_draw" s_draw (fa 24) (fd 24)
  g_draw : mg "_law_draw" = some (.ref (fa 24))
  b_draw : Binds K (fd 24) ["_law_feed_here", "_law_many"] []
  F_any : Fun K "_law_any" "_law_any" s_any (fa 25) (fd 25)
  g_any : mg "_law_any" = some (.ref (fa 25))
  b_any : Binds K (fd 25) ["_law_feed_here", "_law_row"] []
  F_same : Fun K "_law_same" "_law_same" s_same (fa 26) (fd 26)
  g_same : mg "_law_same" = some (.ref (fa 26))
  b_same : Binds K (fd 26) ["_law_found", "_law_due"] []
  F_gcd : Fun K "_law_gcd" "_law_gcd" s_gcd (fa 27) (fd 27)
  g_gcd : mg "_law_gcd" = some (.ref (fa 27))
  b_gcd : Binds K (fd 27) ["_law_one", "_law_two"] []
  F_low : Fun K "_law_low" "_law_low" s_low (fa 28) (fd 28)
  g_low : mg "_law_low" = some (.ref (fa 28))
  b_low : Binds K (fd 28) ["_law_upper", "_law_lower"] []
  F_plus : Fun K "_law_plus" "_law_plus" s_plus (fa 29) (fd 29)
  g_plus : mg "_law_plus" = some (.ref (fa 29))
  b_plus : Binds K (fd 29) ["_law_one", "_law_two"] []
  F_minus : Fun K "_law_minus" "_law_minus" s_minus (fa 30) (fd 30)
  g_minus : mg "_law_minus" = some (.ref (fa 30))
  b_minus : Binds K (fd 30) ["_law_one"] []
  F_by : Fun K "_law_by" "_law_by" s_by (fa 31) (fd 31)
  g_by : mg "_law_by" = some (.ref (fa 31))
  b_by : Binds K (fd 31) ["_law_one", "_law_two"] []
  F_under : Fun K "_law_under" "_law_under" s_under (fa 32) (fd 32)
  g_under : mg "_law_under" = some (.ref (fa 32))
  b_under : Binds K (fd 32) ["_law_one", "_law_two"] []
  F_part : Fun K "_law_part" "_law_part" s_part (fa 33) (fd 33)
  g_part : mg "_law_part" = some (.ref (fa 33))
  b_part : Binds K (fd 33) ["_law_feed_here", "_law_size"] []
  F_rate : Fun K "_law_rate" "_law_rate" s_rate (fa 34) (fd 34)
  g_rate : mg "_law_rate" = some (.ref (fa 34))
  b_rate : Binds K (fd 34) ["_law_feed_here"] []
  F_words : Fun K "_law_words" "_law_words" s_words (fa 35) (fd 35)
  g_words : mg "_law_words" = some (.ref (fa 35))
  b_words : Binds K (fd 35) ["_law_feed_here", "_law_many"] []
  F_total : Fun K "_law_total" "_law_total" s_total (fa 36) (fd 36)
  g_total : mg "_law_total" = some (.ref (fa 36))
  b_total : Binds K (fd 36) ["_law_terms_here", "_law_values"] []
  F_point : Fun K "_law_point" "_law_point" s_point (fa 37) (fd 37)
  g_point : mg "_law_point" = some (.ref (fa 37))
  b_point : Binds K (fd 37) ["_law_feed_here", "_law_words_here"] []
  F_terms : Fun K "_law_terms" "_law_terms" s_terms (fa 38) (fd 38)
  g_terms : mg "_law_terms" = some (.ref (fa 38))
  b_terms : Binds K (fd 38) ["_law_feed_here", "_law_words_here", "_law_pairs"] []
  F_ties : Fun K "_law_ties" "_law_ties" s_ties (fa 39) (fd 39)
  g_ties : mg "_law_ties" = some (.ref (fa 39))
  b_ties : Binds K (fd 39) ["_law_feed_here", "_law_words_here", "_law_many", "_law_open_cases"] []
  F_is_part : Fun K "_law_is_part" "_law_is_part" s_is_part (fa 40) (fd 40)
  g_is_part : mg "_law_is_part" = some (.ref (fa 40))
  b_is_part : Binds K (fd 40) ["_law_thing"] []
  F_summed : Fun K "_law_summed" "_law_summed" s_summed (fa 41) (fd 41)
  g_summed : mg "_law_summed" = some (.ref (fa 41))
  b_summed : Binds K (fd 41) ["_law_bonds", "_law_paper"] []
  F_refuted : Fun K "_law_refuted" "_law_refuted" s_refuted (fa 42) (fd 42)
  g_refuted : mg "_law_refuted" = some (.ref (fa 42))
  b_refuted : Binds K (fd 42) ["_law_bonds", "_law_paper"] []
  F_derived : Fun K "_law_derived" "_law_derived" s_derived (fa 43) (fd 43)
  g_derived : mg "_law_derived" = some (.ref (fa 43))
  b_derived : Binds K (fd 43) ["_law_bonds", "_law_tie", "_law_paper"] []
  F_bent_paper : Fun K "_law_bent_paper" "_law_bent_paper" s_bent_paper (fa 44) (fd 44)
  g_bent_paper : mg "_law_bent_paper" = some (.ref (fa 44))
  b_bent_paper : Binds K (fd 44) ["_law_feed_here", "_law_paper", "_law_many"] []
  F_p_law : Fun K "law" "law" s_p_law (fa 45) (fd 45)
  g_p_law : mg "law" = some (.ref (fa 45))
  b_p_law : Binds K (fd 45) ["_law_script"] []
  c_LONG : ∃ u, mg "LONG" = some u ∧ RelV (.int 4096) u
  c_ZERO : ∃ u, mg "ZERO" = some u ∧ RelV (.ref (fa 2000)) u
  z_ZERO : ∀ H : Hp, SqT K H ((fa 2000)) [V.int 0, V.int 1]
  m_int : mg "int" = none
  m_len : mg "len" = none
  m_abs : mg "abs" = none
  m_range : mg "range" = none
  m_zip : mg "zip" = none
  m_all : mg "all" = none
  m_isinstance : mg "isinstance" = none
  m_bool : mg "bool" = none
  m_str : mg "str" = none
  m_tuple : mg "tuple" = none
  m_list : mg "list" = none
  m_dict : mg "dict" = none
  m_sorted : mg "sorted" = none
  m_set : mg "set" = none
/-! ### the law's own words: drawing -/
def FeedOk (H : Hp) (a c : Addr) : Prop := ∃ (ns : List Int) (k big mark : Int), H a = some (.lst [.ref c, .int k, .int big, .int mark]) ∧ H c = some (.lst (ns.map V.int)) ∧ c ≠ a ∧ ns.length ≤ 63 ∧ 0 ≤ k
def But (a : Addr) (H H' : Hp) : Prop := ∀ b o, b ≠ a → H b = some o → H' b = some o
theorem But.refl (a : Addr) (H : Hp) : But a H H := fun _ _ _ h => h
theorem But.trans {a : Addr} {H H1 H2 : Hp} (p : But a H H1) (q : But a H1 H2) : But a H H2 := fun b o n h => q b o n (p b o n h)
theorem But.upd {a : Addr} {H : Hp} {o : HO} : But a H (upd H a o) := fun b _ n h => by rw [upd_ne n]; exact h
theorem But.of {a : Addr} {H H' : Hp} (s : Same H H') : But a H H' := fun b o _ h => s b o h
theorem same_upd {H : Hp} {p : Addr} {o : HO} (h : H p = none) : Same H (upd H p o) := fun b x e => by
  rw [upd_ne (ne_of_none e h)]
  exact e
theorem FeedOk.new {H : Hp} {a c p : Addr} {o : HO} (h : FeedOk H a c) (n : H p = none) : FeedOk (upd H p o) a c := by
  obtain ⟨ns, k, big, mark, h1, h2, h3⟩ := h
  exact ⟨ns, k, big, mark, same_upd n _ _ h1, same_upd n _ _ h2, h3⟩
theorem FeedOk.same {H H' : Hp} {a c : Addr} (h : FeedOk H a c) (s : Same H H') : FeedOk H' a c := by
  obtain ⟨ns, k, big, mark, h1, h2, h3⟩ := h
  exact ⟨ns, k, big, mark, s _ _ h1, s _ _ h2, h3⟩
def Mid (m : Int) : Prop := 0 < m ∧ m.natAbs.log2 < 9000
def spDraw : Sp := fun vs H Q _ => ∃ (a c : Addr) (m : Int), vs = [.ref a, .int m] ∧ FeedOk H a c ∧ Mid m ∧ ∀ r H', 0 ≤ r → r < m → FeedOk H' a c → But a H H' → Q (.int r) H'
section
variable {P : Program} {w : World} {K : PySem.W.Frag} {mg : Str → Option Value} {base : Heap} {fa : Nat → Addr} {fd : Nat → FuncData}
theorem ok_draw (T : Txt K mg fa fd) : FnOk P w K mg base CX0 1 (fa 24) (fd 24) ["_law_feed_here", "_law_many"] spDraw := by
  refine T.F_draw.ok sc_draw (fun vs H Q E h => ?_) (fun cdv A outer s H vs Q E hr h => ?_)
  · obtain ⟨a, c, m, rfl, _⟩ := h
    rfl
  · obtain ⟨a, c, m, rfl, ⟨ns, k, big, mark, ha, hc, nca, hlen, hk⟩, ⟨hm, hm9⟩, q⟩ := h
    refine ⟨_, (C8.pss_cut (ps_if (pt_cmpR op_lt (pe_ix ix_list (pv 0) pe_int (fun _ _ => rfl)) pe_int (nomark _)) (C8.pss_cut (ps_asg (pe_op op_add (pe_ix ix_list (pv 0) pe_int (fun _ _ => rfl)) pe_int) (pg_sub (pv 0) pe_int set_list))
      (pss_cons (ps_set (i := 2) sc_draw.nd rfl (.inl rfl) (pe_op op_add (pe_ix ix_list (pv 0) pe_int (fun _ _ => rfl)) (pe_op op_mul (pe_ix ix_list (pv 0) pe_int (fun _ _ => rfl)) pe_int)))
      (C8.pss_cut (ps_if (pt_cmpR op_le (pe_ix ix_list (pv 0) pe_int (fun _ _ => rfl)) (pe_callB call_len_seq (by rfl) T.m_len PySem.boot_len (pa_cons (pe_ix ix_list (pv 0) pe_int (fun _ _ => rfl)) pa_nil)) (nomark _)) (pss_one (ps_set (i := 2) sc_draw.nd rfl (.inl rfl) (pe_ix ix_list (pe_ix ix_list (pv 0) pe_int (fun _ _ => rfl)) (pe_op op_sub (pe_ix ix_list (pv 0) pe_int (fun _ _ => rfl)) pe_int) (fun _ _ => rfl)))) pss_nil)
      (pss_cons (ps_if (PW.pt (pw_or (pt_cmpR op_gt (pe_ix ix_list (pv 0) pe_int (fun _ _ => rfl)) (pe_callB call_len_seq (by rfl) T.m_len PySem.boot_len (pa_cons (pe_ix ix_list (pv 0) pe_int (fun _ _ => rfl)) pa_nil)) (nomark _)) (pw_or1 (pt_cmpR op_lt (pv 2) (pe_op op_pow pe_int pe_int) (nomark _))))) (pss_cons (ps_set (i := 3) sc_draw.nd rfl (.inl rfl) (pe_op op_mod (pe_callTy call_int1 (by rfl) T.m_int PySem.Pv.boot_int (pa_cons (pe_op op_add (pe_op op_add (pe_op op_mul (pv 2) pe_int) (pe_op op_mul (pe_ix ix_list (pv 0) pe_int (fun _ _ => rfl)) pe_int)) (pe_ix ix_list (pv 0) pe_int (fun _ _ => rfl))) pa_nil)) pe_int))
      (pss_cons (ps_set (i := 4) sc_draw.nd rfl (.inl rfl) (pe_op op_mod (pe_callTy call_int1 (by rfl) T.m_int PySem.Pv.boot_int (pa_cons (pe_op op_add (pe_op op_mul (pv 3) (pv 3)) (pe_op op_mul (pe_ix ix_list (pv 0) pe_int (fun _ _ => rfl)) pe_int)) pa_nil)) pe_int))
      (pss_one (ps_ret (pe_op op_mod (pe_op op_fdiv (pe_op op_mod (pe_callTy call_int1 (by rfl) T.m_int PySem.Pv.boot_int (pa_cons (pe_op op_add (pe_op op_mul (pv 4) pe_int) (pv 3)) pa_nil)) pe_int) pe_int) (pv 1)))))) pss_nil)
      (pss_one (ps_asg (pv 2) (pg_sub (pv 0) pe_int set_list))))))) pss_nil)
      (pss_cons (ps_set (i := 5) sc_draw.nd rfl (.inl rfl) (pe_op op_mod (pe_callTy call_int1 (by rfl) T.m_int PySem.Pv.boot_int (pa_cons (pe_ix ix_list (pv 0) pe_int (fun _ _ => rfl)) pa_nil)) (pv 1)))
      (pss_cons (ps_asg (pe_op op_fdivW (pe_callTy call_int1 (by rfl) T.m_int PySem.Pv.boot_int (pa_cons (pe_ix ix_list (pv 0) pe_int (fun _ _ => rfl)) pa_nil)) (pv 1)) (pg_sub (pv 0) pe_int set_list))
      (pss_one (ps_ret (pv 5)))))), ?_⟩
    have i0 : ∀ (x y z u : V), atI [x, y, z, u] 0 = some x := fun _ _ _ _ => rfl
    have i1 : ∀ (x y z u : V), atI [x, y, z, u] 1 = some y := fun _ _ _ _ => rfl
    have i2 : ∀ (x y z u : V), atI [x, y, z, u] 2 = some z := fun _ _ _ _ => rfl
    have i3 : ∀ (x y z u : V), atI [x, y, z, u] 3 = some u := fun _ _ _ _ => rfl
    refine ⟨fun σ H1 => FeedOk H1 a c ∧ But a H H1 ∧ ∃ y2 y3 y4 y5, σ = [some (.ref a), some (.int m), y2, y3, y4, y5], ?_, fun σ H1 hM => ?_⟩
    · refine ⟨.ref a, rfl, a, _, _, _, rfl, rfl, SqL.of ha, i2 _ _ _ _, _, _, rfl, rfl, _, rfl, ite2 (fun e => ?_) (fun e => ?_)⟩
      · -- feed[1] = feed[1] + 1
        refine ⟨fun σ H1 => σ = [some (.ref a), some (.int m), none, none, none, none] ∧ H1 a = some (.lst [.ref c, .int (k + 1), .int big, .int mark]) ∧ H1 c = some (.lst (ns.map V.int)) ∧ But a H H1,
          ⟨.ref a, rfl, a, _, _, _, rfl, rfl, SqL.of ha, i1 _ _ _ _, _, _, rfl, rfl, .ref a, rfl, a, _, _, 1, rfl, rfl, ha, rfl, rfl, upd_same, by rw [upd_ne nca]; exact hc, But.upd⟩, fun σ H1 hM => ?_⟩
        obtain ⟨rfl, ha1, hc1, b1⟩ := hM
        refine ⟨.ref a, rfl, a, _, _, _, rfl, rfl, SqL.of ha1, i3 _ _ _ _, .ref a, rfl, a, _, _, _, rfl, rfl, SqL.of ha1, i1 _ _ _ _, _, _, rfl, rfl, .inr (by decide), _, _, rfl, rfl, ?_⟩
        refine ⟨fun σ H2 => H2 = H1 ∧ ∃ z : Int, σ = [some (.ref a), some (.int m), some (.int z), none, none, none], ?_, fun σ H2 hM => ?_⟩
        · refine ⟨.ref a, rfl, a, _, _, _, rfl, rfl, SqL.of ha1, i1 _ _ _ _, .ref a, rfl, a, _, _, _, rfl, rfl, SqL.of ha1, i0 _ _ _ _, c, _, rfl, .inl (SqL.of hc1), _, _, rfl, rfl, _, rfl, ite2 (fun e1 => ?_) (fun e1 => ?_)⟩
          · have h1 : k + 1 ≤ ((ns.map V.int).length : Int) := of_decide_eq_true e1
            rw [List.length_map] at h1
            have h2 : k.toNat < ns.length := by omega
            have g : (ns.map V.int)[k.toNat]? = some (.int ns[k.toNat]) := by rw [List.getElem?_map, List.getElem?_eq_getElem h2]; rfl
            exact ⟨.ref a, rfl, a, _, _, _, rfl, rfl, SqL.of ha1, i0 _ _ _ _, .ref a, rfl, a, _, _, _, rfl, rfl, SqL.of ha1, i1 _ _ _ _, _, _, rfl, rfl, c, _, _, _, rfl, rfl, SqL.of hc1, at_of (j := k.toNat) (by omega) g, rfl, _, rfl⟩
          · exact ⟨rfl, _, rfl⟩
        · obtain ⟨rfl, z, rfl⟩ := hM
          have tail : FeedOk (upd H2 a (.lst ([V.ref c, .int (k + 1), .int big, .int mark].set 2 (.int z)))) a c ∧ But a H (upd H2 a (.lst ([V.ref c, .int (k + 1), .int big, .int mark].set 2 (.int z)))) ∧ ∃ y2 y3 y4 y5, [some (V.ref a), some (.int m), some (.int z), none, none, none] = [some (V.ref a), some (.int m), y2, y3, y4, y5] :=
            ⟨⟨ns, k + 1, z, mark, upd_same, by rw [upd_ne nca]; exact hc1, nca, hlen, by omega⟩, b1.trans But.upd, _, _, _, _, rfl⟩
          have pos : ∀ x y : Int, 0 ≤ x % 2147483647 ∧ x % 2147483647 < 2147483647 := fun x _ => ⟨Int.emod_nonneg _ (by decide), Int.emod_lt_of_pos _ (by decide)⟩
          have done : ∀ x : Int, Q (.int (x % m)) H2 := fun x => q _ _ (Int.emod_nonneg _ (by omega)) (Int.emod_lt_of_pos _ hm) ⟨ns, k + 1, big, mark, ha1, hc1, nca, hlen, by omega⟩ b1
          refine ⟨.ref a, rfl, a, _, _, _, rfl, rfl, SqL.of ha1, i1 _ _ _ _, .ref a, rfl, a, _, _, _, rfl, rfl, SqL.of ha1, i0 _ _ _ _, c, _, rfl, .inl (SqL.of hc1), _, _, rfl, rfl, _, rfl, ite2 (fun e1 => ?_) (fun e1 => ?_)⟩
          · exact ⟨_, rfl, _, _, rfl, rfl, .inr (by decide), _, rfl, a, _, _, _, rfl, rfl, SqL.of ha1, i1 _ _ _ _, _, _, rfl, rfl, .inr (by decide), _, _, rfl, rfl, _, rfl, a, _, _, _, rfl, rfl, SqL.of ha1, i3 _ _ _ _, _, _, rfl, rfl, .inl ⟨_, rfl, _, _, rfl, rfl, (by show (0 : Int) < _; decide), _, rfl, _, rfl, _, _, rfl, rfl, .inl (by have p := pos (z * 48271 + (k + 1) * 69621 + mark) 0; exact ⟨by omega, by omega⟩), _, rfl, a, _, _, _, rfl, rfl, SqL.of ha1, i1 _ _ _ _, _, _, rfl, rfl, .inr (by decide), _, _, rfl, rfl, .inl ⟨_, rfl, _, _, rfl, rfl, (by show (0 : Int) < _; decide), _, rfl, _, _, rfl, rfl, .inr (by decide), _, rfl, _, _, rfl, rfl, .inl ⟨_, rfl, _, _, rfl, rfl, (by show (0 : Int) < _; decide), _, _, rfl, rfl, ⟨by decide, by decide⟩, _, rfl, _, _, rfl, rfl, hm, done _⟩⟩⟩⟩
          · refine ⟨_, rfl, _, _, rfl, rfl, ⟨by decide, by decide, by decide⟩, _, _, rfl, rfl, _, rfl, ite2 (fun e2 => ?_) (fun e2 => ?_)⟩
            · exact ⟨_, rfl, _, _, rfl, rfl, .inr (by decide), _, rfl, a, _, _, _, rfl, rfl, SqL.of ha1, i1 _ _ _ _, _, _, rfl, rfl, .inr (by decide), _, _, rfl, rfl, _, rfl, a, _, _, _, rfl, rfl, SqL.of ha1, i3 _ _ _ _, _, _, rfl, rfl, .inl ⟨_, rfl, _, _, rfl, rfl, (by show (0 : Int) < _; decide), _, rfl, _, rfl, _, _, rfl, rfl, .inl (by have p := pos (z * 48271 + (k + 1) * 69621 + mark) 0; exact ⟨by omega, by omega⟩), _, rfl, a, _, _, _, rfl, rfl, SqL.of ha1, i1 _ _ _ _, _, _, rfl, rfl, .inr (by decide), _, _, rfl, rfl, .inl ⟨_, rfl, _, _, rfl, rfl, (by show (0 : Int) < _; decide), _, rfl, _, _, rfl, rfl, .inr (by decide), _, rfl, _, _, rfl, rfl, .inl ⟨_, rfl, _, _, rfl, rfl, (by show (0 : Int) < _; decide), _, _, rfl, rfl, ⟨by decide, by decide⟩, _, rfl, _, _, rfl, rfl, hm, done _⟩⟩⟩⟩
            · exact ⟨_, rfl, .ref a, rfl, a, _, _, 2, rfl, rfl, ha1, rfl, tail⟩
      · exact ⟨⟨ns, k, big, mark, ha, hc, nca, hlen, hk⟩, But.refl _ _, none, none, none, none, rfl⟩
    · obtain ⟨⟨ns1, k1, big1, mark1, ha1, hc1, nca1, hlen1, hk1⟩, b1, y2, y3, y4, y5, rfl⟩ := hM
      refine ⟨.ref a, rfl, a, _, _, _, rfl, rfl, SqL.of ha1, i2 _ _ _ _, .inl ⟨_, rfl, _, rfl, _, _, rfl, rfl, hm, ?_⟩⟩
      refine ⟨.ref a, rfl, a, _, _, _, rfl, rfl, SqL.of ha1, i2 _ _ _ _, .inl ⟨_, rfl, _, rfl, _, _, rfl, rfl, ⟨hm, hm9⟩, ?_⟩⟩
      refine ⟨.ref a, rfl, a, _, _, 2, rfl, rfl, ha1, rfl, ?_⟩
      refine ⟨_, rfl, q _ _ (Int.emod_nonneg _ (by omega)) (Int.emod_lt_of_pos _ hm) ⟨ns1, k1, big1 / m, mark1, upd_same, ?_, nca1, hlen1, hk1⟩ (b1.trans But.upd)⟩
      rw [upd_ne nca1]
      exact hc1
theorem cut63 (xs : List V) (h : xs.length ≤ 63) : cutV xs none (some 63) = xs := by
  unfold cutV
  rw [show HT.sIx xs.length xs.length (some 63) = min 63 xs.length from HT.sIx_nat xs.length xs.length 63, HT.sIx_none]
  rw [Nat.min_eq_right h]
  exact List.take_length
def spFeed (K : PySem.W.Frag) : Sp := fun vs H Q _ => ∃ (a : Addr) (ns : List Int), vs = [.ref a] ∧ SqL K H a (ns.map V.int) ∧ ns.length ≤ 63 ∧ ∀ p c H', H p = none → H c = none → Same H H' → FeedOk H' p c → Q (.ref p) H'
theorem ok_feed (T : Txt K mg fa fd) : FnOk P w K mg base CX0 1 (fa 23) (fd 23) ["_law_script"] (spFeed K) := by
  refine T.F_feed.ok sc_feed (fun vs H Q E h => ?_) (fun cdv A outer s H vs Q E hr h => ?_)
  · obtain ⟨a, ns, rfl, _⟩ := h
    rfl
  · obtain ⟨a, ns, rfl, hS, hlen, q⟩ := h
    refine ⟨_, (C8.pss_cut (ps_setLc (i := 2) (own := [("_law_cell", 1)]) (g := gName 1) (tt := tYes) rfl sc_feed.nd rfl rfl (sw_true rfl rfl rfl (by decide +kernel)) (pi_list (pe_slice sl_list (pv 0) po_none (po_some pe_int))) (blkOk_by (own := [("_law_cell", 1)]) (N := ["_law_script", "_law_cell", "_law_cells", "_law_mark"]) (sc := defScope s_feed) (by decide +kernel)) (fun _ _ _ _ _ => pg_name (i := 1) sc_feed.nd rfl (Or.inl rfl)) (fun _ _ _ _ _ => pts_nil) (fun _ _ _ _ _ => (pe_callTy call_int1 (by rfl) T.m_int PySem.Pv.boot_int (pa_cons (pv 1) pa_nil))))
      (pss_cons (ps_set (i := 3) sc_feed.nd rfl (.inl rfl) (pe_op op_add pe_int (pe_op op_mul pe_int (pe_callB call_len_seq (by rfl) T.m_len PySem.boot_len (pa_cons (pv 2) pa_nil)))))
      (pss_cons (ps_for PassesOwn.never rfl (pi_list (pv 2)) (pg_name (i := 1) sc_feed.nd rfl (.inl rfl)) (pss_one (ps_set (i := 3) sc_feed.nd rfl (.inl rfl) (pe_op op_mod (pe_callTy call_int1 (by rfl) T.m_int PySem.Pv.boot_int (pa_cons (pe_op op_add (pe_op op_mul (pv 3) pe_int) (pv 1)) pa_nil)) pe_int))))
      (pss_one (ps_ret (pe_lst (pa_cons (pv 2) (pa_cons pe_int (pa_cons pe_int (pa_cons (pv 3) pa_nil)))))))))), ?_⟩
    refine ⟨fun σ H1 => ∃ c, σ = [some (.ref a), none, some (.ref c), none] ∧ H c = none ∧ Same H H1 ∧ H1 c = some (.lst (ns.map V.int)), ?_, fun σ H1 hM => ?_⟩
    · refine ⟨.ref a, rfl, 63, rfl, a, _, rfl, hS, fun p np => ?_⟩
      rw [cut63 _ (by rw [List.length_map]; exact hlen)]
      have s1 : Same H (upd H p (.lst (ns.map V.int))) := same_upd np
      refine ⟨p, rfl, ⟨_, SqL.of upd_same⟩, fun D nD => ?_⟩
      have nD0 : H D = none := s1.free nD
      have npD : p ≠ D := ne_of_none upd_same nD
      refine lc_list (K := K) (a := p) (xs := ns.map V.int) (fun i H2 => Same (upd H p (.lst (ns.map V.int))) H2 ∧ H2 D = some (.lst ((ns.take i).map V.int))) ⟨same_upd nD, upd_same⟩ (fun i H2 _ hp => SqL.of (hp.1 _ _ upd_same)) (fun i x H2 hx hp => ?_) (fun H2 hp => ?_)
      · rw [List.getElem?_map] at hx
        obtain ⟨z, hz, rfl⟩ := Option.map_eq_some_iff.mp hx
        refine ⟨rfl, _, rfl, .inl ⟨_, rfl, _, hp.2, ?_, ?_, ?_⟩⟩
        · rw [List.length_map, List.length_take]
          exact Nat.lt_of_le_of_lt (Nat.min_le_left _ _) (small1000 (by
            have := (List.getElem?_eq_some_iff.mp hz).1
            omega))
        · exact fun b o e => by
            rw [upd_ne (ne_of_none e nD)]
            exact hp.1 b o e
        · rw [upd_same, List.take_add_one, hz, List.map_append]
          rfl
      · rw [List.length_map] at hp
        refine ⟨D, rfl, nD0, s1.trans hp.1, ?_⟩
        rw [hp.2, List.take_length]
    · obtain ⟨c, rfl, nc, s1, hc⟩ := hM
      refine ⟨_, rfl, c, _, rfl, .inl (SqL.of hc), _, _, rfl, rfl, .inl (by decide), _, _, rfl, rfl, ?_⟩
      refine ⟨_, rfl, c, rfl, ⟨_, SqL.of hc⟩, for_list (K := K) (a := c) (xs := ns.map V.int) (fun i σ H2 => H2 = H1 ∧ ∃ (y1 : Option V) (m : Int), σ = [some (.ref a), y1, some (.ref c), some (.int m)] ∧ 0 ≤ m ∧ m < 1000000000000) ?_ (fun i σ H2 _ hp => by rw [hp.1]; exact SqL.of hc) (fun i x σ H2 hx hp => ?_) (fun σ H2 hp => ?_)⟩
      · refine ⟨rfl, _, _, rfl, ?_⟩
        rw [List.length_map]
        omega
      · obtain ⟨rfl, y1, m, rfl, h0, h1⟩ := hp
        rw [List.getElem?_map] at hx
        obtain ⟨z, hz, rfl⟩ := Option.map_eq_some_iff.mp hx
        exact ⟨_, rfl, _, _, rfl, rfl, .inr (by decide), _, rfl, _, _, rfl, rfl, .inl ⟨_, rfl, _, _, rfl, rfl, (by show (0 : Int) < _; decide), rfl, _, _, rfl, Int.emod_nonneg _ (by decide), Int.lt_trans (Int.emod_lt_of_pos _ (by decide)) (by decide)⟩⟩
      · obtain ⟨rfl, y1, m, rfl, h0, h1⟩ := hp
        refine ⟨_, rfl, _, rfl, Nat.le_trans (by decide : 4 ≤ 1000) (Nat.le_of_lt (small1000 (Nat.le_refl _))), fun p np => ?_⟩
        refine q p c _ (s1.free np) nc (s1.trans (same_upd np)) ⟨ns, 0, 0, m, upd_same, ?_, ne_of_none hc np, hlen, Int.le_refl _⟩
        rw [upd_ne (ne_of_none hc np)]
        exact hc
/-! ### the row's own draw -/
def spAny : Sp := fun vs H Q _ => ∃ (a c r : Addr) (xs : List V), vs = [.ref a, .ref r] ∧ FeedOk H a c ∧ H r = some (.lst xs) ∧ r ≠ a ∧ 0 < xs.length ∧ xs.length ≤ 1000 ∧ ∀ v H', v ∈ xs → FeedOk H' a c → But a H H' → Q v H'
theorem mid_small {n : Nat} (h0 : 0 < n) (h : n ≤ 1000) : Mid (n : Int) := ⟨by omega, by
  rw [Int.natAbs_natCast]
  exact Nat.lt_of_le_of_lt (Nat.log2_le_self n) (by omega)⟩
theorem ok_any (T : Txt K mg fa fd) : FnOk P w K mg base CX0 2 (fa 25) (fd 25) ["_law_feed_here", "_law_row"] spAny := by
  refine T.F_any.ok sc_any (fun vs H Q E h => ?_) (fun cdv A outer s H vs Q E hr h => ?_)
  · obtain ⟨a, c, m, xs, rfl, _⟩ := h
    rfl
  · obtain ⟨a, c, r, xs, rfl, hF, hx, nra, h0, h1, q⟩ := h
    refine ⟨_, (pss_one (ps_ret (pe_ix ix_list (pv 1) (pe_call (ok_draw T) (hr.mono (by decide)) (by rfl) T.g_draw T.F_draw.kp T.b_draw .nil pass0 (pa_cons (pv 0) (pa_cons (pe_callB call_len_seq (by rfl) T.m_len PySem.boot_len (pa_cons (pv 1) pa_nil)) pa_nil))) (fun _ _ => rfl)))), ?_⟩
    refine ⟨_, rfl, _, rfl, _, rfl, r, _, rfl, .inl (SqL.of hx), a, c, _, rfl, hF, mid_small h0 h1, fun z H' z0 z1 hF' b => ?_⟩
    have hz : z.toNat < xs.length := by omega
    exact ⟨r, xs, z, xs[z.toNat], rfl, rfl, SqL.of (b _ _ nra hx), at_of (j := z.toNat) (by omega) (List.getElem?_eq_getElem hz), q _ _ (List.getElem_mem hz) hF' b⟩
/-! ### the greatest common divisor -/
def spGcd : Sp := fun vs H Q _ => ∃ x y : Int, vs = [.int x, .int y] ∧ Q (.int (Int.gcd x y : Nat)) H
theorem ok_gcd (T : Txt K mg fa fd) : FnOk P w K mg base CX0 1 (fa 27) (fd 27) ["_law_one", "_law_two"] spGcd := by
  refine T.F_gcd.ok sc_gcd (fun vs H Q E h => ?_) (fun cdv A outer s H vs Q E hr h => ?_)
  · obtain ⟨x, y, rfl, _⟩ := h
    rfl
  · obtain ⟨x, y, rfl, q⟩ := h
    refine ⟨_, (pss_cons (ps_par (i := 0) (j := 1) (by rfl) sc_gcd.nd rfl rfl (by decide) rfl rfl (pa_cons (pe_callB call_abs (by rfl) T.m_abs PyProof.Rows.boot_abs (pa_cons (pv 0) pa_nil)) (pa_cons (pe_callB call_abs (by rfl) T.m_abs PyProof.Rows.boot_abs (pa_cons (pv 1) pa_nil)) pa_nil)) (by rfl))
      (pss_cons (ps_while PassesOwn.never (pt_cmpR op_ne (pv 1) pe_int (nomark _)) (pss_one (ps_par (i := 0) (j := 1) (by rfl) sc_gcd.nd rfl rfl (by decide) rfl rfl (pa_cons (pv 1) (pa_cons (pe_op op_mod (pe_callTy call_int1 (by rfl) T.m_int PySem.Pv.boot_int (pa_cons (pv 0) pa_nil)) (pv 1)) pa_nil)) (by rfl))))
      (pss_one (ps_ret (pv 0))))), ?_⟩
    refine ⟨_, rfl, _, rfl, _, rfl, _, rfl, _, _, rfl, ?_⟩
    have ab : ∀ z : Int, (if z < 0 then -z else z) = (z.natAbs : Int) := fun z => by split <;> omega
    rw [ab, ab]
    refine ⟨fun m σ H1 => ∃ u v : Nat, m = v ∧ σ = [some (.int (u : Int)), some (.int (v : Int))] ∧ H1 = H ∧ Nat.gcd u v = Int.gcd x y, ⟨_, x.natAbs, y.natAbs, rfl, rfl, rfl, rfl⟩, fun m σ H1 hW => ?_⟩
    obtain ⟨u, v, rfl, rfl, rfl, hg⟩ := hW
    refine ⟨_, rfl, rfl, _, rfl, ?_⟩
    by_cases hv : m = 0
    · subst hv
      rw [decide_eq_true (show V.int ((0 : Nat) : Int) = V.int 0 from rfl)]
      refine ⟨_, rfl, ?_⟩
      rw [Nat.gcd_zero_right] at hg
      rw [hg]
      exact q
    · rw [decide_eq_false (fun e => hv (by have := V.int.inj e; omega))]
      refine ⟨fun σ' H' => ∃ m', m' < m ∧ ∃ u v : Nat, m' = v ∧ σ' = [some (.int (u : Int)), some (.int (v : Int))] ∧ H' = H1 ∧ Nat.gcd u v = Int.gcd x y, fun σ' H' h => h, ?_⟩
      refine ⟨_, rfl, _, rfl, .inl ⟨_, rfl, _, rfl, _, _, rfl, rfl, (by show (0 : Int) < _; omega), ?_⟩⟩
      refine ⟨_, _, rfl, u % m, Nat.mod_lt _ (by omega), m, u % m, rfl, rfl, rfl, ?_⟩
      rw [← hg, Nat.gcd_comm m, ← Nat.gcd_rec, Nat.gcd_comm]
/-! ### lowest terms -/
def CDivG (_ j : Int) : Prop := j ≠ 0 ∧ j.natAbs.log2 < 9000
theorem op_fdivG {X : Cx} : OpR X (binaryOp .FloorDiv) (rI CDivG fun i j => .int (i.fdiv j)) := opI fun _ _ _ _ _ _ _ hc q => floordiv_int hc.1 q (.inl (PyProof.noPylong_of_log2 hc.2))
def lowG (u v : Int) : Int := if v < 0 then -(Int.gcd u v : Nat) else (Int.gcd u v : Nat)
def lowT (u v : Int) : Int := u.fdiv (lowG u v)
def lowD (u v : Int) : Int := v.fdiv (lowG u v)
theorem gcd_pos {u v : Int} (h : v ≠ 0) : 0 < Int.gcd u v := Nat.pos_of_ne_zero fun e => h (Int.gcd_eq_zero_iff.mp e).2
theorem gcd_le {u v : Int} (h : v ≠ 0) : Int.gcd u v ≤ v.natAbs := Nat.le_of_dvd (by omega) (Nat.gcd_dvd_right _ _)
theorem log2_mono {a b k : Nat} (h : a ≤ b) (hb : b.log2 < k) : a.log2 < k := by
  by_cases h0 : a = 0
  · subst h0
    rw [Nat.log2_zero]
    omega
  · have hb0 : b ≠ 0 := by omega
    exact (Nat.log2_lt h0).mpr (Nat.lt_of_le_of_lt h ((Nat.log2_lt hb0).mp hb))
theorem lowG_ok {u v : Int} (h : v ≠ 0) (h9 : v.natAbs.log2 < 4096) : CDivG u (lowG u v) := by
  have h1 := gcd_pos (u := u) h
  have h2 := gcd_le (u := u) h
  unfold lowG
  split
  · exact ⟨by omega, by rw [Int.natAbs_neg, Int.natAbs_natCast]; exact Nat.lt_trans (log2_mono h2 h9) (by decide)⟩
  · exact ⟨by omega, by rw [Int.natAbs_natCast]; exact Nat.lt_trans (log2_mono h2 h9) (by decide)⟩
def spLow : Sp := fun vs H Q _ => ∃ u v : Int, vs = [.int u, .int v] ∧ v ≠ 0 ∧ v.natAbs.log2 < 4096 ∧ ∀ p, H p = none → Q (.ref p) (upd H p (.tup [.int (lowT u v), .int (lowD u v)]))
theorem two_line : 2 ≤ sizeLine := Nat.le_trans (by decide : 2 ≤ 1000) (Nat.le_of_lt (small1000 (Nat.le_refl _)))
theorem ok_low (T : Txt K mg fa fd) : FnOk P w K mg base CX0 2 (fa 28) (fd 28) ["_law_upper", "_law_lower"] spLow := by
  refine T.F_low.ok sc_low (fun vs H Q E h => ?_) (fun cdv A outer s H vs Q E hr h => ?_)
  · obtain ⟨x, y, rfl, _⟩ := h
    rfl
  · obtain ⟨u, v, rfl, h0, h9, q⟩ := h
    refine ⟨_, (pss_cons (ps_set (i := 2) sc_low.nd rfl (.inl rfl) (pe_call (ok_gcd T) (hr.mono (by decide)) (by rfl) T.g_gcd T.F_gcd.kp T.b_gcd .nil pass0 (pa_cons (pv 0) (pa_cons (pv 1) pa_nil))))
      (C8.pss_cut (ps_if (pt_cmpR op_lt (pv 1) pe_int (nomark _)) (pss_one (ps_set (i := 2) sc_low.nd rfl (.inl rfl) (pe_un un_neg (pv 2)))) pss_nil)
      (pss_one (ps_ret (pe_tup (pa_cons (pe_op op_fdivG (pv 0) (pv 2)) (pa_cons (pe_op op_fdivG (pv 1) (pv 2)) pa_nil))))))), ?_⟩
    refine ⟨_, rfl, _, rfl, u, v, rfl, ?_⟩
    refine ⟨fun σ H1 => H1 = H ∧ σ = [some (.int u), some (.int v), some (.int (lowG u v))], ?_, fun σ H1 hM => ?_⟩
    · refine ⟨_, rfl, _, _, rfl, rfl, _, rfl, ite2 (fun e => ?_) (fun e => ?_)⟩
      · refine ⟨_, rfl, _, rfl, rfl, ?_⟩
        unfold lowG
        rw [if_pos (of_decide_eq_true e)]
        rfl
      · refine ⟨rfl, ?_⟩
        unfold lowG
        rw [if_neg (fun z => e (decide_eq_true z))]
        rfl
    · obtain ⟨rfl, rfl⟩ := hM
      have hG := lowG_ok (u := u) h0 h9
      exact ⟨_, rfl, _, rfl, _, _, rfl, rfl, hG, _, rfl, _, rfl, _, _, rfl, rfl, hG, two_line, q⟩
/-! ### sameness of data -/
def Leaf (v w : V) : Prop := v = w ∧ (v = .non ∨ (∃ b, v = .bl b) ∨ (∃ i, v = .int i) ∨ ∃ x, v = .str x)
def Eqd (H : Hp) : Nat → V → V → Prop
  | 0, v, w => Leaf v w
  | n + 1, v, w => Leaf v w ∨ ∃ (a b : Addr) (xs ys : List V), v = .ref a ∧ w = .ref b ∧ ((H a = some (.lst xs) ∧ H b = some (.lst ys)) ∨ (H a = some (.tup xs) ∧ H b = some (.tup ys))) ∧ xs.length = ys.length ∧ xs.length ≤ 1000 ∧
      ∀ (i : Nat) (x y : V), xs[i]? = some x → ys[i]? = some y → Eqd H n x y
theorem Eqd.leaf {H : Hp} {n : Nat} {v w : V} (h : Leaf v w) : Eqd H n v w := by
  cases n with
  | zero => exact h
  | succ n => exact .inl h
theorem Eqd.mono {H H' : Hp} (s : Same H H') : ∀ (n : Nat) {v w : V}, Eqd H n v w → Eqd H' n v w
  | 0, _, _, h => h
  | n + 1, _, _, h => by
    rcases h with h | ⟨a, b, xs, ys, e1, e2, h, l1, l2, r⟩
    · exact .inl h
    · refine .inr ⟨a, b, xs, ys, e1, e2, ?_, l1, l2, fun i x y h1 h2 => Eqd.mono s n (r i x y h1 h2)⟩
      rcases h with ⟨h1, h2⟩ | ⟨h1, h2⟩
      · exact .inl ⟨s _ _ h1, s _ _ h2⟩
      · exact .inr ⟨s _ _ h1, s _ _ h2⟩
def spSame (n : Nat) : Sp := fun vs H Q _ => ∃ v w : V, vs = [v, w] ∧ Eqd H n v w ∧ ∀ H', Same H H' → Q (.bl true) H'
def spS : Nat → Sp
  | 0 => fun _ _ _ _ => False
  | n + 1 => spSame n
theorem none_of_false {K : PySem.W.Frag} {f : Addr} {fd : FuncData} {st : Stmt} {x : Str} {N ps : List Str} (F : Fun K x x st f fd) (S : FnScope N ps (defScope st)) : FnOk P w K mg base CX0 1 f fd ps (fun _ _ _ _ => False) :=
  F.ok S (fun _ _ _ _ h => h.elim) fun _ _ _ _ _ _ _ _ _ h => h.elim
theorem kit2 {K : PySem.W.Frag} {a b c : String} {r1 r2 : Bool} (h1 : kitB a b = some r1) (h2 : kitB a c = some r2) : PySem.W.kitAny K (.type a) [.type b, .type c] = some (r1 || r2) := by
  cases r1 with
  | true => exact kitAny_cons (kit_ty h1) (fun h => nomatch h) fun _ => rfl
  | false =>
    refine kitAny_cons (kit_ty h1) (fun _ => ?_) fun h => nomatch h
    cases r2 with
    | true => exact kitAny_cons (kit_ty h2) (fun h => nomatch h) fun _ => rfl
    | false => exact kitAny_cons (kit_ty h2) (fun _ => kitAny_nil) fun h => nomatch h
theorem same_step (T : Txt K mg fa fd) (n : Nat) (G : FnOk P w K mg base CX0 (n + 1) (fa 26) (fd 26) ["_law_found", "_law_due"] (spS n)) : FnOk P w K mg base CX0 (n + 2) (fa 26) (fd 26) ["_law_found", "_law_due"] (spSame n) := by
  refine T.F_same.ok sc_same (fun vs H Q E h => ?_) (fun cdv A outer s H vs Q E hr h => ?_)
  · obtain ⟨x, y, rfl, _⟩ := h
    rfl
  · obtain ⟨x, y, rfl, hE, q⟩ := h
    refine ⟨_, (pss_cons (ps_if (pt_cmpR op_isN (pv 1) pe_non (nomark _)) (pss_one (ps_ret (pe_cmpR op_isN (pv 0) pe_non (nomark _)))) pss_nil)
      (pss_cons (ps_if (PW.pt (pw_or (pt_val (pe_callB call_isi (by rfl) T.m_isinstance PyProof.Rows.boot_isinstance (pa_cons (pv 1) (pa_cons (pe_bltn (v := .ty "bool") (by rfl) T.m_bool (by decide +kernel) rfl) pa_nil)))) (pw_or1 (pt_val (pe_callB call_isi (by rfl) T.m_isinstance PyProof.Rows.boot_isinstance (pa_cons (pv 0) (pa_cons (pe_bltn (v := .ty "bool") (by rfl) T.m_bool (by decide +kernel) rfl) pa_nil))))))) (pss_one (ps_ret (pe_and (pe_callB call_isi (by rfl) T.m_isinstance PyProof.Rows.boot_isinstance (pa_cons (pv 1) (pa_cons (pe_bltn (v := .ty "bool") (by rfl) T.m_bool (by decide +kernel) rfl) pa_nil))) (pe_and (pe_callB call_isi (by rfl) T.m_isinstance PyProof.Rows.boot_isinstance (pa_cons (pv 0) (pa_cons (pe_bltn (v := .ty "bool") (by rfl) T.m_bool (by decide +kernel) rfl) pa_nil))) (pe_one (pe_cmpR op_eq (pv 0) (pv 1) (nomark _))))))) pss_nil)
      (pss_cons (ps_if (pt_val (pe_callB call_isiT (by rfl) T.m_isinstance PyProof.Rows.boot_isinstance (pa_cons (pv 1) (pa_cons (pe_tup (pa_cons (pe_bltn (v := .ty "int") (by rfl) T.m_int (by decide +kernel) rfl) (pa_cons (pe_bltn (v := .ty "str") (by rfl) T.m_str (by decide +kernel) rfl) pa_nil))) pa_nil)))) (pss_one (ps_ret (pe_and (pe_callB call_isiT (by rfl) T.m_isinstance PyProof.Rows.boot_isinstance (pa_cons (pv 0) (pa_cons (pe_tup (pa_cons (pe_bltn (v := .ty "int") (by rfl) T.m_int (by decide +kernel) rfl) (pa_cons (pe_bltn (v := .ty "str") (by rfl) T.m_str (by decide +kernel) rfl) pa_nil))) pa_nil))) (pe_and (pe_cmpR op_eq (pe_callB call_isi (by rfl) T.m_isinstance PyProof.Rows.boot_isinstance (pa_cons (pv 0) (pa_cons (pe_bltn (v := .ty "int") (by rfl) T.m_int (by decide +kernel) rfl) pa_nil))) (pe_callB call_isi (by rfl) T.m_isinstance PyProof.Rows.boot_isinstance (pa_cons (pv 1) (pa_cons (pe_bltn (v := .ty "int") (by rfl) T.m_int (by decide +kernel) rfl) pa_nil))) (nomark _)) (pe_one (pe_cmpR op_eq (pv 0) (pv 1) (nomark _))))))) pss_nil)
      (pss_cons (ps_if (pt_val (pe_callB call_isi (by rfl) T.m_isinstance PyProof.Rows.boot_isinstance (pa_cons (pv 1) (pa_cons (pe_bltn (v := .ty "dict") (by rfl) T.m_dict (by decide +kernel) rfl) pa_nil)))) (pss_cons ps_never
      (pss_one ps_never)) pss_nil)
      (pss_cons (ps_if (PW.pt (pw_or (pt_cmpR op_ne (pe_callB call_isi (by rfl) T.m_isinstance PyProof.Rows.boot_isinstance (pa_cons (pv 1) (pa_cons (pe_bltn (v := .ty "list") (by rfl) T.m_list (by decide +kernel) rfl) pa_nil))) (pe_callB call_isi (by rfl) T.m_isinstance PyProof.Rows.boot_isinstance (pa_cons (pv 0) (pa_cons (pe_bltn (v := .ty "list") (by rfl) T.m_list (by decide +kernel) rfl) pa_nil))) (nomark _)) (pw_or1 (pt_cmpR op_ne (pe_callB call_isi (by rfl) T.m_isinstance PyProof.Rows.boot_isinstance (pa_cons (pv 1) (pa_cons (pe_bltn (v := .ty "tuple") (by rfl) T.m_tuple (by decide +kernel) rfl) pa_nil))) (pe_callB call_isi (by rfl) T.m_isinstance PyProof.Rows.boot_isinstance (pa_cons (pv 0) (pa_cons (pe_bltn (v := .ty "tuple") (by rfl) T.m_tuple (by decide +kernel) rfl) pa_nil))) (nomark _))))) (pss_one (ps_ret pe_bl)) pss_nil)
      (pss_one (ps_ret (pe_and (pe_cmpR op_eq (pe_callB call_len_seq (by rfl) T.m_len PySem.boot_len (pa_cons (pv 0) pa_nil)) (pe_callB call_len_seq (by rfl) T.m_len PySem.boot_len (pa_cons (pv 1) pa_nil)) (nomark _)) (pe_one (pe_callB (cr_all rfl) (by rfl) T.m_all PyProof.Rows.boot_all (pa_cons (pe_lc (own := [("_law_one", 3), ("_law_two", 4)]) (g := gTup K 2 (gCons (gName 3) (gCons (gName 4) gNil))) (tt := tYes) rfl sc_same.nd (RZ.pi_zipA (by rfl) T.m_zip (pa_cons (pv 0) (pa_cons (pv 1) pa_nil))) (blkOk_by (own := [("_law_one", 3), ("_law_two", 4)]) (N := ["_law_found", "_law_due", "_law_key", "_law_one", "_law_two"]) (sc := defScope s_same) (by decide +kernel)) (fun _ _ _ _ _ => pg_tup rfl (pgs_cons (pg_name (i := 3) sc_same.nd rfl (Or.inl rfl)) (pgs_cons (pg_name (i := 4) sc_same.nd rfl (Or.inl rfl)) pgs_nil))) (fun _ _ _ _ _ => pts_nil) (fun _ _ _ _ _ => (pe_call G (hr.mono (by omega)) (by rfl) T.g_same T.F_same.kp T.b_same .nil pass0 (pa_cons (pv 3) (pa_cons (pv 4) pa_nil))))) pa_nil))))))))))), ?_⟩
    have leafy : Leaf x y ∨ ∃ (n' : Nat) (a b : Addr) (xs ys : List V), n = n' + 1 ∧ x = .ref a ∧ y = .ref b ∧ ((H a = some (.lst xs) ∧ H b = some (.lst ys)) ∨ (H a = some (.tup xs) ∧ H b = some (.tup ys))) ∧ xs.length = ys.length ∧ xs.length ≤ 1000 ∧
        ∀ (i : Nat) (x y : V), xs[i]? = some x → ys[i]? = some y → Eqd H n' x y := by
      cases n with
      | zero => exact .inl hE
      | succ n' =>
        rcases hE with h | ⟨a, b, xs, ys, h⟩
        · exact .inl h
        · exact .inr ⟨n', a, b, xs, ys, rfl, h⟩
    rcases leafy with ⟨rfl, hl⟩ | ⟨n', a, b, xs, ys, rfl, rfl, rfl, hab, hlen, h1000, hsub⟩
    · refine ⟨_, rfl, rfl, _, rfl, ite2 (fun e => ?_) (fun e => ?_)⟩
      · have ex := of_decide_eq_true e
        subst ex
        exact ⟨_, rfl, rfl, q _ (Same.refl _)⟩
      · rcases hl with rfl | ⟨bb, rfl⟩ | ⟨i, rfl⟩ | ⟨z, rfl⟩
        · exact absurd (decide_eq_true rfl) e
        · refine ⟨_, rfl, _, _, _, _, _, rfl, .ty _, .base (.bl _), kit_ty (r := true) (by decide +kernel), _, rfl, iteT (iteT ?_)⟩
          refine ⟨_, rfl, _, _, _, _, _, rfl, .ty _, .base (.bl _), kit_ty (r := true) (by decide +kernel), _, rfl, iteT ?_⟩
          refine ⟨_, rfl, _, _, _, _, _, rfl, .ty _, .base (.bl _), kit_ty (r := true) (by decide +kernel), _, rfl, iteT ?_⟩
          refine ⟨_, rfl, _, rfl, rfl, ?_⟩
          rw [decide_eq_true rfl]
          exact q _ (Same.refl _)
        · refine ⟨_, rfl, _, _, _, _, _, rfl, .ty _, .base (.int _), kit_ty (r := false) (by decide +kernel), _, rfl, iteF ?_⟩
          refine ⟨_, rfl, _, _, _, _, _, rfl, .ty _, .base (.int _), kit_ty (r := false) (by decide +kernel), _, rfl, iteF ?_⟩
          refine ⟨_, rfl, two_line, fun p np => ?_⟩
          refine ⟨_, p, _, _, _, _, rfl, upd_same, .cons (.ty _) (.cons (.ty _) .nil), .base (.int _), kit2 (r1 := true) (r2 := false) (by decide +kernel) (by decide +kernel), _, rfl, iteT ?_⟩
          refine ⟨_, rfl, two_line, fun p2 np2 => ?_⟩
          refine ⟨_, p2, _, _, _, _, rfl, upd_same, .cons (.ty _) (.cons (.ty _) .nil), .base (.int _), kit2 (r1 := true) (r2 := false) (by decide +kernel) (by decide +kernel), _, rfl, iteT ?_⟩
          refine ⟨_, rfl, _, _, _, _, _, rfl, .ty _, .base (.int _), kit_ty (r := true) (by decide +kernel), ?_⟩
          refine ⟨_, rfl, _, _, _, _, _, rfl, .ty _, .base (.int _), kit_ty (r := true) (by decide +kernel), rfl, _, rfl, iteT ?_⟩
          refine ⟨_, rfl, _, rfl, rfl, ?_⟩
          rw [decide_eq_true rfl]
          exact q _ ((same_upd np).trans (same_upd np2))
        · refine ⟨_, rfl, _, _, _, _, _, rfl, .ty _, .base (.str _), kit_ty (r := false) (by decide +kernel), _, rfl, iteF ?_⟩
          refine ⟨_, rfl, _, _, _, _, _, rfl, .ty _, .base (.str _), kit_ty (r := false) (by decide +kernel), _, rfl, iteF ?_⟩
          refine ⟨_, rfl, two_line, fun p np => ?_⟩
          refine ⟨_, p, _, _, _, _, rfl, upd_same, .cons (.ty _) (.cons (.ty _) .nil), .base (.str _), kit2 (r1 := false) (r2 := true) (by decide +kernel) (by decide +kernel), _, rfl, iteT ?_⟩
          refine ⟨_, rfl, two_line, fun p2 np2 => ?_⟩
          refine ⟨_, p2, _, _, _, _, rfl, upd_same, .cons (.ty _) (.cons (.ty _) .nil), .base (.str _), kit2 (r1 := false) (r2 := true) (by decide +kernel) (by decide +kernel), _, rfl, iteT ?_⟩
          refine ⟨_, rfl, _, _, _, _, _, rfl, .ty _, .base (.str _), kit_ty (r := false) (by decide +kernel), ?_⟩
          refine ⟨_, rfl, _, _, _, _, _, rfl, .ty _, .base (.str _), kit_ty (r := false) (by decide +kernel), rfl, _, rfl, iteT ?_⟩
          refine ⟨_, rfl, _, rfl, rfl, ?_⟩
          rw [decide_eq_true rfl]
          exact q _ ((same_upd np).trans (same_upd np2))
    · refine ⟨_, rfl, rfl, _, rfl, ite2 (fun e => absurd (of_decide_eq_true e) (by intro z; cases z)) (fun e => ?_)⟩
      rcases hab with ⟨ha, hb⟩ | ⟨ha, hb⟩
      · refine ⟨_, rfl, _, _, _, _, _, rfl, .ty _, .base (.lst hb), kit_ty (r := false) (by decide +kernel), _, rfl, iteF ⟨_, rfl, _, _, _, _, _, rfl, .ty _, .base (.lst ha), kit_ty (r := false) (by decide +kernel), _, rfl, iteF ⟨_, rfl, two_line, fun p np => ?_⟩⟩⟩
        have s1 := same_upd (o := .tup [V.ty "int", V.ty "str"]) np
        refine ⟨_, p, _, _, _, _, rfl, upd_same, .cons (.ty _) (.cons (.ty _) .nil), .base (.lst (s1 _ _ hb)), kit2 (r1 := false) (r2 := false) (by decide +kernel) (by decide +kernel), _, rfl, iteF ?_⟩
        generalize upd H p (.tup [V.ty "int", V.ty "str"]) = H2 at s1
        have ha2 := s1 _ _ ha
        have hb2 := s1 _ _ hb
        refine ⟨_, rfl, _, _, _, _, _, rfl, .ty _, .base (.lst hb2), kit_ty (r := false) (by decide +kernel), _, rfl, iteF ?_⟩
        refine ⟨_, rfl, _, _, _, _, _, rfl, .ty _, .base (.lst hb2), kit_ty (r := true) (by decide +kernel), _, rfl, _, _, _, _, _, rfl, .ty _, .base (.lst ha2), kit_ty (r := true) (by decide +kernel), rfl, _, rfl, iteF ?_⟩
        refine ⟨_, rfl, _, _, _, _, _, rfl, .ty _, .base (.lst hb2), kit_ty (r := false) (by decide +kernel), _, rfl, _, _, _, _, _, rfl, .ty _, .base (.lst ha2), kit_ty (r := false) (by decide +kernel), rfl, _, rfl, iteF ?_⟩
        refine ⟨_, rfl, a, _, rfl, .inl (SqL.of ha2), _, rfl, b, _, rfl, .inl (SqL.of hb2), rfl, _, rfl, ?_⟩
        rw [hlen, decide_eq_true rfl]
        refine iteT ⟨_, rfl, _, rfl, a, b, xs, ys, rfl, .inl ⟨SqL.of ha2, SqL.of hb2, fun D nD => ?_⟩⟩
        refine ⟨fun i m H' => i + m = xs.length ∧ Same H2 H' ∧ H' D = some (.lst ((List.replicate i true).map V.bl)), ⟨xs.length, by omega, same_upd nD, upd_same⟩, fun i m H' hW => ?_⟩
        obtain ⟨hm, s2, hD⟩ := hW
        by_cases hi : i < xs.length
        · have hx : xs[i]? = some xs[i] := List.getElem?_eq_getElem hi
          have hy : ys[i]? = some ys[i] := List.getElem?_eq_getElem (by omega)
          refine .inr ⟨⟨_, _, _, _, SqL.of (s2 _ _ ha2), SqL.of (s2 _ _ hb2), hx, hy⟩, fun H'' => Same H2 H'' ∧ H'' D = some (.lst ((List.replicate (i + 1) true).map V.bl)), fun H'' h => ⟨m - 1, by omega, by omega, h⟩, fun v H'' hv => ?_⟩
          obtain ⟨T', x1, y1, rfl, nT, rfl, f1, f2⟩ := hv
          have ex : x1 = xs[i] := Option.some.inj ((f1 _ (SqL.of (s2 _ _ ha2))).symm.trans hx)
          have ey : y1 = ys[i] := Option.some.inj ((f2 _ (SqL.of (s2 _ _ hb2))).symm.trans hy)
          have s3 : Same H' (upd H' T' (.tup [x1, y1])) := same_upd nT
          refine ⟨T', [x1, y1], rfl, .inl (.inl upd_same), rfl, x1, [y1], rfl, y1, [], rfl, rfl, rfl, ?_⟩
          refine ⟨_, rfl, _, rfl, x1, y1, rfl, ?_, fun H4 s4 => ⟨_, s4 _ _ (s3 _ _ hD), ?_, ?_, ?_⟩⟩
          · subst ex ey
            exact Eqd.mono (s1.trans (s2.trans s3)) n' (hsub i _ _ hx hy)
          · rw [List.length_map, List.length_replicate]
            exact small1000 (by omega)
          · intro c o e
            rw [upd_ne (ne_of_none e nD)]
            exact s4 _ _ (s3 _ _ (s2 _ _ e))
          · rw [upd_same, List.replicate_succ', List.map_append]
            rfl
        · have ei : i = xs.length := by omega
          subst ei
          refine .inl ⟨⟨xs, ys, SqL.of (s2 _ _ ha2), SqL.of (s2 _ _ hb2), .inl (Nat.le_refl _)⟩, ?_⟩
          refine ⟨D, _, rfl, .inl (.inl hD), ?_⟩
          have all : ∀ k : Nat, (List.replicate k true).all id = true := fun k => by
            rw [List.all_replicate]
            split <;> rfl
          rw [all]
          exact q _ (s1.trans s2)
      · refine ⟨_, rfl, _, _, _, _, _, rfl, .ty _, .base (.tup hb), kit_ty (r := false) (by decide +kernel), _, rfl, iteF ⟨_, rfl, _, _, _, _, _, rfl, .ty _, .base (.tup ha), kit_ty (r := false) (by decide +kernel), _, rfl, iteF ⟨_, rfl, two_line, fun p np => ?_⟩⟩⟩
        have s1 := same_upd (o := .tup [V.ty "int", V.ty "str"]) np
        refine ⟨_, p, _, _, _, _, rfl, upd_same, .cons (.ty _) (.cons (.ty _) .nil), .base (.tup (s1 _ _ hb)), kit2 (r1 := false) (r2 := false) (by decide +kernel) (by decide +kernel), _, rfl, iteF ?_⟩
        generalize upd H p (.tup [V.ty "int", V.ty "str"]) = H2 at s1
        have ha2 := s1 _ _ ha
        have hb2 := s1 _ _ hb
        refine ⟨_, rfl, _, _, _, _, _, rfl, .ty _, .base (.tup hb2), kit_ty (r := false) (by decide +kernel), _, rfl, iteF ?_⟩
        refine ⟨_, rfl, _, _, _, _, _, rfl, .ty _, .base (.tup hb2), kit_ty (r := false) (by decide +kernel), _, rfl, _, _, _, _, _, rfl, .ty _, .base (.tup ha2), kit_ty (r := false) (by decide +kernel), rfl, _, rfl, iteF ?_⟩
        refine ⟨_, rfl, _, _, _, _, _, rfl, .ty _, .base (.tup hb2), kit_ty (r := true) (by decide +kernel), _, rfl, _, _, _, _, _, rfl, .ty _, .base (.tup ha2), kit_ty (r := true) (by decide +kernel), rfl, _, rfl, iteF ?_⟩
        refine ⟨_, rfl, a, _, rfl, .inr (SqT.of ha2), _, rfl, b, _, rfl, .inr (SqT.of hb2), rfl, _, rfl, ?_⟩
        rw [hlen, decide_eq_true rfl]
        refine iteT ⟨_, rfl, _, rfl, a, b, xs, ys, rfl, .inr ⟨SqT.of ha2, SqT.of hb2, fun D nD => ?_⟩⟩
        refine ⟨fun i m H' => i + m = xs.length ∧ Same H2 H' ∧ H' D = some (.lst ((List.replicate i true).map V.bl)), ⟨xs.length, by omega, same_upd nD, upd_same⟩, fun i m H' hW => ?_⟩
        obtain ⟨hm, s2, hD⟩ := hW
        by_cases hi : i < xs.length
        · have hx : xs[i]? = some xs[i] := List.getElem?_eq_getElem hi
          have hy : ys[i]? = some ys[i] := List.getElem?_eq_getElem (by omega)
          refine .inr ⟨⟨_, _, _, _, SqT.of (s2 _ _ ha2), SqT.of (s2 _ _ hb2), hx, hy⟩, fun H'' => Same H2 H'' ∧ H'' D = some (.lst ((List.replicate (i + 1) true).map V.bl)), fun H'' h => ⟨m - 1, by omega, by omega, h⟩, fun v H'' hv => ?_⟩
          obtain ⟨T', x1, y1, rfl, nT, rfl, f1, f2⟩ := hv
          have ex : x1 = xs[i] := Option.some.inj ((f1 _ (SqT.of (s2 _ _ ha2))).symm.trans hx)
          have ey : y1 = ys[i] := Option.some.inj ((f2 _ (SqT.of (s2 _ _ hb2))).symm.trans hy)
          have s3 : Same H' (upd H' T' (.tup [x1, y1])) := same_upd nT
          refine ⟨T', [x1, y1], rfl, .inl (.inl upd_same), rfl, x1, [y1], rfl, y1, [], rfl, rfl, rfl, ?_⟩
          refine ⟨_, rfl, _, rfl, x1, y1, rfl, ?_, fun H4 s4 => ⟨_, s4 _ _ (s3 _ _ hD), ?_, ?_, ?_⟩⟩
          · subst ex ey
            exact Eqd.mono (s1.trans (s2.trans s3)) n' (hsub i _ _ hx hy)
          · rw [List.length_map, List.length_replicate]
            exact small1000 (by omega)
          · intro c o e
            rw [upd_ne (ne_of_none e nD)]
            exact s4 _ _ (s3 _ _ (s2 _ _ e))
          · rw [upd_same, List.replicate_succ', List.map_append]
            rfl
        · have ei : i = xs.length := by omega
          subst ei
          refine .inl ⟨⟨xs, ys, SqT.of (s2 _ _ ha2), SqT.of (s2 _ _ hb2), .inl (Nat.le_refl _)⟩, ?_⟩
          refine ⟨D, _, rfl, .inl (.inl hD), ?_⟩
          have all : ∀ k : Nat, (List.replicate k true).all id = true := fun k => by
            rw [List.all_replicate]
            split <;> rfl
          rw [all]
          exact q _ (s1.trans s2)
theorem ok_same (T : Txt K mg fa fd) : ∀ n : Nat, FnOk P w K mg base CX0 (n + 1) (fa 26) (fd 26) ["_law_found", "_law_due"] (spS n)
  | 0 => none_of_false T.F_same sc_same
  | n + 1 => same_step T n (ok_same T n)
end
/-! ### more of lowest terms -/
theorem lowG_ne {u v : Int} (h : v ≠ 0) : lowG u v ≠ 0 := by
  have h1 := gcd_pos (u := u) h
  unfold lowG
  split <;> omega
theorem lowG_dvd_left (u v : Int) : lowG u v ∣ u := by
  unfold lowG
  split
  · exact Int.neg_dvd.mpr (Int.gcd_dvd_left _ _)
  · exact (Int.gcd_dvd_left _ _)
theorem lowG_dvd_right (u v : Int) : lowG u v ∣ v := by
  unfold lowG
  split
  · exact Int.neg_dvd.mpr (Int.gcd_dvd_right _ _)
  · exact (Int.gcd_dvd_right _ _)
theorem lowT_mul {u v : Int} (h : v ≠ 0) : u = lowG u v * lowT u v := by
  obtain ⟨t, ht⟩ := lowG_dvd_left u v
  unfold lowT
  generalize lowG u v = g at ht ⊢
  have hg : g ≠ 0 ∨ g = 0 := by omega
  rcases hg with hg | hg
  · rw [ht, Int.mul_fdiv_cancel_left _ hg]
  · rw [ht, hg, Int.zero_mul, Int.zero_mul]
theorem lowT_abs {u v : Int} (h : v ≠ 0) : (lowT u v).natAbs ≤ u.natAbs := by
  have e := lowT_mul (u := u) h
  have h2 : u.natAbs = (lowG u v).natAbs * (lowT u v).natAbs := by
    rw [← Int.natAbs_mul, ← e]
  have h3 : 1 ≤ (lowG u v).natAbs := by
    have := lowG_ne (u := u) h
    omega
  calc (lowT u v).natAbs = 1 * (lowT u v).natAbs := (Nat.one_mul _).symm
    _ ≤ (lowG u v).natAbs * (lowT u v).natAbs := Nat.mul_le_mul_right _ h3
    _ = u.natAbs := h2.symm
theorem lowD_mul {u v : Int} (h : v ≠ 0) : v = lowG u v * lowD u v := by
  obtain ⟨t, ht⟩ := lowG_dvd_right u v
  have hg := lowG_ne (u := u) h
  unfold lowD
  generalize lowG u v = g at ht hg ⊢
  rw [ht, Int.mul_fdiv_cancel_left _ hg]
theorem lowD_abs {u v : Int} (h : v ≠ 0) : (lowD u v).natAbs ≤ v.natAbs := by
  have e := lowD_mul (u := u) h
  have h2 : v.natAbs = (lowG u v).natAbs * (lowD u v).natAbs := by
    rw [← Int.natAbs_mul, ← e]
  have h3 : 1 ≤ (lowG u v).natAbs := by
    have := lowG_ne (u := u) h
    omega
  calc (lowD u v).natAbs = 1 * (lowD u v).natAbs := (Nat.one_mul _).symm
    _ ≤ (lowG u v).natAbs * (lowD u v).natAbs := Nat.mul_le_mul_right _ h3
    _ = v.natAbs := h2.symm
theorem lowD_pos {u v : Int} (h : v ≠ 0) : 0 < lowD u v := by
  have e := lowD_mul (u := u) h
  have h1 := gcd_pos (u := u) h
  have key : ∀ g d : Int, v = g * d → (0 < g ∧ 0 < v) ∨ (g < 0 ∧ v < 0) → 0 < d := fun g d ev hh => by
    rcases Int.lt_trichotomy d 0 with hd | hd | hd
    · rcases hh with ⟨h1, h2⟩ | ⟨h1, h2⟩
      · have := Int.mul_neg_of_pos_of_neg h1 hd
        omega
      · have := Int.mul_pos_of_neg_of_neg h1 hd
        omega
    · rw [hd, Int.mul_zero] at ev
      omega
    · exact hd
  refine key _ _ e ?_
  unfold lowG
  split
  · exact .inr ⟨by omega, by assumption⟩
  · exact .inl ⟨by omega, by omega⟩
theorem low_gcd {u v : Int} (hv : v ≠ 0) : Int.gcd (lowT u v) (lowD u v) = 1 := by
  have e1 := lowT_mul (u := u) hv
  have e2 := lowD_mul (u := u) hv
  have hg := gcd_pos (u := u) hv
  have e3 : Int.gcd u v = (lowG u v).natAbs * Int.gcd (lowT u v) (lowD u v) := by
    have : Int.gcd (lowG u v * lowT u v) (lowG u v * lowD u v) = (lowG u v).natAbs * Int.gcd (lowT u v) (lowD u v) := Int.gcd_mul_left _ _ _
    rw [← e1, ← e2] at this
    exact this
  have e4 : (lowG u v).natAbs = Int.gcd u v := by
    unfold lowG
    split <;> omega
  rw [e4] at e3
  have e5 : Int.gcd u v * 1 = Int.gcd u v * Int.gcd (lowT u v) (lowD u v) := by rw [Nat.mul_one]; exact e3
  exact (Nat.eq_of_mul_eq_mul_left hg e5).symm
/-! ### data in the heap -/
mutual
inductive Dt (z : Addr) (H : Hp) : V → PyData → Prop
  | non : Dt z H .non .none
  | bl (b : Bool) : Dt z H (.bl b) (.bool b)
  | int (i : Int) (h : i.natAbs.log2 < 4096) : Dt z H (.int i) (.int i)
  | str (x : Str) (h : x.length ≤ 1000) : Dt z H (.str x) (.str x)
  | lst {a : Addr} {xs : List V} {ds : List PyData} : H a = some (.lst xs) → a ≠ z → DtAll z H xs ds → Dt z H (.ref a) (.list ds)
  | tup {a : Addr} {xs : List V} {ds : List PyData} : H a = some (.tup xs) → DtAll z H xs ds → Dt z H (.ref a) (.tuple ds)
inductive DtAll (z : Addr) (H : Hp) : List V → List PyData → Prop
  | nil : DtAll z H [] []
  | cons {v : V} {vs : List V} {d : PyData} {ds : List PyData} : Dt z H v d → DtAll z H vs ds → DtAll z H (v :: vs) (d :: ds)
end
mutual
theorem Dt.via {z : Addr} {H H' : Hp} (s : ∀ a o, H a = some o → ((∃ xs, o = .lst xs) ∧ a ≠ z) ∨ (∃ xs, o = .tup xs) → H' a = some o) : ∀ (d : PyData) (v : V), Dt z H v d → Dt z H' v d
  | .none, _, h => by cases h; exact .non
  | .bool _, _, h => by cases h; exact .bl _
  | .int _, _, h => by
    cases h with
    | int _ hb => exact .int _ hb
  | .str _, _, h => by
    cases h with
    | str _ hx => exact .str _ hx
  | .list ds, _, h => by
    cases h with
    | lst h1 hz h2 => exact .lst (s _ _ h1 (.inl ⟨⟨_, rfl⟩, hz⟩)) hz (DtAll.via s ds _ h2)
  | .tuple ds, _, h => by
    cases h with
    | tup h1 h2 => exact .tup (s _ _ h1 (.inr ⟨_, rfl⟩)) (DtAll.via s ds _ h2)
  | .dict _, _, h => by cases h
theorem DtAll.via {z : Addr} {H H' : Hp} (s : ∀ a o, H a = some o → ((∃ xs, o = .lst xs) ∧ a ≠ z) ∨ (∃ xs, o = .tup xs) → H' a = some o) : ∀ (ds : List PyData) (vs : List V), DtAll z H vs ds → DtAll z H' vs ds
  | [], _, h => by cases h; exact .nil
  | d :: ds, _, h => by
    cases h with
    | cons h1 h2 => exact .cons (Dt.via s d _ h1) (DtAll.via s ds _ h2)
end
theorem Dt.same {z : Addr} {H H' : Hp} {v : V} {d : PyData} (h : Dt z H v d) (s : Same H H') : Dt z H' v d := Dt.via (fun a o e _ => s a o e) d v h
theorem DtAll.same {z : Addr} {H H' : Hp} {vs : List V} {ds : List PyData} (h : DtAll z H vs ds) (s : Same H H') : DtAll z H' vs ds := DtAll.via (fun a o e _ => s a o e) ds vs h
theorem DtAll.len {z : Addr} {H : Hp} : ∀ {vs : List V} {ds : List PyData}, DtAll z H vs ds → vs.length = ds.length
  | _, _, .nil => rfl
  | _, _, .cons _ h => congrArg (· + 1) (DtAll.len h)
mutual
theorem Dt.dp {K : PySem.W.Frag} {z : Addr} {H : Hp} : ∀ (d : PyData) (v : V), Dt z H v d → Dp K H v d
  | .none, _, h => by cases h; exact .non
  | .bool _, _, h => by cases h; exact .bl _
  | .int _, _, h => by cases h; exact .int _
  | .str _, _, h => by cases h; exact .str _
  | .list ds, _, h => by
    cases h with
    | lst h1 _ h2 => exact .lst (SqL.of h1) (DtAll.dp ds _ h2)
  | .tuple ds, _, h => by
    cases h with
    | tup h1 h2 => exact .tup (SqT.of h1) (DtAll.dp ds _ h2)
  | .dict _, _, h => by cases h
theorem DtAll.dp {K : PySem.W.Frag} {z : Addr} {H : Hp} : ∀ (ds : List PyData) (vs : List V), DtAll z H vs ds → DpAll K H vs ds
  | [], _, h => by cases h; exact .nil
  | d :: ds, _, h => by
    cases h with
    | cons h1 h2 => exact .cons (Dt.dp d _ h1) (DtAll.dp ds _ h2)
end
theorem Dt.but {z : Addr} {H H' : Hp} {v : V} {d : PyData} {c : Addr} (hF : FeedOk H z c) (b : But z H H') (h : Dt z H v d) : Dt z H' v d := by
  obtain ⟨ns, k, big, mark, ha, _⟩ := hF
  refine Dt.via (fun p o e g => b p o ?_ e) d v h
  rcases g with ⟨_, g⟩ | ⟨xs, rfl⟩
  · exact g
  · exact ne_of e ha (by intro z; cases z)
theorem dnewT {z : Addr} {H : Hp} {p : Addr} {vs : List V} {ds : List PyData} (n : H p = none) (h : DtAll z H vs ds) : Same H (upd H p (.tup vs)) ∧ Dt z (upd H p (.tup vs)) (.ref p) (.tuple ds) :=
  ⟨same_upd n, .tup upd_same (h.same (same_upd n))⟩
theorem dnewL {z : Addr} {H : Hp} {p : Addr} {vs : List V} {ds : List PyData} (n : H p = none) (hz : p ≠ z) (h : DtAll z H vs ds) : Same H (upd H p (.lst vs)) ∧ Dt z (upd H p (.lst vs)) (.ref p) (.list ds) :=
  ⟨same_upd n, .lst upd_same hz (h.same (same_upd n))⟩
theorem drow {z : Addr} {H : Hp} {p : Addr} {vs : List V} {ds : List PyData} (n : H p = none) (h : DtAll z H vs ds) : Same H (upd H p (.lst vs)) ∧ DtAll z (upd H p (.lst vs)) vs ds ∧ (upd H p (.lst vs)) p = some (.lst vs) :=
  ⟨same_upd n, h.same (same_upd n), upd_same⟩
theorem DtAll.mem {z : Addr} {H : Hp} : ∀ {vs : List V} {ds : List PyData} {v : V}, DtAll z H vs ds → v ∈ vs → ∃ d, d ∈ ds ∧ Dt z H v d
  | _, _, _, .cons (d := d) h r, e => by
    rcases List.mem_cons.mp e with rfl | e
    · exact ⟨d, List.mem_cons_self, h⟩
    · obtain ⟨d', h1, h2⟩ := DtAll.mem r e
      exact ⟨d', List.mem_cons_of_mem _ h1, h2⟩
def tagD : PyData → String
  | .none => "NoneType"
  | .bool _ => "bool"
  | .int _ => "int"
  | .str _ => "str"
  | .list _ => "list"
  | .tuple _ => "tuple"
  | .dict _ => "dict"
theorem Dt.ty {K : PySem.W.Frag} {z : Addr} {H : Hp} {v : V} {d : PyData} (h : Dt z H v d) : TyOf K H v (.type (tagD d)) := by
  cases h with
  | non => exact .non
  | bl b => exact .bl b
  | int i _ => exact .int i
  | str x _ => exact .str x
  | lst h _ _ => exact .lst h
  | tup h _ => exact .tup h
def isTup : PyData → Bool
  | .tuple _ => true
  | _ => false
def isTxt : PyData → Bool
  | .str _ => true
  | _ => false
def isInt : PyData → Bool
  | .int _ => true
  | _ => false
theorem kitTup {d : PyData} : kitB (tagD d) "tuple" = some (isTup d) := by cases d <;> rfl
theorem kitTxt {d : PyData} : kitB (tagD d) "str" = some (isTxt d) := by cases d <;> rfl
theorem Dt.split {z : Addr} {H : Hp} {v : V} {d : PyData} (h : Dt z H v d) : isTup d = false ∨ ∃ a xs ds, v = .ref a ∧ d = .tuple ds ∧ H a = some (.tup xs) ∧ DtAll z H xs ds := by
  cases h with
  | tup h1 h2 => exact .inr ⟨_, _, _, rfl, rfl, h1, h2⟩
  | non => exact .inl rfl
  | bl b => exact .inl rfl
  | int i _ => exact .inl rfl
  | str x _ => exact .inl rfl
  | lst h _ _ => exact .inl rfl
/-! ### what is a name, a fraction, a tie -/
def nameD : PyData → Bool
  | .str x => nameB x.cps.toList
  | _ => false
def ratD : PyData → Bool
  | .tuple [.int t, .int u] => decide (1 ≤ u) && decide (Int.gcd t u = 1)
  | _ => false
def nonz : PyData → Bool
  | .tuple (.int t :: _) => decide (t ≠ 0)
  | _ => false
def termD : PyData → Bool
  | .tuple [n, r] => nameD n && ratD r && nonz r
  | _ => false
def ltD : PyData → PyData → Bool
  | .tuple (.str x :: _), .tuple (.str y :: _) => decide (x.cps.toList < y.cps.toList)
  | _, _ => false
def termsD : PyData → Bool
  | .tuple [s] => termD s
  | .tuple [s, t] => termD s && termD t && ltD s t
  | _ => false
def tieD : PyData → Bool
  | .tuple [t, b] => termsD t && ratD b
  | _ => false
mutual
def noL : PyData → Bool
  | .list _ => false
  | .dict _ => false
  | .tuple ds => noLs ds
  | _ => true
def noLs : List PyData → Bool
  | [] => true
  | d :: ds => noL d && noLs ds
end
/-- tuples stay -/
def TT (H H' : Hp) : Prop := ∀ p xs, H p = some (.tup xs) → H' p = some (.tup xs)
theorem TT.of {H H' : Hp} (s : Same H H') : TT H H' := fun p _ e => s p _ e
theorem TT.but {a c : Addr} {H H' : Hp} (hF : FeedOk H a c) (b : But a H H') : TT H H' := fun p xs e => by
  obtain ⟨ns, k, big, mark, ha, _⟩ := hF
  exact b p _ (ne_of e ha (by intro z; cases z)) e
theorem TT.upd {H : Hp} {D : Addr} {ys zs : List V} (hD : H D = some (.lst ys)) : TT H (L2.upd H D (.lst zs)) := fun p xs e => by
  rw [upd_ne (ne_of e hD (by intro z; cases z))]
  exact e
theorem TT.trans {H H1 H2 : Hp} (h : TT H H1) (k : TT H1 H2) : TT H H2 := fun p xs e => k p xs (h p xs e)
mutual
theorem Dt.tups {z z' : Addr} {H H' : Hp} (s : TT H H') : ∀ (d : PyData) (v : V), noL d = true → Dt z H v d → Dt z' H' v d
  | .none, _, _, h => by cases h; exact .non
  | .bool _, _, _, h => by cases h; exact .bl _
  | .int _, _, _, h => by
    cases h with
    | int _ hb => exact .int _ hb
  | .str _, _, _, h => by
    cases h with
    | str _ hx => exact .str _ hx
  | .list ds, _, n, h => by
    unfold noL at n
    cases n
  | .tuple ds, _, n, h => by
    unfold noL at n
    cases h with
    | tup h1 h2 => exact .tup (s _ _ h1) (DtAll.tups s ds _ n h2)
  | .dict _, _, n, h => by cases h
theorem DtAll.tups {z z' : Addr} {H H' : Hp} (s : TT H H') : ∀ (ds : List PyData) (vs : List V), noLs ds = true → DtAll z H vs ds → DtAll z' H' vs ds
  | [], _, _, h => by cases h; exact .nil
  | d :: ds, _, n, h => by
    unfold noLs at n
    rw [Bool.and_eq_true] at n
    cases h with
    | cons h1 h2 => exact .cons (Dt.tups s d _ n.1 h1) (DtAll.tups s ds _ n.2 h2)
end
theorem DtAll.snoc {z : Addr} {H : Hp} : ∀ {vs : List V} {ds : List PyData} {v : V} {d : PyData}, DtAll z H vs ds → Dt z H v d → DtAll z H (vs ++ [v]) (ds ++ [d])
  | _, _, _, _, .nil, k => .cons k .nil
  | _, _, _, _, .cons h r, k => .cons h (DtAll.snoc r k)
theorem ratD_inv {d : PyData} (h : ratD d = true) : ∃ t u, d = .tuple [.int t, .int u] := by
  unfold ratD at h
  split at h
  · exact ⟨_, _, rfl⟩
  · cases h
theorem DtAll.at {z : Addr} {H : Hp} : ∀ {vs : List V} {ds : List PyData} (i : Nat) {x : V}, DtAll z H vs ds → vs[i]? = some x → ∃ d, ds[i]? = some d ∧ Dt z H x d
  | _, _, 0, _, .cons h _, e => ⟨_, rfl, by cases e; exact h⟩
  | _, _, i + 1, _, .cons _ h, e => DtAll.at i h e
def smallR : PyData → Bool
  | .tuple [.int t, .int u] => decide (t.natAbs ≤ 5 ∧ u.natAbs ≤ 3)
  | _ => false
def okR (r : PyData) : Prop := ratD r = true ∧ nonz r = true ∧ smallR r = true
theorem okR.noL {r : PyData} (h : okR r) : noL r = true := by
  obtain ⟨t, u, rfl⟩ := ratD_inv h.1
  rfl
abbrev trm1 (t : Str × PyData) : PyData := .tuple [.str t.1, t.2]
theorem noLs_trms : ∀ {ts : List (Str × PyData)}, (∀ t ∈ ts, okR t.2) → noLs (ts.map trm1) = true
  | [], _ => rfl
  | t :: ts, h => by
    have h1 := (h t List.mem_cons_self).noL
    have h2 := noLs_trms fun u hu => h u (List.mem_cons_of_mem _ hu)
    show (((true && (noL t.2 && true)) && noLs (ts.map trm1)) = true)
    rw [h1, h2]
    rfl
/-- terms: names and rates -/
abbrev trmD (ts : List (Str × PyData)) : PyData := .tuple (ts.map fun t => .tuple [.str t.1, t.2])
theorem tie_inv {z : Addr} {H : Hp} {v : V} {dd : List PyData} {b : PyData} (hv : Dt z H v (.tuple [.tuple dd, b])) : ∃ p t y xs, v = .ref p ∧ H p = some (.tup [.ref t, y]) ∧ H t = some (.tup xs) ∧ DtAll z H xs dd ∧ Dt z H y b := by
  match v, hv with
  | _, .tup hp (.cons (.tup ht hts) (.cons hb .nil)) => exact ⟨_, _, _, _, rfl, hp, ht, hts, hb⟩
theorem trm_inv {z : Addr} {H : Hp} {xs : List V} {n : Str} {r : PyData} {ds : List PyData} (h : DtAll z H xs (.tuple [.str n, r] :: ds)) : ∃ e rv xs', xs = .ref e :: xs' ∧ H e = some (.tup [.str n, rv]) ∧ Dt z H rv r := by
  match xs, h with
  | _, .cons (.tup he (.cons (.str _ _) (.cons hr .nil))) _ => exact ⟨_, _, _, rfl, he, hr⟩
/-! ### names in order -/
theorem S_of (x : Str) : SX.S x.cps.toList = x := by
  cases x
  rfl
theorem lt_tri : ∀ (x y : List Nat), ltCps y x = false → x ≠ y → ltCps x y = true
  | [], [], _, h => absurd rfl h
  | [], _ :: _, _, _ => rfl
  | _ :: _, [], h, _ => by cases h
  | a :: r, b :: t, h, n => by
    unfold ltCps at h ⊢
    rw [Bool.or_eq_false_iff, decide_eq_false_iff_not, Bool.and_eq_false_iff] at h
    rw [Bool.or_eq_true, decide_eq_true_eq, Bool.and_eq_true, beq_iff_eq]
    by_cases e : a = b
    · subst e
      refine .inr ⟨rfl, lt_tri r t ?_ fun z => n (by rw [z])⟩
      rcases h.2 with h | h
      · simp at h
      · exact h
    · exact .inl (by omega)
theorem sorted_two {x y : Str} (h : sortedS [x, y] = true) (n : x ≠ y) : decide (x.cps.toList < y.cps.toList) = true := by
  have h : (!ltCps y.cps.toList x.cps.toList && true) = true := h
  rw [Bool.and_true, Bool.not_eq_true'] at h
  rw [lt_meets]
  refine lt_tri _ _ h fun z => n ?_
  rw [← S_of x, ← S_of y, z]
theorem S_list (a : List Nat) : (SX.S a).cps.toList = a := by simp [SX.S]
/-! ### what is no tie -/
def BadL : List PyData → Prop
  | [] => True
  | d :: ds => tieD d = false ∧ BadL ds
theorem BadL.mem : ∀ {ds : List PyData} {d : PyData}, BadL ds → d ∈ ds → tieD d = false
  | _ :: _, _, h, e => by
    rcases List.mem_cons.mp e with rfl | e
    · exact h.1
    · exact BadL.mem h.2 e
def BadAll (z : Addr) (H : Hp) (vs : List V) : Prop := ∀ v ∈ vs, ∃ d, Dt z H v d ∧ tieD d = false
theorem badAll {z : Addr} {H : Hp} {vs : List V} {ds : List PyData} (all : DtAll z H vs ds) (h : BadL ds) : BadAll z H vs := fun v hv => by
  obtain ⟨d, hd, k⟩ := all.mem hv
  exact ⟨d, k, h.mem hd⟩
theorem BadAll.same {z : Addr} {H H' : Hp} {vs : List V} (h : BadAll z H vs) (s : Same H H') : BadAll z H' vs := fun v hv => by
  obtain ⟨d, k, e⟩ := h v hv
  exact ⟨d, k.same s, e⟩
theorem BadAll.app {z : Addr} {H : Hp} {vs us : List V} (h : BadAll z H vs) (k : BadAll z H us) : BadAll z H (vs ++ us) := fun v hv => by
  rcases List.mem_append.mp hv with e | e
  · exact h v e
  · exact k v e
theorem bad_rat {t b : PyData} (h : ratD b = false) : tieD (.tuple [t, b]) = false := by
  show (termsD t && ratD b) = false
  rw [h, Bool.and_false]
theorem bad_one {s b : PyData} (h : termD s = false) : tieD (.tuple [.tuple [s], b]) = false := by
  show (termD s && ratD b) = false
  rw [h]
  rfl
theorem bad_name {n r b : PyData} (h : nameD n = false) : tieD (.tuple [.tuple [.tuple [n, r]], b]) = false := bad_one (by
  show (nameD n && ratD r && nonz r) = false
  rw [h]
  rfl)
theorem bad_rate {n r b : PyData} (h : (ratD r && nonz r) = false) : tieD (.tuple [.tuple [.tuple [n, r]], b]) = false := bad_one (by
  show (nameD n && ratD r && nonz r) = false
  rw [Bool.and_assoc, h, Bool.and_false])
theorem bad_order {x y : Str} {r s b : PyData} (h : decide (x.cps.toList < y.cps.toList) = false) : tieD (.tuple [.tuple [.tuple [.str x, r], .tuple [.str y, s]], b]) = false := by
  show ((_ && _ && decide (x.cps.toList < y.cps.toList)) && _) = false
  rw [h, Bool.and_false]
  rfl
theorem bad_terms {ts : List (Str × PyData)} (h : ts.length = 1 ∨ ts.length = 2) : tieD (trmD ts) = false := by
  match ts, h with
  | [_], _ => rfl
  | [_, _], _ => rfl
  | [], h => simp at h
  | _ :: _ :: _ :: _, h => simp at h
theorem ltCps_self : ∀ x : List Nat, ltCps x x = false
  | [] => rfl
  | a :: r => by
    unfold ltCps
    rw [ltCps_self r, decide_eq_false (Nat.lt_irrefl a), Bool.and_false]
    rfl
theorem quotes (x : List Nat) : nameB (x ++ [39, 39]) = false := by
  have e : cutQ (x ++ [39, 39]) = x ++ [39] := by
    unfold cutQ
    have e1 : x ++ [39, 39] = (x ++ [39]) ++ [39] := by simp
    rw [e1, List.getLast?_append, List.getLast?_singleton, Option.some_or, if_pos rfl, List.dropLast_concat]
  unfold nameB letB
  rw [e, List.all_append]
  simp [lowc]
theorem catNew {z : Addr} {H : Hp} {p : Addr} {us vs : List V} {ds : List PyData} (n : H p = none) (all : DtAll z H vs ds) (hb : BadAll z H us) (h : BadL ds) : Same H (L2.upd H p (.lst (us ++ vs))) ∧ BadAll z (L2.upd H p (.lst (us ++ vs))) (us ++ vs) :=
  ⟨same_upd n, (hb.app (badAll all h)).same (same_upd n)⟩
theorem small_line {n : Nat} (h : n ≤ 1000) : n ≤ sizeLine := Nat.le_trans h (Nat.le_of_lt (small1000 (Nat.le_refl _)))
theorem quote : (Str.ofString "'" : Str) = SX.S [39] := by decide +kernel
abbrev vS (a : List Nat) : V := .str (SX.S a)
section
variable {P : Program} {w : World} {K : PySem.W.Frag} {mg : Str → Option Value} {base : Heap} {fa : Nat → Addr} {fd : Nat → FuncData}
/-! ### the program's tests of data -/
def spD (f : PyData → Bool) : Sp := fun vs H Q _ => ∃ v d z, vs = [v] ∧ Dt z H v d ∧ Q (.bl (f d)) H
theorem ok_p_is_whole (T : Txt K mg fa fd) : FnOk P w K mg base CX0 1 (fa 8) (fd 8) ["thing"] (spD isInt) := by
  refine T.F_p_is_whole.ok sc_p_is_whole (fun vs H Q E h => ?_) (fun cdv A outer s H vs Q E hr h => ?_)
  · obtain ⟨v, d, _, rfl, _⟩ := h
    rfl
  · obtain ⟨v, d, z, rfl, hv, q⟩ := h
    refine ⟨_, (pss_one (ps_ret (pe_and (pe_callB call_isi (by rfl) T.m_isinstance PyProof.Rows.boot_isinstance (pa_cons (pv 0) (pa_cons (pe_bltn (v := .ty "int") (by rfl) T.m_int (by decide +kernel) rfl) pa_nil))) (pe_one (pe_not (pe_callB call_isi (by rfl) T.m_isinstance PyProof.Rows.boot_isinstance (pa_cons (pv 0) (pa_cons (pe_bltn (v := .ty "bool") (by rfl) T.m_bool (by decide +kernel) rfl) pa_nil)))))))), ?_⟩
    cases hv with
    | non => exact ⟨_, rfl, _, _, _, _, _, rfl, .ty _, .base .non, kit_ty (r := false) (by decide +kernel), _, rfl, iteF q⟩
    | bl b => exact ⟨_, rfl, _, _, _, _, _, rfl, .ty _, .base (.bl _), kit_ty (r := true) (by decide +kernel), _, rfl, iteT ⟨_, rfl, _, _, _, _, _, rfl, .ty _, .base (.bl _), kit_ty (r := true) (by decide +kernel), _, rfl, q⟩⟩
    | int i _ => exact ⟨_, rfl, _, _, _, _, _, rfl, .ty _, .base (.int _), kit_ty (r := true) (by decide +kernel), _, rfl, iteT ⟨_, rfl, _, _, _, _, _, rfl, .ty _, .base (.int _), kit_ty (r := false) (by decide +kernel), _, rfl, q⟩⟩
    | str x _ => exact ⟨_, rfl, _, _, _, _, _, rfl, .ty _, .base (.str _), kit_ty (r := false) (by decide +kernel), _, rfl, iteF q⟩
    | lst h _ _ => exact ⟨_, rfl, _, _, _, _, _, rfl, .ty _, .base (.lst h), kit_ty (r := false) (by decide +kernel), _, rfl, iteF q⟩
    | tup h _ => exact ⟨_, rfl, _, _, _, _, _, rfl, .ty _, .base (.tup h), kit_ty (r := false) (by decide +kernel), _, rfl, iteF q⟩
abbrev Bd (t : Int) : Prop := t.natAbs.log2 < 4096
theorem bits_bd {v : Nat} (h : v.log2 < 4096) : ¬ ((4096 : Int) < ((Builtin.Int.intBits (v : Int) : Nat) : Int)) := by
  unfold Builtin.Int.intBits
  rw [Int.natAbs_natCast]
  split <;> omega
def spDiv : Sp := fun vs H Q _ => ∃ x y : Int, vs = [.int x, .int y] ∧ (Bd x ∨ Bd y) ∧ Q (.int (Int.gcd x y : Nat)) H
theorem ok_p_common_divisor (T : Txt K mg fa fd) : FnOk P w K mg base CX0 1 (fa 10) (fd 10) ["one", "other"] spDiv := by
  refine T.F_p_common_divisor.ok sc_p_common_divisor (fun vs H Q E h => ?_) (fun cdv A outer s H vs Q E hr h => ?_)
  · obtain ⟨x, y, rfl, _⟩ := h
    rfl
  · obtain ⟨x, y, rfl, hb, q⟩ := h
    refine ⟨_, (pss_cons (ps_set (i := 0) sc_p_common_divisor.nd rfl (.inl rfl) (pe_callB call_abs (by rfl) T.m_abs PyProof.Rows.boot_abs (pa_cons (pv 0) pa_nil)))
      (pss_cons (ps_set (i := 1) sc_p_common_divisor.nd rfl (.inl rfl) (pe_callB call_abs (by rfl) T.m_abs PyProof.Rows.boot_abs (pa_cons (pv 1) pa_nil)))
      (C8.pss_cut (ps_if (pt_cmpR op_lt (pv 0) (pv 1) (nomark _)) (pss_one (ps_par (i := 0) (j := 1) (by rfl) sc_p_common_divisor.nd rfl rfl (by decide) rfl rfl (pa_cons (pv 1) (pa_cons (pv 0) pa_nil)) (by rfl))) pss_nil)
      (pss_cons (ps_while PassesOwn.never (pt_cmpR op_gt (pe_bits (pv 1)) (C8.pe_gc (by rfl) T.c_LONG) (nomark _)) (pss_one ps_never))
      (pss_cons (ps_while PassesOwn.never (pt_cmpR op_gt (pv 1) pe_int (nomark _)) (pss_one (ps_par (i := 0) (j := 1) (by rfl) sc_p_common_divisor.nd rfl rfl (by decide) rfl rfl (pa_cons (pv 1) (pa_cons (pe_op op_mod (pv 0) (pv 1)) pa_nil)) (by rfl))))
      (pss_one (ps_ret (pv 0)))))))), ?_⟩
    refine ⟨_, rfl, _, rfl, _, rfl, _, rfl, ?_⟩
    have ab : ∀ z : Int, (if z < 0 then -z else z) = (z.natAbs : Int) := fun z => by split <;> omega
    rw [ab, ab]
    refine ⟨fun σ H1 => H1 = H ∧ ∃ u v : Nat, σ = [some (.int (u : Int)), some (.int (v : Int))] ∧ v.log2 < 4096 ∧ Nat.gcd u v = Int.gcd x y, ?_, fun σ H1 hM => ?_⟩
    · refine ⟨_, rfl, _, rfl, _, _, rfl, rfl, _, rfl, ite2 (fun e => ?_) (fun e => ?_)⟩
      · have lt : (x.natAbs : Int) < (y.natAbs : Int) := of_decide_eq_true e
        refine ⟨_, rfl, _, rfl, _, _, rfl, rfl, y.natAbs, x.natAbs, rfl, ?_, Nat.gcd_comm _ _⟩
        rcases hb with hb | hb
        · exact hb
        · exact log2_mono (by omega) hb
      · have ge : ¬ (x.natAbs : Int) < (y.natAbs : Int) := fun z => e (decide_eq_true z)
        refine ⟨rfl, x.natAbs, y.natAbs, rfl, ?_, rfl⟩
        rcases hb with hb | hb
        · exact log2_mono (by omega) hb
        · exact hb
    obtain ⟨rfl, u0, v0, rfl, hv0, hg0⟩ := hM
    refine ⟨fun m σ H2 => σ = [some (.int (u0 : Int)), some (.int (v0 : Int))] ∧ H2 = H1, ⟨0, rfl, rfl⟩, fun m σ H2 hW => ?_⟩
    obtain ⟨rfl, rfl⟩ := hW
    refine ⟨_, rfl, _, rfl, _, _, rfl, rfl, _, rfl, ite2 (fun e => absurd (of_decide_eq_true e) (bits_bd hv0)) (fun _ => ?_)⟩
    refine ⟨fun m σ H1 => ∃ u v : Nat, m = v ∧ σ = [some (.int (u : Int)), some (.int (v : Int))] ∧ H1 = H2 ∧ Nat.gcd u v = Int.gcd x y, ⟨_, u0, v0, rfl, rfl, rfl, hg0⟩, fun m σ H1 hW => ?_⟩
    obtain ⟨u, v, rfl, rfl, rfl, hg⟩ := hW
    refine ⟨_, rfl, _, _, rfl, rfl, _, rfl, ite2 (fun e => ?_) (fun e => ?_)⟩
    · have hv : 0 < (m : Int) := of_decide_eq_true e
      refine ⟨fun σ' H' => ∃ m', m' < m ∧ ∃ u v : Nat, m' = v ∧ σ' = [some (.int (u : Int)), some (.int (v : Int))] ∧ H' = H1 ∧ Nat.gcd u v = Int.gcd x y, fun σ' H' h => h, ?_⟩
      refine ⟨_, rfl, _, rfl, _, rfl, _, _, rfl, rfl, hv, ?_⟩
      refine ⟨_, _, rfl, u % m, Nat.mod_lt _ (by omega), m, u % m, rfl, rfl, rfl, ?_⟩
      rw [← hg, Nat.gcd_comm m, ← Nat.gcd_rec, Nat.gcd_comm]
    · have hv : m = 0 := by
        have : ¬ 0 < (m : Int) := fun z => e (decide_eq_true z)
        omega
      subst hv
      refine ⟨_, rfl, ?_⟩
      rw [Nat.gcd_zero_right] at hg
      rw [hg]
      exact q
theorem ratD_pair (x y : PyData) : ratD (.tuple [x, y]) = (isInt x && (isInt y && ratD (.tuple [x, y]))) := by
  cases x <;> cases y <;> rfl
theorem ratD_one (x : PyData) : ratD (.tuple [x]) = false := by cases x <;> rfl
theorem ratD_many (x y z : PyData) (r : List PyData) : ratD (.tuple (x :: y :: z :: r)) = false := by cases x <;> cases y <;> rfl
theorem ok_p_is_ratio (T : Txt K mg fa fd) : FnOk P w K mg base CX0 2 (fa 12) (fd 12) ["thing"] (spD ratD) := by
  refine T.F_p_is_ratio.ok sc_p_is_ratio (fun vs H Q E h => ?_) (fun cdv A outer s H vs Q E hr h => ?_)
  · obtain ⟨v, d, _, rfl, _⟩ := h
    rfl
  · obtain ⟨v, d, z, rfl, hv, q⟩ := h
    refine ⟨_, (pss_cons (ps_if (PW.pt (pw_or (pt_not (pt_val (pe_callB call_isi (by rfl) T.m_isinstance PyProof.Rows.boot_isinstance (pa_cons (pv 0) (pa_cons (pe_bltn (v := .ty "tuple") (by rfl) T.m_tuple (by decide +kernel) rfl) pa_nil))))) (pw_or1 (pt_cmpR op_ne (pe_callB call_len_seq (by rfl) T.m_len PySem.boot_len (pa_cons (pv 0) pa_nil)) pe_int (nomark _))))) (pss_one (ps_ret pe_bl)) pss_nil)
      (pss_cons (ps_asg (pv 0) (pg_tup (by rfl) (pgs_cons (pg_name (i := 1) sc_p_is_ratio.nd rfl (.inl rfl)) (pgs_cons (pg_name (i := 2) sc_p_is_ratio.nd rfl (.inl rfl)) pgs_nil))))
      (pss_one (ps_ret (pe_and (pe_call (ok_p_is_whole T) (hr.mono (by decide)) (by rfl) T.g_p_is_whole T.F_p_is_whole.kp T.b_p_is_whole .nil pass0 (pa_cons (pv 1) pa_nil)) (pe_and (pe_call (ok_p_is_whole T) (hr.mono (by decide)) (by rfl) T.g_p_is_whole T.F_p_is_whole.kp T.b_p_is_whole .nil pass0 (pa_cons (pv 2) pa_nil)) (pe_and (pe_cmpR op_ge (pv 2) pe_int (nomark _)) (pe_one (pe_cmpR op_eq (pe_call (ok_p_common_divisor T) (hr.mono (by decide)) (by rfl) T.g_p_common_divisor T.F_p_common_divisor.kp T.b_p_common_divisor .nil pass0 (pa_cons (pv 1) (pa_cons (pv 2) pa_nil))) pe_int (nomark _)))))))))), ?_⟩
    refine ⟨_, rfl, _, _, _, _, _, rfl, .ty _, .base hv.ty, kit_ty kitTup, _, rfl, ?_⟩
    rcases hv.split with e | ⟨p, xs, ds, rfl, rfl, hp, hs⟩
    · rw [e]
      refine iteT (iteT ?_)
      have : ratD d = false := by cases d <;> first | rfl | cases e
      rw [this] at q
      exact q
    · refine iteF ⟨_, rfl, p, xs, rfl, .inr (SqT.of hp), rfl, _, rfl, ?_⟩
      rw [hs.len]
      match xs, ds, hs with
      | _, [], _ => exact iteT q
      | _, [x], _ =>
        rw [ratD_one] at q
        exact iteT q
      | _, x :: y :: z :: r, _ =>
        rw [ratD_many] at q
        rw [decide_eq_false (by simp; omega)]
        exact iteT q
      | _, [d1, d2], .cons (v := x) h1 (.cons (v := y) h2 .nil) =>
        rw [decide_eq_true (show V.int (([d1, d2] : List PyData).length : Int) = V.int 2 from rfl)]
        refine iteF ⟨_, rfl, p, _, rfl, SqT.of hp, rfl, x, [y], rfl, y, [], rfl, rfl, ?_⟩
        refine ⟨_, rfl, x, d1, _, rfl, h1, _, rfl, ?_⟩
        rw [ratD_pair] at q
        cases e1 : isInt d1 with
        | false =>
          rw [e1] at q
          exact iteF q
        | true =>
          rw [e1] at q
          refine iteT ⟨_, rfl, y, d2, _, rfl, h2, _, rfl, ?_⟩
          cases e2 : isInt d2 with
          | false =>
            rw [e2] at q
            exact iteF q
          | true =>
            rw [e2] at q
            cases h1 with
            | int t _ =>
              cases h2 with
              | int u hbu =>
                refine iteT ⟨_, rfl, _, _, rfl, rfl, _, rfl, ?_⟩
                have q : Q (.bl (decide (1 ≤ u) && decide (Int.gcd t u = 1))) H := q
                cases eu : decide (1 ≤ u) with
                | false =>
                  rw [eu] at q
                  exact iteF q
                | true =>
                  rw [eu] at q
                  refine iteT ⟨_, rfl, _, rfl, t, u, rfl, .inr hbu, rfl, ?_⟩
                  have e : decide (V.int (Int.gcd t u : Nat) = V.int 1) = decide (Int.gcd t u = 1) := by
                    rw [decide_eq_decide]
                    constructor
                    · intro h
                      have := V.int.inj h
                      omega
                    · intro h
                      rw [h]
                      rfl
                  rw [e]
                  exact q
              | _ => cases e2
            | _ => cases e1
end
/-! ### texts of fractions: the plain mathematics -/
abbrev dig (c : Nat) : Bool := decide (48 ≤ c) && decide (c ≤ 57)
def isD (a : List Nat) : Bool := !a.isEmpty && a.all dig
def bodyM : List Nat → Bool
  | 45 :: _ => true
  | _ => false
def bodyL : List Nat → List Nat
  | 45 :: r => r
  | a => a
def cutL (a : List Nat) : List Nat × Bool × List Nat := match TL.par [47] [] a with
  | some (p, q) => (p, true, q)
  | none => (a, false, [])
def txtL (n d : Int) : List Nat := (if n < 0 then [45] else []) ++ (TL.numL n.natAbs ++ (if d = 1 then [] else 47 :: TL.numL d.natAbs))
def progN (t : List Nat) : Int := if bodyM t then -((NumText.digitsVal (cutL (bodyL t)).1 : Nat) : Int) else (NumText.digitsVal (cutL (bodyL t)).1 : Nat)
def progD (t : List Nat) : Int := if (cutL (bodyL t)).2.1 then ((NumText.digitsVal (cutL (bodyL t)).2.2 : Nat) : Int) else 1
def progR (t : List Nat) : Option (Int × Int) :=
  if !isD (cutL (bodyL t)).1 || ((cutL (bodyL t)).2.1 && !isD (cutL (bodyL t)).2.2) then none
  else if progD t = 0 then none
  else if txtL (lowT (progN t) (progD t)) (lowD (progN t) (progD t)) = t then some (lowT (progN t) (progD t), lowD (progN t) (progD t)) else none
def goodW (p : List Nat) : Bool := isD p && !(decide (1 < p.length) && p.head? == some 48)
def lawR (t : List Nat) : Option (Int × Int) :=
  if !goodW (cutL (bodyL t)).1 || ((cutL (bodyL t)).2.1 && !goodW (cutL (bodyL t)).2.2) then none
  else if ((cutL (bodyL t)).2.1 = true ∧ progD t < 2 ∨ Int.gcd (progN t) (progD t) ≠ 1) ∨ bodyM t = true ∧ progN t = 0 then none
  else some (progN t, progD t)
theorem gcd_low {u v : Int} (h : v ≠ 0) : Int.gcd (lowT u v) (lowD u v) = 1 := by
  have e1 := lowT_mul (u := u) h
  have e2 := lowD_mul (u := u) h
  have g0 := gcd_pos (u := u) h
  have e : Int.gcd u v = (lowG u v).natAbs * Int.gcd (lowT u v) (lowD u v) := by
    rw [← Int.gcd_mul_left, ← e1, ← e2]
  have hg : (lowG u v).natAbs = Int.gcd u v := by
    unfold lowG
    split <;> omega
  rw [hg] at e
  generalize Int.gcd (lowT u v) (lowD u v) = m at e
  generalize Int.gcd u v = g at e g0
  have : g * 1 = g * m := by rw [Nat.mul_one]; exact e
  exact (Nat.eq_of_mul_eq_mul_left g0 this).symm
theorem low_one {u v : Int} (h : 0 < v) (g : Int.gcd u v = 1) : lowT u v = u ∧ lowD u v = v := by
  have hG : lowG u v = 1 := by
    unfold lowG
    rw [if_neg (by omega), g]
    rfl
  unfold lowT lowD
  rw [hG]
  exact ⟨Int.fdiv_one u, Int.fdiv_one v⟩
theorem all_dig {a : List Nat} : a.all dig = true ↔ NumText.AllDigits a := by
  rw [List.all_eq_true]
  constructor
  · intro h c hc
    have z := h c hc
    unfold dig at z
    rw [Bool.and_eq_true, decide_eq_true_eq, decide_eq_true_eq] at z
    exact z
  · intro h c hc
    have z := h c hc
    unfold dig
    rw [Bool.and_eq_true, decide_eq_true_eq, decide_eq_true_eq]
    exact z
theorem isD_num (n : Nat) : isD (TL.numL n) = true := by
  unfold isD
  rw [Bool.and_eq_true]
  refine ⟨?_, all_dig.mpr (TL.numL_digits n)⟩
  have h := TL.numL_ne n
  cases e : TL.numL n with
  | nil => exact absurd e h
  | cons c r => rfl
theorem isD_iff {a : List Nat} : isD a = true ↔ a ≠ [] ∧ NumText.AllDigits a := by
  unfold isD
  rw [Bool.and_eq_true, all_dig]
  cases a with
  | nil => simp
  | cons c r => simp
theorem nat_char {c : Nat} (h : 48 ≤ c ∧ c ≤ 57) : (Char.ofNat c).toNat = c := by
  have : ∀ c : Nat, c ≤ 57 → 48 ≤ c → (Char.ofNat c).toNat = c := by decide
  exact this c h.2 h.1
theorem num_good {p : List Nat} (h : goodW p = true) : TL.numL (NumText.digitsVal p) = p := by
  unfold goodW at h
  rw [Bool.and_eq_true, isD_iff] at h
  obtain ⟨⟨h1, h2⟩, h3⟩ := h
  have back : ∀ l : List Nat, NumText.AllDigits l → (l.map Char.ofNat).map Char.toNat = l := fun l hl => by
    rw [List.map_map]
    conv => rhs; rw [← List.map_id l]
    exact List.map_congr_left fun c hc => nat_char (hl c hc)
  unfold TL.numL
  rw [NumText.toDigits_all p h2]
  cases p with
  | nil => exact absurd rfl h1
  | cons c r =>
    by_cases e : c = 48
    · subst e
      cases r with
      | nil => rfl
      | cons d r =>
        simp at h3
    · rw [List.dropWhile_cons, if_neg (by rw [beq_iff_eq]; exact e)]
      exact back (c :: r) h2
theorem numL_zero : TL.numL 0 = [48] := TL.numL_lt (by decide)
theorem numL_head {n : Nat} (h : 0 < n) : ∀ c r, TL.numL n = c :: r → 49 ≤ c := by
  induction n using Nat.strongRecOn with
  | _ n ih =>
    intro c r e
    by_cases hn : n < 10
    · rw [TL.numL_lt hn] at e
      injection e with e1 e2
      omega
    · rw [TL.numL_step (by omega)] at e
      cases e2 : TL.numL (n / 10) with
      | nil => exact absurd e2 (TL.numL_ne _)
      | cons c' r' =>
        rw [e2, List.cons_append] at e
        injection e with e3 e4
        have := ih (n / 10) (by omega) (by omega) c' r' e2
        omega
theorem good_num (n : Nat) : goodW (TL.numL n) = true := by
  unfold goodW
  rw [Bool.and_eq_true]
  refine ⟨isD_num n, ?_⟩
  by_cases h : n = 0
  · subst h
    rw [numL_zero]
    rfl
  · cases e : TL.numL n with
    | nil => exact absurd e (TL.numL_ne n)
    | cons c r =>
      have := numL_head (Nat.pos_of_ne_zero h) c r e
      have : (List.head? (c :: r) == some 48) = false := by
        show (some c == some 48) = false
        rw [beq_eq_false_iff_ne]
        intro z
        injection z with z
        omega
      rw [this]
      simp
theorem body_at (t : List Nat) : t = (if bodyM t then [45] else []) ++ bodyL t := by
  unfold bodyM bodyL
  split <;> simp_all
theorem body_minus (b : List Nat) : bodyM (45 :: b) = true ∧ bodyL (45 :: b) = b := ⟨rfl, rfl⟩
theorem body_num (n : Nat) (r : List Nat) : bodyM (TL.numL n ++ r) = false ∧ bodyL (TL.numL n ++ r) = TL.numL n ++ r := by
  cases e : TL.numL n with
  | nil => exact absurd e (TL.numL_ne n)
  | cons c l =>
    have hc : c ≠ 45 := by
      intro z
      have := TL.numL_free (n := n) (s := 45) (.inl (by decide))
      rw [e, z] at this
      exact this List.mem_cons_self
    rw [List.cons_append]
    unfold bodyM bodyL
    constructor
    · split
      · rename_i h
        injection h with h1 h2
        exact absurd h1 hc
      · rfl
    · split
      · rename_i h
        injection h with h1 h2
        exact absurd h1 hc
      · rfl
theorem cut_at (a : List Nat) : a = (cutL a).1 ++ (if (cutL a).2.1 then 47 :: (cutL a).2.2 else []) := by
  by_cases h : 47 ∈ a
  · obtain ⟨p, q, e, hp⟩ := List.eq_append_cons_of_mem h
    subst e
    have := SX.par_head (sep := []) q hp
    unfold cutL
    rw [show p ++ 47 :: q = p ++ (47 :: [] ++ q) from rfl, this]
    rfl
  · have := SX.par_head_none (c := 47) (sep := []) h
    unfold cutL
    rw [this]
    simp
theorem cut_num (n : Nat) : cutL (TL.numL n) = (TL.numL n, false, []) := by
  have := SX.par_head_none (c := 47) (sep := []) (p := TL.numL n) (TL.numL_free (.inl (by decide)))
  unfold cutL
  rw [this]
theorem cut_num2 (n : Nat) (q : List Nat) : cutL (TL.numL n ++ 47 :: q) = (TL.numL n, true, q) := by
  have := SX.par_head (c := 47) (sep := []) (p := TL.numL n) q (TL.numL_free (.inl (by decide)))
  unfold cutL
  rw [show TL.numL n ++ 47 :: q = TL.numL n ++ (47 :: [] ++ q) from rfl, this]
theorem parse_txt (n d : Int) (hd : 0 < d) : bodyM (txtL n d) = decide (n < 0) ∧ (cutL (bodyL (txtL n d))).1 = TL.numL n.natAbs ∧ (cutL (bodyL (txtL n d))).2.1 = decide (d ≠ 1) ∧ (d ≠ 1 → (cutL (bodyL (txtL n d))).2.2 = TL.numL d.natAbs) := by
  have hb : bodyM (txtL n d) = decide (n < 0) ∧ bodyL (txtL n d) = TL.numL n.natAbs ++ (if d = 1 then [] else 47 :: TL.numL d.natAbs) := by
    unfold txtL
    by_cases h : n < 0
    · rw [if_pos h, decide_eq_true h]
      exact body_minus _
    · rw [if_neg h, decide_eq_false h, List.nil_append]
      exact body_num _ _
  rw [hb.2]
  refine ⟨hb.1, ?_⟩
  by_cases h : d = 1
  · rw [if_pos h, List.append_nil, cut_num]
    exact ⟨rfl, (decide_eq_false (fun z => z h)).symm, fun z => absurd h z⟩
  · rw [if_neg h, cut_num2]
    exact ⟨rfl, (decide_eq_true h).symm, fun _ => rfl⟩
/-- the text's parts are those of the fraction -/
theorem parse_val (n d : Int) (hd : 0 < d) : progN (txtL n d) = n ∧ progD (txtL n d) = d := by
  obtain ⟨h1, h2, h3, h4⟩ := parse_txt n d hd
  unfold progN progD
  rw [h1, h2, h3, TL.numL_val]
  constructor
  · by_cases h : n < 0
    · rw [decide_eq_true h, if_pos rfl]
      omega
    · rw [decide_eq_false h, if_neg (by decide)]
      omega
  · by_cases h : d = 1
    · rw [decide_eq_false (fun z => z h), if_neg (by decide), h]
    · rw [decide_eq_true h, if_pos rfl, h4 h, TL.numL_val]
      omega
theorem law_txt (n d : Int) (hd : 0 < d) (g : Int.gcd n d = 1) : lawR (txtL n d) = some (n, d) := by
  obtain ⟨h1, h2, h3, h4⟩ := parse_txt n d hd
  obtain ⟨e1, e2⟩ := parse_val n d hd
  unfold lawR
  rw [e1, e2, h1, h2, h3, good_num]
  have c1 : ((!true) || (decide (d ≠ 1) && !goodW (cutL (bodyL (txtL n d))).2.2)) = false := by
    by_cases h : d = 1
    · rw [decide_eq_false (fun z => z h)]
      rfl
    · rw [h4 h, good_num]
      simp
  rw [c1, if_neg (by decide), if_neg ?_]
  rintro ((⟨z1, z2⟩ | z) | ⟨z1, z2⟩)
  · have := of_decide_eq_true z1
    omega
  · exact z g
  · have := of_decide_eq_true z1
    omega
theorem prog_txt (n d : Int) (hd : 0 < d) (g : Int.gcd n d = 1) : progR (txtL n d) = some (n, d) := by
  obtain ⟨h1, h2, h3, h4⟩ := parse_txt n d hd
  obtain ⟨e1, e2⟩ := parse_val n d hd
  obtain ⟨l1, l2⟩ := low_one hd g
  unfold progR
  rw [e1, e2, h2, h3, isD_num, l1, l2]
  have c1 : ((!true) || (decide (d ≠ 1) && !isD (cutL (bodyL (txtL n d))).2.2)) = false := by
    by_cases h : d = 1
    · rw [decide_eq_false (fun z => z h)]
      rfl
    · rw [h4 h, isD_num]
      simp
  rw [c1, if_neg (by decide), if_neg (by omega), if_pos rfl]
theorem prog_some {t : List Nat} {f : Int × Int} (h : progR t = some f) : t = txtL f.1 f.2 ∧ 0 < f.2 ∧ Int.gcd f.1 f.2 = 1 := by
  unfold progR at h
  split at h
  · cases h
  · split at h
    · cases h
    · rename_i h0
      split at h
      · rename_i e
        cases h
        exact ⟨e.symm, lowD_pos h0, gcd_low h0⟩
      · cases h
theorem law_some {t : List Nat} {f : Int × Int} (h : lawR t = some f) : t = txtL f.1 f.2 ∧ 0 < f.2 ∧ Int.gcd f.1 f.2 = 1 := by
  unfold lawR at h
  split at h
  · cases h
  · rename_i h1
    split at h
    · cases h
    · rename_i h2
      cases h
      have k1 : goodW (cutL (bodyL t)).1 = true := by
        cases e : goodW (cutL (bodyL t)).1
        · rw [e] at h1
          exact absurd rfl h1
        · rfl
      have k2 : (cutL (bodyL t)).2.1 = true → goodW (cutL (bodyL t)).2.2 = true := fun z => by
        cases e : goodW (cutL (bodyL t)).2.2
        · rw [e, z, k1] at h1
          exact absurd rfl h1
        · rfl
      have g1 : Int.gcd (progN t) (progD t) = 1 := by
        by_cases z : Int.gcd (progN t) (progD t) = 1
        · exact z
        · exact absurd (.inl (.inr z)) h2
      have d2 : (cutL (bodyL t)).2.1 = true → 2 ≤ progD t := fun z => by
        have : ¬ progD t < 2 := fun y => h2 (.inl (.inl ⟨z, y⟩))
        omega
      have m2 : bodyM t = true → progN t ≠ 0 := fun z y => h2 (.inr ⟨z, y⟩)
      have hd : 0 < progD t := by
        cases e : (cutL (bodyL t)).2.1
        · unfold progD
          rw [e, if_neg (by decide)]
          omega
        · have := d2 e
          omega
      refine ⟨?_, hd, g1⟩
      have p1 := num_good k1
      show t = txtL (progN t) (progD t)
      have sg : (if progN t < 0 then [45] else []) = (if bodyM t then [45] else ([] : List Nat)) := by
        cases e : bodyM t
        · have : ¬ progN t < 0 := by
            unfold progN
            rw [e]
            simp
          rw [if_neg this]
          rfl
        · have y := m2 e
          have : progN t < 0 := by
            unfold progN at y ⊢
            rw [e, if_pos rfl] at y ⊢
            omega
          rw [if_pos this]
          rfl
      have an : (progN t).natAbs = NumText.digitsVal (cutL (bodyL t)).1 := by
        unfold progN
        split <;> omega
      have sd : (if progD t = 1 then [] else 47 :: TL.numL (progD t).natAbs) = (if (cutL (bodyL t)).2.1 then 47 :: (cutL (bodyL t)).2.2 else []) := by
        cases e : (cutL (bodyL t)).2.1
        · have : progD t = 1 := by
            unfold progD
            rw [e]
            rfl
          rw [if_pos this]
          rfl
        · have y := d2 e
          have z : (progD t).natAbs = NumText.digitsVal (cutL (bodyL t)).2.2 := by
            unfold progD
            rw [e, if_pos rfl]
            omega
          rw [if_neg (by omega), z, num_good (k2 e)]
          rfl
      unfold txtL
      rw [sg, an, p1, sd, ← cut_at, ← body_at]
theorem prog_law (t : List Nat) : progR t = lawR t := by
  cases h : progR t with
  | some f =>
    obtain ⟨e, hd, g⟩ := prog_some h
    rw [e, law_txt f.1 f.2 hd g]
  | none =>
    cases h2 : lawR t with
    | none => rfl
    | some f =>
      obtain ⟨e, hd, g⟩ := law_some h2
      rw [e, prog_txt f.1 f.2 hd g] at h
      cases h
/-! ### the mathematics of reduced ties -/
theorem lowT_self {u v : Int} (hv : v ≠ 0) : lowT u v * v = u * lowD u v := by
  have e1 := lowT_mul (u := u) hv
  have e2 := lowD_mul (u := u) hv
  generalize lowG u v = g at e1 e2
  generalize lowT u v = a at e1 ⊢
  generalize lowD u v = b at e2 ⊢
  subst e1 e2
  rw [← Int.mul_assoc, Int.mul_comm a g]
theorem lowG_scale (u v m : Int) (hm : m ≠ 0) : v ≠ 0 → lowG (u * m) (v * m) = lowG u v * m := fun hv => by
  have g : (Int.gcd (u * m) (v * m) : Int) = (Int.gcd u v : Int) * (m.natAbs : Int) := by
    rw [Int.gcd_mul_right]
    exact Int.natCast_mul _ _
  unfold lowG
  rw [g]
  rcases Int.lt_trichotomy m 0 with h | h | h
  · have em : (m.natAbs : Int) = -m := by omega
    rw [em, Int.mul_neg, Int.neg_neg]
    by_cases h2 : v < 0
    · have := Int.mul_pos_of_neg_of_neg h2 h
      rw [if_neg (by omega), if_pos h2, Int.neg_mul]
    · have := Int.mul_neg_of_pos_of_neg (show 0 < v by omega) h
      rw [if_pos this, if_neg h2]
  · exact absurd h hm
  · have em : (m.natAbs : Int) = m := by omega
    rw [em]
    by_cases h2 : v < 0
    · have := Int.mul_neg_of_neg_of_pos h2 h
      rw [if_pos this, if_pos h2, Int.neg_mul]
    · have := Int.mul_pos (show 0 < v by omega) h
      rw [if_neg (by omega), if_neg h2]
theorem fdiv_scale {g u m : Int} (hg : g ≠ 0) (hm : m ≠ 0) (hd : g ∣ u) : (u * m).fdiv (g * m) = u.fdiv g := by
  obtain ⟨t, rfl⟩ := hd
  have hgm : g * m ≠ 0 := Int.mul_ne_zero hg hm
  rw [Int.mul_fdiv_cancel_left _ hg, show g * t * m = g * m * t by rw [Int.mul_assoc, Int.mul_comm t m, Int.mul_assoc], Int.mul_fdiv_cancel_left _ hgm]
theorem lowT_scale {u v m : Int} (hm : m ≠ 0) (hv : v ≠ 0) : lowT (u * m) (v * m) = lowT u v := by
  unfold lowT
  rw [lowG_scale u v m hm hv]
  exact fdiv_scale (lowG_ne hv) hm (lowG_dvd_left u v)
theorem lowD_scale {u v m : Int} (hm : m ≠ 0) (hv : v ≠ 0) : lowD (u * m) (v * m) = lowD u v := by
  unfold lowD
  rw [lowG_scale u v m hm hv]
  exact fdiv_scale (lowG_ne hv) hm (lowG_dvd_right u v)
theorem lowG_one (u : Int) : lowG u 1 = 1 := by
  unfold lowG
  rw [if_neg (by decide), Int.gcd_one_right]
  rfl
theorem lowT_one (u : Int) : lowT u 1 = u := by
  unfold lowT
  rw [lowG_one, Int.fdiv_one]
theorem lowD_one (u : Int) : lowD u 1 = 1 := by
  unfold lowD
  rw [lowG_one]
  rfl
abbrev FR := Int × Int
def lowF (u v : Int) : FR := (lowT u v, lowD u v)
theorem low_cross {u v u' v' : Int} (hv : v ≠ 0) (hv' : v' ≠ 0) (h : u * v' = u' * v) : lowF u v = lowF u' v' := by
  unfold lowF
  rw [← lowT_scale hv' hv, ← lowD_scale hv' hv, h, ← lowT_scale (u := u') hv hv', ← lowD_scale (u := u') hv hv', Int.mul_comm v v']
/-- the least common denominator, as it is worked out -/
def lcmF (u : Int) : List FR → Int
  | [] => u
  | f :: r => lcmF ((u * f.2).fdiv (Int.gcd u f.2 : Nat)) r
def gcdF (L : Int) (g : Int) : List FR → Int
  | [] => g
  | f :: r => gcdF L (Int.gcd g (L.fdiv f.2 * f.1) : Nat) r
def scl (rs : List FR) : FR := lowF (lcmF 1 rs) (gcdF (lcmF 1 rs) 0 rs)
def redF (s f : FR) : FR := lowF (f.1 * s.1) (f.2 * s.2)
def gl (l : List Int) : Nat := l.foldr (fun m g => Nat.gcd m.natAbs g) 0
theorem gl_mul (A : Int) : ∀ l : List Int, gl (l.map (· * A)) = gl l * A.natAbs
  | [] => (Nat.zero_mul _).symm
  | m :: l => by
    show Nat.gcd (m * A).natAbs (gl (l.map (· * A))) = Nat.gcd m.natAbs (gl l) * A.natAbs
    rw [gl_mul A l, Int.natAbs_mul, Nat.gcd_mul_right]
theorem lcm_step {u d : Int} (hu : 0 < u) (hd : 0 < d) : 0 < (u * d).fdiv (Int.gcd u d : Nat) ∧ u ∣ (u * d).fdiv (Int.gcd u d : Nat) ∧ d ∣ (u * d).fdiv (Int.gcd u d : Nat) := by
  have gp : 0 < Int.gcd u d := gcd_pos (by omega)
  obtain ⟨a, ha⟩ := Int.gcd_dvd_left u d
  obtain ⟨b, hb⟩ := Int.gcd_dvd_right u d
  have g0 : ((Int.gcd u d : Nat) : Int) ≠ 0 := by omega
  have e : (u * d).fdiv (Int.gcd u d : Nat) = u * b := by
    rw [show u * d = ((Int.gcd u d : Nat) : Int) * (u * b) by
      rw [← Int.mul_assoc, Int.mul_comm _ u, Int.mul_assoc, ← hb]]
    exact Int.mul_fdiv_cancel_left _ g0
  have bp : 0 < b := by
    rcases Int.lt_trichotomy b 0 with h | h | h
    · have := Int.mul_neg_of_pos_of_neg (show (0 : Int) < (Int.gcd u d : Nat) by omega) h
      omega
    · rw [h, Int.mul_zero] at hb
      omega
    · exact h
  rw [e]
  refine ⟨Int.mul_pos hu bp, ⟨b, rfl⟩, ⟨a, ?_⟩⟩
  have : ((Int.gcd u d : Nat) : Int) * (u * b) = ((Int.gcd u d : Nat) : Int) * (d * a) := by
    calc ((Int.gcd u d : Nat) : Int) * (u * b) = u * (((Int.gcd u d : Nat) : Int) * b) := by rw [← Int.mul_assoc, Int.mul_comm _ u, Int.mul_assoc]
      _ = u * d := by rw [← hb]
      _ = d * u := Int.mul_comm ..
      _ = d * (((Int.gcd u d : Nat) : Int) * a) := by rw [← ha]
      _ = _ := by rw [← Int.mul_assoc, Int.mul_comm d, Int.mul_assoc]
  exact Int.eq_of_mul_eq_mul_left g0 this
theorem lcmF_ok : ∀ (rs : List FR) (u : Int), 0 < u → (∀ f ∈ rs, 0 < f.2) → 0 < lcmF u rs ∧ u ∣ lcmF u rs ∧ ∀ f ∈ rs, f.2 ∣ lcmF u rs
  | [], u, hu, _ => ⟨hu, ⟨1, (Int.mul_one u).symm⟩, fun _ h => nomatch h⟩
  | f :: r, u, hu, h => by
    have hf := h f List.mem_cons_self
    obtain ⟨h1, h2, h3⟩ := lcm_step hu hf
    obtain ⟨k1, k2, k3⟩ := lcmF_ok r _ h1 fun g hg => h g (List.mem_cons_of_mem _ hg)
    refine ⟨k1, Int.dvd_trans h2 k2, fun g hg => ?_⟩
    rcases List.mem_cons.mp hg with rfl | hg
    · exact Int.dvd_trans h3 k2
    · exact k3 g hg
theorem gcdF_gl (L : Int) : ∀ (rs : List FR) (g : Nat), gcdF L (g : Int) rs = (Nat.gcd g (gl (rs.map fun f => L.fdiv f.2 * f.1)) : Nat)
  | [], g => by
    show (g : Int) = (Nat.gcd g 0 : Nat)
    rw [Nat.gcd_zero_right]
  | f :: r, g => by
    show gcdF L (Int.gcd g (L.fdiv f.2 * f.1) : Nat) r = _
    rw [gcdF_gl L r]
    show ((Nat.gcd (Nat.gcd _ _) _ : Nat) : Int) = (Nat.gcd g (Nat.gcd _ _) : Nat)
    rw [Nat.gcd_assoc]
    rfl
theorem gl_dvd : ∀ (l : List Int) (m : Int), m ∈ l → (gl l : Int) ∣ m
  | a :: l, m, h => by
    have e1 : ((Nat.gcd a.natAbs (gl l) : Nat) : Int) ∣ a := Int.ofNat_dvd_left.mpr (Nat.gcd_dvd_left _ _)
    rcases List.mem_cons.mp h with rfl | h
    · exact e1
    · exact Int.dvd_trans (Int.natCast_dvd_natCast.mpr (Nat.gcd_dvd_right _ _)) (gl_dvd l m h)
/-- good rates -/
def RsOk (rs : List FR) : Prop := rs ≠ [] ∧ ∀ f ∈ rs, 0 < f.2 ∧ f.1 ≠ 0
theorem red_facts {rs : List FR} (h : RsOk rs) : ∃ L G : Int, 0 < L ∧ 0 < G ∧ lcmF 1 rs = L ∧ gcdF L 0 rs = G ∧ ∃ m : FR → Int, (∀ f ∈ rs, m f * G * f.2 = L * f.1) ∧ gl (rs.map m) = 1 := by
  obtain ⟨Lp, _, Ld⟩ := lcmF_ok rs 1 (by decide) fun f hf => (h.2 f hf).1
  have eG := gcdF_gl (lcmF 1 rs) rs 0
  rw [Nat.gcd_zero_left] at eG
  generalize lcmF 1 rs = L at Lp Ld eG ⊢
  have es : ∀ f ∈ rs, L.fdiv f.2 * f.1 * f.2 = L * f.1 ∧ L.fdiv f.2 * f.1 ≠ 0 := fun f hf => by
    obtain ⟨t, ht⟩ := Ld f hf
    have f0 : f.2 ≠ 0 := by have := (h.2 f hf).1; omega
    rw [ht, Int.mul_fdiv_cancel_left _ f0]
    refine ⟨by rw [Int.mul_comm f.2 t, Int.mul_right_comm], ?_⟩
    refine Int.mul_ne_zero (fun z => ?_) (h.2 f hf).2
    rw [z, Int.mul_zero] at ht
    omega
  have Gn : gl (rs.map fun f => L.fdiv f.2 * f.1) ≠ 0 := fun z => by
    obtain ⟨f, r, rfl⟩ : ∃ f r, rs = f :: r := by
      cases rs with
      | nil => exact absurd rfl h.1
      | cons f r => exact ⟨f, r, rfl⟩
    have := gl_dvd _ _ (List.mem_map_of_mem (f := fun f : FR => L.fdiv f.2 * f.1) (List.mem_cons_self (a := f) (l := r)))
    rw [z] at this
    exact (es f List.mem_cons_self).2 (Int.zero_dvd.mp this)
  refine ⟨L, gcdF L 0 rs, Lp, ?_, rfl, rfl, fun f => (L.fdiv f.2 * f.1).fdiv (gcdF L 0 rs), ?_, ?_⟩
  · rw [show gcdF L 0 rs = _ from eG]
    omega
  all_goals
    have eG : gcdF L 0 rs = _ := eG
    have dv : ∀ f ∈ rs, (L.fdiv f.2 * f.1).fdiv (gcdF L 0 rs) * gcdF L 0 rs = L.fdiv f.2 * f.1 := fun f hf => by
      have := gl_dvd _ _ (List.mem_map_of_mem (f := fun f : FR => L.fdiv f.2 * f.1) hf)
      rw [← eG] at this
      obtain ⟨t, ht⟩ := this
      rw [ht, Int.mul_fdiv_cancel_left _ (by rw [eG]; omega), Int.mul_comm]
  · intro f hf
    rw [dv f hf]
    exact (es f hf).1
  · have e2 := gl_mul (gcdF L 0 rs) (rs.map fun f => (L.fdiv f.2 * f.1).fdiv (gcdF L 0 rs))
    have cg : (rs.map fun f => (L.fdiv f.2 * f.1).fdiv (gcdF L 0 rs)).map (· * gcdF L 0 rs) = rs.map fun f => L.fdiv f.2 * f.1 := by
      rw [List.map_map]
      exact List.map_congr_left fun f hf => dv f hf
    rw [cg] at e2
    have e3 : (gcdF L 0 rs).natAbs = gl (rs.map fun f => L.fdiv f.2 * f.1) := by
      rw [eG]
      exact Int.natAbs_natCast _
    rw [e3] at e2
    have : 1 * gl (rs.map fun f => L.fdiv f.2 * f.1) = gl (rs.map fun f => (L.fdiv f.2 * f.1).fdiv (gcdF L 0 rs)) * gl (rs.map fun f => L.fdiv f.2 * f.1) := by rw [Nat.one_mul]; exact e2
    exact (Nat.eq_of_mul_eq_mul_right (by omega) this).symm
theorem cancel3 {k a b : Int} (hk : k ≠ 0) (h : k * a = k * b) : a = b := Int.eq_of_mul_eq_mul_left hk h
/-- a rate times the scale: a whole number -/
theorem redF_of {L G n d m : Int} (hL : 0 < L) (hG : 0 < G) (hd : 0 < d) (h : m * G * d = L * n) : redF (lowF L G) (n, d) = (m, 1) := by
  have e := lowT_self (u := L) (v := G) (by omega)
  have dp := lowD_pos (u := L) (v := G) (by omega)
  unfold redF lowF at *
  have := low_cross (u := n * lowT L G) (v := d * lowD L G) (u' := m) (v' := 1) (Int.mul_ne_zero (by omega) (by omega)) (by decide) ?_
  · unfold lowF at this
    rw [lowT_one, lowD_one] at this
    exact this
  · show n * lowT L G * 1 = m * (d * lowD L G)
    refine cancel3 (k := G) (by omega) ?_
    generalize lowT L G = a at *
    generalize lowD L G = b at *
    calc G * (n * a * 1) = n * (a * G) := by rw [Int.mul_one, Int.mul_comm G, Int.mul_assoc]
      _ = n * (L * b) := by rw [e]
      _ = L * n * b := by rw [← Int.mul_assoc, Int.mul_comm n L]
      _ = m * G * d * b := by rw [h]
      _ = G * (m * (d * b)) := by rw [Int.mul_comm m G, Int.mul_assoc, Int.mul_assoc]
theorem red_scaled {rs : List FR} (h : RsOk rs) {p q : Int} (hp : 0 < p) (hq : 0 < q) :
    RsOk (rs.map fun f => lowF (f.1 * p) (f.2 * q)) ∧ (∀ f ∈ rs, redF (scl (rs.map fun f => lowF (f.1 * p) (f.2 * q))) (lowF (f.1 * p) (f.2 * q)) = redF (scl rs) f) ∧
    ∀ b : FR, 0 < b.2 → redF (scl (rs.map fun f => lowF (f.1 * p) (f.2 * q))) (lowF (b.1 * p) (b.2 * q)) = redF (scl rs) b := by
  have fq : ∀ f ∈ rs, f.2 * q ≠ 0 := fun f hf => Int.mul_ne_zero (by have := (h.2 f hf).1; omega) (by omega)
  have h' : RsOk (rs.map fun f => lowF (f.1 * p) (f.2 * q)) := by
    refine ⟨fun z => h.1 (List.map_eq_nil_iff.mp z), fun g hg => ?_⟩
    obtain ⟨f, hf, rfl⟩ := List.mem_map.mp hg
    refine ⟨lowD_pos (fq f hf), fun z => ?_⟩
    have e := lowT_self (u := f.1 * p) (fq f hf)
    have z : lowT (f.1 * p) (f.2 * q) = 0 := z
    rw [z, Int.zero_mul] at e
    have dp := lowD_pos (u := f.1 * p) (fq f hf)
    exact (Int.mul_ne_zero (Int.mul_ne_zero (h.2 f hf).2 (by omega)) (by omega)) e.symm
  obtain ⟨L, G, Lp, Gp, eL, eG, m, hm, hg⟩ := red_facts h
  obtain ⟨L', G', Lp', Gp', eL', eG', m', hm', hg'⟩ := red_facts h'
  have es : scl rs = lowF L G := by unfold scl; rw [eL, eG]
  have es' : scl (rs.map fun f => lowF (f.1 * p) (f.2 * q)) = lowF L' G' := by unfold scl; rw [eL', eG']
  -- m' (G' q L) = m (L' p G)
  have key : ∀ f ∈ rs, m' (lowF (f.1 * p) (f.2 * q)) * (G' * q * L) = m f * (L' * p * G) := fun f hf => by
    have e1 := hm f hf
    have e2 := hm' _ (List.mem_map_of_mem (f := fun f : FR => lowF (f.1 * p) (f.2 * q)) hf)
    have e3 := lowT_self (u := f.1 * p) (fq f hf)
    have dp := lowD_pos (u := f.1 * p) (fq f hf)
    have fd := (h.2 f hf).1
    generalize m' (lowF (f.1 * p) (f.2 * q)) = M' at *
    change M' * G' * lowD (f.1 * p) (f.2 * q) = L' * lowT (f.1 * p) (f.2 * q) at e2
    generalize lowT (f.1 * p) (f.2 * q) = a at *
    generalize lowD (f.1 * p) (f.2 * q) = b at *
    generalize m f = M at *
    generalize f.1 = n at *
    generalize f.2 = d at *
    refine cancel3 (k := b * d) (Int.mul_ne_zero (by omega) (by omega)) ?_
    calc b * d * (M' * (G' * q * L)) = (M' * G' * b) * (d * q) * L := by ac_rfl
      _ = (L' * a) * (d * q) * L := by rw [e2]
      _ = L' * (a * (d * q)) * L := by ac_rfl
      _ = L' * (n * p * b) * L := by rw [e3]
      _ = L' * p * b * (L * n) := by ac_rfl
      _ = L' * p * b * (M * G * d) := by rw [e1]
      _ = b * d * (M * (L' * p * G)) := by ac_rfl
  have Bp : 0 < G' * q * L := Int.mul_pos (Int.mul_pos Gp' hq) Lp
  have Ap : 0 < L' * p * G := Int.mul_pos (Int.mul_pos Lp' hp) Gp
  have AB : G' * q * L = L' * p * G := by
    have g1 := gl_mul (G' * q * L) (rs.map fun f => m' (lowF (f.1 * p) (f.2 * q)))
    have g2 := gl_mul (L' * p * G) (rs.map m)
    have g3 : gl (rs.map fun f => m' (lowF (f.1 * p) (f.2 * q))) = 1 := by
      rw [List.map_map] at hg'
      exact hg'
    rw [g3, List.map_map, Nat.one_mul] at g1
    rw [hg, List.map_map, Nat.one_mul] at g2
    have g4 : rs.map ((· * (G' * q * L)) ∘ fun f => m' (lowF (f.1 * p) (f.2 * q))) = rs.map ((· * (L' * p * G)) ∘ m) := List.map_congr_left fun f hf => key f hf
    rw [g4, g2] at g1
    omega
  refine ⟨h', fun f hf => ?_, fun b hb => ?_⟩
  · have e := key f hf
    rw [AB] at e
    have e := Int.eq_of_mul_eq_mul_right (by omega) e
    rw [es, es', redF_of Lp Gp (h.2 f hf).1 (hm f hf), ← e]
    exact redF_of Lp' Gp' (lowD_pos (fq f hf)) (hm' _ (List.mem_map_of_mem (f := fun f : FR => lowF (f.1 * p) (f.2 * q)) hf))
  · rw [es, es']
    have bq : b.2 * q ≠ 0 := Int.mul_ne_zero (by omega) (by omega)
    have e3 := lowT_self (u := b.1 * p) bq
    have dp := lowD_pos (u := b.1 * p) bq
    have s1 := lowT_self (u := L) (v := G) (by omega)
    have s2 := lowT_self (u := L') (v := G') (by omega)
    have dp1 := lowD_pos (u := L) (v := G) (by omega)
    have dp2 := lowD_pos (u := L') (v := G') (by omega)
    unfold redF
    refine low_cross (Int.mul_ne_zero (show lowD (b.1 * p) (b.2 * q) ≠ 0 by omega) (show lowD L' G' ≠ 0 by omega)) (Int.mul_ne_zero (by omega) (show lowD L G ≠ 0 by omega)) ?_
    show lowT (b.1 * p) (b.2 * q) * lowT L' G' * (b.2 * lowD L G) = b.1 * lowT L G * (lowD (b.1 * p) (b.2 * q) * lowD L' G')
    generalize lowT (b.1 * p) (b.2 * q) = x at *
    generalize lowD (b.1 * p) (b.2 * q) = y at *
    generalize lowT L G = u at *
    generalize lowD L G = v at *
    generalize lowT L' G' = u' at *
    generalize lowD L' G' = v' at *
    refine cancel3 (k := q * G' * G) (Int.mul_ne_zero (Int.mul_ne_zero (by omega) (by omega)) (by omega)) ?_
    calc q * G' * G * (x * u' * (b.2 * v)) = (x * (b.2 * q)) * (u' * G') * (v * G) := by ac_rfl
      _ = (b.1 * p * y) * (L' * v') * (v * G) := by rw [e3, s2]
      _ = b.1 * y * v' * v * (L' * p * G) := by ac_rfl
      _ = b.1 * y * v' * v * (G' * q * L) := by rw [AB]
      _ = b.1 * (L * v) * y * v' * q * G' := by ac_rfl
      _ = b.1 * (u * G) * y * v' * q * G' := by rw [s1]
      _ = q * G' * G * (b.1 * u * (y * v')) := by ac_rfl
/-! ### sums of fractions -/
def addL (f g : FR) : FR := lowF (f.1 * g.2 + g.1 * f.2) (f.2 * g.2)
def subL (f g : FR) : FR := lowF (f.1 * g.2 - g.1 * f.2) (f.2 * g.2)
def mulL (f g : FR) : FR := lowF (f.1 * g.1) (f.2 * g.2)
def negF (f : FR) : FR := (-f.1, f.2)
def Nf (f : FR) : Prop := 0 < f.2 ∧ Int.gcd f.1 f.2 = 1
theorem nf_low {u v : Int} (h : v ≠ 0) : Nf (lowF u v) := ⟨lowD_pos h, low_gcd h⟩
theorem low_nf {f : FR} (h : Nf f) : lowF f.1 f.2 = f := by
  obtain ⟨a, b⟩ := low_one h.1 h.2
  unfold lowF
  rw [a, b]
theorem Nf.neg {f : FR} (h : Nf f) : Nf (negF f) := ⟨h.1, by show Int.gcd (-f.1) f.2 = 1; rw [Int.neg_gcd]; exact h.2⟩
theorem nf_01 : Nf (0, 1) := ⟨by decide, by decide⟩
theorem nf_11 : Nf (1, 1) := ⟨by decide, by decide⟩
theorem addL_nf {f g : FR} (hf : 0 < f.2) (hg : 0 < g.2) : Nf (addL f g) := nf_low (Int.mul_ne_zero (by omega) (by omega))
theorem subL_nf {f g : FR} (hf : 0 < f.2) (hg : 0 < g.2) : Nf (subL f g) := nf_low (Int.mul_ne_zero (by omega) (by omega))
theorem sub_add {a b c : FR} (ha : 0 < a.2) (hb : 0 < b.2) (hc : 0 < c.2) : addL (subL a b) (negF c) = subL a (addL b c) := by
  have v1 : a.2 * b.2 ≠ 0 := Int.mul_ne_zero (by omega) (by omega)
  have v2 : b.2 * c.2 ≠ 0 := Int.mul_ne_zero (by omega) (by omega)
  have e1 := lowT_self (u := a.1 * b.2 - b.1 * a.2) v1
  have e2 := lowT_self (u := b.1 * c.2 + c.1 * b.2) v2
  have p1 := lowD_pos (u := a.1 * b.2 - b.1 * a.2) v1
  have p2 := lowD_pos (u := b.1 * c.2 + c.1 * b.2) v2
  unfold addL subL negF
  unfold lowF at *
  dsimp only at *
  generalize lowT (a.1 * b.2 - b.1 * a.2) (a.2 * b.2) = t1 at *
  generalize lowD (a.1 * b.2 - b.1 * a.2) (a.2 * b.2) = d1 at *
  generalize lowT (b.1 * c.2 + c.1 * b.2) (b.2 * c.2) = t2 at *
  generalize lowD (b.1 * c.2 + c.1 * b.2) (b.2 * c.2) = d2 at *
  refine low_cross (Int.mul_ne_zero (by omega) (by omega)) (Int.mul_ne_zero (by omega) (by omega)) ?_
  refine Int.eq_of_mul_eq_mul_right (a := a.2 * b.2 * (b.2 * c.2)) (Int.mul_ne_zero v1 v2) ?_
  generalize a.1 = a1 at *
  generalize a.2 = a2 at *
  generalize b.1 = b1 at *
  generalize b.2 = b2 at *
  generalize c.1 = c1 at *
  generalize c.2 = c2 at *
  grind
theorem sub_zero {a : FR} (h : Nf a) : subL a (0, 1) = a := by
  unfold subL
  dsimp only
  rw [Int.mul_one, Int.zero_mul, Int.sub_zero, Int.mul_one]
  exact low_nf h
theorem lowF_neg {u v : Int} (h : v ≠ 0) : lowF (-u) v = negF (lowF u v) := by
  have n := (nf_low (u := u) h).neg
  rw [← low_nf n]
  have e := lowT_self (u := u) h
  have p := lowD_pos (u := u) h
  refine low_cross h (by show lowD u v ≠ 0; omega) ?_
  show -u * lowD u v = -lowT u v * v
  rw [Int.neg_mul, Int.neg_mul, e]
theorem sub_anti {a b : FR} (ha : 0 < a.2) (hb : 0 < b.2) : subL b a = negF (subL a b) := by
  unfold subL
  have v1 : a.2 * b.2 ≠ 0 := Int.mul_ne_zero (by omega) (by omega)
  rw [← lowF_neg v1, Int.mul_comm b.2 a.2]
  congr 1
  omega
theorem low_zero {u v : Int} (h : v ≠ 0) : (lowF u v).1 = 0 ↔ u = 0 := by
  have e := lowT_self (u := u) h
  have p := lowD_pos (u := u) h
  show lowT u v = 0 ↔ u = 0
  constructor
  · intro z
    rw [z, Int.zero_mul] at e
    rcases Int.mul_eq_zero.mp e.symm with y | y
    · exact y
    · omega
  · intro z
    subst z
    rw [Int.zero_mul] at e
    rcases Int.mul_eq_zero.mp e with y | y
    · exact y
    · exact absurd y h
theorem neg_neg {f : FR} : negF (negF f) = f := by
  unfold negF
  rw [Int.neg_neg]
/-- the rate of a name in a list of rates -/
abbrev It := List Nat × FR
def sumX (x : List Nat) (acc : FR) (l : List It) : FR := l.foldl (fun a it => if it.1 = x then addL a it.2 else a) acc
theorem sumX_nf (x : List Nat) : ∀ (l : List It) (acc : FR), Nf acc → (∀ it ∈ l, Nf it.2) → Nf (sumX x acc l)
  | [], _, h, _ => h
  | it :: l, acc, h, hl => by
    refine sumX_nf x l _ ?_ fun i hi => hl i (List.mem_cons_of_mem _ hi)
    show Nf (if it.1 = x then addL acc it.2 else acc)
    split
    · exact addL_nf h.1 (hl it List.mem_cons_self).1
    · exact h
theorem sumX_sub (x : List Nat) (a : FR) (ha : Nf a) : ∀ (l : List It) (b : FR), Nf b → (∀ it ∈ l, Nf it.2) → sumX x (subL a b) (l.map fun it => (it.1, negF it.2)) = subL a (sumX x b l)
  | [], _, _, _ => rfl
  | it :: l, b, hb, hl => by
    have h1 := hl it List.mem_cons_self
    have ih := fun b hb => sumX_sub x a ha l b hb fun i hi => hl i (List.mem_cons_of_mem _ hi)
    show sumX x (if it.1 = x then addL (subL a b) (negF it.2) else subL a b) _ = subL a (sumX x (if it.1 = x then addL b it.2 else b) l)
    split
    · rw [sub_add ha.1 hb.1 h1.1]
      exact ih _ (addL_nf hb.1 h1.1)
    · exact ih _ hb
theorem sumX_app (x : List Nat) (acc : FR) (l r : List It) : sumX x acc (l ++ r) = sumX x (sumX x acc l) r := List.foldl_append
theorem sumX_law (x : List Nat) {l r : List It} (hl : ∀ it ∈ l, Nf it.2) (hr : ∀ it ∈ r, Nf it.2) : sumX x (0, 1) (l ++ r.map fun it => (it.1, negF it.2)) = subL (sumX x (0, 1) l) (sumX x (0, 1) r) := by
  have h := sumX_nf x l (0, 1) nf_01 hl
  rw [sumX_app, ← sumX_sub x _ h r _ nf_01 hr, sub_zero h]
theorem sumX_none (x : List Nat) : ∀ (l : List It) (acc : FR), (∀ it ∈ l, it.1 ≠ x) → sumX x acc l = acc
  | [], _, _ => rfl
  | it :: l, acc, h => by
    show sumX x (if it.1 = x then _ else acc) l = acc
    rw [if_neg (h it List.mem_cons_self)]
    exact sumX_none x l acc fun i hi => h i (List.mem_cons_of_mem _ hi)
/-! ### sizes -/
def Bn (k : Nat) (f : FR) : Prop := f.1.natAbs < 2 ^ k ∧ f.2.natAbs < 2 ^ k
theorem Bn.mono {k j : Nat} {f : FR} (h : Bn k f) (l : k ≤ j) : Bn j f := ⟨Nat.lt_of_lt_of_le h.1 (Nat.pow_le_pow_right (by decide) l), Nat.lt_of_lt_of_le h.2 (Nat.pow_le_pow_right (by decide) l)⟩
theorem Bn.low {k : Nat} {u v : Int} (h : v ≠ 0) (h1 : u.natAbs < 2 ^ k) (h2 : v.natAbs < 2 ^ k) : Bn k (lowF u v) :=
  ⟨Nat.lt_of_le_of_lt (lowT_abs h) h1, Nat.lt_of_le_of_lt (lowD_abs h) h2⟩
theorem pow_mul_lt {k j a b : Nat} (h1 : a < 2 ^ k) (h2 : b < 2 ^ j) : a * b < 2 ^ (k + j) := by
  rw [Nat.pow_add]
  exact Nat.mul_lt_mul'' h1 h2
theorem Bn.add {k j : Nat} {f g : FR} (hf : Bn k f) (hg : Bn j g) (pf : 0 < f.2) (pg : 0 < g.2) : Bn (k + j + 1) (addL f g) := by
  refine Bn.low (Int.mul_ne_zero (by omega) (by omega)) ?_ ?_
  · have h1 : (f.1 * g.2).natAbs < 2 ^ (k + j) := by rw [Int.natAbs_mul]; exact pow_mul_lt hf.1 hg.2
    have h2 : (g.1 * f.2).natAbs < 2 ^ (k + j) := by rw [Int.natAbs_mul, Nat.mul_comm]; exact pow_mul_lt hf.2 hg.1
    have := Int.natAbs_add_le (f.1 * g.2) (g.1 * f.2)
    rw [Nat.pow_succ]
    omega
  · have h1 : (f.2 * g.2).natAbs < 2 ^ (k + j) := by rw [Int.natAbs_mul]; exact pow_mul_lt hf.2 hg.2
    rw [Nat.pow_succ]
    omega
theorem Bn.sub {k j : Nat} {f g : FR} (hf : Bn k f) (hg : Bn j g) (pf : 0 < f.2) (pg : 0 < g.2) : Bn (k + j + 1) (subL f g) := by
  refine Bn.low (Int.mul_ne_zero (by omega) (by omega)) ?_ ?_
  · have h1 : (f.1 * g.2).natAbs < 2 ^ (k + j) := by rw [Int.natAbs_mul]; exact pow_mul_lt hf.1 hg.2
    have h2 : (g.1 * f.2).natAbs < 2 ^ (k + j) := by rw [Int.natAbs_mul, Nat.mul_comm]; exact pow_mul_lt hf.2 hg.1
    have := Int.natAbs_sub_le (f.1 * g.2) (g.1 * f.2)
    rw [Nat.pow_succ]
    omega
  · have h1 : (f.2 * g.2).natAbs < 2 ^ (k + j) := by rw [Int.natAbs_mul]; exact pow_mul_lt hf.2 hg.2
    rw [Nat.pow_succ]
    omega
theorem Bn.mul {k j : Nat} {f g : FR} (hf : Bn k f) (hg : Bn j g) (pf : 0 < f.2) (pg : 0 < g.2) : Bn (k + j) (mulL f g) :=
  Bn.low (Int.mul_ne_zero (by omega) (by omega)) (by rw [Int.natAbs_mul]; exact pow_mul_lt hf.1 hg.1) (by rw [Int.natAbs_mul]; exact pow_mul_lt hf.2 hg.2)
theorem Bn.neg {k : Nat} {f : FR} (h : Bn k f) : Bn k (negF f) := ⟨by show (-f.1).natAbs < _; rw [Int.natAbs_neg]; exact h.1, h.2⟩
def bw (f : FR) : Nat := f.1.natAbs.log2 + f.2.natAbs.log2 + 1
theorem bw_bn (f : FR) : Bn (bw f) f := by
  have key : ∀ n : Nat, n < 2 ^ (n.log2 + 1) := fun n => Nat.lt_log2_self
  exact ⟨Nat.lt_of_lt_of_le (key _) (Nat.pow_le_pow_right (by decide) (by unfold bw; omega)), Nat.lt_of_lt_of_le (key _) (Nat.pow_le_pow_right (by decide) (by unfold bw; omega))⟩
def wIt (l : List It) : Nat := (l.map fun it => bw it.2 + 1).sum
theorem sumX_bn (x : List Nat) : ∀ (l : List It) (acc : FR) (k : Nat), Nf acc → Bn k acc → (∀ it ∈ l, Nf it.2) → Bn (k + wIt l) (sumX x acc l)
  | [], _, _, _, h, _ => h
  | it :: l, acc, k, hn, h, hl => by
    have h1 := hl it List.mem_cons_self
    have e : k + wIt (it :: l) = k + bw it.2 + 1 + wIt l := by
      unfold wIt
      rw [List.map_cons, List.sum_cons]
      omega
    rw [e]
    show Bn _ (sumX x (if it.1 = x then addL acc it.2 else acc) l)
    have hl' : ∀ i ∈ l, Nf i.2 := fun i hi => hl i (List.mem_cons_of_mem _ hi)
    split
    · exact sumX_bn x l _ _ (addL_nf hn.1 h1.1) (Bn.add h (bw_bn _) hn.1 h1.1) hl'
    · exact sumX_bn x l _ _ hn (h.mono (by omega)) hl'
theorem bn_01 : Bn 1 (0, 1) := ⟨by decide, by decide⟩
theorem log_bn {k : Nat} {z : Int} (h : z.natAbs < 2 ^ k) (hk : k ≤ 4096) : z.natAbs.log2 < 4096 ∨ z = 0 := by
  by_cases h0 : z.natAbs = 0
  · exact .inr (by omega)
  · exact .inl ((Nat.log2_lt h0).mpr (Nat.lt_of_lt_of_le h (Nat.pow_le_pow_right (by decide) hk)))
theorem log_lt {k : Nat} {n : Nat} (h : n < 2 ^ k) (hk : 0 < k) : n.log2 < k := by
  by_cases h0 : n = 0
  · rw [h0, Nat.log2_zero]
    exact hk
  · exact (Nat.log2_lt h0).mpr h
section
variable {P : Program} {w : World} {K : PySem.W.Frag} {mg : Str → Option Value} {base : Heap} {fa : Nat → Addr} {fd : Nat → FuncData}
/-! ### fractions, with numbers of any sort -/
theorem ok_p_ratio0 (T : Txt K mg fa fd) : FnOk P w K mg base CX0 3 (fa 11) (fd 11) ["top", "under"] spLow := by
  refine T.F_p_ratio.ok sc_p_ratio (fun vs H Q E h => ?_) (fun cdv A outer s H vs Q E hr h => ?_)
  · obtain ⟨x, y, rfl, _⟩ := h
    rfl
  · obtain ⟨u, v, rfl, ev, h9, q⟩ := h
    refine ⟨_, (pss_cons (ps_if (pt_cmpR op_eq (pv 1) pe_int (nomark _)) (pss_one ps_never) pss_nil)
      (pss_cons (ps_set (i := 2) sc_p_ratio.nd rfl (.inl rfl) (pe_call (ok_p_common_divisor T) (hr.mono (by decide)) (by rfl) T.g_p_common_divisor T.F_p_common_divisor.kp T.b_p_common_divisor .nil pass0 (pa_cons (pv 0) (pa_cons (pv 1) pa_nil))))
      (C8.pss_cut (ps_if (pt_cmpR op_lt (pv 1) pe_int (nomark _)) (pss_one (ps_set (i := 2) sc_p_ratio.nd rfl (.inl rfl) (pe_un un_neg (pv 2)))) pss_nil)
      (pss_one (ps_ret (pe_tup (pa_cons (pe_op op_fdivG (pv 0) (pv 2)) (pa_cons (pe_op op_fdivG (pv 1) (pv 2)) pa_nil)))))))), ?_⟩
    refine ⟨_, rfl, rfl, _, rfl, ite2 (fun e => absurd (V.int.inj (of_decide_eq_true e)) ev) (fun _ => ?_)⟩
    refine ⟨_, rfl, _, rfl, u, v, rfl, .inr h9, ?_⟩
    refine ⟨fun σ H1 => H1 = H ∧ σ = [some (.int u), some (.int v), some (.int (lowG u v))], ?_, fun σ H1 hM => ?_⟩
    · refine ⟨_, rfl, _, _, rfl, rfl, _, rfl, ite2 (fun e => ?_) (fun e => ?_)⟩
      · refine ⟨_, rfl, _, rfl, rfl, ?_⟩
        unfold lowG
        rw [if_pos (of_decide_eq_true e)]
        rfl
      · refine ⟨rfl, ?_⟩
        unfold lowG
        rw [if_neg (fun z => e (decide_eq_true z))]
        rfl
    · obtain ⟨rfl, rfl⟩ := hM
      have hG := lowG_ok (u := u) ev h9
      exact ⟨_, rfl, _, rfl, _, _, rfl, rfl, hG, _, rfl, _, rfl, _, _, rfl, rfl, hG, two_line, q⟩
theorem t0 {x y : V} : atI [x, y] 0 = some x := rfl
theorem t1 {x y : V} : atI [x, y] 1 = some y := rfl
abbrev FrK (K : PySem.W.Frag) (H : Hp) (p : Addr) (f : FR) : Prop := SqT K H p [.int f.1, .int f.2]
abbrev trF (f : FR) : HO := .tup [.int f.1, .int f.2]
theorem wide {k : Nat} {f g : FR} {x y : Int} (hk : k ≤ 2048) (h1 : x.natAbs < 2 ^ k) (h2 : y.natAbs < 2 ^ k) : CMulW x y := by
  have a := log_lt (n := x.natAbs) (k := 2048) (Nat.lt_of_lt_of_le h1 (Nat.pow_le_pow_right (by decide) hk)) (by decide)
  have b := log_lt (n := y.natAbs) (k := 2048) (Nat.lt_of_lt_of_le h2 (Nat.pow_le_pow_right (by decide) hk)) (by decide)
  show _ + _ < 1000000
  omega
theorem bd_bn {z : Int} {k : Nat} (h : z.natAbs < 2 ^ k) (hk : k ≤ 4096) : Bd z := log_lt (Nat.lt_of_lt_of_le h (Nat.pow_le_pow_right (by decide) hk)) (by decide)
theorem den9 {k : Nat} {x y : Int} (hk : k ≤ 2048) (h1 : x.natAbs < 2 ^ k) (h2 : y.natAbs < 2 ^ k) : (x * y).natAbs.log2 < 4096 := by
  rw [Int.natAbs_mul]
  exact log_lt (Nat.lt_of_lt_of_le (pow_mul_lt h1 h2) (Nat.pow_le_pow_right (by decide) (by omega))) (by decide)
def spBn (K : PySem.W.Frag) (G : FR → FR → FR) : Sp := fun vs H Q _ => ∃ (p q : Addr) (f g : FR), vs = [.ref p, .ref q] ∧ FrK K H p f ∧ FrK K H q g ∧ 0 < f.2 ∧ 0 < g.2 ∧ Bn 2048 f ∧ Bn 2048 g ∧ ∀ o, H o = none → Q (.ref o) (upd H o (trF (G f g)))
theorem ok_p_add (T : Txt K mg fa fd) : FnOk P w K mg base CX0 4 (fa 13) (fd 13) ["one", "other"] (spBn K addL) := by
  refine T.F_p_add.ok sc_p_add (fun vs H Q E h => ?_) (fun cdv A outer s H vs Q E hr h => ?_)
  · obtain ⟨p, q, f, g, rfl, _⟩ := h
    rfl
  · obtain ⟨p, r, f, g, rfl, hp, hr', pf, pg, sf, sg, q⟩ := h
    refine ⟨_, (pss_one (ps_ret (pe_call (ok_p_ratio0 T) (hr.mono (by decide)) (by rfl) T.g_p_ratio T.F_p_ratio.kp T.b_p_ratio .nil pass0 (pa_cons (pe_op op_add (pe_op op_mulW (pe_ix ix_tup (pv 0) pe_int (fun _ _ => rfl)) (pe_ix ix_tup (pv 1) pe_int (fun _ _ => rfl))) (pe_op op_mulW (pe_ix ix_tup (pv 1) pe_int (fun _ _ => rfl)) (pe_ix ix_tup (pv 0) pe_int (fun _ _ => rfl)))) (pa_cons (pe_op op_mulW (pe_ix ix_tup (pv 0) pe_int (fun _ _ => rfl)) (pe_ix ix_tup (pv 1) pe_int (fun _ _ => rfl))) pa_nil))))), ?_⟩
    exact ⟨_, rfl, p, _, _, _, rfl, rfl, hp, t0, _, rfl, r, _, _, _, rfl, rfl, hr', t1, _, _, rfl, rfl, wide (f := f) (g := g) (Nat.le_refl _) sf.1 sg.2,
      _, rfl, r, _, _, _, rfl, rfl, hr', t0, _, rfl, p, _, _, _, rfl, rfl, hp, t1, _, _, rfl, rfl, wide (f := f) (g := g) (Nat.le_refl _) sg.1 sf.2, _, _, rfl, rfl,
      _, rfl, p, _, _, _, rfl, rfl, hp, t1, _, rfl, r, _, _, _, rfl, rfl, hr', t1, _, _, rfl, rfl, wide (f := f) (g := g) (Nat.le_refl _) sf.2 sg.2, _, _, rfl, Int.mul_ne_zero (by omega) (by omega), den9 (Nat.le_refl _) sf.2 sg.2, q⟩
theorem ok_p_multiply (T : Txt K mg fa fd) : FnOk P w K mg base CX0 4 (fa 14) (fd 14) ["one", "other"] (spBn K mulL) := by
  refine T.F_p_multiply.ok sc_p_multiply (fun vs H Q E h => ?_) (fun cdv A outer s H vs Q E hr h => ?_)
  · obtain ⟨p, q, f, g, rfl, _⟩ := h
    rfl
  · obtain ⟨p, r, f, g, rfl, hp, hr', pf, pg, sf, sg, q⟩ := h
    refine ⟨_, (pss_one (ps_ret (pe_call (ok_p_ratio0 T) (hr.mono (by decide)) (by rfl) T.g_p_ratio T.F_p_ratio.kp T.b_p_ratio .nil pass0 (pa_cons (pe_op op_mulW (pe_ix ix_tup (pv 0) pe_int (fun _ _ => rfl)) (pe_ix ix_tup (pv 1) pe_int (fun _ _ => rfl))) (pa_cons (pe_op op_mulW (pe_ix ix_tup (pv 0) pe_int (fun _ _ => rfl)) (pe_ix ix_tup (pv 1) pe_int (fun _ _ => rfl))) pa_nil))))), ?_⟩
    exact ⟨_, rfl, p, _, _, _, rfl, rfl, hp, t0, _, rfl, r, _, _, _, rfl, rfl, hr', t0, _, _, rfl, rfl, wide (f := f) (g := g) (Nat.le_refl _) sf.1 sg.1,
      _, rfl, p, _, _, _, rfl, rfl, hp, t1, _, rfl, r, _, _, _, rfl, rfl, hr', t1, _, _, rfl, rfl, wide (f := f) (g := g) (Nat.le_refl _) sf.2 sg.2, _, _, rfl, Int.mul_ne_zero (by omega) (by omega), den9 (Nat.le_refl _) sf.2 sg.2, q⟩
theorem ok_plus (T : Txt K mg fa fd) : FnOk P w K mg base CX0 4 (fa 29) (fd 29) ["_law_one", "_law_two"] (spBn K addL) := by
  refine T.F_plus.ok sc_plus (fun vs H Q E h => ?_) (fun cdv A outer s H vs Q E hr h => ?_)
  · obtain ⟨p, q, f, g, rfl, _⟩ := h
    rfl
  · obtain ⟨p, r, f, g, rfl, hp, hr', pf, pg, sf, sg, q⟩ := h
    refine ⟨_, (pss_one (ps_ret (pe_call (ok_low T) (hr.mono (by decide)) (by rfl) T.g_low T.F_low.kp T.b_low .nil pass0 (pa_cons (pe_op op_add (pe_op op_mulW (pe_ix ix_tup (pv 0) pe_int (fun _ _ => rfl)) (pe_ix ix_tup (pv 1) pe_int (fun _ _ => rfl))) (pe_op op_mulW (pe_ix ix_tup (pv 1) pe_int (fun _ _ => rfl)) (pe_ix ix_tup (pv 0) pe_int (fun _ _ => rfl)))) (pa_cons (pe_op op_mulW (pe_ix ix_tup (pv 0) pe_int (fun _ _ => rfl)) (pe_ix ix_tup (pv 1) pe_int (fun _ _ => rfl))) pa_nil))))), ?_⟩
    exact ⟨_, rfl, p, _, _, _, rfl, rfl, hp, t0, _, rfl, r, _, _, _, rfl, rfl, hr', t1, _, _, rfl, rfl, wide (f := f) (g := g) (Nat.le_refl _) sf.1 sg.2,
      _, rfl, r, _, _, _, rfl, rfl, hr', t0, _, rfl, p, _, _, _, rfl, rfl, hp, t1, _, _, rfl, rfl, wide (f := f) (g := g) (Nat.le_refl _) sg.1 sf.2, _, _, rfl, rfl,
      _, rfl, p, _, _, _, rfl, rfl, hp, t1, _, rfl, r, _, _, _, rfl, rfl, hr', t1, _, _, rfl, rfl, wide (f := f) (g := g) (Nat.le_refl _) sf.2 sg.2, _, _, rfl, Int.mul_ne_zero (by omega) (by omega), den9 (Nat.le_refl _) sf.2 sg.2, q⟩
theorem ok_by (T : Txt K mg fa fd) : FnOk P w K mg base CX0 4 (fa 31) (fd 31) ["_law_one", "_law_two"] (spBn K mulL) := by
  refine T.F_by.ok sc_by (fun vs H Q E h => ?_) (fun cdv A outer s H vs Q E hr h => ?_)
  · obtain ⟨p, q, f, g, rfl, _⟩ := h
    rfl
  · obtain ⟨p, r, f, g, rfl, hp, hr', pf, pg, sf, sg, q⟩ := h
    refine ⟨_, (pss_one (ps_ret (pe_call (ok_low T) (hr.mono (by decide)) (by rfl) T.g_low T.F_low.kp T.b_low .nil pass0 (pa_cons (pe_op op_mulW (pe_ix ix_tup (pv 0) pe_int (fun _ _ => rfl)) (pe_ix ix_tup (pv 1) pe_int (fun _ _ => rfl))) (pa_cons (pe_op op_mulW (pe_ix ix_tup (pv 0) pe_int (fun _ _ => rfl)) (pe_ix ix_tup (pv 1) pe_int (fun _ _ => rfl))) pa_nil))))), ?_⟩
    exact ⟨_, rfl, p, _, _, _, rfl, rfl, hp, t0, _, rfl, r, _, _, _, rfl, rfl, hr', t0, _, _, rfl, rfl, wide (f := f) (g := g) (Nat.le_refl _) sf.1 sg.1,
      _, rfl, p, _, _, _, rfl, rfl, hp, t1, _, rfl, r, _, _, _, rfl, rfl, hr', t1, _, _, rfl, rfl, wide (f := f) (g := g) (Nat.le_refl _) sf.2 sg.2, _, _, rfl, Int.mul_ne_zero (by omega) (by omega), den9 (Nat.le_refl _) sf.2 sg.2, q⟩
def spNeg (K : PySem.W.Frag) : Sp := fun vs H Q _ => ∃ (p : Addr) (f : FR), vs = [.ref p] ∧ FrK K H p f ∧ ∀ o, H o = none → Q (.ref o) (upd H o (trF (negF f)))
theorem ok_minus (T : Txt K mg fa fd) : FnOk P w K mg base CX0 1 (fa 30) (fd 30) ["_law_one"] (spNeg K) := by
  refine T.F_minus.ok sc_minus (fun vs H Q E h => ?_) (fun cdv A outer s H vs Q E hr h => ?_)
  · obtain ⟨p, f, rfl, _⟩ := h
    rfl
  · obtain ⟨p, f, rfl, hp, q⟩ := h
    refine ⟨_, (pss_one (ps_ret (pe_tup (pa_cons (pe_un un_neg (pe_ix ix_tup (pv 0) pe_int (fun _ _ => rfl))) (pa_cons (pe_ix ix_tup (pv 0) pe_int (fun _ _ => rfl)) pa_nil))))), ?_⟩
    exact ⟨_, rfl, p, _, _, _, rfl, rfl, hp, t0, _, rfl, _, rfl, p, _, _, _, rfl, rfl, hp, t1, two_line, q⟩
def ltF (f g : FR) : Bool := decide (f.1 * g.2 < g.1 * f.2)
def spUnder (K : PySem.W.Frag) : Sp := fun vs H Q _ => ∃ (p q : Addr) (f g : FR), vs = [.ref p, .ref q] ∧ FrK K H p f ∧ FrK K H q g ∧ Bn 2048 f ∧ Bn 2048 g ∧ Q (.bl (ltF f g)) H
theorem ok_under (T : Txt K mg fa fd) : FnOk P w K mg base CX0 1 (fa 32) (fd 32) ["_law_one", "_law_two"] (spUnder K) := by
  refine T.F_under.ok sc_under (fun vs H Q E h => ?_) (fun cdv A outer s H vs Q E hr h => ?_)
  · obtain ⟨p, q, f, g, rfl, _⟩ := h
    rfl
  · obtain ⟨p, r, f, g, rfl, hp, hr', sf, sg, q⟩ := h
    exact ⟨_, (pss_one (ps_ret (pe_cmpR op_lt (pe_op op_mulW (pe_ix ix_tup (pv 0) pe_int (fun _ _ => rfl)) (pe_ix ix_tup (pv 1) pe_int (fun _ _ => rfl))) (pe_op op_mulW (pe_ix ix_tup (pv 1) pe_int (fun _ _ => rfl)) (pe_ix ix_tup (pv 0) pe_int (fun _ _ => rfl))) (nomark _)))), _, rfl, p, _, _, _, rfl, rfl, hp, t0, _, rfl, r, _, _, _, rfl, rfl, hr', t1, _, _, rfl, rfl, wide (f := f) (g := g) (Nat.le_refl _) sf.1 sg.2,
      _, rfl, r, _, _, _, rfl, rfl, hr', t0, _, rfl, p, _, _, _, rfl, rfl, hp, t1, _, _, rfl, rfl, wide (f := f) (g := g) (Nat.le_refl _) sg.1 sf.2, _, _, rfl, rfl, q⟩
theorem ok_p_is_less (T : Txt K mg fa fd) : FnOk P w K mg base CX0 1 (fa 15) (fd 15) ["one", "other"] (spUnder K) := by
  refine T.F_p_is_less.ok sc_p_is_less (fun vs H Q E h => ?_) (fun cdv A outer s H vs Q E hr h => ?_)
  · obtain ⟨p, q, f, g, rfl, _⟩ := h
    rfl
  · obtain ⟨p, r, f, g, rfl, hp, hr', sf, sg, q⟩ := h
    exact ⟨_, (pss_one (ps_ret (pe_cmpR op_lt (pe_op op_mulW (pe_ix ix_tup (pv 0) pe_int (fun _ _ => rfl)) (pe_ix ix_tup (pv 1) pe_int (fun _ _ => rfl))) (pe_op op_mulW (pe_ix ix_tup (pv 1) pe_int (fun _ _ => rfl)) (pe_ix ix_tup (pv 0) pe_int (fun _ _ => rfl))) (nomark _)))), _, rfl, p, _, _, _, rfl, rfl, hp, t0, _, rfl, r, _, _, _, rfl, rfl, hr', t1, _, _, rfl, rfl, wide (f := f) (g := g) (Nat.le_refl _) sf.1 sg.2,
      _, rfl, r, _, _, _, rfl, rfl, hr', t0, _, rfl, p, _, _, _, rfl, rfl, hp, t1, _, _, rfl, rfl, wide (f := f) (g := g) (Nat.le_refl _) sg.1 sf.2, _, _, rfl, rfl, q⟩
end
/-! ### dicts of rates -/
theorem nd_snoc8 {α : Type} {l : List α} {k : α} (h : l.Nodup) (n : ¬ k ∈ l) : (l ++ [k]).Nodup := by
  rw [List.nodup_append]
  refine ⟨h, by simp, fun a ha b hb e => ?_⟩
  rw [List.mem_singleton.mp hb] at e
  rw [e] at ha
  exact n ha
theorem valV_in8 : ∀ {kvs : List (Key × V)} {k : Key} {v : V}, valV kvs k = some v → k ∈ kvs.map (·.1)
  | [], k, v, h => by cases h
  | p :: r, k, v, h => by
    by_cases e : p.1 = k
    · rw [List.map_cons, e]
      exact List.mem_cons_self
    · rw [valV_neg e] at h
      exact List.mem_cons_of_mem _ (valV_in8 h)
def keyOf (x : List Nat) : Key := .inr (SX.S x)
theorem key_inj {x y : List Nat} (h : keyOf x = keyOf y) : x = y := S_inj (Sum.inr.inj h)
def addN (N : List (List Nat)) (x : List Nat) : List (List Nat) := if x ∈ N then N else N ++ [x]
def setV (val : List Nat → FR) (x : List Nat) (f : FR) : List Nat → FR := fun y => if y = x then f else val y
theorem addN_len (N : List (List Nat)) (x : List Nat) : (addN N x).length ≤ N.length + 1 := by
  unfold addN
  split
  · omega
  · rw [List.length_append]
    exact Nat.le_refl _
theorem mem_addN {N : List (List Nat)} {x y : List Nat} : y ∈ addN N x ↔ y ∈ N ∨ y = x := by
  unfold addN
  split
  · rename_i h
    exact ⟨.inl, fun z => z.elim id fun e => by rw [e]; exact h⟩
  · rw [List.mem_append, List.mem_singleton]
theorem addN_nodup {N : List (List Nat)} (h : N.Nodup) (x : List Nat) : (addN N x).Nodup := by
  unfold addN
  split
  · exact h
  · rename_i n
    exact nd_snoc8 h n
/-- a rate in a dict: nought, or a tuple that was made -/
def FrV (K : PySem.W.Frag) (H : Hp) (p : Addr) (f : FR) : Prop := FrK K H p f ∧ (f = (0, 1) ∨ H p = some (trF f))
def Tr (K : PySem.W.Frag) (H H' : Hp) : Prop := (∀ p xs, SqT K H p xs → SqT K H' p xs) ∧ ∀ p xs, H p = some (.tup xs) → H' p = some (.tup xs)
def RDk (K : PySem.W.Frag) (H : Hp) (kvs : List (Key × V)) (N : List (List Nat)) (val : List Nat → FR) : Prop :=
  kvs.map (·.1) = N.map keyOf ∧ N.Nodup ∧ ∀ x ∈ N, ∃ p, valV kvs (keyOf x) = some (.ref p) ∧ FrV K H p (val x)
def RD (K : PySem.W.Frag) (H : Hp) (d : Addr) (N : List (List Nat)) (val : List Nat → FR) : Prop := ∃ kvs, H d = some (.dK kvs) ∧ RDk K H kvs N val
theorem RDk.len {K : PySem.W.Frag} {H : Hp} {kvs : List (Key × V)} {N : List (List Nat)} {val : List Nat → FR} (h : RDk K H kvs N val) : kvs.length = N.length := by
  have := congrArg List.length h.1
  rw [List.length_map, List.length_map] at this
  exact this
theorem RDk.none {K : PySem.W.Frag} {H : Hp} {kvs : List (Key × V)} {N : List (List Nat)} {val : List Nat → FR} (h : RDk K H kvs N val) {x : List Nat} (n : x ∉ N) : valV kvs (keyOf x) = .none := by
  cases e : valV kvs (keyOf x) with
  | none => rfl
  | some v =>
    have m := valV_in8 e
    rw [h.1] at m
    obtain ⟨y, hy, ey⟩ := List.mem_map.mp m
    rw [key_inj ey] at hy
    exact absurd hy n
theorem RDk.mono {K : PySem.W.Frag} {H H' : Hp} {kvs : List (Key × V)} {N : List (List Nat)} {val : List Nat → FR} (h : RDk K H kvs N val) (t : Tr K H H') : RDk K H' kvs N val := by
  refine ⟨h.1, h.2.1, fun x hx => ?_⟩
  obtain ⟨p, e, f⟩ := h.2.2 x hx
  exact ⟨p, e, t.1 _ _ f.1, f.2.imp id (t.2 _ _)⟩
theorem put_keys (kvs : List (Key × V)) (k : Key) (v : V) : (putK kvs k v).map (·.1) = if (valV kvs k).isSome = true then kvs.map (·.1) else kvs.map (·.1) ++ [k] := by
  unfold putK
  rw [valV_any]
  split
  · rw [List.map_map]
    refine List.map_congr_left fun kv _ => ?_
    show (if kv.1 = k then (kv.1, v) else kv).1 = kv.1
    split <;> rfl
  · rw [List.map_append]
    rfl
theorem RDk.put {K : PySem.W.Frag} {H : Hp} {kvs : List (Key × V)} {N : List (List Nat)} {val : List Nat → FR} (h : RDk K H kvs N val) {x : List Nat} {o : Addr} {f : FR} (ho : H o = some (trF f)) : RDk K H (putK kvs (keyOf x) (.ref o)) (addN N x) (setV val x f) := by
  refine ⟨?_, addN_nodup h.2.1 x, fun y hy => ?_⟩
  · rw [put_keys, h.1]
    unfold addN
    by_cases m : x ∈ N
    · obtain ⟨p, e, _⟩ := h.2.2 x m
      rw [e, if_pos m]
      rfl
    · rw [h.none m, if_neg (by decide), if_neg m, List.map_append]
      rfl
  · rw [valV_put]
    by_cases e : y = x
    · subst e
      refine ⟨o, if_pos rfl, ?_⟩
      unfold setV
      rw [if_pos rfl]
      exact ⟨SqT.of ho, .inr ho⟩
    · have hy : y ∈ N := (mem_addN.mp hy).resolve_right e
      obtain ⟨p, e2, f2⟩ := h.2.2 y hy
      refine ⟨p, ?_, ?_⟩
      · rw [if_neg fun z => e (key_inj z)]
        exact e2
      · unfold setV
        rw [if_neg e]
        exact f2
theorem Tr.updD {K : PySem.W.Frag} {H : Hp} {d : Addr} {kvs ks : List (Key × V)} (hd : H d = some (.dK kvs)) : Tr K H (upd H d (.dK ks)) := ⟨fun p xs h => by
  rcases h with (h | ⟨o, h⟩) | h
  · refine .inl (.inl ?_)
    rw [upd_ne (fun e => by rw [e, hd] at h; cases h)]
    exact h
  · refine .inl (.inr ⟨o, ?_⟩)
    rw [upd_ne (fun e => by rw [e, hd] at h; cases h)]
    exact h
  · exact .inr h, fun p xs h => by
  rw [upd_ne (fun e => by rw [e, hd] at h; cases h)]
  exact h⟩
theorem SqT.sm {K : PySem.W.Frag} {H H' : Hp} (s : Same H H') : ∀ p xs, SqT K H p xs → SqT K H' p xs := fun p xs h => by
  rcases h with (h | ⟨o, h⟩) | h
  · exact .inl (.inl (s _ _ h))
  · exact .inl (.inr ⟨o, s _ _ h⟩)
  · exact .inr h
theorem Tr.sm {K : PySem.W.Frag} {H H' : Hp} (s : Same H H') : Tr K H H' := ⟨SqT.sm s, fun p _ h => s p _ h⟩
theorem RD.same {K : PySem.W.Frag} {H H' : Hp} {d : Addr} {N : List (List Nat)} {val : List Nat → FR} (h : RD K H d N val) (s : Same H H') : RD K H' d N val := by
  obtain ⟨kvs, e, h⟩ := h
  exact ⟨kvs, s _ _ e, h.mono (Tr.sm s)⟩
def keysL (l : List It) : List (List Nat) := l.foldl (fun N it => addN N it.1) [[]]
def valL (l : List It) : List Nat → FR := fun x => sumX x (0, 1) l
theorem keysL_snoc (l : List It) (it : It) : keysL (l ++ [it]) = addN (keysL l) it.1 := by
  unfold keysL
  rw [List.foldl_append]
  rfl
theorem valL_snoc (l : List It) (x : List Nat) (f : FR) : valL (l ++ [(x, f)]) = setV (valL l) x (addL (valL l x) f) := by
  funext y
  unfold valL setV
  rw [sumX_app]
  show (if x = y then addL (sumX y (0, 1) l) f else sumX y (0, 1) l) = _
  by_cases e : y = x
  · subst e
    rw [if_pos rfl]
  · rw [if_neg (fun z => e z.symm), if_neg e]
theorem foldN_mem {y : List Nat} : ∀ (l : List It) (N : List (List Nat)), y ∈ l.foldl (fun N it => addN N it.1) N ↔ y ∈ N ∨ ∃ it ∈ l, it.1 = y
  | [], N => by simp
  | it :: l, N => by
    show y ∈ l.foldl _ (addN N it.1) ↔ _
    rw [foldN_mem l, mem_addN]
    constructor
    · rintro ((h | h) | ⟨i, hi, e⟩)
      · exact .inl h
      · exact .inr ⟨it, List.mem_cons_self, h.symm⟩
      · exact .inr ⟨i, List.mem_cons_of_mem _ hi, e⟩
    · rintro (h | ⟨i, hi, e⟩)
      · exact .inl (.inl h)
      · rcases List.mem_cons.mp hi with rfl | hi
        · exact .inl (.inr e.symm)
        · exact .inr ⟨i, hi, e⟩
theorem valL_none {l : List It} {x : List Nat} (h : x ∉ keysL l) : valL l x = (0, 1) :=
  sumX_none x l _ fun it hit e => h ((foldN_mem l _).mpr (.inr ⟨it, hit, e⟩))
theorem foldN_len : ∀ (l : List It) (N : List (List Nat)), (l.foldl (fun N it => addN N it.1) N).length ≤ N.length + l.length
  | [], _ => Nat.le_refl _
  | it :: l, N => by
    have h := foldN_len l (addN N it.1)
    have := addN_len N it.1
    rw [List.length_cons]
    show (l.foldl _ (addN N it.1)).length ≤ _
    omega
theorem keysL_len (l : List It) : (keysL l).length ≤ l.length + 1 := by
  have := foldN_len l [[]]
  rw [List.length_singleton] at this
  show (keysL l).length ≤ _
  unfold keysL
  omega
/-! ### walks over the keys of a dict -/
theorem for_keys {d : Addr} {od : Obj} {kvs : List (Key × V)} {g : TG} {tb : TS} {D : Ends} {σ : L2.St} {H : Hp} (Pv : Nat → L2.St → Hp → Prop) (h0 : Pv 0 σ H) (hf : ∀ i σ H, Pv i σ H → H d = some (.frz od (.dK kvs)))
    (hs : ∀ i k v σ H, kvs[i]? = some (k, v) → Pv i σ H → g (kV k) σ H fun σ2 H2 => tb { nx := Pv (i + 1), rt := D.rt, bk := D.nx, ct := Pv (i + 1) } σ2 H2) (hd : ∀ σ H, Pv kvs.length σ H → D.nx σ H) :
    ∃ W : Nat → Nat → L2.St → Hp → Prop, (∃ m, W 0 m σ H) ∧ ∀ i m σ H, W i m σ H →
      ((Itk d od kvs).stop i H ∧ D.nx σ H) ∨ ((Itk d od kvs).go i H ∧ ∃ N : L2.St → Hp → Prop, (∀ σ' H', N σ' H' → ∃ m', m' < m ∧ W (i + 1) m' σ' H') ∧ ∀ x H', (Itk d od kvs).yld i H x H' → g x σ H' fun σ2 H2 => tb { nx := N, rt := D.rt, bk := D.nx, ct := N } σ2 H2) := by
  refine ⟨fun i m σ H => m = kvs.length - i ∧ i ≤ kvs.length ∧ Pv i σ H, ⟨_, rfl, Nat.zero_le _, h0⟩, ?_⟩
  rintro i m σ H ⟨rfl, hi, p⟩
  by_cases hlt : i < kvs.length
  · refine .inr ⟨⟨hf _ _ _ p, hlt⟩, Pv (i + 1), fun σ' H' p' => ⟨kvs.length - (i + 1), by omega, rfl, hlt, p'⟩, fun y H' q => ?_⟩
    obtain ⟨e, k, v, hc, ev⟩ := q
    subst e ev
    exact hs i k v _ _ hc p
  · have e : i = kvs.length := by omega
    subst e
    exact .inl ⟨⟨hf _ _ _ p, Nat.le_refl _⟩, hd _ _ p⟩
theorem lc_keys {d : Addr} {od : Obj} {kvs : List (Key × V)} {g : TG} {tt : L2.TT} {te : TE} {vs : List Nat} {σ : L2.St} {H1 : Hp} {D : Addr} {Qd : Hp → Prop} (Pv : Nat → Hp → Prop) (h0 : Pv 0 (upd H1 D (.lst []))) (hf : ∀ i H, Pv i H → H d = some (.frz od (.dK kvs)))
    (hs : ∀ i k v H, kvs[i]? = some (k, v) → Pv i H → g (kV k) (wipe σ vs) H fun σ2 H2 => wipe σ2 vs = wipe σ vs ∧ tt σ2 H2 fun b H3 =>
      if b = true then te σ2 H3 fun y H4 => ∃ acc, H4 D = some (.lst acc) ∧ acc.length < sizeLine ∧ Pv (i + 1) (upd H4 D (.lst (acc ++ [y]))) else Pv (i + 1) H3) (hd : ∀ H, Pv kvs.length H → Qd H) :
    ∃ W : Nat → Nat → Hp → Prop, (∃ m, W 0 m (upd H1 D (.lst []))) ∧ ∀ i m H, W i m H →
      ((Itk d od kvs).stop i H ∧ Qd H) ∨ ((Itk d od kvs).go i H ∧ ∃ Nx : Hp → Prop, (∀ H', Nx H' → ∃ m', m' < m ∧ W (i + 1) m' H') ∧ ∀ y H', (Itk d od kvs).yld i H y H' → g y (wipe σ vs) H' fun σ2 H2 => wipe σ2 vs = wipe σ vs ∧ tt σ2 H2 fun b H3 =>
        if b = true then te σ2 H3 fun y H4 => ∃ acc, H4 D = some (.lst acc) ∧ acc.length < sizeLine ∧ Nx (upd H4 D (.lst (acc ++ [y]))) else Nx H3) := by
  refine ⟨fun i m H => m = kvs.length - i ∧ i ≤ kvs.length ∧ Pv i H, ⟨_, rfl, Nat.zero_le _, h0⟩, ?_⟩
  rintro i m H ⟨rfl, hi, p⟩
  by_cases hlt : i < kvs.length
  · refine .inr ⟨⟨hf _ _ p, hlt⟩, Pv (i + 1), fun H' p' => ⟨kvs.length - (i + 1), by omega, rfl, hlt, p'⟩, fun y H' q => ?_⟩
    obtain ⟨e, k, v, hc, ev⟩ := q
    subst e ev
    exact hs i k v _ hc p
  · have e : i = kvs.length := by omega
    subst e
    exact .inl ⟨⟨hf _ _ p, Nat.le_refl _⟩, hd _ p⟩
/-- all but what stands at b -/
def Ex (b : Addr) (H G : Hp) : Prop := ∀ c o, H c = some o → c ≠ b → G c = some o
theorem Ex.sqt {K : PySem.W.Frag} {H G : Hp} {b : Addr} {kvs : List (Key × V)} (h : Ex b H G) (hb : H b = some (.dK kvs)) : Tr K H G := ⟨fun p xs q => by
  rcases q with (q | ⟨o, q⟩) | q
  · exact .inl (.inl (h _ _ q fun e => by rw [e, hb] at q; cases q))
  · exact .inl (.inr ⟨o, h _ _ q fun e => by rw [e, hb] at q; cases q⟩)
  · exact .inr q, fun p xs q => h _ _ q fun e => by rw [e, hb] at q; cases q⟩
theorem Ex.same {H G G' : Hp} {b : Addr} (h : Ex b H G) (s : Same G G') : Ex b H G' := fun c o e n => s _ _ (h c o e n)
theorem Ex.back {H G : Hp} {b : Addr} {u : HO} (h : Ex b H G) (hb : H b = some u) : Same H (upd G b u) := fun c o e => by
  by_cases n : c = b
  · subst n
    rw [hb] at e
    cases e
    exact upd_same
  · rw [upd_ne n]
    exact h c o e n
theorem Ex.upd {H G : Hp} {b d : Addr} {u : HO} (h : Ex b H G) (nd : H d = none) : Ex b H (upd G d u) := fun c o e n => by
  rw [upd_ne (ne_of_none e nd)]
  exact h c o e n
theorem keys_at {kvs : List (Key × V)} {N : List (List Nat)} (h : kvs.map (·.1) = N.map keyOf) {i : Nat} {k : Key} {v : V} (e : kvs[i]? = some (k, v)) : ∃ x, N[i]? = some x ∧ k = keyOf x := by
  have e1 : (kvs.map (·.1))[i]? = some k := by rw [List.getElem?_map, e]; rfl
  rw [h, List.getElem?_map] at e1
  obtain ⟨x, hx, ex⟩ := Option.map_eq_some_iff.mp e1
  exact ⟨x, hx, ex.symm⟩
theorem not_take {N : List (List Nat)} (h : N.Nodup) {i : Nat} {x : List Nat} (e : N[i]? = some x) : x ∉ N.take i := fun m => by
  obtain ⟨j, ej⟩ := List.mem_iff_getElem?.mp m
  have hj := (List.getElem?_eq_some_iff.mp ej).1
  rw [List.length_take] at hj
  rw [List.getElem?_take_of_lt (by omega)] at ej
  obtain ⟨hi, ei⟩ := List.getElem?_eq_some_iff.mp e
  obtain ⟨hj2, ej2⟩ := List.getElem?_eq_some_iff.mp ej
  exact (List.pairwise_iff_getElem.mp h) j i hj2 hi (by omega) (by rw [ei, ej2])
/-! ### a dict comprehension over the keys of a dict -/
theorem dc_keys {d : Addr} {od : Obj} {kvs : List (Key × V)} {g : TG} {tt : L2.TT} {tk tv : TE} {vs : List Nat} {σ : L2.St} {H1 : Hp} {D : Addr} {Qd : Hp → Prop} (Pv : Nat → Hp → Prop) (h0 : Pv 0 (upd H1 D (.dK []))) (hf : ∀ i H, Pv i H → H d = some (.frz od (.dK kvs)))
    (hs : ∀ i k v H, kvs[i]? = some (k, v) → Pv i H → g (kV k) (wipe σ vs) H fun σ2 H2 => wipe σ2 vs = wipe σ vs ∧ tt σ2 H2 fun b H3 =>
      if b = true then tk σ2 H3 fun y H4 => tv σ2 H4 fun z H5 => ∃ ks k, y = kV k ∧ H5 D = some (.dK ks) ∧ ks.length < sizeLine ∧ Pv (i + 1) (upd H5 D (.dK (putK ks k z))) else Pv (i + 1) H3) (hd : ∀ H, Pv kvs.length H → Qd H) :
    ∃ W : Nat → Nat → Hp → Prop, (∃ m, W 0 m (upd H1 D (.dK []))) ∧ ∀ i m H, W i m H →
      ((Itk d od kvs).stop i H ∧ Qd H) ∨ ((Itk d od kvs).go i H ∧ ∃ Nx : Hp → Prop, (∀ H', Nx H' → ∃ m', m' < m ∧ W (i + 1) m' H') ∧ ∀ y H', (Itk d od kvs).yld i H y H' → g y (wipe σ vs) H' fun σ2 H2 => wipe σ2 vs = wipe σ vs ∧ tt σ2 H2 fun b H3 =>
        if b = true then tk σ2 H3 fun y H4 => tv σ2 H4 fun z H5 => ∃ ks k, y = kV k ∧ H5 D = some (.dK ks) ∧ ks.length < sizeLine ∧ Nx (upd H5 D (.dK (putK ks k z))) else Nx H3) := by
  refine ⟨fun i m H => m = kvs.length - i ∧ i ≤ kvs.length ∧ Pv i H, ⟨_, rfl, Nat.zero_le _, h0⟩, ?_⟩
  rintro i m H ⟨rfl, hi, p⟩
  by_cases hlt : i < kvs.length
  · refine .inr ⟨⟨hf _ _ p, hlt⟩, Pv (i + 1), fun H' p' => ⟨kvs.length - (i + 1), by omega, rfl, hlt, p'⟩, fun y H' q => ?_⟩
    obtain ⟨e, k, v, hc, ev⟩ := q
    subst e ev
    exact hs i k v _ hc p
  · have e : i = kvs.length := by omega
    subst e
    exact .inl ⟨⟨hf _ _ p, Nat.le_refl _⟩, hd _ p⟩
theorem op_neDK {X : Cx} {K : PySem.W.Frag} (h : X.K = K) (hu : X.A.units + 64 < cLine) : OpR X (compareOp .NotEq) (rNeD K) := h ▸ op_neD hu
/-! ### the sum of ties -/
abbrev frP (f : FR) : PyData := .tuple [.int f.1, .int f.2]
abbrev tmP (t : List Nat × FR) : PyData := .tuple [.str (SX.S t.1), frP t.2]
abbrev tieP (tl : List (List Nat × FR)) (b : FR) : PyData := .tuple [.tuple (tl.map tmP), frP b]
abbrev Tie := List It × FR
abbrev Sh := Nat × FR
def tieDt (t : Tie) : PyData := tieP t.1 t.2
def papD (e : Sh) : PyData := .tuple [.int (e.1 : Nat), frP e.2]
/-- what a share of a tie brings -/
def itsOf (ties : List Tie) (e : Sh) : List It := match ties[e.1]? with
  | some t => t.1.map fun u => (u.1, mulL u.2 e.2)
  | none => []
def bndOf (ties : List Tie) (e : Sh) : FR := match ties[e.1]? with
  | some t => mulL t.2 e.2
  | none => (0, 1)
def sumIt (ties : List Tie) (pap : List Sh) : List It := pap.flatMap (itsOf ties)
def sumB (ties : List Tie) (pap : List Sh) : List It := pap.map fun e => (([] : List Nat), bndOf ties e)
def lawK (l : List It) : List (List Nat) := l.foldl (fun N it => addN N it.1) []
theorem lawK_snoc (l : List It) (it : It) : lawK (l ++ [it]) = addN (lawK l) it.1 := by
  unfold lawK
  rw [List.foldl_append]
  rfl
theorem lawK_mem {y : List Nat} (l : List It) : y ∈ lawK l ↔ ∃ it ∈ l, it.1 = y := by
  unfold lawK
  rw [foldN_mem]
  exact ⟨fun h => h.resolve_left (fun z => by cases z), .inr⟩
theorem lawK_len (l : List It) : (lawK l).length ≤ l.length := by
  have := foldN_len l []
  unfold lawK
  rw [List.length_nil] at this
  omega
theorem lawV_none {l : List It} {x : List Nat} (h : x ∉ lawK l) : valL l x = (0, 1) :=
  sumX_none x l _ fun it hit e => h ((lawK_mem l).mpr ⟨it, hit, e⟩)
/-- ties and a paper whose sum can be worked out -/
structure SumOk (ties : List Tie) (pap : List Sh) : Prop where
  at_ : ∀ e ∈ pap, e.1 < ties.length
  nf : ∀ e ∈ pap, Nf e.2 ∧ Bn 1000 e.2
  tl : ∀ t ∈ ties, (∀ u ∈ t.1, Nf u.2 ∧ Bn 1000 u.2) ∧ Nf t.2 ∧ Bn 1000 t.2 ∧ t.1.length ≤ 2
  w : wIt (sumIt ties pap) ≤ 1900
  wb : wIt (sumB ties pap) ≤ 1900
  ln : pap.length ≤ 100
theorem dt_fr {z : Addr} {H : Hp} {v : V} {f : FR} (h : Dt z H v (frP f)) : ∃ p, v = .ref p ∧ H p = some (.tup [.int f.1, .int f.2]) := by
  match v, h with
  | _, .tup hp (.cons (.int _ _) (.cons (.int _ _) .nil)) => exact ⟨_, rfl, hp⟩
theorem mul_nf {f g : FR} (hf : Nf f) (hg : Nf g) : Nf (mulL f g) := nf_low (Int.mul_ne_zero (by have := hf.1; omega) (by have := hg.1; omega))
theorem wIt_app (a b : List It) : wIt (a ++ b) = wIt a + wIt b := by
  unfold wIt
  rw [List.map_append, List.sum_append]
theorem Bn.bw {f : FR} : Bn (bw f) f := bw_bn f
theorem wIt_sub {l m : List It} (h : l.Sublist m) : wIt l ≤ wIt m := by
  induction h with
  | slnil => exact Nat.le_refl _
  | cons a _ ih =>
    have : ∀ (a : It) (l : List It), wIt (a :: l) = bw a.2 + 1 + wIt l := fun a l => by
      unfold wIt
      rw [List.map_cons, List.sum_cons]
    rw [this]
    omega
  | cons_cons a _ ih =>
    have : ∀ (a : It) (l : List It), wIt (a :: l) = bw a.2 + 1 + wIt l := fun a l => by
      unfold wIt
      rw [List.map_cons, List.sum_cons]
    rw [this, this]
    omega
theorem sumIt_step {ties : List Tie} {pap : List Sh} {i : Nat} {e : Sh} (h : pap[i]? = some e) : sumIt ties (pap.take (i + 1)) = sumIt ties (pap.take i) ++ itsOf ties e := by
  unfold sumIt
  rw [List.take_add_one, h, List.flatMap_append]
  show _ ++ List.flatMap (itsOf ties) [e] = _
  rw [List.flatMap_cons, List.flatMap_nil, List.append_nil]
theorem sumB_step {ties : List Tie} {pap : List Sh} {i : Nat} {e : Sh} (h : pap[i]? = some e) : sumB ties (pap.take (i + 1)) = sumB ties (pap.take i) ++ [([], bndOf ties e)] := by
  unfold sumB
  rw [List.take_add_one, h, List.map_append]
  rfl
theorem sumIt_sub (ties : List Tie) (pap : List Sh) (i : Nat) : (sumIt ties (pap.take i)).Sublist (sumIt ties pap) := by
  conv => rhs; rw [← List.take_append_drop i pap]
  unfold sumIt
  rw [List.flatMap_append]
  exact List.sublist_append_left _ _
theorem sumB_sub (ties : List Tie) (pap : List Sh) (i : Nat) : (sumB ties (pap.take i)).Sublist (sumB ties pap) := by
  conv => rhs; rw [← List.take_append_drop i pap]
  unfold sumB
  rw [List.map_append]
  exact List.sublist_append_left _ _
theorem its_nf {ties : List Tie} {pap : List Sh} (ok : SumOk ties pap) : (∀ it ∈ sumIt ties pap, Nf it.2) ∧ ∀ it ∈ sumB ties pap, Nf it.2 := by
  constructor
  · intro it hit
    obtain ⟨e, he, hit⟩ := List.mem_flatMap.mp hit
    unfold itsOf at hit
    split at hit
    · rename_i t ht
      obtain ⟨u, hu, rfl⟩ := List.mem_map.mp hit
      exact mul_nf ((ok.tl t (List.mem_of_getElem? ht)).1 u hu).1 (ok.nf e he).1
    · cases hit
  · intro it hit
    obtain ⟨e, he, rfl⟩ := List.mem_map.mp hit
    unfold bndOf
    split
    · rename_i t ht
      exact mul_nf (ok.tl t (List.mem_of_getElem? ht)).2.1 (ok.nf e he).1
    · exact nf_01
theorem bw_in {l : List It} {it : It} (h : it ∈ l) : bw it.2 + 1 ≤ wIt l := by
  have := wIt_sub (List.singleton_sublist.mpr h)
  have e : wIt [it] = bw it.2 + 1 := by
    unfold wIt
    rw [List.map_cons, List.sum_cons]
    rfl
  omega
def nzV (val : List Nat → FR) (x : List Nat) : Bool := decide (val x ≠ (0, 1))
def fK (val : List Nat → FR) (e : Key × V) : Bool := match e.1 with
  | .inr s => nzV val s.cps.toList
  | .inl _ => false
theorem fK_key (val : List Nat → FR) (x : List Nat) (v : V) : fK val (keyOf x, v) = nzV val x := by
  show nzV val (SX.S x).cps.toList = _
  rw [S_list]
theorem valV_filter {f : Key × V → Bool} {k : Key} (hf : ∀ v, f (k, v) = true) : ∀ kvs : List (Key × V), valV (kvs.filter f) k = valV kvs k
  | [] => rfl
  | (k', v) :: r => by
    have ih := valV_filter hf r
    rw [List.filter_cons]
    by_cases e : k' = k
    · subst e
      rw [if_pos (hf v), valV_pos rfl, valV_pos rfl]
    · rw [valV_neg (p := (k', v)) e]
      split
      · rw [valV_neg (p := (k', v)) e]
        exact ih
      · exact ih
theorem RDk.filter {K : PySem.W.Frag} {H : Hp} {kvs : List (Key × V)} {N : List (List Nat)} {val : List Nat → FR} (h : RDk K H kvs N val) : RDk K H (kvs.filter (fK val)) (N.filter (nzV val)) val := by
  refine ⟨?_, h.2.1.filter _, fun x hx => ?_⟩
  · have e : ∀ (kvs : List (Key × V)) (N : List (List Nat)), kvs.map (·.1) = N.map keyOf → (kvs.filter (fK val)).map (·.1) = (N.filter (nzV val)).map keyOf := fun kvs => by
      induction kvs with
      | nil =>
        intro N e
        cases N with
        | nil => rfl
        | cons x N => cases e
      | cons p r ih =>
        intro N e
        cases N with
        | nil => cases e
        | cons x N =>
          rw [List.map_cons, List.map_cons] at e
          injection e with e1 e2
          obtain ⟨k, v⟩ := p
          have e1 : k = keyOf x := e1
          subst e1
          rw [List.filter_cons, List.filter_cons, fK_key]
          split
          · rw [List.map_cons, List.map_cons, ih N e2]
          · exact ih N e2
    exact e kvs N h.1
  · obtain ⟨h1, h2⟩ := List.mem_filter.mp hx
    obtain ⟨p, e, f⟩ := h.2.2 x h1
    exact ⟨p, by rw [valV_filter (fun v => by rw [fK_key]; exact h2)]; exact e, f⟩
theorem eqv_pair (a b c d : Int) : PyData.eqv (.tuple [.int a, .int b]) (.tuple [.int c, .int d]) = decide ((a, b) = (c, d)) := by
  show ((a == c) && ((b == d) && true)) = _
  rw [Bool.and_true, Bool.eq_iff_iff, Bool.and_eq_true, beq_iff_eq, beq_iff_eq, decide_eq_true_eq, Prod.mk.injEq]
/-! ### data behind locked tuples; lists and tuples alike -/
def MH (H : Hp) : Hp := fun a => match H a with
  | some (.frz _ (.tup xs)) => some (.tup xs)
  | o => o
theorem mh_rd {H : Hp} {a : Addr} {xs : List V} (h : MH H a = some (.tup xs)) : Rd H a (.tup xs) := by
  unfold MH at h
  split at h
  · rename_i o ys e
    cases h
    exact .inr ⟨o, e⟩
  · exact .inl h
theorem mh_of {H : Hp} {a : Addr} {o : HO} (h : H a = some o) (n : ∀ o' xs, o ≠ .frz o' (.tup xs)) : MH H a = some o := by
  unfold MH
  rw [h]
  split
  · rename_i o' ys e
    cases e
    exact absurd rfl (n _ _)
  · rfl
theorem mh_frz {H : Hp} {a : Addr} {o : Obj} {xs : List V} (h : H a = some (.frz o (.tup xs))) : MH H a = some (.tup xs) := by
  unfold MH
  rw [h]
theorem mh_same {H H' : Hp} (s : Same H H') : Same (MH H) (MH H') := fun a o e => by
  cases h : H a with
  | none =>
    unfold MH at e
    rw [h] at e
    cases e
  | some u =>
    have h' := s a u h
    unfold MH at e ⊢
    rw [h] at e
    rw [h']
    exact e
theorem mh_sq {K : PySem.W.Frag} {H : Hp} {a : Addr} {xs : List V} (h : MH H a = some (.tup xs)) : SqT K H a xs := .inl (mh_rd h)
def SqX (K : PySem.W.Frag) (H : Hp) (a : Addr) (xs : List V) : Prop := SqL K H a xs ∨ SqT K H a xs
theorem SqL.sm {K : PySem.W.Frag} {H H' : Hp} {p : Addr} {xs : List V} (s : Same H H') (h : SqL K H p xs) : SqL K H' p xs := by
  rcases h with (q | ⟨o, q⟩) | q
  · exact .inl (.inl (s _ _ q))
  · exact .inl (.inr ⟨o, s _ _ q⟩)
  · exact .inr q
theorem SqX.sm {K : PySem.W.Frag} {H H' : Hp} {p : Addr} {xs : List V} (s : Same H H') (h : SqX K H p xs) : SqX K H' p xs := h.imp (SqL.sm s) (SqT.sm s _ _)
def iSeq (K : PySem.W.Frag) (tl : TE) : TI := fun σ H R => tl σ H fun x H1 => ∃ a, x = .ref a ∧ (((∃ xs, SqL K H1 a xs) ∧ R (Itl K a) H1) ∨ ((∃ xs, SqT K H1 a xs) ∧ R (Itt K a) H1))
theorem pi_seqX {X : Cx} {tg l : Expr} {tl : TE} (hl : PE X l tl) : PI X tg l (iSeq X.K tl) := by
  refine ⟨fun pins s σ H R I h => ?_⟩
  refine thn (hl.run pins s σ H _ I h) fun v s1 ⟨x, H1, I1, r1, q1⟩ => ?_
  obtain ⟨a, e, q⟩ := q1
  subst e
  cases r1
  rcases q with ⟨⟨xs, hq⟩, q⟩ | ⟨⟨xs, hq⟩, q⟩
  · obtain ⟨its, rv, p, hz⟩ := I1.list hq
    refine wpAny_pyIter_list p.isList ?_
    refine ⟨s1.heap.objs.size, [s1.heap.objs.size], _, _, H1, rfl, I1.kept (t' := s1.toks) fun b o e => Heap.get?_push_of_some _ e, turn_list a _, ⟨_, Heap.get?_push_size _ rfl, rfl, rfl⟩, fun b hb => ?_, q⟩
    have e : b = s1.heap.objs.size := by simpa using hb
    subst e
    exact I1.fpOk (Nat.le_refl _) (I1.hok.fresh (Nat.le_refl _))
  · obtain ⟨its, rv, p, hz⟩ := I1.tuple hq
    refine wpAny_pyIter_tuple (show s1.heap.IsTuple a its.toArray from p) ?_
    refine ⟨s1.heap.objs.size, [s1.heap.objs.size], _, _, H1, rfl, I1.kept (t' := s1.toks) fun b o e => Heap.get?_push_of_some _ e, turn_tuple a _, ⟨_, Heap.get?_push_size _ rfl, rfl, rfl⟩, fun b hb => ?_, q⟩
    have e : b = s1.heap.objs.size := by simpa using hb
    subst e
    exact I1.fpOk (Nat.le_refl _) (I1.hok.fresh (Nat.le_refl _))
theorem for_seqX {K : PySem.W.Frag} {a : Addr} {xs : List V} {g : TG} {tb : TS} {D : Ends} {σ : L2.St} {H0 H : Hp} (hx : SqX K H0 a xs) (Pv : Nat → L2.St → Hp → Prop) (h0 : Pv 0 σ H) (hl : ∀ i σ H', Pv i σ H' → Same H0 H')
    (hs : ∀ i x σ H, xs[i]? = some x → Pv i σ H → g x σ H fun σ2 H2 => tb { D with nx := Pv (i + 1), ct := Pv (i + 1), bk := D.nx } σ2 H2) (hd : ∀ σ H, Pv xs.length σ H → D.nx σ H) :
    ((∃ ys, SqL K H a ys) ∧ ∃ W : Nat → Nat → L2.St → Hp → Prop, (∃ m, W 0 m σ H) ∧ ∀ i m σ H, W i m σ H →
      ((Itl K a).stop i H ∧ D.nx σ H) ∨ ((Itl K a).go i H ∧ ∃ N : L2.St → Hp → Prop, (∀ σ' H', N σ' H' → ∃ m', m' < m ∧ W (i + 1) m' σ' H') ∧ ∀ x H', (Itl K a).yld i H x H' → g x σ H' fun σ2 H2 => tb { D with nx := N, ct := N, bk := D.nx } σ2 H2)) ∨
    ((∃ ys, SqT K H a ys) ∧ ∃ W : Nat → Nat → L2.St → Hp → Prop, (∃ m, W 0 m σ H) ∧ ∀ i m σ H, W i m σ H →
      ((Itt K a).stop i H ∧ D.nx σ H) ∨ ((Itt K a).go i H ∧ ∃ N : L2.St → Hp → Prop, (∀ σ' H', N σ' H' → ∃ m', m' < m ∧ W (i + 1) m' σ' H') ∧ ∀ x H', (Itt K a).yld i H x H' → g x σ H' fun σ2 H2 => tb { D with nx := N, ct := N, bk := D.nx } σ2 H2)) := by
  rcases hx with l | t
  · exact .inl ⟨⟨_, SqL.sm (hl 0 σ H h0) l⟩, for_list Pv h0 (fun i σ H' _ p => SqL.sm (hl i σ H' p) l) hs hd⟩
  · exact .inr ⟨⟨_, SqT.sm (hl 0 σ H h0) _ _ t⟩, for_tup Pv h0 (fun i σ H' _ p => SqT.sm (hl i σ H' p) _ _ t) hs hd⟩
theorem ixX {K : PySem.W.Frag} {H : Hp} {p : Addr} {us : List V} {i : Int} {x : V} {Q : VK} (h : SqX K H p us) (e : atI us i = some x) (q : Q x H) : rIxL K (.ref p) (.int i) H Q ∨ rIxT K (.ref p) (.int i) H Q := by
  rcases h with l | t
  · exact .inl ⟨p, us, i, x, rfl, rfl, l, e, q⟩
  · exact .inr ⟨p, us, i, x, rfl, rfl, t, e, q⟩
/-! ### papers -/
def posD : PyData → Bool
  | .tuple (.int n :: _) => decide (0 < n)
  | _ => false
def shareB (m : Int) : PyData → Bool
  | .tuple [.int i, r] => (decide (0 ≤ i) && decide (i < m)) && (ratD r && posD r)
  | _ => false
def placeD : PyData → Int
  | .tuple (.int i :: _) => i
  | _ => 0
/-- what is_paper tells, the last place being known -/
def paperB (m : Int) : Int → List PyData → Bool
  | _, [] => true
  | b, d :: r => shareB m d && (decide (b < placeD d) && paperB m (placeD d) r)
theorem share_inv {m : Int} {d : PyData} (h : shareB m d = true) : ∃ i n u : Int, d = .tuple [.int i, .tuple [.int n, .int u]] ∧ 0 ≤ i ∧ i < m ∧ 0 < n ∧ 1 ≤ u ∧ Int.gcd n u = 1 := by
  unfold shareB at h
  split at h
  · rename_i i r
    rw [Bool.and_eq_true, Bool.and_eq_true, Bool.and_eq_true, decide_eq_true_eq, decide_eq_true_eq] at h
    obtain ⟨⟨h1, h2⟩, h3, h4⟩ := h
    unfold ratD at h3
    split at h3
    · rename_i n u
      rw [Bool.and_eq_true, decide_eq_true_eq, decide_eq_true_eq] at h3
      have h4 : decide (0 < n) = true := h4
      exact ⟨i, n, u, rfl, h1, h2, of_decide_eq_true h4, h3.1, h3.2⟩
    · cases h3
  · cases h
theorem share_pair (m : Int) (x y : PyData) : shareB m (.tuple [x, y]) = (isInt x && shareB m (.tuple [x, y])) := by cases x <;> rfl
theorem share_one (m : Int) (x : PyData) : shareB m (.tuple [x]) = false := by cases x <;> rfl
theorem share_many (m : Int) (x y z : PyData) (r : List PyData) : shareB m (.tuple (x :: y :: z :: r)) = false := by cases x <;> rfl
theorem iteT' {c : Bool} {A B : Prop} (h : c = true) (a : A) : ite (c = true) A B := by rw [h]; exact a
theorem iteF' {c : Bool} {A B : Prop} (h : c = false) (a : B) : ite (c = true) A B := by rw [h]; exact a
section
variable {P : Program} {w : World} {K : PySem.W.Frag} {mg : Str → Option Value} {base : Heap} {fa : Nat → Addr} {fd : Nat → FuncData}
def spShare : Sp := fun vs H Q _ => ∃ v d z m, vs = [v, .int m] ∧ Dt z H v d ∧ Q (.bl (shareB m d)) H
theorem ok_p_is_share (T : Txt K mg fa fd) : FnOk P w K mg base CX0 3 (fa 17) (fd 17) ["thing", "many"] spShare := by
  refine T.F_p_is_share.ok sc_p_is_share (fun vs H Q E h => ?_) (fun cdv A outer s H vs Q E hr h => ?_)
  · obtain ⟨v, d, _, m, rfl, _⟩ := h
    rfl
  · obtain ⟨v, d, z, m, rfl, hv, q⟩ := h
    refine ⟨_, (C8.pss_cut (ps_if (PW.pt (pw_or (pt_not (pt_val (pe_callB call_isi (by rfl) T.m_isinstance PyProof.Rows.boot_isinstance (pa_cons (pv 0) (pa_cons (pe_bltn (v := .ty "tuple") (by rfl) T.m_tuple (by decide +kernel) rfl) pa_nil))))) (pw_or1 (pt_cmpR op_ne (pe_callB call_len_seq (by rfl) T.m_len PySem.boot_len (pa_cons (pv 0) pa_nil)) pe_int (nomark _))))) (pss_one (ps_ret pe_bl)) pss_nil)
      (C8.pss_cut (ps_asg (pv 0) (pg_tup (by rfl) (pgs_cons (pg_name (i := 2) sc_p_is_share.nd rfl (.inl rfl)) (pgs_cons (pg_name (i := 3) sc_p_is_share.nd rfl (.inl rfl)) pgs_nil))))
      (pss_one (ps_ret (pe_and (pe_call (ok_p_is_whole T) (hr.mono (by decide)) (by rfl) T.g_p_is_whole T.F_p_is_whole.kp T.b_p_is_whole .nil pass0 (pa_cons (pv 2) pa_nil)) (pe_and (pe_chain op_le op_lt pe_int (pv 2) (pv 1)) (pe_and (pe_call (ok_p_is_ratio T) (hr.mono (by decide)) (by rfl) T.g_p_is_ratio T.F_p_is_ratio.kp T.b_p_is_ratio .nil pass0 (pa_cons (pv 3) pa_nil)) (pe_one (pe_cmpR op_gt (pe_ix ix_tup (pv 3) pe_int (fun _ _ => rfl)) pe_int (nomark _)))))))))), ?_⟩
    refine ⟨fun σ H1 => H1 = H ∧ (∃ p x y d1 d2, v = .ref p ∧ d = .tuple [d1, d2] ∧ H p = some (.tup [x, y]) ∧ Dt z H x d1 ∧ Dt z H y d2) ∧ σ = [some v, some (.int m), none, none], ?_, fun σ H1 hM => ?_⟩
    · refine ⟨_, rfl, _, _, _, _, _, rfl, .ty _, .base hv.ty, kit_ty kitTup, _, rfl, ?_⟩
      rcases hv.split with e | ⟨p, xs, ds, rfl, rfl, hp, hs⟩
      · rw [e]
        refine iteT (iteT ?_)
        have : shareB m d = false := by cases d <;> first | rfl | cases e
        rw [this] at q
        exact q
      · refine iteF ⟨_, rfl, p, xs, rfl, .inr (SqT.of hp), rfl, _, rfl, ?_⟩
        rw [hs.len]
        match xs, ds, hs with
        | _, [], _ => exact iteT q
        | _, [x], _ =>
          rw [share_one] at q
          exact iteT q
        | _, x :: y :: z :: r, _ =>
          rw [share_many] at q
          rw [decide_eq_false (by simp; omega)]
          exact iteT q
        | _, [d1, d2], .cons (v := x) h1 (.cons (v := y) h2 .nil) =>
          rw [decide_eq_true (show V.int (([d1, d2] : List PyData).length : Int) = V.int 2 from rfl)]
          exact iteF ⟨rfl, ⟨p, x, y, d1, d2, rfl, rfl, hp, h1, h2⟩, rfl⟩
    obtain ⟨rfl, ⟨p, x, y, d1, d2, rfl, rfl, hp, h1, h2⟩, rfl⟩ := hM
    refine ⟨fun σ H2 => H2 = H1 ∧ σ = [some (.ref p), some (.int m), some x, some y], ⟨_, rfl, p, _, rfl, .inl (.inl hp), rfl, _, _, rfl, _, _, rfl, rfl, rfl, rfl⟩, fun σ H2 hM => ?_⟩
    obtain ⟨rfl, rfl⟩ := hM
    refine ⟨_, rfl, x, d1, _, rfl, h1, _, rfl, ?_⟩
    rw [share_pair] at q
    cases e1 : isInt d1 with
    | false =>
      rw [e1] at q
      exact iteF q
    | true =>
      rw [e1] at q
      cases h1 with
      | int i _ =>
        have q : Q (.bl ((decide (0 ≤ i) && decide (i < m)) && (ratD d2 && posD d2))) H2 := q
        refine iteT ⟨_, rfl, _, _, rfl, rfl, _, rfl, ?_⟩
        by_cases c1 : (0 : Int) ≤ i
        · rw [decide_eq_true c1] at q ⊢
          refine iteT ⟨_, rfl, _, _, rfl, rfl, _, rfl, ?_⟩
          by_cases c2 : i < m
          · rw [decide_eq_true c2] at q ⊢
            refine iteT ⟨_, rfl, y, d2, _, rfl, h2, _, rfl, ?_⟩
            cases e2 : ratD d2 with
            | false =>
              rw [e2] at q
              exact iteF q
            | true =>
              rw [e2] at q
              obtain ⟨n, u, rfl⟩ : ∃ n u, d2 = .tuple [.int n, .int u] := by
                unfold ratD at e2
                split at e2
                · exact ⟨_, _, rfl⟩
                · cases e2
              match y, h2 with
              | _, .tup hr (.cons (.int _ _) (.cons (.int _ _) .nil)) =>
                have q : Q (.bl (decide (0 < n))) H2 := q
                exact iteT ⟨_, rfl, _, _, _, _, rfl, rfl, SqT.of hr, t0, _, _, rfl, rfl, q⟩
          · rw [decide_eq_false c2] at q ⊢
            exact iteF q
        · rw [decide_eq_false c1] at q ⊢
          exact iteF ⟨_, rfl, iteF q⟩
      | _ => cases e1
def spPaper (K : PySem.W.Frag) : Sp := fun vs H Q _ => ∃ (p : Addr) (us : List V) (ds : List PyData) (z : Addr) (m : Int), vs = [.ref p, .int m] ∧ SqX K H p us ∧ DtAll z H us ds ∧ Q (.bl (paperB m (-1) ds)) H
theorem ok_p_is_paper (T : Txt K mg fa fd) : FnOk P w K mg base CX0 4 (fa 18) (fd 18) ["paper", "many"] (spPaper K) := by
  refine T.F_p_is_paper.ok sc_p_is_paper (fun vs H Q E h => ?_) (fun cdv A outer s H vs Q E hr h => ?_)
  · obtain ⟨p, us, ds, z, m, rfl, _⟩ := h
    rfl
  · obtain ⟨p, us, ds, z, m, rfl, hp, hus, q⟩ := h
    refine ⟨_, (C8.pss_cut (ps_set (i := 2) sc_p_is_paper.nd rfl (.inl rfl) (pe_un un_neg pe_int))
      (C8.pss_cut (ps_for PassesOwn.never rfl (pi_seqX (pv 0)) (pg_name (i := 3) sc_p_is_paper.nd rfl (.inl rfl)) (C8.pss_cut (ps_if (PW.pt (pw_or (pt_not (pt_val (pe_call (ok_p_is_share T) (hr.mono (by decide)) (by rfl) T.g_p_is_share T.F_p_is_share.kp T.b_p_is_share .nil pass0 (pa_cons (pv 3) (pa_cons (pv 1) pa_nil))))) (pw_or1 (pt_cmpR op_le (pe_ix ix_tup (pv 3) pe_int (fun _ _ => rfl)) (pv 2) (nomark _))))) (pss_one (ps_ret pe_bl)) pss_nil)
      (pss_one (ps_set (i := 2) sc_p_is_paper.nd rfl (.inl rfl) (pe_ix ix_tup (pv 3) pe_int (fun _ _ => rfl))))))
      (pss_one (ps_ret pe_bl)))), ?_⟩
    refine ⟨fun σ H1 => H1 = H ∧ σ = [some (.ref p), some (.int m), some (.int (-1)), none], ⟨_, rfl, rfl, rfl⟩, fun σ H1 hM => ?_⟩
    obtain ⟨rfl, rfl⟩ := hM
    refine ⟨fun σ H2 => H2 = H1 ∧ paperB m (-1) ds = true, ?_, fun σ H2 hM => ?_⟩
    · refine ⟨_, rfl, p, rfl, for_seqX (K := K) (H0 := H1) (a := p) (xs := us) hp (fun i σ H2 => H2 = H1 ∧ ∃ (b : Int) (y3 : Option V), paperB m (-1) ds = paperB m b (ds.drop i) ∧ σ = [some (.ref p), some (.int m), some (.int b), y3]) ⟨rfl, -1, _, rfl, rfl⟩ (fun i σ H2 hq => by rw [hq.1]; exact fun _ _ e => e) (fun i x σ H2 hx hq => ?_) (fun σ H2 hq => ?_)⟩
      · obtain ⟨rfl, b, y3, he, rfl⟩ := hq
        obtain ⟨d, hd, hdt⟩ := DtAll.at i hus hx
        have hdr : ds.drop i = d :: ds.drop (i + 1) := by
          obtain ⟨h1, h2⟩ := List.getElem?_eq_some_iff.mp hd
          rw [List.drop_eq_getElem_cons h1, h2]
        have he : paperB m (-1) ds = (shareB m d && (decide (b < placeD d) && paperB m (placeD d) (ds.drop (i + 1)))) := by rw [he, hdr]; rfl
        have no : (shareB m d && (decide (b < placeD d) && paperB m (placeD d) (ds.drop (i + 1)))) = false → Q (.bl false) H2 := fun e => by
          rw [← e, ← he]
          exact q
        refine ⟨fun σ H3 => H3 = H2 ∧ shareB m d = true ∧ b < placeD d ∧ σ = [some (.ref p), some (.int m), some (.int b), some x], ?_, fun σ H3 hM => ?_⟩
        · refine ⟨_, rfl, _, rfl, x, d, z, m, rfl, hdt, _, rfl, ?_⟩
          cases e1 : shareB m d with
          | false => exact iteT (no (by rw [e1]; rfl))
          | true =>
            obtain ⟨i', n, u, rfl, _⟩ := share_inv e1
            match x, hdt with
            | _, .tup hr (.cons (.int _ _) (.cons _ .nil)) =>
              refine iteF ⟨_, rfl, _, _, _, _, rfl, rfl, SqT.of hr, t0, _, rfl, _, _, rfl, rfl, _, rfl, ?_⟩
              by_cases c : i' ≤ b
              · refine iteT' (decide_eq_true c) (no ?_)
                rw [e1, decide_eq_false (show ¬ b < placeD (.tuple [.int i', .tuple [.int n, .int u]]) by show ¬ b < i'; omega)]
                rfl
              · exact iteF' (decide_eq_false c) ⟨rfl, rfl, by show b < i'; omega, rfl⟩
        obtain ⟨rfl, e1, e2, rfl⟩ := hM
        obtain ⟨i', n, u, rfl, _⟩ := share_inv e1
        match x, hdt with
        | _, .tup hr (.cons (.int _ _) (.cons _ .nil)) =>
          refine ⟨_, rfl, _, _, _, _, rfl, rfl, SqT.of hr, t0, rfl, i', _, ?_, rfl⟩
          rw [he, e1, decide_eq_true e2]
          rfl
      · obtain ⟨rfl, b, y3, he, rfl⟩ := hq
        refine ⟨rfl, ?_⟩
        rw [hus.len, List.drop_length] at he
        exact he
    obtain ⟨rfl, e⟩ := hM
    rw [e] at q
    exact q
end
section
variable {P : Program} {w : World} {K : PySem.W.Frag} {mg : Str → Option Value} {base : Heap} {fa : Nat → Addr} {fd : Nat → FuncData}
def spTotal (K : PySem.W.Frag) : Sp := fun vs H Q _ => ∃ (p0 p1 : Addr) (us0 us1 : List V) (ties : List Tie) (pap : List Sh) (z : Addr), vs = [.ref p0, .ref p1] ∧ SqX K H p0 us0 ∧ DtAll z (MH H) us0 (ties.map tieDt) ∧ SqX K H p1 us1 ∧ DtAll z H us1 (pap.map papD) ∧ SumOk ties pap ∧
  ∀ o d pb H', Same H H' → H d = none → H' o = some (.tup [.ref d, .ref pb]) → RD K H' d ((lawK (sumIt ties pap)).filter (nzV (valL (sumIt ties pap)))) (valL (sumIt ties pap)) → FrK K H' pb (sumX [] (0, 1) (sumB ties pap)) → Q (.ref o) H'
theorem ok_p_total (T : Txt K mg fa fd) : FnOk P w K mg base CX0 5 (fa 19) (fd 19) ["ties", "paper"] (spTotal K) := by
  refine T.F_p_total.ok sc_p_total (fun vs H Q E h => ?_) (fun cdv A outer s H vs Q E hr h => ?_)
  · obtain ⟨p0, p1, _, _, _, _, _, rfl, _⟩ := h
    rfl
  · obtain ⟨p0, p1, us0, us1, ties, pap, z, rfl, h0, hd0, h1, hd1, ok, q⟩ := h
    refine ⟨_, (C8.pss_cut (ps_set (i := 2) sc_p_total.nd rfl (.inr rfl) pe_dnewK)
      (C8.pss_cut (ps_set (i := 3) sc_p_total.nd rfl (.inl rfl) (C8.pe_gc (by rfl) T.c_ZERO))
      (C8.pss_cut (ps_for PassesOwn.never rfl (pi_seqX (pv 1)) (pg_tup (by rfl) (pgs_cons (pg_name (i := 4) sc_p_total.nd rfl (.inl rfl)) (pgs_cons (pg_name (i := 5) sc_p_total.nd rfl (.inl rfl)) pgs_nil))) (C8.pss_cut (ps_asg (pe_ix (ix_list.or ix_tup) (pv 0) (pv 4) (fun _ _ => rfl)) (pg_tup (by rfl) (pgs_cons (pg_name (i := 6) sc_p_total.nd rfl (.inl rfl)) (pgs_cons (pg_name (i := 7) sc_p_total.nd rfl (.inl rfl)) pgs_nil))))
      (C8.pss_cut (ps_for PassesOwn.never rfl (pi_tup (pv 6)) (pg_tup (by rfl) (pgs_cons (pg_name (i := 8) sc_p_total.nd rfl (.inl rfl)) (pgs_cons (pg_name (i := 9) sc_p_total.nd rfl (.inl rfl)) pgs_nil))) (pss_one (ps_dput (Nat.lt_of_le_of_lt (Nat.add_le_add_left (by decide) _) hr.units) (pv 2) (pv 8) (pe_call (ok_p_add T) (hr.mono (by decide)) (by rfl) T.g_p_add T.F_p_add.kp T.b_p_add .nil pass0 (pa_cons (pe_dget2 (Nat.lt_of_le_of_lt (Nat.add_le_add_left (by decide) _) hr.units) (pv 2) (pv 8) (C8.pe_gc (by rfl) T.c_ZERO) ⟨by rfl, by rfl, by rfl, by rfl⟩) (pa_cons (pe_call (ok_p_multiply T) (hr.mono (by decide)) (by rfl) T.g_p_multiply T.F_p_multiply.kp T.b_p_multiply .nil pass0 (pa_cons (pv 9) (pa_cons (pv 5) pa_nil))) pa_nil))) (by rfl))))
      (pss_one (ps_set (i := 3) sc_p_total.nd rfl (.inl rfl) (pe_call (ok_p_add T) (hr.mono (by decide)) (by rfl) T.g_p_add T.F_p_add.kp T.b_p_add .nil pass0 (pa_cons (pv 3) (pa_cons (pe_call (ok_p_multiply T) (hr.mono (by decide)) (by rfl) T.g_p_multiply T.F_p_multiply.kp T.b_p_multiply .nil pass0 (pa_cons (pv 7) (pa_cons (pv 5) pa_nil))) pa_nil))))))))
      (pss_one (ps_ret (pe_tup (pa_cons (pe_lock (pe_dc (own := [("name", 8)]) (g := gName 8) (tt := _) rfl sc_p_total.nd (pi_keys (pv 2)) (blkOk_by (own := [("name", 8)]) (N := ["ties", "paper", "rates", "bound", "at", "share", "terms", "most", "name", "rate"]) (sc := defScope s_p_total) (by decide +kernel)) (fun _ _ _ _ _ => pg_name (i := 8) sc_p_total.nd rfl (Or.inl rfl)) (fun _ _ _ _ _ => pts_one (pt_cmpR (op_neDK (K := K) rfl hr.units) (pe_dget (Nat.lt_of_le_of_lt (Nat.add_le_add_left (by decide) _) hr.units) (pv 2) (pv 8) (fun _ _ => rfl)) (C8.pe_gc (by rfl) T.c_ZERO) (nomark _))) (fun _ _ _ _ _ => (pv 8)) (fun _ _ _ _ _ => (pe_dget (Nat.lt_of_le_of_lt (Nat.add_le_add_left (by decide) _) hr.units) (pv 2) (pv 8) (fun _ _ => rfl))))) (pa_cons (pv 3) pa_nil)))))))), ?_⟩
    refine ⟨fun σ H1 => ∃ d, H d = none ∧ Same H H1 ∧ RD K H1 d [] (valL []) ∧ σ = [some (.ref p0), some (.ref p1), some (.ref d), none, none, none, none, none, none, none], fun d nd => ⟨d, nd, same_upd nd, ⟨[], upd_same, rfl, List.nodup_nil, fun x hx => by cases hx⟩, rfl⟩, fun σ H1 hM => ?_⟩
    obtain ⟨d, nd, s1, hd, rfl⟩ := hM
    refine ⟨fun σ H2 => H2 = H1 ∧ σ = [some (.ref p0), some (.ref p1), some (.ref d), some (.ref (fa 2000)), none, none, none, none, none, none], ⟨rfl, rfl⟩, fun σ H2 hM => ?_⟩
    obtain ⟨rfl, rfl⟩ := hM
    have ul : us1.length = pap.length := by
      have := hd1.len
      rw [List.length_map] at this
      exact this
    refine ⟨fun σ G => Same H G ∧ RD K G d (lawK (sumIt ties pap)) (valL (sumIt ties pap)) ∧ ∃ pb y4 y5 y6 y7 y8 y9, FrK K G pb (sumX [] (0, 1) (sumB ties pap)) ∧ σ = [some (.ref p0), some (.ref p1), some (.ref d), some (.ref pb), y4, y5, y6, y7, y8, y9], ?_, fun σ G hM => ?_⟩
    · refine ⟨_, rfl, p1, rfl, for_seqX (K := K) (H0 := H) (a := p1) (xs := us1) h1 (fun i σ G => Same H G ∧ RD K G d (lawK (sumIt ties (pap.take i))) (valL (sumIt ties (pap.take i))) ∧ ∃ pb y4 y5 y6 y7 y8 y9, FrK K G pb (sumX [] (0, 1) (sumB ties (pap.take i))) ∧ σ = [some (.ref p0), some (.ref p1), some (.ref d), some (.ref pb), y4, y5, y6, y7, y8, y9]) ⟨s1, hd, fa 2000, _, _, _, _, _, _, T.z_ZERO _, rfl⟩ (fun i σ G hq => hq.1) (fun i x σ G hx hq => ?_) (fun σ G hq => ?_)⟩
      · clear hd
        obtain ⟨sG, hd, pb, y4, y5, y6, y7, y8, y9, hpb, rfl⟩ := hq
        obtain ⟨de, hde, hdt⟩ := DtAll.at i hd1 hx
        rw [List.getElem?_map] at hde
        obtain ⟨⟨ti, sh⟩, he, rfl⟩ := Option.map_eq_some_iff.mp hde
        have hm := List.mem_of_getElem? he
        have til : ti < ties.length := ok.at_ _ hm
        obtain ⟨nfs, bns⟩ := ok.nf _ hm
        obtain ⟨⟨tl, bd⟩, hti⟩ : ∃ t, ties[ti]? = some t := ⟨_, List.getElem?_eq_getElem til⟩
        obtain ⟨tr, tnf, tbn, tl2⟩ := ok.tl _ (List.mem_of_getElem? hti)
        obtain ⟨xt, hxt, hdtt⟩ : ∃ xt, us0[ti]? = some xt ∧ Dt z (MH H) xt (tieDt (tl, bd)) := by
          have l0 := hd0.len
          rw [List.length_map] at l0
          obtain ⟨xt, hxt⟩ : ∃ xt, us0[ti]? = some xt := ⟨_, List.getElem?_eq_getElem (by omega)⟩
          obtain ⟨d', hd', hdt'⟩ := DtAll.at ti hd0 hxt
          rw [List.getElem?_map, hti] at hd'
          cases hd'
          exact ⟨xt, hxt, hdt'⟩
        change Dt z H x (.tuple [.int (ti : Nat), frP sh]) at hdt
        match x, hdt with
        | _, .tup (a := pp) hpp (.cons (.int _ _) (.cons hs2 .nil)) =>
          obtain ⟨ps, rfl, hps⟩ := dt_fr hs2
          have hpp := sG _ _ hpp
          refine ⟨pp, _, rfl, .inl (.inl hpp), rfl, _, _, rfl, _, _, rfl, rfl, ?_⟩
          have h0G := h0.sm sG
          obtain ⟨nI, nB⟩ := its_nf ok
          have eits : itsOf ties (ti, sh) = tl.map fun u => (u.1, mulL u.2 sh) := by
            unfold itsOf
            rw [show ties[(ti, sh).1]? = some (tl, bd) from hti]
          have ebnd : bndOf ties (ti, sh) = mulL bd sh := by
            unfold bndOf
            rw [show ties[(ti, sh).1]? = some (tl, bd) from hti]
          have est := sumIt_step (ties := ties) he
          have ebt := sumB_step (ties := ties) he
          rw [eits] at est
          rw [ebnd] at ebt
          have sub1 := sumIt_sub ties pap (i + 1)
          have subB := sumB_sub ties pap (i + 1)
          rw [est] at sub1
          rw [ebt] at subB
          rw [est, ebt]
          generalize sumIt ties (pap.take i) = dn at *
          generalize sumB ties (pap.take i) = bn at *
          have hwI := ok.w
          have hwB := ok.wb
          obtain ⟨pt, pl, yb, xsl, rfl, hpt, hpl, hls, hb2⟩ := tie_inv (show Dt z (MH H) xt (.tuple [.tuple (tl.map tmP), frP bd]) from hdtt)
          · obtain ⟨pm, rfl, hpm⟩ := dt_fr hb2
            refine ⟨fun σ G1 => G1 = G ∧ σ = [some (.ref p0), some (.ref p1), some (.ref d), some (.ref pb), some (.int (ti : Nat)), some (.ref ps), some (.ref pl), some (.ref pm), y8, y9], ⟨_, rfl, _, rfl, ixX h0G (atI_nat hxt) ⟨pt, _, rfl, mh_sq (mh_same sG _ _ hpt), rfl, _, _, rfl, _, _, rfl, rfl, rfl, rfl⟩⟩, fun σ G1 hM => ?_⟩
            obtain ⟨rfl, rfl⟩ := hM
            have xll : xsl.length = tl.length := by
              have := hls.len
              rw [List.length_map] at this
              exact this
            refine ⟨fun σ G2 => Same H G2 ∧ RD K G2 d (lawK (dn ++ tl.map fun u => (u.1, mulL u.2 sh))) (valL (dn ++ tl.map fun u => (u.1, mulL u.2 sh))) ∧ FrK K G2 pb (sumX [] (0, 1) bn) ∧ ∃ y8 y9, σ = [some (.ref p0), some (.ref p1), some (.ref d), some (.ref pb), some (.int (ti : Nat)), some (.ref ps), some (.ref pl), some (.ref pm), y8, y9], ?_, fun σ G2 hM => ?_⟩
            · refine ⟨_, rfl, pl, rfl, ⟨_, mh_sq (mh_same sG _ _ hpl)⟩, for_tup (K := K) (a := pl) (xs := xsl) (fun j σ G2 => Same H G2 ∧ RD K G2 d (lawK (dn ++ (tl.map fun u => (u.1, mulL u.2 sh)).take j)) (valL (dn ++ (tl.map fun u => (u.1, mulL u.2 sh)).take j)) ∧ FrK K G2 pb (sumX [] (0, 1) bn) ∧ ∃ y8 y9, σ = [some (.ref p0), some (.ref p1), some (.ref d), some (.ref pb), some (.int (ti : Nat)), some (.ref ps), some (.ref pl), some (.ref pm), y8, y9]) ⟨sG, by rw [List.take_zero, List.append_nil]; exact hd, hpb, _, _, rfl⟩ (fun j σ G2 _ hq => mh_sq (mh_same hq.1 _ _ hpl)) (fun j x σ G2 hx hq => ?_) (fun σ G2 hq => ?_)⟩
              · clear hd sG hpb h0G hpp
                obtain ⟨sG, hd, hpb, y8, y9, rfl⟩ := hq
                obtain ⟨du, hdu, hdut⟩ := DtAll.at j hls hx
                rw [List.getElem?_map] at hdu
                obtain ⟨⟨n, f⟩, hej, rfl⟩ := Option.map_eq_some_iff.mp hdu
                obtain ⟨nff, bnf⟩ := tr _ (List.mem_of_getElem? hej)
                have ets : (tl.map fun u => (u.1, mulL u.2 sh)).take (j + 1) = (tl.map fun u => (u.1, mulL u.2 sh)).take j ++ [(n, mulL f sh)] := by
                  rw [List.take_add_one, List.getElem?_map, hej]
                  rfl
                rw [ets, ← List.append_assoc]
                have sub2 : (dn ++ (tl.map fun u => (u.1, mulL u.2 sh)).take (j + 1)).Sublist (sumIt ties pap) := (List.Sublist.append (List.Sublist.refl _) (List.take_sublist _ _)).trans sub1
                rw [ets, ← List.append_assoc] at sub2
                generalize dn ++ (tl.map fun u => (u.1, mulL u.2 sh)).take j = dj at *
                change Dt _ _ _ (.tuple [.str (SX.S n), frP f]) at hdut
                match x, hdut with
                | _, .tup (a := pq) hpq (.cons (.str _ _) (.cons hr' .nil)) =>
                  obtain ⟨pr, rfl, hpr⟩ := dt_fr hr'
                  have hpr := mh_same sG _ _ hpr
                  have hps2 := sG _ _ hps
                  obtain ⟨kvs, hkv, hR⟩ := hd
                  have subj := (List.sublist_append_left dj [(n, mulL f sh)]).trans sub2
                  have wj := wIt_sub subj
                  have nj : ∀ it ∈ dj, Nf it.2 := fun it hit => nI it (subj.subset hit)
                  have bwm : bw (mulL f sh) ≤ 1900 := by
                    have := bw_in (sub2.subset (List.mem_append_right dj (List.mem_singleton.mpr rfl)))
                    show bw (n, mulL f sh).2 ≤ 1900
                    omega
                  have djl : dj.length ≤ 1900 := by
                    have key : ∀ l : List It, l.length ≤ wIt l := fun l => by
                      induction l with
                      | nil => exact Nat.zero_le _
                      | cons a l ih =>
                        unfold wIt at *
                        rw [List.map_cons, List.sum_cons, List.length_cons]
                        omega
                    have := key dj
                    omega
                  have hkl : kvs.length < sizeLine := by
                    rw [hR.len]
                    have := lawK_len dj
                    exact Nat.lt_of_le_of_lt this (Nat.lt_of_le_of_lt djl (by decide +kernel))
                  have nfm := mul_nf nff nfs
                  have nfv : Nf (valL dj n) := sumX_nf n dj _ nf_01 nj
                  have bnv : Bn 2048 (valL dj n) := (sumX_bn n dj (0, 1) 1 nf_01 bn_01 nj).mono (by omega)
                  have got : ∃ q, (valV kvs (keyOf n)).getD (.ref (fa 2000)) = .ref q ∧ FrK K G2 q (valL dj n) := by
                    by_cases m : n ∈ lawK dj
                    · obtain ⟨q, e, h⟩ := hR.2.2 n m
                      exact ⟨q, by rw [e]; rfl, h.1⟩
                    · rw [hR.none m, lawV_none m]
                      exact ⟨fa 2000, rfl, T.z_ZERO _⟩
                  obtain ⟨q1, eq1, hq1⟩ := got
                  refine ⟨pq, _, rfl, mh_sq (mh_same sG _ _ hpq), rfl, _, _, rfl, _, _, rfl, rfl, ?_⟩
                  refine ⟨_, rfl, d, rfl, .inl ⟨kvs, .inl hkv⟩, _, rfl, valV kvs (keyOf n), DGet.k (k := keyOf n) hkv, ?_⟩
                  rw [eq1]
                  refine ⟨_, rfl, _, rfl, pr, ps, f, sh, rfl, mh_sq hpr, SqT.of hps2, nff.1, nfs.1, bnf.mono (by decide), bns.mono (by decide), fun e ne => ?_⟩
                  have se := same_upd (o := trF (mulL f sh)) ne
                  refine ⟨q1, e, valL dj n, mulL f sh, rfl, SqT.sm se _ _ hq1, SqT.of upd_same, nfv.1, nfm.1, bnv, (bw_bn _).mono (by omega), fun o no => ?_⟩
                  have so := se.trans (same_upd (o := trF (addL (valL dj n) (mulL f sh))) no)
                  have hkv2 := so _ _ hkv
                  refine ⟨_, rfl, _, rfl, d, _, rfl, DPut.k (k := keyOf n) hkv2 hkl, ?_, ?_, ?_, _, _, rfl⟩
                  · intro b u eb
                    rw [upd_ne (ne_of_none eb nd)]
                    exact so _ _ (sG _ _ eb)
                  · rw [lawK_snoc, valL_snoc]
                    exact ⟨_, upd_same, ((hR.mono (Tr.sm so)).put upd_same).mono (Tr.updD hkv2)⟩
                  · exact (Tr.updD hkv2).1 _ _ (SqT.sm so _ _ hpb)
              · obtain ⟨sG2, hd2, hpb2, y8, y9, rfl⟩ := hq
                rw [xll, show tl.length = (tl.map fun u => (u.1, mulL u.2 sh)).length from (List.length_map _).symm, List.take_length] at hd2
                exact ⟨sG2, hd2, hpb2, _, _, rfl⟩
            obtain ⟨sG2, hd2, hpb2, y8', y9', rfl⟩ := hM
            have subb := (List.sublist_append_left bn [(([] : List Nat), mulL bd sh)]).trans subB
            have nb : ∀ it ∈ bn, Nf it.2 := fun it hit => nB it (subb.subset hit)
            have wb := wIt_sub subb
            have nfb : Nf (sumX [] (0, 1) bn) := sumX_nf [] bn _ nf_01 nb
            have bnb : Bn 2048 (sumX [] (0, 1) bn) := (sumX_bn [] bn (0, 1) 1 nf_01 bn_01 nb).mono (by omega)
            have bwm : bw (mulL bd sh) ≤ 1900 := by
              have := bw_in (subB.subset (List.mem_append_right bn (List.mem_singleton.mpr rfl)))
              show bw (([] : List Nat), mulL bd sh).2 ≤ 1900
              omega
            refine ⟨_, rfl, _, rfl, _, rfl, pm, ps, bd, sh, rfl, mh_sq (mh_same sG2 _ _ hpm), SqT.of (sG2 _ _ hps), tnf.1, nfs.1, tbn.mono (by decide), bns.mono (by decide), fun e ne => ?_⟩
            have se := same_upd (o := trF (mulL bd sh)) ne
            refine ⟨pb, e, sumX [] (0, 1) bn, mulL bd sh, rfl, SqT.sm se _ _ hpb2, SqT.of upd_same, nfb.1, (mul_nf tnf nfs).1, bnb, (bw_bn _).mono (by omega), fun o no => ?_⟩
            have so := se.trans (same_upd (o := trF (addL (sumX [] (0, 1) bn) (mulL bd sh))) no)
            refine ⟨sG2.trans so, hd2.same so, o, _, _, _, _, _, _, ?_, rfl⟩
            rw [sumX_app]
            exact SqT.of upd_same
      · obtain ⟨sG, hd, pb, y4, y5, y6, y7, y8, y9, hpb, rfl⟩ := hq
        rw [ul, List.take_length] at hd hpb
        exact ⟨sG, hd, pb, _, _, _, _, _, _, hpb, rfl⟩
    clear hd
    obtain ⟨sG, hd, pb, y4, y5, y6, y7, y8, y9, hpb, rfl⟩ := hM
    obtain ⟨kvs, hk, hR⟩ := hd
    generalize hval : valL (sumIt ties pap) = val at *
    refine ⟨d, _, hk, trivial, fun od => ?_⟩
    refine ⟨_, rfl, d, od, rfl, .inl ⟨kvs, upd_same, fun D nD => ?_⟩⟩
    have naD : D ≠ d := fun e => by rw [e, upd_same] at nD; cases nD
    have nDG : G D = none := by
      rw [upd_ne naD] at nD
      exact nD
    have kl : kvs.length ≤ 1900 := by
      rw [hR.len]
      have h1 := lawK_len (sumIt ties pap)
      have key : ∀ l : List It, l.length ≤ wIt l := fun l => by
        induction l with
        | nil => exact Nat.zero_le _
        | cons a l ih =>
          unfold wIt at *
          rw [List.map_cons, List.sum_cons, List.length_cons]
          omega
      have := key (sumIt ties pap)
      have := ok.w
      omega
    refine dc_keys (fun i G' => G' d = some (.frz od (.dK kvs)) ∧ Ex d G G' ∧ G' D = some (.dK ((kvs.take i).filter (fK val)))) ⟨?_, ?_, upd_same⟩ (fun i G' h => h.1) (fun i k vv G' hkv hp => ?_) (fun G' hp => ?_)
    · rw [upd_ne naD.symm]
      exact upd_same
    · exact fun c o e n => by
        rw [upd_ne (ne_of_none e nDG), upd_ne n]
        exact e
    · obtain ⟨hfa, ex, hD⟩ := hp
      obtain ⟨x, hx, rfl⟩ := keys_at hR.1 hkv
      have hRG := hR.mono (ex.sqt hk)
      obtain ⟨p, ep, fp⟩ := hRG.2.2 x (List.mem_of_getElem? hx)
      have tk : (kvs.take (i + 1)).filter (fK val) = (kvs.take i).filter (fK val) ++ (if nzV val x = true then [(keyOf x, vv)] else []) := by
        rw [List.take_add_one, hkv, List.filter_append]
        show _ ++ List.filter (fK val) [(keyOf x, vv)] = _
        rw [List.filter_cons, fK_key]
        split <;> rfl
      have ndk : (kvs.map (·.1)).Nodup := by
        rw [hR.1]
        exact hR.2.1.map keyOf (fun a b h e => h (key_inj e))
      have evv : valV kvs (keyOf x) = some vv := by
        have : ∀ (kvs : List (Key × V)) (i : Nat), (kvs.map (·.1)).Nodup → kvs[i]? = some (keyOf x, vv) → valV kvs (keyOf x) = some vv := fun kvs => by
          induction kvs with
          | nil => intro i _ h; simp at h
          | cons q r ih =>
            intro i nd h
            rw [List.map_cons, List.nodup_cons] at nd
            cases i with
            | zero =>
              have e : q = (keyOf x, vv) := by simpa using h
              subst e
              exact valV_pos rfl
            | succ i =>
              have h' : r[i]? = some (keyOf x, vv) := by simpa using h
              have ne : q.1 ≠ keyOf x := fun e => nd.1 (by rw [e]; exact List.mem_map.mpr ⟨_, List.mem_of_getElem? h', rfl⟩)
              rw [valV_neg ne]
              exact ih i nd.2 h'
        exact this kvs i ndk hkv
      rw [evv] at ep
      obtain rfl : vv = .ref p := Option.some.inj ep
      rw [tk]
      refine ⟨rfl, _, rfl, _, rfl, d, _, rfl, .inl ⟨kvs, keyOf x, .inr ⟨od, hfa⟩, rfl, evv.symm⟩, ?_⟩
      refine ⟨.tuple [.int (val x).1, .int (val x).2], .tuple [.int 0, .int 1], .tup fp.1 (.cons (.int _) (.cons (.int _) .nil)), .tup (T.z_ZERO _) (.cons (.int _) (.cons (.int _) .nil)), rfl, rfl, _, rfl, ?_⟩
      rw [eqv_pair]
      have c : (!decide (((val x).1, (val x).2) = ((0 : Int), (1 : Int)))) = nzV val x := by
        unfold nzV
        rw [Bool.eq_iff_iff, Bool.not_eq_true', decide_eq_false_iff_not, decide_eq_true_eq]
      rw [c]
      cases hz : nzV val x with
      | false =>
        refine iteF ⟨hfa, ex, ?_⟩
        rw [if_neg (by decide), List.append_nil]
        exact hD
      | true =>
        refine iteT ⟨_, rfl, _, rfl, _, rfl, d, _, rfl, .inl ⟨kvs, keyOf x, .inr ⟨od, hfa⟩, rfl, evv.symm⟩, _, keyOf x, rfl, hD, ?_, ?_, ex.upd nDG, ?_⟩
        · refine Nat.lt_of_le_of_lt (List.length_filter_le _ _) ?_
          rw [List.length_take]
          exact Nat.lt_of_le_of_lt (Nat.min_le_right _ _) (Nat.lt_of_le_of_lt kl (by decide +kernel))
        · rw [upd_ne naD.symm]
          exact hfa
        · rw [upd_same, if_pos rfl]
          have nin : valV ((kvs.take i).filter (fK val)) (keyOf x) = none := by
            cases e : valV ((kvs.take i).filter (fK val)) (keyOf x) with
            | none => rfl
            | some v =>
              exfalso
              have m := valV_in8 e
              obtain ⟨q, hq, eq⟩ := List.mem_map.mp m
              have hq := (List.mem_filter.mp hq).1
              obtain ⟨j, ej⟩ := List.mem_iff_getElem?.mp hq
              have hj := (List.getElem?_eq_some_iff.mp ej).1
              rw [List.length_take] at hj
              rw [List.getElem?_take_of_lt (by omega)] at ej
              obtain ⟨h1, h2⟩ := List.getElem?_eq_some_iff.mp ej
              obtain ⟨h3, h4⟩ := List.getElem?_eq_some_iff.mp hkv
              have := List.pairwise_iff_getElem.mp ndk j i (by rw [List.length_map]; exact h1) (by rw [List.length_map]; exact h3) (by omega)
              rw [List.getElem_map, List.getElem_map, h2, h4] at this
              exact this eq
          rw [putK_new _ nin]
    · obtain ⟨hfa, ex, hD⟩ := hp
      rw [List.take_length] at hD
      refine ⟨hfa, ?_⟩
      have sb := ex.back hk
      have hD2 : upd G' d (.dK kvs) D = some (.dK (kvs.filter (fK val))) := by
        rw [upd_ne naD]
        exact hD
      refine ⟨_, rfl, two_line, fun o no => ?_⟩
      have sA := sG.trans (sb.trans (same_upd (o := .tup [V.ref D, .ref pb]) no))
      have sB := sb.trans (same_upd (o := .tup [V.ref D, .ref pb]) no)
      have nDH : H D = none := by
        cases e : H D with
        | none => rfl
        | some u =>
          rw [sG _ _ e] at nDG
          cases nDG
      refine q o D pb _ sA nDH upd_same ⟨_, same_upd no _ _ hD2, (hR.filter).mono (Tr.sm sB)⟩ (SqT.sm sB _ _ hpb)
end
/-! ### certificates judged -/
def shOf1 : PyData → Sh
  | .tuple [.int i, .tuple [.int n, .int u]] => (i.toNat, (n, u))
  | _ => (0, (0, 1))
def shOf (ds : List PyData) : List Sh := ds.map shOf1
theorem paper_sh {m : Int} : ∀ {ds : List PyData} {b : Int}, paperB m b ds = true → (shOf ds).map papD = ds
  | [], _, _ => rfl
  | d :: r, b, h => by
    unfold paperB at h
    rw [Bool.and_eq_true, Bool.and_eq_true] at h
    obtain ⟨i, n, u, rfl, h0, _⟩ := share_inv h.1
    have ih := paper_sh h.2.2
    unfold shOf at ih ⊢
    rw [List.map_cons, List.map_cons, ih]
    show papD (i.toNat, (n, u)) :: r = _
    unfold papD
    rw [show ((i.toNat : Nat) : Int) = i from Int.toNat_of_nonneg h0]
def sumN (ties : List Tie) (pap : List Sh) : List (List Nat) := (lawK (sumIt ties pap)).filter (nzV (valL (sumIt ties pap)))
def sumF (ties : List Tie) (pap : List Sh) : FR := sumX [] (0, 1) (sumB ties pap)
def refB (ties : List Tie) (ds : List PyData) : Bool := paperB ties.length (-1) ds && (decide ((sumN ties (shOf ds)).length = 0) && ltF (sumF ties (shOf ds)) (0, 1))
def eK (val : List Nat → FR) (tl : List It) (k : Key) : Bool := match tl.find? fun u => decide (keyOf u.1 = k) with
  | some u => decide (val u.1 = u.2)
  | none => false
def eqT (N : List (List Nat)) (val : List Nat → FR) (tl : List It) : Bool := decide (N.length = tl.length) && N.all fun x => eK val tl (keyOf x)
def derB (ties : List Tie) (t : Tie) (ds : List PyData) : Bool := paperB ties.length (-1) ds &&
  if (sumN ties (shOf ds)).length = 0 then ltF (sumF ties (shOf ds)) (0, 1) else eqT (sumN ties (shOf ds)) (valL (sumIt ties (shOf ds))) t.1 && !ltF t.2 (sumF ties (shOf ds))
theorem sumF_ok {ties : List Tie} {pap : List Sh} (ok : SumOk ties pap) : Bn 2048 (sumF ties pap) :=
  (sumX_bn [] (sumB ties pap) (0, 1) 1 nf_01 bn_01 (its_nf ok).2).mono (by have := ok.wb; omega)
theorem no_keys {α : Type} (l : List α) : (decide (l.length = ([] : List α).length) && l.all fun _ => false) = decide (l.length = 0) := by cases l <;> rfl
section
variable {P : Program} {w : World} {K : PySem.W.Frag} {mg : Str → Option Value} {base : Heap} {fa : Nat → Addr} {fd : Nat → FuncData}
def spRefutes (K : PySem.W.Frag) : Sp := fun vs H Q _ => ∃ (p0 p1 : Addr) (us0 us1 : List V) (ties : List Tie) (ds : List PyData) (z : Addr), vs = [.ref p0, .ref p1] ∧ SqX K H p0 us0 ∧ DtAll z (MH H) us0 (ties.map tieDt) ∧ SqX K H p1 us1 ∧ DtAll z H us1 ds ∧
  (paperB ties.length (-1) ds = true → SumOk ties (shOf ds)) ∧ ∀ H', Same H H' → Q (.bl (refB ties ds)) H'
theorem ok_p_refutes (T : Txt K mg fa fd) : FnOk P w K mg base CX0 6 (fa 20) (fd 20) ["ties", "paper"] (spRefutes K) := by
  refine T.F_p_refutes.ok sc_p_refutes (fun vs H Q E h => ?_) (fun cdv A outer s H vs Q E hr h => ?_)
  · obtain ⟨p0, p1, _, _, _, _, _, rfl, _⟩ := h
    rfl
  · obtain ⟨p0, p1, us0, us1, ties, ds, z, rfl, h0, hd0, h1, hd1, ok, q⟩ := h
    refine ⟨_, (C8.pss_cut (ps_if (pt_not (pt_val (pe_call (ok_p_is_paper T) (hr.mono (by decide)) (by rfl) T.g_p_is_paper T.F_p_is_paper.kp T.b_p_is_paper .nil pass0 (pa_cons (pv 1) (pa_cons (pe_callB call_len_seq (by rfl) T.m_len PySem.boot_len (pa_cons (pv 0) pa_nil)) pa_nil))))) (pss_one (ps_ret pe_bl)) pss_nil)
      (C8.pss_cut (ps_asg (pe_call (ok_p_total T) (hr.mono (by decide)) (by rfl) T.g_p_total T.F_p_total.kp T.b_p_total .nil pass0 (pa_cons (pv 0) (pa_cons (pv 1) pa_nil))) (pg_tup (by rfl) (pgs_cons (pg_name (i := 2) sc_p_refutes.nd rfl (.inl rfl)) (pgs_cons (pg_name (i := 3) sc_p_refutes.nd rfl (.inl rfl)) pgs_nil))))
      (pss_one (ps_ret (pe_and (pe_cmpR (op_eq_dictGK (K := K) rfl (room65 hr)) (pv 2) pe_dnewK (nomark _)) (pe_one (pe_call (ok_p_is_less T) (hr.mono (by decide)) (by rfl) T.g_p_is_less T.F_p_is_less.kp T.b_p_is_less .nil pass0 (pa_cons (pv 3) (pa_cons (C8.pe_gc (by rfl) T.c_ZERO) pa_nil))))))))), ?_⟩
    have ul : us0.length = ties.length := by
      have := hd0.len
      rw [List.length_map] at this
      exact this
    refine ⟨fun σ H1 => H1 = H ∧ paperB ties.length (-1) ds = true ∧ σ = [some (.ref p0), some (.ref p1), none, none], ?_, fun σ H1 hM => ?_⟩
    · refine ⟨_, rfl, _, rfl, p0, us0, rfl, h0, ?_⟩
      rw [ul]
      refine ⟨p1, us1, ds, z, _, rfl, h1, hd1, ?_⟩
      refine ⟨_, rfl, ?_⟩
      cases e : paperB ties.length (-1) ds with
      | false =>
        refine iteT ?_
        have := q H (fun _ _ e => e)
        unfold refB at this
        rw [e] at this
        exact this
      | true => exact iteF ⟨rfl, rfl, rfl⟩
    obtain ⟨rfl, ep, rfl⟩ := hM
    have ok := ok ep
    have eds := paper_sh ep
    rw [← eds] at hd1
    refine ⟨fun σ H2 => Same H1 H2 ∧ ∃ d pb, RD K H2 d (sumN ties (shOf ds)) (valL (sumIt ties (shOf ds))) ∧ FrK K H2 pb (sumF ties (shOf ds)) ∧ σ = [some (.ref p0), some (.ref p1), some (.ref d), some (.ref pb)], ?_, fun σ H2 hM => ?_⟩
    · refine ⟨_, rfl, _, rfl, p0, p1, us0, us1, ties, shOf ds, z, rfl, h0, hd0, h1, hd1, ok, fun o d pb H' s _ ho hd hb => ?_⟩
      exact ⟨o, _, rfl, .inl (.inl ho), rfl, _, _, rfl, _, _, rfl, rfl, s, d, pb, hd, hb, rfl⟩
    obtain ⟨s2, d, pb, ⟨kvs, hk, hR⟩, hb, rfl⟩ := hM
    refine ⟨_, rfl, fun nd hn => ?_⟩
    have kl : kvs.length = (sumN ties (shOf ds)).length := hR.len
    have q := q
    unfold refB at q
    rw [ep] at q
    have so := same_upd (o := HO.dK []) hn
    refine ⟨d, nd, kvs, [], fun _ => false, rfl, rfl, so _ _ hk, upd_same, fun p _ => .inl ⟨rfl, rfl⟩, _, rfl, ?_⟩
    rw [no_keys]
    rw [kl]
    by_cases c : (sumN ties (shOf ds)).length = 0
    · rw [decide_eq_true c] at q ⊢
      exact iteT ⟨_, rfl, pb, fa 2000, sumF ties (shOf ds), (0, 1), rfl, SqT.sm so _ _ hb, T.z_ZERO _, sumF_ok ok, bn_01.mono (by decide), q _ (s2.trans so)⟩
    · rw [decide_eq_false c] at q ⊢
      exact iteF (q _ (s2.trans so))
end
/-! ### a dict of terms -/
theorem valV_mem {kvs : List (Key × V)} {k : Key} {v : V} (nd : (kvs.map (·.1)).Nodup) (h : (k, v) ∈ kvs) : valV kvs k = some v := by
  induction kvs with
  | nil => cases h
  | cons q r ih =>
    rw [List.map_cons, List.nodup_cons] at nd
    rcases List.mem_cons.mp h with rfl | h
    · exact valV_pos rfl
    · rw [valV_neg fun e => nd.1 (by rw [e]; exact List.mem_map.mpr ⟨_, h, rfl⟩)]
      exact ih nd.2 h
theorem valV_none_of {kvs : List (Key × V)} {k : Key} (h : k ∉ kvs.map (·.1)) : valV kvs k = none := by
  cases e : valV kvs k with
  | none => rfl
  | some v => exact absurd (valV_in8 e) h
theorem merge_new : ∀ (kvs acc : List (Key × V)), ((acc ++ kvs).map (·.1)).Nodup → mergeK acc kvs = acc ++ kvs
  | [], acc, _ => by rw [List.append_nil]; rfl
  | p :: kvs, acc, h => by
    show mergeK (putK acc p.1 p.2) kvs = _
    have n : valV acc p.1 = none := valV_none_of fun m => by
      rw [List.map_append, List.nodup_append] at h
      exact h.2.2 _ m _ (by rw [List.map_cons]; exact List.mem_cons_self) rfl
    rw [putK_new _ n, merge_new kvs (acc ++ [(p.1, p.2)]) (by rw [List.append_assoc]; exact h), List.append_assoc]
    rfl
abbrev TmE (K : PySem.W.Frag) (H : Hp) (kv : Key × V) (u : It) : Prop := kv.1 = keyOf u.1 ∧ ∃ pr, kv.2 = .ref pr ∧ FrK K H pr u.2
theorem terms_paired {K : PySem.W.Frag} {z : Addr} {H : Hp} : ∀ {tl : List It} {xsl : List V}, DtAll z (MH H) xsl (tl.map tmP) →
    ∃ (ps : List Addr) (kvs : List (Key × V)), xsl = ps.map V.ref ∧ Paired (fun p kv => SqT K H p [kV kv.1, kv.2]) ps kvs ∧ Paired (TmE K H) kvs tl
  | [], _, h => by
    cases h
    exact ⟨[], [], rfl, .nil, .nil⟩
  | (n, f) :: tl, _, h => by
    cases h with
    | cons h1 h2 =>
      obtain ⟨ps, kvs, rfl, hp, ht⟩ := terms_paired (K := K) h2
      change Dt _ _ _ (.tuple [.str (SX.S n), frP f]) at h1
      match h1 with
      | .tup (a := pq) hpq (.cons (.str _ _) (.cons hr' .nil)) =>
        obtain ⟨pr, rfl, hpr⟩ := dt_fr hr'
        exact ⟨pq :: ps, (keyOf n, .ref pr) :: kvs, rfl, .cons (mh_sq hpq) hp, .cons ⟨rfl, pr, rfl, mh_sq hpr⟩ ht⟩
theorem tm_keys {K : PySem.W.Frag} {H : Hp} {kvs : List (Key × V)} {tl : List It} (h : Paired (TmE K H) kvs tl) : kvs.map (·.1) = tl.map fun u => keyOf u.1 := by
  induction h with
  | nil => rfl
  | cons h _ ih => rw [List.map_cons, List.map_cons, ih, h.1]
theorem tm_find {K : PySem.W.Frag} {H : Hp} {kvs : List (Key × V)} {tl : List It} (k : Key) (h : Paired (TmE K H) kvs tl) :
    (valV kvs k = none ∧ (tl.find? fun u => decide (keyOf u.1 = k)) = none) ∨ ∃ u pr, (tl.find? fun u => decide (keyOf u.1 = k)) = some u ∧ keyOf u.1 = k ∧ valV kvs k = some (.ref pr) ∧ FrK K H pr u.2 := by
  induction h with
  | nil => exact .inl ⟨rfl, rfl⟩
  | @cons kv u kvs tl h _ ih =>
    obtain ⟨e, pr, ev, hf⟩ := h
    by_cases c : keyOf u.1 = k
    · refine .inr ⟨u, pr, ?_, c, ?_, hf⟩
      · rw [List.find?_cons, decide_eq_true c]
      · rw [valV_pos (e.trans c), ev]
    · rw [List.find?_cons, decide_eq_false c, valV_neg (fun z => c (e.symm.trans z))]
      exact ih
theorem key_nodup {l : List (List Nat)} (h : l.Nodup) : (l.map keyOf).Nodup := h.map keyOf fun a b n e => n (key_inj e)
theorem dp_fr {K : PySem.W.Frag} {H : Hp} {p : Addr} {f : FR} (h : FrK K H p f) : Dp K H (.ref p) (frP f) := .tup h (.cons (.int _) (.cons (.int _) .nil))
theorem eqE_rates {K : PySem.W.Frag} {H : Hp} {kvs kv2 : List (Key × V)} {N : List (List Nat)} {val : List Nat → FR} {tl : List It} (hR : RDk K H kvs N val) (hT : Paired (TmE K H) kv2 tl) : ∀ p ∈ kvs, EqE K H kv2 (eK val tl) p := by
  rintro ⟨k, v⟩ hp
  have ndk : (kvs.map (·.1)).Nodup := by rw [hR.1]; exact key_nodup hR.2.1
  have ev := valV_mem ndk hp
  have mk : k ∈ kvs.map (·.1) := List.mem_map.mpr ⟨_, hp, rfl⟩
  rw [hR.1] at mk
  obtain ⟨x, hx, rfl⟩ := List.mem_map.mp mk
  obtain ⟨pr, e2, f2⟩ := hR.2.2 x hx
  rw [ev] at e2
  obtain rfl : v = .ref pr := Option.some.inj e2
  rcases tm_find (keyOf x) hT with ⟨h1, h2⟩ | ⟨u, pu, h1, h2, h3, h4⟩
  · refine .inl ⟨h1, ?_⟩
    show eK val tl (keyOf x) = false
    unfold eK
    rw [h2]
  · refine .inr ⟨.ref pu, frP (val x), frP u.2, h3, dp_fr f2.1, dp_fr h4, rfl, rfl, ?_⟩
    show eK val tl (keyOf x) = _
    unfold eK
    rw [h1, eqv_pair, ← key_inj h2]
theorem eq_rates {K : PySem.W.Frag} {H : Hp} {kvs kv2 : List (Key × V)} {N : List (List Nat)} {val : List Nat → FR} {tl : List It} (hR : RDk K H kvs N val) (hT : Paired (TmE K H) kv2 tl) : (decide (kvs.length = kv2.length) && kvs.all fun p => eK val tl p.1) = eqT N val tl := by
  unfold eqT
  have l2 : kv2.length = tl.length := by
    have := congrArg List.length (tm_keys hT)
    rw [List.length_map, List.length_map] at this
    exact this
  rw [hR.len, l2]
  congr 1
  have : (kvs.all fun p => eK val tl p.1) = (kvs.map (·.1)).all (eK val tl) := by rw [List.all_map]; rfl
  rw [this, hR.1, List.all_map]
  rfl
def FzT (H : Hp) (v : V) : Prop := ∃ (pt pl : Addr) (pm : V) (o : Obj) (xs : List V), v = .ref pt ∧ MH H pt = some (.tup [.ref pl, pm]) ∧ H pl = some (.frz o (.tup xs)) ∧ o.dict = none
theorem FzT.same {H H' : Hp} {v : V} (h : FzT H v) (s : Same H H') : FzT H' v :=
  let ⟨pt, pl, pm, o, xs, e, h1, h2, h3⟩ := h
  ⟨pt, pl, pm, o, xs, e, mh_same s _ _ h1, s _ _ h2, h3⟩
theorem paired_imp {α β : Type} {R S : α → β → Prop} (f : ∀ a b, R a b → S a b) {as : List α} {bs : List β} (h : Paired R as bs) : Paired S as bs := by
  induction h with
  | nil => exact .nil
  | cons h _ ih => exact .cons (f _ _ h) ih
section
variable {P : Program} {w : World} {K : PySem.W.Frag} {mg : Str → Option Value} {base : Heap} {fa : Nat → Addr} {fd : Nat → FuncData}
def spDerives (K : PySem.W.Frag) : Sp := fun vs H Q _ => ∃ (p0 p1 : Addr) (tv : V) (us0 us1 : List V) (ties : List Tie) (t : Tie) (ds : List PyData) (z : Addr), vs = [.ref p0, tv, .ref p1] ∧ SqX K H p0 us0 ∧ DtAll z (MH H) us0 (ties.map tieDt) ∧
  (Dt z (MH H) tv (tieDt t) ∧ FzT H tv ∧ (t.1.map (·.1)).Nodup ∧ Bn 2048 t.2) ∧ SqX K H p1 us1 ∧ DtAll z H us1 ds ∧ (paperB ties.length (-1) ds = true → SumOk ties (shOf ds)) ∧ ∀ H', Same H H' → Q (.bl (derB ties t ds)) H'
theorem ok_p_derives (T : Txt K mg fa fd) : FnOk P w K mg base CX0 6 (fa 21) (fd 21) ["ties", "tie", "paper"] (spDerives K) := by
  refine T.F_p_derives.ok sc_p_derives (fun vs H Q E h => ?_) (fun cdv A outer s H vs Q E hr h => ?_)
  · obtain ⟨p0, p1, tv, _, _, _, _, _, _, rfl, _⟩ := h
    rfl
  · obtain ⟨p0, p1, tv, us0, us1, ties, ⟨tl, bd⟩, ds, z, rfl, h0, hd0, ⟨hdt, hfz, ndt, bnt⟩, h1, hd1, ok, q⟩ := h
    refine ⟨_, (C8.pss_cut (ps_if (pt_not (pt_val (pe_call (ok_p_is_paper T) (hr.mono (by decide)) (by rfl) T.g_p_is_paper T.F_p_is_paper.kp T.b_p_is_paper .nil pass0 (pa_cons (pv 2) (pa_cons (pe_callB call_len_seq (by rfl) T.m_len PySem.boot_len (pa_cons (pv 0) pa_nil)) pa_nil))))) (pss_one (ps_ret pe_bl)) pss_nil)
      (C8.pss_cut (ps_asg (pv 1) (pg_tup (by rfl) (pgs_cons (pg_name (i := 3) sc_p_derives.nd rfl (.inl rfl)) (pgs_cons (pg_name (i := 4) sc_p_derives.nd rfl (.inl rfl)) pgs_nil))))
      (C8.pss_cut (ps_asg (pe_call (ok_p_total T) (hr.mono (by decide)) (by rfl) T.g_p_total T.F_p_total.kp T.b_p_total .nil pass0 (pa_cons (pv 0) (pa_cons (pv 2) pa_nil))) (pg_tup (by rfl) (pgs_cons (pg_name (i := 5) sc_p_derives.nd rfl (.inl rfl)) (pgs_cons (pg_name (i := 6) sc_p_derives.nd rfl (.inl rfl)) pgs_nil))))
      (C8.pss_cut (ps_if (pt_cmpR (op_eq_dictGK (K := K) rfl (room65 hr)) (pv 5) pe_dnewK (nomark _)) (pss_one (ps_ret (pe_call (ok_p_is_less T) (hr.mono (by decide)) (by rfl) T.g_p_is_less T.F_p_is_less.kp T.b_p_is_less .nil pass0 (pa_cons (pv 6) (pa_cons (C8.pe_gc (by rfl) T.c_ZERO) pa_nil))))) pss_nil)
      (pss_one (ps_ret (pe_and (pe_cmpR (op_eq_dictGK (K := K) rfl (room65 hr)) (pv 5) (pe_callTy (call_dictTK (K := K) rfl rfl) (by rfl) T.m_dict (by decide +kernel) (pa_cons (pv 3) pa_nil)) (nomark _)) (pe_one (pe_not (pe_call (ok_p_is_less T) (hr.mono (by decide)) (by rfl) T.g_p_is_less T.F_p_is_less.kp T.b_p_is_less .nil pass0 (pa_cons (pv 4) (pa_cons (pv 6) pa_nil)))))))))))), ?_⟩
    have ul : us0.length = ties.length := by
      have := hd0.len
      rw [List.length_map] at this
      exact this
    refine ⟨fun σ H1 => H1 = H ∧ paperB ties.length (-1) ds = true ∧ σ = [some (.ref p0), some tv, some (.ref p1), none, none, none, none], ?_, fun σ H1 hM => ?_⟩
    · refine ⟨_, rfl, _, rfl, p0, us0, rfl, h0, ?_⟩
      rw [ul]
      refine ⟨p1, us1, ds, z, _, rfl, h1, hd1, ?_⟩
      refine ⟨_, rfl, ?_⟩
      cases e : paperB ties.length (-1) ds with
      | false =>
        refine iteT ?_
        have := q H (fun _ _ e => e)
        unfold derB at this
        rw [e] at this
        exact this
      | true => exact iteF ⟨rfl, rfl, rfl⟩
    obtain ⟨rfl, ep, rfl⟩ := hM
    have ok := ok ep
    have eds := paper_sh ep
    rw [← eds] at hd1
    obtain ⟨pt, pl, pmv, od, xs, rfl, hpt, hpl, hdn⟩ := hfz
    obtain ⟨pt', pl', yb, xsl, e1, hpt', hpl', hls, hb2⟩ := tie_inv (show Dt z (MH H1) (.ref pt) (.tuple [.tuple (tl.map tmP), frP bd]) from hdt)
    cases e1
    rw [hpt] at hpt'
    cases hpt'
    rw [mh_frz hpl] at hpl'
    cases hpl'
    obtain ⟨pm, rfl, hpm⟩ := dt_fr hb2
    obtain ⟨ps, kv2, rfl, hpp, hpT⟩ := terms_paired (K := K) hls
    refine ⟨fun σ H2 => H2 = H1 ∧ σ = [some (.ref p0), some (.ref pt), some (.ref p1), some (.ref pl), some (.ref pm), none, none], ⟨_, rfl, pt, _, rfl, mh_sq hpt, rfl, _, _, rfl, _, _, rfl, rfl, rfl, rfl⟩, fun σ H2 hM => ?_⟩
    obtain ⟨rfl, rfl⟩ := hM
    refine ⟨fun σ G => Same H2 G ∧ ∃ d pb, RD K G d (sumN ties (shOf ds)) (valL (sumIt ties (shOf ds))) ∧ FrK K G pb (sumF ties (shOf ds)) ∧ σ = [some (.ref p0), some (.ref pt), some (.ref p1), some (.ref pl), some (.ref pm), some (.ref d), some (.ref pb)], ?_, fun σ G hM => ?_⟩
    · refine ⟨_, rfl, _, rfl, p0, p1, us0, us1, ties, shOf ds, z, rfl, h0, hd0, h1, hd1, ok, fun o d pb H' s _ ho hd hb => ?_⟩
      exact ⟨o, _, rfl, .inl (.inl ho), rfl, _, _, rfl, _, _, rfl, rfl, s, d, pb, hd, hb, rfl⟩
    obtain ⟨s2, d, pb, ⟨kvs, hk, hR⟩, hb, rfl⟩ := hM
    have kl : kvs.length = (sumN ties (shOf ds)).length := hR.len
    unfold derB at q
    rw [ep, Bool.true_and] at q
    refine ⟨fun σ G1 => Same H2 G1 ∧ Same G G1 ∧ ¬ (sumN ties (shOf ds)).length = 0 ∧ σ = [some (.ref p0), some (.ref pt), some (.ref p1), some (.ref pl), some (.ref pm), some (.ref d), some (.ref pb)], ?_, fun σ G1 hM => ?_⟩
    · refine ⟨_, rfl, fun nd hn => ?_⟩
      have so := same_upd (o := HO.dK []) hn
      refine ⟨d, nd, kvs, [], fun _ => false, rfl, rfl, so _ _ hk, upd_same, fun p _ => .inl ⟨rfl, rfl⟩, _, rfl, ?_⟩
      rw [no_keys]
      rw [kl]
      by_cases c : (sumN ties (shOf ds)).length = 0
      · rw [if_pos c] at q
        refine iteT' (decide_eq_true c) ?_
        exact ⟨_, rfl, pb, fa 2000, sumF ties (shOf ds), (0, 1), rfl, SqT.sm so _ _ hb, T.z_ZERO _, sumF_ok ok, bn_01.mono (by decide), q _ (s2.trans so)⟩
      · exact iteF' (decide_eq_false c) ⟨s2.trans so, so, c, rfl⟩
    obtain ⟨s3, s4, c, rfl⟩ := hM
    rw [if_neg c] at q
    have tr := Tr.sm (K := K) (s2.trans s4)
    have hR1 := hR.mono (Tr.sm (s4))
    have hpp1 := paired_imp (fun p kv h => tr.1 p _ h) hpp
    refine ⟨_, rfl, _, rfl, pl, ps, kv2, rfl, .inl ⟨od, s3 _ _ hpl, hdn⟩, hpp1, fun nd hn => ?_⟩
    have so := same_upd (o := HO.dK kv2) hn
    have nd2 : ((([] : List (Key × V)) ++ kv2).map (·.1)).Nodup := by
      rw [List.nil_append, tm_keys hpT]
      have := key_nodup ndt
      rw [List.map_map] at this
      exact this
    rw [merge_new kv2 [] nd2, List.nil_append]
    have hT1 : Paired (TmE K (upd G1 nd (.dK kv2))) kv2 tl := paired_imp (fun kv u h => ⟨h.1, h.2.choose, h.2.choose_spec.1, SqT.sm (s3.trans so) _ _ h.2.choose_spec.2⟩) hpT
    have hR2 := hR1.mono (Tr.sm so)
    refine ⟨d, nd, kvs, kv2, eK (valL (sumIt ties (shOf ds))) tl, rfl, rfl, so _ _ (s4 _ _ hk), upd_same, eqE_rates hR2 hT1, _, rfl, ?_⟩
    rw [eq_rates hR2 hT1]
    cases e : eqT (sumN ties (shOf ds)) (valL (sumIt ties (shOf ds))) tl with
    | false =>
      have q : ∀ H', Same H2 H' → Q (V.bl (eqT (sumN ties (shOf ds)) (valL (sumIt ties (shOf ds))) tl && !ltF bd (sumF ties (shOf ds)))) H' := q
      rw [e] at q
      exact iteF (q _ (s3.trans so))
    | true =>
      have q : ∀ H', Same H2 H' → Q (V.bl (eqT (sumN ties (shOf ds)) (valL (sumIt ties (shOf ds))) tl && !ltF bd (sumF ties (shOf ds)))) H' := q
      rw [e] at q
      refine iteT ⟨_, rfl, _, rfl, pm, pb, bd, sumF ties (shOf ds), rfl, mh_sq (mh_same (s3.trans so) _ _ hpm), SqT.sm (s4.trans so) _ _ hb, bnt, sumF_ok ok, ?_⟩
      exact ⟨_, rfl, q _ (s3.trans so)⟩
end
section
variable {P : Program} {w : World} {K : PySem.W.Frag} {mg : Str → Option Value} {base : Heap} {fa : Nat → Addr} {fd : Nat → FuncData}
theorem small_log2 {v : Int} (h : v.natAbs ≤ 8000) : v.natAbs.log2 < 4096 := log2_mono (b := 8000) h (by decide +kernel)
theorem mid_of {m : Int} (h : 0 < m) (h2 : m ≤ 8000) : Mid m := ⟨h, Nat.lt_trans (small_log2 (by omega)) (by decide)⟩
theorem low_ratD {u v : Int} (hv : v ≠ 0) : ratD (.tuple [.int (lowT u v), .int (lowD u v)]) = true := by
  have h1 := lowD_pos (u := u) hv
  have h2 := low_gcd (u := u) hv
  show (decide (1 ≤ lowD u v) && decide (Int.gcd (lowT u v) (lowD u v) = 1)) = true
  rw [decide_eq_true (show 1 ≤ lowD u v by omega), decide_eq_true h2]
  rfl
theorem new_ne {H : Hp} {a c p : Addr} (h : FeedOk H a c) (n : H p = none) : p ≠ a := by
  obtain ⟨_, _, _, _, ha, _⟩ := h
  exact (ne_of_none ha n).symm
/-- a fraction -/
abbrev frD (t u : Int) : PyData := .tuple [.int t, .int u]
def RatAt (z : Addr) (H : Hp) (v : V) (t u : Int) : Prop := Dt z H v (frD t u) ∧ ratD (frD t u) = true
def spPart : Sp := fun vs H Q _ => ∃ (a c : Addr) (n : Int), vs = [.ref a, .int n] ∧ FeedOk H a c ∧ 0 < n ∧ n ≤ 1000 ∧ ∀ v t u H', FeedOk H' a c → But a H H' → RatAt a H' v t u → t.natAbs ≤ n.natAbs → u.natAbs ≤ 4 → Q v H'
theorem ok_part (T : Txt K mg fa fd) : FnOk P w K mg base CX0 3 (fa 33) (fd 33) ["_law_feed_here", "_law_size"] spPart := by
  refine T.F_part.ok sc_part (fun vs H Q E h => ?_) (fun cdv A outer s H vs Q E hr h => ?_)
  · obtain ⟨a, c, n, rfl, _⟩ := h
    rfl
  · obtain ⟨a, c, n, rfl, hF, h0, h1, q⟩ := h
    refine ⟨_, (pss_cons (ps_set (i := 2) sc_part.nd rfl (.inl rfl) (pe_op op_sub (pe_call (ok_draw T) (hr.mono (by decide)) (by rfl) T.g_draw T.F_draw.kp T.b_draw .nil pass0 (pa_cons (pv 0) (pa_cons (pe_op op_add (pe_op op_mul pe_int (pv 1)) pe_int) pa_nil))) (pv 1)))
      (pss_one (ps_ret (pe_call (ok_low T) (hr.mono (by decide)) (by rfl) T.g_low T.F_low.kp T.b_low .nil pass0 (pa_cons (pv 2) (pa_cons (pe_ifExp (pt_cmpR op_eq (pe_call (ok_draw T) (hr.mono (by decide)) (by rfl) T.g_draw T.F_draw.kp T.b_draw .nil pass0 (pa_cons (pv 0) (pa_cons pe_int pa_nil))) pe_int (nomark _)) pe_int (pe_op op_add pe_int (pe_call (ok_draw T) (hr.mono (by decide)) (by rfl) T.g_draw T.F_draw.kp T.b_draw .nil pass0 (pa_cons (pv 0) (pa_cons pe_int pa_nil))))) pa_nil)))))), ?_⟩
    refine ⟨_, rfl, _, rfl, _, _, rfl, rfl, .inl (by decide), _, _, rfl, rfl, a, c, _, rfl, hF, mid_of (by omega) (by omega), fun r H1 r0 r1 hF1 b1 => ?_⟩
    refine ⟨_, rfl, _, _, rfl, rfl, _, rfl, _, rfl, a, c, _, rfl, hF1, mid_of (by decide) (by decide), fun r2 H2 _ _ hF2 b2 => ⟨rfl, _, rfl, ?_⟩⟩
    have fin : ∀ (v : Int) (H3 : Hp), 0 < v → v ≤ 4 → FeedOk H3 a c → But a H H3 → spLow [.int (r - n), .int v] H3 Q E0 := fun v H3 v0 v1 hF3 b3 =>
      ⟨_, _, rfl, by omega, small_log2 (by omega), fun p np => q (.ref p) (lowT (r - n) v) (lowD (r - n) v) _ (hF3.new np) (b3.trans (But.of (same_upd np))) ⟨(dnewT np (.cons (.int _ (small_log2 (Nat.le_trans (lowT_abs (v := v) (by omega)) (by omega)))) (.cons (.int _ (small_log2 (Nat.le_trans (lowD_abs (v := v) (by omega)) (by omega)))) .nil))).2, low_ratD (by omega)⟩ (Nat.le_trans (lowT_abs (v := v) (by omega)) (by omega)) (Nat.le_trans (lowD_abs (v := v) (by omega)) (by omega))⟩
    refine ite2 (fun e => fin 1 H2 (by decide) (by decide) hF2 (b1.trans b2)) (fun e => ?_)
    exact ⟨_, rfl, a, c, _, rfl, hF2, mid_of (by decide) (by decide), fun r3 H3 r4 r5 hF3 b3 => ⟨_, _, rfl, rfl, fin _ H3 (by omega) (by omega) hF3 ((b1.trans b2).trans b3)⟩⟩
def spRate : Sp := fun vs H Q _ => ∃ (a c : Addr), vs = [.ref a] ∧ FeedOk H a c ∧ ∀ v t u H', FeedOk H' a c → But a H H' → RatAt a H' v t u → t ≠ 0 → t.natAbs ≤ 5 → u.natAbs ≤ 3 → Q v H'
theorem small_line' {n : Nat} (h : n ≤ 1000) : n ≤ sizeLine := small_line h
theorem ok_rate (T : Txt K mg fa fd) : FnOk P w K mg base CX0 3 (fa 34) (fd 34) ["_law_feed_here"] spRate := by
  refine T.F_rate.ok sc_rate (fun vs H Q E h => ?_) (fun cdv A outer s H vs Q E hr h => ?_)
  · obtain ⟨a, c, rfl, _⟩ := h
    rfl
  · obtain ⟨a, c, rfl, hF, q⟩ := h
    refine ⟨_, (pss_one (ps_ret (pe_call (ok_any T) (hr.mono (by decide)) (by rfl) T.g_any T.F_any.kp T.b_any .nil pass0 (pa_cons (pv 0) (pa_cons (pe_lst (pa_cons (pe_tup (pa_cons pe_int (pa_cons pe_int pa_nil))) (pa_cons (pe_tup (pa_cons (pe_un un_neg pe_int) (pa_cons pe_int pa_nil))) (pa_cons (pe_tup (pa_cons pe_int (pa_cons pe_int pa_nil))) (pa_cons (pe_tup (pa_cons pe_int (pa_cons pe_int pa_nil))) (pa_cons (pe_tup (pa_cons (pe_un un_neg pe_int) (pa_cons pe_int pa_nil))) (pa_cons (pe_tup (pa_cons pe_int (pa_cons pe_int pa_nil))) (pa_cons (pe_tup (pa_cons pe_int (pa_cons pe_int pa_nil))) (pa_cons (pe_tup (pa_cons (pe_un un_neg pe_int) (pa_cons pe_int pa_nil))) (pa_cons (pe_tup (pa_cons (pe_un un_neg pe_int) (pa_cons pe_int pa_nil))) (pa_cons (pe_tup (pa_cons pe_int (pa_cons pe_int pa_nil))) pa_nil))))))))))) pa_nil))))), ?_⟩
    refine ⟨_, rfl, (small_line (by decide : 2 ≤ 1000)), fun p1 n1 => ?_⟩
    obtain ⟨s1, d1⟩ := dnewT (z := a) n1 (.cons (.int 1 (by decide +kernel)) (.cons (.int 1 (by decide +kernel)) .nil))
    refine ⟨_, rfl, (small_line (by decide : 2 ≤ 1000)), fun p2 n2 => ?_⟩
    obtain ⟨s2, d2⟩ := dnewT (z := a) n2 (.cons (.int (-1) (by decide +kernel)) (.cons (.int 1 (by decide +kernel)) .nil))
    refine ⟨(small_line (by decide : 2 ≤ 1000)), fun p3 n3 => ?_⟩
    obtain ⟨s3, d3⟩ := dnewT (z := a) n3 (.cons (.int 1 (by decide +kernel)) (.cons (.int 1 (by decide +kernel)) .nil))
    refine ⟨(small_line (by decide : 2 ≤ 1000)), fun p4 n4 => ?_⟩
    obtain ⟨s4, d4⟩ := dnewT (z := a) n4 (.cons (.int 2 (by decide +kernel)) (.cons (.int 1 (by decide +kernel)) .nil))
    refine ⟨_, rfl, (small_line (by decide : 2 ≤ 1000)), fun p5 n5 => ?_⟩
    obtain ⟨s5, d5⟩ := dnewT (z := a) n5 (.cons (.int (-2) (by decide +kernel)) (.cons (.int 1 (by decide +kernel)) .nil))
    refine ⟨(small_line (by decide : 2 ≤ 1000)), fun p6 n6 => ?_⟩
    obtain ⟨s6, d6⟩ := dnewT (z := a) n6 (.cons (.int 3 (by decide +kernel)) (.cons (.int 1 (by decide +kernel)) .nil))
    refine ⟨(small_line (by decide : 2 ≤ 1000)), fun p7 n7 => ?_⟩
    obtain ⟨s7, d7⟩ := dnewT (z := a) n7 (.cons (.int 1 (by decide +kernel)) (.cons (.int 2 (by decide +kernel)) .nil))
    refine ⟨_, rfl, (small_line (by decide : 2 ≤ 1000)), fun p8 n8 => ?_⟩
    obtain ⟨s8, d8⟩ := dnewT (z := a) n8 (.cons (.int (-3) (by decide +kernel)) (.cons (.int 2 (by decide +kernel)) .nil))
    refine ⟨_, rfl, (small_line (by decide : 2 ≤ 1000)), fun p9 n9 => ?_⟩
    obtain ⟨s9, d9⟩ := dnewT (z := a) n9 (.cons (.int (-1) (by decide +kernel)) (.cons (.int 1 (by decide +kernel)) .nil))
    refine ⟨(small_line (by decide : 2 ≤ 1000)), fun p10 n10 => ?_⟩
    obtain ⟨s10, d10⟩ := dnewT (z := a) n10 (.cons (.int 5 (by decide +kernel)) (.cons (.int 3 (by decide +kernel)) .nil))
    refine ⟨(small_line (by decide : 10 ≤ 1000)), fun p11 n11 => ?_⟩
    obtain ⟨s11, all, hrw⟩ := drow (z := a) n11 (.cons (d1.same (s2.trans (s3.trans (s4.trans (s5.trans (s6.trans (s7.trans (s8.trans (s9.trans s10))))))))) (.cons (d2.same (s3.trans (s4.trans (s5.trans (s6.trans (s7.trans (s8.trans (s9.trans s10)))))))) (.cons (d3.same (s4.trans (s5.trans (s6.trans (s7.trans (s8.trans (s9.trans s10))))))) (.cons (d4.same (s5.trans (s6.trans (s7.trans (s8.trans (s9.trans s10)))))) (.cons (d5.same (s6.trans (s7.trans (s8.trans (s9.trans s10))))) (.cons (d6.same (s7.trans (s8.trans (s9.trans s10)))) (.cons (d7.same (s8.trans (s9.trans s10))) (.cons (d8.same (s9.trans s10)) (.cons (d9.same s10) (.cons d10 .nil))))))))))
    have sR := (s1.trans (s2.trans (s3.trans (s4.trans (s5.trans (s6.trans (s7.trans (s8.trans (s9.trans (s10.trans s11))))))))))
    refine ⟨a, c, p11, _, rfl, hF.same sR, hrw, new_ne (hF.same (s1.trans (s2.trans (s3.trans (s4.trans (s5.trans (s6.trans (s7.trans (s8.trans (s9.trans s10)))))))))) n11, by show 0 < 10; decide, by show 10 ≤ 1000; decide, fun v H2 hv hF2 b2 => ?_⟩
    obtain ⟨d, hd, h⟩ := all.mem hv
    have h2 := h.but (hF.same sR) b2
    have bb := (But.of (a := a) sR).trans b2
    simp only [List.mem_cons, List.not_mem_nil, or_false] at hd
    rcases hd with rfl | rfl | rfl | rfl | rfl | rfl | rfl | rfl | rfl | rfl <;> exact q _ _ _ _ hF2 bb ⟨h2, by decide +kernel⟩ (by decide) (by decide) (by decide)
end
theorem join_singles : ∀ cs : List Nat, TL.joinL [] (cs.map fun c => [c]) = cs
  | [] => rfl
  | [c] => rfl
  | c :: d :: r => by
    show [c] ++ ([] ++ TL.joinL [] ((d :: r).map fun c => [c])) = c :: d :: r
    rw [join_singles (d :: r)]
    rfl
theorem FeedOk.put {H : Hp} {a c p : Addr} {o : HO} (h : FeedOk H a c) (h1 : p ≠ a) (h2 : p ≠ c) : FeedOk (L2.upd H p o) a c := by
  obtain ⟨ns, k, big, mark, e1, e2, h3⟩ := h
  exact ⟨ns, k, big, mark, by rw [upd_ne h1.symm]; exact e1, by rw [upd_ne h2.symm]; exact e2, h3⟩
theorem but_none {a p : Addr} {H H' : Hp} (b : But a H H') (n : H' p = none) (ne : p ≠ a) : H p = none := by
  cases e : H p with
  | none => rfl
  | some o =>
    rw [b p o ne e] at n
    cases n
theorem But.updN {a p : Addr} {H H' : Hp} {o : HO} (b : But a H H') (n : H p = none) : But a H (L2.upd H' p o) := fun q x hq e => by
  rw [upd_ne (ne_of_none e n)]
  exact b q x hq e
theorem new_nc {H : Hp} {a c p : Addr} (h : FeedOk H a c) (n : H p = none) : p ≠ c := by
  obtain ⟨_, _, _, _, _, hc, _⟩ := h
  exact (ne_of_none hc n).symm
section
variable {P : Program} {w : World} {K : PySem.W.Frag} {mg : Str → Option Value} {base : Heap} {fa : Nat → Addr} {fd : Nat → FuncData}
def spWords : Sp := fun vs H Q _ => ∃ (a c : Addr) (m : Nat), vs = [.ref a, .int (m : Int)] ∧ FeedOk H a c ∧ m ≤ 6 ∧ ∀ (p : Addr) (ws : List (List Nat)) (H' : Hp), FeedOk H' a c → But a H H' → p ≠ a → H' p = some (.lst (ws.map vS)) → ws.length = m → ws.Nodup → (∀ x ∈ ws, LW x) → Q (.ref p) H'
theorem ok_words (T : Txt K mg fa fd) : FnOk P w K mg base CX0 3 (fa 35) (fd 35) ["_law_feed_here", "_law_many"] spWords := by
  refine T.F_words.ok sc_words (fun vs H Q E h => ?_) (fun cdv A outer s H vs Q E hr h => ?_)
  · obtain ⟨a, c, m, rfl, _⟩ := h
    rfl
  · obtain ⟨a, c, m, rfl, hF, hm, q⟩ := h
    refine ⟨_, (C8.pss_cut (ps_set (i := 2) sc_words.nd rfl (.inr rfl) pe_str)
      (C8.pss_cut (ps_set (i := 3) sc_words.nd rfl (.inr rfl) (pe_m1 PySem.F.slot_str_join PySem.F.type_str_join mt_join pe_str (pe_lc (own := [("_law_k", 8)]) (g := gName 8) (tt := tYes) rfl sc_words.nd (pi_range1 (by rfl) T.m_range (pa_cons (pe_call (ok_draw T) (hr.mono (by decide)) (by rfl) T.g_draw T.F_draw.kp T.b_draw .nil pass0 (pa_cons (pv 0) (pa_cons pe_int pa_nil))) pa_nil)) (blkOk_by (own := [("_law_k", 8)]) (N := ["_law_feed_here", "_law_many", "_law_letters", "_law_stem", "_law_spot", "_law_first", "_law_way", "_law_found", "_law_k"]) (sc := defScope s_words) (by decide +kernel)) (fun _ _ _ _ _ => pg_name (i := 8) sc_words.nd rfl (Or.inl rfl)) (fun _ _ _ _ _ => pts_nil) (fun _ _ _ _ _ => (pe_ix ix_str (pv 2) (pe_call (ok_draw T) (hr.mono (by decide)) (by rfl) T.g_draw T.F_draw.kp T.b_draw .nil pass0 (pa_cons (pv 0) (pa_cons pe_int pa_nil))) (fun _ _ => rfl)))) (by rfl) (by rfl) (by rfl)))
      (C8.pss_cut (ps_asg (pe_tup (pa_cons (pe_call (ok_draw T) (hr.mono (by decide)) (by rfl) T.g_draw T.F_draw.kp T.b_draw .nil pass0 (pa_cons (pv 0) (pa_cons (pe_op op_add (pe_callB call_len_str (by rfl) T.m_len PySem.boot_len (pa_cons (pv 3) pa_nil)) pe_int) pa_nil))) (pa_cons (pe_call (ok_draw T) (hr.mono (by decide)) (by rfl) T.g_draw T.F_draw.kp T.b_draw .nil pass0 (pa_cons (pv 0) (pa_cons pe_int pa_nil))) (pa_cons (pe_call (ok_draw T) (hr.mono (by decide)) (by rfl) T.g_draw T.F_draw.kp T.b_draw .nil pass0 (pa_cons (pv 0) (pa_cons pe_int pa_nil))) pa_nil)))) (pg_tup (by rfl) (pgs_cons (pg_name (i := 4) sc_words.nd rfl (.inr rfl)) (pgs_cons (pg_name (i := 5) sc_words.nd rfl (.inr rfl)) (pgs_cons (pg_name (i := 6) sc_words.nd rfl (.inl rfl)) pgs_nil)))))
      (C8.pss_cut (ps_setLc (i := 7) (own := [("_law_k", 8)]) (g := gName 8) (tt := tYes) rfl sc_words.nd rfl rfl (sw_true rfl rfl rfl (by decide +kernel)) (pi_range1 (by rfl) T.m_range (pa_cons (pv 1) pa_nil)) (blkOk_by (own := [("_law_k", 8)]) (N := ["_law_feed_here", "_law_many", "_law_letters", "_law_stem", "_law_spot", "_law_first", "_law_way", "_law_found", "_law_k"]) (sc := defScope s_words) (by decide +kernel)) (fun _ _ _ _ _ => pg_name (i := 8) sc_words.nd rfl (Or.inl rfl)) (fun _ _ _ _ _ => pts_nil) (fun _ _ _ _ _ => (pe_op op_add_str (pe_op op_add_str (pe_slice sl_str (pv 3) po_none (po_some (pv 4))) (pe_ix ix_str (pv 2) (pe_op op_mod (pe_callTy call_int1 (by rfl) T.m_int PySem.Pv.boot_int (pa_cons (pe_op op_add (pv 5) (pe_op op_mul pe_int (pv 8))) pa_nil)) pe_int) (fun _ _ => rfl))) (pe_slice sl_str (pv 3) (po_some (pv 4)) po_none))))
      (C8.pss_cut (ps_if (pt_cmpR op_eq (pv 6) pe_int (nomark _)) (C8.pss_cut (ps_setLc (i := 7) (own := [("_law_k", 8)]) (g := gName 8) (tt := tYes) rfl sc_words.nd rfl rfl (sw_true rfl rfl rfl (by decide +kernel)) (pi_range1 (by rfl) T.m_range (pa_cons (pv 1) pa_nil)) (blkOk_by (own := [("_law_k", 8)]) (N := ["_law_feed_here", "_law_many", "_law_letters", "_law_stem", "_law_spot", "_law_first", "_law_way", "_law_found", "_law_k"]) (sc := defScope s_words) (by decide +kernel)) (fun _ _ _ _ _ => pg_name (i := 8) sc_words.nd rfl (Or.inl rfl)) (fun _ _ _ _ _ => pts_nil) (fun _ _ _ _ _ => (pe_slice sl_str (pe_op op_add_str (pe_slice sl_str (pv 3) po_none (po_some pe_int)) (pe_op op_mul_str (pe_ix ix_str (pv 2) (pe_op op_mod (pe_callTy call_int1 (by rfl) T.m_int PySem.Pv.boot_int (pa_cons (pe_op op_add (pv 5) (pe_op op_mul pe_int (pv 8))) pa_nil)) pe_int) (fun _ _ => rfl)) (pe_op op_add pe_int (pe_op op_mod (pe_callTy call_int1 (by rfl) T.m_int PySem.Pv.boot_int (pa_cons (pe_op op_add (pv 8) (pv 5)) pa_nil)) pe_int)))) (po_some (pe_un un_neg pe_int)) po_none)))
      (pss_one (ps_set (i := 7) sc_words.nd rfl (.inl rfl) (pe_ifExp (pt_cmpR op_eq (pe_callB call_len_seq (by rfl) T.m_len PySem.boot_len (pa_cons (pe_callB (cr_sortedW rfl) (by rfl) T.m_sorted (by decide +kernel) (pa_cons (pe_callTy (cr_setS rfl) (by rfl) T.m_set (by decide +kernel) (pa_cons (pv 7) pa_nil)) pa_nil)) pa_nil)) (pv 1) (nomark _)) (pv 7) (pe_lc (own := [("_law_k", 8)]) (g := gName 8) (tt := tYes) rfl sc_words.nd (pi_range1 (by rfl) T.m_range (pa_cons (pv 1) pa_nil)) (blkOk_by (own := [("_law_k", 8)]) (N := ["_law_feed_here", "_law_many", "_law_letters", "_law_stem", "_law_spot", "_law_first", "_law_way", "_law_found", "_law_k"]) (sc := defScope s_words) (by decide +kernel)) (fun _ _ _ _ _ => pg_name (i := 8) sc_words.nd rfl (Or.inl rfl)) (fun _ _ _ _ _ => pts_nil) (fun _ _ _ _ _ => (pe_ix ix_str (pv 2) (pe_op op_mod (pe_callTy call_int1 (by rfl) T.m_int PySem.Pv.boot_int (pa_cons (pe_op op_add (pv 5) (pe_op op_mul pe_int (pv 8))) pa_nil)) pe_int) (fun _ _ => rfl)))))))) pss_nil)
      (pss_one (ps_ret (pv 7)))))))), ?_⟩
    refine ⟨fun σ H1 => H1 = H ∧ σ = [some (.ref a), some (.int m), some (.str ABC), none, none, none, none, none, none], ⟨rfl, rfl⟩, fun σ H1 hM => ?_⟩
    obtain ⟨rfl, rfl⟩ := hM
    -- stem
    refine ⟨fun σ H2 => FeedOk H2 a c ∧ But a H1 H2 ∧ ∃ st : List Nat, st.length ≤ 5 ∧ st.all lowc = true ∧ σ = [some (.ref a), some (.int m), some (.str ABC), some (vS st), none, none, none, none, none], ?_, fun σ H2 hM => ?_⟩
    · refine ⟨⟨_, rfl⟩, _, rfl, a, c, _, rfl, hF, mid_of (by decide) (by decide), fun r H2 r0 r1 hF2 b2 => ?_⟩
      refine ⟨r, rfl, by omega, by omega, fun D nD => ?_⟩
      obtain ⟨n, rfl⟩ := Int.eq_ofNat_of_zero_le r0
      have nDa := new_ne hF2 nD
      have nDc := new_nc hF2 nD
      have nD1 := but_none b2 nD nDa
      refine lc_range (n := n) (fun i H3 => FeedOk H3 a c ∧ But a H1 H3 ∧ ∃ st : List Nat, st.length = i ∧ st.all lowc = true ∧ H3 D = some (.lst (st.map fun c => vS [c]))) ⟨hF2.new nD, b2.updN nD1, [], rfl, rfl, upd_same⟩ (fun i H3 hi hp => ?_) (fun H3 hp => ?_)
      · obtain ⟨hF3, b3, st, hl, hs, hD⟩ := hp
        refine ⟨rfl, _, rfl, _, rfl, a, c, _, rfl, hF3, mid_of (by decide) (by decide), fun r2 H4 r3 r4 hF4 b4 => ?_⟩
        refine ⟨_, _, _, rfl, rfl, small_line (by decide), abc_at r3 r4, _, b4 _ _ nDa hD, ?_, hF4.put nDa nDc, (b3.trans b4).updN nD1, st ++ [97 + r2.toNat], ?_, ?_, ?_⟩
        · rw [List.length_map]
          exact small1000 (by omega)
        · rw [List.length_append, hl]
          rfl
        · rw [List.all_append, hs, Bool.true_and]
          simp [low_abc (show r2.toNat < 26 by omega)]
        · rw [upd_same, List.map_append]
          rfl
      · obtain ⟨hF3, b3, st, hl, hs, hD⟩ := hp
        have em : (st.map fun c => vS [c]) = (st.map fun c => SX.S [c]).map V.str := by rw [List.map_map]; rfl
        refine ⟨_, D, st.map fun c => SX.S [c], rfl, rfl, .inl (SqL.of (by rw [← em]; exact hD)), ?_, hF3, b3, st, by omega, hs, ?_⟩
        · have : ∀ l : List Nat, ((l.map fun c => SX.S [c]).map (·.length)).sum = l.length := fun l => by
            induction l with
            | nil => rfl
            | cons x l ih =>
              rw [List.map_cons, List.map_cons, List.sum_cons, ih, List.length_cons, SX.S_len]
              exact Nat.add_comm _ _
          rw [this, List.length_map]
          show st.length + st.length * 0 ≤ _
          omega
        · have e : Txt.join (Str.ofString "") (st.map fun c => SX.S [c]) = SX.S st := by
            have := SX.join_S [] (st.map fun c => [c])
            rw [join_singles, List.map_map] at this
            exact this
          rw [e]
          rfl
    · obtain ⟨hF2, b2, st, hst, hsl, rfl⟩ := hM
      -- spot, first, way
      refine ⟨fun σ H3 => FeedOk H3 a c ∧ But a H1 H3 ∧ ∃ (sp f : Nat) (wy : Int), f < 26 ∧ σ = [some (.ref a), some (.int m), some (.str ABC), some (vS st), some (.int sp), some (.int f), some (.int wy), none, none], ?_, fun σ H3 hM => ?_⟩
      · have sl : (SX.S st).length = st.length := SX.S_len st
        refine ⟨_, rfl, _, rfl, _, rfl, small_line (by omega), _, _, rfl, rfl, a, c, _, rfl, hF2, mid_of (by omega) (by omega), fun r H3 r0 r1 hF3 b3 => ?_⟩
        refine ⟨_, rfl, a, c, _, rfl, hF3, mid_of (by decide) (by decide), fun r2 H4 r3 r4 hF4 b4 => ?_⟩
        refine ⟨_, rfl, a, c, _, rfl, hF4, mid_of (by decide) (by decide), fun r5 H5 _ _ hF5 b5 => ?_⟩
        refine ⟨small_line (by show 3 ≤ 1000; decide), fun p np => ⟨p, _, rfl, .inl (.inl upd_same), rfl, _, _, rfl, _, _, rfl, _, _, rfl, rfl, ?_⟩⟩
        obtain ⟨sp, rfl⟩ := Int.eq_ofNat_of_zero_le r0
        obtain ⟨f, rfl⟩ := Int.eq_ofNat_of_zero_le r3
        exact ⟨hF5.new np, (b2.trans (b3.trans (b4.trans b5))).trans (But.of (same_upd np)), sp, f, r5, by omega, rfl⟩
      · clear hF2 b2 H2
        obtain ⟨hF3, b3, sp, f, wy, hf, rfl⟩ := hM
        -- found
        refine ⟨fun σ H4 => FeedOk H4 a c ∧ But a H1 H4 ∧ ∃ p, p ≠ a ∧ H4 p = some (.lst (((List.range m).map fun k => st.take sp ++ [five f k] ++ st.drop sp).map vS)) ∧ σ = [some (.ref a), some (.int m), some (.str ABC), some (vS st), some (.int sp), some (.int f), some (.int wy), some (.ref p), none], ?_, fun σ H4 hM => ?_⟩
        · refine ⟨_, rfl, _, rfl, by omega, by omega, fun D nD => ?_⟩
          have nDa := new_ne hF3 nD
          have nDc := new_nc hF3 nD
          have nD1 := but_none b3 nD nDa
          have sl : (SX.S st).length = st.length := SX.S_len st
          refine lc_range (n := m) (fun i H4 => FeedOk H4 a c ∧ But a H1 H4 ∧ H4 D = some (.lst (((List.range i).map fun k => st.take sp ++ [five f k] ++ st.drop sp).map vS))) ⟨hF3.new nD, b3.updN nD1, upd_same⟩ (fun i H4 hi hp => ?_) (fun H4 hp => ⟨hp.1, hp.2.1, D, nDa, hp.2.2, rfl⟩)
          obtain ⟨hF4, b4, hD⟩ := hp
          have m0 : (0 : Int) ≤ ((f : Int) + 5 * (0 + (i : Int))) % 26 := by omega
          have m1 : ((f : Int) + 5 * (0 + (i : Int))) % 26 < 26 := by omega
          have m2 : 97 + (((f : Int) + 5 * (0 + (i : Int))) % 26).toNat = five f i := by
            unfold five
            omega
          have it := abc_at m0 m1
          rw [m2] at it
          refine ⟨rfl, _, rfl, _, rfl, _, rfl, _, rfl, small_line (by omega), _, rfl, _, rfl, _, rfl, _, _, rfl, rfl, .inl (by decide), _, _, rfl, rfl, .inl ⟨_, rfl, _, _, rfl, rfl, (by show (0 : Int) < 26; decide), ?_⟩⟩
          refine ⟨_, _, _, rfl, rfl, small_line (by decide), it, _, _, rfl, rfl, ?_, _, rfl, _, rfl, _, rfl, _, rfl, small_line (by omega), _, _, rfl, rfl, ?_, _, hD, ?_, ?_, ?_, ?_⟩
          · rw [cut_to, SX.S_len, List.length_take]
            exact small_line (by show min sp st.length + 1 ≤ 1000; omega)
          · rw [cut_to, cut_from, show ({ cps := #[five f i] } : Str) = SX.S [five f i] from rfl, SX.S_cat, SX.S_len, SX.S_len, List.length_append, List.length_take, List.length_drop]
            exact small_line (by show min sp st.length + 1 + (st.length - sp) ≤ 1000; omega)
          · rw [List.length_map, List.length_map, List.length_range]
            exact small1000 (by omega)
          · exact hF4.put nDa nDc
          · exact b4.updN nD1
          · rw [upd_same, cut_to, cut_from, show ({ cps := #[five f i] } : Str) = SX.S [five f i] from rfl, SX.S_cat, SX.S_cat, List.range_succ, List.map_append, List.map_append]
            rfl
        · clear hF3 b3 H3
          obtain ⟨hF4, b4, p, npa, hp, rfl⟩ := hM
          have lw0 : ∀ x ∈ (List.range m).map fun k => st.take sp ++ [five f k] ++ st.drop sp, LW x := fun x hx => by
            obtain ⟨k, hk, rfl⟩ := List.mem_map.mp hx
            exact LW.put hst hsl (low_abc (Nat.mod_lt _ (by decide)))
          have nd0 : ((List.range m).map fun k => st.take sp ++ [five f k] ++ st.drop sp).Nodup := nodup_range_map fun i j hi hj e => five_inj (by omega) (by omega) (put_inj e)
          -- way
          refine ⟨fun σ H5 => ∃ (p : Addr) (ws : List (List Nat)), FeedOk H5 a c ∧ But a H1 H5 ∧ p ≠ a ∧ H5 p = some (.lst (ws.map vS)) ∧ ws.length = m ∧ ws.Nodup ∧ (∀ x ∈ ws, LW x) ∧ σ = [some (.ref a), some (.int m), some (.str ABC), some (vS st), some (.int sp), some (.int f), some (.int wy), some (.ref p), none], ?_, fun σ H5 hM => ?_⟩
          · refine ⟨_, rfl, rfl, _, rfl, ite2 (fun _ => ?_) (fun _ => ⟨p, _, hF4, b4, npa, hp, by rw [List.length_map, List.length_range], nd0, lw0, rfl⟩)⟩
            refine ⟨fun σ H5 => FeedOk H5 a c ∧ But a H1 H5 ∧ ∃ (p : Addr) (ws : List (List Nat)), p ≠ a ∧ H5 p = some (.lst (ws.map vS)) ∧ ws.length = m ∧ (∀ x ∈ ws, LW x) ∧ σ = [some (.ref a), some (.int m), some (.str ABC), some (vS st), some (.int sp), some (.int f), some (.int wy), some (.ref p), none], ?_, fun σ H5 hM => ?_⟩
            · refine ⟨_, rfl, _, rfl, by omega, by omega, fun D nD => ?_⟩
              have nDa := new_ne hF4 nD
              have nDc := new_nc hF4 nD
              have nD1 := but_none b4 nD nDa
              refine lc_range (n := m) (fun i H5 => FeedOk H5 a c ∧ But a H1 H5 ∧ ∃ ws : List (List Nat), ws.length = i ∧ (∀ x ∈ ws, LW x) ∧ H5 D = some (.lst (ws.map vS))) ⟨hF4.new nD, b4.updN nD1, [], rfl, (fun x h => by cases h), upd_same⟩ (fun i H5 hi hp => ?_) (fun H5 hp => by
                obtain ⟨h1, h2, ws, h3, h4, h5⟩ := hp
                exact ⟨h1, h2, D, ws, nDa, h5, h3, h4, rfl⟩)
              obtain ⟨hF5, b5, ws, hl, hw, hD⟩ := hp
              have m0 : (0 : Int) ≤ ((f : Int) + 7 * (0 + (i : Int))) % 26 := by omega
              have m1 : ((f : Int) + 7 * (0 + (i : Int))) % 26 < 26 := by omega
              have it := abc_at m0 m1
              have lc := low_abc (show (((f : Int) + 7 * (0 + (i : Int))) % 26).toNat < 26 by omega)
              generalize 97 + (((f : Int) + 7 * (0 + (i : Int))) % 26).toNat = cd at it lc
              have r0 : 0 ≤ (1 : Int) + ((0 + (i : Int)) + (f : Int)) % 4 := by omega
              have r1 : 1 ≤ ((1 : Int) + ((0 + (i : Int)) + (f : Int)) % 4).toNat := by omega
              have r2 : ((1 : Int) + ((0 + (i : Int)) + (f : Int)) % 4).toNat ≤ 4 := by omega
              have r3 : (1 : Int) + ((0 + (i : Int)) + (f : Int)) % 4 ≤ 4 := by omega
              have sl : (SX.S st).length = st.length := SX.S_len st
              refine ⟨rfl, _, rfl, _, rfl, _, rfl, small_line (by omega), _, rfl, _, rfl, _, rfl, _, _, rfl, rfl, .inl (by decide), _, _, rfl, rfl, .inl ⟨_, rfl, _, _, rfl, rfl, (by show (0 : Int) < 26; decide), ?_⟩⟩
              refine ⟨_, _, _, rfl, rfl, small_line (by decide), it, _, rfl, _, rfl, _, _, rfl, rfl, .inl ⟨_, rfl, _, _, rfl, rfl, (by show (0 : Int) < 4; decide), ?_⟩⟩
              refine ⟨_, _, rfl, rfl, _, _, rfl, rfl, mul_one1 rfl (by omega) (by omega), ?_⟩
              generalize (1 : Int) + ((0 + (i : Int)) + (f : Int)) % 4 = N at r0 r1 r2 r3
              have e1 : cutS (SX.S st) none (some 1) = SX.S (st.take 1) := cut_to st 1
              have e2 : Txt.mul { cps := #[cd] } N = SX.S (List.replicate N.toNat cd) := mul_rep cd N
              have l5 : (st.take 1 ++ List.replicate N.toNat cd).length ≤ 6 := (LW.rep (a := st) hsl lc r1 (by omega)).2.1
              have whole : cutS (cutS (SX.S st) none (some 1) ++ Txt.mul { cps := #[cd] } N) (some (-6)) none = SX.S (st.take 1 ++ List.replicate N.toNat cd) := by
                rw [e1, e2, SX.S_cat]
                exact cut_last _ (k := 6) l5 (by decide)
              refine ⟨_, _, rfl, rfl, ?_, _, rfl, _, rfl, _, rfl, ?_, _, hD, ?_, hF5.put nDa nDc, b5.updN nD1, ws ++ [st.take 1 ++ List.replicate N.toNat cd], ?_, ?_, ?_⟩
              · rw [e1, e2, SX.S_len, SX.S_len, ← List.length_append]
                exact small_line (by omega)
              · rw [e1, e2, SX.S_cat, SX.S_len]
                exact small_line (by omega)
              · rw [List.length_map]
                exact small1000 (by omega)
              · rw [List.length_append, hl]
                rfl
              · intro x hx
                rcases List.mem_append.mp hx with h | h
                · exact hw x h
                · rw [List.mem_singleton.mp h]
                  exact LW.rep hsl lc r1 (by omega)
              · rw [upd_same, List.map_append]
                exact congrArg (fun z => some (HO.lst (ws.map vS ++ [V.str z]))) whole
            · clear hF4 b4 hp npa p nd0 lw0 H4
              obtain ⟨hF5, b5, p, ws, npa, hp, hl, hw, rfl⟩ := hM
              have hpS : H5 p = some (.lst ((ws.map SX.S).map V.str)) := by
                rw [List.map_map]
                exact hp
              have il := insAll_len (ws.map SX.S) []
              rw [List.length_map] at il
              simp only [List.length_nil, Nat.add_zero] at il
              refine ⟨_, rfl, p, _, rfl, SqL.of hpS, by rw [List.length_map]; omega, fun q nq => ⟨q, _, rfl, upd_same, insAll_nodup _ List.nodup_nil, by omega, fun zs r pm _ nr => ?_⟩⟩
              refine ⟨r, _, rfl, .inl (SqL.of upd_same), _, rfl, rfl, _, rfl, ?_⟩
              have sq := same_upd (o := SetW P w q (insAll (ws.map SX.S) [])) nq
              have sr := same_upd (o := .lst (zs.map V.str)) nr
              have sx := sq.trans sr
              have hF7 := hF5.same sx
              have b7 := b5.trans (But.of (a := a) sx)
              have hp7 := sx _ _ hp
              generalize upd (upd H5 q (SetW P w q (insAll (ws.map SX.S) []))) r (.lst (zs.map V.str)) = H7 at hF7 b7 hp7 ⊢
              refine ite2 (fun e => ?_) (fun _ => ?_)
              · have e := V.int.inj (of_decide_eq_true e)
                rw [List.length_map] at e
                have el : (insAll (ws.map SX.S) []).length = (ws.map SX.S).length + ([] : List Str).length := by
                  rw [← pm.length_eq, List.length_map, List.length_nil]
                  omega
                exact ⟨_, rfl, p, ws, hF7, b7, npa, hp7, hl, nodup_S (ins_all_full _ _ el).1, hw, rfl⟩
              · refine ⟨_, rfl, _, rfl, by omega, by omega, fun D nD => ?_⟩
                have nDa := new_ne hF7 nD
                have nDc := new_nc hF7 nD
                have nD1 := but_none b7 nD nDa
                refine lc_range (n := m) (fun i H8 => FeedOk H8 a c ∧ But a H1 H8 ∧ H8 D = some (.lst (((List.range i).map fun k => [five f k]).map vS))) ⟨hF7.new nD, b7.updN nD1, upd_same⟩ (fun i H8 hi hp => ?_) (fun H8 hp => ?_)
                · obtain ⟨hF8, b8, hD⟩ := hp
                  have m0 : (0 : Int) ≤ ((f : Int) + 5 * (0 + (i : Int))) % 26 := by omega
                  have m1 : ((f : Int) + 5 * (0 + (i : Int))) % 26 < 26 := by omega
                  have m2 : 97 + (((f : Int) + 5 * (0 + (i : Int))) % 26).toNat = five f i := by
                    unfold five
                    omega
                  have it := abc_at m0 m1
                  rw [m2] at it
                  refine ⟨rfl, _, rfl, _, rfl, _, rfl, _, _, rfl, rfl, .inl (by decide), _, _, rfl, rfl, .inl ⟨_, rfl, _, _, rfl, rfl, (by show (0 : Int) < 26; decide), ?_⟩⟩
                  refine ⟨_, _, _, rfl, rfl, small_line (by decide), it, _, hD, ?_, hF8.put nDa nDc, b8.updN nD1, ?_⟩
                  · rw [List.length_map, List.length_map, List.length_range]
                    exact small1000 (by omega)
                  · rw [upd_same, List.range_succ, List.map_append, List.map_append]
                    rfl
                · obtain ⟨hF8, b8, hD⟩ := hp
                  refine ⟨D, _, hF8, b8, nDa, hD, by rw [List.length_map, List.length_range], nodup_range_map fun i j hi hj e => five_inj (by omega) (by omega) (List.cons.inj e).1, fun x hx => ?_, rfl⟩
                  obtain ⟨k, hk, rfl⟩ := List.mem_map.mp hx
                  exact LW.one (low_abc (Nat.mod_lt _ (by decide)))
          · obtain ⟨p, ws, hF5, b5, npa, hp, hl, hn, hw, rfl⟩ := hM
            exact ⟨_, rfl, q p ws H5 hF5 b5 npa hp hl hn hw⟩
end
section
variable {P : Program} {w : World} {K : PySem.W.Frag} {mg : Str → Option Value} {base : Heap} {fa : Nat → Addr} {fd : Nat → FuncData}
/-- good terms: what terms are drawn -/
def TrmOk (ws : List (List Nat)) (ts : List (Str × PyData)) : Prop := (ts.length = 1 ∨ ts.length = 2) ∧ termsD (trmD ts) = true ∧ (∀ t ∈ ts, okR t.2 ∧ ∃ x ∈ ws, t.1 = SX.S x)
def spTermsF : Sp := fun vs H Q _ => ∃ (a c p : Addr) (ws : List (List Nat)) (m : Int), vs = [.ref a, .ref p, .int m] ∧ FeedOk H a c ∧ p ≠ a ∧ H p = some (.lst (ws.map vS)) ∧ ws ≠ [] ∧ ws.length ≤ 6 ∧ ws.Nodup ∧ (∀ x ∈ ws, nameB x = true ∧ x.length ≤ 7) ∧
  ∀ (l : Addr) (o : Obj) (vs : List V) (ts : List (Str × PyData)) (H' : Hp), FeedOk H' a c → But a H H' → H' l = some (.frz o (.tup vs)) → o.dict = none → DtAll a H' vs (ts.map trm1) → (ts.map (·.1)).Nodup → TrmOk ws ts → Q (.ref l) H'
theorem ok_terms (T : Txt K mg fa fd) : FnOk P w K mg base CX0 4 (fa 38) (fd 38) ["_law_feed_here", "_law_words_here", "_law_pairs"] spTermsF := by
  refine T.F_terms.ok sc_terms (fun vs H Q E h => ?_) (fun cdv A outer s H vs Q E hr h => ?_)
  · obtain ⟨a, c, p, ws, m, rfl, _⟩ := h
    rfl
  · obtain ⟨a, c, p, ws, m, rfl, hF, npa, hp, ne, hl, hn, hw, q⟩ := h
    refine ⟨_, (C8.pss_cut (ps_set (i := 3) sc_terms.nd rfl (.inl rfl) (pe_call (ok_draw T) (hr.mono (by decide)) (by rfl) T.g_draw T.F_draw.kp T.b_draw .nil pass0 (pa_cons (pv 0) (pa_cons (pe_callB call_len_seq (by rfl) T.m_len PySem.boot_len (pa_cons (pv 1) pa_nil)) pa_nil))))
      (C8.pss_cut (ps_set (i := 4) sc_terms.nd rfl (.inl rfl) (pe_lst (pa_cons (pe_ix ix_list (pv 1) (pv 3) (fun _ _ => rfl)) pa_nil)))
      (C8.pss_cut (ps_if (PW.pt (pw_and (pt_cmpR op_gt (pe_callB call_len_seq (by rfl) T.m_len PySem.boot_len (pa_cons (pv 1) pa_nil)) pe_int (nomark _)) (pw_and1 (pt_cmpR op_lt (pe_call (ok_draw T) (hr.mono (by decide)) (by rfl) T.g_draw T.F_draw.kp T.b_draw .nil pass0 (pa_cons (pv 0) (pa_cons pe_int pa_nil))) (pv 2) (nomark _))))) (pss_one (ps_expr (pe_bm PySem.F.plainAttrs_list PySem.F.slot_list_append PySem.F.type_list_append mt_append (pv 4) (pa_cons (pe_ix ix_list (pv 1) (pe_op op_mod (pe_callTy call_int1 (by rfl) T.m_int PySem.Pv.boot_int (pa_cons (pe_op op_add (pe_op op_add (pv 3) pe_int) (pe_call (ok_draw T) (hr.mono (by decide)) (by rfl) T.g_draw T.F_draw.kp T.b_draw .nil pass0 (pa_cons (pv 0) (pa_cons (pe_op op_sub (pe_callB call_len_seq (by rfl) T.m_len PySem.boot_len (pa_cons (pv 1) pa_nil)) pe_int) pa_nil)))) pa_nil)) (pe_callB call_len_seq (by rfl) T.m_len PySem.boot_len (pa_cons (pv 1) pa_nil))) (fun _ _ => rfl)) pa_nil)))) pss_nil)
      (pss_one (ps_ret (pe_callTy (call_tupleFK (K := K) rfl) (by rfl) T.m_tuple (by decide +kernel) (pa_cons (pe_lc (own := [("_law_name", 5)]) (g := gName 5) (tt := tYes) rfl sc_terms.nd (pi_list (pe_callB cr_sortedS (by rfl) T.m_sorted (by decide +kernel) (pa_cons (pv 4) pa_nil))) (blkOk_by (own := [("_law_name", 5)]) (N := ["_law_feed_here", "_law_words_here", "_law_pairs", "_law_one", "_law_chosen", "_law_name"]) (sc := defScope s_terms) (by decide +kernel)) (fun _ _ _ _ _ => pg_name (i := 5) sc_terms.nd rfl (Or.inl rfl)) (fun _ _ _ _ _ => pts_nil) (fun _ _ _ _ _ => (pe_tup (pa_cons (pv 5) (pa_cons (pe_call (ok_rate T) (hr.mono (by decide)) (by rfl) T.g_rate T.F_rate.kp T.b_rate .nil pass0 (pa_cons (pv 0) pa_nil)) pa_nil))))) pa_nil))))))), ?_⟩
    have l0 : 0 < ws.length := by
      cases ws with
      | nil => exact absurd rfl ne
      | cons _ _ => simp
    have lv : (ws.map vS).length = ws.length := List.length_map ..
    refine ⟨fun σ H1 => FeedOk H1 a c ∧ But a H H1 ∧ ∃ i : Nat, i < ws.length ∧ σ = [some (.ref a), some (.ref p), some (.int m), some (.int i), none, none], ?_, fun σ H1 hM => ?_⟩
    · refine ⟨_, rfl, _, rfl, p, _, rfl, .inl (SqL.of hp), a, c, _, rfl, hF, mid_of (by omega) (by omega), fun r H1 r0 r1 hF1 b1 => ?_⟩
      obtain ⟨i, rfl⟩ := Int.eq_ofNat_of_zero_le r0
      exact ⟨hF1, b1, i, by omega, rfl⟩
    · obtain ⟨hF1, b1, i, hi, rfl⟩ := hM
      have gi : (ws.map vS)[i]? = some (vS ws[i]) := by rw [List.getElem?_map, List.getElem?_eq_getElem hi]; rfl
      -- chosen
      refine ⟨fun σ H2 => Same H1 H2 ∧ ∃ C, C ≠ a ∧ C ≠ c ∧ H C = none ∧ H2 C = some (.lst ([ws[i]].map vS)) ∧ σ = [some (.ref a), some (.ref p), some (.int m), some (.int i), some (.ref C), none], ?_, fun σ H2 hM => ?_⟩
      · refine ⟨_, rfl, _, rfl, p, _, _, _, rfl, rfl, SqL.of (b1 _ _ npa hp), at_of (j := i) rfl gi, small_line (by show 1 ≤ 1000; decide), fun C nC => ?_⟩
        exact ⟨same_upd nC, C, new_ne hF1 nC, new_nc hF1 nC, but_none b1 nC (new_ne hF1 nC), upd_same, rfl⟩
      · obtain ⟨s2, C, nCa, nCc, nC, hC, rfl⟩ := hM
        have hF2 := hF1.same s2
        have b2 := b1.trans (But.of (a := a) s2)
        clear hF1 b1 s2 H1
        -- one more
        refine ⟨fun σ H3 => FeedOk H3 a c ∧ But a H H3 ∧ ∃ xs : List (List Nat), (xs.length = 1 ∨ xs.length = 2) ∧ xs.Nodup ∧ (∀ x ∈ xs, x ∈ ws) ∧ H3 C = some (.lst (xs.map vS)) ∧ σ = [some (.ref a), some (.ref p), some (.int m), some (.int i), some (.ref C), none], ?_, fun σ H3 hM => ?_⟩
        · have stay : ∀ H3, FeedOk H3 a c → But a H2 H3 → (FeedOk H3 a c ∧ But a H H3 ∧ ∃ xs : List (List Nat), (xs.length = 1 ∨ xs.length = 2) ∧ xs.Nodup ∧ (∀ x ∈ xs, x ∈ ws) ∧ H3 C = some (.lst (xs.map vS)) ∧ [some (V.ref a), some (.ref p), some (.int m), some (.int (i : Int)), some (.ref C), none] = [some (.ref a), some (.ref p), some (.int m), some (.int i), some (.ref C), none]) := fun H3 hF3 b3 =>
            ⟨hF3, b2.trans b3, [ws[i]], .inl rfl, by simp, fun x hx => by rw [List.mem_singleton.mp hx]; exact List.getElem_mem hi, b3 _ _ nCa hC, rfl⟩
          refine ⟨_, rfl, p, _, rfl, .inl (SqL.of (b2 _ _ npa hp)), _, _, rfl, rfl, _, rfl, ite2 (fun e => ?_) (fun _ => stay H2 hF2 (But.refl _ _))⟩
          have e : (1 : Int) < ((ws.map vS).length : Int) := of_decide_eq_true e
          rw [lv] at e
          refine ⟨_, rfl, a, c, _, rfl, hF2, mid_of (by decide) (by decide), fun r H3 _ _ hF3 b3 => ?_⟩
          refine ⟨_, rfl, _, _, rfl, rfl, _, rfl, ite2 (fun _ => ?_) (fun _ => stay H3 hF3 b3)⟩
          have hp3 := b3 _ _ npa (b2 _ _ npa hp)
          refine ⟨_, rfl, .inl ⟨rfl, _, SqL.of (b3 _ _ nCa hC)⟩, _, rfl, _, rfl, _, _, rfl, rfl, _, rfl, _, rfl, p, _, rfl, .inl (SqL.of hp3), _, _, rfl, rfl, a, c, _, rfl, hF3, mid_of (by omega) (by omega), fun r2 H4 r3 r4 hF4 b4 => ?_⟩
          rw [lv] at r4
          have hp4 := b4 _ _ npa hp3
          have hC4 := b4 _ _ nCa (b3 _ _ nCa hC)
          obtain ⟨j, hj, ej, ji⟩ : ∃ j : Nat, j < ws.length ∧ ((i : Int) + 1 + r2) % ((ws.map vS).length : Int) = (j : Int) ∧ j ≠ i := by
            rw [lv]
            refine ⟨(((i : Int) + 1 + r2) % (ws.length : Int)).toNat, ?_, ?_, ?_⟩
            · have h1 := Int.emod_lt_of_pos ((i : Int) + 1 + r2) (show (0 : Int) < ws.length by omega)
              omega
            · have h0 := Int.emod_nonneg ((i : Int) + 1 + r2) (show (ws.length : Int) ≠ 0 by omega)
              omega
            · intro z
              have h0 := Int.emod_nonneg ((i : Int) + 1 + r2) (show (ws.length : Int) ≠ 0 by omega)
              by_cases c1 : (i : Int) + 1 + r2 < ws.length
              · rw [Int.emod_eq_of_lt (by omega) c1] at z
                omega
              · have e2 : ((i : Int) + 1 + r2) % (ws.length : Int) = (i : Int) + 1 + r2 - ws.length := by
                  rw [← Int.sub_emod_right, Int.emod_eq_of_lt (by omega) (by omega)]
                rw [e2] at z
                omega
          have gj : (ws.map vS)[j]? = some (vS ws[j]) := by rw [List.getElem?_map, List.getElem?_eq_getElem hj]; rfl
          refine ⟨_, _, rfl, rfl, .inl ⟨_, rfl, _, rfl, p, _, rfl, .inl (SqL.of hp4), _, _, rfl, rfl, (by show (0 : Int) < _; omega), p, _, _, _, rfl, rfl, SqL.of hp4, at_of (j := j) ej gj, ?_⟩⟩
          refine ⟨C, _, _, rfl, rfl, hC4, small1000 (by show 1 ≤ 1000; decide), ?_⟩
          refine ⟨hF4.put nCa nCc, ((b2.trans b3).trans b4).updN nC, [ws[i], ws[j]], .inr rfl, ?_, ?_, upd_same, rfl⟩
          · refine List.nodup_cons.mpr ⟨fun z => ?_, by simp⟩
            rw [List.mem_singleton] at z
            exact ji (nd_ix hn (List.getElem?_eq_getElem hi) (by rw [List.getElem?_eq_getElem hj, z])).symm
          · intro x hx
            rcases List.mem_cons.mp hx with rfl | hx
            · exact List.getElem_mem hi
            · rw [List.mem_singleton.mp hx]
              exact List.getElem_mem hj
        · clear hC hF2 b2 H2
          obtain ⟨hF3, b3, xs, hx, hxn, hxw, hC, rfl⟩ := hM
          have hCS : H3 C = some (.lst ((xs.map SX.S).map V.str)) := by
            rw [List.map_map]
            exact hC
          refine ⟨_, rfl, C, _, rfl, SqL.of hCS, by rw [List.length_map]; omega, fun zs r pm srt nr => ?_⟩
          have sr := same_upd (o := .lst (zs.map V.str)) nr
          have hF4 := hF3.same sr
          have b4 := b3.trans (But.of (a := a) sr)
          have nra := new_ne hF3 nr
          have nr0 := but_none b3 nr nra
          have hr4 : (upd H3 r (.lst (zs.map V.str))) r = some (.lst (zs.map V.str)) := upd_same
          generalize upd H3 r (.lst (zs.map V.str)) = H4 at hF4 b4 hr4 ⊢
          refine ⟨r, rfl, ⟨_, SqL.of hr4⟩, fun D nD => ?_⟩
          have nDa := new_ne hF4 nD
          have nDc := new_nc hF4 nD
          have nD0 := but_none b4 nD nDa
          have nDr : r ≠ D := ne_of_none hr4 nD
          have zl : zs.length ≤ 2 := by
            rw [pm.length_eq, List.length_map]
            omega
          refine lc_list (K := K) (a := r) (xs := zs.map V.str) (fun i H5 => FeedOk H5 a c ∧ But a H H5 ∧ H5 r = some (.lst (zs.map V.str)) ∧ ∃ (vs : List V) (ts : List (Str × PyData)), H5 D = some (.lst vs) ∧ DtAll a H5 vs (ts.map trm1) ∧ ts.map (·.1) = zs.take i ∧ ∀ t ∈ ts, okR t.2)
            ⟨hF4.new nD, b4.updN nD0, same_upd nD _ _ hr4, [], [], upd_same, .nil, rfl, fun t h => by cases h⟩ (fun i H5 _ hq => SqL.of hq.2.2.1) (fun i x H5 hx hq => ?_) (fun H5 hq => ?_)
          · obtain ⟨hF5, b5, hr5, vs, ts, hD, hts, hnm, hok⟩ := hq
            rw [List.getElem?_map] at hx
            obtain ⟨x, hxz, rfl⟩ := Option.map_eq_some_iff.mp hx
            refine ⟨rfl, _, rfl, _, rfl, a, c, rfl, hF5, fun v t u H6 hF6 b6 hR t0 tb ub => ⟨two_line, fun e ne => ?_⟩⟩
            have hD6 := b6 _ _ nDa hD
            have xl : x.length ≤ 1000 := by
              obtain ⟨y, hy, rfl⟩ := List.mem_map.mp (pm.mem_iff.mp (List.mem_of_getElem? hxz))
              rw [SX.S_len]
              have := (hw y (hxw y hy)).2
              omega
            obtain ⟨se, de⟩ := dnewT (z := a) ne (.cons (.str x xl) (.cons hR.1 .nil))
            have hD7 := se _ _ hD6
            have hts7 := hts.tups (z' := a) ((TT.but hF5 b6).trans (TT.of se)) _ _ (noLs_trms hok)
            have vl : vs.length < sizeLine := by
              have e1 := hts.len
              rw [List.length_map, ← List.length_map (f := Prod.fst) (as := ts), hnm, List.length_take] at e1
              exact small1000 (by omega)
            refine ⟨vs, hD7, vl, (hF6.same se).put nDa nDc, ((b5.trans b6).trans (But.of se)).updN nD0, ?_, vs ++ [.ref e], ts ++ [(x, frD t u)], upd_same, ?_, ?_, ?_⟩
            · rw [upd_ne nDr]
              exact se _ _ (b6 _ _ nra hr5)
            · rw [List.map_append]
              refine DtAll.snoc (hts7.tups (TT.upd hD7) _ _ (noLs_trms hok)) ?_
              exact Dt.tups (TT.upd hD7) _ _ rfl de
            · rw [List.map_append, hnm, List.take_add_one, hxz]
              rfl
            · intro s hs
              rcases List.mem_append.mp hs with h | h
              · exact hok s h
              · rw [List.mem_singleton.mp h]
                exact ⟨hR.2, decide_eq_true t0, decide_eq_true ⟨tb, ub⟩⟩
          · obtain ⟨hF5, b5, hr5, vs, ts, hD, hts, hnm, hok⟩ := hq
            rw [List.length_map, List.take_length] at hnm
            refine ⟨D, vs, rfl, SqL.of hD, fun l o nl od => ?_⟩
            have sl := same_upd (o := .frz o (.tup vs)) nl
            have zn : zs.Nodup := by
              refine pm.nodup_iff.mpr ?_
              rw [List.Nodup, List.pairwise_map]
              exact List.Pairwise.imp (fun h z => h (S_inj z)) hxn
            refine q l o vs ts _ (hF5.same sl) (b5.trans (But.of sl)) upd_same od (hts.same sl) (by rw [hnm]; exact zn) ?_
            have nm : ∀ t ∈ ts, ∃ x ∈ ws, t.1 = SX.S x := fun t ht => by
              have : t.1 ∈ zs := by
                rw [← hnm]
                exact List.mem_map_of_mem ht
              obtain ⟨y, hy, e⟩ := List.mem_map.mp (pm.mem_iff.mp this)
              exact ⟨y, hxw y hy, e.symm⟩
            have tl : ts.length = xs.length := by
              rw [← List.length_map (f := Prod.fst), hnm, pm.length_eq, List.length_map]
            have tr : ∀ t ∈ ts, termD (trm1 t) = true := fun t ht => by
              obtain ⟨x, hx, e⟩ := nm t ht
              show (nameB t.1.cps.toList && ratD t.2 && nonz t.2) = true
              rw [e, S_list, (hw x hx).1, (hok t ht).1, (hok t ht).2.1]
              rfl
            refine ⟨by omega, ?_, fun t ht => ⟨hok t ht, nm t ht⟩⟩
            match ts, tl, tr, hnm with
            | [t], _, tr, _ => exact tr t List.mem_cons_self
            | [t, u], _, tr, hnm =>
              show (termD (trm1 t) && termD (trm1 u) && ltD (trm1 t) (trm1 u)) = true
              rw [tr t List.mem_cons_self, tr u (List.mem_cons_of_mem _ List.mem_cons_self)]
              have hnm : [t.1, u.1] = zs := hnm
              subst hnm
              exact sorted_two srt (fun z => (List.nodup_cons.mp zn).1 (by rw [z]; exact List.mem_cons_self))
            | [], tl, _, _ => simp at tl; omega
            | _ :: _ :: _ :: _, tl, _, _ => simp at tl; omega
end
def Bf (N : Nat) (f : FR) : Prop := f.1.natAbs ≤ N ∧ 0 < f.2 ∧ f.2.natAbs ≤ N
def ValD (H : Hp) (d : Addr) (val : List Nat → FR) (ns : List (List Nat)) : Prop := ∃ kvs, H d = some (.dK kvs) ∧ ∀ x ∈ ns, Bf 10 (val x) ∧ ∃ p, valV kvs (.inr (SX.S x)) = some (.ref p) ∧ H p = some (.tup [.int (val x).1, .int (val x).2])
theorem ValD.same {H H' : Hp} {d : Addr} {val : List Nat → FR} {ns : List (List Nat)} (h : ValD H d val ns) (s : Same H H') : ValD H' d val ns := by
  obtain ⟨kvs, e, k⟩ := h
  refine ⟨kvs, s _ _ e, fun x hx => ?_⟩
  obtain ⟨b, p, e1, e2⟩ := k x hx
  exact ⟨b, p, e1, s _ _ e2⟩
/-! ### drawn values -/
theorem valV_not {kvs : List (Key × V)} {k : Key} (h : k ∉ kvs.map (·.1)) : valV kvs k = none := by
  induction kvs with
  | nil => rfl
  | cons p r ih =>
    rw [List.map_cons, List.mem_cons] at h
    rw [valV_neg (fun z => h (.inl z.symm))]
    exact ih fun z => h (.inr z)
theorem merge_nodup : ∀ (kvs acc : List (Key × V)), ((acc ++ kvs).map (·.1)).Nodup → mergeK acc kvs = acc ++ kvs
  | [], acc, _ => (List.append_nil acc).symm
  | kv :: kvs, acc, h => by
    have h1 : valV acc kv.1 = none := valV_not fun z => by
      rw [List.map_append, List.map_cons] at h
      exact (List.nodup_append.mp h).2.2 _ z _ List.mem_cons_self rfl
    show mergeK (putK acc kv.1 kv.2) kvs = _
    rw [putK_new _ h1, merge_nodup kvs (acc ++ [kv]) (by rw [List.append_assoc]; exact h), List.append_assoc]
    rfl
theorem paired_mono {α β : Type} {R S : α → β → Prop} (h : ∀ a b, R a b → S a b) : ∀ {xs : List α} {ys : List β}, Paired R xs ys → Paired S xs ys
  | _, _, .nil => .nil
  | _, _, .cons r t => .cons (h _ _ r) (paired_mono h t)
theorem paired_snoc {α β : Type} {R : α → β → Prop} : ∀ {xs : List α} {ys : List β} {x : α} {y : β}, Paired R xs ys → R x y → Paired R (xs ++ [x]) (ys ++ [y])
  | _, _, _, _, .nil, h => .cons h .nil
  | _, _, _, _, .cons r t, h => .cons r (paired_snoc t h)
def PointD (H : Hp) (d : Addr) (val : List Nat → FR) (ns : List (List Nat)) : Prop := ∃ kvs, H d = some (.dK kvs) ∧ (∀ e ∈ kvs, valV kvs e.1 = some e.2 ∧ okV e.2) ∧ ∀ x ∈ ns, Bf 10 (val x) ∧ ∃ p, valV kvs (.inr (SX.S x)) = some (.ref p) ∧ H p = some (.tup [.int (val x).1, .int (val x).2])
theorem PointD.val {H : Hp} {d : Addr} {val : List Nat → FR} {ns ms : List (List Nat)} (h : PointD H d val ns) (s : ∀ x ∈ ms, x ∈ ns) : ValD H d val ms := by
  obtain ⟨kvs, e, _, k⟩ := h
  exact ⟨kvs, e, fun x hx => k x (s x hx)⟩
theorem PointD.same {H H' : Hp} {d : Addr} {val : List Nat → FR} {ns : List (List Nat)} (h : PointD H d val ns) (s : Same H H') : PointD H' d val ns := by
  obtain ⟨kvs, e, g, k⟩ := h
  refine ⟨kvs, s _ _ e, g, fun x hx => ?_⟩
  obtain ⟨b, p, e1, e2⟩ := k x hx
  exact ⟨b, p, e1, s _ _ e2⟩
section
variable {P : Program} {w : World} {K : PySem.W.Frag} {mg : Str → Option Value} {base : Heap} {fa : Nat → Addr} {fd : Nat → FuncData}
def spPoint : Sp := fun vs H Q _ => ∃ (a c p : Addr) (ws : List (List Nat)), vs = [.ref a, .ref p] ∧ FeedOk H a c ∧ p ≠ a ∧ H p = some (.lst (ws.map vS)) ∧ ws.Nodup ∧ ws.length ≤ 6 ∧ ∀ d val H', FeedOk H' a c → But a H H' → PointD H' d val ws → Q (.ref d) H'
theorem ok_point (T : Txt K mg fa fd) : FnOk P w K mg base CX0 3 (fa 37) (fd 37) ["_law_feed_here", "_law_words_here"] spPoint := by
  refine T.F_point.ok sc_point (fun vs H Q E h => ?_) (fun cdv A outer s H vs Q E hr h => ?_)
  · obtain ⟨a, c, p, ws, rfl, _⟩ := h
    rfl
  · obtain ⟨a, c, p, ws, rfl, hF, npa, hp, hnd, hl, q⟩ := h
    refine ⟨_, (pss_one (ps_ret (pe_callTy (call_dictP rfl) (by rfl) T.m_dict (by decide +kernel) (pa_cons (pe_lc (own := [("_law_name", 2)]) (g := gName 2) (tt := tYes) rfl sc_point.nd (pi_list (pv 1)) (blkOk_by (own := [("_law_name", 2)]) (N := ["_law_feed_here", "_law_words_here", "_law_name"]) (sc := defScope s_point) (by decide +kernel)) (fun _ _ _ _ _ => pg_name (i := 2) sc_point.nd rfl (Or.inl rfl)) (fun _ _ _ _ _ => pts_nil) (fun _ _ _ _ _ => (pe_tup (pa_cons (pv 2) (pa_cons (pe_call (ok_any T) (hr.mono (by decide)) (by rfl) T.g_any T.F_any.kp T.b_any .nil pass0 (pa_cons (pv 0) (pa_cons (pe_lst (pa_cons (pe_tup (pa_cons pe_int (pa_cons pe_int pa_nil))) (pa_cons (pe_tup (pa_cons pe_int (pa_cons pe_int pa_nil))) (pa_cons (pe_tup (pa_cons pe_int (pa_cons pe_int pa_nil))) (pa_cons (pe_tup (pa_cons (pe_un un_neg pe_int) (pa_cons pe_int pa_nil))) (pa_cons (pe_tup (pa_cons pe_int (pa_cons pe_int pa_nil))) (pa_cons (pe_tup (pa_cons pe_int (pa_cons pe_int pa_nil))) (pa_cons (pe_tup (pa_cons (pe_un un_neg pe_int) (pa_cons pe_int pa_nil))) pa_nil)))))))) pa_nil))) pa_nil))))) pa_nil)))), ?_⟩
    refine ⟨_, rfl, p, rfl, ⟨_, SqL.of hp⟩, fun D nD => ?_⟩
    have nDa := new_ne hF nD
    have nDc := new_nc hF nD
    have npD : p ≠ D := ne_of_none hp nD
    refine lc_list (K := K) (a := p) (xs := ws.map vS) (fun i G => FeedOk G a c ∧ But a H G ∧ G p = some (.lst (ws.map vS)) ∧ ∃ (ps : List Addr) (kvs : List (Key × V)), G D = some (.lst (ps.map V.ref)) ∧ Paired (fun p kv => G p = some (.tup [kV kv.1, kv.2])) ps kvs ∧ kvs.map (·.1) = (ws.take i).map (fun x => (.inr (SX.S x) : Key)) ∧ ∀ kv ∈ kvs, ∃ (q : Addr) (f : FR), kv.2 = .ref q ∧ G q = some (.tup [.int f.1, .int f.2]) ∧ Bf 10 f)
      ⟨hF.new nD, But.of (same_upd nD), same_upd nD _ _ hp, [], [], upd_same, .nil, rfl, fun kv h => by cases h⟩ (fun i G _ hq => SqL.of hq.2.2.1) (fun i x G hx hq => ?_) (fun G hq => ?_)
    · obtain ⟨hG, bG, hpG, ps, kvs, hD, hpk, hkeys, hvals⟩ := hq
      rw [List.getElem?_map] at hx
      obtain ⟨x, hxz, rfl⟩ := Option.map_eq_some_iff.mp hx
      refine ⟨rfl, ?_⟩
      refine ⟨_, rfl, _, rfl, (small_line (by decide : 2 ≤ 1000)), fun p1 n1 => ?_⟩
      obtain ⟨s1, d1⟩ := dnewT (z := a) n1 (.cons (.int 0 (by decide +kernel)) (.cons (.int 1 (by decide +kernel)) .nil))
      refine ⟨(small_line (by decide : 2 ≤ 1000)), fun p2 n2 => ?_⟩
      obtain ⟨s2, d2⟩ := dnewT (z := a) n2 (.cons (.int 1 (by decide +kernel)) (.cons (.int 1 (by decide +kernel)) .nil))
      refine ⟨(small_line (by decide : 2 ≤ 1000)), fun p3 n3 => ?_⟩
      obtain ⟨s3, d3⟩ := dnewT (z := a) n3 (.cons (.int 2 (by decide +kernel)) (.cons (.int 1 (by decide +kernel)) .nil))
      refine ⟨_, rfl, (small_line (by decide : 2 ≤ 1000)), fun p4 n4 => ?_⟩
      obtain ⟨s4, d4⟩ := dnewT (z := a) n4 (.cons (.int (-1) (by decide +kernel)) (.cons (.int 1 (by decide +kernel)) .nil))
      refine ⟨(small_line (by decide : 2 ≤ 1000)), fun p5 n5 => ?_⟩
      obtain ⟨s5, d5⟩ := dnewT (z := a) n5 (.cons (.int 1 (by decide +kernel)) (.cons (.int 2 (by decide +kernel)) .nil))
      refine ⟨(small_line (by decide : 2 ≤ 1000)), fun p6 n6 => ?_⟩
      obtain ⟨s6, d6⟩ := dnewT (z := a) n6 (.cons (.int 3 (by decide +kernel)) (.cons (.int 1 (by decide +kernel)) .nil))
      refine ⟨_, rfl, (small_line (by decide : 2 ≤ 1000)), fun p7 n7 => ?_⟩
      obtain ⟨s7, d7⟩ := dnewT (z := a) n7 (.cons (.int (-5) (by decide +kernel)) (.cons (.int 3 (by decide +kernel)) .nil))
      refine ⟨(small_line (by decide : 7 ≤ 1000)), fun p8 n8 => ?_⟩
      obtain ⟨s8, all, hrw⟩ := drow (z := a) n8 (.cons (d1.same (s2.trans (s3.trans (s4.trans (s5.trans (s6.trans s7)))))) (.cons (d2.same (s3.trans (s4.trans (s5.trans (s6.trans s7))))) (.cons (d3.same (s4.trans (s5.trans (s6.trans s7)))) (.cons (d4.same (s5.trans (s6.trans s7))) (.cons (d5.same (s6.trans s7)) (.cons (d6.same s7) (.cons d7 .nil)))))))
      have sR := (s1.trans (s2.trans (s3.trans (s4.trans (s5.trans (s6.trans (s7.trans s8)))))))
      refine ⟨a, c, p8, _, rfl, hG.same sR, hrw, new_ne (hG.same (s1.trans (s2.trans (s3.trans (s4.trans (s5.trans (s6.trans s7))))))) n8, by show 0 < 7; decide, by show 7 ≤ 1000; decide, fun v H2 hv hF2 b2 => ?_⟩
      obtain ⟨d, hd, hdt⟩ := all.mem hv
      have hdt := hdt.but (hG.same sR) b2
      have bb := (But.of (a := a) sR).trans b2
      have tt := TT.but hG bb
      obtain ⟨f, rfl, hf⟩ : ∃ f : FR, d = frP f ∧ Bf 10 f := by
        simp only [List.mem_cons, List.not_mem_nil, or_false] at hd
        rcases hd with rfl | rfl | rfl | rfl | rfl | rfl | rfl
        · exact ⟨(0, 1), rfl, by unfold Bf; decide⟩
        · exact ⟨(1, 1), rfl, by unfold Bf; decide⟩
        · exact ⟨(2, 1), rfl, by unfold Bf; decide⟩
        · exact ⟨(-1, 1), rfl, by unfold Bf; decide⟩
        · exact ⟨(1, 2), rfl, by unfold Bf; decide⟩
        · exact ⟨(3, 1), rfl, by unfold Bf; decide⟩
        · exact ⟨(-5, 3), rfl, by unfold Bf; decide⟩
      obtain ⟨pf, rfl, hpf⟩ := dt_fr hdt
      refine ⟨two_line, fun e ne => ?_⟩
      have se := same_upd (o := .tup [vS x, .ref pf]) ne
      have hD2 := bb _ _ nDa hD
      have hD3 := se _ _ hD2
      have il : i < ws.length := (List.getElem?_eq_some_iff.mp hxz).1
      have kl : kvs.length = ps.length := (Paired.length hpk).symm
      have k2 : kvs.length ≤ 6 := by
        have := congrArg List.length hkeys
        rw [List.length_map, List.length_map, List.length_take] at this
        omega
      refine ⟨ps.map V.ref, hD3, by rw [List.length_map]; exact small1000 (by omega), (hF2.same se).put nDa nDc, ((bG.trans bb).trans (But.of se)).updN nD, ?_, ps ++ [e], kvs ++ [(.inr (SX.S x), .ref pf)], ?_, ?_, ?_, ?_⟩
      · rw [upd_ne npD]
        exact se _ _ (bb _ _ npa hpG)
      · rw [upd_same, List.map_append]
        rfl
      · have t2 := (tt.trans (TT.of se)).trans (TT.upd (zs := ps.map V.ref ++ [.ref e]) hD3)
        refine paired_snoc (paired_mono (fun a b h => t2 _ _ h) hpk) ?_
        exact TT.upd (zs := ps.map V.ref ++ [.ref e]) hD3 _ _ upd_same
      · rw [List.map_append, hkeys, List.take_add_one, hxz, List.map_append]
        rfl
      · intro kv hkv
        have t2 := (tt.trans (TT.of se)).trans (TT.upd (zs := ps.map V.ref ++ [.ref e]) hD3)
        rcases List.mem_append.mp hkv with h | h
        · obtain ⟨q, f, e1, e2, e3⟩ := hvals kv h
          exact ⟨q, f, e1, t2 _ _ e2, e3⟩
        · rw [List.mem_singleton.mp h]
          exact ⟨pf, f, rfl, TT.upd (zs := ps.map V.ref ++ [.ref e]) hD3 _ _ (se _ _ hpf), hf⟩
    · obtain ⟨hG, bG, hpG, ps, kvs, hD, hpk, hkeys, hvals⟩ := hq
      rw [List.length_map, List.take_length] at hkeys
      refine ⟨D, ps, kvs, rfl, SqL.of hD, paired_mono (fun a b h => SqT.of h) hpk, fun d nd => ?_⟩
      have nk : (kvs.map (·.1)).Nodup := by
        rw [hkeys]
        rw [List.Nodup, List.pairwise_map]
        exact List.Pairwise.imp (fun h z => h (S_inj (Sum.inr.inj z))) hnd
      rw [merge_nodup kvs [] nk]
      have sd := same_upd (o := .dK kvs) nd
      have pick : ∀ x, ∃ f : FR, x ∈ ws → Bf 10 f ∧ ∃ q, valV kvs (.inr (SX.S x)) = some (.ref q) ∧ G q = some (.tup [.int f.1, .int f.2]) := fun x => by
        by_cases hx : x ∈ ws
        · have : (.inr (SX.S x) : Key) ∈ kvs.map (·.1) := by
            rw [hkeys]
            exact List.mem_map_of_mem (f := fun x => (.inr (SX.S x) : Key)) hx
          obtain ⟨kv, hkv, ek⟩ := List.mem_map.mp this
          obtain ⟨q, f, e1, e2, e3⟩ := hvals kv hkv
          refine ⟨f, fun _ => ⟨e3, q, ?_, e2⟩⟩
          rw [← ek, val_nodup nk kv hkv, e1]
        · exact ⟨(0, 1), fun h => absurd h hx⟩
      obtain ⟨val, hval⟩ := Classical.axiomOfChoice pick
      refine q d val _ (hG.same sd) (bG.trans (But.of sd)) ⟨kvs, upd_same, fun e he => ⟨val_nodup nk e he, ?_⟩, fun x hx => ?_⟩
      · obtain ⟨q, f, e1, _, _⟩ := hvals e he
        exact .inr ⟨q, e1⟩
      · obtain ⟨h1, q, h2, h3⟩ := hval x hx
        exact ⟨h1, q, h2, sd _ _ h3⟩
end
/-! ### drawn ties -/
def totF (val : List Nat → FR) (acc : FR) : List (List Nat × FR) → FR
  | [] => acc
  | t :: r => totF val (addL acc (mulL t.2 (val t.1))) r
theorem totF_app (val : List Nat → FR) : ∀ (l r : List (List Nat × FR)) (acc : FR), totF val acc (l ++ r) = totF val (totF val acc l) r
  | [], _, _ => rfl
  | _ :: l, r, _ => totF_app val l r _
theorem mh_feed {H : Hp} {a c : Addr} (h : FeedOk H a c) : FeedOk (MH H) a c := by
  obtain ⟨ns, k, big, mark, ha, hc, r⟩ := h
  exact ⟨ns, k, big, mark, mh_of ha (by intro o' xs z; cases z), mh_of hc (by intro o' xs z; cases z), r⟩
theorem mh_but {a : Addr} {H H' : Hp} (b : But a H H') : But a (MH H) (MH H') := fun c o n e => by
  cases h : H c with
  | none =>
    unfold MH at e
    rw [h] at e
    cases e
  | some u =>
    have h' := b c u n h
    unfold MH at e ⊢
    rw [h] at e
    rw [h']
    exact e
theorem mh_dt {H : Hp} : ∀ {z : Addr} {v : V} {d : PyData}, noL d = true → Dt z H v d → Dt z (MH H) v d := fun n h => Dt.tups (fun p xs e => mh_of e (by intro o' ys z; cases z)) _ _ n h
theorem mh_dts {H : Hp} : ∀ {z : Addr} {v : List V} {d : List PyData}, noLs d = true → DtAll z H v d → DtAll z (MH H) v d := fun n h => DtAll.tups (fun p xs e => mh_of e (by intro o' ys z; cases z)) _ _ n h
/-- good terms: names without repetition, small rates -/
structure TlG (tl : List It) : Prop where
  len : tl.length = 1 ∨ tl.length = 2
  nd : (tl.map (·.1)).Nodup
  nf : ∀ t ∈ tl, Nf t.2 ∧ Bn 3 t.2
theorem trm_tl {ws : List (List Nat)} : ∀ {ts : List (Str × PyData)}, (∀ t ∈ ts, okR t.2 ∧ ∃ x ∈ ws, t.1 = SX.S x) → ∃ tl : List It, ts.map trm1 = tl.map tmP ∧ ts.map (·.1) = tl.map (fun t => SX.S t.1) ∧ (∀ t ∈ tl, t.1 ∈ ws ∧ Nf t.2 ∧ Bn 3 t.2)
  | [], _ => ⟨[], rfl, rfl, fun t h => by cases h⟩
  | (s, r) :: ts, h => by
    obtain ⟨tl, e1, e2, k⟩ := trm_tl fun t ht => h t (List.mem_cons_of_mem _ ht)
    obtain ⟨⟨rd, _, sm⟩, x, hx, es⟩ := h (s, r) List.mem_cons_self
    change s = SX.S x at es
    change ratD r = true at rd
    change smallR r = true at sm
    subst es
    obtain ⟨n, u, rfl⟩ := ratD_inv rd
    have rd : (decide (1 ≤ u) && decide (Int.gcd n u = 1)) = true := rd
    rw [Bool.and_eq_true, decide_eq_true_eq, decide_eq_true_eq] at rd
    have sm : n.natAbs ≤ 5 ∧ u.natAbs ≤ 3 := of_decide_eq_true sm
    refine ⟨(x, (n, u)) :: tl, by rw [List.map_cons, List.map_cons, e1], by rw [List.map_cons, List.map_cons, e2], fun t ht => ?_⟩
    rcases List.mem_cons.mp ht with rfl | ht
    · exact ⟨hx, ⟨by show 0 < u; omega, rd.2⟩, by show n.natAbs < 2 ^ 3; omega, by show u.natAbs < 2 ^ 3; omega⟩
    · exact k t ht
theorem Bf.bn {f : FR} (h : Bf 10 f) : Bn 4 f := ⟨Nat.lt_of_le_of_lt h.1 (by decide), Nat.lt_of_le_of_lt h.2.2 (by decide)⟩
section
variable {P : Program} {w : World} {K : PySem.W.Frag} {mg : Str → Option Value} {base : Heap} {fa : Nat → Addr} {fd : Nat → FuncData}
def spTot (K : PySem.W.Frag) : Sp := fun vs H Q _ => ∃ (l d z : Addr) (xs : List V) (tl : List It) (val : List Nat → FR), vs = [.ref l, .ref d] ∧ SqT K H l xs ∧ DtAll z H xs (tl.map tmP) ∧ tl.length ≤ 2 ∧ (∀ t ∈ tl, Nf t.2 ∧ Bn 3 t.2) ∧ ValD H d val (tl.map (·.1)) ∧
  ∀ p H', Same H H' → FrK K H' p (totF val (0, 1) tl) → Nf (totF val (0, 1) tl) → Bn 40 (totF val (0, 1) tl) → Q (.ref p) H'
theorem ok_total (T : Txt K mg fa fd) : FnOk P w K mg base CX0 5 (fa 36) (fd 36) ["_law_terms_here", "_law_values"] (spTot K) := by
  refine T.F_total.ok sc_total (fun vs H Q E h => ?_) (fun cdv A outer s H vs Q E hr h => ?_)
  · obtain ⟨l, d, z, xs, tl, val, rfl, _⟩ := h
    rfl
  · obtain ⟨l, d, z, xs, tl, val, rfl, hl, hts, tl2, hok, hd, q⟩ := h
    refine ⟨_, (C8.pss_cut (ps_set (i := 2) sc_total.nd rfl (.inl rfl) (pe_tup (pa_cons pe_int (pa_cons pe_int pa_nil))))
      (C8.pss_cut (ps_for PassesOwn.never rfl (pi_tup (pv 0)) (pg_tup (by rfl) (pgs_cons (pg_name (i := 3) sc_total.nd rfl (.inl rfl)) (pgs_cons (pg_name (i := 4) sc_total.nd rfl (.inl rfl)) pgs_nil))) (pss_one (ps_set (i := 2) sc_total.nd rfl (.inl rfl) (pe_call (ok_plus T) (hr.mono (by decide)) (by rfl) T.g_plus T.F_plus.kp T.b_plus .nil pass0 (pa_cons (pv 2) (pa_cons (pe_call (ok_by T) (hr.mono (by decide)) (by rfl) T.g_by T.F_by.kp T.b_by .nil pass0 (pa_cons (pv 4) (pa_cons (pe_dget (Nat.lt_of_le_of_lt (Nat.add_le_add_left (by decide) _) hr.units) (pv 1) (pv 3) (fun _ _ => rfl)) pa_nil))) pa_nil))))))
      (pss_one (ps_ret (pv 2))))), ?_⟩
    have xl : xs.length = tl.length := by
      have := hts.len
      rw [List.length_map] at this
      exact this
    refine ⟨fun σ G => Same H G ∧ ∃ p, FrK K G p (0, 1) ∧ σ = [some (.ref l), some (.ref d), some (.ref p), none, none], ⟨two_line, fun p np => ⟨same_upd np, p, SqT.of upd_same, rfl⟩⟩, fun σ G hM => ?_⟩
    obtain ⟨s1, p0, hp0, rfl⟩ := hM
    refine ⟨fun σ G => Same H G ∧ ∃ p y3 y4, FrK K G p (totF val (0, 1) tl) ∧ Nf (totF val (0, 1) tl) ∧ Bn 40 (totF val (0, 1) tl) ∧ σ = [some (.ref l), some (.ref d), some (.ref p), y3, y4], ?_, fun σ G hM => ?_⟩
    · refine ⟨_, rfl, l, rfl, ⟨_, SqT.sm s1 _ _ hl⟩, for_tup (K := K) (a := l) (xs := xs) (fun i σ G => Same H G ∧ ∃ p y3 y4, FrK K G p (totF val (0, 1) (tl.take i)) ∧ Nf (totF val (0, 1) (tl.take i)) ∧ Bn (1 + 8 * i) (totF val (0, 1) (tl.take i)) ∧ σ = [some (.ref l), some (.ref d), some (.ref p), y3, y4]) ⟨s1, p0, _, _, hp0, nf_01, bn_01, rfl⟩ (fun i σ G _ hq => SqT.sm hq.1 _ _ hl) (fun i x σ G hx hq => ?_) (fun σ G hq => ?_)⟩
      · obtain ⟨sG, p, y3, y4, hp, np, bp, rfl⟩ := hq
        obtain ⟨dt, hdd, hdt⟩ := DtAll.at i hts hx
        rw [List.getElem?_map] at hdd
        obtain ⟨⟨n, f⟩, he, rfl⟩ := Option.map_eq_some_iff.mp hdd
        obtain ⟨nf, bf⟩ : Nf f ∧ Bn 3 f := hok _ (List.mem_of_getElem? he)
        have il : i < tl.length := (List.getElem?_eq_some_iff.mp he).1
        change Dt _ _ _ (.tuple [.str (SX.S n), frP f]) at hdt
        obtain ⟨kvs, hk, hkv⟩ := hd
        obtain ⟨bv, pv, ev, hpv⟩ := hkv n (List.mem_map_of_mem (f := fun t : List Nat × FR => t.1) (List.mem_of_getElem? he))
        match x, hdt with
        | _, .tup (a := pp) hpp (.cons (.str _ _) (.cons hr' .nil)) =>
          obtain ⟨pr, rfl, hpr⟩ := dt_fr hr'
          refine ⟨pp, _, rfl, .inl (.inl (sG _ _ hpp)), rfl, _, _, rfl, _, _, rfl, rfl, _, rfl, _, rfl, _, rfl, _, rfl, d, _, rfl, by rw [← ev]; exact DGet.k (k := Sum.inr (SX.S n)) (sG _ _ hk), ?_⟩
          refine ⟨pr, pv, f, val n, rfl, SqT.of (sG _ _ hpr), SqT.of (sG _ _ hpv), nf.1, bv.2.1, bf.mono (by decide), bv.bn.mono (by decide), fun e ne => ?_⟩
          have se := same_upd (o := trF (mulL f (val n))) ne
          have bm := bf.mul bv.bn nf.1 bv.2.1
          have nm : Nf (mulL f (val n)) := nf_low (Int.mul_ne_zero (by have := nf.1; omega) (by have := bv.2.1; omega))
          refine ⟨p, e, totF val (0, 1) (tl.take i), mulL f (val n), rfl, SqT.sm se _ _ hp, SqT.of upd_same, np.1, nm.1, bp.mono (by omega), bm.mono (by decide), fun e2 ne2 => ?_⟩
          have se2 := same_upd (o := trF (addL (totF val (0, 1) (tl.take i)) (mulL f (val n)))) ne2
          have et : totF val (0, 1) (tl.take (i + 1)) = addL (totF val (0, 1) (tl.take i)) (mulL f (val n)) := by
            rw [List.take_add_one, he]
            show totF val (0, 1) (tl.take i ++ [(n, f)]) = _
            rw [totF_app]
            rfl
          refine ⟨sG.trans (se.trans se2), e2, some (.str (SX.S n)), some (.ref pr), ?_, ?_, ?_, rfl⟩
          · rw [et]
            exact SqT.of upd_same
          · rw [et]
            exact addL_nf np.1 nm.1
          · rw [et]
            exact (bp.add bm np.1 nm.1).mono (by omega)
      · obtain ⟨sG, p, y3, y4, hp, np, bp, rfl⟩ := hq
        rw [xl] at bp
        rw [xl, List.take_length] at hp np
        rw [List.take_length] at bp
        exact ⟨sG, p, _, _, hp, np, bp.mono (by omega), rfl⟩
    obtain ⟨sG, p, y3, y4, hp, np, bp, rfl⟩ := hM
    exact ⟨_, rfl, q p G sG hp np bp⟩
end
theorem lw_uni {x : List Nat} (h : LW x) : PyData.strOk (SX.S x) = true := by
  unfold PyData.strOk
  show (x.toArray.all _) = true
  rw [List.all_toArray, List.all_eq_true]
  intro c hc
  have := List.all_eq_true.mp h.2.2 c hc
  unfold lowc at this
  rw [Bool.and_eq_true, decide_eq_true_eq, decide_eq_true_eq] at this
  exact decide_eq_true (by omega)
theorem lw_nm {x : List Nat} (h : LW x) : nameB x = true ∧ x.length ≤ 7 := by
  have := name_lw h (k := 0) (by decide)
  rw [List.replicate_zero, List.append_nil] at this
  exact this
theorem dws {K : PySem.W.Frag} (H : Hp) : ∀ l : List (List Nat), DpAll K H (l.map vS) (l.map fun x => PyData.str (SX.S x))
  | [] => .nil
  | _ :: l => .cons (.str _) (dws H l)
theorem lay_ws : ∀ l : List (List Nat), (∀ x ∈ l, LW x) → PyData.canLayAll0 (l.map fun x => PyData.str (SX.S x)) = true ∧ PyData.depthAll (l.map fun x => PyData.str (SX.S x)) ≤ 0
  | [], _ => ⟨rfl, Nat.zero_le _⟩
  | x :: l, h => by
    obtain ⟨h1, h2⟩ := lay_ws l fun y hy => h y (List.mem_cons_of_mem _ hy)
    constructor
    · show (PyData.strOk (SX.S x) && PyData.canLayAll0 (l.map fun x => PyData.str (SX.S x))) = true
      rw [lw_uni (h x List.mem_cons_self), h1]
      rfl
    · rw [List.map_cons, PyData.depthAll.eq_2]
      have : (PyData.str (SX.S x)).depth = 0 := rfl
      omega
theorem shaped_ws {l : List (List Nat)} (h : ∀ x ∈ l, LW x) : SeqAt.shaped (.list (l.map fun x => PyData.str (SX.S x))) = true := by
  obtain ⟨h1, h2⟩ := lay_ws l h
  unfold SeqAt.shaped
  rw [PyData.canLay0.eq_5, PyData.depth.eq_1, h1, Bool.true_and, decide_eq_true_eq]
  omega
/-! ### ties that are drawn -/
/-- everything but lists stays -/
def NL (H H' : Hp) : Prop := ∀ c o, H c = some o → (∀ xs, o ≠ .lst xs) → H' c = some o
theorem NL.of {H H' : Hp} (s : Same H H') : NL H H' := fun c o e _ => s c o e
theorem NL.but {a c : Addr} {H H' : Hp} (hF : FeedOk H a c) (b : But a H H') : NL H H' := fun p o e n => by
  obtain ⟨ns, k, big, mark, ha, _⟩ := hF
  exact b p o (ne_of e ha (n _)) e
theorem NL.upd {H : Hp} {D : Addr} {ys zs : List V} (hD : H D = some (.lst ys)) : NL H (upd H D (.lst zs)) := fun p o e n => by
  rw [upd_ne (ne_of e hD (n _))]
  exact e
theorem NL.trans {H H1 H2 : Hp} (h : NL H H1) (k : NL H1 H2) : NL H H2 := fun p o e n => k p o (h p o e n) n
theorem NL.tt {H H' : Hp} (h : NL H H') : TT H H' := fun p xs e => h p _ e (by intro ys z; cases z)
theorem NL.mh {H H' : Hp} (h : NL H H') : TT (MH H) (MH H') := fun p xs e => by
  rcases mh_rd e with e | ⟨o, e⟩
  · exact mh_of (h p _ e (by intro ys z; cases z)) (by intro o' ys z; cases z)
  · exact mh_frz (h p _ e (by intro ys z; cases z))
theorem noL_tie (t : Tie) : noL (tieDt t) = true := by
  have key : ∀ tl : List It, noLs (tl.map tmP) = true := fun tl => by
    induction tl with
    | nil => rfl
    | cons a tl ih =>
      show (noL (tmP a) && noLs (tl.map tmP)) = true
      rw [ih]
      rfl
  show (noLs (t.1.map tmP) && (noL (frP t.2) && true)) = true
  rw [key]
  rfl
theorem noLs_tl (tl : List It) : noLs (tl.map tmP) = true := by
  induction tl with
  | nil => rfl
  | cons a tl ih =>
    show (noL (tmP a) && noLs (tl.map tmP)) = true
    rw [ih]
    rfl
theorem FzT.nl {H H' : Hp} {v : V} (h : FzT H v) (s : NL H H') : FzT H' v :=
  let ⟨pt, pl, pm, o, xs, e, h1, h2, h3⟩ := h
  ⟨pt, pl, pm, o, xs, e, s.mh _ _ h1, s _ _ h2 (by intro ys z; cases z), h3⟩
/-- a tie that was drawn -/
def TieV (z : Addr) (H : Hp) (v : V) (t : Tie) : Prop := Dt z (MH H) v (tieDt t) ∧ FzT H v
theorem TieV.nl {z z' : Addr} {H H' : Hp} {v : V} {t : Tie} (h : TieV z H v t) (s : NL H H') : TieV z' H' v t := ⟨Dt.tups s.mh _ _ (noL_tie t) h.1, h.2.nl s⟩
theorem PointD.nl {H H' : Hp} {d : Addr} {val : List Nat → FR} {ns : List (List Nat)} (h : PointD H d val ns) (s : NL H H') : PointD H' d val ns := by
  obtain ⟨kvs, e, g, k⟩ := h
  refine ⟨kvs, s _ _ e (by intro ys z; cases z), g, fun x hx => ?_⟩
  obtain ⟨b, p, e1, e2⟩ := k x hx
  exact ⟨b, p, e1, s _ _ e2 (by intro ys z; cases z)⟩
structure TieG (ws : List (List Nat)) (t : Tie) : Prop where
  tl : TlG t.1
  ws : ∀ u ∈ t.1, u.1 ∈ ws
  nf : Nf t.2
  bn : Bn 60 t.2
theorem newTie {z : Addr} {H : Hp} {l o pb : Addr} {ob : Obj} {xs : List V} {tl : List It} {f : FR} (hl : H l = some (.frz ob (.tup xs))) (hd : ob.dict = none) (hts : DtAll z H xs (tl.map tmP)) (hb : H pb = some (trF f)) (no : H o = none) (hB : Bd f.1 ∧ Bd f.2) :
    TieV z (upd H o (.tup [.ref l, .ref pb])) (.ref o) (tl, f) := by
  have so := same_upd (o := HO.tup [V.ref l, .ref pb]) no
  have m := mh_same so
  have e : MH (upd H o (.tup [.ref l, .ref pb])) o = some (.tup [.ref l, .ref pb]) := mh_of upd_same (by intro o' ys z; cases z)
  refine ⟨.tup e (.cons (.tup (m _ _ (mh_frz hl)) ((mh_dts (noLs_tl tl) hts).same m)) (.cons (.tup (m _ _ (mh_of hb (by intro o' ys z; cases z))) (.cons (.int _ hB.1) (.cons (.int _ hB.2) .nil))) .nil)), o, l, .ref pb, ob, xs, rfl, e, so _ _ hl, hd⟩
theorem small_fr {f : FR} (h : f.1.natAbs < 8 ∧ f.2.natAbs < 8 ∧ 0 < f.2 ∧ Int.gcd f.1 f.2 = 1) : Nf f ∧ Bn 3 f := ⟨⟨h.2.2.1, h.2.2.2⟩, h.1, h.2.1⟩
section
variable {P : Program} {w : World} {K : PySem.W.Frag} {mg : Str → Option Value} {base : Heap} {fa : Nat → Addr} {fd : Nat → FuncData}
def spTies : Sp := fun vs H Q _ => ∃ (a c p : Addr) (ws : List (List Nat)) (m : Nat) (oc : Int), vs = [.ref a, .ref p, .int m, .int oc] ∧ FeedOk H a c ∧ p ≠ a ∧ H p = some (.lst (ws.map vS)) ∧ ws ≠ [] ∧ ws.length ≤ 6 ∧ ws.Nodup ∧ (∀ x ∈ ws, LW x) ∧ m ≤ 4 ∧
  ∀ (D : Addr) (us : List V) (ties : List Tie) (H' : Hp), FeedOk H' a c → But a H H' → D ≠ a → H D = none → H' D = some (.lst us) → Paired (TieV a H') us ties → (∀ t ∈ ties, TieG ws t) → ties.length ≤ m → Q (.ref D) H'
theorem ok_ties (T : Txt K mg fa fd) : FnOk P w K mg base CX0 6 (fa 39) (fd 39) ["_law_feed_here", "_law_words_here", "_law_many", "_law_open_cases"] spTies := by
  refine T.F_ties.ok sc_ties (fun vs H Q E h => ?_) (fun cdv A outer s H vs Q E hr h => ?_)
  · obtain ⟨a, c, p, ws, m, oc, rfl, _⟩ := h
    rfl
  · obtain ⟨a, c, p, ws, m, oc, rfl, hF, npa, hp, ne, hl, hn, hw, hm, q⟩ := h
    refine ⟨_, (C8.pss_cut (ps_par (i := 4) (j := 5) (by rfl) sc_ties.nd rfl rfl (by decide) rfl rfl (pa_cons (pe_call (ok_point T) (hr.mono (by decide)) (by rfl) T.g_point T.F_point.kp T.b_point .nil pass0 (pa_cons (pv 0) (pa_cons (pv 1) pa_nil))) (pa_cons (pe_lst pa_nil) pa_nil)) (by rfl))
      (C8.pss_cut (ps_set (i := 6) sc_ties.nd rfl (.inl rfl) (pe_cmpR op_lt (pe_call (ok_draw T) (hr.mono (by decide)) (by rfl) T.g_draw T.F_draw.kp T.b_draw .nil pass0 (pa_cons (pv 0) (pa_cons pe_int pa_nil))) (pv 3) (nomark _)))
      (C8.pss_cut (ps_for PassesOwn.never rfl (pi_range1 (by rfl) T.m_range (pa_cons (pe_ifExp (pt_cmpR (op_neDK (K := K) rfl hr.units) (pv 1) (pe_lst pa_nil) (nomark _)) (pe_call (ok_draw T) (hr.mono (by decide)) (by rfl) T.g_draw T.F_draw.kp T.b_draw .nil pass0 (pa_cons (pv 0) (pa_cons (pe_op op_add (pv 2) pe_int) pa_nil))) pe_int) pa_nil)) (pg_name (i := 7) sc_ties.nd rfl (.inl rfl)) (C8.pss_cut (ps_set (i := 8) sc_ties.nd rfl (.inl rfl) (pe_call (ok_terms T) (hr.mono (by decide)) (by rfl) T.g_terms T.F_terms.kp T.b_terms .nil pass0 (pa_cons (pv 0) (pa_cons (pv 1) (pa_cons pe_int pa_nil)))))
      (C8.pss_cut (ps_set (i := 9) sc_ties.nd rfl (.inl rfl) (pe_call (ok_any T) (hr.mono (by decide)) (by rfl) T.g_any T.F_any.kp T.b_any .nil pass0 (pa_cons (pv 0) (pa_cons (pe_lst (pa_cons (pe_tup (pa_cons pe_int (pa_cons pe_int pa_nil))) (pa_cons (pe_tup (pa_cons pe_int (pa_cons pe_int pa_nil))) (pa_cons (pe_tup (pa_cons (pe_un un_neg pe_int) (pa_cons pe_int pa_nil))) (pa_cons (pe_tup (pa_cons pe_int (pa_cons pe_int pa_nil))) (pa_cons (pe_tup (pa_cons pe_int (pa_cons pe_int pa_nil))) (pa_cons (pe_tup (pa_cons (pe_un un_neg pe_int) (pa_cons pe_int pa_nil))) pa_nil))))))) pa_nil))))
      (C8.pss_cut (ps_if (pt_not (pt_val (pv 6))) (C8.pss_cut (ps_set (i := 10) sc_ties.nd rfl (.inl rfl) (pe_call (ok_any T) (hr.mono (by decide)) (by rfl) T.g_any T.F_any.kp T.b_any .nil pass0 (pa_cons (pv 0) (pa_cons (pe_lst (pa_cons (pe_tup (pa_cons pe_int (pa_cons pe_int pa_nil))) (pa_cons (pe_tup (pa_cons pe_int (pa_cons pe_int pa_nil))) (pa_cons (pe_tup (pa_cons pe_int (pa_cons pe_int pa_nil))) (pa_cons (pe_tup (pa_cons pe_int (pa_cons pe_int pa_nil))) (pa_cons (pe_tup (pa_cons pe_int (pa_cons pe_int pa_nil))) (pa_cons (pe_tup (pa_cons pe_int (pa_cons pe_int pa_nil))) pa_nil))))))) pa_nil))))
      (pss_one (ps_set (i := 9) sc_ties.nd rfl (.inl rfl) (pe_call (ok_plus T) (hr.mono (by decide)) (by rfl) T.g_plus T.F_plus.kp T.b_plus .nil pass0 (pa_cons (pe_call (ok_total T) (hr.mono (by decide)) (by rfl) T.g_total T.F_total.kp T.b_total .nil pass0 (pa_cons (pv 8) (pa_cons (pv 4) pa_nil))) (pa_cons (pv 10) pa_nil)))))) pss_nil)
      (pss_one (ps_expr (pe_bm PySem.F.plainAttrs_list PySem.F.slot_list_append PySem.F.type_list_append mt_append (pv 5) (pa_cons (pe_tup (pa_cons (pv 8) (pa_cons (pv 9) pa_nil))) pa_nil))))))))
      (pss_one (ps_ret (pv 5)))))), ?_⟩
    refine ⟨fun σ G => FeedOk G a c ∧ But a H G ∧ ∃ d val D, PointD G d val ws ∧ G D = some (.lst []) ∧ D ≠ a ∧ D ≠ c ∧ D ≠ p ∧ H D = none ∧ σ = [some (.ref a), some (.ref p), some (.int m), some (.int oc), some (.ref d), some (.ref D), none, none, none, none, none], ?_, fun σ G hM => ?_⟩
    · refine ⟨_, rfl, _, rfl, a, c, p, ws, rfl, hF, npa, hp, hn, hl, fun d val H1 hF1 b1 hP => ⟨small_line (by show 0 ≤ 1000; decide), fun D nD => ?_⟩⟩
      have s1 := same_upd (o := HO.lst []) nD
      exact ⟨_, _, rfl, hF1.same s1, b1.trans (But.of s1), d, val, D, hP.same s1, upd_same, new_ne hF1 nD, new_nc hF1 nD, (ne_of_none (b1 _ _ npa hp) nD).symm, but_none b1 nD (new_ne hF1 nD), rfl⟩
    obtain ⟨hF1, b1, d, val, D, hP, hD, nDa, nDc, nDp, nD, rfl⟩ := hM
    refine ⟨fun σ G => FeedOk G a c ∧ But a H G ∧ PointD G d val ws ∧ G D = some (.lst []) ∧ ∃ lo : Bool, σ = [some (.ref a), some (.ref p), some (.int m), some (.int oc), some (.ref d), some (.ref D), some (.bl lo), none, none, none, none], ?_, fun σ G hM => ?_⟩
    · refine ⟨_, rfl, a, c, _, rfl, hF1, mid_of (by decide) (by decide), fun r H2 _ _ hF2 b2 => ?_⟩
      exact ⟨_, rfl, _, _, rfl, rfl, hF2, b1.trans b2, hP.nl (NL.but hF1 b2), b2 _ _ nDa hD, _, rfl⟩
    clear hF1 b1 hP hD
    obtain ⟨hF1, b1, hP, hD, lo, rfl⟩ := hM
    refine ⟨fun σ G => FeedOk G a c ∧ But a H G ∧ ∃ us ties, G D = some (.lst us) ∧ Paired (TieV a G) us ties ∧ (∀ t ∈ ties, TieG ws t) ∧ ties.length ≤ m ∧ ∃ y4 y6 y7 y8 y9 y10, σ = [some (.ref a), some (.ref p), some (.int m), some (.int oc), y4, some (.ref D), y6, y7, y8, y9, y10], ?_, fun σ G hM => ?_⟩
    · refine ⟨_, rfl, Nat.zero_le _, fun q0 nq => ?_⟩
      have sq := same_upd (o := .lst []) nq
      have hpG := b1 _ _ npa hp
      refine ⟨_, _, .lst (SqL.of (sq _ _ hpG)) (dws _ ws), .lst (SqL.of upd_same) .nil, shaped_ws hw, by decide +kernel, _, rfl, ?_⟩
      have ev : PyData.eqv (.list (ws.map fun x => PyData.str (SX.S x))) (.list []) = false := by
        cases ws with
        | nil => exact absurd rfl ne
        | cons x l => rfl
      rw [ev]
      refine iteT ⟨_, rfl, _, rfl, _, _, rfl, rfl, a, c, _, rfl, hF1.same sq, mid_of (by omega) (by omega), fun r H2 r0 r1 hF2 b2 => ?_⟩
      obtain ⟨n, rfl⟩ := Int.eq_ofNat_of_zero_le r0
      refine ⟨_, rfl, by omega, by omega, ?_⟩
      rw [Int.toNat_natCast]
      have b02 : But a G H2 := (But.of sq).trans b2
      have nl02 : NL G H2 := (NL.of sq).trans (NL.but (hF1.same sq) b2)
      refine for_range (n := n) (fun i σ G => FeedOk G a c ∧ But a H G ∧ G p = some (.lst (ws.map vS)) ∧ PointD G d val ws ∧ ∃ us ties, G D = some (.lst us) ∧ Paired (TieV a G) us ties ∧ (∀ t ∈ ties, TieG ws t) ∧ ties.length = i ∧ ∃ y7 y8 y9 y10, σ = [some (.ref a), some (.ref p), some (.int m), some (.int oc), some (.ref d), some (.ref D), some (.bl lo), y7, y8, y9, y10])
        ⟨hF2, b1.trans b02, b02 _ _ npa hpG, hP.nl nl02, [], [], b02 _ _ nDa hD, .nil, (fun t h => by cases h), rfl, _, _, _, _, rfl⟩ (fun i σ G hi hq => ?_) (fun σ G hq => ?_)
      · obtain ⟨hG, bG, hpG, hP, us, ties, hDG, hT, hg, tl, y7, y8, y9, y10, rfl⟩ := hq
        have bnl : ∀ {G' : Hp}, But a G G' → NL G G' := fun b => NL.but hG b
        refine ⟨fun σ G1 => FeedOk G1 a c ∧ But a G G1 ∧ ∃ l o xs tl, G1 l = some (.frz o (.tup xs)) ∧ o.dict = none ∧ DtAll a G1 xs (tl.map tmP) ∧ TlG tl ∧ (∀ u ∈ tl, u.1 ∈ ws) ∧ σ = [some (.ref a), some (.ref p), some (.int m), some (.int oc), some (.ref d), some (.ref D), some (.bl lo), some (.int (0 + (i : Int))), some (.ref l), y9, y10], ?_, fun σ G1 hM => ?_⟩
        · refine ⟨_, rfl, _, rfl, a, c, p, ws, 3, rfl, hG, npa, hpG, ne, hl, hn, fun x hx => lw_nm (hw x hx), fun l o vs ts H' hF' b' hl' od hts nd hok => ?_⟩
          obtain ⟨tl', e1, e2, k⟩ := trm_tl hok.2.2
          rw [e1] at hts
          refine ⟨hF', b', l, o, vs, tl', hl', od, hts, ⟨?_, ?_, fun t ht => (k t ht).2⟩, fun u hu => (k u hu).1, rfl⟩
          · have := congrArg List.length e2
            rw [List.length_map, List.length_map] at this
            rw [← this]
            exact hok.1
          · rw [e2] at nd
            have nd2 : ((tl'.map (·.1)).map SX.S).Nodup := by
              rw [List.map_map]
              exact nd
            exact List.Pairwise.imp (fun h z => h (by rw [z])) (List.pairwise_map.mp nd2)
        obtain ⟨hG1, b1, l, o, xs, tl', hll, od, hts, hgt, hwt, rfl⟩ := hM
        refine ⟨fun σ G2 => FeedOk G2 a c ∧ But a G1 G2 ∧ ∃ pb f, G2 pb = some (trF f) ∧ Nf f ∧ Bn 3 f ∧ σ = [some (.ref a), some (.ref p), some (.int m), some (.int oc), some (.ref d), some (.ref D), some (.bl lo), some (.int (0 + (i : Int))), some (.ref l), some (.ref pb), y10], ?_, fun σ G2 hM => ?_⟩
        · skip
          refine ⟨_, rfl, (small_line (by decide : 2 ≤ 1000)), fun p1 n1 => ?_⟩
          obtain ⟨s1, d1⟩ := dnewT (z := a) n1 (.cons (.int 0 (by decide +kernel)) (.cons (.int 1 (by decide +kernel)) .nil))
          refine ⟨(small_line (by decide : 2 ≤ 1000)), fun p2 n2 => ?_⟩
          obtain ⟨s2, d2⟩ := dnewT (z := a) n2 (.cons (.int 1 (by decide +kernel)) (.cons (.int 1 (by decide +kernel)) .nil))
          refine ⟨_, rfl, (small_line (by decide : 2 ≤ 1000)), fun p3 n3 => ?_⟩
          obtain ⟨s3, d3⟩ := dnewT (z := a) n3 (.cons (.int (-2) (by decide +kernel)) (.cons (.int 1 (by decide +kernel)) .nil))
          refine ⟨(small_line (by decide : 2 ≤ 1000)), fun p4 n4 => ?_⟩
          obtain ⟨s4, d4⟩ := dnewT (z := a) n4 (.cons (.int 3 (by decide +kernel)) (.cons (.int 1 (by decide +kernel)) .nil))
          refine ⟨(small_line (by decide : 2 ≤ 1000)), fun p5 n5 => ?_⟩
          obtain ⟨s5, d5⟩ := dnewT (z := a) n5 (.cons (.int 1 (by decide +kernel)) (.cons (.int 3 (by decide +kernel)) .nil))
          refine ⟨_, rfl, (small_line (by decide : 2 ≤ 1000)), fun p6 n6 => ?_⟩
          obtain ⟨s6, d6⟩ := dnewT (z := a) n6 (.cons (.int (-1) (by decide +kernel)) (.cons (.int 2 (by decide +kernel)) .nil))
          refine ⟨(small_line (by decide : 6 ≤ 1000)), fun p7 n7 => ?_⟩
          obtain ⟨s7, all, hrw⟩ := drow (z := a) n7 (.cons (d1.same (s2.trans (s3.trans (s4.trans (s5.trans s6))))) (.cons (d2.same (s3.trans (s4.trans (s5.trans s6)))) (.cons (d3.same (s4.trans (s5.trans s6))) (.cons (d4.same (s5.trans s6)) (.cons (d5.same s6) (.cons d6 .nil))))))
          have sR := (s1.trans (s2.trans (s3.trans (s4.trans (s5.trans (s6.trans s7))))))
          refine ⟨a, c, p7, _, rfl, hG1.same sR, hrw, new_ne (hG1.same (s1.trans (s2.trans (s3.trans (s4.trans (s5.trans s6)))))) n7, by show 0 < 6; decide, by show 6 ≤ 1000; decide, fun v H3 hv hF3 b3 => ?_⟩
          obtain ⟨dd, hd, hdt⟩ := all.mem hv
          have hdt := hdt.but (hG1.same sR) b3
          obtain ⟨f, rfl, hf⟩ : ∃ f : FR, dd = frP f ∧ Nf f ∧ Bn 3 f := by
            simp only [List.mem_cons, List.not_mem_nil, or_false] at hd
            rcases hd with rfl | rfl | rfl | rfl | rfl | rfl
            · exact ⟨(0, 1), rfl, small_fr (by decide)⟩
            · exact ⟨(1, 1), rfl, small_fr (by decide)⟩
            · exact ⟨(-2, 1), rfl, small_fr (by decide)⟩
            · exact ⟨(3, 1), rfl, small_fr (by decide)⟩
            · exact ⟨(1, 3), rfl, small_fr (by decide)⟩
            · exact ⟨(-1, 2), rfl, small_fr (by decide)⟩
          obtain ⟨pf, rfl, hpf⟩ := dt_fr hdt
          exact ⟨hF3, (But.of sR).trans b3, pf, f, hpf, hf.1, hf.2, rfl⟩
        obtain ⟨hG2, b2', pb, f, hpb, nf, bf, rfl⟩ := hM
        have nl12 := NL.but hG1 b2'
        have hts2 := hts.tups (z' := a) nl12.tt _ _ (noLs_tl tl')
        have hl2 := nl12 _ _ hll (by intro ys z; cases z)
        refine ⟨fun σ G3 => FeedOk G3 a c ∧ But a G2 G3 ∧ ∃ pb f y10, G3 pb = some (trF f) ∧ Nf f ∧ Bn 60 f ∧ σ = [some (.ref a), some (.ref p), some (.int m), some (.int oc), some (.ref d), some (.ref D), some (.bl lo), some (.int (0 + (i : Int))), some (.ref l), some (.ref pb), y10], ?_, fun σ G3 hM => ?_⟩
        · refine ⟨_, rfl, _, rfl, ?_⟩
          cases lo with
          | true => exact iteF ⟨hG2, But.refl _ _, pb, f, _, hpb, nf, bf.mono (by decide), rfl⟩
          | false =>
            refine iteT ⟨fun σ G4 => FeedOk G4 a c ∧ But a G2 G4 ∧ ∃ pr g, G4 pr = some (trF g) ∧ Nf g ∧ Bn 3 g ∧ σ = [some (.ref a), some (.ref p), some (.int m), some (.int oc), some (.ref d), some (.ref D), some (.bl false), some (.int (0 + (i : Int))), some (.ref l), some (.ref pb), some (.ref pr)], ?_, fun σ G4 hM => ?_⟩
            · skip
              refine ⟨_, rfl, (small_line (by decide : 2 ≤ 1000)), fun p1 n1 => ?_⟩
              obtain ⟨s1, d1⟩ := dnewT (z := a) n1 (.cons (.int 0 (by decide +kernel)) (.cons (.int 1 (by decide +kernel)) .nil))
              refine ⟨(small_line (by decide : 2 ≤ 1000)), fun p2 n2 => ?_⟩
              obtain ⟨s2, d2⟩ := dnewT (z := a) n2 (.cons (.int 0 (by decide +kernel)) (.cons (.int 1 (by decide +kernel)) .nil))
              refine ⟨(small_line (by decide : 2 ≤ 1000)), fun p3 n3 => ?_⟩
              obtain ⟨s3, d3⟩ := dnewT (z := a) n3 (.cons (.int 1 (by decide +kernel)) (.cons (.int 1 (by decide +kernel)) .nil))
              refine ⟨(small_line (by decide : 2 ≤ 1000)), fun p4 n4 => ?_⟩
              obtain ⟨s4, d4⟩ := dnewT (z := a) n4 (.cons (.int 2 (by decide +kernel)) (.cons (.int 1 (by decide +kernel)) .nil))
              refine ⟨(small_line (by decide : 2 ≤ 1000)), fun p5 n5 => ?_⟩
              obtain ⟨s5, d5⟩ := dnewT (z := a) n5 (.cons (.int 1 (by decide +kernel)) (.cons (.int 2 (by decide +kernel)) .nil))
              refine ⟨(small_line (by decide : 2 ≤ 1000)), fun p6 n6 => ?_⟩
              obtain ⟨s6, d6⟩ := dnewT (z := a) n6 (.cons (.int 5 (by decide +kernel)) (.cons (.int 1 (by decide +kernel)) .nil))
              refine ⟨(small_line (by decide : 6 ≤ 1000)), fun p7 n7 => ?_⟩
              obtain ⟨s7, all, hrw⟩ := drow (z := a) n7 (.cons (d1.same (s2.trans (s3.trans (s4.trans (s5.trans s6))))) (.cons (d2.same (s3.trans (s4.trans (s5.trans s6)))) (.cons (d3.same (s4.trans (s5.trans s6))) (.cons (d4.same (s5.trans s6)) (.cons (d5.same s6) (.cons d6 .nil))))))
              have sR := (s1.trans (s2.trans (s3.trans (s4.trans (s5.trans (s6.trans s7))))))
              refine ⟨a, c, p7, _, rfl, hG2.same sR, hrw, new_ne (hG2.same (s1.trans (s2.trans (s3.trans (s4.trans (s5.trans s6)))))) n7, by show 0 < 6; decide, by show 6 ≤ 1000; decide, fun v H3 hv hF3 b3 => ?_⟩
              obtain ⟨dd, hd, hdt⟩ := all.mem hv
              have hdt := hdt.but (hG2.same sR) b3
              obtain ⟨g, rfl, hg⟩ : ∃ f : FR, dd = frP f ∧ Nf f ∧ Bn 3 f := by
                simp only [List.mem_cons, List.not_mem_nil, or_false] at hd
                rcases hd with rfl | rfl | rfl | rfl | rfl | rfl
                · exact ⟨(0, 1), rfl, small_fr (by decide)⟩
                · exact ⟨(0, 1), rfl, small_fr (by decide)⟩
                · exact ⟨(1, 1), rfl, small_fr (by decide)⟩
                · exact ⟨(2, 1), rfl, small_fr (by decide)⟩
                · exact ⟨(1, 2), rfl, small_fr (by decide)⟩
                · exact ⟨(5, 1), rfl, small_fr (by decide)⟩
              obtain ⟨pf, rfl, hpf⟩ := dt_fr hdt
              exact ⟨hF3, (But.of sR).trans b3, pf, g, hpf, hg.1, hg.2, rfl⟩
            obtain ⟨hG4, b4, pr, g, hpr, ng, bg, rfl⟩ := hM
            have nl24 := NL.but hG2 b4
            have hts4 := hts2.tups (z' := a) nl24.tt _ _ (noLs_tl tl')
            have hl4 := nl24 _ _ hl2 (by intro ys z; cases z)
            have hP4 := hP.nl (((bnl b1).trans nl12).trans nl24)
            refine ⟨_, rfl, _, rfl, l, d, a, xs, tl', val, rfl, .inl (.inr ⟨o, hl4⟩), hts4, by rcases hgt.len with e | e <;> omega, hgt.nf, hP4.val (fun x hx => ?_), fun pt H5 s5 ht nt bt => ?_⟩
            · obtain ⟨u, hu, rfl⟩ := List.mem_map.mp hx
              exact hwt u hu
            refine ⟨_, rfl, pt, pr, totF val (0, 1) tl', g, rfl, ht, SqT.of (s5 _ _ hpr), nt.1, ng.1, bt.mono (by decide), bg.mono (by decide), fun e ne => ?_⟩
            have se := same_upd (o := trF (addL (totF val (0, 1) tl') g)) ne
            exact ⟨(hG4.same s5).same se, (b4.trans (But.of s5)).trans (But.of se), e, _, _, upd_same, addL_nf nt.1 ng.1, (bt.add bg nt.1 ng.1).mono (by decide), rfl⟩
        clear hpb nf bf
        obtain ⟨hG3, b3', pb, f, y10', hpb, nf, bf, rfl⟩ := hM
        have nl23 := NL.but hG2 b3'
        have hts3 := hts2.tups (z' := a) nl23.tt _ _ (noLs_tl tl')
        have hl3 := nl23 _ _ hl2 (by intro ys z; cases z)
        have bb := (b1.trans b2').trans b3'
        have hD3 := bb _ _ nDa hDG
        have ul : us.length = ties.length := Paired.length hT
        refine ⟨_, rfl, .inl ⟨rfl, _, SqL.of hD3⟩, _, rfl, _, rfl, two_line, fun e ne => ?_⟩
        have se := same_upd (o := .tup [V.ref l, .ref pb]) ne
        refine ⟨D, _, _, rfl, rfl, se _ _ hD3, small1000 (by omega), ?_⟩
        have hV := newTie (z := a) hl3 od hts3 hpb ne ⟨bd_bn bf.1 (by decide), bd_bn bf.2 (by decide)⟩
        have nlu : NL (upd G3 e (.tup [V.ref l, .ref pb])) (upd (upd G3 e (.tup [V.ref l, .ref pb])) D (.lst (us ++ [.ref e]))) := NL.upd (se _ _ hD3)
        have nla := (((bnl b1).trans (nl12.trans nl23)).trans (NL.of se)).trans nlu
        refine ⟨(hG3.same se).put nDa nDc, ((bG.trans bb).trans (But.of se)).updN nD, ?_, hP.nl nla, us ++ [.ref e], ties ++ [(tl', f)], upd_same, paired_snoc (paired_mono (fun _ _ h => h.nl nla) hT) (hV.nl nlu), ?_, by rw [List.length_append, tl]; rfl, _, _, _, _, rfl⟩
        · rw [upd_ne nDp.symm]
          exact se _ _ (bb _ _ npa hpG)
        · intro t ht
          rcases List.mem_append.mp ht with h | h
          · exact hg t h
          · rw [List.mem_singleton.mp h]
            exact ⟨hgt, hwt, nf, bf⟩
      · obtain ⟨hG, bG, hpG, hP, us, ties, hDG, hT, hg, tl, y7, y8, y9, y10, rfl⟩ := hq
        exact ⟨hG, bG, us, ties, hDG, hT, hg, by omega, _, _, _, _, _, _, rfl⟩
    · obtain ⟨hG, bG, us, ties, hDG, hT, hg, tl, y4, y6, y7, y8, y9, y10, rfl⟩ := hM
      exact ⟨_, rfl, q D us ties G hG bG nDa nD hDG hT hg tl⟩
end
/-! ### the law's own certificates -/
def isBl : PyData → Bool
  | .bool _ => true
  | _ => false
theorem kitBl {d : PyData} : kitB (tagD d) "bool" = some (isBl d) := by cases d <;> rfl
theorem kitIn {d : PyData} : kitB (tagD d) "int" = some (isBl d || isInt d) := by cases d <;> rfl
section
variable {P : Program} {w : World} {K : PySem.W.Frag} {mg : Str → Option Value} {base : Heap} {fa : Nat → Addr} {fd : Nat → FuncData}
theorem ok_is_part (T : Txt K mg fa fd) : FnOk P w K mg base CX0 2 (fa 40) (fd 40) ["_law_thing"] (spD ratD) := by
  refine T.F_is_part.ok sc_is_part (fun vs H Q E h => ?_) (fun cdv A outer s H vs Q E hr h => ?_)
  · obtain ⟨v, d, _, rfl, _⟩ := h
    rfl
  · obtain ⟨v, d, z, rfl, hv, q⟩ := h
    refine ⟨_, (C8.pss_cut (ps_if (PW.pt (pw_or (pt_not (pt_val (pe_callB call_isi (by rfl) T.m_isinstance PyProof.Rows.boot_isinstance (pa_cons (pv 0) (pa_cons (pe_bltn (v := .ty "tuple") (by rfl) T.m_tuple (by decide +kernel) rfl) pa_nil))))) (pw_or (pt_cmpR op_ne (pe_callB call_len_seq (by rfl) T.m_len PySem.boot_len (pa_cons (pv 0) pa_nil)) pe_int (nomark _)) (pw_or (pt_val (pe_callB call_isi (by rfl) T.m_isinstance PyProof.Rows.boot_isinstance (pa_cons (pe_ix ix_tup (pv 0) pe_int (fun _ _ => rfl)) (pa_cons (pe_bltn (v := .ty "bool") (by rfl) T.m_bool (by decide +kernel) rfl) pa_nil)))) (pw_or1 (pt_val (pe_callB call_isi (by rfl) T.m_isinstance PyProof.Rows.boot_isinstance (pa_cons (pe_ix ix_tup (pv 0) pe_int (fun _ _ => rfl)) (pa_cons (pe_bltn (v := .ty "bool") (by rfl) T.m_bool (by decide +kernel) rfl) pa_nil))))))))) (pss_one (ps_ret pe_bl)) pss_nil)
      (C8.pss_cut (ps_if (PW.pt (pw_or (pt_not (pt_val (pe_callB call_isi (by rfl) T.m_isinstance PyProof.Rows.boot_isinstance (pa_cons (pe_ix ix_tup (pv 0) pe_int (fun _ _ => rfl)) (pa_cons (pe_bltn (v := .ty "int") (by rfl) T.m_int (by decide +kernel) rfl) pa_nil))))) (pw_or (pt_not (pt_val (pe_callB call_isi (by rfl) T.m_isinstance PyProof.Rows.boot_isinstance (pa_cons (pe_ix ix_tup (pv 0) pe_int (fun _ _ => rfl)) (pa_cons (pe_bltn (v := .ty "int") (by rfl) T.m_int (by decide +kernel) rfl) pa_nil))))) (pw_or1 (pt_cmpR op_lt (pe_ix ix_tup (pv 0) pe_int (fun _ _ => rfl)) pe_int (nomark _)))))) (pss_one (ps_ret pe_bl)) pss_nil)
      (pss_one (ps_ret (pe_cmpR op_eq (pe_call (ok_gcd T) (hr.mono (by decide)) (by rfl) T.g_gcd T.F_gcd.kp T.b_gcd .nil pass0 (pa_cons (pe_ix ix_tup (pv 0) pe_int (fun _ _ => rfl)) (pa_cons (pe_ix ix_tup (pv 0) pe_int (fun _ _ => rfl)) pa_nil))) pe_int (nomark _)))))), ?_⟩
    refine ⟨fun σ H1 => H1 = H ∧ (∃ p x y d1 d2, v = .ref p ∧ d = .tuple [d1, d2] ∧ H p = some (.tup [x, y]) ∧ Dt z H x d1 ∧ Dt z H y d2 ∧ isBl d1 = false ∧ isBl d2 = false) ∧ σ = [some v], ?_, fun σ H1 hM => ?_⟩
    · refine ⟨_, rfl, _, _, _, _, _, rfl, .ty _, .base hv.ty, kit_ty kitTup, _, rfl, ?_⟩
      rcases hv.split with e | ⟨p, xs, ds, rfl, rfl, hp, hs⟩
      · rw [e]
        refine iteT (iteT ?_)
        have : ratD d = false := by cases d <;> first | rfl | cases e
        rw [this] at q
        exact q
      · refine iteF ⟨_, rfl, p, xs, rfl, .inr (SqT.of hp), rfl, _, rfl, ?_⟩
        rw [hs.len]
        match xs, ds, hs with
        | _, [], _ => exact iteT (iteT q)
        | _, [x], _ =>
          rw [ratD_one] at q
          exact iteT (iteT q)
        | _, x :: y :: z :: r, _ =>
          rw [ratD_many] at q
          rw [decide_eq_false (by simp; omega)]
          exact iteT (iteT q)
        | _, [d1, d2], .cons (v := x) h1 (.cons (v := y) h2 .nil) =>
          rw [decide_eq_true (show V.int (([d1, d2] : List PyData).length : Int) = V.int 2 from rfl)]
          rw [ratD_pair] at q
          refine iteF ⟨_, rfl, p, _, _, _, rfl, rfl, SqT.of hp, t0, _, _, _, _, _, rfl, .ty _, .base h1.ty, kit_ty kitBl, _, rfl, ?_⟩
          cases e1 : isBl d1 with
          | true =>
            have : isInt d1 = false := by cases d1 <;> first | rfl | cases e1
            rw [this] at q
            exact iteT (iteT q)
          | false =>
            refine iteF ⟨_, rfl, p, _, _, _, rfl, rfl, SqT.of hp, t1, _, _, _, _, _, rfl, .ty _, .base h2.ty, kit_ty kitBl, ?_⟩
            refine ⟨_, rfl, ?_⟩
            cases e2 : isBl d2 with
            | true =>
              have : isInt d2 = false := by cases d2 <;> first | rfl | cases e2
              rw [this, Bool.false_and, Bool.and_false] at q
              exact iteT q
            | false => exact iteF ⟨rfl, ⟨p, x, y, d1, d2, rfl, rfl, hp, h1, h2, e1, e2⟩, rfl⟩
    obtain ⟨rfl, ⟨p, x, y, d1, d2, rfl, rfl, hp, h1, h2, e1, e2⟩, rfl⟩ := hM
    rw [ratD_pair] at q
    refine ⟨fun σ H2 => H2 = H1 ∧ (∃ t u, x = .int t ∧ y = .int u ∧ d1 = .int t ∧ d2 = .int u ∧ 1 ≤ u) ∧ σ = [some (.ref p)], ?_, fun σ H2 hM => ?_⟩
    · refine ⟨_, rfl, p, _, _, _, rfl, rfl, SqT.of hp, t0, _, _, _, _, _, rfl, .ty _, .base h1.ty, kit_ty kitIn, _, rfl, ?_⟩
      rw [e1, Bool.false_or]
      cases f1 : isInt d1 with
      | false =>
        rw [f1] at q
        exact iteT (iteT q)
      | true =>
        rw [f1] at q
        refine iteF ⟨_, rfl, p, _, _, _, rfl, rfl, SqT.of hp, t1, _, _, _, _, _, rfl, .ty _, .base h2.ty, kit_ty kitIn, _, rfl, ?_⟩
        rw [e2, Bool.false_or]
        cases f2 : isInt d2 with
        | false =>
          rw [f2] at q
          exact iteT (iteT q)
        | true =>
          rw [f2] at q
          cases h1 with
          | int t _ =>
            cases h2 with
            | int u _ =>
              refine iteF ⟨_, rfl, p, _, _, _, rfl, rfl, SqT.of hp, t1, _, _, rfl, rfl, _, rfl, ?_⟩
              have q : Q (.bl (decide (1 ≤ u) && decide (Int.gcd t u = 1))) H1 := q
              by_cases c : u < 1
              · refine iteT' (decide_eq_true c) ?_
                rw [decide_eq_false (by omega)] at q
                exact q
              · exact iteF' (decide_eq_false c) ⟨rfl, ⟨t, u, rfl, rfl, rfl, rfl, by omega⟩, rfl⟩
            | _ => cases f2
          | _ => cases f1
    obtain ⟨rfl, ⟨t, u, rfl, rfl, rfl, rfl, hu⟩, rfl⟩ := hM
    have q : Q (.bl (decide (1 ≤ u) && decide (Int.gcd t u = 1))) H2 := q
    rw [decide_eq_true hu, Bool.true_and] at q
    refine ⟨_, rfl, p, _, _, _, rfl, rfl, SqT.of hp, t0, _, rfl, p, _, _, _, rfl, rfl, SqT.of hp, t1, t, u, rfl, ?_⟩
    have e : decide (V.int ((Int.gcd t u : Nat) : Int) = V.int 1) = decide (Int.gcd t u = 1) := by
      rw [decide_eq_decide, V.int.injEq]
      omega
    refine ⟨rfl, ?_⟩
    rw [← e] at q
    exact q
end
/-! ### the law's sum -/
theorem ix_tupK {X : Cx} {K : PySem.W.Frag} (h : X.K = K) : IxR X (rIxT K) := h ▸ ix_tup
def lastP : Int → List PyData → Int := List.foldl fun _ d => placeD d
theorem paperB_snoc (m : Int) : ∀ (l : List PyData) (b : Int) (d : PyData), paperB m b (l ++ [d]) = (paperB m b l && (shareB m d && decide (lastP b l < placeD d)))
  | [], b, d => by
    show (shareB m d && (decide (b < placeD d) && true)) = _
    rw [Bool.and_true]
    rfl
  | e :: l, b, d => by
    show (shareB m e && (decide (b < placeD e) && paperB m (placeD e) (l ++ [d]))) = _
    rw [paperB_snoc m l (placeD e) d]
    show _ = ((shareB m e && (decide (b < placeD e) && paperB m (placeD e) l)) && _)
    simp only [Bool.and_assoc]
    rfl
theorem paperB_pre (m : Int) : ∀ (l r : List PyData) (b : Int), paperB m b (l ++ r) = true → paperB m b l = true
  | [], _, _, _ => rfl
  | e :: l, r, b, h => by
    have h : (shareB m e && (decide (b < placeD e) && paperB m (placeD e) (l ++ r))) = true := h
    rw [Bool.and_eq_true, Bool.and_eq_true] at h
    show (shareB m e && (decide (b < placeD e) && paperB m (placeD e) l)) = true
    rw [h.1, h.2.1, paperB_pre m l r _ h.2.2]
    rfl
theorem lastP_ge {m : Int} : ∀ {l : List PyData} {b : Int}, paperB m b l = true → b ≤ lastP b l
  | [], _, _ => Int.le_refl _
  | e :: l, b, h => by
    have h : (shareB m e && (decide (b < placeD e) && paperB m (placeD e) l)) = true := h
    rw [Bool.and_eq_true, Bool.and_eq_true, decide_eq_true_eq] at h
    have := lastP_ge h.2.2
    show b ≤ lastP (placeD e) l
    omega
theorem mulL_comm (f g : FR) : mulL f g = mulL g f := by
  unfold mulL
  rw [Int.mul_comm f.1, Int.mul_comm f.2]
theorem take_succ8 {ds : List PyData} {i : Nat} {d : PyData} (h : ds[i]? = some d) : ds.take (i + 1) = ds.take i ++ [d] := by
  rw [List.take_add_one, h]
  rfl
section
variable {P : Program} {w : World} {K : PySem.W.Frag} {mg : Str → Option Value} {base : Heap} {fa : Nat → Addr} {fd : Nat → FuncData}
abbrev FrT (H : Hp) (p : Addr) (f : FR) : Prop := H p = some (trF f)
def spSummed (K : PySem.W.Frag) : Sp := fun vs H Q _ => ∃ (p0 p1 : Addr) (us0 us1 : List V) (ties : List Tie) (ds : List PyData) (z : Addr), vs = [.ref p0, .ref p1] ∧ H p0 = some (.lst us0) ∧ DtAll z (MH H) us0 (ties.map tieDt) ∧ H p1 = some (.lst us1) ∧ DtAll z H us1 ds ∧
  (∀ i, paperB ties.length (-1) (ds.take i) = true → SumOk ties (shOf (ds.take i))) ∧ (paperB ties.length (-1) ds = false → ∀ H', Same H H' → Q .non H') ∧
  (paperB ties.length (-1) ds = true → ∀ o d pb H', Same H H' → H' o = some (.tup [.ref d, .ref pb]) → RD K H' d (sumN ties (shOf ds)) (valL (sumIt ties (shOf ds))) → FrT H' pb (sumF ties (shOf ds)) → Q (.ref o) H')
theorem ok_summed (T : Txt K mg fa fd) : FnOk P w K mg base CX0 5 (fa 41) (fd 41) ["_law_bonds", "_law_paper"] (spSummed K) := by
  refine T.F_summed.ok sc_summed (fun vs H Q E h => ?_) (fun cdv A outer s H vs Q E hr h => ?_)
  · obtain ⟨p0, p1, _, _, _, _, _, rfl, _⟩ := h
    rfl
  · obtain ⟨p0, p1, us0, us1, ties, ds, z, rfl, h0, hd0, h1, hd1, ok, qn, qy⟩ := h
    refine ⟨_, (C8.pss_cut (ps_asg (pe_tup (pa_cons pe_dnewK (pa_cons (pe_tup (pa_cons pe_int (pa_cons pe_int pa_nil))) (pa_cons (pe_un un_neg pe_int) pa_nil)))) (pg_tup (by rfl) (pgs_cons (pg_name (i := 2) sc_summed.nd rfl (.inr rfl)) (pgs_cons (pg_name (i := 3) sc_summed.nd rfl (.inl rfl)) (pgs_cons (pg_name (i := 4) sc_summed.nd rfl (.inl rfl)) pgs_nil)))))
      (C8.pss_cut (ps_for PassesOwn.never rfl (pi_list (pv 1)) (pg_name (i := 5) sc_summed.nd rfl (.inl rfl)) (C8.pss_cut (ps_if (PW.pt (pw_or (pt_not (pt_val (pe_callB call_isi (by rfl) T.m_isinstance PyProof.Rows.boot_isinstance (pa_cons (pv 5) (pa_cons (pe_bltn (v := .ty "tuple") (by rfl) T.m_tuple (by decide +kernel) rfl) pa_nil))))) (pw_or (pt_cmpR op_ne (pe_callB call_len_seq (by rfl) T.m_len PySem.boot_len (pa_cons (pv 5) pa_nil)) pe_int (nomark _)) (pw_or (pt_val (pe_callB call_isi (by rfl) T.m_isinstance PyProof.Rows.boot_isinstance (pa_cons (pe_ix ix_tup (pv 5) pe_int (fun _ _ => rfl)) (pa_cons (pe_bltn (v := .ty "bool") (by rfl) T.m_bool (by decide +kernel) rfl) pa_nil)))) (pw_or1 (pt_not (pt_val (pe_callB call_isi (by rfl) T.m_isinstance PyProof.Rows.boot_isinstance (pa_cons (pe_ix ix_tup (pv 5) pe_int (fun _ _ => rfl)) (pa_cons (pe_bltn (v := .ty "int") (by rfl) T.m_int (by decide +kernel) rfl) pa_nil)))))))))) (pss_one (ps_ret pe_non)) pss_nil)
      (C8.pss_cut (ps_if (PW.pt (pw_or (pt_not (pt_chain op_lt op_lt (pv 4) (pe_ix ix_tup (pv 5) pe_int (fun _ _ => rfl)) (pe_callB call_len_seq (by rfl) T.m_len PySem.boot_len (pa_cons (pv 0) pa_nil)))) (pw_or (pt_not (pt_val (pe_call (ok_is_part T) (hr.mono (by decide)) (by rfl) T.g_is_part T.F_is_part.kp T.b_is_part .nil pass0 (pa_cons (pe_ix ix_tup (pv 5) pe_int (fun _ _ => rfl)) pa_nil)))) (pw_or1 (pt_cmpR op_lt (pe_ix ix_tup (pe_ix ix_tup (pv 5) pe_int (fun _ _ => rfl)) pe_int (fun _ _ => rfl)) pe_int (nomark _)))))) (pss_one (ps_ret pe_non)) pss_nil)
      (C8.pss_cut (ps_set (i := 4) sc_summed.nd rfl (.inl rfl) (pe_ix ix_tup (pv 5) pe_int (fun _ _ => rfl)))
      (C8.pss_cut (ps_set (i := 3) sc_summed.nd rfl (.inl rfl) (pe_call (ok_plus T) (hr.mono (by decide)) (by rfl) T.g_plus T.F_plus.kp T.b_plus .nil pass0 (pa_cons (pv 3) (pa_cons (pe_call (ok_by T) (hr.mono (by decide)) (by rfl) T.g_by T.F_by.kp T.b_by .nil pass0 (pa_cons (pe_ix ix_tup (pv 5) pe_int (fun _ _ => rfl)) (pa_cons (pe_ix ix_tup (pe_ix ix_list (pv 0) (pv 4) (fun _ _ => rfl)) pe_int (fun _ _ => rfl)) pa_nil))) pa_nil))))
      (pss_one (ps_for PassesOwn.never rfl (pi_tup (pe_ix ix_tup (pe_ix ix_list (pv 0) (pv 4) (fun _ _ => rfl)) pe_int (fun _ _ => rfl))) (pg_tup (by rfl) (pgs_cons (pg_name (i := 6) sc_summed.nd rfl (.inl rfl)) (pgs_cons (pg_name (i := 7) sc_summed.nd rfl (.inl rfl)) pgs_nil))) (pss_one (ps_dput (Nat.lt_of_le_of_lt (Nat.add_le_add_left (by decide) _) hr.units) (pv 2) (pv 6) (pe_call (ok_plus T) (hr.mono (by decide)) (by rfl) T.g_plus T.F_plus.kp T.b_plus .nil pass0 (pa_cons (pe_dget2 (Nat.lt_of_le_of_lt (Nat.add_le_add_left (by decide) _) hr.units) (pv 2) (pv 6) (pe_tup (pa_cons pe_int (pa_cons pe_int pa_nil))) ⟨by rfl, by rfl, by rfl, by rfl⟩) (pa_cons (pe_call (ok_by T) (hr.mono (by decide)) (by rfl) T.g_by T.F_by.kp T.b_by .nil pass0 (pa_cons (pe_ix ix_tup (pv 5) pe_int (fun _ _ => rfl)) (pa_cons (pv 7) pa_nil))) pa_nil))) (by rfl))))))))))
      (pss_one (ps_ret (pe_tup (pa_cons (pe_callTy (call_dictP rfl) (by rfl) T.m_dict (by decide +kernel) (pa_cons (pe_lock (pe_lc (own := [("_law_name", 6)]) (g := gName 6) (tt := _) rfl sc_summed.nd (pi_keys (pv 2)) (blkOk_by (own := [("_law_name", 6)]) (N := ["_law_bonds", "_law_paper", "_law_rates", "_law_bound", "_law_last", "_law_pair", "_law_name", "_law_rate_here"]) (sc := defScope s_summed) (by decide +kernel)) (fun _ _ _ _ _ => pg_name (i := 6) sc_summed.nd rfl (Or.inl rfl)) (fun _ _ _ _ _ => pts_one (pt_cmpR op_ne (pe_ix (ix_tupK (K := K) rfl) (pe_dget (Nat.lt_of_le_of_lt (Nat.add_le_add_left (by decide) _) hr.units) (pv 2) (pv 6) (fun _ _ => rfl)) pe_int (fun _ _ => rfl)) pe_int (nomark _))) (fun _ _ _ _ _ => (pe_tup (pa_cons (pv 6) (pa_cons (pe_dget (Nat.lt_of_le_of_lt (Nat.add_le_add_left (by decide) _) hr.units) (pv 2) (pv 6) (fun _ _ => rfl)) pa_nil)))))) pa_nil)) (pa_cons (pv 3) pa_nil))))))), ?_⟩
    have ul0 : us0.length = ties.length := by
      have := hd0.len
      rw [List.length_map] at this
      exact this
    have ul1 : us1.length = ds.length := hd1.len
    refine ⟨fun σ G => Same H G ∧ ∃ d pb, H d = none ∧ RD K G d [] (valL []) ∧ FrT G pb (0, 1) ∧ σ = [some (.ref p0), some (.ref p1), some (.ref d), some (.ref pb), some (.int (-1)), none, none, none], ?_, fun σ G hM => ?_⟩
    · refine fun d nd => ⟨two_line, fun pb npb => ⟨_, rfl, small_line (by show 3 ≤ 1000; decide), fun o no => ?_⟩⟩
      have s1 := same_upd (o := HO.dK []) nd
      have s2 := same_upd (o := trF (0, 1)) npb
      have s3 := same_upd (o := .tup [.ref d, .ref pb, .int (-1)]) no
      refine ⟨o, _, rfl, .inl (.inl upd_same), rfl, _, _, rfl, _, _, rfl, _, _, rfl, rfl, s1.trans (s2.trans s3), d, pb, nd, ⟨[], (s2.trans s3) _ _ upd_same, rfl, List.nodup_nil, fun x hx => by cases hx⟩, s3 _ _ upd_same, rfl⟩
    obtain ⟨s1, d, pb0, nd, hd, hpb0, rfl⟩ := hM
    refine ⟨fun σ G => Same H G ∧ paperB ties.length (-1) ds = true ∧ RD K G d (lawK (sumIt ties (shOf ds))) (valL (sumIt ties (shOf ds))) ∧ ∃ pb y4 y5 y6 y7, FrT G pb (sumF ties (shOf ds)) ∧ σ = [some (.ref p0), some (.ref p1), some (.ref d), some (.ref pb), y4, y5, y6, y7], ?_, fun σ G hM => ?_⟩
    · refine ⟨_, rfl, p1, rfl, ⟨_, SqL.of (s1 _ _ h1)⟩, for_list (K := K) (a := p1) (xs := us1) (fun i σ G => Same H G ∧ paperB ties.length (-1) (ds.take i) = true ∧ RD K G d (lawK (sumIt ties (shOf (ds.take i)))) (valL (sumIt ties (shOf (ds.take i)))) ∧ ∃ pb y5 y6 y7, FrT G pb (sumF ties (shOf (ds.take i))) ∧ σ = [some (.ref p0), some (.ref p1), some (.ref d), some (.ref pb), some (.int (lastP (-1) (ds.take i))), y5, y6, y7])
        ⟨s1, rfl, hd, pb0, _, _, _, hpb0, rfl⟩ (fun i σ G _ hq => SqL.of (hq.1 _ _ h1)) (fun i x σ G hx hq => ?_) (fun σ G hq => ?_)⟩
      · clear hd
        obtain ⟨sG, hpre, hd, pb, y5, y6, y7, hpb, rfl⟩ := hq
        obtain ⟨de, hde, hdt⟩ := DtAll.at i hd1 hx
        have etk := take_succ8 hde
        have bad : (shareB ties.length de && decide (lastP (-1) (ds.take i) < placeD de)) = false → ∀ H', Same H H' → Q .non H' := fun e => qn (by
          cases e2 : paperB ties.length (-1) ds with
          | false => rfl
          | true =>
            rw [← List.take_append_drop (i + 1) ds] at e2
            have := paperB_pre _ _ _ _ e2
            rw [etk, paperB_snoc, e, Bool.and_false] at this
            cases this)
        refine ⟨fun σ G1 => G1 = G ∧ (∃ pp k y0 d2, x = .ref pp ∧ de = .tuple [.int k, d2] ∧ H pp = some (.tup [.int k, y0]) ∧ Dt z H y0 d2) ∧ σ = [some (.ref p0), some (.ref p1), some (.ref d), some (.ref pb), some (.int (lastP (-1) (ds.take i))), some x, y6, y7], ?_, fun σ G1 hM => ?_⟩
        · have hdt' := hdt.same sG
          refine ⟨_, rfl, _, _, _, _, _, rfl, .ty _, .base hdt'.ty, kit_ty kitTup, _, rfl, ?_⟩
          rcases hdt.split with e | ⟨pp, xs, dd, rfl, rfl, hp, hs⟩
          · rw [e]
            refine iteT (iteT (bad ?_ _ sG))
            have : shareB ties.length de = false := by cases de <;> first | rfl | cases e
            rw [this]
            rfl
          · refine iteF ⟨_, rfl, pp, xs, rfl, .inr (SqT.of (sG _ _ hp)), rfl, _, rfl, ?_⟩
            rw [hs.len]
            match xs, dd, hs with
            | _, [], _ => exact iteT (iteT (bad rfl _ sG))
            | _, [x], _ => exact iteT (iteT (bad (by rw [share_one]; rfl) _ sG))
            | _, x :: y :: z :: r, _ =>
              rw [decide_eq_false (by simp; omega)]
              exact iteT (iteT (bad (by rw [share_many]; rfl) _ sG))
            | _, [d1, d2], .cons (v := x) h1 (.cons (v := y) h2 .nil) =>
              rw [decide_eq_true (show V.int (([d1, d2] : List PyData).length : Int) = V.int 2 from rfl)]
              refine iteF ⟨_, rfl, pp, _, _, _, rfl, rfl, SqT.of (sG _ _ hp), t0, _, _, _, _, _, rfl, .ty _, .base (h1.same sG).ty, kit_ty kitBl, _, rfl, ?_⟩
              have noI : isInt d1 = false → (shareB ties.length (.tuple [d1, d2]) && decide (lastP (-1) (ds.take i) < placeD (.tuple [d1, d2]))) = false := fun e => by rw [share_pair, e]; rfl
              cases e1 : isBl d1 with
              | true => exact iteT (iteT (bad (noI (by cases d1 <;> first | rfl | cases e1)) _ sG))
              | false =>
                refine iteF ⟨_, rfl, pp, _, _, _, rfl, rfl, SqT.of (sG _ _ hp), t0, _, _, _, _, _, rfl, .ty _, .base (h1.same sG).ty, kit_ty kitIn, _, rfl, ?_⟩
                rw [e1, Bool.false_or]
                cases e2 : isInt d1 with
                | false => exact iteT (bad (noI e2) _ sG)
                | true =>
                  cases h1 with
                  | int k _ => exact iteF ⟨rfl, ⟨pp, k, y, d2, rfl, rfl, hp, h2⟩, rfl⟩
                  | _ => cases e2
        obtain ⟨rfl, ⟨pp, k, y0, d2, rfl, rfl, hpp, hy⟩, rfl⟩ := hM
        have hlast := lastP_ge hpre
        have hppG := sG _ _ hpp
        have h0G := sG _ _ h0
        have sv : (shareB ties.length (.tuple [.int k, d2]) && decide (lastP (-1) (ds.take i) < placeD (.tuple [.int k, d2]))) = (((decide (0 ≤ k) && decide (k < ties.length)) && (ratD d2 && posD d2)) && decide (lastP (-1) (ds.take i) < k)) := rfl
        refine ⟨fun σ G2 => G2 = G1 ∧ (∃ (ps : Addr) (n u : Int), y0 = .ref ps ∧ d2 = frP (n, u) ∧ H ps = some (.tup [.int n, .int u]) ∧ 0 ≤ k ∧ k < ties.length ∧ 0 < n ∧ Nf (n, u) ∧ lastP (-1) (ds.take i) < k) ∧ σ = [some (.ref p0), some (.ref p1), some (.ref d), some (.ref pb), some (.int (lastP (-1) (ds.take i))), some (.ref pp), y6, y7], ?_, fun σ G2 hM => ?_⟩
        · refine ⟨_, rfl, _, rfl, pp, _, _, _, rfl, rfl, SqT.of hppG, t0, _, _, rfl, rfl, _, rfl, ?_⟩
          by_cases c1 : lastP (-1) (ds.take i) < k
          · refine iteT' (decide_eq_true c1) ⟨_, rfl, p0, us0, rfl, .inl (SqL.of h0G), _, _, rfl, rfl, _, rfl, ?_⟩
            rw [ul0]
            by_cases c2 : k < (ties.length : Int)
            · rw [decide_eq_true c2]
              refine iteF ⟨_, rfl, pp, _, _, _, rfl, rfl, SqT.of hppG, t1, y0, d2, z, rfl, hy.same sG, _, rfl, ?_⟩
              cases e2 : ratD d2 with
              | false => exact iteT (iteT (bad (by rw [sv, e2, Bool.false_and, Bool.and_false, Bool.false_and]) _ sG))
              | true =>
                obtain ⟨n, u, rfl⟩ := ratD_inv e2
                match y0, hy with
                | _, .tup (a := ps) hps (.cons (.int _ _) (.cons (.int _ _) .nil)) =>
                  refine iteF ⟨_, rfl, pp, _, _, _, rfl, rfl, SqT.of hppG, t1, ps, _, _, _, rfl, rfl, SqT.of (sG _ _ hps), t0, _, _, rfl, rfl, _, rfl, ?_⟩
                  have e2 : (decide (1 ≤ u) && decide (Int.gcd n u = 1)) = true := e2
                  rw [Bool.and_eq_true, decide_eq_true_eq, decide_eq_true_eq] at e2
                  by_cases c3 : n < 1
                  · refine iteT' (decide_eq_true c3) (bad ?_ _ sG)
                    rw [sv, show posD (.tuple [.int n, .int u]) = decide (0 < n) from rfl, decide_eq_false (show ¬ 0 < n by omega), Bool.and_false, Bool.and_false, Bool.false_and]
                  · exact iteF' (decide_eq_false c3) ⟨rfl, ⟨ps, n, u, rfl, rfl, hps, by omega, c2, by omega, ⟨by show 0 < u; omega, e2.2⟩, c1⟩, rfl⟩
            · rw [decide_eq_false c2]
              exact iteT (iteT (bad (by rw [sv, decide_eq_false c2, Bool.and_false, Bool.false_and, Bool.false_and]) _ sG))
          · exact iteF' (decide_eq_false c1) ⟨_, rfl, iteT (iteT (bad (by rw [sv, decide_eq_false c1, Bool.and_false]) _ sG))⟩
        obtain ⟨rfl, ⟨ps, n, u, rfl, rfl, hps, k0, km, n0, nfs, lk⟩, rfl⟩ := hM
        obtain ⟨ti, rfl⟩ := Int.eq_ofNat_of_zero_le k0
        obtain ⟨sh, rfl, rfl⟩ : ∃ sh : FR, n = sh.1 ∧ u = sh.2 := ⟨(n, u), rfl, rfl⟩
        have nfs : Nf sh := nfs
        have esh : shOf (ds.take (i + 1)) = shOf (ds.take i) ++ [(ti, sh)] := by
          rw [etk]
          unfold shOf
          rw [List.map_append]
          rfl
        have hpre' : paperB ties.length (-1) (ds.take (i + 1)) = true := by
          rw [etk, paperB_snoc, hpre, sv, decide_eq_true k0, decide_eq_true km, decide_eq_true lk, show posD (frP (sh.1, sh.2)) = decide (0 < sh.1) from rfl, decide_eq_true n0, show ratD (frP (sh.1, sh.2)) = (decide (1 ≤ sh.2) && decide (Int.gcd sh.1 sh.2 = 1)) from rfl, decide_eq_true (show 1 ≤ sh.2 by have := nfs.1; omega), decide_eq_true nfs.2]
          rfl
        have ok' := ok (i + 1) hpre'
        rw [esh] at ok'
        have bns := (ok'.nf (ti, sh) (List.mem_append_right _ (List.mem_singleton.mpr rfl))).2
        have til : ti < ties.length := by omega
        obtain ⟨⟨tl, bd⟩, hti⟩ : ∃ t, ties[ti]? = some t := ⟨_, List.getElem?_eq_getElem til⟩
        obtain ⟨tr, tnf, tbn, tl2⟩ := ok'.tl _ (List.mem_of_getElem? hti)
        obtain ⟨xt, hxt, hdtt⟩ : ∃ xt, us0[ti]? = some xt ∧ Dt z (MH H) xt (tieDt (tl, bd)) := by
          obtain ⟨xt, hxt⟩ : ∃ xt, us0[ti]? = some xt := ⟨_, List.getElem?_eq_getElem (by omega)⟩
          obtain ⟨d', hd', hdt'⟩ := DtAll.at ti hd0 hxt
          rw [List.getElem?_map, hti] at hd'
          cases hd'
          exact ⟨xt, hxt, hdt'⟩
        obtain ⟨nI, nB⟩ := its_nf ok'
        have hwI := ok'.w
        have hwB := ok'.wb
        have eits : itsOf ties (ti, sh) = tl.map fun u => (u.1, mulL u.2 sh) := by
          unfold itsOf
          rw [show ties[(ti, sh).1]? = some (tl, bd) from hti]
        have ebnd : bndOf ties (ti, sh) = mulL bd sh := by
          unfold bndOf
          rw [show ties[(ti, sh).1]? = some (tl, bd) from hti]
        have est : sumIt ties (shOf (ds.take i) ++ [(ti, sh)]) = sumIt ties (shOf (ds.take i)) ++ tl.map fun u => (u.1, mulL u.2 sh) := by
          rw [← eits]
          unfold sumIt
          rw [List.flatMap_append, List.flatMap_singleton]
        have ebt : sumB ties (shOf (ds.take i) ++ [(ti, sh)]) = sumB ties (shOf (ds.take i)) ++ [(([] : List Nat), mulL bd sh)] := by
          rw [← ebnd]
          unfold sumB
          rw [List.map_append]
          rfl
        rw [est] at nI hwI
        rw [ebt] at nB hwB
        have elast : lastP (-1) (ds.take (i + 1)) = (ti : Int) := by
          rw [etk]
          unfold lastP
          rw [List.foldl_append]
          rfl
        have esF : sumF ties (shOf (ds.take (i + 1))) = sumX [] (0, 1) (sumB ties (shOf (ds.take i)) ++ [(([] : List Nat), mulL bd sh)]) := by
          unfold sumF
          rw [esh, ebt]
        have esI : sumIt ties (shOf (ds.take (i + 1))) = sumIt ties (shOf (ds.take i)) ++ tl.map fun u => (u.1, mulL u.2 sh) := by rw [esh, est]
        rw [esF, esI, elast]
        unfold sumF at hpb
        generalize sumIt ties (shOf (ds.take i)) = dn at *
        generalize sumB ties (shOf (ds.take i)) = bn at *
        obtain ⟨pt, pl, yb, xsl, rfl, hpt, hpl, hls, hb2⟩ := tie_inv (show Dt z (MH H) xt (.tuple [.tuple (tl.map tmP), frP bd]) from hdtt)
        obtain ⟨pm, rfl, hpm⟩ := dt_fr hb2
        have xll : xsl.length = tl.length := by
          have := hls.len
          rw [List.length_map] at this
          exact this
        refine ⟨fun σ G3 => G3 = G2 ∧ σ = [some (.ref p0), some (.ref p1), some (.ref d), some (.ref pb), some (.int (ti : Nat)), some (.ref pp), y6, y7], ⟨_, rfl, pp, _, _, _, rfl, rfl, SqT.of hppG, t0, rfl, rfl⟩, fun σ G3 hM => ?_⟩
        obtain ⟨rfl, rfl⟩ := hM
        have subb := List.sublist_append_left bn [(([] : List Nat), mulL bd sh)]
        have nb : ∀ it ∈ bn, Nf it.2 := fun it hit => nB it (subb.subset hit)
        have wb := wIt_sub subb
        have nfb : Nf (sumX [] (0, 1) bn) := sumX_nf [] bn _ nf_01 nb
        have bnb : Bn 2048 (sumX [] (0, 1) bn) := (sumX_bn [] bn (0, 1) 1 nf_01 bn_01 nb).mono (by omega)
        have bwm : bw (mulL bd sh) ≤ 1900 := by
          have := bw_in (List.mem_append_right bn (List.mem_singleton.mpr (rfl : (([] : List Nat), mulL bd sh) = _)))
          have : bw (([] : List Nat), mulL bd sh).2 ≤ 1900 := by omega
          exact this
        refine ⟨fun σ G4 => Same H G4 ∧ RD K G4 d (lawK dn) (valL dn) ∧ ∃ pb, FrT G4 pb (sumX [] (0, 1) (bn ++ [(([] : List Nat), mulL bd sh)])) ∧ σ = [some (.ref p0), some (.ref p1), some (.ref d), some (.ref pb), some (.int (ti : Nat)), some (.ref pp), y6, y7], ?_, fun σ G4 hM => ?_⟩
        · refine ⟨_, rfl, _, rfl, pp, _, _, _, rfl, rfl, SqT.of hppG, t1, _, rfl, _, rfl, p0, us0, _, _, rfl, rfl, SqL.of h0G, atI_nat hxt, pt, _, _, _, rfl, rfl, mh_sq (mh_same sG _ _ hpt), t1, ?_⟩
          refine ⟨ps, pm, sh, bd, rfl, SqT.of (sG _ _ hps), mh_sq (mh_same sG _ _ hpm), nfs.1, tnf.1, bns.mono (by decide), tbn.mono (by decide), fun e ne => ?_⟩
          rw [mulL_comm sh bd]
          have se := same_upd (o := trF (mulL bd sh)) ne
          refine ⟨pb, e, sumX [] (0, 1) bn, mulL bd sh, rfl, SqT.sm se _ _ (SqT.of hpb), SqT.of upd_same, nfb.1, (mul_nf tnf nfs).1, bnb, (bw_bn _).mono (by omega), fun o no => ?_⟩
          have so := se.trans (same_upd (o := trF (addL (sumX [] (0, 1) bn) (mulL bd sh))) no)
          refine ⟨sG.trans so, hd.same so, o, ?_, rfl⟩
          rw [sumX_app]
          exact upd_same
        clear hpb hd
        obtain ⟨sG4, hd, pb4, hpb, rfl⟩ := hM
        have h0G4 := sG4 _ _ h0
        refine ⟨_, rfl, _, rfl, p0, us0, _, _, rfl, rfl, SqL.of h0G4, atI_nat hxt, pt, _, _, _, rfl, rfl, mh_sq (mh_same sG4 _ _ hpt), t0, pl, rfl, ⟨_, mh_sq (mh_same sG4 _ _ hpl)⟩, for_tup (K := K) (a := pl) (xs := xsl) (fun j σ G => Same H G ∧ RD K G d (lawK (dn ++ (tl.map fun u => (u.1, mulL u.2 sh)).take j)) (valL (dn ++ (tl.map fun u => (u.1, mulL u.2 sh)).take j)) ∧ FrT G pb4 (sumX [] (0, 1) (bn ++ [(([] : List Nat), mulL bd sh)])) ∧ ∃ y6 y7, σ = [some (.ref p0), some (.ref p1), some (.ref d), some (.ref pb4), some (.int (ti : Nat)), some (.ref pp), y6, y7])
          ⟨sG4, by rw [List.take_zero, List.append_nil]; exact hd, hpb, _, _, rfl⟩ (fun j σ G _ hq => mh_sq (mh_same hq.1 _ _ hpl)) (fun j x σ G hx hq => ?_) (fun σ G hq => ?_)⟩
        · clear hd sG4 hpb h0G4 hppG h0G sG G4
          obtain ⟨sG, hd, hpb, y6, y7, rfl⟩ := hq
          obtain ⟨du, hdu, hdut⟩ := DtAll.at j hls hx
          rw [List.getElem?_map] at hdu
          obtain ⟨⟨n, f⟩, hej, rfl⟩ := Option.map_eq_some_iff.mp hdu
          obtain ⟨nff, bnf⟩ := tr _ (List.mem_of_getElem? hej)
          have ets : (tl.map fun u => (u.1, mulL u.2 sh)).take (j + 1) = (tl.map fun u => (u.1, mulL u.2 sh)).take j ++ [(n, mulL f sh)] := by
            rw [List.take_add_one, List.getElem?_map, hej]
            rfl
          rw [ets, ← List.append_assoc]
          have sub2 : (dn ++ (tl.map fun u => (u.1, mulL u.2 sh)).take (j + 1)).Sublist (dn ++ tl.map fun u => (u.1, mulL u.2 sh)) := List.Sublist.append (List.Sublist.refl _) (List.take_sublist _ _)
          rw [ets, ← List.append_assoc] at sub2
          generalize dn ++ (tl.map fun u => (u.1, mulL u.2 sh)).take j = dj at *
          change Dt _ _ _ (.tuple [.str (SX.S n), frP f]) at hdut
          match x, hdut with
          | _, .tup (a := pq) hpq (.cons (.str _ _) (.cons hr' .nil)) =>
            obtain ⟨pr, rfl, hpr⟩ := dt_fr hr'
            obtain ⟨kvs, hkv, hR⟩ := hd
            have subj := (List.sublist_append_left dj [(n, mulL f sh)]).trans sub2
            have wj := wIt_sub subj
            have nj : ∀ it ∈ dj, Nf it.2 := fun it hit => nI it (subj.subset hit)
            have bwm : bw (mulL f sh) ≤ 1900 := by
              have := bw_in (sub2.subset (List.mem_append_right dj (List.mem_singleton.mpr rfl)))
              show bw (n, mulL f sh).2 ≤ 1900
              omega
            have djl : dj.length ≤ 1900 := by
              have key : ∀ l : List It, l.length ≤ wIt l := fun l => by
                induction l with
                | nil => exact Nat.zero_le _
                | cons a l ih =>
                  unfold wIt at *
                  rw [List.map_cons, List.sum_cons, List.length_cons]
                  omega
              have := key dj
              omega
            have hkl : kvs.length < sizeLine := by
              rw [hR.len]
              have := lawK_len dj
              exact Nat.lt_of_le_of_lt this (Nat.lt_of_le_of_lt djl (by decide +kernel))
            have nfm := mul_nf nff nfs
            have nfv : Nf (valL dj n) := sumX_nf n dj _ nf_01 nj
            have bnv : Bn 2048 (valL dj n) := (sumX_bn n dj (0, 1) 1 nf_01 bn_01 nj).mono (by omega)
            refine ⟨pq, _, rfl, mh_sq (mh_same sG _ _ hpq), rfl, _, _, rfl, _, _, rfl, rfl, ?_⟩
            refine ⟨_, rfl, d, rfl, .inl ⟨kvs, .inl hkv⟩, _, rfl, two_line, fun e0 ne0 => ⟨valV kvs (keyOf n), DGet.k (k := keyOf n) (same_upd ne0 _ _ hkv), ?_⟩⟩
            have s0 := same_upd (o := trF (0, 1)) ne0
            have got : ∃ q, (valV kvs (keyOf n)).getD (.ref e0) = .ref q ∧ FrK K (upd G e0 (trF (0, 1))) q (valL dj n) := by
              by_cases m : n ∈ lawK dj
              · obtain ⟨q, e, h⟩ := hR.2.2 n m
                exact ⟨q, by rw [e]; rfl, SqT.sm s0 _ _ h.1⟩
              · rw [hR.none m, lawV_none m]
                exact ⟨e0, rfl, SqT.of upd_same⟩
            obtain ⟨q1, eq1, hq1⟩ := got
            rw [eq1]
            refine ⟨_, rfl, pp, _, _, _, rfl, rfl, SqT.of (s0 _ _ (sG _ _ hpp)), t1, _, rfl, ps, pr, sh, f, rfl, SqT.of (s0 _ _ (sG _ _ hps)), mh_sq (mh_same (sG.trans s0) _ _ hpr), nfs.1, nff.1, bns.mono (by decide), bnf.mono (by decide), fun e ne => ?_⟩
            rw [mulL_comm sh f]
            have se := same_upd (o := trF (mulL f sh)) ne
            refine ⟨q1, e, valL dj n, mulL f sh, rfl, SqT.sm se _ _ hq1, SqT.of upd_same, nfv.1, nfm.1, bnv, (bw_bn _).mono (by omega), fun o no => ?_⟩
            have so := s0.trans (se.trans (same_upd (o := trF (addL (valL dj n) (mulL f sh))) no))
            have hkv2 := so _ _ hkv
            refine ⟨_, rfl, _, rfl, d, _, rfl, DPut.k (k := keyOf n) hkv2 hkl, ?_, ?_, ?_, _, _, rfl⟩
            · intro b u eb
              rw [upd_ne (ne_of_none eb nd)]
              exact so _ _ (sG _ _ eb)
            · rw [lawK_snoc, valL_snoc]
              exact ⟨_, upd_same, ((hR.mono (Tr.sm so)).put upd_same).mono (Tr.updD hkv2)⟩
            · exact (Tr.updD (K := K) hkv2).2 _ _ (so _ _ hpb)
        · obtain ⟨sG2, hd2, hpb2, y6, y7, rfl⟩ := hq
          rw [xll, show tl.length = (tl.map fun u => (u.1, mulL u.2 sh)).length from (List.length_map _).symm, List.take_length] at hd2
          exact ⟨sG2, hpre', hd2, pb4, _, _, _, hpb2, rfl⟩
      · obtain ⟨sG, hpre, hd, pb, y5, y6, y7, hpb, rfl⟩ := hq
        rw [ul1, List.take_length] at hd hpb hpre
        exact ⟨sG, hpre, hd, pb, _, _, _, _, hpb, rfl⟩
    clear hd hpb0 s1
    obtain ⟨sG, hpre, hd, pb, y4, y5, y6, y7, hpb, rfl⟩ := hM
    obtain ⟨kvs, hk, hR⟩ := hd
    have okF : SumOk ties (shOf ds) := by
      have := ok ds.length (by rw [List.take_length]; exact hpre)
      rw [List.take_length] at this
      exact this
    have nfV : ∀ x, Nf (valL (sumIt ties (shOf ds)) x) := fun x => sumX_nf x _ _ nf_01 (its_nf okF).1
    have qy := qy hpre
    unfold sumN at qy
    have kl : kvs.length ≤ 1900 := by
      rw [hR.len]
      have h1 := lawK_len (sumIt ties (shOf ds))
      have key : ∀ l : List It, l.length ≤ wIt l := fun l => by
        induction l with
        | nil => exact Nat.zero_le _
        | cons a l ih =>
          unfold wIt at *
          rw [List.map_cons, List.sum_cons, List.length_cons]
          omega
      have := key (sumIt ties (shOf ds))
      have := okF.w
      omega
    generalize valL (sumIt ties (shOf ds)) = val at *
    have ndk : (kvs.map (·.1)).Nodup := by rw [hR.1]; exact key_nodup hR.2.1
    refine ⟨d, _, hk, trivial, fun od => ?_⟩
    refine ⟨_, rfl, d, od, rfl, .inl ⟨kvs, upd_same, fun D nD => ?_⟩⟩
    have naD : D ≠ d := fun e => by rw [e, upd_same] at nD; cases nD
    have nDG : G D = none := by
      rw [upd_ne naD] at nD
      exact nD
    refine lc_keys (fun i G' => G' d = some (.frz od (.dK kvs)) ∧ Ex d G G' ∧ ∃ ps : List Addr, G' D = some (.lst (ps.map V.ref)) ∧ Paired (fun p kv => G' p = some (.tup [kV kv.1, kv.2])) ps ((kvs.take i).filter (fK val))) ⟨?_, ?_, [], upd_same, .nil⟩ (fun i G' h => h.1) (fun i k vv G' hkv hp => ?_) (fun G' hp => ?_)
    · rw [upd_ne naD.symm]
      exact upd_same
    · exact fun c o e n => by
        rw [upd_ne (ne_of_none e nDG), upd_ne n]
        exact e
    · obtain ⟨hfa, ex, ps, hD, hpp⟩ := hp
      obtain ⟨x, hx, rfl⟩ := keys_at hR.1 hkv
      have hRG := hR.mono (ex.sqt hk)
      obtain ⟨p, ep, fp⟩ := hRG.2.2 x (List.mem_of_getElem? hx)
      have evv := valV_mem ndk (List.mem_of_getElem? hkv)
      rw [evv] at ep
      obtain rfl : vv = .ref p := Option.some.inj ep
      have tk : (kvs.take (i + 1)).filter (fK val) = (kvs.take i).filter (fK val) ++ (if nzV val x = true then [(keyOf x, .ref p)] else []) := by
        rw [List.take_add_one, hkv, List.filter_append]
        show _ ++ List.filter (fK val) [(keyOf x, V.ref p)] = _
        rw [List.filter_cons, fK_key]
        split <;> rfl
      rw [tk]
      refine ⟨rfl, _, rfl, _, rfl, d, _, rfl, .inl ⟨kvs, keyOf x, .inr ⟨od, hfa⟩, rfl, evv.symm⟩, ?_⟩
      refine ⟨p, _, _, _, rfl, rfl, fp.1, t0, ?_⟩
      have ec : (!decide (V.int (val x).1 = V.int 0)) = nzV val x := by
        unfold nzV
        rw [Bool.eq_iff_iff, Bool.not_eq_true', decide_eq_false_iff_not, decide_eq_true_eq, V.int.injEq]
        constructor
        · intro h e
          rw [e] at h
          exact h rfl
        · intro h e
          refine h (Prod.ext e ?_)
          have := nfV x
          have g := this.2
          rw [e, Int.gcd_zero_left] at g
          show (val x).2 = 1
          have := this.1
          omega
      refine ⟨rfl, _, rfl, ?_⟩
      rw [ec]
      cases hz : nzV val x with
      | false =>
        refine iteF ⟨hfa, ex, ps, hD, ?_⟩
        rw [if_neg (by decide), List.append_nil]
        exact hpp
      | true =>
        refine iteT ⟨_, rfl, _, rfl, _, rfl, d, _, rfl, .inl ⟨kvs, keyOf x, .inr ⟨od, hfa⟩, rfl, evv.symm⟩, two_line, fun o no => ?_⟩
        have so := same_upd (o := .tup [kV (keyOf x), .ref p]) no
        have hDo := so _ _ hD
        have pl : ps.length ≤ 1900 := by
          have h1 := Paired.length hpp
          have h2 := List.length_filter_le (fK val) (kvs.take i)
          rw [List.length_take] at h2
          omega
        refine ⟨ps.map V.ref, hDo, by rw [List.length_map]; exact Nat.lt_of_le_of_lt pl (by decide +kernel), ?_, (ex.same so).upd nDG, ps ++ [o], ?_, ?_⟩
        · rw [upd_ne naD.symm]
          exact so _ _ hfa
        · rw [upd_same, List.map_append]
          rfl
        · rw [if_pos rfl]
          refine paired_snoc (paired_mono (fun a b h => ?_) hpp) ?_
          · rw [upd_ne (fun e => by rw [e, hD] at h; cases h)]
            exact so _ _ h
          · rw [upd_ne (fun e => by rw [e, hD] at no; cases no)]
            exact upd_same
    · obtain ⟨hfa, ex, ps, hD, hpp⟩ := hp
      rw [List.take_length] at hpp
      refine ⟨hfa, ?_⟩
      have sb := ex.back hk
      have hD2 : upd G' d (.dK kvs) D = some (.lst (ps.map V.ref)) := by
        rw [upd_ne naD]
        exact hD
      have hpp2 : Paired (fun p kv => upd G' d (.dK kvs) p = some (.tup [kV kv.1, kv.2])) ps (kvs.filter (fK val)) := paired_mono (fun a b h => by
        rw [upd_ne (fun e => by rw [e, hfa] at h; cases h)]
        exact h) hpp
      refine ⟨D, ps, kvs.filter (fK val), rfl, SqL.of hD2, paired_mono (fun a b h => SqT.of h) hpp2, fun e ne => ?_⟩
      have ndf : ((([] : List (Key × V)) ++ kvs.filter (fK val)).map (·.1)).Nodup := by
        rw [List.nil_append]
        exact List.Nodup.sublist (List.Sublist.map _ List.filter_sublist) ndk
      rw [merge_new _ [] ndf, List.nil_append]
      have se := same_upd (o := HO.dK (kvs.filter (fK val))) ne
      refine ⟨_, rfl, two_line, fun o no => ?_⟩
      have so := same_upd (o := HO.tup [V.ref e, .ref pb]) no
      have sA := sb.trans (se.trans so)
      exact qy o e pb _ (sG.trans sA) upd_same ⟨_, so _ _ upd_same, (hR.filter).mono (Tr.sm sA)⟩ (sA _ _ hpb)
end
theorem ltF0 (f : FR) : ltF f (0, 1) = decide (f.1 < 0) := by
  unfold ltF
  rw [Int.mul_one, Int.zero_mul]
section
variable {P : Program} {w : World} {K : PySem.W.Frag} {mg : Str → Option Value} {base : Heap} {fa : Nat → Addr} {fd : Nat → FuncData}
def spRefuted (K : PySem.W.Frag) : Sp := fun vs H Q _ => ∃ (p0 p1 : Addr) (us0 us1 : List V) (ties : List Tie) (ds : List PyData) (z : Addr), vs = [.ref p0, .ref p1] ∧ H p0 = some (.lst us0) ∧ DtAll z (MH H) us0 (ties.map tieDt) ∧ H p1 = some (.lst us1) ∧ DtAll z H us1 ds ∧
  (∀ i, paperB ties.length (-1) (ds.take i) = true → SumOk ties (shOf (ds.take i))) ∧ ∀ H', Same H H' → Q (.bl (refB ties ds)) H'
theorem ok_refuted (T : Txt K mg fa fd) : FnOk P w K mg base CX0 6 (fa 42) (fd 42) ["_law_bonds", "_law_paper"] (spRefuted K) := by
  refine T.F_refuted.ok sc_refuted (fun vs H Q E h => ?_) (fun cdv A outer s H vs Q E hr h => ?_)
  · obtain ⟨p0, p1, _, _, _, _, _, rfl, _⟩ := h
    rfl
  · obtain ⟨p0, p1, us0, us1, ties, ds, z, rfl, h0, hd0, h1, hd1, ok, q⟩ := h
    refine ⟨_, (C8.pss_cut (ps_set (i := 2) sc_refuted.nd rfl (.inl rfl) (pe_call (ok_summed T) (hr.mono (by decide)) (by rfl) T.g_summed T.F_summed.kp T.b_summed .nil pass0 (pa_cons (pv 0) (pa_cons (pv 1) pa_nil))))
      (pss_one (ps_ret (pe_and (pe_cmpR op_notN (pv 2) pe_non (nomark _)) (pe_and (pe_cmpR (op_eq_dictGK (K := K) rfl (room65 hr)) (pe_ix ix_tup (pv 2) pe_int (fun _ _ => rfl)) pe_dnewK (nomark _)) (pe_one (pe_cmpR op_lt (pe_ix ix_tup (pe_ix ix_tup (pv 2) pe_int (fun _ _ => rfl)) pe_int (fun _ _ => rfl)) pe_int (nomark _)))))))), ?_⟩
    have ul1 : us1.length = ds.length := hd1.len
    unfold refB at q
    refine ⟨fun σ G => Same H G ∧ ((paperB ties.length (-1) ds = false ∧ σ = [some (.ref p0), some (.ref p1), some .non]) ∨ (paperB ties.length (-1) ds = true ∧ ∃ o d pb, G o = some (.tup [.ref d, .ref pb]) ∧ RD K G d (sumN ties (shOf ds)) (valL (sumIt ties (shOf ds))) ∧ FrK K G pb (sumF ties (shOf ds)) ∧ σ = [some (.ref p0), some (.ref p1), some (.ref o)])), ?_, fun σ G hM => ?_⟩
    · refine ⟨_, rfl, _, rfl, p0, p1, us0, us1, ties, ds, z, rfl, h0, hd0, h1, hd1, ok, fun e H' s => ⟨s, .inl ⟨e, rfl⟩⟩, fun e o d pb H' s ho hd hb => ⟨s, .inr ⟨e, o, d, pb, ho, hd, SqT.of hb, rfl⟩⟩⟩
    obtain ⟨sG, ⟨e, rfl⟩ | ⟨e, o, d, pb, ho, ⟨kvs, hk, hR⟩, hb, rfl⟩⟩ := hM
    · rw [e] at q
      exact ⟨_, rfl, rfl, _, rfl, iteF (q G sG)⟩
    · rw [e] at q
      refine ⟨_, rfl, rfl, _, rfl, iteT ⟨_, rfl, o, _, _, _, rfl, rfl, SqT.of ho, t0, fun nd hn => ?_⟩⟩
      have so := same_upd (o := HO.dK []) hn
      refine ⟨d, nd, kvs, [], fun _ => false, rfl, rfl, so _ _ hk, upd_same, fun p _ => .inl ⟨rfl, rfl⟩, _, rfl, ?_⟩
      rw [no_keys, hR.len]
      have q : ∀ H', Same H H' → Q (V.bl (decide ((sumN ties (shOf ds)).length = 0) && ltF (sumF ties (shOf ds)) (0, 1))) H' := q
      by_cases c : (sumN ties (shOf ds)).length = 0
      · rw [decide_eq_true c] at q
        refine iteT' (decide_eq_true c) ⟨_, rfl, o, _, _, _, rfl, rfl, SqT.of (so _ _ ho), t1, pb, _, _, _, rfl, rfl, SqT.sm so _ _ hb, t0, _, _, rfl, rfl, ?_⟩
        rw [ltF0] at q
        exact q _ (sG.trans so)
      · rw [decide_eq_false c] at q
        exact iteF' (decide_eq_false c) (q _ (sG.trans so))
def spDerived (K : PySem.W.Frag) : Sp := fun vs H Q _ => ∃ (p0 p1 : Addr) (tv : V) (us0 us1 : List V) (ties : List Tie) (t : Tie) (ds : List PyData) (z : Addr), vs = [.ref p0, tv, .ref p1] ∧ H p0 = some (.lst us0) ∧ DtAll z (MH H) us0 (ties.map tieDt) ∧
  (Dt z (MH H) tv (tieDt t) ∧ FzT H tv ∧ (t.1.map (·.1)).Nodup ∧ t.1 ≠ [] ∧ Bn 2048 t.2) ∧ H p1 = some (.lst us1) ∧ DtAll z H us1 ds ∧
  (∀ i, paperB ties.length (-1) (ds.take i) = true → SumOk ties (shOf (ds.take i))) ∧ ∀ H', Same H H' → Q (.bl (derB ties t ds)) H'
theorem ok_derived (T : Txt K mg fa fd) : FnOk P w K mg base CX0 7 (fa 43) (fd 43) ["_law_bonds", "_law_tie", "_law_paper"] (spDerived K) := by
  refine T.F_derived.ok sc_derived (fun vs H Q E h => ?_) (fun cdv A outer s H vs Q E hr h => ?_)
  · obtain ⟨p0, p1, tv, _, _, _, _, _, _, rfl, _⟩ := h
    rfl
  · obtain ⟨p0, p1, tv, us0, us1, ties, ⟨tl, bd⟩, ds, z, rfl, h0, hd0, ⟨hdt, hfz, ndt, tne, bnt⟩, h1, hd1, ok, q⟩ := h
    refine ⟨_, (C8.pss_cut (ps_set (i := 3) sc_derived.nd rfl (.inl rfl) (pe_call (ok_summed T) (hr.mono (by decide)) (by rfl) T.g_summed T.F_summed.kp T.b_summed .nil pass0 (pa_cons (pv 0) (pa_cons (pv 2) pa_nil))))
      (C8.pss_cut (ps_if (pt_cmpR op_isN (pv 3) pe_non (nomark _)) (pss_one (ps_ret pe_bl)) pss_nil)
      (pss_one (ps_ret (pe_or (pe_call (ok_refuted T) (hr.mono (by decide)) (by rfl) T.g_refuted T.F_refuted.kp T.b_refuted .nil pass0 (pa_cons (pv 0) (pa_cons (pv 2) pa_nil))) (pe_one (pe_and (pe_cmpR (op_eq_dictGK (K := K) rfl (room65 hr)) (pe_ix ix_tup (pv 3) pe_int (fun _ _ => rfl)) (pe_callTy (call_dictTK (K := K) rfl rfl) (by rfl) T.m_dict (by decide +kernel) (pa_cons (pe_ix ix_tup (pv 1) pe_int (fun _ _ => rfl)) pa_nil)) (nomark _)) (pe_one (pe_not (pe_call (ok_under T) (hr.mono (by decide)) (by rfl) T.g_under T.F_under.kp T.b_under .nil pass0 (pa_cons (pe_ix ix_tup (pv 1) pe_int (fun _ _ => rfl)) (pa_cons (pe_ix ix_tup (pv 3) pe_int (fun _ _ => rfl)) pa_nil)))))))))))), ?_⟩
    refine ⟨fun σ G => Same H G ∧ ((paperB ties.length (-1) ds = false ∧ σ = [some (.ref p0), some tv, some (.ref p1), some .non]) ∨ (paperB ties.length (-1) ds = true ∧ ∃ o d pb, G o = some (.tup [.ref d, .ref pb]) ∧ RD K G d (sumN ties (shOf ds)) (valL (sumIt ties (shOf ds))) ∧ FrK K G pb (sumF ties (shOf ds)) ∧ σ = [some (.ref p0), some tv, some (.ref p1), some (.ref o)])), ?_, fun σ G hM => ?_⟩
    · refine ⟨_, rfl, _, rfl, p0, p1, us0, us1, ties, ds, z, rfl, h0, hd0, h1, hd1, ok, fun e H' s => ⟨s, .inl ⟨e, rfl⟩⟩, fun e o d pb H' s ho hd hb => ⟨s, .inr ⟨e, o, d, pb, ho, hd, SqT.of hb, rfl⟩⟩⟩
    refine ⟨fun σ G2 => Same H G2 ∧ paperB ties.length (-1) ds = true ∧ ∃ o d pb, G2 o = some (.tup [.ref d, .ref pb]) ∧ RD K G2 d (sumN ties (shOf ds)) (valL (sumIt ties (shOf ds))) ∧ FrK K G2 pb (sumF ties (shOf ds)) ∧ σ = [some (.ref p0), some tv, some (.ref p1), some (.ref o)], ?_, fun σ G2 hM2 => ?_⟩
    · obtain ⟨sG, ⟨e, rfl⟩ | ⟨e, o, d, pb, ho, hd, hb, rfl⟩⟩ := hM
      · unfold derB at q
        rw [e] at q
        exact ⟨_, rfl, rfl, _, rfl, iteT (q G sG)⟩
      · exact ⟨_, rfl, rfl, _, rfl, iteF ⟨sG, e, o, d, pb, ho, hd, hb, rfl⟩⟩
    clear hM
    obtain ⟨sG, ep, o, d, pb, ho, ⟨kvs, hk, hR⟩, hb, rfl⟩ := hM2
    have okF : SumOk ties (shOf ds) := by
      have := ok ds.length (by rw [List.take_length]; exact ep)
      rw [List.take_length] at this
      exact this
    unfold derB at q
    rw [ep, Bool.true_and] at q
    refine ⟨_, rfl, _, rfl, p0, p1, us0, us1, ties, ds, z, rfl, sG _ _ h0, hd0.same (mh_same sG), sG _ _ h1, hd1.same sG, ok, fun H3 s3 => ?_⟩
    have er : refB ties ds = (decide ((sumN ties (shOf ds)).length = 0) && ltF (sumF ties (shOf ds)) (0, 1)) := by
      unfold refB
      rw [ep, Bool.true_and]
    obtain ⟨pt, pl, pmv, od, xs, rfl, hpt, hpl, hdn⟩ := hfz
    obtain ⟨pt', pl', yb, xsl, e1, hpt', hpl', hls, hb2⟩ := tie_inv (show Dt z (MH H) (.ref pt) (.tuple [.tuple (tl.map tmP), frP bd]) from hdt)
    cases e1
    rw [hpt] at hpt'
    cases hpt'
    rw [mh_frz hpl] at hpl'
    cases hpl'
    obtain ⟨pm, rfl, hpm⟩ := dt_fr hb2
    obtain ⟨ps, kv2, rfl, hpp, hpT⟩ := terms_paired (K := K) hls
    have q2 : (refB ties ds = true ∧ ∀ H', Same H H' → Q (V.bl true) H') ∨ (refB ties ds = false ∧ ∀ H', Same H H' → Q (V.bl (eqT (sumN ties (shOf ds)) (valL (sumIt ties (shOf ds))) tl && !ltF bd (sumF ties (shOf ds)))) H') := by
      by_cases c : (sumN ties (shOf ds)).length = 0
      · rw [if_pos c] at q
        rw [er, decide_eq_true c, Bool.true_and]
        cases e : ltF (sumF ties (shOf ds)) (0, 1) with
        | true =>
          rw [e] at q
          exact .inl ⟨rfl, q⟩
        | false =>
          rw [e] at q
          have ef : eqT (sumN ties (shOf ds)) (valL (sumIt ties (shOf ds))) tl = false := by
            unfold eqT
            rw [decide_eq_false (fun h => tne (List.eq_nil_of_length_eq_zero (h.symm.trans c))), Bool.false_and]
          rw [ef, Bool.false_and]
          exact .inr ⟨rfl, q⟩
      · rw [if_neg c] at q
        rw [er, decide_eq_false c, Bool.false_and]
        exact .inr ⟨rfl, q⟩
    refine ⟨_, rfl, ?_⟩
    rcases q2 with ⟨e, q⟩ | ⟨e, q⟩
    · exact iteT' e (q _ (sG.trans s3))
    refine iteF' e ?_
    have s3' := sG.trans s3
    have tr := Tr.sm (K := K) s3'
    have hR1 := hR.mono (Tr.sm s3)
    have hpp1 := paired_imp (fun p kv h => tr.1 p _ h) hpp
    refine ⟨_, rfl, o, _, _, _, rfl, rfl, SqT.of (s3 _ _ ho), t0, _, rfl, pt, _, _, _, rfl, rfl, mh_sq (mh_same s3' _ _ hpt), t0, pl, ps, kv2, rfl, .inl ⟨od, s3' _ _ hpl, hdn⟩, hpp1, fun nd hn => ?_⟩
    have so := same_upd (o := HO.dK kv2) hn
    have nd2 : ((([] : List (Key × V)) ++ kv2).map (·.1)).Nodup := by
      rw [List.nil_append, tm_keys hpT]
      have := key_nodup ndt
      rw [List.map_map] at this
      exact this
    rw [merge_new kv2 [] nd2, List.nil_append]
    have hT1 : Paired (TmE K (upd H3 nd (.dK kv2))) kv2 tl := paired_imp (fun kv u h => ⟨h.1, h.2.choose, h.2.choose_spec.1, SqT.sm (s3'.trans so) _ _ h.2.choose_spec.2⟩) hpT
    have hR2 := hR1.mono (Tr.sm so)
    refine ⟨d, nd, kvs, kv2, eK (valL (sumIt ties (shOf ds))) tl, rfl, rfl, so _ _ (s3 _ _ hk), upd_same, eqE_rates hR2 hT1, _, rfl, ?_⟩
    rw [eq_rates hR2 hT1]
    cases e : eqT (sumN ties (shOf ds)) (valL (sumIt ties (shOf ds))) tl with
    | false =>
      rw [e] at q
      exact iteF (q _ (s3'.trans so))
    | true =>
      rw [e] at q
      refine iteT ⟨_, rfl, pt, _, _, _, rfl, rfl, mh_sq (mh_same (s3'.trans so) _ _ hpt), t1, _, rfl, o, _, _, _, rfl, rfl, SqT.of (so _ _ (s3 _ _ ho)), t1, pm, pb, bd, sumF ties (shOf ds), rfl, mh_sq (mh_same (s3'.trans so) _ _ hpm), SqT.sm (s3.trans so) _ _ hb, bnt, sumF_ok okF, ?_⟩
      exact ⟨_, rfl, q _ (s3'.trans so)⟩
end
/-! ### sums of small papers over small ties -/
def smD : PyData → Bool
  | .tuple [.int _, .tuple [.int n, .int u]] => decide (n.natAbs < 2 ^ 40) && decide (u.natAbs < 2 ^ 40)
  | _ => true
structure TieS (t : Tie) : Prop where
  nf : ∀ u ∈ t.1, Nf u.2 ∧ Bn 3 u.2
  bf : Nf t.2
  bn : Bn 90 t.2
  ln : t.1.length = 1 ∨ t.1.length = 2
  nd : (t.1.map (·.1)).Nodup
theorem TieG.s {ws : List (List Nat)} {t : Tie} (h : TieG ws t) : TieS t := ⟨h.tl.nf, h.nf, h.bn.mono (by decide), h.tl.len, h.tl.nd⟩
theorem paperB_all {m : Int} : ∀ {l : List PyData} {b : Int}, paperB m b l = true → ∀ d ∈ l, shareB m d = true
  | e :: l, b, h, d, hd => by
    have h : (shareB m e && (decide (b < placeD e) && paperB m (placeD e) l)) = true := h
    rw [Bool.and_eq_true, Bool.and_eq_true] at h
    rcases List.mem_cons.mp hd with rfl | hd
    · exact h.1
    · exact paperB_all h.2.2 d hd
theorem paperB_len {m : Int} : ∀ {l : List PyData} {b : Int}, paperB m b l = true → b < m → (l.length : Int) ≤ m - 1 - b
  | [], b, _, h => by
    show (0 : Int) ≤ _
    omega
  | e :: l, b, h, hb => by
    have h : (shareB m e && (decide (b < placeD e) && paperB m (placeD e) l)) = true := h
    rw [Bool.and_eq_true, Bool.and_eq_true, decide_eq_true_eq] at h
    obtain ⟨i, n, u, rfl, h0, hm, _⟩ := share_inv h.1
    have h2 : b < i := h.2.1
    have := paperB_len (l := l) (b := i) h.2.2 hm
    rw [List.length_cons]
    omega
theorem bw_le {k : Nat} {f : FR} (h : Bn k f) (hk : 0 < k) : bw f ≤ 2 * k := by
  have a := log_lt h.1 hk
  have b := log_lt h.2 hk
  unfold bw
  omega
theorem wIt_le {c : Nat} : ∀ {l : List It}, (∀ it ∈ l, bw it.2 ≤ c) → wIt l ≤ l.length * (c + 1)
  | [], _ => Nat.zero_le _
  | a :: l, h => by
    have ih := wIt_le fun it hit => h it (List.mem_cons_of_mem _ hit)
    have := h a List.mem_cons_self
    unfold wIt at *
    rw [List.map_cons, List.sum_cons, List.length_cons, Nat.succ_mul]
    omega
theorem shOf_nf {m : Int} {l : List PyData} {b : Int} (h : paperB m b l = true) (sm : ∀ d ∈ l, smD d = true) : ∀ e ∈ shOf l, (e.1 : Int) < m ∧ Nf e.2 ∧ Bn 40 e.2 := fun e he => by
  obtain ⟨d, hd, rfl⟩ := List.mem_map.mp he
  obtain ⟨i, n, u, rfl, h0, hm, h1, h2, h3⟩ := share_inv (paperB_all h d hd)
  have s : (decide (n.natAbs < 2 ^ 40) && decide (u.natAbs < 2 ^ 40)) = true := sm _ hd
  rw [Bool.and_eq_true, decide_eq_true_eq, decide_eq_true_eq] at s
  refine ⟨?_, ⟨by show 0 < u; omega, h3⟩, s⟩
  show ((i.toNat : Nat) : Int) < m
  omega
theorem sum_ok {ties : List Tie} {l : List PyData} (ht : ∀ t ∈ ties, TieS t) (hn : ties.length ≤ 7) (sm : ∀ d ∈ l, smD d = true) (h : paperB ties.length (-1) l = true) : SumOk ties (shOf l) := by
  have hs := shOf_nf h sm
  have ln : (shOf l).length ≤ 7 := by
    have := paperB_len h (by omega)
    unfold shOf
    rw [List.length_map]
    omega
  have itm : ∀ it ∈ sumIt ties (shOf l), bw it.2 ≤ 86 := fun it hit => by
    obtain ⟨e, he, hit⟩ := List.mem_flatMap.mp hit
    obtain ⟨_, a, b⟩ := hs e he
    unfold itsOf at hit
    split at hit
    · rename_i t et
      obtain ⟨u, hu, rfl⟩ := List.mem_map.mp hit
      obtain ⟨c, d⟩ := (ht t (List.mem_of_getElem? et)).nf u hu
      exact bw_le (d.mul b c.1 a.1) (by decide)
    · cases hit
  have bnm : ∀ it ∈ sumB ties (shOf l), bw it.2 ≤ 260 := fun it hit => by
    obtain ⟨e, he, rfl⟩ := List.mem_map.mp hit
    obtain ⟨_, a, b⟩ := hs e he
    show bw (bndOf ties e) ≤ 260
    unfold bndOf
    split
    · rename_i t et
      have := ht t (List.mem_of_getElem? et)
      exact bw_le (this.bn.mul b this.bf.1 a.1) (by decide)
    · decide
  have il : (sumIt ties (shOf l)).length ≤ 14 := by
    have key : ∀ p : List Sh, (sumIt ties p).length ≤ 2 * p.length := fun p => by
      induction p with
      | nil => exact Nat.zero_le _
      | cons e p ih =>
        unfold sumIt at *
        rw [List.flatMap_cons, List.length_append, List.length_cons]
        have : (itsOf ties e).length ≤ 2 := by
          unfold itsOf
          split
          · rename_i t et
            rw [List.length_map]
            rcases (ht t (List.mem_of_getElem? et)).ln with h | h <;> omega
          · exact Nat.zero_le _
        omega
    have := key (shOf l)
    omega
  refine ⟨fun e he => by have := (hs e he).1; omega, fun e he => ⟨(hs e he).2.1, (hs e he).2.2.mono (by decide)⟩, fun t h => ?_, ?_, ?_, by omega⟩
  · have := ht t h
    exact ⟨fun u hu => ⟨(this.nf u hu).1, (this.nf u hu).2.mono (by decide)⟩, this.bf, this.bn.mono (by decide), by rcases this.ln with h | h <;> omega⟩
  · have := wIt_le itm
    have : (sumIt ties (shOf l)).length * 87 ≤ 14 * 87 := Nat.mul_le_mul_right _ il
    omega
  · have h1 := wIt_le bnm
    have h2 : (sumB ties (shOf l)).length = (shOf l).length := List.length_map ..
    rw [h2] at h1
    have : (shOf l).length * 261 ≤ 7 * 261 := Nat.mul_le_mul_right _ ln
    omega
/-! ### rows that are worked out: what an expression gives, all else staying -/
def Gv (σ : L2.St) (I : Hp → Prop) (te : TE) (P : V → Hp → Prop) : Prop := ∀ (H : Hp) (Q : VK), I H → (∀ v H', Same H H' → P v H' → Q v H') → te σ H Q
def GvA (σ : L2.St) (I : Hp → Prop) (ta : TA) (P : List V → Hp → Prop) : Prop := ∀ (H : Hp) (Q : List V → Hp → Prop), I H → (∀ vs H', Same H H' → P vs H' → Q vs H') → ta σ H Q
def layD (d : PyData) : Bool := d.canLay0 && decide (d.depth ≤ 4)
def EL (a : Addr) (v : V) (H : Hp) : Prop := ∃ d, Dt a H v d ∧ smD d = true ∧ layD d = true
def PLn (a : Addr) (n : Nat) (v : V) (H : Hp) : Prop := ∃ (p : Addr) (us : List V), v = .ref p ∧ p ≠ a ∧ H p = some (.lst us) ∧ us.length ≤ n ∧ ∀ u ∈ us, EL a u H
theorem EL.same {a : Addr} {v : V} {H H' : Hp} (h : EL a v H) (s : Same H H') : EL a v H' := let ⟨d, h1, h2⟩ := h; ⟨d, h1.same s, h2⟩
theorem PLn.same {a : Addr} {n : Nat} {v : V} {H H' : Hp} (h : PLn a n v H) (s : Same H H') : PLn a n v H' :=
  let ⟨p, us, e, h1, h2, h3, h4⟩ := h
  ⟨p, us, e, h1, s _ _ h2, h3, fun u hu => (h4 u hu).same s⟩
structure Stay (a c : Addr) (I : Hp → Prop) : Prop where
  same : ∀ H H', Same H H' → I H → I H'
  feed : ∀ H, I H → FeedOk H a c
section
variable {σ : L2.St} {I : Hp → Prop} {a c : Addr} {K : PySem.W.Frag}
theorem gv_cat (hI : Stay a c I) {ta tb : TE} {n m : Nat} (h1 : Gv σ I ta (PLn a n)) (h2 : Gv σ I tb (PLn a m)) (hnm : n + m ≤ 1000) : Gv σ I (tOp rCat ta tb) (PLn a (n + m)) := fun H Q i q =>
  h1 H _ i fun x H1 s1 px => h2 H1 _ (hI.same _ _ s1 i) fun y H2 s2 py => by
    obtain ⟨p, us, rfl, np, hp, hl, he⟩ := px.same s2
    obtain ⟨p', us', rfl, np', hp', hl', he'⟩ := py
    refine ⟨p, p', us, us', rfl, rfl, hp, hp', small_line (by omega), fun o no => ?_⟩
    have so := same_upd (o := HO.lst (us ++ us')) no
    refine q _ _ (s1.trans (s2.trans so)) ⟨o, _, rfl, new_ne (hI.feed _ (hI.same _ _ (s1.trans s2) i)) no, upd_same, by rw [List.length_append]; omega, fun u hu => ?_⟩
    rcases List.mem_append.mp hu with h | h
    · exact (he u h).same so
    · exact (he' u h).same so
theorem gv_rev (hI : Stay a c I) {ta : TE} {n : Nat} (h1 : Gv σ I ta (PLn a n)) : Gv σ I (tRevL K ta) (PLn a n) := fun H Q i q =>
  h1 H _ i fun x H1 s1 px => by
    obtain ⟨p, us, rfl, np, hp, hl, he⟩ := px
    refine ⟨p, us, rfl, SqL.of hp, fun o no => ?_⟩
    have so := same_upd (o := HO.lst us.reverse) no
    exact q _ _ (s1.trans so) ⟨o, _, rfl, new_ne (hI.feed _ (hI.same _ _ s1 i)) no, upd_same, by rw [List.length_reverse]; exact hl, fun u hu => (he u (List.mem_reverse.mp hu)).same so⟩
theorem cut_pl (hI : Stay a c I) {n : Nat} {lo hi : Option Int} {x : V} {H H1 : Hp} {Q : VK} (i : I H) (s1 : Same H H1) (px : PLn a n x H1) (q : ∀ v H', Same H H' → PLn a n v H' → Q v H') : rSlL K x lo hi H1 Q := by
  obtain ⟨p, us, rfl, np, hp, hl, he⟩ := px
  refine ⟨p, us, rfl, SqL.of hp, fun o no => ?_⟩
  have so := same_upd (o := HO.lst (cutV us lo hi)) no
  refine q _ _ (s1.trans so) ⟨o, _, rfl, new_ne (hI.feed _ (hI.same _ _ s1 i)) no, upd_same, Nat.le_trans (cutV_length ..) hl, fun u hu => (he u ?_).same so⟩
  unfold cutV at hu
  exact List.mem_of_mem_drop (List.mem_of_mem_take hu)
theorem gv_lst (hI : Stay a c I) {ta : TA} {n : Nat} (hn : n ≤ 1000) (h : GvA σ I ta fun vs H => vs.length ≤ n ∧ ∀ v ∈ vs, EL a v H) : Gv σ I (tLst ta) (PLn a n) := fun H Q i q =>
  h H _ i fun vs H1 s1 ⟨hl, he⟩ => ⟨small_line (by omega), fun o no => q _ _ (s1.trans (same_upd no)) ⟨o, vs, rfl, new_ne (hI.feed _ (hI.same _ _ s1 i)) no, upd_same, hl, fun u hu => (he u hu).same (same_upd no)⟩⟩
theorem gva_nil : GvA σ I tNil fun vs H => vs.length ≤ 0 ∧ ∀ v ∈ vs, EL a v H := fun H Q _ q => q _ _ (fun _ _ e => e) ⟨Nat.le_refl _, fun v hv => by cases hv⟩
theorem gva_cons (hI : Stay a c I) {te : TE} {ta : TA} {n : Nat} (h1 : Gv σ I te (EL a)) (h2 : GvA σ I ta fun vs H => vs.length ≤ n ∧ ∀ v ∈ vs, EL a v H) : GvA σ I (tCons te ta) fun vs H => vs.length ≤ n + 1 ∧ ∀ v ∈ vs, EL a v H := fun H Q i q =>
  h1 H _ i fun x H1 s1 px => h2 H1 _ (hI.same _ _ s1 i) fun vs H2 s2 ⟨hl, he⟩ => q _ _ (s1.trans s2) ⟨by rw [List.length_cons]; omega, fun v hv => by
    rcases List.mem_cons.mp hv with rfl | hv
    · exact px.same s2
    · exact he v hv⟩
/-- the data of the items -/
theorem el_data {us : List V} {H : Hp} (h : ∀ u ∈ us, EL a u H) : ∃ ds, DtAll a H us ds ∧ ∀ d ∈ ds, smD d = true ∧ layD d = true := by
  induction us with
  | nil => exact ⟨[], .nil, fun d h => by cases h⟩
  | cons u us ih =>
    obtain ⟨ds, h1, h2⟩ := ih fun v hv => h v (List.mem_cons_of_mem _ hv)
    obtain ⟨d, h3, h4⟩ := h u List.mem_cons_self
    exact ⟨d :: ds, .cons h3 h1, fun e he => by
      rcases List.mem_cons.mp he with rfl | he
      · exact h4
      · exact h2 e he⟩
end
/-- a fraction of no more than k binary digits -/
def FV (a : Addr) (k : Nat) (v : V) (H : Hp) : Prop := ∃ f : FR, Dt a H v (frP f) ∧ 0 < f.2 ∧ Bn k f
def IV (n : Nat) (v : V) (_ : Hp) : Prop := ∃ i : Int, v = .int i ∧ i.natAbs < 2 ^ n
theorem FV.same {a : Addr} {k : Nat} {v : V} {H H' : Hp} (h : FV a k v H) (s : Same H H') : FV a k v H' := let ⟨f, h1, h2⟩ := h; ⟨f, h1.same s, h2⟩
section
variable {σ : L2.St} {I : Hp → Prop} {a c : Addr} {K : PySem.W.Frag}
theorem gv_var {i : Nat} {P : V → Hp → Prop} (h : ∀ H, I H → ∃ v, σ[i]? = some (some v) ∧ P v H) : Gv σ I (tVar i) P := fun H Q j q =>
  let ⟨v, e, p⟩ := h H j
  ⟨v, e, q v H (fun _ _ e => e) p⟩
theorem gv_int {k : Int} (hk : k.natAbs < 2 ^ 3 := by decide) : Gv σ I (tC (.int k)) (IV 3) := fun H Q _ q => q _ H (fun _ _ e => e) ⟨k, rfl, hk⟩
theorem gv_neg {k : Int} (hk : k.natAbs < 2 ^ 3 := by decide) : Gv σ I (tUn (rU fun i => V.int (-i)) (tC (.int k))) (IV 3) := fun H Q _ q => ⟨k, rfl, q _ H (fun _ _ e => e) ⟨-k, rfl, by rw [Int.natAbs_neg]; exact hk⟩⟩
/-- a display of two numbers as a fraction -/
theorem gv_fr (hI : Stay a c I) {n u : Int} (hu : 0 < u) (hb : n.natAbs < 2 ^ 3 ∧ u.natAbs < 2 ^ 3) : Gv σ I (tTup (tCons (tC (.int n)) (tCons (tC (.int u)) tNil))) (FV a 3) := fun H Q _ q =>
  ⟨two_line, fun o no => q _ _ (same_upd no) ⟨(n, u), (dnewT no (.cons (.int n (bd_bn hb.1 (by decide))) (.cons (.int u (bd_bn hb.2 (by decide))) .nil))).2, hu, hb⟩⟩
/-- a pair of a place and a share -/
theorem gv_share (hI : Stay a c I) {ta tb : TE} {k n : Nat} (hk : k ≤ 40) (h1 : Gv σ I ta (IV n)) (h2 : Gv σ I tb (FV a k)) (hn : n ≤ 4096 := by decide) : Gv σ I (tTup (tCons ta (tCons tb tNil))) (EL a) := fun H Q i q =>
  h1 H _ i fun x H1 s1 px => h2 H1 _ (hI.same _ _ s1 i) fun y H2 s2 py => by
    obtain ⟨j, rfl, hj⟩ := px
    obtain ⟨f, hd, _, hb⟩ := py
    refine ⟨two_line, fun o no => q _ _ (s1.trans (s2.trans (same_upd no))) ⟨.tuple [.int j, frP f], (dnewT no (.cons (.int j (bd_bn hj hn)) (.cons hd .nil))).2, ?_⟩⟩
    have b := hb.mono hk
    refine ⟨?_, rfl⟩
    show (decide (f.1.natAbs < 2 ^ 40) && decide (f.2.natAbs < 2 ^ 40)) = true
    rw [decide_eq_true b.1, decide_eq_true b.2]
    rfl
theorem gv_add (hI : Stay a c I) {ta tb : TE} {k m : Nat} (hk : k + m + 1 ≤ 2048) (h1 : Gv σ I ta (FV a k)) (h2 : Gv σ I tb (FV a m)) : Gv σ I (tCall (spBn K addL) [] E0 (tCons ta (tCons tb tNil))) (FV a (k + m + 1)) := fun H Q i q =>
  h1 H _ i fun x H1 s1 px => h2 H1 _ (hI.same _ _ s1 i) fun y H2 s2 py => by
    obtain ⟨f, hf, pf, bf⟩ := px.same s2
    obtain ⟨g, hg, pg, bg⟩ := py
    obtain ⟨p, rfl, hp⟩ := dt_fr hf
    obtain ⟨r, rfl, hr⟩ := dt_fr hg
    refine ⟨p, r, f, g, rfl, SqT.of hp, SqT.of hr, pf, pg, bf.mono (by omega), bg.mono (by omega), fun o no => ?_⟩
    exact q _ _ (s1.trans (s2.trans (same_upd no))) ⟨addL f g, (dnewT no (.cons (.int _ (bd_bn (bf.add bg pf pg).1 (by omega))) (.cons (.int _ (bd_bn (bf.add bg pf pg).2 (by omega))) .nil))).2, (addL_nf pf pg).1, bf.add bg pf pg⟩
theorem gv_mul (hI : Stay a c I) {ta tb : TE} {k m : Nat} (hk : k + m ≤ 2048) (h1 : Gv σ I ta (FV a k)) (h2 : Gv σ I tb (FV a m)) : Gv σ I (tCall (spBn K mulL) [] E0 (tCons ta (tCons tb tNil))) (FV a (k + m)) := fun H Q i q =>
  h1 H _ i fun x H1 s1 px => h2 H1 _ (hI.same _ _ s1 i) fun y H2 s2 py => by
    obtain ⟨f, hf, pf, bf⟩ := px.same s2
    obtain ⟨g, hg, pg, bg⟩ := py
    obtain ⟨p, rfl, hp⟩ := dt_fr hf
    obtain ⟨r, rfl, hr⟩ := dt_fr hg
    refine ⟨p, r, f, g, rfl, SqT.of hp, SqT.of hr, pf, pg, bf.mono (by omega), bg.mono (by omega), fun o no => ?_⟩
    exact q _ _ (s1.trans (s2.trans (same_upd no))) ⟨mulL f g, (dnewT no (.cons (.int _ (bd_bn (bf.mul bg pf pg).1 (by omega))) (.cons (.int _ (bd_bn (bf.mul bg pf pg).2 (by omega))) .nil))).2, (nf_low (Int.mul_ne_zero (by omega) (by omega))).1, bf.mul bg pf pg⟩
theorem gv_min (hI : Stay a c I) {ta : TE} {k : Nat} (h1 : Gv σ I ta (FV a k)) (hk : k ≤ 4096 := by decide) : Gv σ I (tCall (spNeg K) [] E0 (tCons ta tNil)) (FV a k) := fun H Q i q =>
  h1 H _ i fun x H1 s1 px => by
    obtain ⟨f, hf, pf, bf⟩ := px
    obtain ⟨p, rfl, hp⟩ := dt_fr hf
    refine ⟨p, f, rfl, SqT.of hp, fun o no => ?_⟩
    exact q _ _ (s1.trans (same_upd no)) ⟨negF f, (dnewT no (.cons (.int _ (bd_bn bf.neg.1 hk)) (.cons (.int _ (bd_bn bf.neg.2 hk)) .nil))).2, pf, bf.neg⟩
end
def GvO (σ : L2.St) (I : Hp → Prop) (to : TO) : Prop := ∀ (H : Hp) (Q : Option Int → Hp → Prop), I H → (∀ l H', Same H H' → Q l H') → to σ H Q
section
variable {σ : L2.St} {I : Hp → Prop} {a c : Addr} {K : PySem.W.Frag}
theorem gvo_no : GvO σ I tNoPart := fun H Q _ q => q _ H (fun _ _ e => e)
theorem gvo_part {te : TE} {n : Nat} (h : Gv σ I te (IV n)) : GvO σ I (tPart te) := fun H Q i q => h H _ i fun v H' s ⟨k, e, _⟩ => ⟨k, e, q _ H' s⟩
theorem gv_slice (hI : Stay a c I) {te : TE} {tl th : TO} {n : Nat} (h : Gv σ I te (PLn a n)) (h1 : GvO σ I tl) (h2 : GvO σ I th) : Gv σ I (tSl (rSlL K) te tl th) (PLn a n) := fun H Q i q =>
  h H _ i fun x H1 s1 px => h1 H1 _ (hI.same _ _ s1 i) fun l H2 s2 => h2 H2 _ (hI.same _ _ (s1.trans s2) i) fun u H3 s3 => cut_pl hI i (s1.trans (s2.trans s3)) (px.same (s2.trans s3)) q
theorem gv_sum {ta tb : TE} {n m : Nat} (h1 : Gv σ I ta (IV n)) (h2 : Gv σ I tb (IV m)) (hI : Stay a c I) : Gv σ I (tOp (rI0 fun i j => V.int (i + j)) ta tb) (IV (n + m + 1)) := fun H Q i q =>
  h1 H _ i fun x H1 s1 ⟨j, ex, hj⟩ => h2 H1 _ (hI.same _ _ s1 i) fun y H2 s2 ⟨k, ey, hk⟩ => ⟨j, k, ex, ey, q _ _ (s1.trans s2) ⟨_, rfl, Nat.lt_of_le_of_lt (show (j + k).natAbs ≤ j.natAbs + k.natAbs by omega) (by
    have a1 := Nat.lt_of_lt_of_le hj (Nat.pow_le_pow_right (by decide) (show n ≤ n + m by omega))
    have a2 := Nat.lt_of_lt_of_le hk (Nat.pow_le_pow_right (by decide) (show m ≤ n + m by omega))
    rw [Nat.pow_succ]
    omega)⟩⟩
theorem gv_sub {ta tb : TE} {n m : Nat} (h1 : Gv σ I ta (IV n)) (h2 : Gv σ I tb (IV m)) (hI : Stay a c I) : Gv σ I (tOp (rI0 fun i j => V.int (i - j)) ta tb) (IV (n + m + 1)) := fun H Q i q =>
  h1 H _ i fun x H1 s1 ⟨j, ex, hj⟩ => h2 H1 _ (hI.same _ _ s1 i) fun y H2 s2 ⟨k, ey, hk⟩ => ⟨j, k, ex, ey, q _ _ (s1.trans s2) ⟨_, rfl, Nat.lt_of_le_of_lt (show (j - k).natAbs ≤ j.natAbs + k.natAbs by omega) (by
    have a1 := Nat.lt_of_lt_of_le hj (Nat.pow_le_pow_right (by decide) (show n ≤ n + m by omega))
    have a2 := Nat.lt_of_lt_of_le hk (Nat.pow_le_pow_right (by decide) (show m ≤ n + m by omega))
    rw [Nat.pow_succ]
    omega)⟩⟩
theorem gv_non : Gv σ I (tC V.non) (EL a) := fun H Q _ q => q _ H (fun _ _ e => e) ⟨.none, .non, rfl, rfl⟩
/-- a row of rows -/
theorem gvr_nil {n : Nat} : GvA σ I tNil fun vs H => vs.length = 0 ∧ ∀ v ∈ vs, PLn a n v H := fun H Q _ q => q _ _ (fun _ _ e => e) ⟨rfl, fun v hv => by cases hv⟩
theorem PLn.mono {n m : Nat} {v : V} {H : Hp} (h : PLn a n v H) (k : n ≤ m) : PLn a m v H :=
  let ⟨p, us, e, h1, h2, h3, h4⟩ := h
  ⟨p, us, e, h1, h2, Nat.le_trans h3 k, h4⟩
theorem gvr_cons (hI : Stay a c I) {te : TE} {ta : TA} {n m k : Nat} (hk : k ≤ n) (h1 : Gv σ I te (PLn a k)) (h2 : GvA σ I ta fun vs H => vs.length = m ∧ ∀ v ∈ vs, PLn a n v H) : GvA σ I (tCons te ta) fun vs H => vs.length = m + 1 ∧ ∀ v ∈ vs, PLn a n v H := fun H Q i q =>
  h1 H _ i fun x H1 s1 px => h2 H1 _ (hI.same _ _ s1 i) fun vs H2 s2 ⟨hl, he⟩ => q _ _ (s1.trans s2) ⟨by rw [List.length_cons]; omega, fun v hv => by
    rcases List.mem_cons.mp hv with rfl | hv
    · exact (px.same s2).mono hk
    · exact he v hv⟩
def Rows (a : Addr) (n m : Nat) (v : V) (H : Hp) : Prop := ∃ (p : Addr) (us : List V), v = .ref p ∧ p ≠ a ∧ H p = some (.lst us) ∧ us.length = m ∧ ∀ u ∈ us, PLn a n u H
theorem Rows.same {n m : Nat} {v : V} {H H' : Hp} (h : Rows a n m v H) (s : Same H H') : Rows a n m v H' :=
  let ⟨p, us, e, h1, h2, h3, h4⟩ := h
  ⟨p, us, e, h1, s _ _ h2, h3, fun u hu => (h4 u hu).same s⟩
theorem gvr_lst (hI : Stay a c I) {ta : TA} {n m : Nat} (hm : m ≤ 1000) (h : GvA σ I ta fun vs H => vs.length = m ∧ ∀ v ∈ vs, PLn a n v H) : Gv σ I (tLst ta) (Rows a n m) := fun H Q i q =>
  h H _ i fun vs H1 s1 ⟨hl, he⟩ => ⟨small_line (by omega), fun o no => q _ _ (s1.trans (same_upd no)) ⟨o, vs, rfl, new_ne (hI.feed _ (hI.same _ _ s1 i)) no, upd_same, hl, fun u hu => (he u hu).same (same_upd no)⟩⟩
theorem gvr_cat (hI : Stay a c I) {ta tb : TE} {k n m : Nat} (h1 : Gv σ I ta (Rows a k n)) (h2 : Gv σ I tb (Rows a k m)) (hnm : n + m ≤ 1000) : Gv σ I (tOp rCat ta tb) (Rows a k (n + m)) := fun H Q i q =>
  h1 H _ i fun x H1 s1 px => h2 H1 _ (hI.same _ _ s1 i) fun y H2 s2 py => by
    obtain ⟨p, us, rfl, np, hp, hl, he⟩ := px.same s2
    obtain ⟨p', us', rfl, np', hp', hl', he'⟩ := py
    refine ⟨p, p', us, us', rfl, rfl, hp, hp', small_line (by omega), fun o no => ?_⟩
    have so := same_upd (o := HO.lst (us ++ us')) no
    refine q _ _ (s1.trans (s2.trans so)) ⟨o, _, rfl, new_ne (hI.feed _ (hI.same _ _ (s1.trans s2) i)) no, upd_same, by rw [List.length_append]; omega, fun u hu => ?_⟩
    rcases List.mem_append.mp hu with h | h
    · exact (he u h).same so
    · exact (he' u h).same so
end
section
variable {σ : L2.St} {I : Hp → Prop} {a c : Addr} {K : PySem.W.Frag}
theorem gv_true (hI : Stay a c I) {tb : TE} {k : Nat} (h2 : Gv σ I tb (FV a k)) : Gv σ I (tTup (tCons (tC (.bl true)) (tCons tb tNil))) (EL a) := fun H Q i q =>
  h2 H _ i fun y H2 s2 ⟨f, hd, _, hb⟩ => ⟨two_line, fun o no => q _ _ (s2.trans (same_upd no)) ⟨.tuple [.bool true, frP f], (dnewT no (.cons (.bl true) (.cons hd .nil))).2, rfl, rfl⟩⟩
theorem gv_lst2 (hI : Stay a c I) {ta tb : TE} {k n : Nat} (h1 : Gv σ I ta (IV n)) (h2 : Gv σ I tb (FV a k)) (hn : n ≤ 4096 := by decide) : Gv σ I (tLst (tCons ta (tCons tb tNil))) (EL a) := fun H Q i q =>
  h1 H _ i fun x H1 s1 ⟨j, ex, hj⟩ => h2 H1 _ (hI.same _ _ s1 i) fun y H2 s2 ⟨f, hd, _, hb⟩ => ⟨two_line, fun o no => by
    subst ex
    exact q _ _ (s1.trans (s2.trans (same_upd no))) ⟨.list [.int j, frP f], (dnewL no (new_ne (hI.feed _ (hI.same _ _ (s1.trans s2) i)) no) (.cons (.int j (bd_bn hj hn)) (.cons hd .nil))).2, rfl, rfl⟩⟩
theorem gv_ints (hI : Stay a c I) {ta tb : TE} {n m : Nat} (h1 : Gv σ I ta (IV n)) (h2 : Gv σ I tb (IV m)) (hn : n ≤ 4096 := by decide) (hm : m ≤ 4096 := by decide) : Gv σ I (tTup (tCons ta (tCons tb tNil))) (EL a) := fun H Q i q =>
  h1 H _ i fun x H1 s1 ⟨j, ex, hj⟩ => h2 H1 _ (hI.same _ _ s1 i) fun y H2 s2 ⟨k, ey, hk⟩ => ⟨two_line, fun o no => by
    subst ex ey
    exact q _ _ (s1.trans (s2.trans (same_upd no))) ⟨.tuple [.int j, .int k], (dnewT no (.cons (.int j (bd_bn hj hn)) (.cons (.int k (bd_bn hk hm)) .nil))).2, rfl, rfl⟩⟩
theorem gv_three (hI : Stay a c I) {ta tb tc : TE} {k n m : Nat} (h1 : Gv σ I ta (IV n)) (h2 : Gv σ I tb (FV a k)) (h3 : Gv σ I tc (IV m)) (hn : n ≤ 4096 := by decide) (hm : m ≤ 4096 := by decide) : Gv σ I (tTup (tCons ta (tCons tb (tCons tc tNil)))) (EL a) := fun H Q i q =>
  h1 H _ i fun x H1 s1 ⟨j, ex, hj⟩ => h2 H1 _ (hI.same _ _ s1 i) fun y H2 s2 ⟨f, hd, _, hb⟩ => h3 H2 _ (hI.same _ _ (s1.trans s2) i) fun w H3 s3 ⟨l, ew, hl⟩ => ⟨small_line (by show 3 ≤ 1000; decide), fun o no => by
    subst ex ew
    exact q _ _ (s1.trans (s2.trans (s3.trans (same_upd no)))) ⟨.tuple [.int j, frP f, .int l], (dnewT no (.cons (.int j (bd_bn hj hn)) (.cons (hd.same s3) (.cons (.int l (bd_bn hl hm)) .nil)))).2, rfl, rfl⟩⟩
end
/-! ### bent papers -/
def shP (e : Sh) : Prop := 0 < e.2.2 ∧ Bn 20 e.2
def MoreP (a : Addr) (n : Nat) (v : V) (H : Hp) : Prop := ∃ (p : Addr) (us : List V), v = .ref p ∧ p ≠ a ∧ H p = some (.lst us) ∧ 0 < us.length ∧ us.length ≤ n ∧ ∀ u ∈ us, PLn a 60 u H
theorem noLs_pap (l : List Sh) : noLs (l.map papD) = true := by
  induction l with
  | nil => rfl
  | cons a l ih =>
    show (noL (papD a) && noLs (l.map papD)) = true
    rw [ih]
    rfl
theorem lay_pap : ∀ l : List Sh, PyData.canLayAll0 (l.map papD) = true ∧ PyData.depthAll (l.map papD) ≤ 2
  | [] => ⟨rfl, Nat.zero_le _⟩
  | x :: l => by
    obtain ⟨h1, h2⟩ := lay_pap l
    constructor
    · show (true && PyData.canLayAll0 (l.map papD)) = true
      rw [h1]
      rfl
    · rw [List.map_cons, PyData.depthAll.eq_2]
      have : (papD x).depth = 2 := rfl
      omega
theorem shaped_pap (l : List Sh) : SeqAt.shaped (.list (l.map papD)) = true := by
  obtain ⟨h1, h2⟩ := lay_pap l
  unfold SeqAt.shaped
  rw [PyData.canLay0.eq_5, PyData.depth.eq_1, h1, Bool.true_and, decide_eq_true_eq]
  omega
theorem dp_pap {K : PySem.W.Frag} {z : Addr} {H : Hp} : ∀ {l : List Sh} {us : List V}, DtAll z H us (l.map papD) → DpAll K H us (l.map papD)
  | [], _, h => by
    cases h
    exact .nil
  | e :: l, _, h => by
    cases h with
    | cons h1 h2 =>
      match h1 with
      | .tup h3 (.cons (.int _ _) (.cons (.tup h4 (.cons (.int _ _) (.cons (.int _ _) .nil))) .nil)) =>
        exact .cons (.tup (SqT.of h3) (.cons (.int _) (.cons (.tup (SqT.of h4) (.cons (.int _) (.cons (.int _) .nil))) .nil))) (dp_pap h2)
theorem bd_pow {z : Int} (h : Bd z) : z.natAbs < 2 ^ 4096 := by
  by_cases h0 : z.natAbs = 0
  · rw [h0]
    exact Nat.two_pow_pos _
  · exact (Nat.log2_lt h0).mp h
section
variable {P : Program} {w : World} {K : PySem.W.Frag} {mg : Str → Option Value} {base : Heap} {fa : Nat → Addr} {fd : Nat → FuncData}
def spBentP : Sp := fun vs H Q _ => ∃ (a c p : Addr) (us : List V) (pap : List Sh) (m : Nat), vs = [.ref a, .ref p, .int (m : Int)] ∧ FeedOk H a c ∧ p ≠ a ∧ H p = some (.lst us) ∧ DtAll a H us (pap.map papD) ∧ pap.length ≤ 20 ∧ (∀ e ∈ pap, shP e) ∧ m ≤ 1000 ∧
  ∀ (r : Addr) (us' : List V) (ds : List PyData) (H' : Hp), FeedOk H' a c → But a H H' → r ≠ a → H' r = some (.lst us') → DtAll a H' us' ds → (∀ d ∈ ds, smD d = true ∧ layD d = true) → us'.length ≤ 60 → Q (.ref r) H'
theorem ok_bent_paper (T : Txt K mg fa fd) : FnOk P w K mg base CX0 5 (fa 44) (fd 44) ["_law_feed_here", "_law_paper", "_law_many"] spBentP := by
  refine T.F_bent_paper.ok sc_bent_paper (fun vs H Q E h => ?_) (fun cdv A outer s H vs Q E hr h => ?_)
  · obtain ⟨a, c, p, _, _, _, rfl, _⟩ := h
    rfl
  · obtain ⟨a, c, p, us, pap, m, rfl, hF, npa, hp, hd, hl, hs, hm, q⟩ := h
    refine ⟨_, (C8.pss_cut (ps_set (i := 3) sc_bent_paper.nd rfl (.inl rfl) (pe_call (ok_draw T) (hr.mono (by decide)) (by rfl) T.g_draw T.F_draw.kp T.b_draw .nil pass0 (pa_cons (pv 0) (pa_cons (pe_op op_add (pe_callB call_len_seq (by rfl) T.m_len PySem.boot_len (pa_cons (pv 1) pa_nil)) pe_int) pa_nil))))
      (C8.pss_cut (ps_set (i := 4) sc_bent_paper.nd rfl (.inl rfl) (pe_lst (pa_cons (pe_op op_cat (pe_slice sl_list (pv 1) po_none (po_some (pv 3))) (pe_slice sl_list (pv 1) (po_some (pe_op op_add (pv 3) pe_int)) po_none)) (pa_cons (pe_op op_cat (pe_op op_cat (pe_slice sl_list (pv 1) po_none (po_some (pv 3))) (pe_lst (pa_cons (pe_tup (pa_cons (pv 2) (pa_cons (pe_tup (pa_cons pe_int (pa_cons pe_int pa_nil))) pa_nil))) pa_nil))) (pe_slice sl_list (pv 1) (po_some (pv 3)) po_none)) (pa_cons (pe_op op_cat (pv 1) (pe_lst (pa_cons pe_non pa_nil))) (pa_cons (pe_revL (pv 1)) (pa_cons (pe_op op_cat (pv 1) (pv 1)) pa_nil)))))))
      (C8.pss_cut (ps_set (i := 4) sc_bent_paper.nd rfl (.inl rfl) (pe_op op_cat (pv 4) (pe_lst (pa_cons (pe_op op_cat (pe_lst (pa_cons (pe_tup (pa_cons (pe_un un_neg pe_int) (pa_cons (pe_tup (pa_cons pe_int (pa_cons pe_int pa_nil))) pa_nil))) pa_nil)) (pv 1)) (pa_cons (pe_op op_cat (pv 1) (pe_lst (pa_cons (pe_tup (pa_cons (pv 2) (pa_cons (pe_tup (pa_cons pe_int (pa_cons pe_int pa_nil))) pa_nil))) pa_nil))) (pa_cons (pe_op op_cat (pe_lst (pa_cons (pe_tup (pa_cons pe_bl (pa_cons (pe_tup (pa_cons pe_int (pa_cons pe_int pa_nil))) pa_nil))) pa_nil)) (pe_slice sl_list (pv 1) (po_some pe_int) po_none)) (pa_cons (pe_op op_cat (pv 1) (pe_lst (pa_cons (pe_lst (pa_cons (pe_op op_sub (pv 2) pe_int) (pa_cons (pe_tup (pa_cons pe_int (pa_cons pe_int pa_nil))) pa_nil))) pa_nil))) pa_nil)))))))
      (C8.pss_cut (ps_if (pt_cmpR (op_neDK (K := K) rfl hr.units) (pv 1) (pe_lst pa_nil) (nomark _)) (C8.pss_cut (ps_asg (pe_ix ix_list (pv 1) pe_int (fun _ _ => rfl)) (pg_tup (by rfl) (pgs_cons (pg_name (i := 5) sc_bent_paper.nd rfl (.inl rfl)) (pgs_cons (pg_name (i := 6) sc_bent_paper.nd rfl (.inl rfl)) pgs_nil))))
      (C8.pss_cut (ps_set (i := 4) sc_bent_paper.nd rfl (.inl rfl) (pe_op op_cat (pv 4) (pe_lst (pa_cons (pe_op op_cat (pe_lst (pa_cons (pe_tup (pa_cons (pv 5) (pa_cons (pe_call (ok_plus T) (hr.mono (by decide)) (by rfl) T.g_plus T.F_plus.kp T.b_plus .nil pass0 (pa_cons (pv 6) (pa_cons (pe_tup (pa_cons pe_int (pa_cons pe_int pa_nil))) pa_nil))) pa_nil))) pa_nil)) (pe_slice sl_list (pv 1) (po_some pe_int) po_none)) (pa_cons (pe_op op_cat (pe_lst (pa_cons (pe_tup (pa_cons (pv 5) (pa_cons (pe_tup (pa_cons pe_int (pa_cons pe_int pa_nil))) pa_nil))) pa_nil)) (pe_slice sl_list (pv 1) (po_some pe_int) po_none)) (pa_cons (pe_op op_cat (pe_lst (pa_cons (pe_tup (pa_cons (pv 5) (pa_cons (pe_tup (pa_cons pe_int (pa_cons pe_int pa_nil))) pa_nil))) pa_nil)) (pe_slice sl_list (pv 1) (po_some pe_int) po_none)) (pa_cons (pe_lst (pa_cons (pe_tup (pa_cons (pv 5) (pa_cons pe_int pa_nil))) pa_nil)) pa_nil)))))))
      (pss_one (ps_set (i := 4) sc_bent_paper.nd rfl (.inl rfl) (pe_op op_cat (pv 4) (pe_lst (pa_cons (pe_op op_cat (pe_lst (pa_cons (pe_tup (pa_cons (pv 5) (pa_cons (pe_call (ok_minus T) (hr.mono (by decide)) (by rfl) T.g_minus T.F_minus.kp T.b_minus .nil pass0 (pa_cons (pv 6) pa_nil)) pa_nil))) pa_nil)) (pe_slice sl_list (pv 1) (po_some pe_int) po_none)) (pa_cons (pe_op op_cat (pe_lst (pa_cons (pe_tup (pa_cons (pv 5) (pa_cons (pv 6) (pa_cons pe_int pa_nil)))) pa_nil)) (pe_slice sl_list (pv 1) (po_some pe_int) po_none)) (pa_cons (pe_op op_cat (pe_lst (pa_cons (pe_tup (pa_cons (pv 5) (pa_cons (pe_call (ok_by T) (hr.mono (by decide)) (by rfl) T.g_by T.F_by.kp T.b_by .nil pass0 (pa_cons (pv 6) (pa_cons (pe_tup (pa_cons pe_int (pa_cons pe_int pa_nil))) pa_nil))) pa_nil))) pa_nil)) (pe_slice sl_list (pv 1) (po_some pe_int) po_none)) pa_nil))))))))) pss_nil)
      (pss_one (ps_ret (pe_call (ok_any T) (hr.mono (by decide)) (by rfl) T.g_any T.F_any.kp T.b_any .nil pass0 (pa_cons (pv 0) (pa_cons (pv 4) pa_nil))))))))), ?_⟩
    have ul : us.length = pap.length := by
      have := hd.len
      rw [List.length_map] at this
      exact this
    refine ⟨fun σ G => FeedOk G a c ∧ But a H G ∧ ∃ at_ : Int, at_.natAbs < 2 ^ 10 ∧ σ = [some (.ref a), some (.ref p), some (.int m), some (.int at_), none, none, none], ?_, fun σ G hM => ?_⟩
    · exact ⟨_, rfl, _, rfl, p, us, rfl, .inl (SqL.of hp), _, _, rfl, rfl, a, c, _, rfl, hF, mid_of (by omega) (by omega), fun r H1 r0 r1 hF1 b1 => ⟨hF1, b1, r, by show r.natAbs < 1024; omega, rfl⟩⟩
    obtain ⟨hG, bG, at_, hat, rfl⟩ := hM
    have hm2 : (m : Int).natAbs < 2 ^ 10 := by show (m : Int).natAbs < 1024; omega
    have hpG := bG _ _ npa hp
    have hdG := hd.tups (z' := a) (TT.but hF bG) _ _ (noLs_pap pap)
    -- what stays
    have hI : Stay a c fun H => FeedOk H a c ∧ H p = some (.lst us) ∧ DtAll a H us (pap.map papD) := ⟨fun H H' s h => ⟨h.1.same s, s _ _ h.2.1, h.2.2.same s⟩, fun H h => h.1⟩
    have el : ∀ H, DtAll a H us (pap.map papD) → ∀ u ∈ us, EL a u H := fun H h u hu => by
      obtain ⟨d, hd, hdt⟩ := h.mem hu
      obtain ⟨e, he, rfl⟩ := List.mem_map.mp hd
      refine ⟨_, hdt, ?_, rfl⟩
      have b := (hs e he).2.mono (show 20 ≤ 40 by decide)
      show (decide (e.2.1.natAbs < 2 ^ 40) && decide (e.2.2.natAbs < 2 ^ 40)) = true
      rw [decide_eq_true b.1, decide_eq_true b.2]
      rfl
    refine ⟨fun σ G1 => Same G G1 ∧ ∃ r, Rows a 60 5 (.ref r) G1 ∧ σ = [some (.ref a), some (.ref p), some (.int m), some (.int at_), some (.ref r), none, none], ?_, fun σ G1 hM => ?_⟩
    · have v1 : Gv [some (.ref a), some (.ref p), some (.int m), some (.int at_), none, none, none] (fun H => FeedOk H a c ∧ H p = some (.lst us) ∧ DtAll a H us (pap.map papD)) (tVar 1) (PLn a 20) := gv_var fun H i => ⟨.ref p, rfl, p, us, rfl, npa, i.2.1, by omega, el H i.2.2⟩
      have v2 : Gv [some (.ref a), some (.ref p), some (.int m), some (.int at_), none, none, none] (fun H => FeedOk H a c ∧ H p = some (.lst us) ∧ DtAll a H us (pap.map papD)) (tVar 2) (IV 10) := gv_var fun H i => ⟨_, rfl, _, rfl, hm2⟩
      have v3 : Gv [some (.ref a), some (.ref p), some (.int m), some (.int at_), none, none, none] (fun H => FeedOk H a c ∧ H p = some (.lst us) ∧ DtAll a H us (pap.map papD)) (tVar 3) (IV 10) := gv_var fun H i => ⟨_, rfl, _, rfl, hat⟩
      refine (gvr_lst (n := 60) (m := 5) hI (by decide) (gvr_cons hI (by decide) (gv_cat hI (gv_slice (K := K) hI v1 gvo_no (gvo_part v3)) (gv_slice (K := K) hI v1 (gvo_part (gv_sum v3 gv_int hI)) gvo_no) (by decide)) (gvr_cons hI (by decide) (gv_cat hI (gv_cat hI (gv_slice (K := K) hI v1 gvo_no (gvo_part v3)) (gv_lst (n := 1) hI (by decide) (gva_cons hI (gv_share hI (by decide) v2 (gv_fr hI (by decide) (by decide))) gva_nil)) (by decide)) (gv_slice (K := K) hI v1 (gvo_part v3) gvo_no) (by decide)) (gvr_cons hI (by decide) (gv_cat hI v1 (gv_lst (n := 1) hI (by decide) (gva_cons hI gv_non gva_nil)) (by decide)) (gvr_cons hI (by decide) (gv_rev (K := K) hI v1) (gvr_cons hI (by decide) (gv_cat hI v1 v1 (by decide)) gvr_nil)))))) G _ ⟨hG, hpG, hdG⟩ fun v H' s pv => ?_
      obtain ⟨r, us', rfl, pr⟩ := pv
      exact ⟨s, r, ⟨r, us', rfl, pr⟩, rfl⟩
    obtain ⟨s1, r, hr1, rfl⟩ := hM
    have hI2 : Stay a c fun H => (FeedOk H a c ∧ H p = some (.lst us) ∧ DtAll a H us (pap.map papD)) ∧ Rows a 60 5 (.ref r) H := ⟨fun H H' s h => ⟨hI.same _ _ s h.1, h.2.same s⟩, fun H h => h.1.1⟩
    refine ⟨fun σ G2 => Same G G2 ∧ ∃ r, Rows a 60 9 (.ref r) G2 ∧ σ = [some (.ref a), some (.ref p), some (.int m), some (.int at_), some (.ref r), none, none], ?_, fun σ G2 hM => ?_⟩
    · have v1 : Gv [some (.ref a), some (.ref p), some (.int m), some (.int at_), some (.ref r), none, none] (fun H => (FeedOk H a c ∧ H p = some (.lst us) ∧ DtAll a H us (pap.map papD)) ∧ Rows a 60 5 (.ref r) H) (tVar 1) (PLn a 20) := gv_var fun H i => ⟨.ref p, rfl, p, us, rfl, npa, i.1.2.1, by omega, el H i.1.2.2⟩
      have v2 : Gv [some (.ref a), some (.ref p), some (.int m), some (.int at_), some (.ref r), none, none] (fun H => (FeedOk H a c ∧ H p = some (.lst us) ∧ DtAll a H us (pap.map papD)) ∧ Rows a 60 5 (.ref r) H) (tVar 2) (IV 10) := gv_var fun H i => ⟨_, rfl, _, rfl, hm2⟩
      have v4 : Gv [some (.ref a), some (.ref p), some (.int m), some (.int at_), some (.ref r), none, none] (fun H => (FeedOk H a c ∧ H p = some (.lst us) ∧ DtAll a H us (pap.map papD)) ∧ Rows a 60 5 (.ref r) H) (tVar 4) (Rows a 60 5) := gv_var fun H i => ⟨_, rfl, i.2⟩
      refine (gvr_cat hI2 v4 (gvr_lst (n := 60) (m := 4) hI2 (by decide) (gvr_cons hI2 (by decide) (gv_cat hI2 (gv_lst (n := 1) hI2 (by decide) (gva_cons hI2 (gv_share hI2 (by decide) gv_neg (gv_fr hI2 (by decide) (by decide))) gva_nil)) v1 (by decide)) (gvr_cons hI2 (by decide) (gv_cat hI2 v1 (gv_lst (n := 1) hI2 (by decide) (gva_cons hI2 (gv_share hI2 (by decide) v2 (gv_fr hI2 (by decide) (by decide))) gva_nil)) (by decide)) (gvr_cons hI2 (by decide) (gv_cat hI2 (gv_lst (n := 1) hI2 (by decide) (gva_cons hI2 (gv_true hI2 (gv_fr hI2 (by decide) (by decide))) gva_nil)) (gv_slice (K := K) hI2 v1 (gvo_part gv_int) gvo_no) (by decide)) (gvr_cons hI2 (by decide) (gv_cat hI2 v1 (gv_lst (n := 1) hI2 (by decide) (gva_cons hI2 (gv_lst2 hI2 (gv_sub v2 gv_int hI2) (gv_fr hI2 (by decide) (by decide))) gva_nil)) (by decide)) gvr_nil))))) (by decide)) G1 _ ⟨hI.same _ _ s1 ⟨hG, hpG, hdG⟩, hr1⟩ fun v H' s pv => ?_
      obtain ⟨r', us', rfl, pr⟩ := pv
      exact ⟨s1.trans s, r', ⟨r', us', rfl, pr⟩, rfl⟩
    clear hr1 hI2
    obtain ⟨s2, r, hr2, rfl⟩ := hM
    have fin : ∀ G3 r, Same G G3 → (∃ us', r ≠ a ∧ G3 r = some (.lst us') ∧ 0 < us'.length ∧ us'.length ≤ 100 ∧ ∀ u ∈ us', PLn a 60 u G3) → spAny [.ref a, .ref r] G3 Q E0 := fun G3 r s3 ⟨us', nr, hr, l0, l1, he⟩ => by
      refine ⟨a, c, r, us', rfl, hG.same s3, hr, nr, l0, by omega, fun v H' hv hF' b' => ?_⟩
      obtain ⟨q1, us1, rfl, nq, hq, hl1, hel⟩ := he v hv
      have hel' : ∀ u ∈ us1, EL a u H' := fun u hu => let ⟨d, h1, h2⟩ := hel u hu; ⟨d, h1.but (hG.same s3) b', h2⟩
      obtain ⟨ds, hds, hsm⟩ := el_data hel'
      exact q q1 us1 ds H' hF' ((bG.trans (But.of s3)).trans b') nq (b' _ _ nq hq) hds hsm hl1
    refine ⟨fun σ G3 => Same G G3 ∧ ∃ r n y5 y6, 0 < n ∧ n ≤ 100 ∧ Rows a 60 n (.ref r) G3 ∧ σ = [some (.ref a), some (.ref p), some (.int m), some (.int at_), some (.ref r), y5, y6], ?_, fun σ G3 hM => ?_⟩
    · refine ⟨_, rfl, Nat.zero_le _, fun q0 nq => ?_⟩
      have sq := same_upd (o := .lst []) nq
      have hp2 := s2 _ _ hpG
      have hd2 := hdG.same s2
      refine ⟨_, _, .lst (SqL.of (sq _ _ hp2)) (dp_pap (hd2.same sq)), .lst (SqL.of upd_same) .nil, shaped_pap pap, by decide +kernel, _, rfl, ?_⟩
      have key : pap = [] ∨ ∃ (k : Nat) (f : FR) (pp ps : Addr) (us' : List V), us = .ref pp :: us' ∧ G2 pp = some (.tup [.int (k : Int), .ref ps]) ∧ G2 ps = some (.tup [.int f.1, .int f.2]) ∧ 0 < f.2 ∧ Bn 20 f ∧ (k : Int).natAbs < 2 ^ 4096 ∧ PyData.eqv (.list (pap.map papD)) (.list []) = false := by
        match pap, us, hd2, hs with
        | [], _, _, _ => exact .inl rfl
        | (k, f) :: pap, _, .cons (.tup (a := pp) hpp (.cons (.int _ hkk) (.cons hf .nil))) hd2', hs =>
          obtain ⟨fp, fb⟩ := hs _ List.mem_cons_self
          obtain ⟨ps, rfl, hps⟩ := dt_fr hf
          exact .inr ⟨k, f, pp, ps, _, rfl, hpp, hps, fp, fb, bd_pow hkk, rfl⟩
      rcases key with e | ⟨k, f, pp, ps, us', eus, hpp, hps, fp, fb, hkb, ev⟩
      · have ev : PyData.eqv (.list (pap.map papD)) (.list []) = true := by
          rw [e]
          rfl
        rw [ev]
        exact iteF ⟨s2.trans sq, r, 9, _, _, by decide, by decide, hr2.same sq, rfl⟩
      · rw [ev]
        have at0 : atI us 0 = some (.ref pp) := by
          rw [eus]
          exact atI_nat (j := 0) rfl
        refine iteT ⟨fun σ G3 => G3 = upd G2 q0 (.lst []) ∧ σ = [some (.ref a), some (.ref p), some (.int m), some (.int at_), some (.ref r), some (.int (k : Int)), some (.ref ps)], ⟨_, rfl, p, us, _, _, rfl, rfl, SqL.of (sq _ _ hp2), at0, pp, _, rfl, .inl (.inl (sq _ _ hpp)), rfl, _, _, rfl, _, _, rfl, rfl, rfl, rfl⟩, fun σ G3 hM => ?_⟩
        obtain ⟨rfl, rfl⟩ := hM
        have hJ : Stay a c (fun H => ((FeedOk H a c ∧ H p = some (.lst us) ∧ DtAll a H us (pap.map papD)) ∧ Rows a 60 9 (.ref r) H) ∧ H ps = some (.tup [.int f.1, .int f.2])) := ⟨fun H H' s h => ⟨⟨hI.same _ _ s h.1.1, h.1.2.same s⟩, s _ _ h.2⟩, fun H h => h.1.1.1⟩
        have v1 : Gv [some (.ref a), some (.ref p), some (.int m), some (.int at_), some (.ref r), some (.int (k : Int)), some (.ref ps)] (fun H => ((FeedOk H a c ∧ H p = some (.lst us) ∧ DtAll a H us (pap.map papD)) ∧ Rows a 60 9 (.ref r) H) ∧ H ps = some (.tup [.int f.1, .int f.2])) (tVar 1) (PLn a 20) := gv_var fun H i => ⟨.ref p, rfl, p, us, rfl, npa, i.1.1.2.1, by omega, el H i.1.1.2.2⟩
        have v4 : Gv [some (.ref a), some (.ref p), some (.int m), some (.int at_), some (.ref r), some (.int (k : Int)), some (.ref ps)] (fun H => ((FeedOk H a c ∧ H p = some (.lst us) ∧ DtAll a H us (pap.map papD)) ∧ Rows a 60 9 (.ref r) H) ∧ H ps = some (.tup [.int f.1, .int f.2])) (tVar 4) (Rows a 60 9) := gv_var fun H i => ⟨_, rfl, i.1.2⟩
        have v5 : Gv [some (.ref a), some (.ref p), some (.int m), some (.int at_), some (.ref r), some (.int (k : Int)), some (.ref ps)] (fun H => ((FeedOk H a c ∧ H p = some (.lst us) ∧ DtAll a H us (pap.map papD)) ∧ Rows a 60 9 (.ref r) H) ∧ H ps = some (.tup [.int f.1, .int f.2])) (tVar 5) (IV 4096) := gv_var fun H i => ⟨_, rfl, _, rfl, hkb⟩
        have v6 : Gv [some (.ref a), some (.ref p), some (.int m), some (.int at_), some (.ref r), some (.int (k : Int)), some (.ref ps)] (fun H => ((FeedOk H a c ∧ H p = some (.lst us) ∧ DtAll a H us (pap.map papD)) ∧ Rows a 60 9 (.ref r) H) ∧ H ps = some (.tup [.int f.1, .int f.2])) (tVar 6) (FV a 20) := gv_var fun H i => ⟨_, rfl, f, .tup i.2 (.cons (.int _ (bd_bn fb.1 (by decide))) (.cons (.int _ (bd_bn fb.2 (by decide))) .nil)), fp, fb⟩
        refine ⟨fun σ G3 => Same G G3 ∧ ∃ r, Rows a 60 13 (.ref r) G3 ∧ G3 ps = some (.tup [.int f.1, .int f.2]) ∧ σ = [some (.ref a), some (.ref p), some (.int m), some (.int at_), some (.ref r), some (.int (k : Int)), some (.ref ps)], ?_, fun σ G3 hM => ?_⟩
        · refine (gvr_cat hJ v4 (gvr_lst (n := 60) (m := 4) hJ (by decide) (gvr_cons hJ (by decide) (gv_cat hJ (gv_lst (n := 1) hJ (by decide) (gva_cons hJ (gv_share hJ (by decide) v5 (gv_add (K := K) hJ (by decide) v6 (gv_fr hJ (by decide) (by decide)))) gva_nil)) (gv_slice (K := K) hJ v1 (gvo_part gv_int) gvo_no) (by decide)) (gvr_cons hJ (by decide) (gv_cat hJ (gv_lst (n := 1) hJ (by decide) (gva_cons hJ (gv_share hJ (by decide) v5 (gv_fr hJ (by decide) (by decide))) gva_nil)) (gv_slice (K := K) hJ v1 (gvo_part gv_int) gvo_no) (by decide)) (gvr_cons hJ (by decide) (gv_cat hJ (gv_lst (n := 1) hJ (by decide) (gva_cons hJ (gv_share hJ (by decide) v5 (gv_fr hJ (by decide) (by decide))) gva_nil)) (gv_slice (K := K) hJ v1 (gvo_part gv_int) gvo_no) (by decide)) (gvr_cons hJ (by decide) (gv_lst (n := 1) hJ (by decide) (gva_cons hJ (gv_ints hJ v5 gv_int) gva_nil)) gvr_nil))))) (by decide)) _ _ ⟨⟨hI.same _ _ (s2.trans sq) ⟨hG, hpG, hdG⟩, hr2.same sq⟩, sq _ _ hps⟩ fun v H' s pv => ?_
          obtain ⟨r', us', rfl, pr⟩ := pv
          exact ⟨(s2.trans sq).trans s, r', ⟨r', us', rfl, pr⟩, s _ _ (sq _ _ hps), rfl⟩
        clear hr2 hJ v1 v4 v5 v6
        obtain ⟨s3, r, hr3, hps3, rfl⟩ := hM
        have hJ : Stay a c (fun H => ((FeedOk H a c ∧ H p = some (.lst us) ∧ DtAll a H us (pap.map papD)) ∧ Rows a 60 13 (.ref r) H) ∧ H ps = some (.tup [.int f.1, .int f.2])) := ⟨fun H H' s h => ⟨⟨hI.same _ _ s h.1.1, h.1.2.same s⟩, s _ _ h.2⟩, fun H h => h.1.1.1⟩
        have v1 : Gv [some (.ref a), some (.ref p), some (.int m), some (.int at_), some (.ref r), some (.int (k : Int)), some (.ref ps)] (fun H => ((FeedOk H a c ∧ H p = some (.lst us) ∧ DtAll a H us (pap.map papD)) ∧ Rows a 60 13 (.ref r) H) ∧ H ps = some (.tup [.int f.1, .int f.2])) (tVar 1) (PLn a 20) := gv_var fun H i => ⟨.ref p, rfl, p, us, rfl, npa, i.1.1.2.1, by omega, el H i.1.1.2.2⟩
        have v4 : Gv [some (.ref a), some (.ref p), some (.int m), some (.int at_), some (.ref r), some (.int (k : Int)), some (.ref ps)] (fun H => ((FeedOk H a c ∧ H p = some (.lst us) ∧ DtAll a H us (pap.map papD)) ∧ Rows a 60 13 (.ref r) H) ∧ H ps = some (.tup [.int f.1, .int f.2])) (tVar 4) (Rows a 60 13) := gv_var fun H i => ⟨_, rfl, i.1.2⟩
        have v5 : Gv [some (.ref a), some (.ref p), some (.int m), some (.int at_), some (.ref r), some (.int (k : Int)), some (.ref ps)] (fun H => ((FeedOk H a c ∧ H p = some (.lst us) ∧ DtAll a H us (pap.map papD)) ∧ Rows a 60 13 (.ref r) H) ∧ H ps = some (.tup [.int f.1, .int f.2])) (tVar 5) (IV 4096) := gv_var fun H i => ⟨_, rfl, _, rfl, hkb⟩
        have v6 : Gv [some (.ref a), some (.ref p), some (.int m), some (.int at_), some (.ref r), some (.int (k : Int)), some (.ref ps)] (fun H => ((FeedOk H a c ∧ H p = some (.lst us) ∧ DtAll a H us (pap.map papD)) ∧ Rows a 60 13 (.ref r) H) ∧ H ps = some (.tup [.int f.1, .int f.2])) (tVar 6) (FV a 20) := gv_var fun H i => ⟨_, rfl, f, .tup i.2 (.cons (.int _ (bd_bn fb.1 (by decide))) (.cons (.int _ (bd_bn fb.2 (by decide))) .nil)), fp, fb⟩
        refine (gvr_cat hJ v4 (gvr_lst (n := 60) (m := 3) hJ (by decide) (gvr_cons hJ (by decide) (gv_cat hJ (gv_lst (n := 1) hJ (by decide) (gva_cons hJ (gv_share hJ (by decide) v5 (gv_min (K := K) hJ v6)) gva_nil)) (gv_slice (K := K) hJ v1 (gvo_part gv_int) gvo_no) (by decide)) (gvr_cons hJ (by decide) (gv_cat hJ (gv_lst (n := 1) hJ (by decide) (gva_cons hJ (gv_three hJ v5 v6 gv_int) gva_nil)) (gv_slice (K := K) hJ v1 (gvo_part gv_int) gvo_no) (by decide)) (gvr_cons hJ (by decide) (gv_cat hJ (gv_lst (n := 1) hJ (by decide) (gva_cons hJ (gv_share hJ (by decide) v5 (gv_mul (K := K) hJ (by decide) v6 (gv_fr hJ (by decide) (by decide)))) gva_nil)) (gv_slice (K := K) hJ v1 (gvo_part gv_int) gvo_no) (by decide)) gvr_nil)))) (by decide)) _ _ ⟨⟨hI.same _ _ s3 ⟨hG, hpG, hdG⟩, hr3⟩, hps3⟩ fun v H' s pv => ?_
        obtain ⟨r', us', rfl, pr⟩ := pv
        exact ⟨s3.trans s, r', 16, _, _, by decide, by decide, ⟨r', us', rfl, pr⟩, rfl⟩
    · obtain ⟨s3, r, n, y5, y6, n0, n1, ⟨r', us', e, nr, hr, hl', he⟩, rfl⟩ := hM
      cases e
      exact ⟨_, rfl, _, rfl, fin G3 r s3 ⟨us', nr, hr, by omega, by omega, he⟩⟩
end
/-! ### the sums that the law itself makes -/
theorem mul_11 {f : FR} (h : Nf f) : mulL f (1, 1) = f := by
  unfold mulL
  dsimp only
  rw [Int.mul_one, Int.mul_one]
  exact low_nf h
theorem add_01 {f : FR} (h : Nf f) : addL (0, 1) f = f := by
  unfold addL
  dsimp only
  rw [Int.zero_mul, Int.zero_add, Int.mul_one, Int.one_mul]
  exact low_nf h
theorem add_back {b e : FR} (hb : Nf b) (he : Nf e) : addL b (addL (negF b) e) = e := by
  have v1 : b.2 * e.2 ≠ 0 := Int.mul_ne_zero (by have := hb.1; omega) (by have := he.1; omega)
  have e1 := lowT_self (u := -b.1 * e.2 + e.1 * b.2) v1
  have p1 := lowD_pos (u := -b.1 * e.2 + e.1 * b.2) v1
  have pb := hb.1
  have pe := he.1
  refine (show addL b (addL (negF b) e) = lowF e.1 e.2 from ?_).trans (low_nf he)
  unfold addL negF
  unfold lowF
  dsimp only
  generalize lowT (-b.1 * e.2 + e.1 * b.2) (b.2 * e.2) = t1 at *
  generalize lowD (-b.1 * e.2 + e.1 * b.2) (b.2 * e.2) = d1 at *
  refine low_cross (Int.mul_ne_zero (by omega) (by omega)) (by omega) ?_
  refine Int.eq_of_mul_eq_mul_right (a := b.2) (by omega) ?_
  generalize b.1 = b1 at *
  generalize b.2 = b2 at *
  generalize e.1 = f1 at *
  generalize e.2 = f2 at *
  grind
theorem nf_zero {r : FR} (h : Nf r) (z : r.1 = 0) : r = (0, 1) := by
  obtain ⟨n, u⟩ := r
  have h1 : 0 < u := h.1
  have h2 : Int.gcd n u = 1 := h.2
  have z : n = 0 := z
  subst z
  rw [Int.gcd_zero_left] at h2
  have : u = 1 := by omega
  rw [this]
theorem sub_self {f : FR} (h : Nf f) : subL f f = (0, 1) := nf_zero (subL_nf h.1 h.1) ((low_zero (Int.mul_ne_zero (by have := h.1; omega) (by have := h.1; omega))).mpr (Int.sub_self _))
abbrev negT (tl : List It) : List It := tl.map fun u => (u.1, negF u.2)
theorem cancel {tl : List It} (h : ∀ u ∈ tl, Nf u.2) (x : List Nat) : sumX x (0, 1) (tl ++ negT tl) = (0, 1) := (sumX_law x h h).trans (sub_self (sumX_nf x tl _ nf_01 h))
theorem sh_pap : ∀ pap : List Sh, shOf (pap.map papD) = pap
  | [] => rfl
  | e :: r => by
    have ih := sh_pap r
    unfold shOf at ih ⊢
    rw [List.map_cons, List.map_cons, ih]
    show ((e.1 : Int).toNat, e.2.1, e.2.2) :: r = e :: r
    rw [Int.toNat_natCast]
theorem map_11 : ∀ {l : List It}, (∀ u ∈ l, Nf u.2) → (l.map fun u => (u.1, mulL u.2 (1, 1))) = l
  | [], _ => rfl
  | u :: l, h => by
    rw [List.map_cons, map_11 fun v hv => h v (List.mem_cons_of_mem _ hv), mul_11 (h u List.mem_cons_self)]
abbrev backT (t : Tie) (e : FR) : Tie := (negT t.1, addL (negF t.2) e)
abbrev onePap (n : Nat) : List Sh := [(0, (1, 1)), (n, (1, 1))]
theorem both_sum {t : Tie} {r : List Tie} {e : FR} (h : ∀ u ∈ t.1, Nf u.2) (hb : Nf t.2) (he : Nf e) :
    sumIt ((t :: r) ++ [backT t e]) (onePap (t :: r).length) = t.1 ++ negT t.1 ∧ sumF ((t :: r) ++ [backT t e]) (onePap (t :: r).length) = e := by
  have g1 : ((t :: r) ++ [backT t e])[(t :: r).length]? = some (backT t e) := List.getElem?_concat_length
  have hn : ∀ u ∈ negT t.1, Nf u.2 := fun u hu => by
    obtain ⟨v, hv, rfl⟩ := List.mem_map.mp hu
    exact (h v hv).neg
  constructor
  · have a1 : itsOf ((t :: r) ++ [backT t e]) (0, (1, 1)) = t.1 := map_11 h
    have a2 : itsOf ((t :: r) ++ [backT t e]) ((t :: r).length, (1, 1)) = negT t.1 := by
      unfold itsOf
      rw [g1]
      exact map_11 hn
    unfold sumIt
    rw [List.flatMap_cons, List.flatMap_cons, List.flatMap_nil, a1, a2, List.append_nil]
  · have a1 : bndOf ((t :: r) ++ [backT t e]) (0, (1, 1)) = t.2 := mul_11 hb
    have a2 : bndOf ((t :: r) ++ [backT t e]) ((t :: r).length, (1, 1)) = addL (negF t.2) e := by
      unfold bndOf
      rw [g1]
      exact mul_11 (addL_nf hb.1 he.1)
    unfold sumF sumB
    rw [List.map_cons, List.map_cons, List.map_nil, a1, a2]
    show addL (addL (0, 1) t.2) (addL (negF t.2) e) = e
    rw [add_01 hb, add_back hb he]
theorem both_pap (n : Nat) : paperB ((n + 1 : Nat) + 1 : Nat) (-1) ((onePap (n + 1)).map papD) = true := by
  show (shareB _ (papD (0, (1, 1))) && (decide ((-1 : Int) < ((0 : Nat) : Int)) && (shareB _ (papD (n + 1, (1, 1))) && (decide (((0 : Nat) : Int) < ((n + 1 : Nat) : Int)) && true)))) = true
  have s : ∀ k : Nat, k < n + 1 + 1 → shareB ((n + 1 : Nat) + 1 : Nat) (papD (k, (1, 1))) = true := fun k hk => by
    show ((decide ((0 : Int) ≤ (k : Int)) && decide ((k : Int) < ((n + 1 + 1 : Nat) : Int))) && (ratD (frP (1, 1)) && posD (frP (1, 1)))) = true
    rw [decide_eq_true (by omega), decide_eq_true (by omega)]
    decide +kernel
  rw [s 0 (by omega), s (n + 1) (by omega), decide_eq_true (show ((0 : Nat) : Int) < ((n + 1 : Nat) : Int) by omega)]
  rfl
theorem both_den {t : Tie} {r : List Tie} {e : FR} (h : ∀ u ∈ t.1, Nf u.2) (hb : Nf t.2) (he : Nf e) : sumN ((t :: r) ++ [backT t e]) (onePap (t :: r).length) = [] := by
  unfold sumN
  rw [(both_sum h hb he).1]
  refine List.filter_eq_nil_iff.mpr fun x _ => ?_
  unfold nzV valL
  rw [cancel h x]
  decide
theorem both_ref {t : Tie} {r : List Tie} {e : FR} (h : ∀ u ∈ t.1, Nf u.2) (hb : Nf t.2) (he : Nf e) : refB ((t :: r) ++ [backT t e]) ((onePap (t :: r).length).map papD) = decide (e.1 < 0) := by
  unfold refB
  rw [sh_pap, both_den h hb he, (both_sum h hb he).2, ltF0, List.length_append]
  rw [show ((t :: r).length + [backT t e].length) = (r.length + 1) + 1 from rfl, show (t :: r).length = r.length + 1 from rfl, both_pap]
  rfl
theorem both_der {t t' : Tie} {r : List Tie} {e : FR} (h : ∀ u ∈ t.1, Nf u.2) (hb : Nf t.2) (he : Nf e) : derB ((t :: r) ++ [backT t e]) t' ((onePap (t :: r).length).map papD) = decide (e.1 < 0) := by
  unfold derB
  rw [sh_pap, both_den h hb he, (both_sum h hb he).2, ltF0, List.length_append]
  rw [show ((t :: r).length + [backT t e].length) = (r.length + 1) + 1 from rfl, show (t :: r).length = r.length + 1 from rfl, both_pap]
  rfl
theorem ltF_self (f : FR) : ltF f f = false := by
  unfold ltF
  exact decide_eq_false (Int.lt_irrefl _)
theorem der_self {bonds : List Tie} {pap : List Sh} {ms : List (List Nat)} (hp : paperB bonds.length (-1) (pap.map papD) = true) (pm : ms.Perm (sumN bonds pap)) (ne : ms ≠ []) :
    derB bonds (ms.map fun x => (x, valL (sumIt bonds pap) x), sumF bonds pap) (pap.map papD) = true := by
  unfold derB
  rw [sh_pap, hp]
  have l1 := pm.length_eq
  have l0 : ms.length ≠ 0 := fun z => ne (List.length_eq_zero_iff.mp z)
  rw [if_neg (by omega), ltF_self]
  unfold eqT
  rw [decide_eq_true (by rw [List.length_map]; omega)]
  have key : (sumN bonds pap).all (fun x => eK (valL (sumIt bonds pap)) (ms.map fun x => (x, valL (sumIt bonds pap) x)) (keyOf x)) = true := by
    rw [List.all_eq_true]
    intro x hx
    have hm : x ∈ ms := pm.mem_iff.mpr hx
    unfold eK
    split
    · rename_i u hu
      have := List.mem_of_find?_eq_some hu
      obtain ⟨y, hy, rfl⟩ := List.mem_map.mp this
      exact decide_eq_true rfl
    · rename_i hn
      have := List.find?_eq_none.mp hn (x, valL (sumIt bonds pap) x) (List.mem_map_of_mem hm)
      exact absurd (decide_eq_true rfl) this
  dsimp only
  rw [key]
  rfl
/-! ### ties behind locked tuples: what they hold, new ones -/
theorem tieV_inv {z : Addr} {H : Hp} {v : V} {t : Tie} (h : TieV z H v t) : ∃ (pt pl pb : Addr) (o : Obj) (xs : List V), v = .ref pt ∧ MH H pt = some (.tup [.ref pl, .ref pb]) ∧ H pl = some (.frz o (.tup xs)) ∧ o.dict = none ∧
    DtAll z (MH H) xs (t.1.map tmP) ∧ MH H pb = some (.tup [.int t.2.1, .int t.2.2]) ∧ Bd t.2.1 ∧ Bd t.2.2 := by
  obtain ⟨hd, pt, pl, pm, o, xs, rfl, h1, h2, h3⟩ := h
  have hd : Dt z (MH H) (.ref pt) (.tuple [.tuple (t.1.map tmP), frP t.2]) := hd
  match hd with
  | .tup g (.cons ha (.cons hb .nil)) =>
    have e := g.symm.trans h1
    cases e
    match ha, hb with
    | .tup ga hx, .tup gb (.cons (.int _ b1) (.cons (.int _ b2) .nil)) =>
      have e2 := ga.symm.trans (mh_frz h2)
      cases e2
      exact ⟨pt, pl, _, o, _, rfl, h1, h2, h3, hx, gb, b1, b2⟩
theorem newTieM {z : Addr} {H : Hp} {l o pb : Addr} {ob : Obj} {xs : List V} {tl : List It} {f : FR} (hl : H l = some (.frz ob (.tup xs))) (hd : ob.dict = none) (hts : DtAll z (MH H) xs (tl.map tmP)) (hb : MH H pb = some (trF f)) (no : H o = none) (hB : Bd f.1 ∧ Bd f.2) :
    TieV z (upd H o (.tup [.ref l, .ref pb])) (.ref o) (tl, f) := by
  have so := same_upd (o := HO.tup [V.ref l, .ref pb]) no
  have m := mh_same so
  have e : MH (upd H o (.tup [.ref l, .ref pb])) o = some (.tup [.ref l, .ref pb]) := mh_of upd_same (by intro o' ys z; cases z)
  refine ⟨.tup e (.cons (.tup (m _ _ (mh_frz hl)) (hts.same m)) (.cons (.tup (m _ _ hb) (.cons (.int _ hB.1) (.cons (.int _ hB.2) .nil))) .nil)), o, l, .ref pb, ob, xs, rfl, e, so _ _ hl, hd⟩
theorem TieV.same {z : Addr} {H H' : Hp} {v : V} {t : Tie} (h : TieV z H v t) (s : Same H H') : TieV z H' v t := h.nl (NL.of s)
abbrev TVs (z : Addr) (H : Hp) (us : List V) (ts : List Tie) : Prop := Paired (TieV z H) us ts
theorem TVs.nl {z : Addr} {H H' : Hp} {us : List V} {ts : List Tie} (h : TVs z H us ts) (s : NL H H') : TVs z H' us ts := paired_imp (fun _ _ h => h.nl s) h
theorem TVs.same {z : Addr} {H H' : Hp} {us : List V} {ts : List Tie} (h : TVs z H us ts) (s : Same H H') : TVs z H' us ts := h.nl (NL.of s)
theorem TVs.dt {z : Addr} {H : Hp} {us : List V} {ts : List Tie} (h : TVs z H us ts) : DtAll z (MH H) us (ts.map tieDt) := by
  induction h with
  | nil => exact .nil
  | cons h _ ih => exact .cons h.1 ih
theorem paired_snoc8 {α β : Type} {R : α → β → Prop} {as : List α} {bs : List β} {a : α} {b : β} (h : Paired R as bs) (k : R a b) : Paired R (as ++ [a]) (bs ++ [b]) := by
  induction h with
  | nil => exact .cons k .nil
  | cons h _ ih => exact .cons h ih
theorem paired_at {α β : Type} {R : α → β → Prop} {as : List α} {bs : List β} (h : Paired R as bs) : ∀ {i : Nat} {a : α}, as[i]? = some a → ∃ b, bs[i]? = some b ∧ R a b := by
  induction h with
  | nil => intro i a e; cases e
  | cons h _ ih =>
    intro i a e
    cases i with
    | zero =>
      cases e
      exact ⟨_, rfl, h⟩
    | succ i =>
      obtain ⟨b, e2, k⟩ := ih (i := i) (a := a) (by simpa using e)
      exact ⟨b, by simpa using e2, k⟩
/-- a tie that the law may sum -/
structure TieB (t : Tie) : Prop where
  s : TieS t
  bn : Bn 60 t.2
theorem TieB.back {t : Tie} (h : TieB t) {e : FR} (he : Nf e) (hb : Bn 3 e) : TieS (backT t e) := by
  refine ⟨fun u hu => ?_, addL_nf h.s.bf.1 he.1, (h.bn.neg.add hb h.s.bf.1 he.1).mono (by decide), ?_, ?_⟩
  · obtain ⟨v, hv, rfl⟩ := List.mem_map.mp hu
    exact ⟨(h.s.nf v hv).1.neg, (h.s.nf v hv).2.neg⟩
  · show (negT t.1).length = 1 ∨ (negT t.1).length = 2
    rw [List.length_map]
    exact h.s.ln
  · show ((negT t.1).map (·.1)).Nodup
    rw [List.map_map]
    exact h.s.nd
/-- every part of a good paper over good ties can be summed -/
theorem sums_ok {ties : List Tie} {ds : List PyData} (ht : ∀ t ∈ ties, TieS t) (hn : ties.length ≤ 7) (sm : ∀ d ∈ ds, smD d = true) (i : Nat) (h : paperB ties.length (-1) (ds.take i) = true) : SumOk ties (shOf (ds.take i)) :=
  sum_ok ht hn (fun d hd => sm d (List.mem_of_mem_take hd)) h
theorem sums_all {ties : List Tie} {ds : List PyData} (ht : ∀ t ∈ ties, TieS t) (hn : ties.length ≤ 7) (sm : ∀ d ∈ ds, smD d = true) (h : paperB ties.length (-1) ds = true) : SumOk ties (shOf ds) := sum_ok ht hn sm h
theorem sm_pap {pap : List Sh} (h : ∀ e ∈ pap, shP e) : ∀ d ∈ pap.map papD, smD d = true := fun d hd => by
  obtain ⟨e, he, rfl⟩ := List.mem_map.mp hd
  have b := (h e he).2.mono (show 20 ≤ 40 by decide)
  show (decide (e.2.1.natAbs < 2 ^ 40) && decide (e.2.2.natAbs < 2 ^ 40)) = true
  rw [decide_eq_true b.1, decide_eq_true b.2]
  rfl
theorem pi_tupK {X : Cx} {K : PySem.W.Frag} (h : X.K = K) {tg l : Expr} {tl : TE} (hl : PE X l tl) : PI X tg l (iTup K tl) := h ▸ pi_tup hl
theorem low_pos {u v : Int} (hu : 0 < u) (hv : 0 < v) : 0 < lowT u v := by
  have e := lowT_self (u := u) (v := v) (by omega)
  have d := lowD_pos (u := u) (v := v) (by omega)
  have p := Int.mul_pos hu d
  rw [← e] at p
  rcases Int.lt_trichotomy (lowT u v) 0 with h | h | h
  · have := Int.mul_neg_of_neg_of_pos h hv
    omega
  · rw [h, Int.zero_mul] at p
    omega
  · exact h
theorem share_ok {n i : Nat} {f : FR} (hi : i < n) (hf : Nf f) (hp : 0 < f.1) : shareB n (papD (i, f)) = true := by
  show ((decide ((0 : Int) ≤ (i : Int)) && decide ((i : Int) < (n : Int))) && ((decide (1 ≤ f.2) && decide (Int.gcd f.1 f.2 = 1)) && decide (0 < f.1))) = true
  rw [decide_eq_true (by omega), decide_eq_true (by omega), decide_eq_true (by have := hf.1; omega), decide_eq_true hf.2, decide_eq_true hp]
  rfl
theorem dts_len {z : Addr} {H : Hp} : ∀ {tl : List It} {xs : List V}, DtAll z H xs (tl.map tmP) → ∀ u ∈ tl, (SX.S u.1).length ≤ 1000
  | [], _, _, u, hu => by cases hu
  | v :: tl, _, .cons h r, u, hu => by
    rcases List.mem_cons.mp hu with rfl | hu
    · match h with
      | .tup _ (.cons (.str _ hl) _) => exact hl
    · exact dts_len r u hu
theorem TVs.len {z : Addr} {H : Hp} {us : List V} {ts : List Tie} (h : TVs z H us ts) : ∀ t ∈ ts, ∀ u ∈ t.1, (SX.S u.1).length ≤ 1000 := by
  induction h with
  | nil => intro t ht; cases ht
  | cons h _ ih =>
    intro t ht
    rcases List.mem_cons.mp ht with rfl | ht
    · obtain ⟨_, _, _, _, _, _, _, _, _, hx, _⟩ := tieV_inv h
      exact dts_len hx
    · exact ih t ht
theorem sumN_len {ts : List Tie} {pap : List Sh} (h : ∀ t ∈ ts, ∀ u ∈ t.1, (SX.S u.1).length ≤ 1000) : ∀ x ∈ sumN ts pap, (SX.S x).length ≤ 1000 := fun x hx => by
  have hx := (List.mem_filter.mp hx).1
  obtain ⟨it, hit, rfl⟩ := (lawK_mem _).mp hx
  obtain ⟨e, he, hit⟩ := List.mem_flatMap.mp hit
  unfold itsOf at hit
  split at hit
  · rename_i t et
    obtain ⟨u, hu, rfl⟩ := List.mem_map.mp hit
    exact h t (List.mem_of_getElem? et) u hu
  · cases hit
theorem sumV_bn {ts : List Tie} {pap : List Sh} (ok : SumOk ts pap) (x : List Nat) : Bn 2000 (valL (sumIt ts pap) x) :=
  (sumX_bn x (sumIt ts pap) (0, 1) 1 nf_01 bn_01 (its_nf ok).1).mono (by have := ok.w; omega)
theorem sumV_nf {ts : List Tie} {pap : List Sh} (ok : SumOk ts pap) (x : List Nat) : Nf (valL (sumIt ts pap) x) := sumX_nf x (sumIt ts pap) _ nf_01 (its_nf ok).1
theorem sumF_nf {ts : List Tie} {pap : List Sh} (ok : SumOk ts pap) : Nf (sumF ts pap) := sumX_nf [] (sumB ts pap) _ nf_01 (its_nf ok).2
theorem sumIt_len {ts : List Tie} (ht : ∀ t ∈ ts, TieS t) (p : List Sh) : (sumIt ts p).length ≤ 2 * p.length := by
  induction p with
  | nil => exact Nat.zero_le _
  | cons e p ih =>
    unfold sumIt at *
    rw [List.flatMap_cons, List.length_append, List.length_cons]
    have : (itsOf ts e).length ≤ 2 := by
      unfold itsOf
      split
      · rename_i t et
        rw [List.length_map]
        rcases (ht t (List.mem_of_getElem? et)).ln with h | h <;> omega
      · exact Nat.zero_le _
    omega
theorem sumF_bn {ts : List Tie} {pap : List Sh} (ok : SumOk ts pap) : Bn 1901 (sumF ts pap) :=
  (sumX_bn [] (sumB ts pap) (0, 1) 1 nf_01 bn_01 (its_nf ok).2).mono (by have := ok.wb; omega)
theorem eqd_bl {H : Hp} {n : Nat} (b : Bool) : Eqd H n (.bl b) (.bl b) := Eqd.leaf ⟨rfl, .inr (.inl ⟨b, rfl⟩)⟩
theorem eqd_bls {H : Hp} {a b : Addr} {bs : List Bool} (ha : H a = some (.lst (bs.map V.bl))) (hb : H b = some (.lst (bs.map V.bl))) (hl : bs.length ≤ 1000) : Eqd H 2 (.ref a) (.ref b) := by
  refine .inr ⟨a, b, _, _, rfl, rfl, .inl ⟨ha, hb⟩, rfl, by rw [List.length_map]; exact hl, fun i y z h1 h2 => ?_⟩
  have e : y = z := Option.some.inj (h1.symm.trans h2)
  subst e
  rw [List.getElem?_map] at h1
  obtain ⟨o, ho, rfl⟩ := Option.map_eq_some_iff.mp h1
  exact eqd_bl o
theorem lay_all : ∀ {ds : List PyData}, (∀ d ∈ ds, layD d = true) → PyData.canLayAll0 ds = true ∧ PyData.depthAll ds ≤ 5
  | [], _ => ⟨rfl, Nat.zero_le _⟩
  | d :: ds, h => by
    obtain ⟨h1, h2⟩ := lay_all fun e he => h e (List.mem_cons_of_mem _ he)
    have hd : (d.canLay0 && decide (d.depth ≤ 4)) = true := h d List.mem_cons_self
    rw [Bool.and_eq_true, decide_eq_true_eq] at hd
    constructor
    · show (d.canLay0 && PyData.canLayAll0 ds) = true
      rw [hd.1, h1]
      rfl
    · rw [PyData.depthAll.eq_2]
      omega
theorem shaped_lay {ds : List PyData} (h : ∀ d ∈ ds, layD d = true) : SeqAt.shaped (.list ds) = true := by
  obtain ⟨h1, h2⟩ := lay_all h
  unfold SeqAt.shaped
  rw [PyData.canLay0.eq_5, PyData.depth.eq_1, h1, Bool.true_and, decide_eq_true_eq]
  omega
theorem bd_neg {z : Int} (h : Bd z) : Bd (-z) := by
  show (-z).natAbs.log2 < 4096
  rw [Int.natAbs_neg]
  exact h
theorem dt_fr_bd {z : Addr} {H : Hp} {v : V} {f : FR} (h : Dt z H v (frP f)) : Bd f.1 ∧ Bd f.2 := by
  match v, h with
  | _, .tup hp (.cons (.int _ h1) (.cons (.int _ h2) .nil)) => exact ⟨h1, h2⟩
abbrev negTie (t : Tie) : Tie := (negT t.1, negF t.2)
/-- a list of ties -/
structure LTs (a B : Addr) (us : List V) (ts : List Tie) (H : Hp) : Prop where
  h : H B = some (.lst us)
  t : TVs a H us ts
  n : B ≠ a
theorem LTs.same {a B : Addr} {us : List V} {ts : List Tie} {H H' : Hp} (h : LTs a B us ts H) (s : Same H H') : LTs a B us ts H' := ⟨s _ _ h.h, h.t.same s, h.n⟩
theorem LTs.but {a c B : Addr} {us : List V} {ts : List Tie} {H H' : Hp} (h : LTs a B us ts H) (hF : FeedOk H a c) (b : But a H H') : LTs a B us ts H' := ⟨b _ _ h.n h.h, h.t.nl (NL.but hF b), h.n⟩
theorem LTs.len {a B : Addr} {us : List V} {ts : List Tie} {H : Hp} (h : LTs a B us ts H) : us.length = ts.length := Paired.length h.t
/-- a list of shares -/
structure LPs (a D : Addr) (vs : List V) (pap : List Sh) (H : Hp) : Prop where
  h : H D = some (.lst vs)
  t : DtAll a H vs (pap.map papD)
  n : D ≠ a
theorem LPs.same {a D : Addr} {vs : List V} {pap : List Sh} {H H' : Hp} (h : LPs a D vs pap H) (s : Same H H') : LPs a D vs pap H' := ⟨s _ _ h.h, h.t.same s, h.n⟩
theorem LPs.but {a c D : Addr} {vs : List V} {pap : List Sh} {H H' : Hp} (h : LPs a D vs pap H) (hF : FeedOk H a c) (b : But a H H') : LPs a D vs pap H' := ⟨b _ _ h.n h.h, h.t.tups (TT.but hF b) _ _ (noLs_pap pap), h.n⟩
theorem sh_one (n : Nat) : ∀ e ∈ onePap n, shP e := fun e he => by
  simp only [List.mem_cons, List.not_mem_nil, or_false] at he
  rcases he with rfl | rfl <;> exact ⟨by show (0 : Int) < 1; decide, ⟨by show (1 : Int).natAbs < 2 ^ 20; decide, by show (1 : Int).natAbs < 2 ^ 20; decide⟩⟩
section
variable {P : Program} {w : World} {K : PySem.W.Frag} {mg : Str → Option Value} {base : Heap} {fa : Nat → Addr} {fd : Nat → FuncData}
def spLaw (K : PySem.W.Frag) : Sp := fun vs H Q _ => ∃ (a : Addr) (ns : List Int), vs = [.ref a] ∧ SqL K H a (ns.map V.int) ∧ ns.length ≤ 63 ∧ ∀ H', Q (.bl true) H'
theorem ok_p_law (T : Txt K mg fa fd) : FnOk P w K mg base CX0 8 (fa 45) (fd 45) ["_law_script"] (spLaw K) := by
  refine T.F_p_law.ok sc_p_law (fun vs H Q E h => ?_) (fun cdv A outer s H vs Q E hr h => ?_)
  · obtain ⟨a, ns, rfl, _⟩ := h
    rfl
  · obtain ⟨s0, ns, rfl, hS, hlen, q⟩ := h
    refine ⟨_, (C8.pss_cut (ps_set (i := 1) sc_p_law.nd rfl (.inr rfl) (pe_call (ok_feed T) (hr.mono (by decide)) (by rfl) T.g_feed T.F_feed.kp T.b_feed .nil pass0 (pa_cons (pv 0) pa_nil)))
      (C8.pss_cut (ps_for PassesOwn.never rfl (pi_range1 (by rfl) T.m_range (pa_cons pe_int pa_nil)) (pg_name (i := 2) sc_p_law.nd rfl (.inl rfl)) (C8.pss_cut (ps_set (i := 3) sc_p_law.nd rfl (.inl rfl) (pe_call (ok_words T) (hr.mono (by decide)) (by rfl) T.g_words T.F_words.kp T.b_words .nil pass0 (pa_cons (pv 1) (pa_cons (pe_op op_add pe_int (pe_call (ok_draw T) (hr.mono (by decide)) (by rfl) T.g_draw T.F_draw.kp T.b_draw .nil pass0 (pa_cons (pv 1) (pa_cons pe_int pa_nil)))) pa_nil))))
      (C8.pss_cut (ps_set (i := 4) sc_p_law.nd rfl (.inl rfl) (pe_op op_cat (pe_call (ok_ties T) (hr.mono (by decide)) (by rfl) T.g_ties T.F_ties.kp T.b_ties .nil pass0 (pa_cons (pv 1) (pa_cons (pv 3) (pa_cons pe_int (pa_cons pe_int pa_nil))))) (pe_lst (pa_cons (pe_tup (pa_cons (pe_call (ok_terms T) (hr.mono (by decide)) (by rfl) T.g_terms T.F_terms.kp T.b_terms .nil pass0 (pa_cons (pv 1) (pa_cons (pv 3) (pa_cons pe_int pa_nil)))) (pa_cons (pe_call (ok_part T) (hr.mono (by decide)) (by rfl) T.g_part T.F_part.kp T.b_part .nil pass0 (pa_cons (pv 1) (pa_cons pe_int pa_nil))) pa_nil))) pa_nil))))
      (C8.pss_cut (ps_setLc (i := 5) (own := [("_law_k", 19)]) (g := gName 19) (tt := _) rfl sc_p_law.nd rfl rfl (sw_true rfl rfl rfl (by decide +kernel)) (pi_range1 (by rfl) T.m_range (pa_cons (pe_callB call_len_seq (by rfl) T.m_len PySem.boot_len (pa_cons (pv 4) pa_nil)) pa_nil)) (blkOk_by (own := [("_law_k", 19)]) (N := ["_law_script", "_law_feed_here", "_law_turn", "_law_words_here", "_law_bonds", "_law_shares", "_law_found", "_law_tie", "_law_wide", "_law_due", "_law_back", "_law_edge", "_law_both", "_law_paper", "_law_at", "_law_start", "_law_bent", "_law_kept", "_law_told", "_law_k", "_law_one", "_law_name", "_law_rate_here"]) (sc := defScope s_p_law) (by decide +kernel)) (fun _ _ _ _ _ => pg_name (i := 19) sc_p_law.nd rfl (Or.inl rfl)) (fun _ _ _ _ _ => pts_one (pt_cmpR op_eq (pe_call (ok_draw T) (hr.mono (by decide)) (by rfl) T.g_draw T.F_draw.kp T.b_draw .nil pass0 (pa_cons (pv 1) (pa_cons pe_int pa_nil))) pe_int (nomark _))) (fun _ _ _ _ _ => (pe_tup (pa_cons (pv 19) (pa_cons (pe_call (ok_low T) (hr.mono (by decide)) (by rfl) T.g_low T.F_low.kp T.b_low .nil pass0 (pa_cons (pe_op op_add pe_int (pe_call (ok_draw T) (hr.mono (by decide)) (by rfl) T.g_draw T.F_draw.kp T.b_draw .nil pass0 (pa_cons (pv 1) (pa_cons pe_int pa_nil)))) (pa_cons (pe_op op_add pe_int (pe_call (ok_draw T) (hr.mono (by decide)) (by rfl) T.g_draw T.F_draw.kp T.b_draw .nil pass0 (pa_cons (pv 1) (pa_cons pe_int pa_nil)))) pa_nil))) pa_nil)))))
      (C8.pss_cut (ps_set (i := 6) sc_p_law.nd rfl (.inr rfl) (pe_call (ok_summed T) (hr.mono (by decide)) (by rfl) T.g_summed T.F_summed.kp T.b_summed .nil pass0 (pa_cons (pv 4) (pa_cons (pv 5) pa_nil))))
      (C8.pss_cut (ps_set (i := 7) sc_p_law.nd rfl (.inl rfl) (pe_tup (pa_cons (pe_callTy (call_tupleFK (K := K) rfl) (by rfl) T.m_tuple (by decide +kernel) (pa_cons (pe_lc (own := [("_law_name", 21)]) (g := gName 21) (tt := tYes) rfl sc_p_law.nd (pi_list (pe_callB cr_sortedS (by rfl) T.m_sorted (by decide +kernel) (pa_cons (pe_callTy (call_listD rfl) (by rfl) T.m_list (by decide +kernel) (pa_cons (pe_ix (ix_tupK (K := K) rfl) (pv 6) pe_int (fun _ _ => rfl)) pa_nil)) pa_nil))) (blkOk_by (own := [("_law_name", 21)]) (N := ["_law_script", "_law_feed_here", "_law_turn", "_law_words_here", "_law_bonds", "_law_shares", "_law_found", "_law_tie", "_law_wide", "_law_due", "_law_back", "_law_edge", "_law_both", "_law_paper", "_law_at", "_law_start", "_law_bent", "_law_kept", "_law_told", "_law_k", "_law_one", "_law_name", "_law_rate_here"]) (sc := defScope s_p_law) (by decide +kernel)) (fun _ _ _ _ _ => pg_name (i := 21) sc_p_law.nd rfl (Or.inl rfl)) (fun _ _ _ _ _ => pts_nil) (fun _ _ _ _ _ => (pe_tup (pa_cons (pv 21) (pa_cons (pe_dget (Nat.lt_of_le_of_lt (Nat.add_le_add_left (by decide) _) hr.units) (pe_ix (ix_tupK (K := K) rfl) (pv 6) pe_int (fun _ _ => rfl)) (pv 21) (fun _ _ => rfl)) pa_nil))))) pa_nil)) (pa_cons (pe_ix (ix_tupK (K := K) rfl) (pv 6) pe_int (fun _ _ => rfl)) pa_nil))))
      (C8.pss_cut (ps_if (pt_chain op_le op_le pe_int (pe_callB call_len_seq (by rfl) T.m_len PySem.boot_len (pa_cons (pe_ix (ix_tupK (K := K) rfl) (pv 7) pe_int (fun _ _ => rfl)) pa_nil)) pe_int) (C8.pss_cut (ps_set (i := 8) sc_p_law.nd rfl (.inl rfl) (pe_tup (pa_cons (pe_ix (ix_tupK (K := K) rfl) (pv 7) pe_int (fun _ _ => rfl)) (pa_cons (pe_call (ok_plus T) (hr.mono (by decide)) (by rfl) T.g_plus T.F_plus.kp T.b_plus .nil pass0 (pa_cons (pe_ix (ix_tupK (K := K) rfl) (pv 7) pe_int (fun _ _ => rfl)) (pa_cons (pe_call (ok_any T) (hr.mono (by decide)) (by rfl) T.g_any T.F_any.kp T.b_any .nil pass0 (pa_cons (pv 1) (pa_cons (pe_lst (pa_cons (pe_tup (pa_cons pe_int (pa_cons pe_int pa_nil))) (pa_cons (pe_tup (pa_cons pe_int (pa_cons pe_int pa_nil))) (pa_cons (pe_tup (pa_cons (pe_un un_neg pe_int) (pa_cons pe_int pa_nil))) pa_nil)))) pa_nil))) pa_nil))) pa_nil))))
      (C8.pss_cut (ps_set (i := 9) sc_p_law.nd rfl (.inl rfl) (pe_call (ok_derived T) (hr.mono (by decide)) (by rfl) T.g_derived T.F_derived.kp T.b_derived .nil pass0 (pa_cons (pv 4) (pa_cons (pv 8) (pa_cons (pv 5) pa_nil)))))
      (pss_one (ps_if (pt_not (pt_val (pe_call (ok_same T 3) (hr.mono (by decide)) (by rfl) T.g_same T.F_same.kp T.b_same .nil pass0 (pa_cons (pe_lst (pa_cons (pe_call (ok_p_derives T) (hr.mono (by decide)) (by rfl) T.g_p_derives T.F_p_derives.kp T.b_p_derives .nil pass0 (pa_cons (pv 4) (pa_cons (pv 7) (pa_cons (pv 5) pa_nil)))) (pa_cons (pe_call (ok_p_derives T) (hr.mono (by decide)) (by rfl) T.g_p_derives T.F_p_derives.kp T.b_p_derives .nil pass0 (pa_cons (pv 4) (pa_cons (pv 8) (pa_cons (pv 5) pa_nil)))) pa_nil))) (pa_cons (pe_lst (pa_cons pe_bl (pa_cons (pv 9) pa_nil))) pa_nil))))) (pss_one (ps_ret pe_bl)) pss_nil)))) pss_nil)
      (C8.pss_cut (ps_setLc (i := 10) (own := [("_law_one", 20)]) (g := gName 20) (tt := tYes) rfl sc_p_law.nd rfl rfl (sw_true rfl rfl rfl (by decide +kernel)) (pi_list (pv 4)) (blkOk_by (own := [("_law_one", 20)]) (N := ["_law_script", "_law_feed_here", "_law_turn", "_law_words_here", "_law_bonds", "_law_shares", "_law_found", "_law_tie", "_law_wide", "_law_due", "_law_back", "_law_edge", "_law_both", "_law_paper", "_law_at", "_law_start", "_law_bent", "_law_kept", "_law_told", "_law_k", "_law_one", "_law_name", "_law_rate_here"]) (sc := defScope s_p_law) (by decide +kernel)) (fun _ _ _ _ _ => pg_name (i := 20) sc_p_law.nd rfl (Or.inl rfl)) (fun _ _ _ _ _ => pts_nil) (fun _ _ _ _ _ => (pe_tup (pa_cons (pe_callTy (call_tupleFK (K := K) rfl) (by rfl) T.m_tuple (by decide +kernel) (pa_cons (pe_lc (own := [("_law_name", 21), ("_law_rate_here", 22)]) (g := gTup K 2 (gCons (gName 21) (gCons (gName 22) gNil))) (tt := tYes) rfl sc_p_law.nd (pi_tupK (K := K) rfl (pe_ix (ix_tupK (K := K) rfl) (pv 20) pe_int (fun _ _ => rfl))) (blkOk_by (own := [("_law_name", 21), ("_law_rate_here", 22)]) (N := ["_law_script", "_law_feed_here", "_law_turn", "_law_words_here", "_law_bonds", "_law_shares", "_law_found", "_law_tie", "_law_wide", "_law_due", "_law_back", "_law_edge", "_law_both", "_law_paper", "_law_at", "_law_start", "_law_bent", "_law_kept", "_law_told", "_law_k", "_law_one", "_law_name", "_law_rate_here"]) (sc := ({ kind := .function, names := [(Str.ofString ".0", .local), (Str.ofString "_law_one", .local), (Str.ofString "tuple", .globalImplicit), (Str.ofString "_law_minus", .globalImplicit)], isGenerator := false, isCoroutine := false } : Scope)) (by decide +kernel)) (fun _ _ _ _ _ => pg_tup rfl (pgs_cons (pg_name (i := 21) sc_p_law.nd rfl (Or.inl rfl)) (pgs_cons (pg_name (i := 22) sc_p_law.nd rfl (Or.inl rfl)) pgs_nil))) (fun _ _ _ _ _ => pts_nil) (fun _ _ _ _ _ => (pe_tup (pa_cons (pv 21) (pa_cons (pe_call (ok_minus T) (hr.mono (by decide)) (by rfl) T.g_minus T.F_minus.kp T.b_minus .nil pass0 (pa_cons (pv 22) pa_nil)) pa_nil))))) pa_nil)) (pa_cons (pe_call (ok_minus T) (hr.mono (by decide)) (by rfl) T.g_minus T.F_minus.kp T.b_minus .nil pass0 (pa_cons (pe_ix (ix_tupK (K := K) rfl) (pv 20) pe_int (fun _ _ => rfl)) pa_nil)) pa_nil)))))
      (C8.pss_cut (ps_set (i := 11) sc_p_law.nd rfl (.inl rfl) (pe_call (ok_any T) (hr.mono (by decide)) (by rfl) T.g_any T.F_any.kp T.b_any .nil pass0 (pa_cons (pv 1) (pa_cons (pe_lst (pa_cons (pe_tup (pa_cons pe_int (pa_cons pe_int pa_nil))) (pa_cons (pe_tup (pa_cons (pe_un un_neg pe_int) (pa_cons pe_int pa_nil))) (pa_cons (pe_tup (pa_cons pe_int (pa_cons pe_int pa_nil))) (pa_cons (pe_tup (pa_cons (pe_un un_neg pe_int) (pa_cons pe_int pa_nil))) pa_nil))))) pa_nil))))
      (C8.pss_cut (ps_set (i := 12) sc_p_law.nd rfl (.inl rfl) (pe_op op_cat (pv 4) (pe_lst (pa_cons (pe_tup (pa_cons (pe_ix (ix_tupK (K := K) rfl) (pe_ix ix_list (pv 10) pe_int (fun _ _ => rfl)) pe_int (fun _ _ => rfl)) (pa_cons (pe_call (ok_plus T) (hr.mono (by decide)) (by rfl) T.g_plus T.F_plus.kp T.b_plus .nil pass0 (pa_cons (pe_ix (ix_tupK (K := K) rfl) (pe_ix ix_list (pv 10) pe_int (fun _ _ => rfl)) pe_int (fun _ _ => rfl)) (pa_cons (pv 11) pa_nil))) pa_nil))) pa_nil))))
      (C8.pss_cut (ps_par (i := 13) (j := 14) (by rfl) sc_p_law.nd rfl rfl (by decide) rfl rfl (pa_cons (pe_lst (pa_cons (pe_tup (pa_cons pe_int (pa_cons (pe_tup (pa_cons pe_int (pa_cons pe_int pa_nil))) pa_nil))) (pa_cons (pe_tup (pa_cons (pe_callB call_len_seq (by rfl) T.m_len PySem.boot_len (pa_cons (pv 4) pa_nil)) (pa_cons (pe_tup (pa_cons pe_int (pa_cons pe_int pa_nil))) pa_nil))) pa_nil))) (pa_cons (pe_call (ok_draw T) (hr.mono (by decide)) (by rfl) T.g_draw T.F_draw.kp T.b_draw .nil pass0 (pa_cons (pv 1) (pa_cons (pe_callB call_len_seq (by rfl) T.m_len PySem.boot_len (pa_cons (pv 4) pa_nil)) pa_nil))) pa_nil)) (by rfl))
      (C8.pss_cut (ps_if (pt_not (pt_val (pe_call (ok_same T 3) (hr.mono (by decide)) (by rfl) T.g_same T.F_same.kp T.b_same .nil pass0 (pa_cons (pe_lst (pa_cons (pe_call (ok_p_refutes T) (hr.mono (by decide)) (by rfl) T.g_p_refutes T.F_p_refutes.kp T.b_p_refutes .nil pass0 (pa_cons (pv 12) (pa_cons (pv 13) pa_nil))) (pa_cons (pe_call (ok_p_derives T) (hr.mono (by decide)) (by rfl) T.g_p_derives T.F_p_derives.kp T.b_p_derives .nil pass0 (pa_cons (pv 12) (pa_cons (pe_ix ix_list (pv 4) (pv 14) (fun _ _ => rfl)) (pa_cons (pv 13) pa_nil)))) pa_nil))) (pa_cons (pe_lst (pa_cons (pe_cmpR op_lt (pe_ix (ix_tupK (K := K) rfl) (pv 11) pe_int (fun _ _ => rfl)) pe_int (nomark _)) (pa_cons (pe_or (pe_cmpR op_lt (pe_ix (ix_tupK (K := K) rfl) (pv 11) pe_int (fun _ _ => rfl)) pe_int (nomark _)) (pe_one (pe_call (ok_derived T) (hr.mono (by decide)) (by rfl) T.g_derived T.F_derived.kp T.b_derived .nil pass0 (pa_cons (pv 12) (pa_cons (pe_ix ix_list (pv 4) (pv 14) (fun _ _ => rfl)) (pa_cons (pv 13) pa_nil)))))) pa_nil))) pa_nil))))) (pss_one (ps_ret pe_bl)) pss_nil)
      (pss_one (ps_for PassesOwn.never rfl (pi_tup (pe_tup (pa_cons (pv 5) (pa_cons (pv 13) pa_nil)))) (pg_name (i := 15) sc_p_law.nd rfl (.inl rfl)) (C8.pss_cut (ps_set (i := 16) sc_p_law.nd rfl (.inl rfl) (pe_call (ok_bent_paper T) (hr.mono (by decide)) (by rfl) T.g_bent_paper T.F_bent_paper.kp T.b_bent_paper .nil pass0 (pa_cons (pv 1) (pa_cons (pv 15) (pa_cons (pe_callB call_len_seq (by rfl) T.m_len PySem.boot_len (pa_cons (pv 12) pa_nil)) pa_nil)))))
      (C8.pss_cut (ps_set (i := 17) sc_p_law.nd rfl (.inl rfl) (pe_callTy call_list_of (by rfl) T.m_list (by decide +kernel) (pa_cons (pv 16) pa_nil)))
      (C8.pss_cut (ps_set (i := 18) sc_p_law.nd rfl (.inl rfl) (pe_lst (pa_cons (pe_call (ok_p_refutes T) (hr.mono (by decide)) (by rfl) T.g_p_refutes T.F_p_refutes.kp T.b_p_refutes .nil pass0 (pa_cons (pv 12) (pa_cons (pv 16) pa_nil))) (pa_cons (pe_call (ok_p_derives T) (hr.mono (by decide)) (by rfl) T.g_p_derives T.F_p_derives.kp T.b_p_derives .nil pass0 (pa_cons (pv 12) (pa_cons (pe_ix ix_list (pv 4) (pv 14) (fun _ _ => rfl)) (pa_cons (pv 16) pa_nil)))) pa_nil))))
      (C8.pss_cut (ps_if (PW.pt (pw_or (pt_not (pt_val (pe_call (ok_same T 3) (hr.mono (by decide)) (by rfl) T.g_same T.F_same.kp T.b_same .nil pass0 (pa_cons (pv 18) (pa_cons (pe_lst (pa_cons (pe_call (ok_refuted T) (hr.mono (by decide)) (by rfl) T.g_refuted T.F_refuted.kp T.b_refuted .nil pass0 (pa_cons (pv 12) (pa_cons (pv 16) pa_nil))) (pa_cons (pe_call (ok_derived T) (hr.mono (by decide)) (by rfl) T.g_derived T.F_derived.kp T.b_derived .nil pass0 (pa_cons (pv 12) (pa_cons (pe_ix ix_list (pv 4) (pv 14) (fun _ _ => rfl)) (pa_cons (pv 16) pa_nil)))) pa_nil))) pa_nil))))) (pw_or1 (pt_cmpR (op_neDK (K := K) rfl hr.units) (pv 16) (pv 17) (nomark _))))) (pss_one (ps_ret pe_bl)) pss_nil)
      (pss_one (ps_if (pt_not (pt_val (pe_call (ok_same T 3) (hr.mono (by decide)) (by rfl) T.g_same T.F_same.kp T.b_same .nil pass0 (pa_cons (pe_lst (pa_cons (pe_call (ok_p_refutes T) (hr.mono (by decide)) (by rfl) T.g_p_refutes T.F_p_refutes.kp T.b_p_refutes .nil pass0 (pa_cons (pe_callTy call_tuple_of (by rfl) T.m_tuple (by decide +kernel) (pa_cons (pv 12) pa_nil)) (pa_cons (pe_callTy call_tuple_of (by rfl) T.m_tuple (by decide +kernel) (pa_cons (pv 16) pa_nil)) pa_nil))) (pa_cons (pe_call (ok_p_derives T) (hr.mono (by decide)) (by rfl) T.g_p_derives T.F_p_derives.kp T.b_p_derives .nil pass0 (pa_cons (pe_callTy call_tuple_of (by rfl) T.m_tuple (by decide +kernel) (pa_cons (pv 12) pa_nil)) (pa_cons (pe_ix ix_list (pv 4) (pv 14) (fun _ _ => rfl)) (pa_cons (pe_callTy call_tuple_of (by rfl) T.m_tuple (by decide +kernel) (pa_cons (pv 16) pa_nil)) pa_nil)))) pa_nil))) (pa_cons (pv 18) pa_nil))))) (pss_one (ps_ret pe_bl)) pss_nil))))))))))))))))))))
      (pss_one (ps_ret (pe_and (pe_cmpR op_isBl (pe_call (ok_p_refutes T) (hr.mono (by decide)) (by rfl) T.g_p_refutes T.F_p_refutes.kp T.b_p_refutes .nil pass0 (pa_cons (pe_lst pa_nil) (pa_cons (pe_lst pa_nil) pa_nil))) pe_bl (nomark _)) (pe_one (pe_cmpR op_isBl (pe_call (ok_p_derives T) (hr.mono (by decide)) (by rfl) T.g_p_derives T.F_p_derives.kp T.b_p_derives .nil pass0 (pa_cons (pe_lst (pa_cons (pe_tup (pa_cons (pe_tupF (pa_cons (pe_tup (pa_cons pe_str (pa_cons (pe_tup (pa_cons pe_int (pa_cons pe_int pa_nil))) pa_nil))) pa_nil)) (pa_cons (pe_tup (pa_cons pe_int (pa_cons pe_int pa_nil))) pa_nil))) pa_nil)) (pa_cons (pe_tup (pa_cons (pe_tupF (pa_cons (pe_tup (pa_cons pe_str (pa_cons (pe_tup (pa_cons pe_int (pa_cons pe_int pa_nil))) pa_nil))) pa_nil)) (pa_cons (pe_tup (pa_cons pe_int (pa_cons pe_int pa_nil))) pa_nil))) (pa_cons (pe_lst (pa_cons (pe_tup (pa_cons pe_int (pa_cons (pe_tup (pa_cons pe_int (pa_cons pe_int pa_nil))) pa_nil))) pa_nil)) pa_nil)))) pe_bl (nomark _)))))))), ?_⟩
    refine ⟨fun σ H1 => ∃ a c, σ = [some (.ref s0), some (.ref a), none, none, none, none, none, none, none, none, none, none, none, none, none, none, none, none, none, none, none, none, none] ∧ FeedOk H1 a c, ⟨_, rfl, s0, ns, rfl, hS, hlen, fun a c H1 _ _ s1 hF => ⟨a, c, rfl, hF⟩⟩, fun σ H1 hM => ?_⟩
    obtain ⟨a, c, rfl, hF⟩ := hM
    refine ⟨fun σ H2 => ∃ y2 y3 y4 y5 y6 y7 y8 y9 y10 y11 y12 y13 y14 y15 y16 y17 y18 y19 y20 y21 y22, σ = [some (.ref s0), some (.ref a), y2, y3, y4, y5, y6, y7, y8, y9, y10, y11, y12, y13, y14, y15, y16, y17, y18, y19, y20, y21, y22], ?_, fun σ H2 hM => ?_⟩
    · refine ⟨4, rfl, by decide, by decide, for_range (n := 4) (fun i σ H2 => FeedOk H2 a c ∧ ∃ y2 y3 y4 y5 y6 y7 y8 y9 y10 y11 y12 y13 y14 y15 y16 y17 y18 y19 y20 y21 y22, σ = [some (.ref s0), some (.ref a), y2, y3, y4, y5, y6, y7, y8, y9, y10, y11, y12, y13, y14, y15, y16, y17, y18, y19, y20, y21, y22]) ⟨hF, _, _, _, _, _, _, _, _, _, _, _, _, _, _, _, _, _, _, _, _, _, rfl⟩ (fun i σ H2 hi hp => ?_) (fun σ H2 hp => hp.2)⟩
      obtain ⟨hF2, y2, y3, y4, y5, y6, y7, y8, y9, y10, y11, y12, y13, y14, y15, y16, y17, y18, y19, y20, y21, y22, rfl⟩ := hp
      -- words
      refine ⟨fun σ H3 => FeedOk H3 a c ∧ ∃ (p : Addr) (ws : List (List Nat)) (y2 : Option V), p ≠ a ∧ H3 p = some (.lst (ws.map vS)) ∧ ws ≠ [] ∧ ws.length ≤ 6 ∧ ws.Nodup ∧ (∀ x ∈ ws, LW x) ∧ σ = [some (.ref s0), some (.ref a), y2, some (.ref p), y4, y5, y6, y7, y8, y9, y10, y11, y12, y13, y14, y15, y16, y17, y18, y19, y20, y21, y22], ?_, fun σ H3 hM => ?_⟩
      · refine ⟨_, rfl, _, rfl, a, c, _, rfl, hF2, mid_of (by decide) (by decide), fun r H3 r0 r1 hF3 b3 => ?_⟩
        obtain ⟨k, rfl⟩ := Int.eq_ofNat_of_zero_le r0
        refine ⟨_, _, rfl, rfl, a, c, 2 + k, by rw [Int.natCast_add]; rfl, hF3, by omega, fun p ws H4 hF4 _ npa hp hl hn hw => ⟨hF4, p, ws, _, npa, hp, fun z => ?_, by omega, hn, hw, rfl⟩⟩
        rw [z] at hl
        rw [List.length_nil] at hl
        omega
      clear hF2 H2 y2 y3
      obtain ⟨hF3, p, ws, y2, npa, hp, wne, wl, wn, hw, rfl⟩ := hM
      -- bonds
      refine ⟨fun σ H4 => FeedOk H4 a c ∧ ∃ (B : Addr) (us : List V) (ts : List Tie), B ≠ a ∧ H4 B = some (.lst us) ∧ TVs a H4 us ts ∧ (∀ t ∈ ts, TieB t) ∧ ts ≠ [] ∧ ts.length ≤ 5 ∧ σ = [some (.ref s0), some (.ref a), y2, some (.ref p), some (.ref B), y5, y6, y7, y8, y9, y10, y11, y12, y13, y14, y15, y16, y17, y18, y19, y20, y21, y22], ?_, fun σ H4 hM => ?_⟩
      · refine ⟨_, rfl, _, rfl, a, c, p, ws, 4, 2, rfl, hF3, npa, hp, wne, wl, wn, hw, by decide, fun D us ts H4 hF4 b4 nDa nD hD hT hG hl4 => ?_⟩
        refine ⟨_, rfl, _, rfl, a, c, p, ws, 3, rfl, hF4, npa, b4 _ _ npa hp, wne, wl, wn, fun x hx => lw_nm (hw x hx), fun l o vs tr H5 hF5 b5 hl5 od hts nd hok => ?_⟩
        obtain ⟨tl, e1, e2, k⟩ := trm_tl hok.2.2
        rw [e1] at hts
        have gl : TlG tl := by
          refine ⟨?_, ?_, fun t ht => (k t ht).2⟩
          · have := congrArg List.length e2
            rw [List.length_map, List.length_map] at this
            rw [← this]
            exact hok.1
          · rw [e2] at nd
            have nd2 : ((tl.map (·.1)).map SX.S).Nodup := by
              rw [List.map_map]
              exact nd
            exact List.Pairwise.imp (fun h z => h (by rw [z])) (List.pairwise_map.mp nd2)
        refine ⟨_, rfl, a, c, _, rfl, hF5, by decide, by decide, fun v t u H6 hF6 b6 hrat ht hu => ?_⟩
        obtain ⟨pb, rfl, hpb⟩ := dt_fr (f := (t, u)) hrat.1
        have hfr : Nf ((t, u) : FR) := by
          have h2 : (decide (1 ≤ u) && decide (Int.gcd t u = 1)) = true := hrat.2
          rw [Bool.and_eq_true, decide_eq_true_eq, decide_eq_true_eq] at h2
          exact ⟨by show 0 < u; omega, h2.2⟩
        have hfb : Bn 3 ((t, u) : FR) := ⟨by show t.natAbs < 8; omega, by show u.natAbs < 8; omega⟩
        have nl46 : NL H4 H6 := (NL.but hF4 b5).trans (NL.but hF5 b6)
        have nl56 := NL.but hF5 b6
        have hl6 := nl56 _ _ hl5 (by intro ys z; cases z)
        have hts6 := hts.tups (z' := a) nl56.tt _ _ (noLs_tl tl)
        have hD6 := b6 _ _ nDa (b5 _ _ nDa hD)
        refine ⟨two_line, fun e ne => ⟨small_line (by show 1 ≤ 1000; decide), fun r nr => ?_⟩⟩
        have se := same_upd (o := HO.tup [V.ref l, .ref pb]) ne
        have sr := same_upd (o := HO.lst [V.ref e]) nr
        have hV := newTie (z := a) hl6 od hts6 hpb ne ⟨bd_bn hfb.1 (by decide), bd_bn hfb.2 (by decide)⟩
        refine ⟨D, r, us, [.ref e], rfl, rfl, (se.trans sr) _ _ hD6, upd_same, small_line (by have := Paired.length hT; rw [List.length_singleton]; omega), fun B nB => ?_⟩
        have sB := same_upd (o := HO.lst (us ++ [V.ref e])) nB
        have s7 := se.trans (sr.trans sB)
        refine ⟨hF6.same s7, B, us ++ [.ref e], ts ++ [(tl, (t, u))], new_ne (hF6.same (se.trans sr)) nB, upd_same, paired_snoc8 ((TVs.nl hT nl46).same s7) (hV.same (sr.trans sB)), fun x hx => ?_, by simp, by rw [List.length_append, List.length_singleton]; omega, rfl⟩
        rcases List.mem_append.mp hx with h | h
        · exact ⟨(hG x h).s, (hG x h).bn⟩
        · rw [List.mem_singleton.mp h]
          exact ⟨⟨gl.nf, hfr, hfb.mono (by decide), gl.len, gl.nd⟩, hfb.mono (by decide)⟩
      clear hF3 hp H3 wne wl wn hw
      obtain ⟨hF4, B, us, ts, nBa, hB, hT, hG, tne, tlen, rfl⟩ := hM
      -- shares
      refine ⟨fun σ H5 => FeedOk H5 a c ∧ But a H4 H5 ∧ ∃ (D : Addr) (vs : List V) (pap : List Sh), D ≠ a ∧ H5 D = some (.lst vs) ∧ DtAll a H5 vs (pap.map papD) ∧ (∀ e ∈ pap, shP e) ∧ paperB ts.length (-1) (pap.map papD) = true ∧ pap.length ≤ 5 ∧ σ = [some (.ref s0), some (.ref a), y2, some (.ref p), some (.ref B), some (.ref D), y6, y7, y8, y9, y10, y11, y12, y13, y14, y15, y16, y17, y18, y19, y20, y21, y22], ?_, fun σ H5 hM => ?_⟩
      · have ul : us.length = ts.length := Paired.length hT
        refine ⟨_, rfl, B, us, rfl, .inl (SqL.of hB), us.length, rfl, by omega, by omega, fun D nD => ?_⟩
        have nDa := new_ne hF4 nD
        have nDc := new_nc hF4 nD
        have nBD : B ≠ D := ne_of_none hB nD
        refine lc_range (n := us.length) (fun i G => FeedOk G a c ∧ But a H4 G ∧ ∃ (vs : List V) (pap : List Sh), G D = some (.lst vs) ∧ DtAll a G vs (pap.map papD) ∧ (∀ e ∈ pap, shP e) ∧ paperB ts.length (-1) (pap.map papD) = true ∧ lastP (-1) (pap.map papD) < (i : Int) ∧ pap.length ≤ i)
          ⟨hF4.new nD, But.of (same_upd nD), [], [], upd_same, .nil, (fun e h => by cases h), rfl, by show (-1 : Int) < _; omega, Nat.le_refl _⟩ (fun i G hi hq => ?_) (fun G hq => ?_)
        · obtain ⟨hG5, b5, vs, pap, hD, hvs, hsh, hpb, hlt, hpl⟩ := hq
          refine ⟨rfl, _, rfl, a, c, _, rfl, hG5, mid_of (by decide) (by decide), fun r G1 _ _ hG1 b1 => ⟨rfl, _, rfl, ?_⟩⟩
          have nDs : ∀ {G' : Hp}, But a G1 G' → G' D = some (.lst vs) := fun b => b _ _ nDa (b1 _ _ nDa hD)
          have stay : ∀ G', FeedOk G' a c → But a G1 G' → FeedOk G' a c ∧ But a H4 G' ∧ ∃ (vs : List V) (pap : List Sh), G' D = some (.lst vs) ∧ DtAll a G' vs (pap.map papD) ∧ (∀ e ∈ pap, shP e) ∧ paperB ts.length (-1) (pap.map papD) = true ∧ lastP (-1) (pap.map papD) < ((i + 1 : Nat) : Int) ∧ pap.length ≤ i + 1 := fun G' hG' b' =>
            ⟨hG', (b5.trans b1).trans b', vs, pap, nDs b', hvs.tups ((TT.but hG5 b1).trans (TT.but hG1 b')) _ _ (noLs_pap pap), hsh, hpb, by omega, by omega⟩
          refine ite2 (fun _ => ?_) (fun _ => stay G1 hG1 (But.refl _ _))
          refine ⟨_, rfl, _, rfl, a, c, _, rfl, hG1, mid_of (by decide) (by decide), fun r1 G2 r10 r11 hG2 b2 => ?_⟩
          refine ⟨_, _, rfl, rfl, _, rfl, a, c, _, rfl, hG2, mid_of (by decide) (by decide), fun r2 G3 r20 r21 hG3 b3 => ?_⟩
          refine ⟨_, _, rfl, rfl, 1 + r1, 1 + r2, rfl, by omega, small_log2 (by omega), fun pf npf => ⟨two_line, fun e ne => ?_⟩⟩
          have v0 : 1 + r2 ≠ 0 := by omega
          have bf : Bn 3 (lowF (1 + r1) (1 + r2)) := Bn.low v0 (by show (1 + r1).natAbs < 8; omega) (by show (1 + r2).natAbs < 8; omega)
          have nf : Nf (lowF (1 + r1) (1 + r2)) := nf_low v0
          have fp : 0 < (lowF (1 + r1) (1 + r2)).1 := low_pos (by omega) (by omega)
          generalize hf : lowF (1 + r1) (1 + r2) = f at *
          have sf := same_upd (o := HO.tup [V.int (lowT (1 + r1) (1 + r2)), .int (lowD (1 + r1) (1 + r2))]) npf
          have hpf : upd G3 pf (.tup [V.int (lowT (1 + r1) (1 + r2)), .int (lowD (1 + r1) (1 + r2))]) pf = some (trF f) := by
            rw [upd_same, ← hf]
            rfl
          have b23 := b2.trans b3
          obtain ⟨hGs, bGs, _⟩ := stay G3 hG3 b23
          have hD3 := nDs b23
          obtain ⟨se, de⟩ := dnewT (z := a) ne (.cons (.int ((0 : Int) + (i : Int)) (by rw [Int.zero_add]; exact log2_mono (b := 8000) (by omega) (by decide +kernel))) (.cons (.tup hpf (.cons (.int f.1 (bd_bn bf.1 (by decide))) (.cons (.int f.2 (bd_bn bf.2 (by decide))) .nil))) .nil))
          have sfe := sf.trans se
          have hD4 := sfe _ _ hD3
          have vl : vs.length < sizeLine := by
            have e1 := hvs.len
            rw [List.length_map] at e1
            exact small1000 (by omega)
          refine ⟨vs, hD4, vl, (hG3.same sfe).put nDa nDc, ((b5.trans b1).trans (b23.trans (But.of sfe))).updN nD, vs ++ [.ref e], pap ++ [(i, f)], upd_same, ?_, fun x hx => ?_, ?_, ?_, by rw [List.length_append, List.length_singleton]; omega⟩
          · rw [List.map_append]
            refine DtAll.snoc (hvs.tups (((TT.but hG5 b1).trans (TT.but hG1 b23)).trans ((TT.of sfe).trans (TT.upd hD4))) _ _ (noLs_pap pap)) ?_
            exact Dt.tups (TT.upd hD4) _ _ rfl (by rw [show papD (i, f) = .tuple [.int ((0 : Int) + (i : Int)), .tuple [.int f.1, .int f.2]] by rw [Int.zero_add]; rfl]; exact de)
          · rcases List.mem_append.mp hx with h | h
            · exact hsh x h
            · rw [List.mem_singleton.mp h]
              exact ⟨nf.1, bf.mono (by decide)⟩
          · rw [List.map_append]
            show paperB ts.length (-1) (pap.map papD ++ [papD (i, f)]) = true
            rw [paperB_snoc, hpb, share_ok (by omega) nf fp, decide_eq_true (show lastP (-1) (pap.map papD) < placeD (papD (i, f)) from hlt)]
            rfl
          · rw [List.map_append]
            show lastP (-1) (pap.map papD ++ [papD (i, f)]) < _
            unfold lastP
            rw [List.foldl_append]
            show ((i : Nat) : Int) < _
            omega
        · obtain ⟨hG5, b5, vs, pap, hD, hvs, hsh, hpb, hlt, hpl⟩ := hq
          exact ⟨hG5, b5, D, vs, pap, nDa, hD, hvs, hsh, hpb, by omega, rfl⟩
      obtain ⟨hF5, b45, D, vs, pap, nDa, hD, hvs, hsh, hpb, hpl, rfl⟩ := hM
      have hB := b45 _ _ nBa hB
      have hT := TVs.nl hT (NL.but hF4 b45)
      -- the sum
      have tS : ∀ t ∈ ts, TieS t := fun t ht => (hG t ht).s
      have smp := sm_pap hsh
      have ok : SumOk ts pap := by
        have := sums_all tS (by omega) smp hpb
        rw [sh_pap] at this
        exact this
      refine ⟨fun σ H6 => Same H5 H6 ∧ ∃ o d pb, H6 o = some (.tup [.ref d, .ref pb]) ∧ RD K H6 d (sumN ts pap) (valL (sumIt ts pap)) ∧ H6 pb = some (trF (sumF ts pap)) ∧ σ = [some (.ref s0), some (.ref a), y2, some (.ref p), some (.ref B), some (.ref D), some (.ref o), y7, y8, y9, y10, y11, y12, y13, y14, y15, y16, y17, y18, y19, y20, y21, y22], ?_, fun σ H6 hM => ?_⟩
      · refine ⟨_, rfl, _, rfl, B, D, us, vs, ts, pap.map papD, a, rfl, hB, hT.dt, hD, hvs, sums_ok tS (by omega) smp, fun h => absurd (hpb.symm.trans h) (by decide), fun _ o d pb H' s' ho hd hf => ?_⟩
        rw [sh_pap] at hd hf
        exact ⟨s', o, d, pb, ho, hd, hf, rfl⟩
      obtain ⟨s6, o, d, pb, ho, ⟨kvs, hk, hR⟩, hfr, rfl⟩ := hM
      have hF6 := hF5.same s6
      have hB := s6 _ _ hB
      have hT := hT.same s6
      have hD := s6 _ _ hD
      have hvs := hvs.same s6
      -- the sum as a tie
      have okn := sumN_len (pap := pap) hT.len
      have kl : (sumN ts pap).length ≤ 10 := by
        have h1 : (sumN ts pap).length ≤ (lawK (sumIt ts pap)).length := List.length_filter_le ..
        have h2 := lawK_len (sumIt ts pap)
        have h3 := sumIt_len tS pap
        omega
      refine ⟨fun σ H7 => Same H6 H7 ∧ ∃ (tv : V) (ms : List (List Nat)), ms.Perm (sumN ts pap) ∧ TieV a H7 tv (ms.map (fun x => (x, valL (sumIt ts pap) x)), sumF ts pap) ∧ σ = [some (.ref s0), some (.ref a), y2, some (.ref p), some (.ref B), some (.ref D), some (.ref o), some tv, y8, y9, y10, y11, y12, y13, y14, y15, y16, y17, y18, y19, y20, y21, y22], ?_, fun σ H7 hM => ?_⟩
      · refine ⟨_, rfl, o, _, _, _, rfl, rfl, SqT.of ho, t0, d, kvs, rfl, .inl hk, fun p1 np1 => ?_⟩
        have eks : (kvs.map fun kv => kV kv.1) = ((sumN ts pap).map SX.S).map V.str := by
          rw [show (kvs.map fun kv => kV kv.1) = (kvs.map (·.1)).map kV by rw [List.map_map]; rfl, hR.1, List.map_map, List.map_map]
          rfl
        rw [eks]
        have sp1 := same_upd (o := HO.lst (((sumN ts pap).map SX.S).map V.str)) np1
        refine ⟨p1, (sumN ts pap).map SX.S, rfl, SqL.of upd_same, by rw [List.length_map]; omega, fun ys p2 pm srt np2 => ?_⟩
        obtain ⟨ms, hms⟩ : ∃ ms : List (List Nat), ms = ys.map fun y => y.cps.toList := ⟨_, rfl⟩
        have eys : ys = ms.map SX.S := by
          rw [hms, List.map_map]
          refine ((List.map_congr_left fun y _ => ?_).trans (List.map_id ys)).symm
          exact S_of y
        subst eys
        have pms : ms.Perm (sumN ts pap) := by
          have := pm.map fun y : Str => y.cps.toList
          rw [List.map_map, List.map_map] at this
          have e : ((fun y : Str => y.cps.toList) ∘ SX.S) = id := by
            funext x
            exact S_list x
          rw [e, List.map_id, List.map_id] at this
          exact this
        have sp2 := sp1.trans (same_upd (o := HO.lst ((ms.map SX.S).map V.str)) np2)
        have ml : ms.length ≤ 10 := by rw [pms.length_eq]; omega
        refine ⟨p2, rfl, ⟨_, SqL.of upd_same⟩, fun D1 nD1 => ?_⟩
        generalize hG6 : upd (upd H6 p1 (HO.lst (((sumN ts pap).map SX.S).map V.str))) p2 (HO.lst ((ms.map SX.S).map V.str)) = G6 at *
        have hp2 : G6 p2 = some (.lst (ms.map (V.str ∘ SX.S))) := by rw [← hG6, upd_same, List.map_map]
        refine lc_list (K := K) (a := p2) (xs := ms.map (V.str ∘ SX.S)) (fun i G => Same G6 G ∧ ∃ vs1, G D1 = some (.lst vs1) ∧ DtAll a G vs1 (((ms.take i).map fun x => (x, valL (sumIt ts pap) x)).map tmP)) ⟨same_upd nD1, [], upd_same, .nil⟩ (fun i G _ h => SqL.of (h.1 _ _ hp2)) (fun i x G hx h => ?_) (fun G h => ?_)
        · obtain ⟨sG, vs1, hD1, hvs1⟩ := h
          rw [List.getElem?_map] at hx
          obtain ⟨x, hxi, rfl⟩ := Option.map_eq_some_iff.mp hx
          have hxm := pms.mem_iff.mp (List.mem_of_getElem? hxi)
          have s6G := sp2.trans sG
          obtain ⟨q1, ep, fp⟩ := hR.2.2 x hxm
          have fne : valL (sumIt ts pap) x ≠ (0, 1) := fun z => by
            have := (List.mem_filter.mp hxm).2
            unfold nzV at this
            rw [z] at this
            exact absurd this (by decide)
          have hq1 : H6 q1 = some (trF (valL (sumIt ts pap) x)) := fp.2.resolve_left fne
          have vl : vs1.length < sizeLine := by
            have e1 := hvs1.len
            rw [List.length_map, List.length_map, List.length_take] at e1
            exact small1000 (by omega)
          refine ⟨rfl, _, rfl, _, rfl, o, _, _, _, rfl, rfl, SqT.of (s6G _ _ ho), t0, _, rfl, d, _, rfl, by rw [← ep]; exact DGet.k (k := keyOf x) (s6G _ _ hk), two_line, fun e1 ne => ?_⟩
          have bv := sumV_bn ok x
          obtain ⟨se, de⟩ := dnewT (z := a) ne (.cons (.str (SX.S x) (okn x hxm)) (.cons (.tup (s6G _ _ hq1) (.cons (.int (valL (sumIt ts pap) x).1 (bd_bn bv.1 (by decide))) (.cons (.int (valL (sumIt ts pap) x).2 (bd_bn bv.2 (by decide))) .nil))) .nil))
          have hD2 := se _ _ hD1
          refine ⟨vs1, hD2, vl, fun b o eb => (by rw [upd_ne (ne_of_none eb nD1)]; exact se _ _ (sG _ _ eb)), vs1 ++ [.ref e1], upd_same, ?_⟩
          rw [List.take_add_one, hxi, List.map_append, List.map_append]
          refine DtAll.snoc (hvs1.tups ((TT.of se).trans (TT.upd hD2)) _ _ (noLs_tl _)) ?_
          exact Dt.tups (TT.upd hD2) _ _ rfl de
        · obtain ⟨sG, vs1, hD1, hvs1⟩ := h
          rw [List.length_map, List.take_length] at hvs1
          refine ⟨D1, vs1, rfl, SqL.of hD1, fun l o2 nl od => ?_⟩
          have sl := same_upd (o := HO.frz o2 (.tup vs1)) nl
          have sA := sp2.trans (sG.trans sl)
          have bF := sumF_ok ok
          refine ⟨_, rfl, o, _, _, _, rfl, rfl, SqT.of (sA _ _ ho), t1, two_line, fun e ne => ?_⟩
          have hV := newTie (z := a) (tl := ms.map fun x => (x, valL (sumIt ts pap) x)) (f := sumF ts pap) upd_same od (hvs1.same sl) (sA _ _ hfr) ne ⟨bd_bn bF.1 (by decide), bd_bn bF.2 (by decide)⟩
          exact ⟨sA.trans (same_upd ne), .ref e, ms, pms, hV, rfl⟩
      obtain ⟨s7, tv, ms, pms, htv, rfl⟩ := hM
      have hF7 := hF6.same s7
      have hB7 := s7 _ _ hB
      have hT7 := hT.same s7
      have hD7 := s7 _ _ hD
      have hvs7 := hvs.same s7
      obtain ⟨pt, pl, pbt, ob, xs, rfl, hpt, hpl, odb, hxs, hpbt, bd1, bd2⟩ := tieV_inv htv
      have xl : xs.length = ms.length := by
        have := hxs.len
        rw [List.length_map, List.length_map] at this
        exact this
      have nfF := sumF_nf ok
      have bnF := sumF_bn ok
      have ndm : ((ms.map fun x => (x, valL (sumIt ts pap) x)).map (·.1)).Nodup := by
        rw [List.map_map]
        show (ms.map id).Nodup
        rw [List.map_id]
        exact pms.nodup_iff.mpr hR.2.1
      -- a tie that follows
      refine ⟨fun σ H8 => FeedOk H8 a c ∧ But a H7 H8 ∧ ∃ y8 y9, σ = [some (.ref s0), some (.ref a), y2, some (.ref p), some (.ref B), some (.ref D), some (.ref o), some (.ref pt), y8, y9, y10, y11, y12, y13, y14, y15, y16, y17, y18, y19, y20, y21, y22], ?_, fun σ H8 hM => ?_⟩
      · refine ⟨_, rfl, pt, _, _, _, rfl, rfl, mh_sq hpt, t0, pl, xs, rfl, .inr (.inl (.inr ⟨ob, hpl⟩)), ?_⟩
        refine ⟨_, _, rfl, rfl, _, rfl, ?_⟩
        by_cases h1 : 1 ≤ xs.length
        · refine iteT' (decide_eq_true (by omega)) ⟨_, _, rfl, rfl, _, rfl, ?_⟩
          by_cases h2 : xs.length ≤ 2
          · refine iteT' (decide_eq_true (by omega)) ?_
            have mne : ms ≠ [] := fun z => by
              rw [z] at xl
              rw [xl] at h1
              exact absurd h1 (by decide)
            -- a wider one
            refine ⟨fun σ H8 => FeedOk H8 a c ∧ But a H7 H8 ∧ ∃ (wv : V) (e : FR), Nf e ∧ Bn 3 e ∧ TieV a H8 wv (ms.map (fun x => (x, valL (sumIt ts pap) x)), addL (sumF ts pap) e) ∧ σ = [some (.ref s0), some (.ref a), y2, some (.ref p), some (.ref B), some (.ref D), some (.ref o), some (.ref pt), some wv, y9, y10, y11, y12, y13, y14, y15, y16, y17, y18, y19, y20, y21, y22], ?_, fun σ H8 hM => ?_⟩
            · refine ⟨_, rfl, pt, _, _, _, rfl, rfl, mh_sq hpt, t0, _, rfl, pt, _, _, _, rfl, rfl, mh_sq hpt, t1, ?_⟩
              refine ⟨_, rfl, (small_line (by decide : 2 ≤ 1000)), fun p1 n1 => ?_⟩
              obtain ⟨s1, d1⟩ := dnewT (z := a) n1 (.cons (.int 0 (by decide +kernel)) (.cons (.int 1 (by decide +kernel)) .nil))
              refine ⟨(small_line (by decide : 2 ≤ 1000)), fun p2 n2 => ?_⟩
              obtain ⟨s2, d2⟩ := dnewT (z := a) n2 (.cons (.int 1 (by decide +kernel)) (.cons (.int 2 (by decide +kernel)) .nil))
              refine ⟨_, rfl, (small_line (by decide : 2 ≤ 1000)), fun p3 n3 => ?_⟩
              obtain ⟨s3, d3⟩ := dnewT (z := a) n3 (.cons (.int (-1) (by decide +kernel)) (.cons (.int 5 (by decide +kernel)) .nil))
              refine ⟨(small_line (by decide : 3 ≤ 1000)), fun p4 n4 => ?_⟩
              obtain ⟨s4, all, hrw⟩ := drow (z := a) n4 (.cons (d1.same (s2.trans s3)) (.cons (d2.same s3) (.cons d3 .nil)))
              have sR := (s1.trans (s2.trans (s3.trans s4)))
              refine ⟨a, c, p4, _, rfl, hF7.same sR, hrw, new_ne (hF7.same (s1.trans (s2.trans s3))) n4, by show 0 < 3; decide, by show 3 ≤ 1000; decide, fun v H8 hv hF8 b8 => ?_⟩
              obtain ⟨dd, hd8, hdt⟩ := all.mem hv
              have hdt := hdt.but (hF7.same sR) b8
              obtain ⟨e, rfl, he⟩ : ∃ f : FR, dd = frP f ∧ Nf f ∧ Bn 3 f := by
                simp only [List.mem_cons, List.not_mem_nil, or_false] at hd8
                rcases hd8 with rfl | rfl | rfl
                · exact ⟨(0, 1), rfl, small_fr (by decide)⟩
                · exact ⟨(1, 2), rfl, small_fr (by decide)⟩
                · exact ⟨(-1, 5), rfl, small_fr (by decide)⟩
              obtain ⟨pe, rfl, hpe⟩ := dt_fr hdt
              have b78 := (But.of (a := a) sR).trans b8
              have nl78 := (NL.of sR).trans (NL.but (hF7.same sR) b8)
              have hbt8 := nl78.mh _ _ hpbt
              have bw := (bnF.add he.2 nfF.1 he.1.1).mono (show 1901 + 3 + 1 ≤ 2048 by decide)
              refine ⟨pbt, pe, sumF ts pap, e, rfl, mh_sq hbt8, SqT.of hpe, nfF.1, he.1.1, bnF.mono (by decide), he.2.mono (by decide), fun q1 nq1 => ⟨two_line, fun q2 nq2 => ?_⟩⟩
              have sq1 := same_upd (o := trF (addL (sumF ts pap) e)) nq1
              have nl89 := nl78.trans (NL.of sq1)
              have hV := newTieM (z := a) (tl := ms.map fun x => (x, valL (sumIt ts pap) x)) (f := addL (sumF ts pap) e) (nl89 _ _ hpl (by intro ys z; cases z)) odb (hxs.tups (z' := a) nl89.mh _ _ (noLs_tl _)) (mh_of (o := trF (addL (sumF ts pap) e)) upd_same (by intro o' ys z; cases z)) nq2 ⟨bd_bn bw.1 (by decide), bd_bn bw.2 (by decide)⟩
              have sq2 := sq1.trans (same_upd (o := HO.tup [V.ref pl, .ref q1]) nq2)
              exact ⟨hF8.same sq2, b78.trans (But.of sq2), .ref q2, e, he.1, he.2, hV, rfl⟩
            obtain ⟨hF8, b78, wv, e, nfe, bne, hwv, rfl⟩ := hM
            have nl78 := NL.but hF7 b78
            have hB8 := b78 _ _ nBa hB7
            have hT8 := hT7.nl nl78
            have hD8 := b78 _ _ nDa hD7
            have hvs8 := hvs7.tups (z' := a) (TT.but hF7 b78) _ _ (noLs_pap pap)
            have htv8 := htv.nl (z' := a) nl78
            have bw := (bnF.add bne nfF.1 nfe.1).mono (show 1901 + 3 + 1 ≤ 2048 by decide)
            have tlne : (ms.map fun x => (x, valL (sumIt ts pap) x)) ≠ [] := fun z => mne (List.map_eq_nil_iff.mp z)
            refine ⟨fun σ H9 => Same H8 H9 ∧ σ = [some (.ref s0), some (.ref a), y2, some (.ref p), some (.ref B), some (.ref D), some (.ref o), some (.ref pt), some wv, some (.bl (derB ts (ms.map (fun x => (x, valL (sumIt ts pap) x)), addL (sumF ts pap) e) (pap.map papD))), y10, y11, y12, y13, y14, y15, y16, y17, y18, y19, y20, y21, y22], ?_, fun σ H9 hM => ?_⟩
            · exact ⟨_, rfl, _, rfl, _, rfl, B, D, wv, us, vs, ts, (ms.map (fun x => (x, valL (sumIt ts pap) x)), addL (sumF ts pap) e), pap.map papD, a, rfl, hB8, hT8.dt, ⟨hwv.1, hwv.2, ndm, tlne, bw⟩, hD8, hvs8, sums_ok tS (by omega) smp, fun H' s' => ⟨s', rfl⟩⟩
            obtain ⟨s9, rfl⟩ := hM
            have okA : paperB ts.length (-1) (pap.map papD) = true → SumOk ts (shOf (pap.map papD)) := fun _ => by rw [sh_pap]; exact ok
            have ds := der_self hpb pms mne
            refine ⟨_, rfl, _, rfl, _, rfl, B, D, .ref pt, us, vs, ts, (ms.map (fun x => (x, valL (sumIt ts pap) x)), sumF ts pap), pap.map papD, a, rfl, .inl (SqL.of (s9 _ _ hB8)), (hT8.same s9).dt, ⟨(htv8.same s9).1, (htv8.same s9).2, ndm, bnF.mono (by decide)⟩, .inl (SqL.of (s9 _ _ hD8)), hvs8.same s9, okA, fun HA sA => ?_⟩
            have s9A := s9.trans sA
            rw [ds]
            refine ⟨_, rfl, _, rfl, _, rfl, B, D, wv, us, vs, ts, (ms.map (fun x => (x, valL (sumIt ts pap) x)), addL (sumF ts pap) e), pap.map papD, a, rfl, .inl (SqL.of (s9A _ _ hB8)), (hT8.same s9A).dt, ⟨(hwv.same s9A).1, (hwv.same s9A).2, ndm, bw⟩, .inl (SqL.of (s9A _ _ hD8)), hvs8.same s9A, okA, fun HB sB => ?_⟩
            generalize derB ts (ms.map (fun x => (x, valL (sumIt ts pap) x)), addL (sumF ts pap) e) (pap.map papD) = bb at *
            refine ⟨two_line, fun q1 m1 => ⟨_, rfl, two_line, fun q2 m2 => ?_⟩⟩
            have t1' := same_upd (o := .lst ([true, bb].map V.bl)) m1
            have t2' := same_upd (o := .lst ([true, bb].map V.bl)) m2
            refine ⟨.ref q1, .ref q2, rfl, eqd_bls (bs := [true, bb]) (t2' _ _ upd_same) upd_same (by show 2 ≤ 1000; decide), fun HC sC => ⟨_, rfl, iteF ?_⟩⟩
            have sD := s9A.trans (sB.trans (t1'.trans (t2'.trans sC)))
            exact ⟨hF8.same sD, b78.trans (But.of sD), _, _, rfl⟩
          · exact iteF' (decide_eq_false (by omega)) ⟨hF7, But.refl _ _, _, _, rfl⟩
        · exact iteF' (decide_eq_false (by omega)) ⟨_, rfl, iteF' rfl ⟨hF7, But.refl _ _, _, _, rfl⟩⟩
      clear y8 y9
      obtain ⟨hF8, b78, y8, y9, rfl⟩ := hM
      have lB8 : LTs a B us ts H8 := ⟨b78 _ _ nBa hB7, hT7.nl (NL.but hF7 b78), nBa⟩
      have lD8 : LPs a D vs pap H8 := ⟨b78 _ _ nDa hD7, hvs7.tups (z' := a) (TT.but hF7 b78) _ _ (noLs_pap pap), nDa⟩
      clear b78 hF7 hvs7 hD7 hT7 hB7 hpt hpl hxs hpbt htv s7 hfr ho hk hF6 H7
      -- the ties the other way round
      refine ⟨fun σ H9 => Same H8 H9 ∧ ∃ (Ka : Addr) (us2 : List V), Ka ≠ a ∧ H9 Ka = some (.lst us2) ∧ TVs a H9 us2 (ts.map negTie) ∧ σ = [some (.ref s0), some (.ref a), y2, some (.ref p), some (.ref B), some (.ref D), some (.ref o), some (.ref pt), y8, y9, some (.ref Ka), y11, y12, y13, y14, y15, y16, y17, y18, y19, y20, y21, y22], ?_, fun σ H9 hM => ?_⟩
      · refine ⟨_, rfl, B, rfl, ⟨_, SqL.of lB8.h⟩, fun D1 nD1 => ?_⟩
        refine lc_list (K := K) (a := B) (xs := us) (fun i G => Same H8 G ∧ ∃ vs2, G D1 = some (.lst vs2) ∧ TVs a G vs2 ((ts.take i).map negTie)) ⟨same_upd nD1, [], upd_same, .nil⟩ (fun i G _ h => SqL.of (h.1 _ _ lB8.h)) (fun i x G hx h => ?_) (fun G h => ?_)
        · obtain ⟨sG, vs2, hD1, hvs2⟩ := h
          obtain ⟨t1x, et, hx1⟩ := paired_at lB8.t hx
          have hxG := hx1.same sG
          obtain ⟨pt1, pl1, pb1, ob1, xs1, rfl, g1, g2, g3, g4, g5, g6, g7⟩ := tieV_inv hxG
          refine ⟨rfl, _, rfl, pt1, _, _, _, rfl, rfl, mh_sq g1, t0, pl1, rfl, ⟨_, .inl (.inr ⟨ob1, g2⟩)⟩, fun D2 nD2 => ?_⟩
          have x1l : xs1.length = t1x.1.length := by
            have := g4.len
            rw [List.length_map] at this
            exact this
          have tx := (tS _ (List.mem_of_getElem? et)).ln
          have v2l : vs2.length ≤ 5 := by
            have := Paired.length hvs2
            rw [List.length_map, List.length_take] at this
            omega
          refine lc_tup (K := K) (a := pl1) (xs := xs1) (fun j G2 => Same G G2 ∧ ∃ vs3, G2 D2 = some (.lst vs3) ∧ DtAll a G2 vs3 (((negT t1x.1).take j).map tmP)) ⟨same_upd nD2, [], upd_same, .nil⟩ (fun j G2 _ h => .inl (.inr ⟨ob1, h.1 _ _ g2⟩)) (fun j x G2 hx h => ?_) (fun G2 h => ?_)
          · obtain ⟨sG2, vs3, hD2, hvs3⟩ := h
            obtain ⟨dd, hd, hdt⟩ := DtAll.at j g4 hx
            rw [List.getElem?_map] at hd
            obtain ⟨⟨n, f⟩, he, rfl⟩ := Option.map_eq_some_iff.mp hd
            change Dt _ _ _ (.tuple [.str (SX.S n), frP f]) at hdt
            have vl : vs3.length < sizeLine := by
              have e1 := hvs3.len
              rw [List.length_map, List.length_take, List.length_map] at e1
              exact small1000 (by omega)
            match x, hdt with
            | _, .tup (a := pp) hpp (.cons (.str _ hn) (.cons hr .nil)) =>
              obtain ⟨pr, rfl, hpr⟩ := dt_fr hr
              have bfr := dt_fr_bd hr
              refine ⟨pp, _, rfl, mh_sq (mh_same sG2 _ _ hpp), rfl, _, _, rfl, _, _, rfl, rfl, rfl, _, rfl, _, rfl, pr, f, rfl, mh_sq (mh_same sG2 _ _ hpr), fun e ne => ?_⟩
              obtain ⟨se, de⟩ := dnewT (z := a) ne (.cons (.int (negF f).1 (bd_neg bfr.1)) (.cons (.int (negF f).2 bfr.2) .nil))
              refine ⟨two_line, fun e2 ne2 => ?_⟩
              obtain ⟨se2, de2⟩ := dnewT (z := a) ne2 (.cons (.str (SX.S n) hn) (.cons de .nil))
              have hD2' := (se.trans se2) _ _ hD2
              refine ⟨vs3, hD2', vl, fun b o eb => (by rw [upd_ne (ne_of_none eb nD2)]; exact (se.trans se2) _ _ (sG2 _ _ eb)), vs3 ++ [.ref e2], upd_same, ?_⟩
              have er : (negT t1x.1)[j]? = some (n, negF f) := by
                rw [List.getElem?_map, he]
                rfl
              rw [List.take_add_one, er, List.map_append]
              refine DtAll.snoc (hvs3.tups ((TT.of (se.trans se2)).trans (TT.upd hD2')) _ _ (noLs_tl _)) ?_
              exact Dt.tups (TT.upd hD2') _ _ rfl de2
          · obtain ⟨sG2, vs3, hD2, hvs3⟩ := h
            have nln : (negT t1x.1).length = xs1.length := by rw [List.length_map, x1l]
            rw [← nln, List.take_length] at hvs3
            refine ⟨D2, vs3, rfl, SqL.of hD2, fun l2 o2 nl2 od2 => ?_⟩
            have sl := same_upd (o := HO.frz o2 (.tup vs3)) nl2
            have sA := sG2.trans sl
            refine ⟨_, rfl, pt1, _, _, _, rfl, rfl, mh_sq (mh_same sA _ _ g1), t1, pb1, t1x.2, rfl, mh_sq (mh_same sA _ _ g5), fun e ne => ⟨two_line, fun q1 nq1 => ?_⟩⟩
            have se := same_upd (o := trF (negF t1x.2)) ne
            have hV := newTie (z := a) (tl := negT t1x.1) (f := negF t1x.2) (se _ _ upd_same) od2 (hvs3.same (sl.trans se)) upd_same nq1 ⟨bd_neg g6, g7⟩
            have sq := same_upd (o := HO.tup [V.ref l2, .ref e]) nq1
            have sB := sA.trans (se.trans sq)
            have hD1' := sB _ _ hD1
            refine ⟨vs2, hD1', small1000 (by omega), fun b o eb => (by rw [upd_ne (ne_of_none eb nD1)]; exact sB _ _ (sG _ _ eb)), vs2 ++ [.ref q1], upd_same, ?_⟩
            rw [List.take_add_one, et, List.map_append]
            have nlu := NL.upd (zs := vs2 ++ [.ref q1]) hD1'
            exact paired_snoc8 (TVs.nl hvs2 ((NL.of sB).trans nlu)) (hV.nl nlu)
        · obtain ⟨sG, vs2, hD1, hvs2⟩ := h
          rw [lB8.len, List.take_length] at hvs2
          exact ⟨sG, D1, vs2, new_ne hF8 nD1, hD1, hvs2, rfl⟩
      clear y10
      obtain ⟨s9, Ka, us2, nKa, hKa, hT2, rfl⟩ := hM
      have hF9 := hF8.same s9
      have lB9 := lB8.same s9
      have lD9 := lD8.same s9
      clear lB8 lD8 hF8 s9 H8
      -- the edge
      refine ⟨fun σ H10 => FeedOk H10 a c ∧ But a H9 H10 ∧ ∃ (pe : Addr) (e : FR), H10 pe = some (trF e) ∧ Nf e ∧ Bn 3 e ∧ σ = [some (.ref s0), some (.ref a), y2, some (.ref p), some (.ref B), some (.ref D), some (.ref o), some (.ref pt), y8, y9, some (.ref Ka), some (.ref pe), y12, y13, y14, y15, y16, y17, y18, y19, y20, y21, y22], ?_, fun σ H10 hM => ?_⟩
      · skip
        refine ⟨_, rfl, (small_line (by decide : 2 ≤ 1000)), fun p1 n1 => ?_⟩
        obtain ⟨s1, d1⟩ := dnewT (z := a) n1 (.cons (.int 0 (by decide +kernel)) (.cons (.int 1 (by decide +kernel)) .nil))
        refine ⟨_, rfl, (small_line (by decide : 2 ≤ 1000)), fun p2 n2 => ?_⟩
        obtain ⟨s2, d2⟩ := dnewT (z := a) n2 (.cons (.int (-1) (by decide +kernel)) (.cons (.int 1 (by decide +kernel)) .nil))
        refine ⟨(small_line (by decide : 2 ≤ 1000)), fun p3 n3 => ?_⟩
        obtain ⟨s3, d3⟩ := dnewT (z := a) n3 (.cons (.int 1 (by decide +kernel)) (.cons (.int 2 (by decide +kernel)) .nil))
        refine ⟨_, rfl, (small_line (by decide : 2 ≤ 1000)), fun p4 n4 => ?_⟩
        obtain ⟨s4, d4⟩ := dnewT (z := a) n4 (.cons (.int (-1) (by decide +kernel)) (.cons (.int 3 (by decide +kernel)) .nil))
        refine ⟨(small_line (by decide : 4 ≤ 1000)), fun p5 n5 => ?_⟩
        obtain ⟨s5, all, hrw⟩ := drow (z := a) n5 (.cons (d1.same (s2.trans (s3.trans s4))) (.cons (d2.same (s3.trans s4)) (.cons (d3.same s4) (.cons d4 .nil))))
        have sR := (s1.trans (s2.trans (s3.trans (s4.trans s5))))
        refine ⟨a, c, p5, _, rfl, hF9.same sR, hrw, new_ne (hF9.same (s1.trans (s2.trans (s3.trans s4)))) n5, by show 0 < 4; decide, by show 4 ≤ 1000; decide, fun v H10 hv hF10 b10 => ?_⟩
        obtain ⟨dd, hd10, hdt⟩ := all.mem hv
        have hdt := hdt.but (hF9.same sR) b10
        obtain ⟨e, rfl, he⟩ : ∃ f : FR, dd = frP f ∧ Nf f ∧ Bn 3 f := by
          simp only [List.mem_cons, List.not_mem_nil, or_false] at hd10
          rcases hd10 with rfl | rfl | rfl | rfl
          · exact ⟨(0, 1), rfl, small_fr (by decide)⟩
          · exact ⟨(-1, 1), rfl, small_fr (by decide)⟩
          · exact ⟨(1, 2), rfl, small_fr (by decide)⟩
          · exact ⟨(-1, 3), rfl, small_fr (by decide)⟩
        obtain ⟨pe, rfl, hpe⟩ := dt_fr hdt
        exact ⟨hF10, (But.of sR).trans b10, pe, e, hpe, he.1, he.2, rfl⟩
      clear y11
      obtain ⟨hF10, b10, pe, e, hpe, nfe, bne, rfl⟩ := hM
      have lB10 := lB9.but hF9 b10
      have lD10 := lD9.but hF9 b10
      have hT10 := TVs.nl hT2 (NL.but hF9 b10)
      have hKa10 := b10 _ _ nKa hKa
      clear lB9 lD9 hT2 hKa hF9 b10 H9
      obtain ⟨tie0, rs, rfl⟩ : ∃ x r, ts = x :: r := by
        cases ts with
        | nil => exact absurd rfl tne
        | cons x r => exact ⟨x, r, rfl⟩
      obtain ⟨v0, us2', rfl, h0⟩ : ∃ v0 us2', us2 = v0 :: us2' ∧ TieV a H10 v0 (negTie tie0) := by
        cases hT10 with
        | cons h _ => exact ⟨_, _, rfl, h⟩
      obtain ⟨pt2, pl2, pb2, ob2, xs2, rfl, k1, k2, k3, k4, k5, k6, k7⟩ := tieV_inv h0
      have tB0 := hG tie0 List.mem_cons_self
      have tS0 := tB0.s
      -- both
      refine ⟨fun σ H11 => Same H10 H11 ∧ ∃ (C : Addr) (usC : List V), LTs a C usC ((tie0 :: rs) ++ [backT tie0 e]) H11 ∧ σ = [some (.ref s0), some (.ref a), y2, some (.ref p), some (.ref B), some (.ref D), some (.ref o), some (.ref pt), y8, y9, some (.ref Ka), some (.ref pe), some (.ref C), y13, y14, y15, y16, y17, y18, y19, y20, y21, y22], ?_, fun σ H11 hM => ?_⟩
      · have bw := (tB0.bn.neg.add bne tS0.bf.1 nfe.1)
        refine ⟨_, rfl, _, rfl, Ka, _, _, _, rfl, rfl, SqL.of hKa10, atI_nat (j := 0) rfl, pt2, _, _, _, rfl, rfl, mh_sq k1, t0, _, rfl, Ka, _, _, _, rfl, rfl, SqL.of hKa10, atI_nat (j := 0) rfl, pt2, _, _, _, rfl, rfl, mh_sq k1, t1, _, rfl, pb2, pe, negF tie0.2, e, rfl, mh_sq k5, SqT.of hpe, tS0.bf.1, nfe.1, tB0.bn.neg.mono (by decide), bne.mono (by decide), fun q1 nq1 => ⟨two_line, fun q2 nq2 => ⟨small_line (by show 1 ≤ 1000; decide), fun q3 nq3 => ?_⟩⟩⟩
        have s1 := same_upd (o := trF (addL (negF tie0.2) e)) nq1
        have hV := newTieM (z := a) (tl := negT tie0.1) (f := addL (negF tie0.2) e) (s1 _ _ k2) k3 (k4.same (mh_same s1)) (mh_of (o := trF (addL (negF tie0.2) e)) upd_same (by intro o' ys z; cases z)) nq2 ⟨bd_bn bw.1 (by decide), bd_bn bw.2 (by decide)⟩
        have s2 := same_upd (o := HO.tup [V.ref pl2, .ref q1]) nq2
        have s3 := same_upd (o := HO.lst [V.ref q2]) nq3
        have s123 := s1.trans (s2.trans s3)
        have ul := lB10.len
        refine ⟨B, q3, us, [.ref q2], rfl, rfl, s123 _ _ lB10.h, upd_same, small_line (by rw [List.length_singleton]; omega), fun C nC => ?_⟩
        have s4 := same_upd (o := HO.lst (us ++ [V.ref q2])) nC
        have sA := s123.trans s4
        exact ⟨sA, C, us ++ [.ref q2], ⟨upd_same, paired_snoc8 (lB10.t.same sA) (hV.same (s3.trans s4)), new_ne (hF10.same s123) nC⟩, rfl⟩
      clear y12
      obtain ⟨s11, C, usC, lC11, rfl⟩ := hM
      have hF11 := hF10.same s11
      have lB11 := lB10.same s11
      have lD11 := lD10.same s11
      have hpe11 := s11 _ _ hpe
      clear lB10 lD10 hT10 hKa10 k1 k2 k4 k5 h0 hpe hF10 s11 H10
      have ul := lB11.len
      have tlen2 : (tie0 :: rs).length = rs.length + 1 := rfl
      -- a paper that refutes
      refine ⟨fun σ H12 => FeedOk H12 a c ∧ But a H11 H12 ∧ ∃ (Pp : Addr) (vP : List V) (at_ : Nat), LPs a Pp vP (onePap us.length) H12 ∧ at_ < us.length ∧ σ = [some (.ref s0), some (.ref a), y2, some (.ref p), some (.ref B), some (.ref D), some (.ref o), some (.ref pt), y8, y9, some (.ref Ka), some (.ref pe), some (.ref C), some (.ref Pp), some (.int (at_ : Int)), y15, y16, y17, y18, y19, y20, y21, y22], ?_, fun σ H12 hM => ?_⟩
      · refine ⟨two_line, fun p1 n1 => ?_⟩
        obtain ⟨s1, d1⟩ := dnewT (z := a) n1 (.cons (.int 1 (by decide +kernel)) (.cons (.int 1 (by decide +kernel)) .nil))
        refine ⟨two_line, fun p2 n2 => ?_⟩
        obtain ⟨s2, d2⟩ := dnewT (z := a) n2 (.cons (.int 0 (by decide +kernel)) (.cons d1 .nil))
        have s12 := s1.trans s2
        refine ⟨_, rfl, B, us, rfl, .inl (SqL.of (s12 _ _ lB11.h)), two_line, fun p3 n3 => ?_⟩
        obtain ⟨s3, d3⟩ := dnewT (z := a) n3 (.cons (.int 1 (by decide +kernel)) (.cons (.int 1 (by decide +kernel)) .nil))
        refine ⟨two_line, fun p4 n4 => ?_⟩
        obtain ⟨s4, d4⟩ := dnewT (z := a) n4 (.cons (.int (us.length : Int) (log2_mono (b := 8000) (by omega) (by decide +kernel))) (.cons d3 .nil))
        refine ⟨two_line, fun p5 n5 => ?_⟩
        have s5 := same_upd (o := HO.lst [V.ref p2, .ref p4]) n5
        have s15 := s12.trans (s3.trans (s4.trans s5))
        refine ⟨_, rfl, _, rfl, B, us, rfl, .inl (SqL.of (s15 _ _ lB11.h)), a, c, _, rfl, hF11.same s15, mid_of (by omega) (by omega), fun r H12 r0 r1 hF12 b12 => ?_⟩
        obtain ⟨k, rfl⟩ := Int.eq_ofNat_of_zero_le r0
        have lP : LPs a p5 [.ref p2, .ref p4] (onePap us.length) (upd (upd (upd (upd (upd H11 p1 (.tup [.int 1, .int 1])) p2 (.tup [.int 0, .ref p1])) p3 (.tup [.int 1, .int 1])) p4 (.tup [.int (us.length : Int), .ref p3])) p5 (.lst [.ref p2, .ref p4])) :=
          ⟨upd_same, .cons (d2.same (s3.trans (s4.trans s5))) (.cons (d4.same s5) .nil), new_ne (hF11.same (s12.trans (s3.trans s4))) n5⟩
        exact ⟨_, _, rfl, hF12, (But.of s15).trans b12, p5, _, k, lP.but (hF11.same s15) b12, by omega, rfl⟩
      clear y13 y14
      obtain ⟨hF12, b12, Pp, vP, at_, lP12, hat, rfl⟩ := hM
      have lB12 := lB11.but hF11 b12
      have lD12 := lD11.but hF11 b12
      have lC12 := lC11.but hF11 b12
      have hpe12 := NL.but hF11 b12 _ _ hpe11 (by intro ys z; cases z)
      rw [ul] at lP12
      clear lB11 lD11 lC11 hpe11 hF11 b12 H11
      have nfs : ∀ u ∈ tie0.1, Nf u.2 := fun u hu => (tS0.nf u hu).1
      have tC : ∀ t ∈ ((tie0 :: rs) ++ [backT tie0 e]), TieS t := fun t ht => by
        rcases List.mem_append.mp ht with h | h
        · exact tS t h
        · rw [List.mem_singleton.mp h]
          exact tB0.back nfe bne
      have lenC : (((tie0 :: rs) ++ [backT tie0 e])).length ≤ 7 := by
        rw [List.length_append, List.length_singleton]
        omega
      have smP := sm_pap (sh_one (tie0 :: rs).length)
      obtain ⟨x, hx⟩ : ∃ x, us[at_]? = some x := ⟨_, List.getElem?_eq_getElem hat⟩
      obtain ⟨ta, hta, hxa⟩ := paired_at lB12.t hx
      have tBa := hG ta (List.mem_of_getElem? hta)
      have ta0 : ta.1 ≠ [] := fun z => by
        have := tBa.s.ln
        rw [z] at this
        simp at this
      have bna := tBa.bn.mono (show 60 ≤ 2048 by decide)
      refine ⟨fun σ H13 => Same H12 H13 ∧ σ = [some (.ref s0), some (.ref a), y2, some (.ref p), some (.ref B), some (.ref D), some (.ref o), some (.ref pt), y8, y9, some (.ref Ka), some (.ref pe), some (.ref C), some (.ref Pp), some (.int (at_ : Int)), y15, y16, y17, y18, y19, y20, y21, y22], ?_, fun σ H13 hM => ?_⟩
      · refine ⟨_, rfl, _, rfl, C, Pp, usC, vP, ((tie0 :: rs) ++ [backT tie0 e]), ((onePap (tie0 :: rs).length).map papD), a, rfl, .inl (SqL.of lC12.h), lC12.t.dt, .inl (SqL.of lP12.h), lP12.t, sums_all tC lenC smP, fun HA sA => ?_⟩
        rw [both_ref nfs tS0.bf nfe]
        have lCA := lC12.same sA
        have lPA := lP12.same sA
        have lBA := lB12.same sA
        have hxA := hxa.same sA
        refine ⟨_, rfl, _, rfl, _, rfl, B, us, _, x, rfl, rfl, SqL.of (lBA.h), atI_nat hx, _, rfl, C, Pp, x, usC, vP, ((tie0 :: rs) ++ [backT tie0 e]), ta, ((onePap (tie0 :: rs).length).map papD), a, rfl, .inl (SqL.of lCA.h), lCA.t.dt, ⟨hxA.1, hxA.2, tBa.s.nd, bna⟩, .inl (SqL.of lPA.h), lPA.t, sums_all tC lenC smP, fun HB sB => ?_⟩
        rw [both_der nfs tS0.bf nfe]
        refine ⟨two_line, fun q1 m1 => ?_⟩
        have t1' := same_upd (o := .lst ([decide (e.1 < 0), decide (e.1 < 0)].map V.bl)) m1
        have sC := sA.trans (sB.trans t1')
        have hq1 : upd HB q1 (.lst ([decide (e.1 < 0), decide (e.1 < 0)].map V.bl)) q1 = some (.lst ([decide (e.1 < 0), decide (e.1 < 0)].map V.bl)) := upd_same
        refine ⟨_, rfl, pe, _, _, _, rfl, rfl, SqT.of (sC _ _ hpe12), t0, _, _, rfl, rfl, _, rfl, pe, _, _, _, rfl, rfl, SqT.of (sC _ _ hpe12), t0, _, _, rfl, rfl, _, rfl, ?_⟩
        by_cases ce : e.1 < 0
        · refine iteT' (decide_eq_true ce) ⟨two_line, fun q2 m2 => ?_⟩
          have t2' := same_upd (o := .lst ([decide (e.1 < 0), true].map V.bl)) m2
          have hq1' : upd HB q1 (.lst ([decide (e.1 < 0), decide (e.1 < 0)].map V.bl)) q1 = some (.lst ([decide (e.1 < 0), true].map V.bl)) := by rw [hq1, decide_eq_true ce]
          refine ⟨.ref q1, .ref q2, rfl, eqd_bls (bs := [decide (e.1 < 0), true]) (t2' _ _ hq1') upd_same (by show 2 ≤ 1000; decide), fun HD sD => ⟨_, rfl, iteF ⟨sC.trans (t2'.trans sD), rfl⟩⟩⟩
        · refine iteF' (decide_eq_false ce) ?_
          have lCC := lC12.same sC
          have lPC := lP12.same sC
          have lBC := lB12.same sC
          have hxC := hxa.same sC
          refine ⟨_, rfl, _, rfl, _, rfl, B, us, _, x, rfl, rfl, SqL.of (lBC.h), atI_nat hx, _, rfl, C, Pp, x, usC, vP, ((tie0 :: rs) ++ [backT tie0 e]), ta, ((onePap (tie0 :: rs).length).map papD), a, rfl, lCC.h, lCC.t.dt, ⟨hxC.1, hxC.2, tBa.s.nd, ta0, bna⟩, lPC.h, lPC.t, sums_ok tC lenC smP, fun HE sE => ?_⟩
          rw [both_der nfs tS0.bf nfe]
          refine ⟨two_line, fun q2 m2 => ?_⟩
          have t2' := same_upd (o := .lst ([decide (e.1 < 0), decide (e.1 < 0)].map V.bl)) m2
          refine ⟨.ref q1, .ref q2, rfl, eqd_bls (bs := [decide (e.1 < 0), decide (e.1 < 0)]) ((sE.trans t2') _ _ hq1) upd_same (by show 2 ≤ 1000; decide), fun HD sD => ⟨_, rfl, iteF ⟨sC.trans (sE.trans (t2'.trans sD)), rfl⟩⟩⟩
      obtain ⟨s13, rfl⟩ := hM
      have hF13 := hF12.same s13
      have lB13 := lB12.same s13
      have lC13 := lC12.same s13
      have lD13 := lD12.same s13
      have lP13 := lP12.same s13
      clear lB12 lC12 lD12 lP12 hpe12 hxa hF12 s13 H12
      -- bent papers
      refine ⟨_, rfl, _, rfl, two_line, fun tp ntp => ⟨tp, rfl, ⟨_, SqT.of upd_same⟩, for_tup (K := K) (a := tp) (xs := [.ref D, .ref Pp]) (fun i σ G => FeedOk G a c ∧ G tp = some (.tup [.ref D, .ref Pp]) ∧ LTs a B us (tie0 :: rs) G ∧ LTs a C usC ((tie0 :: rs) ++ [backT tie0 e]) G ∧ LPs a D vs pap G ∧ LPs a Pp vP (onePap (tie0 :: rs).length) G ∧ ∃ y15 y16 y17 y18, σ = [some (.ref s0), some (.ref a), y2, some (.ref p), some (.ref B), some (.ref D), some (.ref o), some (.ref pt), y8, y9, some (.ref Ka), some (.ref pe), some (.ref C), some (.ref Pp), some (.int (at_ : Int)), y15, y16, y17, y18, y19, y20, y21, y22]) ?_ (fun i σ G _ hq => SqT.of hq.2.1) (fun i z σ G hz hq => ?_) (fun σ G hq => ?_)⟩⟩
      · have st := same_upd (o := HO.tup [V.ref D, .ref Pp]) ntp
        exact ⟨hF13.same st, upd_same, lB13.same st, lC13.same st, lD13.same st, lP13.same st, _, _, _, _, rfl⟩
      · obtain ⟨hG0, htp, lB, lC, lD, lP, y15, y16, y17, y18, rfl⟩ := hq
        obtain ⟨S, vSs, papS, rfl, lS, shS, lnS⟩ : ∃ S vSs papS, z = .ref S ∧ LPs a S vSs papS G ∧ (∀ e ∈ papS, shP e) ∧ papS.length ≤ 20 := by
          match i, hz with
          | 0, hz =>
            cases hz
            exact ⟨D, vs, pap, rfl, lD, hsh, by omega⟩
          | 1, hz =>
            cases hz
            exact ⟨Pp, vP, _, rfl, lP, sh_one _, by show 2 ≤ 20; decide⟩
          | n + 2, hz => cases hz
        have lCn := lC.len
        refine ⟨fun σ G1 => FeedOk G1 a c ∧ But a G G1 ∧ ∃ (rb : Addr) (ub : List V) (ds : List PyData), rb ≠ a ∧ G1 rb = some (.lst ub) ∧ DtAll a G1 ub ds ∧ (∀ d ∈ ds, smD d = true ∧ layD d = true) ∧ ub.length ≤ 60 ∧ σ = [some (.ref s0), some (.ref a), y2, some (.ref p), some (.ref B), some (.ref D), some (.ref o), some (.ref pt), y8, y9, some (.ref Ka), some (.ref pe), some (.ref C), some (.ref Pp), some (.int (at_ : Int)), some (.ref S), some (.ref rb), y17, y18, y19, y20, y21, y22], ?_, fun σ G1 hM => ?_⟩
        · exact ⟨_, rfl, _, rfl, _, rfl, C, usC, rfl, .inl (SqL.of lC.h), a, c, S, vSs, papS, usC.length, rfl, hG0, lS.n, lS.h, lS.t, lnS, shS, by omega, fun rb ub ds G1 hF1 b1 nrb hrb hds hsm hub => ⟨hF1, b1, rb, ub, ds, nrb, hrb, hds, hsm, hub, rfl⟩⟩
        clear y16
        obtain ⟨hG1, bG1, rb, ub, ds, nrb, hrb, hds, hsm, hub, rfl⟩ := hM
        have htp1 := NL.but hG0 bG1 _ _ htp (by intro ys z; cases z)
        have lB1 := lB.but hG0 bG1
        have lC1 := lC.but hG0 bG1
        have lD1 := lD.but hG0 bG1
        have lP1 := lP.but hG0 bG1
        obtain ⟨ta', hta', hxa1⟩ := paired_at lB1.t hx
        have eta : ta' = ta := Option.some.inj (hta'.symm.trans hta)
        subst eta
        have smd : ∀ d ∈ ds, smD d = true := fun d hd => (hsm d hd).1
        have layd : ∀ d ∈ ds, layD d = true := fun d hd => (hsm d hd).2
        refine ⟨fun σ G2 => Same G1 G2 ∧ ∃ kp, G2 kp = some (.lst ub) ∧ σ = [some (.ref s0), some (.ref a), y2, some (.ref p), some (.ref B), some (.ref D), some (.ref o), some (.ref pt), y8, y9, some (.ref Ka), some (.ref pe), some (.ref C), some (.ref Pp), some (.int (at_ : Int)), some (.ref S), some (.ref rb), some (.ref kp), y18, y19, y20, y21, y22], ?_, fun σ G2 hM => ?_⟩
        · exact ⟨_, rfl, rb, ub, rfl, .inl (SqL.of hrb), fun kp nk => ⟨same_upd nk, kp, upd_same, rfl⟩⟩
        clear y17
        obtain ⟨s2, kp, hkp, rfl⟩ := hM
        have lB2 := lB1.same s2
        have lC2 := lC1.same s2
        have hx2 := hxa1.same s2
        have hrb2 := s2 _ _ hrb
        have hds2 := hds.same s2
        refine ⟨fun σ G3 => Same G2 G3 ∧ ∃ tq, G3 tq = some (.lst ([refB ((tie0 :: rs) ++ [backT tie0 e]) ds, derB ((tie0 :: rs) ++ [backT tie0 e]) ta' ds].map V.bl)) ∧ σ = [some (.ref s0), some (.ref a), y2, some (.ref p), some (.ref B), some (.ref D), some (.ref o), some (.ref pt), y8, y9, some (.ref Ka), some (.ref pe), some (.ref C), some (.ref Pp), some (.int (at_ : Int)), some (.ref S), some (.ref rb), some (.ref kp), some (.ref tq), y19, y20, y21, y22], ?_, fun σ G3 hM => ?_⟩
        · refine ⟨_, rfl, _, rfl, C, rb, usC, ub, ((tie0 :: rs) ++ [backT tie0 e]), ds, a, rfl, .inl (SqL.of lC2.h), lC2.t.dt, .inl (SqL.of hrb2), hds2, sums_all tC lenC smd, fun HA sA => ?_⟩
          have lCA := lC2.same sA
          have lBA := lB2.same sA
          have hxA := hx2.same sA
          refine ⟨_, rfl, _, rfl, _, rfl, B, us, _, x, rfl, rfl, SqL.of (lBA.h), atI_nat hx, _, rfl, C, rb, x, usC, ub, ((tie0 :: rs) ++ [backT tie0 e]), ta', ds, a, rfl, .inl (SqL.of lCA.h), lCA.t.dt, ⟨hxA.1, hxA.2, tBa.s.nd, bna⟩, .inl (SqL.of (sA _ _ hrb2)), hds2.same sA, sums_all tC lenC smd, fun HB sB => ⟨two_line, fun tq ntq => ⟨sA.trans (sB.trans (same_upd ntq)), tq, upd_same, rfl⟩⟩⟩
        clear y18
        obtain ⟨s3, tq, htq, rfl⟩ := hM
        have s23 := s2.trans s3
        have lB3 := lB1.same s23
        have lC3 := lC1.same s23
        have hx3 := hxa1.same s23
        have hrb3 := s23 _ _ hrb
        have hds3 := hds.same s23
        have hkp3 := s3 _ _ hkp
        have ev : PyData.eqv (.list ds) (.list ds) = true := SeqAt.eqv_refl _ (by rw [PyData.canLay0.eq_5]; exact (lay_all layd).1)
        refine ⟨fun σ G4 => Same G3 G4 ∧ σ = [some (.ref s0), some (.ref a), y2, some (.ref p), some (.ref B), some (.ref D), some (.ref o), some (.ref pt), y8, y9, some (.ref Ka), some (.ref pe), some (.ref C), some (.ref Pp), some (.int (at_ : Int)), some (.ref S), some (.ref rb), some (.ref kp), some (.ref tq), y19, y20, y21, y22], ?_, fun σ G4 hM => ?_⟩
        · refine ⟨_, rfl, _, rfl, _, rfl, C, rb, usC, ub, ((tie0 :: rs) ++ [backT tie0 e]), ds, a, rfl, lC3.h, lC3.t.dt, hrb3, hds3, sums_ok tC lenC smd, fun HA sA => ?_⟩
          have lCA := lC3.same sA
          have lBA := lB3.same sA
          have hxA := hx3.same sA
          refine ⟨_, rfl, _, rfl, _, rfl, B, us, _, x, rfl, rfl, SqL.of (lBA.h), atI_nat hx, _, rfl, C, rb, x, usC, ub, ((tie0 :: rs) ++ [backT tie0 e]), ta', ds, a, rfl, lCA.h, lCA.t.dt, ⟨hxA.1, hxA.2, tBa.s.nd, ta0, bna⟩, sA _ _ hrb3, hds3.same sA, sums_ok tC lenC smd, fun HB sB => ⟨two_line, fun q2 m2 => ?_⟩⟩
          have t2' := same_upd (o := .lst ([refB ((tie0 :: rs) ++ [backT tie0 e]) ds, derB ((tie0 :: rs) ++ [backT tie0 e]) ta' ds].map V.bl)) m2
          have sC := sA.trans (sB.trans t2')
          refine ⟨.ref tq, .ref q2, rfl, eqd_bls (bs := [refB ((tie0 :: rs) ++ [backT tie0 e]) ds, derB ((tie0 :: rs) ++ [backT tie0 e]) ta' ds]) (sC _ _ htq) upd_same (by show 2 ≤ 1000; decide), fun HD sD => ⟨_, rfl, ?_⟩⟩
          have sE := sC.trans sD
          refine iteF ⟨_, rfl, _, rfl, .list ds, .list ds, .lst (SqL.of (sE _ _ hrb3)) (DtAll.dp ds _ (hds3.same sE)), .lst (SqL.of (sE _ _ hkp3)) (DtAll.dp ds _ (hds3.same sE)), shaped_lay layd, shaped_lay layd, _, rfl, ?_⟩
          rw [ev]
          exact iteF ⟨sE, rfl⟩
        obtain ⟨s4, rfl⟩ := hM
        have lC4 := lC3.same s4
        have lB4 := lB3.same s4
        have hx4 := hx3.same s4
        have hrb4 := s4 _ _ hrb3
        have hds4 := hds3.same s4
        have htq4 := s4 _ _ htq
        refine ⟨_, rfl, C, usC, rfl, .inl ⟨SqL.of lC4.h, fun c1 m1 => ?_⟩⟩
        have u1 := same_upd (o := HO.tup usC) m1
        refine ⟨_, rfl, rb, ub, rfl, .inl ⟨SqL.of (u1 _ _ hrb4), fun r1 m2 => ?_⟩⟩
        have u2 := same_upd (o := HO.tup ub) m2
        have u12 := u1.trans u2
        refine ⟨c1, r1, usC, ub, ((tie0 :: rs) ++ [backT tie0 e]), ds, a, rfl, .inr (SqT.of (u2 _ _ upd_same)), (lC4.same u12).t.dt, .inr (SqT.of upd_same), hds4.same u12, sums_all tC lenC smd, fun HA sA => ?_⟩
        have uA := u12.trans sA
        refine ⟨_, rfl, C, usC, rfl, .inl ⟨SqL.of (uA _ _ lC4.h), fun c2 m3 => ?_⟩⟩
        have u3 := same_upd (o := HO.tup usC) m3
        have uB := uA.trans u3
        refine ⟨_, rfl, _, rfl, B, us, _, x, rfl, rfl, SqL.of (uB _ _ lB4.h), atI_nat hx, _, rfl, rb, ub, rfl, .inl ⟨SqL.of (uB _ _ hrb4), fun r2 m4 => ?_⟩⟩
        have u4 := same_upd (o := HO.tup ub) m4
        have uC := uB.trans u4
        have hxC := hx4.same uC
        refine ⟨c2, r2, x, usC, ub, ((tie0 :: rs) ++ [backT tie0 e]), ta', ds, a, rfl, .inr (SqT.of (u4 _ _ upd_same)), (lC4.same uC).t.dt, ⟨hxC.1, hxC.2, tBa.s.nd, bna⟩, .inr (SqT.of upd_same), hds4.same uC, sums_all tC lenC smd, fun HB sB => ⟨two_line, fun q2 m5 => ⟨_, rfl, ?_⟩⟩⟩
        have u5 := same_upd (o := .lst ([refB ((tie0 :: rs) ++ [backT tie0 e]) ds, derB ((tie0 :: rs) ++ [backT tie0 e]) ta' ds].map V.bl)) m5
        have uD := uC.trans (sB.trans u5)
        refine ⟨.ref q2, .ref tq, rfl, eqd_bls (bs := [refB ((tie0 :: rs) ++ [backT tie0 e]) ds, derB ((tie0 :: rs) ++ [backT tie0 e]) ta' ds]) upd_same (uD _ _ htq4) (by show 2 ≤ 1000; decide), fun HD sD => ⟨_, rfl, iteF ?_⟩⟩
        have sE := s23.trans (s4.trans (uD.trans sD))
        exact ⟨hG1.same sE, sE _ _ htp1, lB1.same sE, lC1.same sE, lD1.same sE, lP1.same sE, _, _, _, _, rfl⟩
      · obtain ⟨hG0, htp, lB, lC, lD, lP, y15, y16, y17, y18, rfl⟩ := hq
        exact ⟨hG0, _, _, _, _, _, _, _, _, _, _, _, _, _, _, _, _, _, _, _, _, _, rfl⟩
    · obtain ⟨y2, y3, y4, y5, y6, y7, y8, y9, y10, y11, y12, y13, y14, y15, y16, y17, y18, y19, y20, y21, y22, rfl⟩ := hM
      refine ⟨Nat.zero_le _, fun l1 n1 => ⟨Nat.zero_le _, fun l2 n2 => ?_⟩⟩
      have s1 := same_upd (o := HO.lst []) n1
      have s2 := same_upd (o := HO.lst []) n2
      refine ⟨l1, l2, [], [], [], [], s0, rfl, .inl (SqL.of (s2 _ _ upd_same)), .nil, .inl (SqL.of upd_same), .nil, sums_all (ties := []) (fun t h => by cases h) (by decide) (fun d h => by cases h), fun H3 s3 => ?_⟩
      rw [show refB [] [] = false by decide +kernel]
      refine ⟨_, _, rfl, rfl, _, rfl, iteT' rfl ?_⟩
      have ex : (.tuple [.str (Str.ofString "x"), frP (1, 1)] : PyData) = tmP ([120], (1, 1)) := by
        rw [show (Str.ofString "x" : Str) = SX.S [120] by decide +kernel]
      have xl : (Str.ofString "x" : Str).length ≤ 1000 := by decide +kernel
      have b1 : (1 : Int).natAbs.log2 < 4096 := by decide +kernel
      have b0 : (0 : Int).natAbs.log2 < 4096 := by decide +kernel
      refine ⟨two_line, fun p1 m1 => ?_⟩
      obtain ⟨t1', d1⟩ := dnewT (z := s0) m1 (.cons (.int 1 b1) (.cons (.int 1 b1) .nil))
      refine ⟨two_line, fun p2 m2 => ?_⟩
      obtain ⟨t2', d2⟩ := dnewT (z := s0) m2 (.cons (.str (Str.ofString "x") xl) (.cons d1 .nil))
      refine ⟨small_line (by show 1 ≤ 1000; decide), fun p3 o3 m3 od3 => ?_⟩
      have t3' := same_upd (o := HO.frz o3 (.tup [V.ref p2])) m3
      refine ⟨two_line, fun p4 m4 => ?_⟩
      have t4' := same_upd (o := HO.tup [V.int 0, .int 1]) m4
      refine ⟨two_line, fun p5 m5 => ?_⟩
      have hV1 := newTie (z := s0) (tl := [([120], (1, 1))]) (f := (0, 1)) (t4' _ _ upd_same) od3 (.cons (ex ▸ d2.same (t3'.trans t4')) .nil) upd_same m5 ⟨b0, b1⟩
      have t5' := same_upd (o := HO.tup [V.ref p3, .ref p4]) m5
      refine ⟨small_line (by show 1 ≤ 1000; decide), fun p6 m6 => ?_⟩
      have t6' := same_upd (o := HO.lst [V.ref p5]) m6
      refine ⟨two_line, fun p7 m7 => ?_⟩
      obtain ⟨t7', d7⟩ := dnewT (z := s0) m7 (.cons (.int 1 b1) (.cons (.int 1 b1) .nil))
      refine ⟨two_line, fun p8 m8 => ?_⟩
      obtain ⟨t8', d8⟩ := dnewT (z := s0) m8 (.cons (.str (Str.ofString "x") xl) (.cons d7 .nil))
      refine ⟨small_line (by show 1 ≤ 1000; decide), fun p9 o9 m9 od9 => ?_⟩
      have t9' := same_upd (o := HO.frz o9 (.tup [V.ref p8])) m9
      refine ⟨two_line, fun p10 m10 => ?_⟩
      have t10' := same_upd (o := HO.tup [V.int 1, .int 1]) m10
      refine ⟨two_line, fun p11 m11 => ?_⟩
      have hV2 := newTie (z := s0) (tl := [([120], (1, 1))]) (f := (1, 1)) (t10' _ _ upd_same) od9 (.cons (ex ▸ d8.same (t9'.trans t10')) .nil) upd_same m11 ⟨b1, b1⟩
      have t11' := same_upd (o := HO.tup [V.ref p9, .ref p10]) m11
      refine ⟨two_line, fun p12 m12 => ?_⟩
      obtain ⟨t12', d12⟩ := dnewT (z := s0) m12 (.cons (.int 1 b1) (.cons (.int 1 b1) .nil))
      refine ⟨two_line, fun p13 m13 => ?_⟩
      obtain ⟨t13', d13⟩ := dnewT (z := s0) m13 (.cons (.int 0 b0) (.cons d12 .nil))
      refine ⟨small_line (by show 1 ≤ 1000; decide), fun p14 m14 => ?_⟩
      have t14' := same_upd (o := HO.lst [V.ref p13]) m14
      have e614 := t7'.trans (t8'.trans (t9'.trans (t10'.trans (t11'.trans (t12'.trans (t13'.trans t14'))))))
      have e514 := t6'.trans e614
      have e1114 := t12'.trans (t13'.trans t14')
      have tS : ∀ t ∈ ([([([120], (1, 1))], (0, 1))] : List Tie), TieS t := fun t ht => by
        rw [List.mem_singleton.mp ht]
        refine ⟨fun u hu => ?_, nf_01, ⟨Nat.two_pow_pos _, by show 1 < 2 ^ 90; decide⟩, .inl rfl, (List.pairwise_singleton _ _)⟩
        rw [List.mem_singleton.mp hu]
        exact small_fr (by decide)
      refine ⟨p6, p14, .ref p11, [.ref p5], [.ref p13], [([([120], (1, 1))], (0, 1))], ([([120], (1, 1))], (1, 1)), [papD (0, (1, 1))], s0, rfl, .inl (SqL.of (e614 _ _ upd_same)), TVs.dt (.cons (hV1.same e514) .nil), ⟨(hV2.same e1114).1, (hV2.same e1114).2, (List.pairwise_singleton _ _), ⟨by show 1 < 2 ^ 2048; exact Nat.one_lt_two_pow (by decide), by show 1 < 2 ^ 2048; exact Nat.one_lt_two_pow (by decide)⟩⟩, .inl (SqL.of upd_same), .cons (d13.same t14') .nil, sums_all tS (by decide) (sm_pap (pap := [(0, (1, 1))]) fun e he => by rw [List.mem_singleton.mp he]; exact ⟨by show (0 : Int) < 1; decide, ⟨by show (1 : Int).natAbs < 2 ^ 20; decide, by show (1 : Int).natAbs < 2 ^ 20; decide⟩⟩), fun HZ sZ => ?_⟩
      rw [show derB [([([120], (1, 1))], (0, 1))] ([([120], (1, 1))], (1, 1)) [papD (0, (1, 1))] = true by decide +kernel]
      exact ⟨_, _, rfl, rfl, q _⟩
end
theorem all_mk {l : PySem.W.OpenLaw} {w : World} {K : PySem.W.Frag} {h : Heap} {mg : Str → Option Value} {fl f8 f9 f10 f11 f12 f13 f14 f15 f17 f18 f19 f20 f21 f23 f24 f25 f26 f27 f28 f29 f30 f31 f32 f33 f34 f35 f36 f37 f38 f39 f40 f41 f42 f43 f44 f45 fZ_ZERO fT11 : Addr} (X : K.In h) (G : h.Ns mainGlobals mg) (hfa : mg "law" = some (.ref fl))
    {od8 an8 od9 an9 od10 an10 od11 an11 od12 an12 od13 an13 od14 an14 od15 an15 od17 an17 od18 an18 od19 an19 od20 an20 od21 an21 od23 an23 od24 an24 od25 an25 od26 an26 od27 an27 od28 an28 od29 an29 od30 an30 od31 an31 od32 an32 od33 an33 od34 an34 od35 an35 od36 an36 od37 an37 od38 an38 od39 an39 od40 an40 od41 an41 od42 an42 od43 an43 od44 an44 od45 an45 : Option Addr}
    {sl8 sl9 sl10 sl11 sl12 sl13 sl14 sl15 sl17 sl18 sl19 sl20 sl21 sl23 sl24 sl25 sl26 sl27 sl28 sl29 sl30 sl31 sl32 sl33 sl34 sl35 sl36 sl37 sl38 sl39 sl40 sl41 sl42 sl43 sl44 sl45 : Array (Option Value)}
    {oc8 kV8 dc8 pm8 cd8 ct8 oc9 kV9 dc9 pm9 cd9 ct9 oc10 kV10 dc10 pm10 cd10 ct10 oc11 kV11 dc11 pm11 cd11 ct11 oc12 kV12 dc12 pm12 cd12 ct12 oc13 kV13 dc13 pm13 cd13 ct13 oc14 kV14 dc14 pm14 cd14 ct14 oc15 kV15 dc15 pm15 cd15 ct15 oc17 kV17 dc17 pm17 cd17 ct17 oc18 kV18 dc18 pm18 cd18 ct18 oc19 kV19 dc19 pm19 cd19 ct19 oc20 kV20 dc20 pm20 cd20 ct20 oc21 kV21 dc21 pm21 cd21 ct21 oc23 kV23 dc23 pm23 cd23 ct23 oc24 kV24 dc24 pm24 cd24 ct24 oc25 kV25 dc25 pm25 cd25 ct25 oc26 kV26 dc26 pm26 cd26 ct26 oc27 kV27 dc27 pm27 cd27 ct27 oc28 kV28 dc28 pm28 cd28 ct28 oc29 kV29 dc29 pm29 cd29 ct29 oc30 kV30 dc30 pm30 cd30 ct30 oc31 kV31 dc31 pm31 cd31 ct31 oc32 kV32 dc32 pm32 cd32 ct32 oc33 kV33 dc33 pm33 cd33 ct33 oc34 kV34 dc34 pm34 cd34 ct34 oc35 kV35 dc35 pm35 cd35 ct35 oc36 kV36 dc36 pm36 cd36 ct36 oc37 kV37 dc37 pm37 cd37 ct37 oc38 kV38 dc38 pm38 cd38 ct38 oc39 kV39 dc39 pm39 cd39 ct39 oc40 kV40 dc40 pm40 cd40 ct40 oc41 kV41 dc41 pm41 cd41 ct41 oc42 kV42 dc42 pm42 cd42 ct42 oc43 kV43 dc43 pm43 cd43 ct43 oc44 kV44 dc44 pm44 cd44 ct44 oc45 kV45 dc45 pm45 cd45 ct45 : Value}
    {ocT11 : Value} {odT11 : Option Addr} {nT11 : Nat} {slT11 : Array (Option Value)} {tk11_0 : Tok}
    (t11 : K.lookup fT11 = some ⟨ocT11, odT11, .seq ([Value.int 1 tk11_0] : List Value).toArray nT11, slT11⟩)
    (a8 : PySem.W.nsIn K mainGlobals "is_whole" = some (some (.ref f8))) (l8 : K.lookup f8 = some ⟨oc8, od8, .func (PySem.W.fnOf "is_whole" "is_whole" (defArgs s_p_is_whole) (defBody s_p_is_whole) (defScope s_p_is_whole) .none kV8 dc8 pm8 an8 cd8 ct8), sl8⟩) (c8 : PySem.W.codeIn K cd8 "is_whole" = true) (k8 : PySem.W.keepIn K (.ref f8) = true)
    (a9 : PySem.W.nsIn K mainGlobals "shortened" = some (some (.ref f9))) (l9 : K.lookup f9 = some ⟨oc9, od9, .func (PySem.W.fnOf "shortened" "shortened" (defArgs s_p_shortened) (defBody s_p_shortened) (defScope s_p_shortened) .none kV9 dc9 pm9 an9 cd9 ct9), sl9⟩) (c9 : PySem.W.codeIn K cd9 "shortened" = true) (k9 : PySem.W.keepIn K (.ref f9) = true)
    (a10 : PySem.W.nsIn K mainGlobals "common_divisor" = some (some (.ref f10))) (l10 : K.lookup f10 = some ⟨oc10, od10, .func (PySem.W.fnOf "common_divisor" "common_divisor" (defArgs s_p_common_divisor) (defBody s_p_common_divisor) (defScope s_p_common_divisor) .none kV10 dc10 pm10 an10 cd10 ct10), sl10⟩) (c10 : PySem.W.codeIn K cd10 "common_divisor" = true) (k10 : PySem.W.keepIn K (.ref f10) = true)
    (a11 : PySem.W.nsIn K mainGlobals "ratio" = some (some (.ref f11))) (l11 : K.lookup f11 = some ⟨oc11, od11, .func (PySem.W.fnOf "ratio" "ratio" (defArgs s_p_ratio) (defBody s_p_ratio) (defScope s_p_ratio) (.ref fT11) kV11 dc11 pm11 an11 cd11 ct11), sl11⟩) (c11 : PySem.W.codeIn K cd11 "ratio" = true) (k11 : PySem.W.keepIn K (.ref f11) = true)
    (a12 : PySem.W.nsIn K mainGlobals "is_ratio" = some (some (.ref f12))) (l12 : K.lookup f12 = some ⟨oc12, od12, .func (PySem.W.fnOf "is_ratio" "is_ratio" (defArgs s_p_is_ratio) (defBody s_p_is_ratio) (defScope s_p_is_ratio) .none kV12 dc12 pm12 an12 cd12 ct12), sl12⟩) (c12 : PySem.W.codeIn K cd12 "is_ratio" = true) (k12 : PySem.W.keepIn K (.ref f12) = true)
    (a13 : PySem.W.nsIn K mainGlobals "add" = some (some (.ref f13))) (l13 : K.lookup f13 = some ⟨oc13, od13, .func (PySem.W.fnOf "add" "add" (defArgs s_p_add) (defBody s_p_add) (defScope s_p_add) .none kV13 dc13 pm13 an13 cd13 ct13), sl13⟩) (c13 : PySem.W.codeIn K cd13 "add" = true) (k13 : PySem.W.keepIn K (.ref f13) = true)
    (a14 : PySem.W.nsIn K mainGlobals "multiply" = some (some (.ref f14))) (l14 : K.lookup f14 = some ⟨oc14, od14, .func (PySem.W.fnOf "multiply" "multiply" (defArgs s_p_multiply) (defBody s_p_multiply) (defScope s_p_multiply) .none kV14 dc14 pm14 an14 cd14 ct14), sl14⟩) (c14 : PySem.W.codeIn K cd14 "multiply" = true) (k14 : PySem.W.keepIn K (.ref f14) = true)
    (a15 : PySem.W.nsIn K mainGlobals "is_less" = some (some (.ref f15))) (l15 : K.lookup f15 = some ⟨oc15, od15, .func (PySem.W.fnOf "is_less" "is_less" (defArgs s_p_is_less) (defBody s_p_is_less) (defScope s_p_is_less) .none kV15 dc15 pm15 an15 cd15 ct15), sl15⟩) (c15 : PySem.W.codeIn K cd15 "is_less" = true) (k15 : PySem.W.keepIn K (.ref f15) = true)
    (a17 : PySem.W.nsIn K mainGlobals "is_share" = some (some (.ref f17))) (l17 : K.lookup f17 = some ⟨oc17, od17, .func (PySem.W.fnOf "is_share" "is_share" (defArgs s_p_is_share) (defBody s_p_is_share) (defScope s_p_is_share) .none kV17 dc17 pm17 an17 cd17 ct17), sl17⟩) (c17 : PySem.W.codeIn K cd17 "is_share" = true) (k17 : PySem.W.keepIn K (.ref f17) = true)
    (a18 : PySem.W.nsIn K mainGlobals "is_paper" = some (some (.ref f18))) (l18 : K.lookup f18 = some ⟨oc18, od18, .func (PySem.W.fnOf "is_paper" "is_paper" (defArgs s_p_is_paper) (defBody s_p_is_paper) (defScope s_p_is_paper) .none kV18 dc18 pm18 an18 cd18 ct18), sl18⟩) (c18 : PySem.W.codeIn K cd18 "is_paper" = true) (k18 : PySem.W.keepIn K (.ref f18) = true)
    (a19 : PySem.W.nsIn K mainGlobals "total" = some (some (.ref f19))) (l19 : K.lookup f19 = some ⟨oc19, od19, .func (PySem.W.fnOf "total" "total" (defArgs s_p_total) (defBody s_p_total) (defScope s_p_total) .none kV19 dc19 pm19 an19 cd19 ct19), sl19⟩) (c19 : PySem.W.codeIn K cd19 "total" = true) (k19 : PySem.W.keepIn K (.ref f19) = true)
    (a20 : PySem.W.nsIn K mainGlobals "refutes" = some (some (.ref f20))) (l20 : K.lookup f20 = some ⟨oc20, od20, .func (PySem.W.fnOf "refutes" "refutes" (defArgs s_p_refutes) (defBody s_p_refutes) (defScope s_p_refutes) .none kV20 dc20 pm20 an20 cd20 ct20), sl20⟩) (c20 : PySem.W.codeIn K cd20 "refutes" = true) (k20 : PySem.W.keepIn K (.ref f20) = true)
    (a21 : PySem.W.nsIn K mainGlobals "derives" = some (some (.ref f21))) (l21 : K.lookup f21 = some ⟨oc21, od21, .func (PySem.W.fnOf "derives" "derives" (defArgs s_p_derives) (defBody s_p_derives) (defScope s_p_derives) .none kV21 dc21 pm21 an21 cd21 ct21), sl21⟩) (c21 : PySem.W.codeIn K cd21 "derives" = true) (k21 : PySem.W.keepIn K (.ref f21) = true)
    (a23 : PySem.W.nsIn K mainGlobals "_law_feed" = some (some (.ref f23))) (l23 : K.lookup f23 = some ⟨oc23, od23, .func (PySem.W.fnOf "_law_feed" "_law_feed" (defArgs s_feed) (defBody s_feed) (defScope s_feed) .none kV23 dc23 pm23 an23 cd23 ct23), sl23⟩) (c23 : PySem.W.codeIn K cd23 "_law_feed" = true) (k23 : PySem.W.keepIn K (.ref f23) = true)
    (a24 : PySem.W.nsIn K mainGlobals "_law_draw" = some (some (.ref f24))) (l24 : K.lookup f24 = some ⟨oc24, od24, .func (PySem.W.fnOf "_law_draw" "_law_draw" (defArgs s_draw) (defBody s_draw) (defScope s_draw) .none kV24 dc24 pm24 an24 cd24 ct24), sl24⟩) (c24 : PySem.W.codeIn K cd24 "_law_draw" = true) (k24 : PySem.W.keepIn K (.ref f24) = true)
    (a25 : PySem.W.nsIn K mainGlobals "_law_any" = some (some (.ref f25))) (l25 : K.lookup f25 = some ⟨oc25, od25, .func (PySem.W.fnOf "_law_any" "_law_any" (defArgs s_any) (defBody s_any) (defScope s_any) .none kV25 dc25 pm25 an25 cd25 ct25), sl25⟩) (c25 : PySem.W.codeIn K cd25 "_law_any" = true) (k25 : PySem.W.keepIn K (.ref f25) = true)
    (a26 : PySem.W.nsIn K mainGlobals "_law_same" = some (some (.ref f26))) (l26 : K.lookup f26 = some ⟨oc26, od26, .func (PySem.W.fnOf "_law_same" "_law_same" (defArgs s_same) (defBody s_same) (defScope s_same) .none kV26 dc26 pm26 an26 cd26 ct26), sl26⟩) (c26 : PySem.W.codeIn K cd26 "_law_same" = true) (k26 : PySem.W.keepIn K (.ref f26) = true)
    (a27 : PySem.W.nsIn K mainGlobals "_law_gcd" = some (some (.ref f27))) (l27 : K.lookup f27 = some ⟨oc27, od27, .func (PySem.W.fnOf "_law_gcd" "_law_gcd" (defArgs s_gcd) (defBody s_gcd) (defScope s_gcd) .none kV27 dc27 pm27 an27 cd27 ct27), sl27⟩) (c27 : PySem.W.codeIn K cd27 "_law_gcd" = true) (k27 : PySem.W.keepIn K (.ref f27) = true)
    (a28 : PySem.W.nsIn K mainGlobals "_law_low" = some (some (.ref f28))) (l28 : K.lookup f28 = some ⟨oc28, od28, .func (PySem.W.fnOf "_law_low" "_law_low" (defArgs s_low) (defBody s_low) (defScope s_low) .none kV28 dc28 pm28 an28 cd28 ct28), sl28⟩) (c28 : PySem.W.codeIn K cd28 "_law_low" = true) (k28 : PySem.W.keepIn K (.ref f28) = true)
    (a29 : PySem.W.nsIn K mainGlobals "_law_plus" = some (some (.ref f29))) (l29 : K.lookup f29 = some ⟨oc29, od29, .func (PySem.W.fnOf "_law_plus" "_law_plus" (defArgs s_plus) (defBody s_plus) (defScope s_plus) .none kV29 dc29 pm29 an29 cd29 ct29), sl29⟩) (c29 : PySem.W.codeIn K cd29 "_law_plus" = true) (k29 : PySem.W.keepIn K (.ref f29) = true)
    (a30 : PySem.W.nsIn K mainGlobals "_law_minus" = some (some (.ref f30))) (l30 : K.lookup f30 = some ⟨oc30, od30, .func (PySem.W.fnOf "_law_minus" "_law_minus" (defArgs s_minus) (defBody s_minus) (defScope s_minus) .none kV30 dc30 pm30 an30 cd30 ct30), sl30⟩) (c30 : PySem.W.codeIn K cd30 "_law_minus" = true) (k30 : PySem.W.keepIn K (.ref f30) = true)
    (a31 : PySem.W.nsIn K mainGlobals "_law_by" = some (some (.ref f31))) (l31 : K.lookup f31 = some ⟨oc31, od31, .func (PySem.W.fnOf "_law_by" "_law_by" (defArgs s_by) (defBody s_by) (defScope s_by) .none kV31 dc31 pm31 an31 cd31 ct31), sl31⟩) (c31 : PySem.W.codeIn K cd31 "_law_by" = true) (k31 : PySem.W.keepIn K (.ref f31) = true)
    (a32 : PySem.W.nsIn K mainGlobals "_law_under" = some (some (.ref f32))) (l32 : K.lookup f32 = some ⟨oc32, od32, .func (PySem.W.fnOf "_law_under" "_law_under" (defArgs s_under) (defBody s_under) (defScope s_under) .none kV32 dc32 pm32 an32 cd32 ct32), sl32⟩) (c32 : PySem.W.codeIn K cd32 "_law_under" = true) (k32 : PySem.W.keepIn K (.ref f32) = true)
    (a33 : PySem.W.nsIn K mainGlobals "_law_part" = some (some (.ref f33))) (l33 : K.lookup f33 = some ⟨oc33, od33, .func (PySem.W.fnOf "_law_part" "_law_part" (defArgs s_part) (defBody s_part) (defScope s_part) .none kV33 dc33 pm33 an33 cd33 ct33), sl33⟩) (c33 : PySem.W.codeIn K cd33 "_law_part" = true) (k33 : PySem.W.keepIn K (.ref f33) = true)
    (a34 : PySem.W.nsIn K mainGlobals "_law_rate" = some (some (.ref f34))) (l34 : K.lookup f34 = some ⟨oc34, od34, .func (PySem.W.fnOf "_law_rate" "_law_rate" (defArgs s_rate) (defBody s_rate) (defScope s_rate) .none kV34 dc34 pm34 an34 cd34 ct34), sl34⟩) (c34 : PySem.W.codeIn K cd34 "_law_rate" = true) (k34 : PySem.W.keepIn K (.ref f34) = true)
    (a35 : PySem.W.nsIn K mainGlobals "_law_words" = some (some (.ref f35))) (l35 : K.lookup f35 = some ⟨oc35, od35, .func (PySem.W.fnOf "_law_words" "_law_words" (defArgs s_words) (defBody s_words) (defScope s_words) .none kV35 dc35 pm35 an35 cd35 ct35), sl35⟩) (c35 : PySem.W.codeIn K cd35 "_law_words" = true) (k35 : PySem.W.keepIn K (.ref f35) = true)
    (a36 : PySem.W.nsIn K mainGlobals "_law_total" = some (some (.ref f36))) (l36 : K.lookup f36 = some ⟨oc36, od36, .func (PySem.W.fnOf "_law_total" "_law_total" (defArgs s_total) (defBody s_total) (defScope s_total) .none kV36 dc36 pm36 an36 cd36 ct36), sl36⟩) (c36 : PySem.W.codeIn K cd36 "_law_total" = true) (k36 : PySem.W.keepIn K (.ref f36) = true)
    (a37 : PySem.W.nsIn K mainGlobals "_law_point" = some (some (.ref f37))) (l37 : K.lookup f37 = some ⟨oc37, od37, .func (PySem.W.fnOf "_law_point" "_law_point" (defArgs s_point) (defBody s_point) (defScope s_point) .none kV37 dc37 pm37 an37 cd37 ct37), sl37⟩) (c37 : PySem.W.codeIn K cd37 "_law_point" = true) (k37 : PySem.W.keepIn K (.ref f37) = true)
    (a38 : PySem.W.nsIn K mainGlobals "_law_terms" = some (some (.ref f38))) (l38 : K.lookup f38 = some ⟨oc38, od38, .func (PySem.W.fnOf "_law_terms" "_law_terms" (defArgs s_terms) (defBody s_terms) (defScope s_terms) .none kV38 dc38 pm38 an38 cd38 ct38), sl38⟩) (c38 : PySem.W.codeIn K cd38 "_law_terms" = true) (k38 : PySem.W.keepIn K (.ref f38) = true)
    (a39 : PySem.W.nsIn K mainGlobals "_law_ties" = some (some (.ref f39))) (l39 : K.lookup f39 = some ⟨oc39, od39, .func (PySem.W.fnOf "_law_ties" "_law_ties" (defArgs s_ties) (defBody s_ties) (defScope s_ties) .none kV39 dc39 pm39 an39 cd39 ct39), sl39⟩) (c39 : PySem.W.codeIn K cd39 "_law_ties" = true) (k39 : PySem.W.keepIn K (.ref f39) = true)
    (a40 : PySem.W.nsIn K mainGlobals "_law_is_part" = some (some (.ref f40))) (l40 : K.lookup f40 = some ⟨oc40, od40, .func (PySem.W.fnOf "_law_is_part" "_law_is_part" (defArgs s_is_part) (defBody s_is_part) (defScope s_is_part) .none kV40 dc40 pm40 an40 cd40 ct40), sl40⟩) (c40 : PySem.W.codeIn K cd40 "_law_is_part" = true) (k40 : PySem.W.keepIn K (.ref f40) = true)
    (a41 : PySem.W.nsIn K mainGlobals "_law_summed" = some (some (.ref f41))) (l41 : K.lookup f41 = some ⟨oc41, od41, .func (PySem.W.fnOf "_law_summed" "_law_summed" (defArgs s_summed) (defBody s_summed) (defScope s_summed) .none kV41 dc41 pm41 an41 cd41 ct41), sl41⟩) (c41 : PySem.W.codeIn K cd41 "_law_summed" = true) (k41 : PySem.W.keepIn K (.ref f41) = true)
    (a42 : PySem.W.nsIn K mainGlobals "_law_refuted" = some (some (.ref f42))) (l42 : K.lookup f42 = some ⟨oc42, od42, .func (PySem.W.fnOf "_law_refuted" "_law_refuted" (defArgs s_refuted) (defBody s_refuted) (defScope s_refuted) .none kV42 dc42 pm42 an42 cd42 ct42), sl42⟩) (c42 : PySem.W.codeIn K cd42 "_law_refuted" = true) (k42 : PySem.W.keepIn K (.ref f42) = true)
    (a43 : PySem.W.nsIn K mainGlobals "_law_derived" = some (some (.ref f43))) (l43 : K.lookup f43 = some ⟨oc43, od43, .func (PySem.W.fnOf "_law_derived" "_law_derived" (defArgs s_derived) (defBody s_derived) (defScope s_derived) .none kV43 dc43 pm43 an43 cd43 ct43), sl43⟩) (c43 : PySem.W.codeIn K cd43 "_law_derived" = true) (k43 : PySem.W.keepIn K (.ref f43) = true)
    (a44 : PySem.W.nsIn K mainGlobals "_law_bent_paper" = some (some (.ref f44))) (l44 : K.lookup f44 = some ⟨oc44, od44, .func (PySem.W.fnOf "_law_bent_paper" "_law_bent_paper" (defArgs s_bent_paper) (defBody s_bent_paper) (defScope s_bent_paper) .none kV44 dc44 pm44 an44 cd44 ct44), sl44⟩) (c44 : PySem.W.codeIn K cd44 "_law_bent_paper" = true) (k44 : PySem.W.keepIn K (.ref f44) = true)
    (a45 : PySem.W.nsIn K mainGlobals "law" = some (some (.ref f45))) (l45 : K.lookup f45 = some ⟨oc45, od45, .func (PySem.W.fnOf "law" "law" (defArgs s_p_law) (defBody s_p_law) (defScope s_p_law) .none kV45 dc45 pm45 an45 cd45 ct45), sl45⟩) (c45 : PySem.W.codeIn K cd45 "law" = true) (k45 : PySem.W.keepIn K (.ref f45) = true)
    (z_int : PySem.W.nsIn K mainGlobals "int" = some none)
    (z_len : PySem.W.nsIn K mainGlobals "len" = some none)
    (z_abs : PySem.W.nsIn K mainGlobals "abs" = some none)
    (z_range : PySem.W.nsIn K mainGlobals "range" = some none)
    (z_zip : PySem.W.nsIn K mainGlobals "zip" = some none)
    (z_all : PySem.W.nsIn K mainGlobals "all" = some none)
    (z_isinstance : PySem.W.nsIn K mainGlobals "isinstance" = some none)
    (z_bool : PySem.W.nsIn K mainGlobals "bool" = some none)
    (z_str : PySem.W.nsIn K mainGlobals "str" = some none)
    (z_tuple : PySem.W.nsIn K mainGlobals "tuple" = some none)
    (z_list : PySem.W.nsIn K mainGlobals "list" = some none)
    (z_dict : PySem.W.nsIn K mainGlobals "dict" = some none)
    (z_sorted : PySem.W.nsIn K mainGlobals "sorted" = some none)
    (z_set : PySem.W.nsIn K mainGlobals "set" = some none)
    {odZ_ZERO : Option Addr} {nZ_ZERO : Nat} {slZ_ZERO : Array (Option Value)} {tz_ZERO0 tz_ZERO1 : Tok} (zc_ZERO : PySem.W.nsIn K mainGlobals "ZERO" = some (some (.ref fZ_ZERO))) (lz_ZERO : K.lookup fZ_ZERO = some ⟨.type "tuple", odZ_ZERO, .seq ([Value.int 0 tz_ZERO0, Value.int 1 tz_ZERO1] : List Value).toArray nZ_ZERO, slZ_ZERO⟩)
    {tk_LONG : Tok} (zc_LONG : PySem.W.nsIn K mainGlobals "LONG" = some (some (Value.int 4096 tk_LONG)))
    : ∃ fd : FuncData, (∀ (s : Shared) (v : Value), BindsTo s fd ⟨[v], []⟩ [("_law_script", v)]) ∧ ∀ base : Heap, K.In base → base.Ns mainGlobals mg → FnOk l.prog w K mg base CX0 8 fl fd ["_law_script"] (spLaw K) := by
  have e := hfa.symm.trans (PySem.W.mg_of X G a45)
  cases e
  have F8 := fun_mk (st := s_p_is_whole) l8 c8 k8
  have F9 := fun_mk (st := s_p_shortened) l9 c9 k9
  have F10 := fun_mk (st := s_p_common_divisor) l10 c10 k10
  have F11 : FunD K "ratio" "ratio" (defArgs s_p_ratio) (defBody s_p_ratio) (defScope s_p_ratio) [V.int 1] [] f11 (PySem.W.fnOf "ratio" "ratio" (defArgs s_p_ratio) (defBody s_p_ratio) (defScope s_p_ratio) (.ref fT11) kV11 dc11 pm11 an11 cd11 ct11) := ⟨⟨_, _, _, _, _, _, _, _, _, _, rfl, l11, c11, .inr ⟨by simp, _, _, _, _, rfl, t11, rfl, (.cons ⟨_, rfl⟩ .nil)⟩, .inl rfl⟩, k11⟩
  have Bn11 : Binds K (PySem.W.fnOf "ratio" "ratio" (defArgs s_p_ratio) (defBody s_p_ratio) (defScope s_p_ratio) (.ref fT11) kV11 dc11 pm11 an11 cd11 ct11) ["top", "under"] [] := by
    obtain ⟨ds, v, b⟩ := F11.binds1 (ps := ["top", "under"]) 2 1 (by simp) rfl fun T kV doc pm an cdv ct us its h1 h2 => match us, its, h1, h2 with | [_, _], [_], _, _ => ⟨_, rfl, rfl⟩
    cases v
    exact b
  have Bd11 := F11.binds1 (ps := ["top", "under"]) 1 0 (by simp) rfl fun T kV doc pm an cdv ct us its h1 h2 => match us, its, h1, h2 with | [_], [_], _, _ => ⟨_, rfl, rfl⟩
  have F12 := fun_mk (st := s_p_is_ratio) l12 c12 k12
  have F13 := fun_mk (st := s_p_add) l13 c13 k13
  have F14 := fun_mk (st := s_p_multiply) l14 c14 k14
  have F15 := fun_mk (st := s_p_is_less) l15 c15 k15
  have F17 := fun_mk (st := s_p_is_share) l17 c17 k17
  have F18 := fun_mk (st := s_p_is_paper) l18 c18 k18
  have F19 := fun_mk (st := s_p_total) l19 c19 k19
  have F20 := fun_mk (st := s_p_refutes) l20 c20 k20
  have F21 := fun_mk (st := s_p_derives) l21 c21 k21
  have F23 := fun_mk (st := s_feed) l23 c23 k23
  have F24 := fun_mk (st := s_draw) l24 c24 k24
  have F25 := fun_mk (st := s_any) l25 c25 k25
  have F26 := fun_mk (st := s_same) l26 c26 k26
  have F27 := fun_mk (st := s_gcd) l27 c27 k27
  have F28 := fun_mk (st := s_low) l28 c28 k28
  have F29 := fun_mk (st := s_plus) l29 c29 k29
  have F30 := fun_mk (st := s_minus) l30 c30 k30
  have F31 := fun_mk (st := s_by) l31 c31 k31
  have F32 := fun_mk (st := s_under) l32 c32 k32
  have F33 := fun_mk (st := s_part) l33 c33 k33
  have F34 := fun_mk (st := s_rate) l34 c34 k34
  have F35 := fun_mk (st := s_words) l35 c35 k35
  have F36 := fun_mk (st := s_total) l36 c36 k36
  have F37 := fun_mk (st := s_point) l37 c37 k37
  have F38 := fun_mk (st := s_terms) l38 c38 k38
  have F39 := fun_mk (st := s_ties) l39 c39 k39
  have F40 := fun_mk (st := s_is_part) l40 c40 k40
  have F41 := fun_mk (st := s_summed) l41 c41 k41
  have F42 := fun_mk (st := s_refuted) l42 c42 k42
  have F43 := fun_mk (st := s_derived) l43 c43 k43
  have F44 := fun_mk (st := s_bent_paper) l44 c44 k44
  have F45 := fun_mk (st := s_p_law) l45 c45 k45
  have T : Txt K mg (fun i => match i with
      | 8 => f8
      | 9 => f9
      | 10 => f10
      | 11 => f11
      | 12 => f12
      | 13 => f13
      | 14 => f14
      | 15 => f15
      | 17 => f17
      | 18 => f18
      | 19 => f19
      | 20 => f20
      | 21 => f21
      | 23 => f23
      | 24 => f24
      | 25 => f25
      | 26 => f26
      | 27 => f27
      | 28 => f28
      | 29 => f29
      | 30 => f30
      | 31 => f31
      | 32 => f32
      | 33 => f33
      | 34 => f34
      | 35 => f35
      | 36 => f36
      | 37 => f37
      | 38 => f38
      | 39 => f39
      | 40 => f40
      | 41 => f41
      | 42 => f42
      | 43 => f43
      | 44 => f44
      | 45 => fl
      | 2000 => fZ_ZERO
      | _ => fl) (fun i => match i with
      | 8 => (PySem.W.fnOf "is_whole" "is_whole" (defArgs s_p_is_whole) (defBody s_p_is_whole) (defScope s_p_is_whole) .none kV8 dc8 pm8 an8 cd8 ct8)
      | 9 => (PySem.W.fnOf "shortened" "shortened" (defArgs s_p_shortened) (defBody s_p_shortened) (defScope s_p_shortened) .none kV9 dc9 pm9 an9 cd9 ct9)
      | 10 => (PySem.W.fnOf "common_divisor" "common_divisor" (defArgs s_p_common_divisor) (defBody s_p_common_divisor) (defScope s_p_common_divisor) .none kV10 dc10 pm10 an10 cd10 ct10)
      | 11 => (PySem.W.fnOf "ratio" "ratio" (defArgs s_p_ratio) (defBody s_p_ratio) (defScope s_p_ratio) (.ref fT11) kV11 dc11 pm11 an11 cd11 ct11)
      | 12 => (PySem.W.fnOf "is_ratio" "is_ratio" (defArgs s_p_is_ratio) (defBody s_p_is_ratio) (defScope s_p_is_ratio) .none kV12 dc12 pm12 an12 cd12 ct12)
      | 13 => (PySem.W.fnOf "add" "add" (defArgs s_p_add) (defBody s_p_add) (defScope s_p_add) .none kV13 dc13 pm13 an13 cd13 ct13)
      | 14 => (PySem.W.fnOf "multiply" "multiply" (defArgs s_p_multiply) (defBody s_p_multiply) (defScope s_p_multiply) .none kV14 dc14 pm14 an14 cd14 ct14)
      | 15 => (PySem.W.fnOf "is_less" "is_less" (defArgs s_p_is_less) (defBody s_p_is_less) (defScope s_p_is_less) .none kV15 dc15 pm15 an15 cd15 ct15)
      | 17 => (PySem.W.fnOf "is_share" "is_share" (defArgs s_p_is_share) (defBody s_p_is_share) (defScope s_p_is_share) .none kV17 dc17 pm17 an17 cd17 ct17)
      | 18 => (PySem.W.fnOf "is_paper" "is_paper" (defArgs s_p_is_paper) (defBody s_p_is_paper) (defScope s_p_is_paper) .none kV18 dc18 pm18 an18 cd18 ct18)
      | 19 => (PySem.W.fnOf "total" "total" (defArgs s_p_total) (defBody s_p_total) (defScope s_p_total) .none kV19 dc19 pm19 an19 cd19 ct19)
      | 20 => (PySem.W.fnOf "refutes" "refutes" (defArgs s_p_refutes) (defBody s_p_refutes) (defScope s_p_refutes) .none kV20 dc20 pm20 an20 cd20 ct20)
      | 21 => (PySem.W.fnOf "derives" "derives" (defArgs s_p_derives) (defBody s_p_derives) (defScope s_p_derives) .none kV21 dc21 pm21 an21 cd21 ct21)
      | 23 => (PySem.W.fnOf "_law_feed" "_law_feed" (defArgs s_feed) (defBody s_feed) (defScope s_feed) .none kV23 dc23 pm23 an23 cd23 ct23)
      | 24 => (PySem.W.fnOf "_law_draw" "_law_draw" (defArgs s_draw) (defBody s_draw) (defScope s_draw) .none kV24 dc24 pm24 an24 cd24 ct24)
      | 25 => (PySem.W.fnOf "_law_any" "_law_any" (defArgs s_any) (defBody s_any) (defScope s_any) .none kV25 dc25 pm25 an25 cd25 ct25)
      | 26 => (PySem.W.fnOf "_law_same" "_law_same" (defArgs s_same) (defBody s_same) (defScope s_same) .none kV26 dc26 pm26 an26 cd26 ct26)
      | 27 => (PySem.W.fnOf "_law_gcd" "_law_gcd" (defArgs s_gcd) (defBody s_gcd) (defScope s_gcd) .none kV27 dc27 pm27 an27 cd27 ct27)
      | 28 => (PySem.W.fnOf "_law_low" "_law_low" (defArgs s_low) (defBody s_low) (defScope s_low) .none kV28 dc28 pm28 an28 cd28 ct28)
      | 29 => (PySem.W.fnOf "_law_plus" "_law_plus" (defArgs s_plus) (defBody s_plus) (defScope s_plus) .none kV29 dc29 pm29 an29 cd29 ct29)
      | 30 => (PySem.W.fnOf "_law_minus" "_law_minus" (defArgs s_minus) (defBody s_minus) (defScope s_minus) .none kV30 dc30 pm30 an30 cd30 ct30)
      | 31 => (PySem.W.fnOf "_law_by" "_law_by" (defArgs s_by) (defBody s_by) (defScope s_by) .none kV31 dc31 pm31 an31 cd31 ct31)
      | 32 => (PySem.W.fnOf "_law_under" "_law_under" (defArgs s_under) (defBody s_under) (defScope s_under) .none kV32 dc32 pm32 an32 cd32 ct32)
      | 33 => (PySem.W.fnOf "_law_part" "_law_part" (defArgs s_part) (defBody s_part) (defScope s_part) .none kV33 dc33 pm33 an33 cd33 ct33)
      | 34 => (PySem.W.fnOf "_law_rate" "_law_rate" (defArgs s_rate) (defBody s_rate) (defScope s_rate) .none kV34 dc34 pm34 an34 cd34 ct34)
      | 35 => (PySem.W.fnOf "_law_words" "_law_words" (defArgs s_words) (defBody s_words) (defScope s_words) .none kV35 dc35 pm35 an35 cd35 ct35)
      | 36 => (PySem.W.fnOf "_law_total" "_law_total" (defArgs s_total) (defBody s_total) (defScope s_total) .none kV36 dc36 pm36 an36 cd36 ct36)
      | 37 => (PySem.W.fnOf "_law_point" "_law_point" (defArgs s_point) (defBody s_point) (defScope s_point) .none kV37 dc37 pm37 an37 cd37 ct37)
      | 38 => (PySem.W.fnOf "_law_terms" "_law_terms" (defArgs s_terms) (defBody s_terms) (defScope s_terms) .none kV38 dc38 pm38 an38 cd38 ct38)
      | 39 => (PySem.W.fnOf "_law_ties" "_law_ties" (defArgs s_ties) (defBody s_ties) (defScope s_ties) .none kV39 dc39 pm39 an39 cd39 ct39)
      | 40 => (PySem.W.fnOf "_law_is_part" "_law_is_part" (defArgs s_is_part) (defBody s_is_part) (defScope s_is_part) .none kV40 dc40 pm40 an40 cd40 ct40)
      | 41 => (PySem.W.fnOf "_law_summed" "_law_summed" (defArgs s_summed) (defBody s_summed) (defScope s_summed) .none kV41 dc41 pm41 an41 cd41 ct41)
      | 42 => (PySem.W.fnOf "_law_refuted" "_law_refuted" (defArgs s_refuted) (defBody s_refuted) (defScope s_refuted) .none kV42 dc42 pm42 an42 cd42 ct42)
      | 43 => (PySem.W.fnOf "_law_derived" "_law_derived" (defArgs s_derived) (defBody s_derived) (defScope s_derived) .none kV43 dc43 pm43 an43 cd43 ct43)
      | 44 => (PySem.W.fnOf "_law_bent_paper" "_law_bent_paper" (defArgs s_bent_paper) (defBody s_bent_paper) (defScope s_bent_paper) .none kV44 dc44 pm44 an44 cd44 ct44)
      | 45 => (PySem.W.fnOf "law" "law" (defArgs s_p_law) (defBody s_p_law) (defScope s_p_law) .none kV45 dc45 pm45 an45 cd45 ct45)
      | _ => (PySem.W.fnOf "is_whole" "is_whole" (defArgs s_p_is_whole) (defBody s_p_is_whole) (defScope s_p_is_whole) .none kV8 dc8 pm8 an8 cd8 ct8)) := {
    F_p_is_whole := F8, g_p_is_whole := PySem.W.mg_of X G a8
    b_p_is_whole := F8.binds (ps := ["thing"]) fun _ _ _ _ _ _ us hl => match us, hl with | [_], _ => rfl
    F_p_shortened := F9, g_p_shortened := PySem.W.mg_of X G a9
    b_p_shortened := F9.binds (ps := ["one", "other"]) fun _ _ _ _ _ _ us hl => match us, hl with | [_, _], _ => rfl
    F_p_common_divisor := F10, g_p_common_divisor := PySem.W.mg_of X G a10
    b_p_common_divisor := F10.binds (ps := ["one", "other"]) fun _ _ _ _ _ _ us hl => match us, hl with | [_, _], _ => rfl
    F_p_ratio := F11, g_p_ratio := PySem.W.mg_of X G a11
    b_p_ratio := Bn11, d_p_ratio := Bd11
    F_p_is_ratio := F12, g_p_is_ratio := PySem.W.mg_of X G a12
    b_p_is_ratio := F12.binds (ps := ["thing"]) fun _ _ _ _ _ _ us hl => match us, hl with | [_], _ => rfl
    F_p_add := F13, g_p_add := PySem.W.mg_of X G a13
    b_p_add := F13.binds (ps := ["one", "other"]) fun _ _ _ _ _ _ us hl => match us, hl with | [_, _], _ => rfl
    F_p_multiply := F14, g_p_multiply := PySem.W.mg_of X G a14
    b_p_multiply := F14.binds (ps := ["one", "other"]) fun _ _ _ _ _ _ us hl => match us, hl with | [_, _], _ => rfl
    F_p_is_less := F15, g_p_is_less := PySem.W.mg_of X G a15
    b_p_is_less := F15.binds (ps := ["one", "other"]) fun _ _ _ _ _ _ us hl => match us, hl with | [_, _], _ => rfl
    F_p_is_share := F17, g_p_is_share := PySem.W.mg_of X G a17
    b_p_is_share := F17.binds (ps := ["thing", "many"]) fun _ _ _ _ _ _ us hl => match us, hl with | [_, _], _ => rfl
    F_p_is_paper := F18, g_p_is_paper := PySem.W.mg_of X G a18
    b_p_is_paper := F18.binds (ps := ["paper", "many"]) fun _ _ _ _ _ _ us hl => match us, hl with | [_, _], _ => rfl
    F_p_total := F19, g_p_total := PySem.W.mg_of X G a19
    b_p_total := F19.binds (ps := ["ties", "paper"]) fun _ _ _ _ _ _ us hl => match us, hl with | [_, _], _ => rfl
    F_p_refutes := F20, g_p_refutes := PySem.W.mg_of X G a20
    b_p_refutes := F20.binds (ps := ["ties", "paper"]) fun _ _ _ _ _ _ us hl => match us, hl with | [_, _], _ => rfl
    F_p_derives := F21, g_p_derives := PySem.W.mg_of X G a21
    b_p_derives := F21.binds (ps := ["ties", "tie", "paper"]) fun _ _ _ _ _ _ us hl => match us, hl with | [_, _, _], _ => rfl
    F_feed := F23, g_feed := PySem.W.mg_of X G a23
    b_feed := F23.binds (ps := ["_law_script"]) fun _ _ _ _ _ _ us hl => match us, hl with | [_], _ => rfl
    F_draw := F24, g_draw := PySem.W.mg_of X G a24
    b_draw := F24.binds (ps := ["_law_feed_here", "_law_many"]) fun _ _ _ _ _ _ us hl => match us, hl with | [_, _], _ => rfl
    F_any := F25, g_any := PySem.W.mg_of X G a25
    b_any := F25.binds (ps := ["_law_feed_here", "_law_row"]) fun _ _ _ _ _ _ us hl => match us, hl with | [_, _], _ => rfl
    F_same := F26, g_same := PySem.W.mg_of X G a26
    b_same := F26.binds (ps := ["_law_found", "_law_due"]) fun _ _ _ _ _ _ us hl => match us, hl with | [_, _], _ => rfl
    F_gcd := F27, g_gcd := PySem.W.mg_of X G a27
    b_gcd := F27.binds (ps := ["_law_one", "_law_two"]) fun _ _ _ _ _ _ us hl => match us, hl with | [_, _], _ => rfl
    F_low := F28, g_low := PySem.W.mg_of X G a28
    b_low := F28.binds (ps := ["_law_upper", "_law_lower"]) fun _ _ _ _ _ _ us hl => match us, hl with | [_, _], _ => rfl
    F_plus := F29, g_plus := PySem.W.mg_of X G a29
    b_plus := F29.binds (ps := ["_law_one", "_law_two"]) fun _ _ _ _ _ _ us hl => match us, hl with | [_, _], _ => rfl
    F_minus := F30, g_minus := PySem.W.mg_of X G a30
    b_minus := F30.binds (ps := ["_law_one"]) fun _ _ _ _ _ _ us hl => match us, hl with | [_], _ => rfl
    F_by := F31, g_by := PySem.W.mg_of X G a31
    b_by := F31.binds (ps := ["_law_one", "_law_two"]) fun _ _ _ _ _ _ us hl => match us, hl with | [_, _], _ => rfl
    F_under := F32, g_under := PySem.W.mg_of X G a32
    b_under := F32.binds (ps := ["_law_one", "_law_two"]) fun _ _ _ _ _ _ us hl => match us, hl with | [_, _], _ => rfl
    F_part := F33, g_part := PySem.W.mg_of X G a33
    b_part := F33.binds (ps := ["_law_feed_here", "_law_size"]) fun _ _ _ _ _ _ us hl => match us, hl with | [_, _], _ => rfl
    F_rate := F34, g_rate := PySem.W.mg_of X G a34
    b_rate := F34.binds (ps := ["_law_feed_here"]) fun _ _ _ _ _ _ us hl => match us, hl with | [_], _ => rfl
    F_words := F35, g_words := PySem.W.mg_of X G a35
    b_words := F35.binds (ps := ["_law_feed_here", "_law_many"]) fun _ _ _ _ _ _ us hl => match us, hl with | [_, _], _ => rfl
    F_total := F36, g_total := PySem.W.mg_of X G a36
    b_total := F36.binds (ps := ["_law_terms_here", "_law_values"]) fun _ _ _ _ _ _ us hl => match us, hl with | [_, _], _ => rfl
    F_point := F37, g_point := PySem.W.mg_of X G a37
    b_point := F37.binds (ps := ["_law_feed_here", "_law_words_here"]) fun _ _ _ _ _ _ us hl => match us, hl with | [_, _], _ => rfl
    F_terms := F38, g_terms := PySem.W.mg_of X G a38
    b_terms := F38.binds (ps := ["_law_feed_here", "_law_words_here", "_law_pairs"]) fun _ _ _ _ _ _ us hl => match us, hl with | [_, _, _], _ => rfl
    F_ties := F39, g_ties := PySem.W.mg_of X G a39
    b_ties := F39.binds (ps := ["_law_feed_here", "_law_words_here", "_law_many", "_law_open_cases"]) fun _ _ _ _ _ _ us hl => match us, hl with | [_, _, _, _], _ => rfl
    F_is_part := F40, g_is_part := PySem.W.mg_of X G a40
    b_is_part := F40.binds (ps := ["_law_thing"]) fun _ _ _ _ _ _ us hl => match us, hl with | [_], _ => rfl
    F_summed := F41, g_summed := PySem.W.mg_of X G a41
    b_summed := F41.binds (ps := ["_law_bonds", "_law_paper"]) fun _ _ _ _ _ _ us hl => match us, hl with | [_, _], _ => rfl
    F_refuted := F42, g_refuted := PySem.W.mg_of X G a42
    b_refuted := F42.binds (ps := ["_law_bonds", "_law_paper"]) fun _ _ _ _ _ _ us hl => match us, hl with | [_, _], _ => rfl
    F_derived := F43, g_derived := PySem.W.mg_of X G a43
    b_derived := F43.binds (ps := ["_law_bonds", "_law_tie", "_law_paper"]) fun _ _ _ _ _ _ us hl => match us, hl with | [_, _, _], _ => rfl
    F_bent_paper := F44, g_bent_paper := PySem.W.mg_of X G a44
    b_bent_paper := F44.binds (ps := ["_law_feed_here", "_law_paper", "_law_many"]) fun _ _ _ _ _ _ us hl => match us, hl with | [_, _, _], _ => rfl
    F_p_law := F45, g_p_law := PySem.W.mg_of X G a45
    b_p_law := F45.binds (ps := ["_law_script"]) fun _ _ _ _ _ _ us hl => match us, hl with | [_], _ => rfl
    m_int := PySem.W.mg_none_of X G z_int
    m_len := PySem.W.mg_none_of X G z_len
    m_abs := PySem.W.mg_none_of X G z_abs
    m_range := PySem.W.mg_none_of X G z_range
    m_zip := PySem.W.mg_none_of X G z_zip
    m_all := PySem.W.mg_none_of X G z_all
    m_isinstance := PySem.W.mg_none_of X G z_isinstance
    m_bool := PySem.W.mg_none_of X G z_bool
    m_str := PySem.W.mg_none_of X G z_str
    m_tuple := PySem.W.mg_none_of X G z_tuple
    m_list := PySem.W.mg_none_of X G z_list
    m_dict := PySem.W.mg_none_of X G z_dict
    m_sorted := PySem.W.mg_none_of X G z_sorted
    m_set := PySem.W.mg_none_of X G z_set
    c_LONG := ⟨_, PySem.W.mg_of X G zc_LONG, ⟨_, rfl⟩⟩
    c_ZERO := ⟨_, PySem.W.mg_of X G zc_ZERO, rfl⟩
    z_ZERO := fun H => .inr ⟨_, _, _, lz_ZERO, rfl, rfl, small_line (by show 2 ≤ 1000; decide), .cons ⟨_, rfl⟩ (.cons ⟨_, rfl⟩ .nil)⟩
  }
  exact ⟨_, fun s v => .of_eq rfl, fun base _ _ => ok_p_law T⟩
end T8
open PySem PySem.W PyProof.Rows
set_option maxHeartbeats 0 in
theorem PySem.Challenge.cw_tiespan_k27_certificates_judged_holds : PySem.Challenge.rw_tiespan_k27_certificates_judged.Holds := by
  w_on; o_law; k_head; (case hw => w_witness2)
  k_fill
  refine L2.walk_of (l := PySem.Challenge.rw_tiespan_k27_certificates_judged) (n := 63) (k := 8) (x := "_law_script") (CX := fun _ => L2.CX0) (sp := fun w => T8.spLaw _) rfl (by decide) rfl ⟨rfl, by decide, by decide⟩ (fun w h Y => PySem.W.kIn_of Y) ?F (fun _ _ a ns hl _ hS => ⟨a, ns, rfl, hS, hl, fun _ => rfl⟩) (fun _ _ _ _ _ h => h)
  case F =>
    intro w mg fa h KX G hmg
    refine' T8.all_mk KX G hmg ?t11 ?a8 ?l8 ?c8 ?k8 ?a9 ?l9 ?c9 ?k9 ?a10 ?l10 ?c10 ?k10 ?a11 ?l11 ?c11 ?k11 ?a12 ?l12 ?c12 ?k12 ?a13 ?l13 ?c13 ?k13 ?a14 ?l14 ?c14 ?k14 ?a15 ?l15 ?c15 ?k15 ?a17 ?l17 ?c17 ?k17 ?a18 ?l18 ?c18 ?k18 ?a19 ?l19 ?c19 ?k19 ?a20 ?l20 ?c20 ?k20 ?a21 ?l21 ?c21 ?k21 ?a23 ?l23 ?c23 ?k23 ?a24 ?l24 ?c24 ?k24 ?a25 ?l25 ?c25 ?k25 ?a26 ?l26 ?c26 ?k26 ?a27 ?l27 ?c27 ?k27 ?a28 ?l28 ?c28 ?k28 ?a29 ?l29 ?c29 ?k29 ?a30 ?l30 ?c30 ?k30 ?a31 ?l31 ?c31 ?k31 ?a32 ?l32 ?c32 ?k32 ?a33 ?l33 ?c33 ?k33 ?a34 ?l34 ?c34 ?k34 ?a35 ?l35 ?c35 ?k35 ?a36 ?l36 ?c36 ?k36 ?a37 ?l37 ?c37 ?k37 ?a38 ?l38 ?c38 ?k38 ?a39 ?l39 ?c39 ?k39 ?a40 ?l40 ?c40 ?k40 ?a41 ?l41 ?c41 ?k41 ?a42 ?l42 ?c42 ?k42 ?a43 ?l43 ?c43 ?k43 ?a44 ?l44 ?c44 ?k44 ?a45 ?l45 ?c45 ?k45 ?z_int ?z_len ?z_abs ?z_range ?z_zip ?z_all ?z_isinstance ?z_bool ?z_str ?z_tuple ?z_list ?z_dict ?z_sorted ?z_set ?zc_ZERO ?lz_ZERO ?zc_LONG
    (case a8 => k_is); (case l8 => k_is); (case c8 => k_is); (case k8 => k_is)
    (case a9 => k_is); (case l9 => k_is); (case c9 => k_is); (case k9 => k_is)
    (case a10 => k_is); (case l10 => k_is); (case c10 => k_is); (case k10 => k_is)
    (case a11 => k_is); (case l11 => k_is); (case c11 => k_is); (case k11 => k_is)
    (case a12 => k_is); (case l12 => k_is); (case c12 => k_is); (case k12 => k_is)
    (case a13 => k_is); (case l13 => k_is); (case c13 => k_is); (case k13 => k_is)
    (case a14 => k_is); (case l14 => k_is); (case c14 => k_is); (case k14 => k_is)
    (case a15 => k_is); (case l15 => k_is); (case c15 => k_is); (case k15 => k_is)
    (case a17 => k_is); (case l17 => k_is); (case c17 => k_is); (case k17 => k_is)
    (case a18 => k_is); (case l18 => k_is); (case c18 => k_is); (case k18 => k_is)
    (case a19 => k_is); (case l19 => k_is); (case c19 => k_is); (case k19 => k_is)
    (case a20 => k_is); (case l20 => k_is); (case c20 => k_is); (case k20 => k_is)
    (case a21 => k_is); (case l21 => k_is); (case c21 => k_is); (case k21 => k_is)
    (case a23 => k_is); (case l23 => k_is); (case c23 => k_is); (case k23 => k_is)
    (case a24 => k_is); (case l24 => k_is); (case c24 => k_is); (case k24 => k_is)
    (case a25 => k_is); (case l25 => k_is); (case c25 => k_is); (case k25 => k_is)
    (case a26 => k_is); (case l26 => k_is); (case c26 => k_is); (case k26 => k_is)
    (case a27 => k_is); (case l27 => k_is); (case c27 => k_is); (case k27 => k_is)
    (case a28 => k_is); (case l28 => k_is); (case c28 => k_is); (case k28 => k_is)
    (case a29 => k_is); (case l29 => k_is); (case c29 => k_is); (case k29 => k_is)
    (case a30 => k_is); (case l30 => k_is); (case c30 => k_is); (case k30 => k_is)
    (case a31 => k_is); (case l31 => k_is); (case c31 => k_is); (case k31 => k_is)
    (case a32 => k_is); (case l32 => k_is); (case c32 => k_is); (case k32 => k_is)
    (case a33 => k_is); (case l33 => k_is); (case c33 => k_is); (case k33 => k_is)
    (case a34 => k_is); (case l34 => k_is); (case c34 => k_is); (case k34 => k_is)
    (case a35 => k_is); (case l35 => k_is); (case c35 => k_is); (case k35 => k_is)
    (case a36 => k_is); (case l36 => k_is); (case c36 => k_is); (case k36 => k_is)
    (case a37 => k_is); (case l37 => k_is); (case c37 => k_is); (case k37 => k_is)
    (case a38 => k_is); (case l38 => k_is); (case c38 => k_is); (case k38 => k_is)
    (case a39 => k_is); (case l39 => k_is); (case c39 => k_is); (case k39 => k_is)
    (case a40 => k_is); (case l40 => k_is); (case c40 => k_is); (case k40 => k_is)
    (case a41 => k_is); (case l41 => k_is); (case c41 => k_is); (case k41 => k_is)
    (case a42 => k_is); (case l42 => k_is); (case c42 => k_is); (case k42 => k_is)
    (case a43 => k_is); (case l43 => k_is); (case c43 => k_is); (case k43 => k_is)
    (case a44 => k_is); (case l44 => k_is); (case c44 => k_is); (case k44 => k_is)
    (case a45 => k_is); (case l45 => k_is); (case c45 => k_is); (case k45 => k_is)
    (case z_int => k_is)
    (case z_len => k_is)
    (case z_abs => k_is)
    (case z_range => k_is)
    (case z_zip => k_is)
    (case z_all => k_is)
    (case z_isinstance => k_is)
    (case z_bool => k_is)
    (case z_str => k_is)
    (case z_tuple => k_is)
    (case z_list => k_is)
    (case z_dict => k_is)
    (case z_sorted => k_is)
    (case z_set => k_is)
    (case zc_LONG => k_is)
    (case zc_ZERO => k_is)
    (case lz_ZERO => k_is)
    (case t11 => k_is)

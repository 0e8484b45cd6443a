import PyProof.Rows.All
import Wide.All
import OpenK.AllK
import Wide.FinOn
import HandS.Base
import HandS.Call
import HandS.List
import HandS.Comp
import HandS.Ends
import HandS.Words
import HandS.WordsList
import HandS.Codes
import HandS.Wide
import HandS.Iter
import HandS.Zip
import HandS.Star
import HandS.More
import HandS.IsInst
import HandS.Conv
import HandS.NoneIn
import HandS.WideBits
import HandS.WordsExc
import HandS.Exc
import HandS.TryMany
import HandS.HotCalls
import HandS.ExcInit
import HandS.ExcField
import HandS.Lambda
import HandS.EndTab
import HandS.Defaults
import KE.KNest
import HandS.Text
import HandS.StrMore
import KE.IntTextText
import HandS.Style
import PyProof.ListStr
import PyProof.StrBlock2
import HandS.More
import HandS.SetTxt0
import HandS.Set
import HandS.Strs
import HandS.Dict
import HandS.DictComp
import HandS.RaiseMore
import PySem.Challenge.RW_tiespan_k07_tie_texts_read
set_option Elab.async false
set_option linter.all false
set_option maxRecDepth 100000
set_option maxHeartbeats 4000000
namespace EK
open PySem PySem.Spec PyProof.Rows L2
/-! ### try: body, except (c1, c2) as n: suite, and what stands behind it is not reached -/
theorem flyingZ_push {B h : Heap} {l : List Env} {e : Addr} {Z : Obj → Prop} (x : PySem.HandSPX.FlyingZ B l e Z h) (o : Obj) : PySem.HandSPX.FlyingZ B l e Z (h.push o) := by
  obtain ⟨h1, h2, h3, oe, vs, tb, ot, ts, a1, a2, a3, a4, a5, a6, a7, a8, a9⟩ := x
  exact ⟨fun b u q => Heap.get?_push_of_some _ (h1 b u q), h2, h3.of_keeps fun b u q _ => ⟨u, Heap.get?_push_of_some _ q, rfl⟩, oe, vs, tb, ot, ts, Heap.get?_push_of_some _ a1, a2, a3, a4, a5, a6, Heap.get?_push_of_some _ a7, a8, a9⟩
/-- the wish: the clause takes it -/
def wTup (K : PySem.W.Frag) (c1 c2 : Value) (i : Nat) (ts : Addr → Value → Option Addr → TS) (D : Ends) : WX := fun cls d σ H =>
  PySem.W.exmAny K cls [c1, c2] = some true ∧ ∀ a, H a = none → ts a cls d { nx := fun σ' H' => D.nx (σ'.set i none) H', rt := D.rt, bk := fun σ' H' => D.bk (σ'.set i none) H', ct := fun σ' H' => D.ct (σ'.set i none) H' } (σ.set i (some (.ref a))) H
theorem ps_try_tup {X : Cx} {x1 x2 n : Str} {c1 c2 : Value} {i kk : Nat} {body suite : List Stmt} {b₀ : Stmt} {np1 np2 tpos pos pos' : Pos} {tb : WX → TS} {ts : Addr → Value → Option Addr → TS} {hds : List ExceptHandler}
    (hs : X.stack = X.env :: X.outer) (hf : X.env.frame = some X.env.locals) (hN : X.N.Nodup) (hi : X.N[i]? = some n) (hln : X.env.kindOf n = some .local) (h1 : Gl X x1) (m1 : X.mg x1 = some c1) (h2 : Gl X x2) (m2 : X.mg x2 = some c2)
    (hb : ∀ (W : WX) (pn : List (Addr × Obj)) (xe : Value → Shared → Prop), Takes (X.tr pn xe) W → PassesOwn (model X.prog X.w) X.A X.env xe → PSs (X.tr pn xe) body (tb W))
    (hsu : ∀ (a : Addr) (oe : Obj) (cls : Value) (d : Option Addr) (pn : List (Addr × Obj)), Zc cls d oe → (∃ vs, oe.data = .fields vs) → PSs (X.suite a ((a, oe) :: pn)) (b₀ :: suite) (ts a cls d))
    (d1 : (x1 == ("__debug__" : Str)) = false := by decide) (d2 : (x2 == ("__debug__" : Str)) = false := by decide) :
    PS X (.Try body (.ExceptHandler (some (.Tuple [.Name x1 np1, .Name x2 np2] kk tpos)) (some n) (b₀ :: suite) pos' :: hds) [] [] pos) (fun D σ H => tb (wTup X.K c1 c2 i ts D) D σ H) := by
  refine ⟨fun pins s σ H D I h => ?_⟩
  have ok := I.ok
  have hfr : X.A.frames = some (X.env :: X.outer) := by rw [ok.frames, hs]
  have hloc : Loc X.env.scope n := .inl hln
  refine wpAny_Try_except (wpAny_mono ((hb (wTup X.K c1 c2 i ts D) (X.pn ++ pins) (fun e s₁ => wpAny (model X.prog X.w) X.A (noteFrame e X.env) (fun _ s₂ => wpAny (model X.prog X.w) X.A (setFlight e none) (fun _ s₃ =>
    wpAny (model X.prog X.w) X.A (handleBy e X.env (.ExceptHandler (some (.Tuple [.Name x1 np1, .Name x2 np2] kk tpos)) (some n) (b₀ :: suite) pos' :: hds)) (SP X pins D) X.xe s₃) X.xe s₂) X.xe s₁) (fun u s' xx => ?_) PassesOwn.looking).run [] s σ H D (I.toTry _) h) (fun f s1 hsp => ?_) (fun e s1 he => he))
  · obtain ⟨a, B, sI, pins', σ', H', cls, d, rfl, J', nb, up, sky, na, os, ag, hb1, hyes⟩ := xx
    have J : Inv X pins σ' H' sI := J'.ofTry ok
    have sky' : Sky B (X.env :: X.outer) a (Zc cls d) X.env.locals s'.heap := by rw [← hs]; exact sky
    show wpAny (model X.prog X.w) X.A (noteFrame (.ref a) X.env) _ _ _
    refine Sky.land Zc.steady hfr hf sky' fun h3 fl3 up3 => ?_
    have J3 : Inv X pins σ' H' { s' with heap := h3 } := J.landed nb fl3.1 (up.trans up3) os ag
    obtain ⟨oe3, vs3, he3, hz3, hd3⟩ := fl3.there
    have nfr : a ∉ frs (X.env :: X.outer) := fun hm => by
      obtain ⟨_, o', e', hnf⟩ := fl3.2.2.1.mem hm
      rw [he3] at e'
      cases e'
      exact hnf _ hd3
    have nL : a ≠ X.env.locals := fun z => nfr (List.mem_filterMap.mpr ⟨X.env, List.mem_cons_self, by rw [hf, z]⟩)
    have nF : a ∉ X.fs := fun hm => by
      obtain ⟨e, he, q⟩ := List.mem_filterMap.mp hm
      exact nfr (List.mem_filterMap.mpr ⟨e, List.mem_cons_of_mem _ he, q⟩)
    have S3 := J3.suite he3 hd3 na nL nF
    refine wpAny_handleBy_cons (codeAny_handlers_test ?_) (by intro q; cases q)
    refine wpAny_Tuple ?_
    refine wpAny_items_cons (ld_glob (X := X.suite a ((a, oe3) :: (X.pn ++ pins))) S3 h1 m1 ?_ d1)
    refine wpAny_items_cons (ld_glob (X := X.suite a ((a, oe3) :: (X.pn ++ pins))) S3 h2 m2 ?_ d2)
    refine wpAny_items_nil ⟨Nat.le_trans (by decide : 2 ≤ 1000) (Nat.le_of_lt (small1000 (Nat.le_refl _))), ?_⟩
    have kp : ∀ q o, h3.get? q = some o → (h3.push { cls := .type "tuple", data := .seq [c1, c2].toArray }).get? q = some o := fun _ _ z => Heap.get?_push_of_some _ z
    have LT : PySem.W.Looks (model X.prog X.w) (h3.push { cls := .type "tuple", data := .seq [c1, c2].toArray }) (typeOf (.ref a)) cls := fun A Q E s k q => wpAny_typeOf_ref (k _ _ (kp _ _ he3)) (by rw [hz3.1]; exact q)
    refine (PySem.W.exm_tup2 (M := model X.prog X.w) (J3.kIn.keeps kp) LT (Heap.get?_push_size h3 rfl) hb1).here ?_
    have up3p := (up.trans up3).trans (Heap.UpToSlots.of_keeps kp)
    have fl3p := flyingZ_push fl3 { cls := .type "tuple", data := .seq [c1, c2].toArray }
    generalize h3.push { cls := .type "tuple", data := .seq [c1, c2].toArray } = g3 at up3p fl3p
    refine codeAny_handlers_suite_as ?_
    refine PySem.HandSPX.lands_againZ fl3p fun h4 fl4 up4 => ?_
    have J4 : Inv X pins σ' H' { s' with heap := h4 } := J.landed nb fl4.1 (up3p.trans up4) os ag
    obtain ⟨oe4, vs4, he4, hz4, hd4⟩ := fl4.there
    have S4 := J4.suite he4 hd4 na nL nF
    refine store_ok (X := X.suite a ((a, oe4) :: (X.pn ++ pins))) (v := .ref a) S4 hN hi hloc rfl (fun s5 S5 => ?_) (.inr hln)
    refine wpAny_mono ((hsu a oe4 cls d (X.pn ++ pins) hz4 ⟨_, hd4⟩).run [] s5 _ H' _ S5 (hyes a na)) (fun f s6 hsp => ?_) (fun _ _ z => False.elim z)
    have end_ : ∀ {σ6 : L2.St} {H6 : Hp} {Q : Shared → Prop}, Inv (X.suite a ((a, oe4) :: (X.pn ++ pins))) [] σ6 H6 s6 → (∀ s7, Inv X pins (σ6.set i none) H6 s7 → Q s7) →
        wpAny (model X.prog X.w) X.A (do bindName X.env n .none; unbindBehindTheSuite X.env n pos') (fun _ s7 => Q s7) X.xe s6 := fun {σ6 H6 Q} S6 hq => gone_ok (S6.unsuite ok) hN hi hln hq
    cases f with
    | next =>
      obtain ⟨σ6, H6, S6, q6⟩ := hsp
      exact end_ S6 fun s7 J7 => ⟨_, _, J7, q6⟩
    | brk =>
      obtain ⟨σ6, H6, S6, q6⟩ := hsp
      exact end_ S6 fun s7 J7 => ⟨_, _, J7, q6⟩
    | cont =>
      obtain ⟨σ6, H6, S6, q6⟩ := hsp
      exact end_ S6 fun s7 J7 => ⟨_, _, J7, q6⟩
    | ret u =>
      obtain ⟨v6, σ6, H6, S6, r6, q6⟩ := hsp
      exact end_ S6 fun s7 J7 => ⟨_, _, _, J7, r6, q6⟩
  · cases f with
    | next =>
      obtain ⟨σ', H', J', q⟩ := hsp
      exact wpAny_execs_nil ⟨σ', H', J'.ofTry ok, q⟩
    | brk =>
      obtain ⟨σ', H', J', q⟩ := hsp
      exact ⟨σ', H', J'.ofTry ok, q⟩
    | cont =>
      obtain ⟨σ', H', J', q⟩ := hsp
      exact ⟨σ', H', J'.ofTry ok, q⟩
    | ret u =>
      obtain ⟨v, σ', H', J', r, q⟩ := hsp
      exact ⟨v, σ', H', J'.ofTry ok, r, q⟩
/-! ### defs that are called where an exception is handled, and read it; nothing is raised there -/
structure FnP (P : Program) (w : World) (K : PySem.W.Frag) (mg : Str → Option Value) (base : Heap) (k : Nat) (f : Addr) (fd : FuncData) (ps : List Str) (sp : Addr × Obj → Sp) : Prop where
  len : ∀ p vs H Q E, sp p vs H Q E → vs.length = ps.length
  run : ∀ (A : Around) (outer : List Env) (s : Shared) (H : Hp) (args : Args) (us : List Value) (vs : List V) (Q : VK) (p : Addr × Obj), L2H.RoomH k A → L2H.PinOk outer H s p → Env0 P w K mg base A outer s H → BindsTo s fd args (ps.zip us) → Vals vs us → sp p vs H Q E0 →
    codeAny (model P w) A (.call (.ref f) args) (CR CX0 outer P w H s Q E0) s
theorem fn_ofP {P : Program} {w : World} {K : PySem.W.Frag} {mg : Str → Option Value} {base : Heap} {k : Nat} {x : Str} {st : Stmt} {f : Addr} {fd : FuncData} {N ps : List Str} {sp : Addr × Obj → Sp} (F : Fun K x x st f fd) (S : FnScope N ps (defScope st))
    (len : ∀ p vs H Q E, sp p vs H Q E → vs.length = ps.length)
    (hbody : ∀ (cdv : Value) (A : Around) (outer : List Env) (s : Shared) (H : Hp) (vs : List V) (Q : VK) (p : Addr × Obj), L2H.RoomH k (A.deeper (envOfC x (defScope st) s.heap.objs.size f cdv)) → sp p vs H Q E0 →
      ∃ t, PSs (L2H.cxH CX0 P w K mg base N x (defScope st) f cdv A outer s H E0 p) (defBody st) t ∧ t { nx := fun _ H' => Q .non H', rt := Q } (L2.start N vs) H) : FnP P w K mg base (k + 1) f fd ps sp := by
  obtain ⟨oc, od, kV, doc, pm, an, cdv, ct, osl, rfl, lk, hcd⟩ := F.ex
  refine ⟨len, fun A outer s H args us vs Q p hr hpin e0 hb r hsp => ?_⟩
  have hl := len _ _ _ _ _ hsp
  have KX : K.In s.heap := e0.mod.kin.keeps fun b o e => (e0.bs b o e).1
  have lim : s.heap.NoLimit := e0.mod.nolimit.keeps fun b o e => (e0.bs b o e).1
  refine codeAny_call_function hr.depth (KX _ _ lk) rfl S.co S.gen rfl (PySem.W.codeRec_of KX hcd) (hb _ _ _ _ ?_)
  refine wpAny_newFunctionEnv_cells S.kind (fun ⟨n, v⟩ hy => ?_) fun env he s1 xc => ?_
  · rcases S.par n (List.of_mem_zip hy).1 with q | q
    · exact .inl q
    · exact .inr ⟨q, PySem.W.cellsFrom_some _ _ _ (.inl q)⟩
  · subst he
    refine ⟨lim.keeps xc.toInCall.keep, codeAny_func ?_⟩
    obtain ⟨t, ht, hq⟩ := hbody cdv A outer s H vs Q p (hr.deeper _) hsp
    refine wpAny_mono (ht.run [] s1 (L2.start N vs) H _ (L2H.inv_startH S hpin e0 hl r xc) hq) (fun fl s' hs => ?_) fun e s' hs => hs
    cases fl with
    | ret u =>
      obtain ⟨v, σ', H', J, rv, q⟩ := hs
      exact ⟨v, H', J.os, J.bare, J.base, J.hok, rv, q⟩
    | next =>
      obtain ⟨σ', H', J, q⟩ := hs
      exact ⟨.non, H', J.os, J.bare, J.base, J.hok, rfl, q⟩
    | brk =>
      obtain ⟨_, _, _, q⟩ := hs
      exact False.elim q
    | cont =>
      obtain ⟨_, _, _, q⟩ := hs
      exact False.elim q
theorem pe_callP {X : Cx} {k : Nat} {f : Addr} {fd : FuncData} {ps : List Str} {sp : Addr × Obj → Sp} {x : Str} {q pos : Pos} {e : Expr} {es : List Expr} {t : TA} {p : Addr × Obj} (F : FnP X.prog X.w X.K X.mg X.base k f fd ps sp) (hr : L2H.RoomH k X.A) (hp : p ∈ X.pn) (hg : Gl X x) (hm : X.mg x = some (.ref f))
    (hk : PySem.W.keepIn X.K (.ref f) = true) (hb : Binds X.K fd ps []) (ha : PA X (e :: es) t) (hdb : (x == ("__debug__" : Str)) = false := by decide) (he : starEach (e :: es) X.env = (false, eval e X.env) :: starEach es X.env := by rfl) (hpl : (backTo pos (starEach es X.env)).any (·.1) = false := by rfl) :
    PE X (.Call (.Name x q) (e :: es) [] pos) (fun σ H Q => t σ H fun vs H1 => sp p vs H1 Q E0) := by
  refine ⟨fun pins s σ H Q I h => wpAny_Call_Name_kw (ld_glob I hg hm (PySem.W.callWith_K (h₀ := X.base) I.ok.mod.kin hk (thn (ha.run pos pins s σ H _ I h) fun us s1 ⟨vs, H1, I1, r, q1⟩ => ⟨I1.kIn, ?_⟩) he hpl) hdb)⟩
  have hl : us.length = ps.length := by rw [← r.length]; exact F.len _ _ _ _ _ q1
  have b := hb s1 us I1.kIn (by rw [List.append_nil]; exact hl)
  rw [List.append_nil] at b
  have P1 := I1.pin p (List.mem_append_left _ hp)
  have hpin : L2H.PinOk X.stack H1 s1 p := ⟨P1.1, P1.2.1, fun hm => (List.mem_cons.mp (I1.stkSub p.1 hm)).elim P1.2.2.1 P1.2.2.2.1, P1.2.2.2.2⟩
  refine wpAny_call (codeAny_mono (F.run X.A X.stack s1 H1 ⟨us, []⟩ us vs Q p hr hpin I1.env0 b r q1) fun r s' hq => ?_)
  cases r with
  | error e => exact (show False from hq).elim
  | ok fl =>
    cases fl with
    | ret u => exact I1.after hq
    | next => exact False.elim hq
    | brk => exact False.elim hq
    | cont => exact False.elim hq
/-- what is told of the exception at p: its class, its own dict, the fields -/
structure Xat (K : PySem.W.Frag) (p : Addr × Obj) (C dd : Addr) : Prop where
  z : Zc (.ref C) (some dd) p.2
  fl : ∃ vs, p.2.data = .fields vs
  xf : XfC K C
def tXp (K : PySem.W.Frag) (p : Addr × Obj) (n : Str) (te : TE) : TE := fun σ H Q => te σ H fun x H1 => x = .ref p.1 ∧ ∃ (C dd : Addr) (fs : List (Str × V)) (v : V), Xat K p C dd ∧ PySem.W.findIn K (.ref C) n = some none ∧ H1 dd = some (.xd fs) ∧ fs.lookup n = some v ∧ Q v H1
theorem pe_xp {X : Cx} {p : Addr × Obj} {e : Expr} {te : TE} {pos : Pos} {n : Str} (hp : p ∈ X.pn) (he : PE X e te) (hb : attributeBase e n X.env (eval e X.env) = eval e X.env := by rfl) : PE X (.Attribute e n pos) (tXp X.K p n te) := by
  refine ⟨fun pins s σ H Q I h => attr_of hb (thn (he.run pins s σ H _ I h) fun u s1 hh => ?_)⟩
  obtain ⟨x, H1, I1, rx, ex, C, dd, fs, v, T, hno, ea, l, q⟩ := hh
  subst ex
  obtain rfl : u = Value.ref p.1 := rx
  obtain ⟨ha, _⟩ := I1.pin p (List.mem_append_left _ hp)
  obtain ⟨vs, hd⟩ := T.fl
  have hx : ObjOk X.prog X.w H1 s1.heap dd (.xd fs) := I1.hok dd _ ea
  obtain ⟨mA, hns, hr⟩ := hx
  obtain ⟨od, ho, hl⟩ := lookIn_ns hns
  obtain ⟨u, hu, ru⟩ := RelO.some_of (v := v) (o := mA n) (by rw [← l]; exact hr n)
  have J : PySem.W.InstAt s1.heap p.1 p.2 C (some od) := ⟨ha, T.z.1, by unfold PySem.W.notCls; rw [hd] <;> rfl, by rw [T.z.2]; exact ho⟩
  exact PySem.HandSPX.exc_get I1.kIn J T.xf.ga T.xf.gg T.xf.exC (PySem.W.findObj_own T.xf.hdC hno rfl (by rw [hl, hu])) (handed_of ru) ⟨v, H1, I1.tok _, ru, q⟩
/-! ### own errors: what K tells of a class, making one, what why tells of it -/
structure ErrC (K : PySem.W.Frag) (mg : Str → Option Value) (x : Str) (C Tie Miss fI : Addr) : Prop where
  oex : OexC K C
  xf : XfC K C
  gC : mg x = some (.ref C)
  tag : PySem.W.findIn K (.ref C) "tag" = some none
  any : PySem.W.exmAny K (.ref C) [.ref Tie, .ref Miss] = some true
  iC : PySem.W.findIn K (.ref C) "__init__" = some (some (.ref fI))
  tI : PySem.W.typeIn K (.ref fI) = some (.type "function")
/-- __init__(self, v): self.n = v; self.tag = x -/
def spInit1 (K : PySem.W.Frag) (n x : Str) : Sp := fun vs H Q _ => ∃ (a C : Addr) (v : V), vs = [.ref a, v] ∧ OexC K C ∧ PySem.W.findIn K (.ref C) n = some none ∧ PySem.W.findIn K (.ref C) "tag" = some none ∧ H a = some (exo a C none) ∧
  ∀ dx, H dx = none → dx ≠ a → Q .non (upd (upd (upd H dx (exd dx [(n, v)])) a (exo a C (some dx))) dx (exd dx [("tag", .str x), (n, v)]))
def spInit0 (K : PySem.W.Frag) (x : Str) : Sp := fun vs H Q _ => ∃ (a C : Addr), vs = [.ref a] ∧ OexC K C ∧ PySem.W.findIn K (.ref C) "tag" = some none ∧ H a = some (exo a C none) ∧
  ∀ dx, H dx = none → dx ≠ a → Q .non (upd (upd H dx (exd dx [("tag", .str x)])) a (exo a C (some dx)))
theorem Same.del {H H2 : Hp} {a d : Addr} {o : HO} (na : H a = none) (nd : H d = none) (h : ∀ b u, b ≠ a → H b = some u → H2 b = some u) : Same H (upd (del H2 a) d o) := fun b u e => by
  rw [upd_ne (ne_of_none e nd), del_ne (ne_of_none e na)]
  exact h b u (ne_of_none e na) e
/-! ### a def whose code object is known -/
structure FunC (K : PySem.W.Frag) (x : Str) (st : Stmt) (f : Addr) (fd : FuncData) (c : Addr) : Prop where
  ex : ∃ (oc : Value) (od : Option Addr) (kV doc pm : Value) (an : Option Addr) (ct : Value) (osl : Array (Option Value)),
    fd = PySem.W.fnOf x x (defArgs st) (defBody st) (defScope st) .none kV doc pm an (.ref c) ct ∧ K.lookup f = some ⟨oc, od, .func fd, osl⟩ ∧ PySem.W.codeIn K (.ref c) x = true
theorem FunC.ok {P : Program} {w : World} {K : PySem.W.Frag} {mg : Str → Option Value} {base : Heap} {x : Str} {st : Stmt} {f c : Addr} {fd : FuncData} {N ps : List Str} {k : Nat} {sp : Sp} (F : FunC K x st f fd c) (S : FnScope N ps (defScope st)) (len : ∀ vs H Q E, sp vs H Q E → vs.length = ps.length)
    (hbody : ∀ (A : Around) (outer : List Env) (s : Shared) (H : Hp) (vs : List V) (Q : VK) (E : XK), Room k (A.deeper (envOfC x (defScope st) s.heap.objs.size f (.ref c))) → sp vs H Q E →
      ∃ t, PSs (cxOf CX0 P w K mg base N x (defScope st) f (.ref c) A outer s H E).nox (defBody st) t ∧ t { nx := fun _ H' => Q .non H', rt := Q } (L2.start N vs) H) : FnOk P w K mg base CX0 (k + 1) f fd ps sp := by
  obtain ⟨oc, od, kV, doc, pm, an, ct, osl, rfl, lk, hcd⟩ := F.ex
  refine fn_of lk hcd S len fun A outer s H vs Q E hr hsp => ?_
  obtain ⟨t, h, q⟩ := hbody A outer s H vs Q E hr hsp
  exact ⟨t, h.nox, q⟩
theorem ExtN.same {H H' : Hp} (s : Same H H') : LamX.ExtN H H' := fun b o e _ => s b o e
/-! ### the end with tables -/
theorem walk_T {l : PySem.W.OpenLaw} {n k : Nat} {q : Program} {loose : List Str} {XP : (Str → Option Value) → Heap → Prop} {YP : World → Heap → Prop} {d : DefRec} {K : Params → PySem.W.Frag} {CX : World → CXT} {x : Str}
    (hn : l.most = some n) (hn2 : n ≤ sizeLine) (hdf : d.params.defaults = []) (hr : Room k callerA) (hY : ∀ (w : World) (h : Heap), YP w h → (K w.params).In h)
    (F : ∀ (w : World) (lo : List Str) (mean : ExcName → Option Value) (mg mb : Str → Option Value) (fa : Addr) (h : Heap), Top q lo mean mg mb h → (K w.params).In h → mg d.name = some (.ref fa) → LamX.LawAtS l w (K w.params) (CX w) k n x mg fa h)
    (hCX : ∀ (w : World) (H : Hp) (s : Shared) (e : Value) (s' : Shared), CX w [] H s (fun _ _ _ => False) e s' → False) :
    PySem.W.WalkO q loose XP YP l.row.toRowW d [] (fun f vs => PySem.call f vs) := by
  refine Att.attach_callB hn hdf fun w s₀ s₁ mg mb fa o pm cd doc a vs ns G Y ho hd hcd hmg hobj hints hlen hbits hg => ?_
  have KX := hY w _ Y
  obtain ⟨fd, cs, sp, hT, nT, C, hb, hsp, hF⟩ := F w _ _ mg mb fa _ G.T KX hmg
  exact LamX.law_callTs KX G.T.g G.T.b G.T.builtins G.T.nolimit hg hT nT C G.T.bmain hobj hints (Nat.le_trans hlen hn2) hr hF hb (fun H hH hS => hsp H a ns hlen hbits hH hS) fun H e s' => hCX w H s₁ e s'
theorem exm_by {K : PySem.W.Frag} {S : Addr} {cls : Value} {b : Bool} (h1 : PySem.W.subIn K (.ref S) (.type "BaseException") = some true) (h2 : PySem.W.isClsIn K S = true) (h3 : PySem.W.typeIn K (.ref S) = some (.type "type")) (h4 : PySem.W.subIn K cls (.ref S) = some b) :
    PySem.W.exmOne K cls (.ref S) = some b := by
  have e1 : (PySem.W.subIn K (.ref S) (.type "BaseException") == some true) = true := by rw [h1] <;> rfl
  have e2 : ((PySem.W.clsIn K S).isSome && PySem.W.typeIn K (.ref S) == some (.type "type")) = true := by
    have h2' : (PySem.W.clsIn K S).isSome = true := h2
    rw [h2', h3] <;> rfl
  unfold PySem.W.exmOne PySem.W.kitCls
  rw [if_pos e1]
  exact (if_pos e2).trans h4
theorem exm_any {K : PySem.W.Frag} {c1 c2 cls : Value} (h1 : PySem.W.exmOne K cls c1 = some true) (h2 : PySem.W.exmOne K cls c2 = some false) : PySem.W.exmAny K cls [c1, c2] = some true := by
  unfold PySem.W.exmAny PySem.W.exmAny PySem.W.exmAny
  rw [h1, h2]
  rfl
/-! ### calls with keywords alone -/
theorem pe_callN0 {X : Cx} {CX : CXT} {k : Nat} {f : Addr} {fd : FuncData} {ps ks : List Str} {sp : Sp} {E : XK} {x : Str} {p pos : Pos} {kws : List Keyword} {tk : TA} {g : List Value → List Value → List Value} {gV : List V → List V → List V}
    (F : FnOk X.prog X.w X.K X.mg X.base CX k f fd ps sp) (hr : Room k X.A) (hg : Gl X x) (hm : X.mg x = some (.ref f)) (hk : PySem.W.keepIn X.K (.ref f) = true) (hb : KBn X.K fd ps 0 ks g gV) (hx : Passes CX X E) (hkw : PK X kws tk)
    (hall : (backToKw pos (keywordEach kws X.env)).all (·.1.isSome) = true := by rfl) (hks : (backToKw pos (keywordEach kws X.env)).filterMap (·.1) = ks := by rfl) (hdb : (x == ("__debug__" : Str)) = false := by decide)
    (hpl : ((backTo pos (starEach [] X.env)).any (·.1) || (backToKw pos (keywordEach kws X.env)).any (·.1.isNone)) = false := by rfl) :
    PE X (.Call (.Name x p) [] kws pos) (fun σ H Q => tk σ H fun zs H2 => zs.length = ks.length ∧ sp (gV [] zs) H2 Q E) := by
  refine ⟨fun pins s σ H Q I h => wpAny_Call_Name_kw (ld_glob I hg hm (PySem.W.callWith_KW0 (h₀ := X.base) I.ok.mod.kin hk hall (thn (hkw.run pos pins s σ H _ I h) fun ws s2 ⟨zs, H2, I2, rz, l2, q2⟩ => ⟨I2.kIn, ?_⟩) hpl) hdb)⟩
  rw [hks]
  exact run_fnN (us := []) (vs := []) F hr hb hx I2 .nil rz rfl l2 q2
/-- two values in the other order -/
theorem swap_rel : ∀ {vs : List V} {us : List Value} {zs : List V} {ws : List Value}, Vals vs us → Vals zs ws → Vals [zs.getD 1 .non, zs.getD 0 .non] [ws.getD 1 Value.none, ws.getD 0 Value.none]
  | _, _, _, _, _, .nil => .cons rfl (.cons rfl .nil)
  | _, _, _, _, _, .cons r .nil => .cons rfl (.cons r .nil)
  | _, _, _, _, _, .cons r (.cons r2 _) => .cons r2 (.cons r .nil)
/-! ### list(text); text * number -/
theorem call_list_text {X : Cx} (hc : X.calm = true) : CallR X (.type "list") (fun xs H Q => ∃ z : Str, xs = [.str z] ∧ z.length ≤ sizeLine ∧ ∀ p, H p = none → Q (.ref p) (upd H p (.lst (z.cps.toList.map fun c => V.str ⟨#[c]⟩)))) := by
  intro pn s σ H xs us Q I r h
  obtain ⟨z, e, hz, q⟩ := h
  subst e
  obtain ⟨u, eu, rx⟩ := vals1 r
  subst eu
  obtain ⟨t, rfl⟩ := rx
  refine call_list_str (I.ok.hd hc) z t (fun h' tk acc' c' hkeep hS hacc => ?_) hz
  refine ⟨.ref s.heap.objs.size, upd H s.heap.objs.size (.lst (z.cps.toList.map fun c => V.str ⟨#[c]⟩)), I.laid hkeep (Nat.le_refl _) (show ObjOk X.prog X.w _ _ _ (.lst (z.cps.toList.map fun c => V.str ⟨#[c]⟩)) from ⟨?_, acc'.toList, c', ?_, ?_⟩), rfl, q _ (I.hok.fresh (Nat.le_refl _))⟩
  · rw [List.length_map]
    exact hz
  · refine vals_of_idx _ _ (by rw [List.length_map, Array.length_toList, Array.length_toList, hacc.1]) fun j v hj => ?_
    obtain ⟨c, u, hc2, rfl⟩ := hacc.2 j v (by rw [← Array.getElem?_toList]; exact hj)
    refine ⟨.str ⟨#[c]⟩, ?_, ⟨_, rfl⟩⟩
    rw [List.getElem?_map, Array.getElem?_toList, hc2]
    rfl
  · exact hS
theorem op_mul_str {X : Cx} : OpR X (binaryOp .Mult) (fun x y H Q => ∃ (z : Str) (n : Int), x = .str z ∧ y = .int n ∧ MulOk z n ∧ Q (.str (Txt.mul z n)) H) := by
  intro pn s σ H x y v u Q I rx ry h
  obtain ⟨z, n, rfl, rfl, hz, q⟩ := h
  obtain ⟨t, rfl⟩ := rx
  obtain ⟨t', rfl⟩ := ry
  exact PySem.SB.mul hz fun t' tk => ⟨.str (Txt.mul z n), H, I.tok _, ⟨_, rfl⟩, q⟩
/-! ### sets of texts: what an add keeps -/
open PySem.Froz
structure TxW (P : Program) (w : World) (D : SD) (l : List Str) : Prop where
  ok : TxOk P w D l
  ris : Ris D.2.2.place.toList
  led : w.params.followText "set-order" = true ∨ D.2.2.led = true
theorem tail_keeps {ep : Nat} {es : Array (Int × Value)} {t : SetTable} {b : Bool} (r : Ris t.place.toList) : Ris (tailTx ep es t b).2.2.place.toList ∧ (tailTx ep es t b).2.2.led = t.led := by
  unfold tailTx
  split
  · exact ⟨relayAll_ris t es _, relayAll_led t es _⟩
  · exact ⟨r, rfl⟩
theorem add_keeps {D : SD} {h : Int} {v : Value} (r : Ris D.2.2.place.toList) : Ris (addTx h v D).2.2.place.toList ∧ (addTx h v D).2.2.led = D.2.2.led := by
  have r1 := layNew_ris D.2.2 D.1 h v r
  have l1 := layNew_led D.2.2 D.1 h v
  have key : ∀ t : SetTable, Ris t.place.toList → t.led = D.2.2.led → Ris (if t.plain = true then { t with plain := false } else t).place.toList ∧ (if t.plain = true then { t with plain := false } else t).led = D.2.2.led := fun t a b => by
    split <;> exact ⟨a, b⟩
  obtain ⟨k1, k2⟩ := key _ r1 l1
  obtain ⟨t1, t2⟩ := tail_keeps (ep := D.2.1) (es := (layNew D.2.2 D.1 h v).1) (b := (layNew D.2.2 D.1 h v).2.2.1) k1
  exact ⟨t1, t2.trans k2⟩
theorem TxW.add {P : Program} {w : World} {D : SD} {l : List Str} {k : Str} (u : Tok) (F : TxW P w D l) : TxW P w (addTx (hashStr w k) (.str k u) D) (k :: l) := by
  obtain ⟨a, b⟩ := add_keeps (D := D) (h := hashStr w k) (v := .str k u) F.ris
  exact ⟨add_ok u F.ok, a, F.led.imp id fun z => b.trans z⟩
section
variable {A : Around} {s : Shared} {P : Program} {w : World} {E : Value → Shared → Prop}
/-- a text that is there already -/
theorem add_there {a : Addr} {T : String} {D : SD} {l : List Str} {k : Str} {u : Tok} {Q : Bool → Shared → Prop} (ho : s.heap.get? a = some (sObj T D)) (F : TxOk P w D l) (hk : k ∈ l) (hb : l.length < scanBound)
    (h : Q false s) : wpAny (model P w) A (setAddHashed a (.str k u) (hashStr w k)) Q E s := by
  obtain ⟨es, ep, t⟩ := D
  obtain ⟨el, mem, sz, fit⟩ := F
  obtain ⟨e, he, hp⟩ := (mem k).mp hk
  have small : es.size < scanBound := Nat.lt_of_le_of_lt (Nat.le_of_eq sz) hb
  obtain ⟨j, hj⟩ : ∃ j, List.findIdx? (fun e => (strKind P w).is k e.2) es.toList = some j := by
    cases q : List.findIdx? (fun e => (strKind P w).is k e.2) es.toList with
    | some j => exact ⟨j, rfl⟩
    | none =>
      have c := List.findIdx?_eq_none_iff.mp q e he
      rw [hp] at c
      cases c
  unfold setAddHashed; unfold setAddHashedIn
  refine wpAny_holding (wpAny_bind (wpAny_setState_of ho (ep := ep) (es := es) (t := t) rfl fit ?_))
  dsimp only
  rw [byScan_of rfl small el, if_pos rfl]
  unfold setAddByScan
  refine wpAny_bind (wpAny_bind (wpAny_rule (wpAny_bind (wpAny_setScan_of (knd := strKind P w) (k := k) (is_str k u) ho rfl fit el ?_))))
  rw [hj]
  exact wpAny_pure <| wpAny_pure h
/-- either way -/
def ins (k : Str) (l : List Str) : List Str := if k ∈ l then l else k :: l
theorem add_any {a : Addr} {T : String} {D : SD} {l : List Str} {k : Str} {u : Tok} {Q : Bool → Shared → Prop} (ho : s.heap.get? a = some (sObj T D)) (F : TxW P w D l) (hb : l.length + 1 < scanBound)
    (h : ∀ b h' D', TxW P w D' (ins k l) → h'.get? a = some (sObj T D') → (∀ c o, c ≠ a → s.heap.get? c = some o → h'.get? c = some o) → h'.objs.size = s.heap.objs.size → Q b { s with heap := h' }) : wpAny (model P w) A (setAddHashed a (.str k u) (hashStr w k)) Q E s := by
  by_cases hk : k ∈ l
  · refine add_there ho F.ok hk (by omega) (h false s.heap D ?_ ho (fun _ _ _ e => e) rfl)
    unfold ins
    rw [if_pos hk]
    exact F
  · refine add_x ho F.ok hk hb (h true _ _ ?_ (get_upd _ ho rfl) (fun c o hc e => ?_) ?_)
    · unfold ins
      rw [if_neg hk]
      exact F.add u
    · exact (Heap.get?_update_other _ _ (Ne.symm hc)).trans e
    · exact Heap.size_update _ _ _
end
def insAll : List Str → List Str → List Str
  | [], l => l
  | x :: xs, l => insAll xs (ins x l)
theorem ins_len (x : Str) (l : List Str) : (ins x l).length ≤ l.length + 1 := by
  unfold ins
  split
  · omega
  · exact Nat.le_refl _
theorem ins_mem (x y : Str) (l : List Str) : y ∈ ins x l ↔ y = x ∨ y ∈ l := by
  unfold ins
  split
  · rename_i h
    exact ⟨.inr, fun z => z.elim (fun e => e ▸ h) id⟩
  · exact List.mem_cons
theorem ins_nodup {x : Str} {l : List Str} (h : l.Nodup) : (ins x l).Nodup := by
  unfold ins
  split
  · exact h
  · rename_i n
    exact List.nodup_cons.mpr ⟨n, h⟩
theorem insAll_mem (y : Str) : ∀ xs l : List Str, y ∈ insAll xs l ↔ y ∈ xs ∨ y ∈ l
  | [], l => by simp [insAll]
  | x :: xs, l => by
    show y ∈ insAll xs (ins x l) ↔ _
    rw [insAll_mem y xs, ins_mem, List.mem_cons]
    constructor
    · rintro (h | h | h)
      · exact .inl (.inr h)
      · exact .inl (.inl h)
      · exact .inr h
    · rintro ((h | h) | h)
      · exact .inr (.inl h)
      · exact .inl h
      · exact .inr (.inr h)
theorem insAll_nodup : ∀ (xs : List Str) {l : List Str}, l.Nodup → (insAll xs l).Nodup
  | [], _, h => h
  | _ :: xs, _, h => insAll_nodup xs (ins_nodup h)
theorem insAll_len : ∀ (xs l : List Str), (insAll xs l).length ≤ xs.length + l.length
  | [], l => by simp [insAll]
  | x :: xs, l => by
    have h1 := insAll_len xs (ins x l)
    have h2 := ins_len x l
    show (insAll xs (ins x l)).length ≤ xs.length + 1 + l.length
    omega
section
variable {prog : Program} {w : World} {A : Around} {R : Result → Shared → Prop} {I : Addr} {fp wr : List Addr} {G : Array GenState → Array GenState → Prop} {n : Nat} {Pv : Nat → Value → Prop} {St : Nat → Shared → Prop}
theorem upd_loop (W : WalksS prog w A.in1 I fp wr G n Pv St) (a : Addr) (hf : a ∉ fp) (xs : List Str) (hl : xs.length = n) (hv : ∀ i v, Pv i v → ∃ t, v = .str (xs.getD i Str.empty) t) (hb : n + 1 < scanBound) :
    ∀ (k i : Nat) (s : Shared) (D : SD) (l : List Str), n - i = k → i ≤ n → l.length ≤ i → St i s → s.heap.get? a = some (sObj "set" D) → TxW prog w D l →
      (∀ s' D', Moved (a :: wr) G s s' → s'.heap.get? a = some (sObj "set" D') → TxW prog w D' (insAll (xs.drop i) l) → R (.ok (.ret .none)) s') →
      codeAny (model prog w) A (.builtin "set.update.loop" ⟨[.ref a, .ref I], []⟩) R s := by
  have haw : a ∉ wr := fun h => hf (W.sub _ h)
  have more : ∀ b ∈ wr, b ∈ a :: wr := fun b h => List.mem_cons_of_mem _ h
  intro k
  induction k with
  | zero =>
    intro i s D l hk hi _ hst ho F hR
    have e : i = n := by omega
    refine codeAny_builtin PyProof.Rows.F.entry_set_update_loop (by
      rw [(Around.under_plainId PyProof.Rows.F.plain_set_update_loop _)]
      refine wpAny_bind (W.done s _ _ (e ▸ hst) fun s' hm => wpAny_pure (hR s' D (hm.mono more) (hm.heap a _ haw ho) ?_))
      rw [e, ← hl, List.drop_length]
      exact F)
  | succ k ih =>
    intro i s D l hk hi hll hst ho F hR
    have lt : i < n := by omega
    refine codeAny_builtin PyProof.Rows.F.entry_set_update_loop (by
      rw [(Around.under_plainId PyProof.Rows.F.plain_set_update_loop _)]
      refine wpAny_bind (W.item i s _ _ lt hst fun v s1 hp hst1 hm => ?_)
      obtain ⟨t, rfl⟩ := hv i v hp
      have ho1 := hm.heap a _ haw ho
      show wpAny _ A.in1 (holding [Value.str (xs.getD i Str.empty) t] (setAdd a (.str (xs.getD i Str.empty) t)) >>= _) _ _ s1
      refine wpAny_bind (wpAny_holding (by
        unfold setAdd
        refine wpAny_holding (wpAny_bind ((strKind prog w).pyHash (k := xs.getD i Str.empty) (is_str _ _) ?_))
        refine add_any (s := { s1 with toks := s1.toks + 1 }) ho1 F (by omega) fun b h2 D2 F2 ho2 oth sz => ?_
        have hd : xs.drop i = xs.getD i Str.empty :: xs.drop (i + 1) := by
          have : i < xs.length := by omega
          rw [List.drop_eq_getElem_cons this]
          congr 1
          rw [List.getD_eq_getElem?_getD, List.getElem?_eq_getElem this]
          rfl
        have il := ins_len (xs.getD i Str.empty) l
        refine wpAny_pure ⟨plainId_quiet PyProof.Rows.F.plain_set_update_loop _, ih (i + 1) _ D2 _ (by omega) lt (by omega) (W.frame _ s1 _ _ hst1 (Nat.le_succ _) fun b hb o e => oth b o (fun z => hf (z ▸ hb)) e) ho2 F2 fun s3 D3 hm3 ho3 F3 => ?_⟩
        refine hR s3 D3 (Moved.trans W.gtrans ((hm.mono more).then_heap (Nat.le_succ _) fun b o hb e => oth b o (fun z => hb (by rw [z]; exact List.mem_cons_self)) e) hm3) ho3 ?_
        rw [hd]
        exact F3)))
end
section
variable {A : Around} {s : Shared} {prog : Program} {w : World} {E : Value → Shared → Prop}
/-- a new set's table -/
abbrev tb0 (w : World) : SetTable := .fresh 0 0 (!w.params.followText "set-order")
theorem new_keeps (P : Program) (w : World) : TxW P w (#[], 0, tb0 w) [] := by
  refine ⟨TxOk.nil (by rfl), List.Pairwise.nil, ?_⟩
  show (_ ∨ (!w.params.followText "set-order") = true)
  cases w.params.followText "set-order" <;> simp
theorem code_new1 (x : Value) {Q₁ : Value → Shared → Prop} (h : Q₁ (.ref s.heap.objs.size) { s with heap := s.heap.push (sObj "set" (#[], 0, tb0 w)) }) :
    codeAny (model prog w) A (.call (.builtin "set.__new__") ⟨[.type "set", x], []⟩) (wants Q₁ E) s := by
  refine codeAny_of_tree (wpAny_bind (wpAny_of_eq (PySem.F.newCall_set_1 x) (wpAny_pure ⟨plainId_quiet PySem.F.plain_set_new _, codeAny_builtin PySem.F.entry_set_new (by
    rw [Around.under_plainId PySem.F.plain_set_new _]
    unfold Builtin.«set.__new__»; unfold Builtin.Frozenset.newClass
    have self := PySem.sub_set_self
    obtain ⟨hp0, g0, d0, tk0, os0⟩ := s
    dsimp only
    wp_walk
    refine wpAny_askSetting (wpAny_pure (by
      dsimp only
      simp only [newObj]
      exact wpAny_bind (wpAny_alloc (wpAny_pure (wpAny_pure h))))))⟩)))
theorem str_at : ∀ {us : List Value} {ys : List Str}, StrsAre us ys → ∀ (i : Nat) (v : Value), us[i]? = some v → ∃ t, v = .str (ys.getD i Str.empty) t
  | _, _, .cons y t _, 0, v, e => ⟨t, (Option.some.inj e).symm⟩
  | _, _, .cons _ _ r, i + 1, v, e => str_at r i v e
theorem call_set_texts {l : Addr} {items : Array Value} {xs : List Str} {Q : Value → Shared → Prop} (hh : A.handled = none) (hl : s.heap.IsList l items) (hi : StrsAre items.toList xs) (hb : xs.length + 1 < scanBound)
    (h : ∀ (h' : Heap) (tk : Nat) (D : SD), TxW prog w D (insAll xs []) → h'.get? s.heap.objs.size = some (sObj "set" D) → (∀ b o, b < s.heap.objs.size → s.heap.get? b = some o → h'.get? b = some o) → Q (.ref s.heap.objs.size) { s with heap := h', toks := tk }) :
    (wpAny (model prog w) A (call (.type "set") [.ref l]) Q E s) := by
  obtain ⟨c, tl, mro⟩ := PySem.F.called_set.mro
  have made := PySem.F.called_set.made; have subs := PySem.F.called_set.sub
  refine wpAny_call (codeAny_of_tree (wpAny_pure ⟨Code.quiet_builtin _ (by decide +kernel), codeAny_builtin PySem.F.entry_type_call (by
    rw [(Around.under_plain (weight_type_call_type "set" [.ref l] []) rfl)]
    have n1 := PySem.F.called_set.notType; have n2 := PySem.F.called_set.canCreate; have n3 := PySem.F.typeCall_set_1 (.ref l)
    repeat (any_goals first | assumption | wp_step)
    refine codeAny_mono (code_new1 (.ref l) (E := E) (Q₁ := fun obj s1 => obj = .ref s.heap.objs.size ∧ s1 = { s with heap := s.heap.push (sObj "set" (#[], 0, tb0 w)) }) ⟨rfl, rfl⟩) fun r s1 hr => ?_
    match r, hr with
    | .error e, hr => exact hr
    | .ok (.ret obj), hr =>
      obtain ⟨rfl, rfl⟩ := hr
      have hN : (s.heap.push (sObj "set" (#[], 0, tb0 w))).get? s.heap.objs.size = some (sObj "set" (#[], 0, tb0 w)) := Heap.get?_push_size _ rfl
      have hT : Shared.TypeIs { s with heap := s.heap.push (sObj "set" (#[], 0, tb0 w)) } (.ref s.heap.objs.size) "set" := ⟨_, hN, rfl⟩
      have i1 := PySem.F.called_set.init.lookup; have i2 := PySem.F.called_set.init.bind (.ref s.heap.objs.size)
      repeat (any_goals first | assumption | wp_step)
      refine codeAny_mono (codeAny_call_builtin (R := wants (fun r s2 => r = .none ∧ ∃ h' tk D, s2 = { s with heap := h', toks := tk } ∧ TxW prog w D (insAll xs []) ∧ h'.get? s.heap.objs.size = some (sObj "set" D) ∧
          (∀ b o, b < s.heap.objs.size → s.heap.get? b = some o → h'.get? b = some o)) E) PySem.F.called_set.init.plain PySem.F.entry_set_init (check_set_init_1 hT ?_)) fun r2 s2 hr2 => ?_
      · obtain ⟨⟨oc, od, da, os⟩, ho, hc, nl, hd⟩ := hl
        simp only at hc hd
        subst hc hd
        have ho2 : (s.heap.push (sObj "set" (#[], 0, tb0 w))).get? l = some { cls := .type "list", dict := od, data := .seq items nl, slots := os } := Heap.get?_push_of_some _ ho
        have q1 := PySem.F.sub_list_set; have q2 := PySem.F.sub_list_frozenset; have q3 : (Value.type "list" == Value.type "dict") = false := by decide
        have hl1 : (s.heap.push (sObj "set" (#[], 0, tb0 w))).IsList l items := ⟨_, ho2, rfl, nl, rfl⟩
        unfold Builtin.«set.__init__»; unfold noKeywords; unfold Builtin.Frozenset.updateFrom
        generalize hPI : pyIter = PI
        wp_walk
        subst hPI
        refine wpAny_pyIter_list hl1 (wpAny_bind (wpAny_runValue ?_))
        have lS : l < s.heap.objs.size := Heap.lt_size ho
        have h3 : A.in1.in1.in1.handled = none := by simp [hh]
        have neI : l ≠ (s.heap.push (sObj "set" (#[], 0, tb0 w))).objs.size := by
          rw [Heap.size_push]
          exact Nat.ne_of_lt (Nat.lt_succ_of_lt lS)
        have nfp : s.heap.objs.size ∉ [(s.heap.push (sObj "set" (#[], 0, tb0 w))).objs.size, l] := by
          rw [Heap.size_push]
          intro z
          rcases (List.mem_cons.mp z) with z | z
          · omega
          · rw [List.mem_singleton] at z
            exact absurd z (Nat.ne_of_gt lS)
        have len : xs.length = items.size := by rw [← StrsAre.len_eq hi, Array.length_toList]
        refine upd_loop ((Walks.list h3 _ l neI items).toS) s.heap.objs.size nfp xs len (fun i v hv => str_at hi i v (by rw [Array.getElem?_toList]; exact hv)) (by omega) (items.size - 0) 0 _ (#[], 0, tb0 w) [] (by omega) (Nat.zero_le _) (Nat.le_refl _)
          ⟨⟨_, Heap.get?_push_size _ rfl, rfl, rfl⟩, hl1.push _⟩ (Heap.get?_push_of_some _ hN) (new_keeps _ _) fun s3 D3 hm ho3 F3 => ?_
        obtain ⟨h', g', d', tk', os'⟩ := s3
        obtain rfl : g' = s.gens := hm.gens
        obtain rfl : d' = s.drawn := hm.drawn
        obtain rfl : os' = s.os := hm.os
        refine wpAny_pure (wpAny_pure ⟨rfl, h', tk', D3, rfl, F3, ho3, fun b o hb e => hm.heap b o (fun z => ?_) (Heap.get?_push_of_some _ (Heap.get?_push_of_some _ e))⟩)
        rcases (List.mem_cons.mp z) with z | z
        · exact absurd z (Nat.ne_of_lt hb)
        · rw [List.mem_singleton, Heap.size_push] at z
          exact absurd z (Nat.ne_of_lt (Nat.lt_succ_of_lt hb))
      · match r2, hr2 with
        | .error e, hr2 => exact hr2
        | .ok (.ret v), hr2 =>
          obtain ⟨rfl, h', tk, D, rfl, F, ho3, hold⟩ := hr2
          repeat (any_goals first | assumption | wp_step)
          exact h _ _ _ F ho3 hold
        | .ok .next, hr2 => exact hr2.elim
        | .ok .brk, hr2 => exact hr2.elim
        | .ok .cont, hr2 => exact hr2.elim
    | .ok .next, hr => exact hr.elim
    | .ok .brk, hr => exact hr.elim
    | .ok .cont, hr => exact hr.elim)⟩))
end
/-- the set at a holds the texts l -/
def SetW (P : Program) (w : World) (a : Addr) (l : List Str) : HO := .ext fun h => ∃ D, h.get? a = some (sObj "set" D) ∧ TxW P w D l
theorem setW_ok {P : Program} {w : World} {H : Hp} {h : Heap} {a : Addr} {D : SD} {l : List Str} (ho : h.get? a = some (sObj "set" D)) (F : TxW P w D l) : ObjOk P w H h a (SetW P w a l) :=
  ⟨⟨D, ho, F⟩, ⟨_, ho⟩, fun h1 h2 z k => by
    obtain ⟨D', e, F'⟩ := z
    exact ⟨D', k _ e, F'⟩⟩
theorem perm_of : ∀ (l ys : List Str), l.Nodup → (∀ y ∈ l, y ∈ ys) → ys.length = l.length → ys.Perm l
  | [], ys, _, _, e => by
    rw [List.length_eq_zero_iff.mp e]
  | y :: l, ys, n, h, e => by
    obtain ⟨n1, n2⟩ := List.nodup_cons.mp n
    obtain ⟨p, q, rfl⟩ := List.append_of_mem (h y List.mem_cons_self)
    have pm : (p ++ y :: q).Perm (y :: (p ++ q)) := List.perm_middle
    refine pm.trans (List.Perm.cons y (perm_of l (p ++ q) n2 (fun z hz => ?_) ?_))
    · have zy : z ≠ y := fun c => n1 (c ▸ hz)
      rcases List.mem_append.mp (h z (List.mem_cons_of_mem _ hz)) with c | c
      · exact List.mem_append_left _ c
      · rcases List.mem_cons.mp c with c | c
        · exact absurd c zy
        · exact List.mem_append_right _ c
    · simp only [List.length_append, List.length_cons] at e ⊢
      omega
theorem strs_are : ∀ (vs : List Value), (∀ v ∈ vs, ∃ y t, v = Value.str y t) → ∃ ys, StrsAre vs ys
  | [], _ => ⟨[], .nil⟩
  | v :: vs, h => by
    obtain ⟨y, t, rfl⟩ := h _ List.mem_cons_self
    obtain ⟨ys, r⟩ := strs_are vs fun u hu => h u (List.mem_cons_of_mem _ hu)
    exact ⟨y :: ys, .cons y t r⟩
theorem strs_mem : ∀ {vs : List Value} {ys : List Str}, StrsAre vs ys → ∀ y t, Value.str y t ∈ vs → y ∈ ys
  | _, _, .cons z u r, y, t, h => by
    rcases (List.mem_cons.mp h) with e | e
    · injection e with e1 e2
      rw [e1]
      exact List.mem_cons_self
    · exact List.mem_cons_of_mem _ (strs_mem r y t e)
section
variable {X : Cx}
/-- set(xs), xs a list of texts -/
theorem cr_setS (hc : X.calm = true) : CallR X (.type "set") (fun vs H Q => ∃ (p : Addr) (ys : List Str), vs = [.ref p] ∧ SqL X.K H p (ys.map V.str) ∧ ys.length ≤ 1000 ∧ ∀ q, H q = none → Q (.ref q) (upd H q (SetW X.prog X.w q (insAll ys [])))) := by
  intro pn s σ H vs us Q I r h
  obtain ⟨p, ys, rfl, hq, hz, q⟩ := h
  rw [Vals.ref1 r]
  obtain ⟨its, rv, pl, _⟩ := I.list hq
  refine call_set_texts (I.ok.hd hc) pl.isList (by simpa using L2.strsAre_of rv) (by unfold scanBound; omega) fun h' tk D F ho keep => ?_
  exact ⟨.ref _, _, I.laid (t' := tk) (fun b o e => keep b o (Heap.lt_size e) e) (Nat.le_refl _) (setW_ok ho F), rfl, q _ (I.hok.fresh (Nat.le_refl _))⟩
/-- sorted(S), S a set of texts -/
theorem cr_sortedW (hc : X.calm = true) : CallR X (.builtin "sorted") (fun vs H Q => ∃ (a : Addr) (l : List Str), vs = [.ref a] ∧ H a = some (SetW X.prog X.w a l) ∧ l.Nodup ∧ l.length < 64 ∧
    ∀ (ys : List Str) (p : Addr), ys.Perm l → sortedS ys = true → H p = none → Q (.ref p) (upd H p (.lst (ys.map V.str)))) := by
  intro pn s σ H vs us Q I r h
  obtain ⟨a, l, rfl, ha, nd, l64, q⟩ := h
  rw [Vals.ref1 r]
  obtain ⟨⟨es, ep, t⟩, ho, F⟩ := (I.hok a _ ha).1
  have sz : es.size = l.length := F.ok.sz
  have small : es.size < scanBound := by unfold scanBound; omega
  refine Calls.call_function_entry PyProof.Rows.kind_sorted PyProof.Rows.plain_sorted PyProof.Rows.entry_sorted (PyProof.Rows.args_sorted1 _) (by
    unfold Builtin.«sorted»
    refine wpAny_bind (m := checkCount "sorted" 1 1 _) (wpAny_pure (wpAny_bind (collect_set (A := X.A.in1) (I.ok.hd hc) ⟨_, ho, rfl, rfl⟩ F.ok.fit small F.ris F.led fun s1 out k1 hz g1 o1 pm => ?_)))
    have all : ∀ v ∈ out, ∃ y u, v = Value.str y u := fun v hv => by
      obtain ⟨e, he, rfl⟩ := List.mem_map.mp (pm.mem_iff.mp hv)
      obtain ⟨⟨k, hk, _⟩, _⟩ := F.ok.el e he
      obtain ⟨u, ev⟩ := Value.isStrOf_shape (x := k) (v := e.2) hk
      exact ⟨k, u, ev⟩
    obtain ⟨zs, hS⟩ := strs_are out all
    have len : out.length = es.size := by rw [pm.length_eq, List.length_map, Array.length_toList]
    have zl : zs.length = l.length := by rw [← hS.len_eq, len, sz]
    have zp : zs.Perm l := perm_of l zs nd (fun y hy => by
      obtain ⟨e, he, z⟩ := (F.ok.mem y).mp hy
      obtain ⟨u, ev⟩ := Value.isStrOf_shape (x := y) (v := e.2) z
      refine strs_mem hS y u (pm.mem_iff.mpr ?_)
      rw [← ev]
      exact List.mem_map.mpr ⟨e, he, rfl⟩) zl
    have o64 : out.length < 64 := by rw [len, sz]; exact l64
    have hoL : (s1.heap.push (seqObj "list" out.toArray 0)).get? s1.heap.objs.size = some (seqObj "list" out.toArray 0) := Heap.get?_push_size _ rfl
    refine wpAny_bind (wpAny_newList (wpAny_bind (wpAny_holding (wpAny_call_entry PyProof.Rows.slot_list_sort ⟨_, hoL, rfl⟩ PyProof.Rows.entry_list_sort
      (list_sort_treeK strKind_oneLt (s := { s1 with heap := s1.heap.push (seqObj "list" out.toArray 0) }) hoL hS.keysOf (fun v₁ v₂ rest e => keyKind_strs (by rw [← e]; exact hS)) o64 fun st' hp hs => ⟨_, rfl, by
        obtain ⟨ys, r1, r2, r3⟩ := sorted_out_str hS hp hs
        obtain ⟨c, hc2⟩ := PyProof.Rows.sortedHeap_at (vs := out) (out := (arrOf st').map (·.2)) hoL
        have hn : H s1.heap.objs.size = none := I.hok.fresh hz
        have ylen : (ys.map V.str).length ≤ sizeLine := by
          rw [List.length_map, r2.length_eq, zl]
          exact Nat.le_trans (Nat.le_of_lt l64) (by decide)
        have k2 : ∀ b u, s.heap.get? b = some u → (PyProof.Rows.sortedHeap (s1.heap.push (seqObj "list" out.toArray 0)) s1.heap.objs.size out ((arrOf st').map (·.2))).get? b = some u := fun b u e => by
          have lt := Heap.lt_size (k1 b u e)
          rw [PyProof.Rows.sortedHeap_old (Nat.ne_of_lt lt) (by rw [size_push']; exact Nat.lt_succ_of_lt lt)]
          exact Heap.get?_push_of_some _ (k1 b u e)
        obtain ⟨hp1, gn1, dr1, tk1, os1⟩ := s1
        dsimp only at g1 o1 hn k2 hc2 ⊢
        subst g1 o1
        refine wpAny_pure ⟨_, rfl, .ref hp1.objs.size, upd H hp1.objs.size (.lst (ys.map V.str)), ?_, rfl, q ys _ (r2.trans zp) r3 hn⟩
        exact I.call (ch := []) (Un.laid k2 hz hn) (I.hok.laid k2 hz ⟨ylen, ((arrOf st').map (·.2)).toList, c, vals_of_strs r1, by rw [Array.toArray_toList]; exact hc2⟩) I.bare (fun _ z => nomatch z)⟩) (PyProof.Rows.args_list_sort _)))) (by rw [sizeLine_eq]; omega)))
end
/-! ### names: the plain mathematics -/
def lowc (c : Nat) : Bool := decide (97 ≤ c) && decide (c ≤ 122)
def upc (c : Nat) : Bool := decide (65 ≤ c) && decide (c ≤ 90)
theorem uni_alpha : ∀ c : Nat, c < 128 → Unicode.isAlpha c = (lowc c || upc c) := by decide +kernel
theorem uni_lower : ∀ c : Nat, c < 128 → Unicode.isLower c = lowc c := by decide +kernel
theorem uni_upper : ∀ c : Nat, c < 128 → (Unicode.isUpper c || Unicode.isTitle c) = upc c := by decide +kernel
/-- the letters of a name -/
def letB (a : List Nat) : Bool := !a.isEmpty && a.all lowc
theorem lower_letters (a : List Nat) : (Txt.isascii (SX.S a) && (Txt.isalpha (SX.S a) && Txt.islower (SX.S a))) = letB a := by
  have e1 : Txt.isascii (SX.S a) = a.all (fun c => decide (c < 128)) := by
    unfold Txt.isascii
    rw [← Array.all_toList]
  have e2 : Txt.isalpha (SX.S a) = (!a.isEmpty && a.all Unicode.isAlpha) := by
    unfold Txt.isalpha
    rw [← Array.all_toList, SX.S_len]
    cases a <;> rfl
  have e3 : Txt.islower (SX.S a) = (a.any Unicode.isLower && !a.any fun c => Unicode.isUpper c || Unicode.isTitle c) := by
    unfold Txt.islower
    rw [← Array.any_toList, ← Array.any_toList]
  rw [e1, e2, e3]
  unfold letB
  cases h : a.all (fun c => decide (c < 128))
  · rw [Bool.false_and]
    symm
    rw [Bool.and_eq_false_iff]
    refine .inr (Bool.eq_false_iff.mpr fun z => ?_)
    have z2 := List.all_eq_true.mp z
    have : a.all (fun c => decide (c < 128)) = true := List.all_eq_true.mpr fun c hc => decide_eq_true (by
      have q := z2 c hc
      unfold lowc at q
      rw [Bool.and_eq_true, decide_eq_true_eq, decide_eq_true_eq] at q
      omega)
    rw [h] at this
    cases this
  · rw [Bool.true_and]
    have h3 : ∀ c ∈ a, c < 128 := fun c hc => of_decide_eq_true (List.all_eq_true.mp h c hc)
    have a1 : a.all Unicode.isAlpha = a.all (fun c => lowc c || upc c) := by
      rw [Bool.eq_iff_iff, List.all_eq_true, List.all_eq_true]
      exact ⟨fun q c hc => by rw [← uni_alpha c (h3 c hc)]; exact q c hc, fun q c hc => by rw [uni_alpha c (h3 c hc)]; exact q c hc⟩
    have a2 : a.any Unicode.isLower = a.any lowc := by
      rw [Bool.eq_iff_iff, List.any_eq_true, List.any_eq_true]
      exact ⟨fun ⟨c, hc, q⟩ => ⟨c, hc, by rw [← uni_lower c (h3 c hc)]; exact q⟩, fun ⟨c, hc, q⟩ => ⟨c, hc, by rw [uni_lower c (h3 c hc)]; exact q⟩⟩
    have a3 : (a.any fun c => Unicode.isUpper c || Unicode.isTitle c) = a.any upc := by
      rw [Bool.eq_iff_iff, List.any_eq_true, List.any_eq_true]
      exact ⟨fun ⟨c, hc, q⟩ => ⟨c, hc, by rw [← uni_upper c (h3 c hc)]; exact q⟩, fun ⟨c, hc, q⟩ => ⟨c, hc, by rw [uni_upper c (h3 c hc)]; exact q⟩⟩
    rw [a1, a2, a3]
    have dis : ∀ c : Nat, lowc c = true → upc c = false := fun c q => by
      unfold lowc at q
      unfold upc
      rw [Bool.and_eq_true, decide_eq_true_eq, decide_eq_true_eq] at q
      rw [Bool.and_eq_false_iff, decide_eq_false_iff_not, decide_eq_false_iff_not]
      omega
    rw [Bool.eq_iff_iff]
    simp only [Bool.and_eq_true, Bool.not_eq_true', List.any_eq_true, List.all_eq_true, Bool.or_eq_true]
    constructor
    · rintro ⟨⟨n, al⟩, _, nu⟩
      refine ⟨n, fun c hc => ?_⟩
      rcases al c hc with q | q
      · exact q
      · exfalso
        have : a.any upc = true := List.any_eq_true.mpr ⟨c, hc, q⟩
        rw [nu] at this
        cases this
    · rintro ⟨n, al⟩
      refine ⟨⟨n, fun c hc => .inl (al c hc)⟩, ?_, ?_⟩
      · cases a with
        | nil => cases n
        | cons c r => exact ⟨c, List.mem_cons_self, al c List.mem_cons_self⟩
      · refine Bool.eq_false_iff.mpr fun q => ?_
        obtain ⟨c, hc, q⟩ := List.any_eq_true.mp q
        rw [dis c (al c hc)] at q
        cases q
/-- without one apostrophe at the end -/
def cutQ (a : List Nat) : List Nat := if a.getLast? = some 39 then a.dropLast else a
def nameB (a : List Nat) : Bool := decide ((cutQ a).length ≤ 6) && letB (cutQ a)
theorem last_at (b : List Nat) (c : Nat) : PySem.Builtin.Str.subAt (SX.S (b ++ [c])) (SX.S [39]) ((SX.S (b ++ [c])).length - (SX.S [39]).length) = decide (c = 39) := by
  have e : (SX.S (b ++ [c])).cps.extract ((SX.S (b ++ [c])).length - (SX.S [39]).length) ((SX.S (b ++ [c])).length - (SX.S [39]).length + (SX.S [39]).length) = [c].toArray := by
    rw [SX.S_len, SX.S_len, List.length_append]
    simp [List.extract]
  show ((SX.S (b ++ [c])).cps.extract ((SX.S (b ++ [c])).length - (SX.S [39]).length) ((SX.S (b ++ [c])).length - (SX.S [39]).length + (SX.S [39]).length) == (SX.S [39]).cps) = _
  rw [e]
  by_cases h : c = 39
  · subst h
    rfl
  · rw [decide_eq_false h, beq_eq_false_iff_ne]
    intro z
    exact h (List.cons.inj (congrArg Array.toList z)).1
theorem rem_quote (a : List Nat) : Txt.removesuffix (SX.S a) (SX.S [39]) = SX.S (cutQ a) := by
  have e := eq_of_beq (PyProof.Rows.removesuffix_closes (SX.S a) (SX.S [39]))
  rw [e]
  rcases List.eq_nil_or_concat a with rfl | ⟨b, c, rfl⟩
  · rfl
  · rw [List.concat_eq_append, last_at]
    have e1 : decide (0 + (SX.S [39]).length ≤ (SX.S (b ++ [c])).length) = true := by
      rw [SX.S_len, SX.S_len, List.length_append]
      exact decide_eq_true (by show 0 + 1 ≤ b.length + 1; omega)
    rw [e1, Bool.true_and]
    unfold cutQ
    rw [List.getLast?_append, List.getLast?_singleton, Option.some_or, List.dropLast_concat]
    by_cases h : c = 39
    · subst h
      rw [decide_eq_true rfl, if_pos rfl, if_pos rfl]
      refine TL.ext_tl ?_
      show ((b ++ [39]).drop 0).take ((((SX.S (b ++ [39])).length : Nat) : Int) - (((SX.S [39]).length : Nat) : Int) - 0).toNat = b
      rw [SX.S_len, SX.S_len, List.length_append, List.drop_zero]
      have : ((((b.length + [39].length : Nat)) : Int) - (([39] : List Nat).length : Nat) - 0).toNat = b.length := by
        show (((b.length + 1 : Nat) : Int) - 1 - 0).toNat = b.length
        omega
      rw [this, List.take_left]
    · rw [decide_eq_false h, if_neg (by decide), if_neg (fun z => h (Option.some.inj z))]
/-! ### drawn words: the plain mathematics -/
abbrev ABC : Str := Str.ofString "abcdefghijklmnopqrstuvwxyz"
theorem abc_nat : ∀ n : Nat, n < 26 → L2.atI ABC.cps.toList (n : Int) = some (97 + n) := by decide +kernel
theorem abc_at {r : Int} (h0 : 0 ≤ r) (h1 : r < 26) : L2.atI ABC.cps.toList r = some (97 + r.toNat) := by
  obtain ⟨n, rfl⟩ := Int.eq_ofNat_of_zero_le h0
  rw [Int.toNat_natCast]
  exact abc_nat n (by omega)
theorem low_abc {n : Nat} (h : n < 26) : lowc (97 + n) = true := by
  unfold lowc
  rw [decide_eq_true (by omega), decide_eq_true (by omega)]
  rfl
theorem mul_one1 {x : Str} (hx : x.length = 1) {n : Int} (h1 : n ≤ 8) (h0 : -8 ≤ n) : MulOk x n := by
  unfold MulOk
  rw [hx]
  obtain ⟨k, rfl⟩ : ∃ k : Nat, n = (k : Int) - 8 := ⟨(n + 8).toNat, by omega⟩
  have : ∀ k : Nat, k < 17 → (decide (((k : Int) - 8) < -(2 ^ 63 : Int)) || decide (((k : Int) - 8) ≥ 2 ^ 63)) = false ∧ (¬ ((k : Int) - 8) < 1 → (((k : Int) - 8) == 1 || (1 : Nat) == 0) = false → ¬ (((1 : Nat) : Int) > (2 ^ 63 - 1) / ((k : Int) - 8))) ∧
    (¬ ((k : Int) - 8) < 1 → (((k : Int) - 8) == 1 || (1 : Nat) == 0) = false → PySem.Builtin.Str.tooLong (1 * ((k : Int) - 8).toNat) = false) := by decide +kernel
  exact this k (by omega)
theorem fold_rep (c : Nat) : ∀ (k : Nat) (acc : Array Nat), (List.replicate k (#[c] : Array Nat)).foldl (· ++ ·) acc = acc ++ (List.replicate k c).toArray
  | 0, acc => by simp
  | k + 1, acc => by
    rw [List.replicate_succ, List.foldl_cons, fold_rep c k, List.replicate_succ]
    apply Array.toList_inj.mp
    simp
theorem mul_rep (c : Nat) (n : Int) : Txt.mul (SX.S [c]) n = SX.S (List.replicate n.toNat c) := by
  unfold Txt.mul
  by_cases h : n < 1
  · rw [if_pos h, show n.toNat = 0 by omega]
    rfl
  · rw [if_neg h]
    by_cases h1 : n = 1
    · subst h1
      rfl
    · have : (n == 1 || (SX.S [c]).length == 0) = false := by
        rw [beq_eq_false_iff_ne.mpr h1]
        rfl
      rw [this, if_neg (by decide)]
      unfold SX.S
      have e : (List.replicate n.toNat (⟨[c].toArray⟩ : Str).cps) = List.replicate n.toNat (#[c] : Array Nat) := rfl
      rw [e, fold_rep]
      simp
theorem cut_last (a : List Nat) {k : Nat} (h : a.length ≤ k) (hk : 0 < k) : L2.cutS (SX.S a) (some (-(k : Int))) none = SX.S a := by
  unfold L2.cutS
  have e : HT.sIx (SX.S a).length 0 (some (-(k : Int))) = 0 := by
    rw [SX.S_len]
    unfold HT.sIx
    simp
    omega
  rw [HT.sIx_none, e, SX.S_len]
  refine TL.ext_tl ?_
  show (a.drop 0).take (a.length - 0) = a
  rw [List.drop_zero, Nat.sub_zero, List.take_length]
theorem cut_to (a : List Nat) (k : Nat) : L2.cutS (SX.S a) none (some (k : Int)) = SX.S (a.take k) := by
  unfold L2.cutS
  rw [HT.sIx_none, HT.sIx_nat, SX.S_len, Nat.sub_zero]
  refine TL.ext_tl ?_
  show (a.drop 0).take (min k a.length) = a.take k
  rw [List.drop_zero]
  by_cases h : k ≤ a.length
  · rw [Nat.min_eq_left h]
  · rw [Nat.min_eq_right (by omega), List.take_of_length_le (Nat.le_refl _), List.take_of_length_le (by omega)]
theorem cut_from (a : List Nat) (k : Nat) : L2.cutS (SX.S a) (some (k : Int)) none = SX.S (a.drop k) := by
  unfold L2.cutS
  rw [HT.sIx_none, HT.sIx_nat, SX.S_len]
  refine TL.ext_tl ?_
  show (a.drop (min k a.length)).take (a.length - min k a.length) = a.drop k
  by_cases h : k ≤ a.length
  · rw [Nat.min_eq_left h, List.take_of_length_le (by rw [List.length_drop]; exact Nat.le_refl _)]
  · rw [Nat.min_eq_right (by omega), List.drop_of_length_le (Nat.le_refl _), List.drop_of_length_le (by omega), List.take_nil]
/-- a word of one to six letters -/
def LW (a : List Nat) : Prop := a ≠ [] ∧ a.length ≤ 6 ∧ a.all lowc = true
theorem LW.put {a : List Nat} {c : Nat} {k : Nat} (h : a.length ≤ 5) (ha : a.all lowc = true) (hc : lowc c = true) : LW (a.take k ++ [c] ++ a.drop k) := by
  refine ⟨by simp, ?_, ?_⟩
  · simp only [List.length_append, List.length_take, List.length_drop, List.length_singleton]
    omega
  · rw [List.all_append, List.all_append]
    have e := List.all_eq_true.mp ha
    rw [List.all_eq_true.mpr fun x hx => e x (List.mem_of_mem_take hx), List.all_eq_true.mpr fun x hx => e x (List.mem_of_mem_drop hx)]
    simp [hc]
theorem LW.rep {a : List Nat} {c n : Nat} (ha : a.all lowc = true) (hc : lowc c = true) (n1 : 1 ≤ n) (n4 : n ≤ 5) : LW (a.take 1 ++ List.replicate n c) := by
  refine ⟨?_, ?_, ?_⟩
  · intro z
    have := congrArg List.length z
    rw [List.length_append, List.length_replicate] at this
    simp at this
    omega
  · simp only [List.length_append, List.length_take, List.length_replicate]
    omega
  · rw [List.all_append]
    have e := List.all_eq_true.mp ha
    rw [List.all_eq_true.mpr fun x hx => e x (List.mem_of_mem_take hx), Bool.true_and]
    exact List.all_eq_true.mpr fun x hx => by
      rw [List.eq_of_mem_replicate hx]
      exact hc
theorem LW.one {c : Nat} (hc : lowc c = true) : LW [c] := ⟨by simp, by simp, by simp [hc]⟩
theorem S_inj {a b : List Nat} (h : SX.S a = SX.S b) : a = b := by
  have := congrArg (fun s : Str => s.cps.toList) h
  simpa [SX.S] using this
theorem ins_all_full : ∀ (xs l : List Str), (insAll xs l).length = xs.length + l.length → xs.Nodup ∧ ∀ x ∈ xs, x ∉ l
  | [], _, _ => ⟨List.nodup_nil, fun _ h => nomatch h⟩
  | x :: xs, l, h => by
    unfold insAll at h
    by_cases hx : x ∈ l
    · exfalso
      unfold ins at h
      rw [if_pos hx] at h
      have := insAll_len xs l
      rw [List.length_cons] at h
      omega
    · unfold ins at h
      rw [if_neg hx] at h
      obtain ⟨h1, h2⟩ := ins_all_full xs (x :: l) (by rw [h]; simp only [List.length_cons]; omega)
      refine ⟨List.nodup_cons.mpr ⟨fun z => h2 x z List.mem_cons_self, h1⟩, fun y hy => ?_⟩
      rcases List.mem_cons.mp hy with rfl | hy
      · exact hx
      · exact fun z => h2 y hy (List.mem_cons_of_mem _ z)
theorem nodup_S : ∀ {ws : List (List Nat)}, (ws.map SX.S).Nodup → ws.Nodup
  | [], _ => List.nodup_nil
  | w :: ws, h => by
    rw [List.map_cons, List.nodup_cons] at h
    exact List.nodup_cons.mpr ⟨fun z => h.1 (List.mem_map_of_mem z), nodup_S h.2⟩
/-- the kth letter from a first one, by fives -/
def five (f k : Nat) : Nat := 97 + (f + 5 * k) % 26
theorem five_inj {f i j : Nat} (hi : i < 20) (hj : j < 20) (h : five f i = five f j) : i = j := by
  unfold five at h
  omega
theorem nodup_range_map {α : Type} {f : Nat → α} {m : Nat} (h : ∀ i j, i < m → j < m → f i = f j → i = j) : ((List.range m).map f).Nodup := by
  rw [List.Nodup, List.pairwise_map]
  refine List.Pairwise.imp_of_mem ?_ List.nodup_range
  intro a b ha hb hne e
  exact hne (h a b (List.mem_range.mp ha) (List.mem_range.mp hb) e)
theorem put_inj {a : List Nat} {k c d : Nat} (h : a.take k ++ [c] ++ a.drop k = a.take k ++ [d] ++ a.drop k) : c = d := by
  have h1 := (List.append_cancel_right h)
  have h2 := (List.append_cancel_left h1)
  exact (List.cons.inj h2).1
theorem lc_str {x : Str} {g : TG} {tt : TT} {te : TE} {vs : List Nat} {σ : L2.St} {H1 : Hp} {D : Addr} {Qd : Hp → Prop} (Pv : Nat → Hp → Prop) (h0 : Pv 0 (upd H1 D (.lst [])))
    (hs : ∀ i c H, x.cps[i]? = some c → Pv i H → g (.str ⟨#[c]⟩) (wipe σ vs) H fun σ2 H2 => wipe σ2 vs = wipe σ vs ∧ tt σ2 H2 fun b H3 =>
      if b = true then te σ2 H3 fun y H4 => ∃ acc, H4 D = some (.lst acc) ∧ acc.length < sizeLine ∧ Pv (i + 1) (upd H4 D (.lst (acc ++ [y]))) else Pv (i + 1) H3) (hd : ∀ H, Pv x.cps.size H → Qd H) :
    ∃ W : Nat → Nat → Hp → Prop, (∃ m, W 0 m (upd H1 D (.lst []))) ∧ ∀ i m H, W i m H →
      ((Its x).stop i H ∧ Qd H) ∨ ((Its x).go i H ∧ ∃ Nx : Hp → Prop, (∀ H', Nx H' → ∃ m', m' < m ∧ W (i + 1) m' H') ∧ ∀ y H', (Its x).yld i H y H' → g y (wipe σ vs) H' fun σ2 H2 => wipe σ2 vs = wipe σ vs ∧ tt σ2 H2 fun b H3 =>
        if b = true then te σ2 H3 fun y H4 => ∃ acc, H4 D = some (.lst acc) ∧ acc.length < sizeLine ∧ Nx (upd H4 D (.lst (acc ++ [y]))) else Nx H3) := by
  refine ⟨fun i m H => m = x.cps.size - i ∧ i ≤ x.cps.size ∧ Pv i H, ⟨x.cps.size, by simp, Nat.zero_le _, h0⟩, ?_⟩
  rintro i m H ⟨rfl, hi, p⟩
  by_cases hlt : i < x.cps.size
  · refine .inr ⟨hlt, Pv (i + 1), fun H' p' => ⟨x.cps.size - (i + 1), by omega, rfl, hlt, p'⟩, fun y H' q => ?_⟩
    obtain ⟨e, c, hc, ev⟩ := q
    subst e ev
    exact hs i c _ hc p
  · have e : i = x.cps.size := by omega
    subst e
    exact .inl ⟨Nat.le_refl _, hd H p⟩
/-! ### names with an apostrophe; the law's own test of names -/
theorem last_low {x : List Nat} (h : x.all lowc = true) : x.getLast? ≠ some 39 := fun z => by
  have := List.all_eq_true.mp h 39 (List.mem_of_getLast? z)
  revert this
  decide
theorem cutQ_lw {x : List Nat} (h : LW x) {k : Nat} (hk : k ≤ 1) : cutQ (x ++ List.replicate k 39) = x := by
  unfold cutQ
  match k, hk with
  | 0, _ => rw [List.replicate_zero, List.append_nil, if_neg (last_low h.2.2)]
  | 1, _ => rw [show List.replicate 1 39 = [39] from rfl, List.getLast?_append, List.getLast?_singleton, Option.some_or, if_pos rfl, List.dropLast_concat]
theorem name_lw {x : List Nat} (h : LW x) {k : Nat} (hk : k ≤ 1) : nameB (x ++ List.replicate k 39) = true ∧ (x ++ List.replicate k 39).length ≤ 7 := by
  constructor
  · unfold nameB letB
    rw [cutQ_lw h hk, h.2.2, decide_eq_true h.2.1]
    cases x with
    | nil => exact absurd rfl h.1
    | cons _ _ => rfl
  · rw [List.length_append, List.length_replicate]
    have := h.2.1
    omega
theorem nodup_of_map {α β : Type} (f : α → β) : ∀ {l : List α}, (l.map f).Nodup → l.Nodup
  | [], _ => List.nodup_nil
  | w :: ws, h => by
    rw [List.map_cons, List.nodup_cons] at h
    exact List.nodup_cons.mpr ⟨fun z => h.1 (List.mem_map_of_mem z), nodup_of_map f h.2⟩
theorem sIx_neg1 (n : Nat) (d : Nat) : HT.sIx n d (some (-1)) = n - 1 := by
  unfold HT.sIx
  simp
  omega
theorem cut_but1 (t : List Nat) : L2.cutS (SX.S t) none (some (-1)) = SX.S t.dropLast := by
  unfold L2.cutS
  rw [HT.sIx_none, sIx_neg1, SX.S_len, Nat.sub_zero]
  refine TL.ext_tl ?_
  show (t.drop 0).take (t.length - 1) = t.dropLast
  rw [List.drop_zero, List.dropLast_eq_take]
theorem cut_end1 (t : List Nat) : L2.cutS (SX.S t) (some (-1)) none = SX.S (t.drop (t.length - 1)) := by
  unfold L2.cutS
  rw [HT.sIx_none, sIx_neg1, SX.S_len]
  refine TL.ext_tl ?_
  show (t.drop (t.length - 1)).take (t.length - (t.length - 1)) = t.drop (t.length - 1)
  rw [List.take_of_length_le]
  rw [List.length_drop]
  exact Nat.le_refl _
theorem drop_last (t : List Nat) : (t.drop (t.length - 1) = [39]) ↔ t.getLast? = some 39 := by
  rcases List.eq_nil_or_concat t with rfl | ⟨b, c, rfl⟩
  · simp
  · rw [List.concat_eq_append, List.getLast?_append, List.getLast?_singleton, Option.some_or]
    have e : (b ++ [c]).length - 1 = b.length := by simp
    rw [e, List.drop_left]
    simp
theorem abc_mem (c : Nat) : decide (c ∈ ABC.cps.toList) = lowc c := by
  rw [show ABC.cps.toList = (List.range 26).map (97 + ·) by decide +kernel]
  unfold lowc
  rw [Bool.eq_iff_iff, decide_eq_true_eq, Bool.and_eq_true, decide_eq_true_eq, decide_eq_true_eq, List.mem_map]
  constructor
  · rintro ⟨k, hk, rfl⟩
    have := List.mem_range.mp hk
    omega
  · rintro ⟨h1, h2⟩
    exact ⟨c - 97, List.mem_range.mpr (by omega), by omega⟩
/-! ### lists of texts as data -/
theorem shape_strs : ∀ l : List Str, l.length ≤ 2 → (∀ x ∈ l, PyData.strOk x = true) → SeqAt.shaped (.list (l.map PyData.str)) = true
  | [], _, _ => rfl
  | [x], _, h => by
    show ((PyData.strOk x && true) && true) = true
    rw [h x List.mem_cons_self]
    rfl
  | [x, y], _, h => by
    show ((PyData.strOk x && (PyData.strOk y && true)) && true) = true
    rw [h x List.mem_cons_self, h y (List.mem_cons_of_mem _ List.mem_cons_self)]
    rfl
  | _ :: _ :: _ :: _, h, _ => by simp at h
theorem eqvAll_strs : ∀ l : List Str, PyData.eqvAll (l.map PyData.str) (l.map PyData.str) = true
  | [] => rfl
  | x :: l => by
    show (PyData.eqv (.str x) (.str x) && PyData.eqvAll (l.map PyData.str) (l.map PyData.str)) = true
    rw [eqvAll_strs l, Bool.and_true]
    show (x == x) = true
    exact beq_self_eq_true x
theorem dp_strs {K : PySem.W.Frag} {H : Hp} : ∀ l : List Str, DpAll K H (l.map V.str) (l.map PyData.str)
  | [] => .nil
  | x :: l => .cons (.str x) (dp_strs l)
theorem strOk_name {x : List Nat} (h : nameB x = true) : PyData.strOk (SX.S x) = true := by
  unfold nameB letB at h
  rw [Bool.and_eq_true, Bool.and_eq_true] at h
  have hl := List.all_eq_true.mp h.2.2
  have key : ∀ c ∈ x, c < 0x110000 := fun c hc => by
    by_cases e : c ∈ cutQ x
    · have := hl c e
      unfold lowc at this
      rw [Bool.and_eq_true, decide_eq_true_eq, decide_eq_true_eq] at this
      omega
    · unfold cutQ at e
      split at e
      · rename_i z
        rcases List.eq_nil_or_concat x with rfl | ⟨b, d, rfl⟩
        · cases hc
        · rw [List.concat_eq_append] at *
          rw [List.getLast?_append, List.getLast?_singleton, Option.some_or] at z
          rw [List.dropLast_concat] at e
          rcases List.mem_append.mp hc with k | k
          · exact absurd k e
          · rw [List.mem_singleton.mp k, Option.some.inj z]
            decide
      · exact absurd hc e
  unfold PyData.strOk
  rw [← Array.all_toList, show (SX.S x).cps.toList = x by simp [SX.S]]
  exact List.all_eq_true.mpr fun c hc => decide_eq_true (key c hc)
end EK
namespace T8
open PySem PySem.Spec PyProof.Rows L2 EK
def topS (i : Nat) : Stmt := PySem.Challenge.pw_tiespan_k07_tie_texts_read.main.body.getD i (.Pass ⟨0, 0, 0, 0⟩)
abbrev s_p_shortened : Stmt := topS 12
abbrev s_p_common_divisor : Stmt := topS 13
abbrev s_p_ratio : Stmt := topS 14
abbrev s_p_add : Stmt := topS 15
abbrev s_p_subtract : Stmt := topS 16
abbrev s_p_multiply : Stmt := topS 17
abbrev s_p_is_digits : Stmt := topS 18
abbrev s_p_number_text : Stmt := topS 19
abbrev s_p_number_of : Stmt := topS 20
abbrev s_p_ratio_text : Stmt := topS 21
abbrev s_p_ratio_of : Stmt := topS 22
abbrev s_p_run_end : Stmt := topS 28
abbrev s_p_number_symbol : Stmt := topS 29
abbrev s_p_name_symbol : Stmt := topS 30
abbrev s_p_symbol_at : Stmt := topS 31
abbrev s_p_symbols_of : Stmt := topS 32
abbrev s_p_read_term : Stmt := topS 33
abbrev s_p_read_sum : Stmt := topS 34
abbrev s_p_reduced : Stmt := topS 36
abbrev s_p_term_text : Stmt := topS 37
abbrev s_p_terms_text : Stmt := topS 38
abbrev s_p_tie_text : Stmt := topS 39
abbrev s_p_ascending_names : Stmt := topS 40
abbrev s_p_brought_together : Stmt := topS 41
abbrev s_p_tie_below : Stmt := topS 42
abbrev s_p_read_ties : Stmt := topS 43
abbrev s_feed : Stmt := topS 45
abbrev s_draw : Stmt := topS 46
abbrev s_any : Stmt := topS 47
abbrev s_same : Stmt := topS 48
abbrev s_field : Stmt := topS 49
abbrev s_why : Stmt := topS 50
abbrev s_gcd : Stmt := topS 51
abbrev s_low : Stmt := topS 52
abbrev s_plus : Stmt := topS 53
abbrev s_minus : Stmt := topS 54
abbrev s_by : Stmt := topS 55
abbrev s_words : Stmt := topS 56
abbrev s_brief : Stmt := topS 57
abbrev s_part_text : Stmt := topS 58
abbrev s_run_end : Stmt := topS 59
abbrev s_is_number : Stmt := topS 60
abbrev s_symbols : Stmt := topS 61
abbrev s_sum_fault : Stmt := topS 62
abbrev s_number_of : Stmt := topS 63
abbrev s_rates_of : Stmt := topS 64
abbrev s_ties_of : Stmt := topS 65
abbrev s_gap : Stmt := topS 66
abbrev s_drawn_sum : Stmt := topS 67
abbrev s_drawn_text : Stmt := topS 68
abbrev s_p_law : Stmt := topS 69
theorem sc_p_shortened : FnScope ["one", "other", "shift", "high", "low", "a", "b", "c", "d", "times", "rest", "first", "second"] ["one", "other"] (defScope s_p_shortened) := ⟨rfl, rfl, rfl, by decide +kernel, rfl, by decide +kernel, by decide +kernel⟩
theorem sc_p_common_divisor : FnScope ["one", "other"] ["one", "other"] (defScope s_p_common_divisor) := ⟨rfl, rfl, rfl, by decide +kernel, rfl, by decide +kernel, by decide +kernel⟩
theorem sc_p_ratio : FnScope ["top", "under", "shared"] ["top", "under"] (defScope s_p_ratio) := ⟨rfl, rfl, rfl, by decide +kernel, rfl, by decide +kernel, by decide +kernel⟩
theorem sc_p_add : FnScope ["one", "other"] ["one", "other"] (defScope s_p_add) := ⟨rfl, rfl, rfl, by decide +kernel, rfl, by decide +kernel, by decide +kernel⟩
theorem sc_p_subtract : FnScope ["one", "other"] ["one", "other"] (defScope s_p_subtract) := ⟨rfl, rfl, rfl, by decide +kernel, rfl, by decide +kernel, by decide +kernel⟩
theorem sc_p_multiply : FnScope ["one", "other"] ["one", "other"] (defScope s_p_multiply) := ⟨rfl, rfl, rfl, by decide +kernel, rfl, by decide +kernel, by decide +kernel⟩
theorem sc_p_is_digits : FnScope ["text"] ["text"] (defScope s_p_is_digits) := ⟨rfl, rfl, rfl, by decide +kernel, rfl, by decide +kernel, by decide +kernel⟩
theorem sc_p_number_text : FnScope ["number", "rest", "blocks", "block"] ["number"] (defScope s_p_number_text) := ⟨rfl, rfl, rfl, by decide +kernel, rfl, by decide +kernel, by decide +kernel⟩
theorem sc_p_number_of : FnScope ["digits", "start", "number", "at"] ["digits"] (defScope s_p_number_of) := ⟨rfl, rfl, rfl, by decide +kernel, rfl, by decide +kernel, by decide +kernel⟩
theorem sc_p_ratio_text : FnScope ["one"] ["one"] (defScope s_p_ratio_text) := ⟨rfl, rfl, rfl, by decide +kernel, rfl, by decide +kernel, by decide +kernel⟩
theorem sc_p_ratio_of : FnScope ["text", "top", "slash", "under", "number", "divisor", "found"] ["text"] (defScope s_p_ratio_of) := ⟨rfl, rfl, rfl, by decide +kernel, rfl, by decide +kernel, by decide +kernel⟩
theorem sc_p_run_end : FnScope ["text", "at", "letters"] ["text", "at", "letters"] (defScope s_p_run_end) := ⟨rfl, rfl, rfl, by decide +kernel, rfl, by decide +kernel, by decide +kernel⟩
theorem sc_p_number_symbol : FnScope ["text", "at", "end", "top", "slash", "under", "worth"] ["text", "at"] (defScope s_p_number_symbol) := ⟨rfl, rfl, rfl, by decide +kernel, rfl, by decide +kernel, by decide +kernel⟩
theorem sc_p_name_symbol : FnScope ["text", "at", "end"] ["text", "at"] (defScope s_p_name_symbol) := ⟨rfl, rfl, rfl, by decide +kernel, rfl, by decide +kernel, by decide +kernel⟩
theorem sc_p_symbol_at : FnScope ["text", "at"] ["text", "at"] (defScope s_p_symbol_at) := ⟨rfl, rfl, rfl, by decide +kernel, rfl, by decide +kernel, by decide +kernel⟩
theorem sc_p_symbols_of : FnScope ["text", "symbols", "at", "sort", "worth", "end"] ["text"] (defScope s_p_symbols_of) := ⟨rfl, rfl, rfl, by decide +kernel, rfl, by decide +kernel, by decide +kernel⟩
theorem sc_p_read_term : FnScope ["symbols", "at", "sort", "worth", "place"] ["symbols", "at"] (defScope s_p_read_term) := ⟨rfl, rfl, rfl, by decide +kernel, rfl, by decide +kernel, by decide +kernel⟩
theorem sc_p_read_sum : FnScope ["symbols", "at", "rates", "sign", "name", "rate"] ["symbols", "at"] (defScope s_p_read_sum) := ⟨rfl, rfl, rfl, by decide +kernel, rfl, by decide +kernel, by decide +kernel⟩
theorem sc_p_reduced : FnScope ["tie", "terms", "bound", "under", "name", "rate", "shared", "scale"] ["tie"] (defScope s_p_reduced) := ⟨rfl, rfl, rfl, by decide +kernel, rfl, by decide +kernel, by decide +kernel⟩
theorem sc_p_term_text : FnScope ["name", "rate"] ["name", "rate"] (defScope s_p_term_text) := ⟨rfl, rfl, rfl, by decide +kernel, rfl, by decide +kernel, by decide +kernel⟩
theorem sc_p_terms_text : FnScope ["terms", "text", "name", "rate"] ["terms"] (defScope s_p_terms_text) := ⟨rfl, rfl, rfl, by decide +kernel, rfl, by decide +kernel, by decide +kernel⟩
theorem sc_p_tie_text : FnScope ["tie", "terms", "bound"] ["tie"] (defScope s_p_tie_text) := ⟨rfl, rfl, rfl, by decide +kernel, rfl, by decide +kernel, by decide +kernel⟩
theorem sc_p_ascending_names : FnScope ["rates", "name"] ["rates"] (defScope s_p_ascending_names) := ⟨rfl, rfl, rfl, by decide +kernel, rfl, by decide +kernel, by decide +kernel⟩
theorem sc_p_brought_together : FnScope ["left", "right", "rates", "name"] ["left", "right"] (defScope s_p_brought_together) := ⟨rfl, rfl, rfl, by decide +kernel, rfl, by decide +kernel, by decide +kernel⟩
theorem sc_p_tie_below : FnScope ["left", "right", "rates", "terms", "name"] ["left", "right"] (defScope s_p_tie_below) := ⟨rfl, rfl, rfl, by decide +kernel, rfl, by decide +kernel, by decide +kernel⟩
theorem sc_p_read_ties : FnScope ["text", "symbols", "left", "at", "sort", "sign", "place", "right", "many"] ["text"] (defScope s_p_read_ties) := ⟨rfl, rfl, rfl, by decide +kernel, rfl, by decide +kernel, by decide +kernel⟩
theorem sc_feed : FnScope ["_law_script", "_law_cell", "_law_cells", "_law_mark"] ["_law_script"] (defScope s_feed) := ⟨rfl, rfl, rfl, by decide +kernel, rfl, by decide +kernel, by decide +kernel⟩
theorem sc_draw : FnScope ["_law_feed_here", "_law_many", "_law_cell", "_law_one", "_law_two", "_law_drawn"] ["_law_feed_here", "_law_many"] (defScope s_draw) := ⟨rfl, rfl, rfl, by decide +kernel, rfl, by decide +kernel, by decide +kernel⟩
theorem sc_any : FnScope ["_law_feed_here", "_law_row"] ["_law_feed_here", "_law_row"] (defScope s_any) := ⟨rfl, rfl, rfl, by decide +kernel, rfl, by decide +kernel, by decide +kernel⟩
theorem sc_same : FnScope ["_law_found", "_law_due", "_law_key", "_law_one", "_law_two"] ["_law_found", "_law_due"] (defScope s_same) := ⟨rfl, rfl, rfl, by decide +kernel, rfl, by decide +kernel, by decide +kernel⟩
theorem sc_field : FnScope ["_law_e"] ["_law_e"] (defScope s_field) := ⟨rfl, rfl, rfl, by decide +kernel, rfl, by decide +kernel, by decide +kernel⟩
theorem sc_why : FnScope ["_law_ask", "_law_told", "_law_e"] ["_law_ask"] (defScope s_why) := ⟨rfl, rfl, rfl, by decide +kernel, rfl, by decide +kernel, by decide +kernel⟩
theorem sc_gcd : FnScope ["_law_one", "_law_two"] ["_law_one", "_law_two"] (defScope s_gcd) := ⟨rfl, rfl, rfl, by decide +kernel, rfl, by decide +kernel, by decide +kernel⟩
theorem sc_low : FnScope ["_law_upper", "_law_lower", "_law_part"] ["_law_upper", "_law_lower"] (defScope s_low) := ⟨rfl, rfl, rfl, by decide +kernel, rfl, by decide +kernel, by decide +kernel⟩
theorem sc_plus : FnScope ["_law_one", "_law_two"] ["_law_one", "_law_two"] (defScope s_plus) := ⟨rfl, rfl, rfl, by decide +kernel, rfl, by decide +kernel, by decide +kernel⟩
theorem sc_minus : FnScope ["_law_one"] ["_law_one"] (defScope s_minus) := ⟨rfl, rfl, rfl, by decide +kernel, rfl, by decide +kernel, by decide +kernel⟩
theorem sc_by : FnScope ["_law_one", "_law_two"] ["_law_one", "_law_two"] (defScope s_by) := ⟨rfl, rfl, rfl, by decide +kernel, rfl, by decide +kernel, by decide +kernel⟩
theorem sc_words : FnScope ["_law_feed_here", "_law_many", "_law_letters", "_law_stem", "_law_spot", "_law_first", "_law_way", "_law_found", "_law_k"] ["_law_feed_here", "_law_many"] (defScope s_words) := ⟨rfl, rfl, rfl, by decide +kernel, rfl, by decide +kernel, by decide +kernel⟩
theorem sc_brief : FnScope ["_law_tie", "_law_whole", "_law_part", "_law_name", "_law_rate", "_law_scale"] ["_law_tie"] (defScope s_brief) := ⟨rfl, rfl, rfl, by decide +kernel, rfl, by decide +kernel, by decide +kernel⟩
theorem sc_part_text : FnScope ["_law_one"] ["_law_one"] (defScope s_part_text) := ⟨rfl, rfl, rfl, by decide +kernel, rfl, by decide +kernel, by decide +kernel⟩
theorem sc_run_end : FnScope ["_law_text", "_law_at", "_law_signs"] ["_law_text", "_law_at", "_law_signs"] (defScope s_run_end) := ⟨rfl, rfl, rfl, by decide +kernel, rfl, by decide +kernel, by decide +kernel⟩
theorem sc_is_number : FnScope ["_law_word", "_law_first", "_law_stroke", "_law_second", "_law_part", "_law_sign"] ["_law_word"] (defScope s_is_number) := ⟨rfl, rfl, rfl, by decide +kernel, rfl, by decide +kernel, by decide +kernel⟩
theorem sc_symbols : FnScope ["_law_text", "_law_found", "_law_at", "_law_small", "_law_sign", "_law_end", "_law_kind"] ["_law_text"] (defScope s_symbols) := ⟨rfl, rfl, rfl, by decide +kernel, rfl, by decide +kernel, by decide +kernel⟩
theorem sc_sum_fault : FnScope ["_law_symbols_here", "_law_wants_relation", "_law_state", "_law_related", "_law_kind", "_law_at", "_law_word"] ["_law_symbols_here", "_law_wants_relation"] (defScope s_sum_fault) := ⟨rfl, rfl, rfl, by decide +kernel, rfl, by decide +kernel, by decide +kernel⟩
theorem sc_number_of : FnScope ["_law_word", "_law_first", "_law_stroke", "_law_second"] ["_law_word"] (defScope s_number_of) := ⟨rfl, rfl, rfl, by decide +kernel, rfl, by decide +kernel, by decide +kernel⟩
theorem sc_rates_of : FnScope ["_law_symbols_here", "_law_found", "_law_side", "_law_sign", "_law_rate", "_law_held", "_law_kind", "_law_at", "_law_word"] ["_law_symbols_here"] (defScope s_rates_of) := ⟨rfl, rfl, rfl, by decide +kernel, rfl, by decide +kernel, by decide +kernel⟩
theorem sc_ties_of : FnScope ["_law_text", "_law_symbols_here", "_law_fault", "_law_rates", "_law_terms", "_law_word", "_law_tie", "_law_back", "_law_name", "_law_symbol", "_law_rate"] ["_law_text"] (defScope s_ties_of) := ⟨rfl, rfl, rfl, by decide +kernel, rfl, by decide +kernel, by decide +kernel⟩
theorem sc_gap : FnScope ["_law_feed_here"] ["_law_feed_here"] (defScope s_gap) := ⟨rfl, rfl, rfl, by decide +kernel, rfl, by decide +kernel, by decide +kernel⟩
theorem sc_drawn_sum : FnScope ["_law_feed_here", "_law_words_here", "_law_many", "_law_text", "_law_k", "_law_size", "_law_way"] ["_law_feed_here", "_law_words_here", "_law_many"] (defScope s_drawn_sum) := ⟨rfl, rfl, rfl, by decide +kernel, rfl, by decide +kernel, by decide +kernel⟩
theorem sc_drawn_text : FnScope ["_law_feed_here", "_law_words_here", "_law_left", "_law_right", "_law_middle"] ["_law_feed_here", "_law_words_here"] (defScope s_drawn_text) := ⟨rfl, rfl, rfl, by decide +kernel, rfl, by decide +kernel, by decide +kernel⟩
theorem sc_p_law : FnScope ["_law_script", "_law_feed_here", "_law_turn", "_law_words_here", "_law_due", "_law_bonds", "_law_told", "_law_tie", "_law_text", "_law_name"] ["_law_script"] (defScope s_p_law) := ⟨rfl, rfl, rfl, by decide +kernel, rfl, by decide +kernel, by decide +kernel⟩
structure Txt (K : PySem.W.Frag) (mg : Str → Option Value) (fa : Nat → Addr) (fd : Nat → FuncData) : Prop where
  F_p_shortened : Fun K "shortened" "shortened" s_p_shortened (fa 12) (fd 12)
  g_p_shortened : mg "shortened" = some (.ref (fa 12))
  b_p_shortened : Binds K (fd 12) ["one", "other"] []
  F_p_common_divisor : Fun K "common_divisor" "common_divisor" s_p_common_divisor (fa 13) (fd 13)
  g_p_common_divisor : mg "common_divisor" = some (.ref (fa 13))
  b_p_common_divisor : Binds K (fd 13) ["one", "other"] []
  F_p_ratio : FunD K "ratio" "ratio" (defArgs s_p_ratio) (defBody s_p_ratio) (defScope s_p_ratio) [V.int 1] [] (fa 14) (fd 14)
  g_p_ratio : mg "ratio" = some (.ref (fa 14))
  b_p_ratio : Binds K (fd 14) ["top", "under"] []
  d_p_ratio : ∃ ds, Vals [V.int 1] ds ∧ Binds K (fd 14) ["top", "under"] ds
  F_p_add : Fun K "add" "add" s_p_add (fa 15) (fd 15)
  g_p_add : mg "add" = some (.ref (fa 15))
  b_p_add : Binds K (fd 15) ["one", "other"] []
  F_p_subtract : Fun K "subtract" "subtract" s_p_subtract (fa 16) (fd 16)
  g_p_subtract : mg "subtract" = some (.ref (fa 16))
  b_p_subtract : Binds K (fd 16) ["one", "other"] []
  F_p_multiply : Fun K "multiply" "multiply" s_p_multiply (fa 17) (fd 17)
  g_p_multiply : mg "multiply" = some (.ref (fa 17))
  b_p_multiply : Binds K (fd 17) ["one", "other"] []
  F_p_is_digits : Fun K "is_digits" "is_digits" s_p_is_digits (fa 18) (fd 18)
  g_p_is_digits : mg "is_digits" = some (.ref (fa 18))
  b_p_is_digits : Binds K (fd 18) ["text"] []
  F_p_number_text : Fun K "number_text" "number_text" s_p_number_text (fa 19) (fd 19)
  g_p_number_text : mg "number_text" = some (.ref (fa 19))
  b_p_number_text : Binds K (fd 19) ["number"] []
  F_p_number_of : Fun K "number_of" "number_of" s_p_number_of (fa 20) (fd 20)
  g_p_number_of : mg "number_of" = some (.ref (fa 20))
  b_p_number_of : Binds K (fd 20) ["digits"] []
  F_p_ratio_text : Fun K "ratio_text" "ratio_text" s_p_ratio_text (fa 21) (fd 21)
  g_p_ratio_text : mg "ratio_text" = some (.ref (fa 21))
  b_p_ratio_text : Binds K (fd 21) ["one"] []
  F_p_ratio_of : Fun K "ratio_of" "ratio_of" s_p_ratio_of (fa 22) (fd 22)
  g_p_ratio_of : mg "ratio_of" = some (.ref (fa 22))
  b_p_ratio_of : Binds K (fd 22) ["text"] []
  F_p_run_end : Fun K "run_end" "run_end" s_p_run_end (fa 28) (fd 28)
  g_p_run_end : mg "run_end" = some (.ref (fa 28))
  b_p_run_end : Binds K (fd 28) ["text", "at", "letters"] []
  F_p_number_symbol : Fun K "number_symbol" "number_symbol" s_p_number_symbol (fa 29) (fd 29)
  g_p_number_symbol : mg "number_symbol" = some (.ref (fa 29))
  b_p_number_symbol : Binds K (fd 29) ["text", "at"] []
  F_p_name_symbol : Fun K "name_symbol" "name_symbol" s_p_name_symbol (fa 30) (fd 30)
  g_p_name_symbol : mg "name_symbol" = some (.ref (fa 30))
  b_p_name_symbol : Binds K (fd 30) ["text", "at"] []
  F_p_symbol_at : Fun K "symbol_at" "symbol_at" s_p_symbol_at (fa 31) (fd 31)
  g_p_symbol_at : mg "symbol_at" = some (.ref (fa 31))
  b_p_symbol_at : Binds K (fd 31) ["text", "at"] []
  F_p_symbols_of : Fun K "symbols_of" "symbols_of" s_p_symbols_of (fa 32) (fd 32)
  g_p_symbols_of : mg "symbols_of" = some (.ref (fa 32))
  b_p_symbols_of : Binds K (fd 32) ["text"] []
  F_p_read_term : Fun K "read_term" "read_term" s_p_read_term (fa 33) (fd 33)
  g_p_read_term : mg "read_term" = some (.ref (fa 33))
  b_p_read_term : Binds K (fd 33) ["symbols", "at"] []
  F_p_read_sum : Fun K "read_sum" "read_sum" s_p_read_sum (fa 34) (fd 34)
  g_p_read_sum : mg "read_sum" = some (.ref (fa 34))
  b_p_read_sum : Binds K (fd 34) ["symbols", "at"] []
  F_p_reduced : Fun K "reduced" "reduced" s_p_reduced (fa 36) (fd 36)
  g_p_reduced : mg "reduced" = some (.ref (fa 36))
  b_p_reduced : Binds K (fd 36) ["tie"] []
  F_p_term_text : Fun K "term_text" "term_text" s_p_term_text (fa 37) (fd 37)
  g_p_term_text : mg "term_text" = some (.ref (fa 37))
  b_p_term_text : Binds K (fd 37) ["name", "rate"] []
  F_p_terms_text : Fun K "terms_text" "terms_text" s_p_terms_text (fa 38) (fd 38)
  g_p_terms_text : mg "terms_text" = some (.ref (fa 38))
  b_p_terms_text : Binds K (fd 38) ["terms"] []
  F_p_tie_text : Fun K "tie_text" "tie_text" s_p_tie_text (fa 39) (fd 39)
  g_p_tie_text : mg "tie_text" = some (.ref (fa 39))
  b_p_tie_text : Binds K (fd 39) ["tie"] []
  F_p_ascending_names : Fun K "ascending_names" "ascending_names" s_p_ascending_names (fa 40) (fd 40)
  g_p_ascending_names : mg "ascending_names" = some (.ref (fa 40))
  b_p_ascending_names : Binds K (fd 40) ["rates"] []
  F_p_brought_together : Fun K "brought_together" "brought_together" s_p_brought_together (fa 41) (fd 41)
  g_p_brought_together : mg "brought_together" = some (.ref (fa 41))
  b_p_brought_together : Binds K (fd 41) ["left", "right"] []
  F_p_tie_below : Fun K "tie_below" "tie_below" s_p_tie_below (fa 42) (fd 42)
  g_p_tie_below : mg "tie_below" = some (.ref (fa 42))
  b_p_tie_below : Binds K (fd 42) ["left", "right"] []
  F_p_read_ties : Fun K "read_ties" "read_ties" s_p_read_ties (fa 43) (fd 43)
  g_p_read_ties : mg "read_ties" = some (.ref (fa 43))
  b_p_read_ties : Binds K (fd 43) ["text"] []
  F_feed : Fun K "_law_feed" "_law_feed" s_feed (fa 45) (fd 45)
  g_feed : mg "_law_feed" = some (.ref (fa 45))
  b_feed : Binds K (fd 45) ["_law_script"] []
  F_draw : Fun K "_law_draw" "_law_draw" s_draw (fa 46) (fd 46)
  g_draw : mg "_law_draw" = some (.ref (fa 46))
  b_draw : Binds K (fd 46) ["_law_feed_here", "_law_many"] []
  F_any : Fun K "_law_any" "_law_any" s_any (fa 47) (fd 47)
  g_any : mg "_law_any" = some (.ref (fa 47))
  b_any : Binds K (fd 47) ["_law_feed_here", "_law_row"] []
  F_same : Fun K "_law_same" "_law_same" s_same (fa 48) (fd 48)
  g_same : mg "_law_same" = some (.ref (fa 48))
  b_same : Binds K (fd 48) ["_law_found", "_law_due"] []
  F_field : Fun K "_law_field" "_law_field" s_field (fa 49) (fd 49)
  g_field : mg "_law_field" = some (.ref (fa 49))
  b_field : Binds K (fd 49) ["_law_e"] []
  F_why : Fun K "_law_why" "_law_why" s_why (fa 50) (fd 50)
  g_why : mg "_law_why" = some (.ref (fa 50))
  b_why : Binds K (fd 50) ["_law_ask"] []
  F_gcd : Fun K "_law_gcd" "_law_gcd" s_gcd (fa 51) (fd 51)
  g_gcd : mg "_law_gcd" = some (.ref (fa 51))
  b_gcd : Binds K (fd 51) ["_law_one", "_law_two"] []
  F_low : Fun K "_law_low" "_law_low" s_low (fa 52) (fd 52)
  g_low : mg "_law_low" = some (.ref (fa 52))
  b_low : Binds K (fd 52) ["_law_upper", "_law_lower"] []
  F_plus : Fun K "_law_plus" "_law_plus" s_plus (fa 53) (fd 53)
  g_plus : mg "_law_plus" = some (.ref (fa 53))
  b_plus : Binds K (fd 53) ["_law_one", "_law_two"] []
  F_minus : Fun K "_law_minus" "_law_minus" s_minus (fa 54) (fd 54)
  g_minus : mg "_law_minus" = some (.ref (fa 54))
  b_minus : Binds K (fd 54) ["_law_one"] []
  F_by : Fun K "_law_by" "_law_by" s_by (fa 55) (fd 55)
  g_by : mg "_law_by" = some (.ref (fa 55))
  b_by : Binds K (fd 55) ["_law_one", "_law_two"] []
  F_words : Fun K "_law_words" "_law_words" s_words (fa 56) (fd 56)
  g_words : mg "_law_words" = some (.ref (fa 56))
  b_words : Binds K (fd 56) ["_law_feed_here", "_law_many"] []
  F_brief : Fun K "_law_brief" "_law_brief" s_brief (fa 57) (fd 57)
  g_brief : mg "_law_brief" = some (.ref (fa 57))
  b_brief : Binds K (fd 57) ["_law_tie"] []
  F_part_text : Fun K "_law_part_text" "_law_part_text" s_part_text (fa 58) (fd 58)
  g_part_text : mg "_law_part_text" = some (.ref (fa 58))
  b_part_text : Binds K (fd 58) ["_law_one"] []
  F_run_end : Fun K "_law_run_end" "_law_run_end" s_run_end (fa 59) (fd 59)
  g_run_end : mg "_law_run_end" = some (.ref (fa 59))
  b_run_end : Binds K (fd 59) ["_law_text", "_law_at", "_law_signs"] []
  F_is_number : Fun K "_law_is_number" "_law_is_number" s_is_number (fa 60) (fd 60)
  g_is_number : mg "_law_is_number" = some (.ref (fa 60))
  b_is_number : Binds K (fd 60) ["_law_word"] []
  F_symbols : Fun K "_law_symbols" "_law_symbols" s_symbols (fa 61) (fd 61)
  g_symbols : mg "_law_symbols" = some (.ref (fa 61))
  b_symbols : Binds K (fd 61) ["_law_text"] []
  F_sum_fault : Fun K "_law_sum_fault" "_law_sum_fault" s_sum_fault (fa 62) (fd 62)
  g_sum_fault : mg "_law_sum_fault" = some (.ref (fa 62))
  b_sum_fault : Binds K (fd 62) ["_law_symbols_here", "_law_wants_relation"] []
  F_number_of : Fun K "_law_number_of" "_law_number_of" s_number_of (fa 63) (fd 63)
  g_number_of : mg "_law_number_of" = some (.ref (fa 63))
  b_number_of : Binds K (fd 63) ["_law_word"] []
  F_rates_of : Fun K "_law_rates_of" "_law_rates_of" s_rates_of (fa 64) (fd 64)
  g_rates_of : mg "_law_rates_of" = some (.ref (fa 64))
  b_rates_of : Binds K (fd 64) ["_law_symbols_here"] []
  F_ties_of : Fun K "_law_ties_of" "_law_ties_of" s_ties_of (fa 65) (fd 65)
  g_ties_of : mg "_law_ties_of" = some (.ref (fa 65))
  b_ties_of : Binds K (fd 65) ["_law_text"] []
  F_gap : Fun K "_law_gap" "_law_gap" s_gap (fa 66) (fd 66)
  g_gap : mg "_law_gap" = some (.ref (fa 66))
  b_gap : Binds K (fd 66) ["_law_feed_here"] []
  F_drawn_sum : Fun K "_law_drawn_sum" "_law_drawn_sum" s_drawn_sum (fa 67) (fd 67)
  g_drawn_sum : mg "_law_drawn_sum" = some (.ref (fa 67))
  b_drawn_sum : Binds K (fd 67) ["_law_feed_here", "_law_words_here", "_law_many"] []
  F_drawn_text : Fun K "_law_drawn_text" "_law_drawn_text" s_drawn_text (fa 68) (fd 68)
  g_drawn_text : mg "_law_drawn_text" = some (.ref (fa 68))
  b_drawn_text : Binds K (fd 68) ["_law_feed_here", "_law_words_here"] []
  F_p_law : Fun K "law" "law" s_p_law (fa 69) (fd 69)
  g_p_law : mg "law" = some (.ref (fa 69))
  b_p_law : Binds K (fd 69) ["_law_script"] []
  eInvalidRatio : ErrC K mg "InvalidRatio" (fa 2) (fa 1) (fa 5) (fa 1002)
  IInvalidRatio : Fun K "__init__" "InvalidRatio.__init__" (inClass (topS 2) 0) (fa 1002) (fd 1002)
  bIInvalidRatio : Binds K (fd 1002) ["self", "given"] []
  nInvalidRatio_given : PySem.W.findIn K (.ref (fa 2)) "given" = some none
  eNotTied : ErrC K mg "NotTied" (fa 3) (fa 1) (fa 5) (fa 1003)
  INotTied : Fun K "__init__" "NotTied.__init__" (inClass (topS 3) 0) (fa 1003) (fd 1003)
  bINotTied : Binds K (fd 1003) ["self", "many"] []
  nNotTied_many : PySem.W.findIn K (.ref (fa 3)) "many" = some none
  eParseError : ErrC K mg "ParseError" (fa 4) (fa 1) (fa 5) (fa 1004)
  IParseError : Fun K "__init__" "ParseError.__init__" (inClass (topS 4) 0) (fa 1004) (fd 1004)
  bIParseError : Binds K (fd 1004) ["self", "at"] []
  nParseError_at : PySem.W.findIn K (.ref (fa 4)) "at" = some none
  gTieError : mg "TieError" = some (.ref (fa 1))
  gMissing : mg "Missing" = some (.ref (fa 5))
  c_LONG : ∃ u, mg "LONG" = some u ∧ RelV (.int 4096) u
  c_ZERO : ∃ u, mg "ZERO" = some u ∧ RelV (.ref (fa 2000)) u
  c_DIGITS : ∃ u, mg "DIGITS" = some u ∧ RelV (.str (Str.ofString "0123456789")) u
  c_LETTERS : ∃ u, mg "LETTERS" = some u ∧ RelV (.str (Str.ofString "abcdefghijklmnopqrstuvwxyz")) u
  c_MOST_DIGITS : ∃ u, mg "MOST_DIGITS" = some u ∧ RelV (.int 30) u
  c_MOST_LETTERS : ∃ u, mg "MOST_LETTERS" = some u ∧ RelV (.int 6) u
  z_ZERO : ∀ H : Hp, SqT K H ((fa 2000)) [V.int 0, V.int 1]
  m_int : mg "int" = none
  m_len : mg "len" = none
  m_abs : mg "abs" = none
  m_range : mg "range" = none
  m_zip : mg "zip" = none
  m_all : mg "all" = none
  m_isinstance : mg "isinstance" = none
  m_bool : mg "bool" = none
  m_str : mg "str" = none
  m_tuple : mg "tuple" = none
  m_list : mg "list" = none
  m_dict : mg "dict" = none
  m_sorted : mg "sorted" = none
  m_set : mg "set" = none
/-! ### the law's own words: drawing -/
def FeedOk (H : Hp) (a c : Addr) : Prop := ∃ (ns : List Int) (k big mark : Int), H a = some (.lst [.ref c, .int k, .int big, .int mark]) ∧ H c = some (.lst (ns.map V.int)) ∧ c ≠ a ∧ ns.length ≤ 63 ∧ 0 ≤ k
def But (a : Addr) (H H' : Hp) : Prop := ∀ b o, b ≠ a → H b = some o → H' b = some o
theorem But.refl (a : Addr) (H : Hp) : But a H H := fun _ _ _ h => h
theorem But.trans {a : Addr} {H H1 H2 : Hp} (p : But a H H1) (q : But a H1 H2) : But a H H2 := fun b o n h => q b o n (p b o n h)
theorem But.upd {a : Addr} {H : Hp} {o : HO} : But a H (upd H a o) := fun b _ n h => by rw [upd_ne n]; exact h
theorem But.of {a : Addr} {H H' : Hp} (s : Same H H') : But a H H' := fun b o _ h => s b o h
theorem same_upd {H : Hp} {p : Addr} {o : HO} (h : H p = none) : Same H (upd H p o) := fun b x e => by
  rw [upd_ne (ne_of_none e h)]
  exact e
theorem FeedOk.new {H : Hp} {a c p : Addr} {o : HO} (h : FeedOk H a c) (n : H p = none) : FeedOk (upd H p o) a c := by
  obtain ⟨ns, k, big, mark, h1, h2, h3⟩ := h
  exact ⟨ns, k, big, mark, same_upd n _ _ h1, same_upd n _ _ h2, h3⟩
theorem FeedOk.same {H H' : Hp} {a c : Addr} (h : FeedOk H a c) (s : Same H H') : FeedOk H' a c := by
  obtain ⟨ns, k, big, mark, h1, h2, h3⟩ := h
  exact ⟨ns, k, big, mark, s _ _ h1, s _ _ h2, h3⟩
def Mid (m : Int) : Prop := 0 < m ∧ m.natAbs.log2 < 9000
def spDraw : Sp := fun vs H Q _ => ∃ (a c : Addr) (m : Int), vs = [.ref a, .int m] ∧ FeedOk H a c ∧ Mid m ∧ ∀ r H', 0 ≤ r → r < m → FeedOk H' a c → But a H H' → Q (.int r) H'
section
variable {P : Program} {w : World} {K : PySem.W.Frag} {mg : Str → Option Value} {base : Heap} {fa : Nat → Addr} {fd : Nat → FuncData}
theorem ok_draw (T : Txt K mg fa fd) : FnOk P w K mg base CX0 1 (fa 46) (fd 46) ["_law_feed_here", "_law_many"] spDraw := by
  refine T.F_draw.ok sc_draw (fun vs H Q E h => ?_) (fun cdv A outer s H vs Q E hr h => ?_)
  · obtain ⟨a, c, m, rfl, _⟩ := h
    rfl
  · obtain ⟨a, c, m, rfl, ⟨ns, k, big, mark, ha, hc, nca, hlen, hk⟩, ⟨hm, hm9⟩, q⟩ := h
    refine ⟨_, (C8.pss_cut (ps_if (pt_cmpR op_lt (pe_ix ix_list (pv 0) pe_int (fun _ _ => rfl)) pe_int (nomark _)) (C8.pss_cut (ps_asg (pe_op op_add (pe_ix ix_list (pv 0) pe_int (fun _ _ => rfl)) pe_int) (pg_sub (pv 0) pe_int set_list))
      (pss_cons (ps_set (i := 2) sc_draw.nd rfl (.inl rfl) (pe_op op_add (pe_ix ix_list (pv 0) pe_int (fun _ _ => rfl)) (pe_op op_mul (pe_ix ix_list (pv 0) pe_int (fun _ _ => rfl)) pe_int)))
      (C8.pss_cut (ps_if (pt_cmpR op_le (pe_ix ix_list (pv 0) pe_int (fun _ _ => rfl)) (pe_callB call_len_seq (by rfl) T.m_len PySem.boot_len (pa_cons (pe_ix ix_list (pv 0) pe_int (fun _ _ => rfl)) pa_nil)) (nomark _)) (pss_one (ps_set (i := 2) sc_draw.nd rfl (.inl rfl) (pe_ix ix_list (pe_ix ix_list (pv 0) pe_int (fun _ _ => rfl)) (pe_op op_sub (pe_ix ix_list (pv 0) pe_int (fun _ _ => rfl)) pe_int) (fun _ _ => rfl)))) pss_nil)
      (pss_cons (ps_if (PW.pt (pw_or (pt_cmpR op_gt (pe_ix ix_list (pv 0) pe_int (fun _ _ => rfl)) (pe_callB call_len_seq (by rfl) T.m_len PySem.boot_len (pa_cons (pe_ix ix_list (pv 0) pe_int (fun _ _ => rfl)) pa_nil)) (nomark _)) (pw_or1 (pt_cmpR op_lt (pv 2) (pe_op op_pow pe_int pe_int) (nomark _))))) (pss_cons (ps_set (i := 3) sc_draw.nd rfl (.inl rfl) (pe_op op_mod (pe_callTy call_int1 (by rfl) T.m_int PySem.Pv.boot_int (pa_cons (pe_op op_add (pe_op op_add (pe_op op_mul (pv 2) pe_int) (pe_op op_mul (pe_ix ix_list (pv 0) pe_int (fun _ _ => rfl)) pe_int)) (pe_ix ix_list (pv 0) pe_int (fun _ _ => rfl))) pa_nil)) pe_int))
      (pss_cons (ps_set (i := 4) sc_draw.nd rfl (.inl rfl) (pe_op op_mod (pe_callTy call_int1 (by rfl) T.m_int PySem.Pv.boot_int (pa_cons (pe_op op_add (pe_op op_mul (pv 3) (pv 3)) (pe_op op_mul (pe_ix ix_list (pv 0) pe_int (fun _ _ => rfl)) pe_int)) pa_nil)) pe_int))
      (pss_one (ps_ret (pe_op op_mod (pe_op op_fdiv (pe_op op_mod (pe_callTy call_int1 (by rfl) T.m_int PySem.Pv.boot_int (pa_cons (pe_op op_add (pe_op op_mul (pv 4) pe_int) (pv 3)) pa_nil)) pe_int) pe_int) (pv 1)))))) pss_nil)
      (pss_one (ps_asg (pv 2) (pg_sub (pv 0) pe_int set_list))))))) pss_nil)
      (pss_cons (ps_set (i := 5) sc_draw.nd rfl (.inl rfl) (pe_op op_mod (pe_callTy call_int1 (by rfl) T.m_int PySem.Pv.boot_int (pa_cons (pe_ix ix_list (pv 0) pe_int (fun _ _ => rfl)) pa_nil)) (pv 1)))
      (pss_cons (ps_asg (pe_op op_fdivW (pe_callTy call_int1 (by rfl) T.m_int PySem.Pv.boot_int (pa_cons (pe_ix ix_list (pv 0) pe_int (fun _ _ => rfl)) pa_nil)) (pv 1)) (pg_sub (pv 0) pe_int set_list))
      (pss_one (ps_ret (pv 5)))))), ?_⟩
    have i0 : ∀ (x y z u : V), atI [x, y, z, u] 0 = some x := fun _ _ _ _ => rfl
    have i1 : ∀ (x y z u : V), atI [x, y, z, u] 1 = some y := fun _ _ _ _ => rfl
    have i2 : ∀ (x y z u : V), atI [x, y, z, u] 2 = some z := fun _ _ _ _ => rfl
    have i3 : ∀ (x y z u : V), atI [x, y, z, u] 3 = some u := fun _ _ _ _ => rfl
    refine ⟨fun σ H1 => FeedOk H1 a c ∧ But a H H1 ∧ ∃ y2 y3 y4 y5, σ = [some (.ref a), some (.int m), y2, y3, y4, y5], ?_, fun σ H1 hM => ?_⟩
    · refine ⟨.ref a, rfl, a, _, _, _, rfl, rfl, SqL.of ha, i2 _ _ _ _, _, _, rfl, rfl, _, rfl, ite2 (fun e => ?_) (fun e => ?_)⟩
      · -- feed[1] = feed[1] + 1
        refine ⟨fun σ H1 => σ = [some (.ref a), some (.int m), none, none, none, none] ∧ H1 a = some (.lst [.ref c, .int (k + 1), .int big, .int mark]) ∧ H1 c = some (.lst (ns.map V.int)) ∧ But a H H1,
          ⟨.ref a, rfl, a, _, _, _, rfl, rfl, SqL.of ha, i1 _ _ _ _, _, _, rfl, rfl, .ref a, rfl, a, _, _, 1, rfl, rfl, ha, rfl, rfl, upd_same, by rw [upd_ne nca]; exact hc, But.upd⟩, fun σ H1 hM => ?_⟩
        obtain ⟨rfl, ha1, hc1, b1⟩ := hM
        refine ⟨.ref a, rfl, a, _, _, _, rfl, rfl, SqL.of ha1, i3 _ _ _ _, .ref a, rfl, a, _, _, _, rfl, rfl, SqL.of ha1, i1 _ _ _ _, _, _, rfl, rfl, .inr (by decide), _, _, rfl, rfl, ?_⟩
        refine ⟨fun σ H2 => H2 = H1 ∧ ∃ z : Int, σ = [some (.ref a), some (.int m), some (.int z), none, none, none], ?_, fun σ H2 hM => ?_⟩
        · refine ⟨.ref a, rfl, a, _, _, _, rfl, rfl, SqL.of ha1, i1 _ _ _ _, .ref a, rfl, a, _, _, _, rfl, rfl, SqL.of ha1, i0 _ _ _ _, c, _, rfl, .inl (SqL.of hc1), _, _, rfl, rfl, _, rfl, ite2 (fun e1 => ?_) (fun e1 => ?_)⟩
          · have h1 : k + 1 ≤ ((ns.map V.int).length : Int) := of_decide_eq_true e1
            rw [List.length_map] at h1
            have h2 : k.toNat < ns.length := by omega
            have g : (ns.map V.int)[k.toNat]? = some (.int ns[k.toNat]) := by rw [List.getElem?_map, List.getElem?_eq_getElem h2]; rfl
            exact ⟨.ref a, rfl, a, _, _, _, rfl, rfl, SqL.of ha1, i0 _ _ _ _, .ref a, rfl, a, _, _, _, rfl, rfl, SqL.of ha1, i1 _ _ _ _, _, _, rfl, rfl, c, _, _, _, rfl, rfl, SqL.of hc1, at_of (j := k.toNat) (by omega) g, rfl, _, rfl⟩
          · exact ⟨rfl, _, rfl⟩
        · obtain ⟨rfl, z, rfl⟩ := hM
          have tail : FeedOk (upd H2 a (.lst ([V.ref c, .int (k + 1), .int big, .int mark].set 2 (.int z)))) a c ∧ But a H (upd H2 a (.lst ([V.ref c, .int (k + 1), .int big, .int mark].set 2 (.int z)))) ∧ ∃ y2 y3 y4 y5, [some (V.ref a), some (.int m), some (.int z), none, none, none] = [some (V.ref a), some (.int m), y2, y3, y4, y5] :=
            ⟨⟨ns, k + 1, z, mark, upd_same, by rw [upd_ne nca]; exact hc1, nca, hlen, by omega⟩, b1.trans But.upd, _, _, _, _, rfl⟩
          have pos : ∀ x y : Int, 0 ≤ x % 2147483647 ∧ x % 2147483647 < 2147483647 := fun x _ => ⟨Int.emod_nonneg _ (by decide), Int.emod_lt_of_pos _ (by decide)⟩
          have done : ∀ x : Int, Q (.int (x % m)) H2 := fun x => q _ _ (Int.emod_nonneg _ (by omega)) (Int.emod_lt_of_pos _ hm) ⟨ns, k + 1, big, mark, ha1, hc1, nca, hlen, by omega⟩ b1
          refine ⟨.ref a, rfl, a, _, _, _, rfl, rfl, SqL.of ha1, i1 _ _ _ _, .ref a, rfl, a, _, _, _, rfl, rfl, SqL.of ha1, i0 _ _ _ _, c, _, rfl, .inl (SqL.of hc1), _, _, rfl, rfl, _, rfl, ite2 (fun e1 => ?_) (fun e1 => ?_)⟩
          · exact ⟨_, rfl, _, _, rfl, rfl, .inr (by decide), _, rfl, a, _, _, _, rfl, rfl, SqL.of ha1, i1 _ _ _ _, _, _, rfl, rfl, .inr (by decide), _, _, rfl, rfl, _, rfl, a, _, _, _, rfl, rfl, SqL.of ha1, i3 _ _ _ _, _, _, rfl, rfl, .inl ⟨_, rfl, _, _, rfl, rfl, (by show (0 : Int) < _; decide), _, rfl, _, rfl, _, _, rfl, rfl, .inl (by have p := pos (z * 48271 + (k + 1) * 69621 + mark) 0; exact ⟨by omega, by omega⟩), _, rfl, a, _, _, _, rfl, rfl, SqL.of ha1, i1 _ _ _ _, _, _, rfl, rfl, .inr (by decide), _, _, rfl, rfl, .inl ⟨_, rfl, _, _, rfl, rfl, (by show (0 : Int) < _; decide), _, rfl, _, _, rfl, rfl, .inr (by decide), _, rfl, _, _, rfl, rfl, .inl ⟨_, rfl, _, _, rfl, rfl, (by show (0 : Int) < _; decide), _, _, rfl, rfl, ⟨by decide, by decide⟩, _, rfl, _, _, rfl, rfl, hm, done _⟩⟩⟩⟩
          · refine ⟨_, rfl, _, _, rfl, rfl, ⟨by decide, by decide, by decide⟩, _, _, rfl, rfl, _, rfl, ite2 (fun e2 => ?_) (fun e2 => ?_)⟩
            · exact ⟨_, rfl, _, _, rfl, rfl, .inr (by decide), _, rfl, a, _, _, _, rfl, rfl, SqL.of ha1, i1 _ _ _ _, _, _, rfl, rfl, .inr (by decide), _, _, rfl, rfl, _, rfl, a, _, _, _, rfl, rfl, SqL.of ha1, i3 _ _ _ _, _, _, rfl, rfl, .inl ⟨_, rfl, _, _, rfl, rfl, (by show (0 : Int) < _; decide), _, rfl, _, rfl, _, _, rfl, rfl, .inl (by have p := pos (z * 48271 + (k + 1) * 69621 + mark) 0; exact ⟨by omega, by omega⟩), _, rfl, a, _, _, _, rfl, rfl, SqL.of ha1, i1 _ _ _ _, _, _, rfl, rfl, .inr (by decide), _, _, rfl, rfl, .inl ⟨_, rfl, _, _, rfl, rfl, (by show (0 : Int) < _; decide), _, rfl, _, _, rfl, rfl, .inr (by decide), _, rfl, _, _, rfl, rfl, .inl ⟨_, rfl, _, _, rfl, rfl, (by show (0 : Int) < _; decide), _, _, rfl, rfl, ⟨by decide, by decide⟩, _, rfl, _, _, rfl, rfl, hm, done _⟩⟩⟩⟩
            · exact ⟨_, rfl, .ref a, rfl, a, _, _, 2, rfl, rfl, ha1, rfl, tail⟩
      · exact ⟨⟨ns, k, big, mark, ha, hc, nca, hlen, hk⟩, But.refl _ _, none, none, none, none, rfl⟩
    · obtain ⟨⟨ns1, k1, big1, mark1, ha1, hc1, nca1, hlen1, hk1⟩, b1, y2, y3, y4, y5, rfl⟩ := hM
      refine ⟨.ref a, rfl, a, _, _, _, rfl, rfl, SqL.of ha1, i2 _ _ _ _, .inl ⟨_, rfl, _, rfl, _, _, rfl, rfl, hm, ?_⟩⟩
      refine ⟨.ref a, rfl, a, _, _, _, rfl, rfl, SqL.of ha1, i2 _ _ _ _, .inl ⟨_, rfl, _, rfl, _, _, rfl, rfl, ⟨hm, hm9⟩, ?_⟩⟩
      refine ⟨.ref a, rfl, a, _, _, 2, rfl, rfl, ha1, rfl, ?_⟩
      refine ⟨_, rfl, q _ _ (Int.emod_nonneg _ (by omega)) (Int.emod_lt_of_pos _ hm) ⟨ns1, k1, big1 / m, mark1, upd_same, ?_, nca1, hlen1, hk1⟩ (b1.trans But.upd)⟩
      rw [upd_ne nca1]
      exact hc1
theorem cut63 (xs : List V) (h : xs.length ≤ 63) : cutV xs none (some 63) = xs := by
  unfold cutV
  rw [show HT.sIx xs.length xs.length (some 63) = min 63 xs.length from HT.sIx_nat xs.length xs.length 63, HT.sIx_none]
  rw [Nat.min_eq_right h]
  exact List.take_length
def spFeed (K : PySem.W.Frag) : Sp := fun vs H Q _ => ∃ (a : Addr) (ns : List Int), vs = [.ref a] ∧ SqL K H a (ns.map V.int) ∧ ns.length ≤ 63 ∧ ∀ p c H', H p = none → H c = none → Same H H' → FeedOk H' p c → Q (.ref p) H'
theorem ok_feed (T : Txt K mg fa fd) : FnOk P w K mg base CX0 1 (fa 45) (fd 45) ["_law_script"] (spFeed K) := by
  refine T.F_feed.ok sc_feed (fun vs H Q E h => ?_) (fun cdv A outer s H vs Q E hr h => ?_)
  · obtain ⟨a, ns, rfl, _⟩ := h
    rfl
  · obtain ⟨a, ns, rfl, hS, hlen, q⟩ := h
    refine ⟨_, (C8.pss_cut (ps_setLc (i := 2) (own := [("_law_cell", 1)]) (g := gName 1) (tt := tYes) rfl sc_feed.nd rfl rfl (sw_true rfl rfl rfl (by decide +kernel)) (pi_list (pe_slice sl_list (pv 0) po_none (po_some pe_int))) (blkOk_by (own := [("_law_cell", 1)]) (N := ["_law_script", "_law_cell", "_law_cells", "_law_mark"]) (sc := defScope s_feed) (by decide +kernel)) (fun _ _ _ _ _ => pg_name (i := 1) sc_feed.nd rfl (Or.inl rfl)) (fun _ _ _ _ _ => pts_nil) (fun _ _ _ _ _ => (pe_callTy call_int1 (by rfl) T.m_int PySem.Pv.boot_int (pa_cons (pv 1) pa_nil))))
      (pss_cons (ps_set (i := 3) sc_feed.nd rfl (.inl rfl) (pe_op op_add pe_int (pe_op op_mul pe_int (pe_callB call_len_seq (by rfl) T.m_len PySem.boot_len (pa_cons (pv 2) pa_nil)))))
      (pss_cons (ps_for PassesOwn.never rfl (pi_list (pv 2)) (pg_name (i := 1) sc_feed.nd rfl (.inl rfl)) (pss_one (ps_set (i := 3) sc_feed.nd rfl (.inl rfl) (pe_op op_mod (pe_callTy call_int1 (by rfl) T.m_int PySem.Pv.boot_int (pa_cons (pe_op op_add (pe_op op_mul (pv 3) pe_int) (pv 1)) pa_nil)) pe_int))))
      (pss_one (ps_ret (pe_lst (pa_cons (pv 2) (pa_cons pe_int (pa_cons pe_int (pa_cons (pv 3) pa_nil)))))))))), ?_⟩
    refine ⟨fun σ H1 => ∃ c, σ = [some (.ref a), none, some (.ref c), none] ∧ H c = none ∧ Same H H1 ∧ H1 c = some (.lst (ns.map V.int)), ?_, fun σ H1 hM => ?_⟩
    · refine ⟨.ref a, rfl, 63, rfl, a, _, rfl, hS, fun p np => ?_⟩
      rw [cut63 _ (by rw [List.length_map]; exact hlen)]
      have s1 : Same H (upd H p (.lst (ns.map V.int))) := same_upd np
      refine ⟨p, rfl, ⟨_, SqL.of upd_same⟩, fun D nD => ?_⟩
      have nD0 : H D = none := s1.free nD
      have npD : p ≠ D := ne_of_none upd_same nD
      refine lc_list (K := K) (a := p) (xs := ns.map V.int) (fun i H2 => Same (upd H p (.lst (ns.map V.int))) H2 ∧ H2 D = some (.lst ((ns.take i).map V.int))) ⟨same_upd nD, upd_same⟩ (fun i H2 _ hp => SqL.of (hp.1 _ _ upd_same)) (fun i x H2 hx hp => ?_) (fun H2 hp => ?_)
      · rw [List.getElem?_map] at hx
        obtain ⟨z, hz, rfl⟩ := Option.map_eq_some_iff.mp hx
        refine ⟨rfl, _, rfl, .inl ⟨_, rfl, _, hp.2, ?_, ?_, ?_⟩⟩
        · rw [List.length_map, List.length_take]
          exact Nat.lt_of_le_of_lt (Nat.min_le_left _ _) (small1000 (by
            have := (List.getElem?_eq_some_iff.mp hz).1
            omega))
        · exact fun b o e => by
            rw [upd_ne (ne_of_none e nD)]
            exact hp.1 b o e
        · rw [upd_same, List.take_add_one, hz, List.map_append]
          rfl
      · rw [List.length_map] at hp
        refine ⟨D, rfl, nD0, s1.trans hp.1, ?_⟩
        rw [hp.2, List.take_length]
    · obtain ⟨c, rfl, nc, s1, hc⟩ := hM
      refine ⟨_, rfl, c, _, rfl, .inl (SqL.of hc), _, _, rfl, rfl, .inl (by decide), _, _, rfl, rfl, ?_⟩
      refine ⟨_, rfl, c, rfl, ⟨_, SqL.of hc⟩, for_list (K := K) (a := c) (xs := ns.map V.int) (fun i σ H2 => H2 = H1 ∧ ∃ (y1 : Option V) (m : Int), σ = [some (.ref a), y1, some (.ref c), some (.int m)] ∧ 0 ≤ m ∧ m < 1000000000000) ?_ (fun i σ H2 _ hp => by rw [hp.1]; exact SqL.of hc) (fun i x σ H2 hx hp => ?_) (fun σ H2 hp => ?_)⟩
      · refine ⟨rfl, _, _, rfl, ?_⟩
        rw [List.length_map]
        omega
      · obtain ⟨rfl, y1, m, rfl, h0, h1⟩ := hp
        rw [List.getElem?_map] at hx
        obtain ⟨z, hz, rfl⟩ := Option.map_eq_some_iff.mp hx
        exact ⟨_, rfl, _, _, rfl, rfl, .inr (by decide), _, rfl, _, _, rfl, rfl, .inl ⟨_, rfl, _, _, rfl, rfl, (by show (0 : Int) < _; decide), rfl, _, _, rfl, Int.emod_nonneg _ (by decide), Int.lt_trans (Int.emod_lt_of_pos _ (by decide)) (by decide)⟩⟩
      · obtain ⟨rfl, y1, m, rfl, h0, h1⟩ := hp
        refine ⟨_, rfl, _, rfl, Nat.le_trans (by decide : 4 ≤ 1000) (Nat.le_of_lt (small1000 (Nat.le_refl _))), fun p np => ?_⟩
        refine q p c _ (s1.free np) nc (s1.trans (same_upd np)) ⟨ns, 0, 0, m, upd_same, ?_, ne_of_none hc np, hlen, Int.le_refl _⟩
        rw [upd_ne (ne_of_none hc np)]
        exact hc
/-! ### the row's own draw -/
def spAny : Sp := fun vs H Q _ => ∃ (a c r : Addr) (xs : List V), vs = [.ref a, .ref r] ∧ FeedOk H a c ∧ H r = some (.lst xs) ∧ r ≠ a ∧ 0 < xs.length ∧ xs.length ≤ 1000 ∧ ∀ v H', v ∈ xs → FeedOk H' a c → But a H H' → Q v H'
theorem mid_small {n : Nat} (h0 : 0 < n) (h : n ≤ 1000) : Mid (n : Int) := ⟨by omega, by
  rw [Int.natAbs_natCast]
  exact Nat.lt_of_le_of_lt (Nat.log2_le_self n) (by omega)⟩
theorem ok_any (T : Txt K mg fa fd) : FnOk P w K mg base CX0 2 (fa 47) (fd 47) ["_law_feed_here", "_law_row"] spAny := by
  refine T.F_any.ok sc_any (fun vs H Q E h => ?_) (fun cdv A outer s H vs Q E hr h => ?_)
  · obtain ⟨a, c, m, xs, rfl, _⟩ := h
    rfl
  · obtain ⟨a, c, r, xs, rfl, hF, hx, nra, h0, h1, q⟩ := h
    refine ⟨_, (pss_one (ps_ret (pe_ix ix_list (pv 1) (pe_call (ok_draw T) (hr.mono (by decide)) (by rfl) T.g_draw T.F_draw.kp T.b_draw .nil pass0 (pa_cons (pv 0) (pa_cons (pe_callB call_len_seq (by rfl) T.m_len PySem.boot_len (pa_cons (pv 1) pa_nil)) pa_nil))) (fun _ _ => rfl)))), ?_⟩
    refine ⟨_, rfl, _, rfl, _, rfl, r, _, rfl, .inl (SqL.of hx), a, c, _, rfl, hF, mid_small h0 h1, fun z H' z0 z1 hF' b => ?_⟩
    have hz : z.toNat < xs.length := by omega
    exact ⟨r, xs, z, xs[z.toNat], rfl, rfl, SqL.of (b _ _ nra hx), at_of (j := z.toNat) (by omega) (List.getElem?_eq_getElem hz), q _ _ (List.getElem_mem hz) hF' b⟩
/-! ### the greatest common divisor -/
def spGcd : Sp := fun vs H Q _ => ∃ x y : Int, vs = [.int x, .int y] ∧ Q (.int (Int.gcd x y : Nat)) H
theorem ok_gcd (T : Txt K mg fa fd) : FnOk P w K mg base CX0 1 (fa 51) (fd 51) ["_law_one", "_law_two"] spGcd := by
  refine T.F_gcd.ok sc_gcd (fun vs H Q E h => ?_) (fun cdv A outer s H vs Q E hr h => ?_)
  · obtain ⟨x, y, rfl, _⟩ := h
    rfl
  · obtain ⟨x, y, rfl, q⟩ := h
    refine ⟨_, (pss_cons (ps_par (i := 0) (j := 1) (by rfl) sc_gcd.nd rfl rfl (by decide) rfl rfl (pa_cons (pe_callB call_abs (by rfl) T.m_abs PyProof.Rows.boot_abs (pa_cons (pv 0) pa_nil)) (pa_cons (pe_callB call_abs (by rfl) T.m_abs PyProof.Rows.boot_abs (pa_cons (pv 1) pa_nil)) pa_nil)) (by rfl))
      (pss_cons (ps_while PassesOwn.never (pt_cmpR op_ne (pv 1) pe_int (nomark _)) (pss_one (ps_par (i := 0) (j := 1) (by rfl) sc_gcd.nd rfl rfl (by decide) rfl rfl (pa_cons (pv 1) (pa_cons (pe_op op_mod (pe_callTy call_int1 (by rfl) T.m_int PySem.Pv.boot_int (pa_cons (pv 0) pa_nil)) (pv 1)) pa_nil)) (by rfl))))
      (pss_one (ps_ret (pv 0))))), ?_⟩
    refine ⟨_, rfl, _, rfl, _, rfl, _, rfl, _, _, rfl, ?_⟩
    have ab : ∀ z : Int, (if z < 0 then -z else z) = (z.natAbs : Int) := fun z => by split <;> omega
    rw [ab, ab]
    refine ⟨fun m σ H1 => ∃ u v : Nat, m = v ∧ σ = [some (.int (u : Int)), some (.int (v : Int))] ∧ H1 = H ∧ Nat.gcd u v = Int.gcd x y, ⟨_, x.natAbs, y.natAbs, rfl, rfl, rfl, rfl⟩, fun m σ H1 hW => ?_⟩
    obtain ⟨u, v, rfl, rfl, rfl, hg⟩ := hW
    refine ⟨_, rfl, rfl, _, rfl, ?_⟩
    by_cases hv : m = 0
    · subst hv
      rw [decide_eq_true (show V.int ((0 : Nat) : Int) = V.int 0 from rfl)]
      refine ⟨_, rfl, ?_⟩
      rw [Nat.gcd_zero_right] at hg
      rw [hg]
      exact q
    · rw [decide_eq_false (fun e => hv (by have := V.int.inj e; omega))]
      refine ⟨fun σ' H' => ∃ m', m' < m ∧ ∃ u v : Nat, m' = v ∧ σ' = [some (.int (u : Int)), some (.int (v : Int))] ∧ H' = H1 ∧ Nat.gcd u v = Int.gcd x y, fun σ' H' h => h, ?_⟩
      refine ⟨_, rfl, _, rfl, .inl ⟨_, rfl, _, rfl, _, _, rfl, rfl, (by show (0 : Int) < _; omega), ?_⟩⟩
      refine ⟨_, _, rfl, u % m, Nat.mod_lt _ (by omega), m, u % m, rfl, rfl, rfl, ?_⟩
      rw [← hg, Nat.gcd_comm m, ← Nat.gcd_rec, Nat.gcd_comm]
/-! ### lowest terms -/
def CDivG (_ j : Int) : Prop := j ≠ 0 ∧ j.natAbs.log2 < 9000
theorem op_fdivG {X : Cx} : OpR X (binaryOp .FloorDiv) (rI CDivG fun i j => .int (i.fdiv j)) := opI fun _ _ _ _ _ _ _ hc q => floordiv_int hc.1 q (.inl (PyProof.noPylong_of_log2 hc.2))
def lowG (u v : Int) : Int := if v < 0 then -(Int.gcd u v : Nat) else (Int.gcd u v : Nat)
def lowT (u v : Int) : Int := u.fdiv (lowG u v)
def lowD (u v : Int) : Int := v.fdiv (lowG u v)
theorem gcd_pos {u v : Int} (h : v ≠ 0) : 0 < Int.gcd u v := Nat.pos_of_ne_zero fun e => h (Int.gcd_eq_zero_iff.mp e).2
theorem gcd_le {u v : Int} (h : v ≠ 0) : Int.gcd u v ≤ v.natAbs := Nat.le_of_dvd (by omega) (Nat.gcd_dvd_right _ _)
theorem log2_mono {a b k : Nat} (h : a ≤ b) (hb : b.log2 < k) : a.log2 < k := by
  by_cases h0 : a = 0
  · subst h0
    rw [Nat.log2_zero]
    omega
  · have hb0 : b ≠ 0 := by omega
    exact (Nat.log2_lt h0).mpr (Nat.lt_of_le_of_lt h ((Nat.log2_lt hb0).mp hb))
theorem lowG_ok {u v : Int} (h : v ≠ 0) (h9 : v.natAbs.log2 < 4096) : CDivG u (lowG u v) := by
  have h1 := gcd_pos (u := u) h
  have h2 := gcd_le (u := u) h
  unfold lowG
  split
  · exact ⟨by omega, by rw [Int.natAbs_neg, Int.natAbs_natCast]; exact Nat.lt_trans (log2_mono h2 h9) (by decide)⟩
  · exact ⟨by omega, by rw [Int.natAbs_natCast]; exact Nat.lt_trans (log2_mono h2 h9) (by decide)⟩
def spLow : Sp := fun vs H Q _ => ∃ u v : Int, vs = [.int u, .int v] ∧ v ≠ 0 ∧ v.natAbs.log2 < 4096 ∧ ∀ p, H p = none → Q (.ref p) (upd H p (.tup [.int (lowT u v), .int (lowD u v)]))
theorem two_line : 2 ≤ sizeLine := Nat.le_trans (by decide : 2 ≤ 1000) (Nat.le_of_lt (small1000 (Nat.le_refl _)))
theorem ok_low (T : Txt K mg fa fd) : FnOk P w K mg base CX0 2 (fa 52) (fd 52) ["_law_upper", "_law_lower"] spLow := by
  refine T.F_low.ok sc_low (fun vs H Q E h => ?_) (fun cdv A outer s H vs Q E hr h => ?_)
  · obtain ⟨x, y, rfl, _⟩ := h
    rfl
  · obtain ⟨u, v, rfl, h0, h9, q⟩ := h
    refine ⟨_, (pss_cons (ps_set (i := 2) sc_low.nd rfl (.inl rfl) (pe_call (ok_gcd T) (hr.mono (by decide)) (by rfl) T.g_gcd T.F_gcd.kp T.b_gcd .nil pass0 (pa_cons (pv 0) (pa_cons (pv 1) pa_nil))))
      (C8.pss_cut (ps_if (pt_cmpR op_lt (pv 1) pe_int (nomark _)) (pss_one (ps_set (i := 2) sc_low.nd rfl (.inl rfl) (pe_un un_neg (pv 2)))) pss_nil)
      (pss_one (ps_ret (pe_tup (pa_cons (pe_op op_fdivG (pv 0) (pv 2)) (pa_cons (pe_op op_fdivG (pv 1) (pv 2)) pa_nil))))))), ?_⟩
    refine ⟨_, rfl, _, rfl, u, v, rfl, ?_⟩
    refine ⟨fun σ H1 => H1 = H ∧ σ = [some (.int u), some (.int v), some (.int (lowG u v))], ?_, fun σ H1 hM => ?_⟩
    · refine ⟨_, rfl, _, _, rfl, rfl, _, rfl, ite2 (fun e => ?_) (fun e => ?_)⟩
      · refine ⟨_, rfl, _, rfl, rfl, ?_⟩
        unfold lowG
        rw [if_pos (of_decide_eq_true e)]
        rfl
      · refine ⟨rfl, ?_⟩
        unfold lowG
        rw [if_neg (fun z => e (decide_eq_true z))]
        rfl
    · obtain ⟨rfl, rfl⟩ := hM
      have hG := lowG_ok (u := u) h0 h9
      exact ⟨_, rfl, _, rfl, _, _, rfl, rfl, hG, _, rfl, _, rfl, _, _, rfl, rfl, hG, two_line, q⟩
/-! ### sameness of data -/
def Leaf (v w : V) : Prop := v = w ∧ (v = .non ∨ (∃ b, v = .bl b) ∨ (∃ i, v = .int i) ∨ ∃ x, v = .str x)
def Eqd (H : Hp) : Nat → V → V → Prop
  | 0, v, w => Leaf v w
  | n + 1, v, w => Leaf v w ∨ ∃ (a b : Addr) (xs ys : List V), v = .ref a ∧ w = .ref b ∧ ((H a = some (.lst xs) ∧ H b = some (.lst ys)) ∨ (H a = some (.tup xs) ∧ H b = some (.tup ys))) ∧ xs.length = ys.length ∧ xs.length ≤ 1000 ∧
      ∀ (i : Nat) (x y : V), xs[i]? = some x → ys[i]? = some y → Eqd H n x y
theorem Eqd.leaf {H : Hp} {n : Nat} {v w : V} (h : Leaf v w) : Eqd H n v w := by
  cases n with
  | zero => exact h
  | succ n => exact .inl h
theorem Eqd.mono {H H' : Hp} (s : Same H H') : ∀ (n : Nat) {v w : V}, Eqd H n v w → Eqd H' n v w
  | 0, _, _, h => h
  | n + 1, _, _, h => by
    rcases h with h | ⟨a, b, xs, ys, e1, e2, h, l1, l2, r⟩
    · exact .inl h
    · refine .inr ⟨a, b, xs, ys, e1, e2, ?_, l1, l2, fun i x y h1 h2 => Eqd.mono s n (r i x y h1 h2)⟩
      rcases h with ⟨h1, h2⟩ | ⟨h1, h2⟩
      · exact .inl ⟨s _ _ h1, s _ _ h2⟩
      · exact .inr ⟨s _ _ h1, s _ _ h2⟩
def spSame (n : Nat) : Sp := fun vs H Q _ => ∃ v w : V, vs = [v, w] ∧ Eqd H n v w ∧ ∀ H', Same H H' → Q (.bl true) H'
def spS : Nat → Sp
  | 0 => fun _ _ _ _ => False
  | n + 1 => spSame n
theorem none_of_false {K : PySem.W.Frag} {f : Addr} {fd : FuncData} {st : Stmt} {x : Str} {N ps : List Str} (F : Fun K x x st f fd) (S : FnScope N ps (defScope st)) : FnOk P w K mg base CX0 1 f fd ps (fun _ _ _ _ => False) :=
  F.ok S (fun _ _ _ _ h => h.elim) fun _ _ _ _ _ _ _ _ _ h => h.elim
theorem kit2 {K : PySem.W.Frag} {a b c : String} {r1 r2 : Bool} (h1 : kitB a b = some r1) (h2 : kitB a c = some r2) : PySem.W.kitAny K (.type a) [.type b, .type c] = some (r1 || r2) := by
  cases r1 with
  | true => exact kitAny_cons (kit_ty h1) (fun h => nomatch h) fun _ => rfl
  | false =>
    refine kitAny_cons (kit_ty h1) (fun _ => ?_) fun h => nomatch h
    cases r2 with
    | true => exact kitAny_cons (kit_ty h2) (fun h => nomatch h) fun _ => rfl
    | false => exact kitAny_cons (kit_ty h2) (fun _ => kitAny_nil) fun h => nomatch h
theorem same_step (T : Txt K mg fa fd) (n : Nat) (G : FnOk P w K mg base CX0 (n + 1) (fa 48) (fd 48) ["_law_found", "_law_due"] (spS n)) : FnOk P w K mg base CX0 (n + 2) (fa 48) (fd 48) ["_law_found", "_law_due"] (spSame n) := by
  refine T.F_same.ok sc_same (fun vs H Q E h => ?_) (fun cdv A outer s H vs Q E hr h => ?_)
  · obtain ⟨x, y, rfl, _⟩ := h
    rfl
  · obtain ⟨x, y, rfl, hE, q⟩ := h
    refine ⟨_, (pss_cons (ps_if (pt_cmpR op_isN (pv 1) pe_non (nomark _)) (pss_one (ps_ret (pe_cmpR op_isN (pv 0) pe_non (nomark _)))) pss_nil)
      (pss_cons (ps_if (PW.pt (pw_or (pt_val (pe_callB call_isi (by rfl) T.m_isinstance PyProof.Rows.boot_isinstance (pa_cons (pv 1) (pa_cons (pe_bltn (v := .ty "bool") (by rfl) T.m_bool (by decide +kernel) rfl) pa_nil)))) (pw_or1 (pt_val (pe_callB call_isi (by rfl) T.m_isinstance PyProof.Rows.boot_isinstance (pa_cons (pv 0) (pa_cons (pe_bltn (v := .ty "bool") (by rfl) T.m_bool (by decide +kernel) rfl) pa_nil))))))) (pss_one (ps_ret (pe_and (pe_callB call_isi (by rfl) T.m_isinstance PyProof.Rows.boot_isinstance (pa_cons (pv 1) (pa_cons (pe_bltn (v := .ty "bool") (by rfl) T.m_bool (by decide +kernel) rfl) pa_nil))) (pe_and (pe_callB call_isi (by rfl) T.m_isinstance PyProof.Rows.boot_isinstance (pa_cons (pv 0) (pa_cons (pe_bltn (v := .ty "bool") (by rfl) T.m_bool (by decide +kernel) rfl) pa_nil))) (pe_one (pe_cmpR op_eq (pv 0) (pv 1) (nomark _))))))) pss_nil)
      (pss_cons (ps_if (pt_val (pe_callB call_isiT (by rfl) T.m_isinstance PyProof.Rows.boot_isinstance (pa_cons (pv 1) (pa_cons (pe_tup (pa_cons (pe_bltn (v := .ty "int") (by rfl) T.m_int (by decide +kernel) rfl) (pa_cons (pe_bltn (v := .ty "str") (by rfl) T.m_str (by decide +kernel) rfl) pa_nil))) pa_nil)))) (pss_one (ps_ret (pe_and (pe_callB call_isiT (by rfl) T.m_isinstance PyProof.Rows.boot_isinstance (pa_cons (pv 0) (pa_cons (pe_tup (pa_cons (pe_bltn (v := .ty "int") (by rfl) T.m_int (by decide +kernel) rfl) (pa_cons (pe_bltn (v := .ty "str") (by rfl) T.m_str (by decide +kernel) rfl) pa_nil))) pa_nil))) (pe_and (pe_cmpR op_eq (pe_callB call_isi (by rfl) T.m_isinstance PyProof.Rows.boot_isinstance (pa_cons (pv 0) (pa_cons (pe_bltn (v := .ty "int") (by rfl) T.m_int (by decide +kernel) rfl) pa_nil))) (pe_callB call_isi (by rfl) T.m_isinstance PyProof.Rows.boot_isinstance (pa_cons (pv 1) (pa_cons (pe_bltn (v := .ty "int") (by rfl) T.m_int (by decide +kernel) rfl) pa_nil))) (nomark _)) (pe_one (pe_cmpR op_eq (pv 0) (pv 1) (nomark _))))))) pss_nil)
      (pss_cons (ps_if (pt_val (pe_callB call_isi (by rfl) T.m_isinstance PyProof.Rows.boot_isinstance (pa_cons (pv 1) (pa_cons (pe_bltn (v := .ty "dict") (by rfl) T.m_dict (by decide +kernel) rfl) pa_nil)))) (pss_cons ps_never
      (pss_one ps_never)) pss_nil)
      (pss_cons (ps_if (PW.pt (pw_or (pt_cmpR op_ne (pe_callB call_isi (by rfl) T.m_isinstance PyProof.Rows.boot_isinstance (pa_cons (pv 1) (pa_cons (pe_bltn (v := .ty "list") (by rfl) T.m_list (by decide +kernel) rfl) pa_nil))) (pe_callB call_isi (by rfl) T.m_isinstance PyProof.Rows.boot_isinstance (pa_cons (pv 0) (pa_cons (pe_bltn (v := .ty "list") (by rfl) T.m_list (by decide +kernel) rfl) pa_nil))) (nomark _)) (pw_or1 (pt_cmpR op_ne (pe_callB call_isi (by rfl) T.m_isinstance PyProof.Rows.boot_isinstance (pa_cons (pv 1) (pa_cons (pe_bltn (v := .ty "tuple") (by rfl) T.m_tuple (by decide +kernel) rfl) pa_nil))) (pe_callB call_isi (by rfl) T.m_isinstance PyProof.Rows.boot_isinstance (pa_cons (pv 0) (pa_cons (pe_bltn (v := .ty "tuple") (by rfl) T.m_tuple (by decide +kernel) rfl) pa_nil))) (nomark _))))) (pss_one (ps_ret pe_bl)) pss_nil)
      (pss_one (ps_ret (pe_and (pe_cmpR op_eq (pe_callB call_len_seq (by rfl) T.m_len PySem.boot_len (pa_cons (pv 0) pa_nil)) (pe_callB call_len_seq (by rfl) T.m_len PySem.boot_len (pa_cons (pv 1) pa_nil)) (nomark _)) (pe_one (pe_callB (cr_all rfl) (by rfl) T.m_all PyProof.Rows.boot_all (pa_cons (pe_lc (own := [("_law_one", 3), ("_law_two", 4)]) (g := gTup K 2 (gCons (gName 3) (gCons (gName 4) gNil))) (tt := tYes) rfl sc_same.nd (RZ.pi_zipA (by rfl) T.m_zip (pa_cons (pv 0) (pa_cons (pv 1) pa_nil))) (blkOk_by (own := [("_law_one", 3), ("_law_two", 4)]) (N := ["_law_found", "_law_due", "_law_key", "_law_one", "_law_two"]) (sc := defScope s_same) (by decide +kernel)) (fun _ _ _ _ _ => pg_tup rfl (pgs_cons (pg_name (i := 3) sc_same.nd rfl (Or.inl rfl)) (pgs_cons (pg_name (i := 4) sc_same.nd rfl (Or.inl rfl)) pgs_nil))) (fun _ _ _ _ _ => pts_nil) (fun _ _ _ _ _ => (pe_call G (hr.mono (by omega)) (by rfl) T.g_same T.F_same.kp T.b_same .nil pass0 (pa_cons (pv 3) (pa_cons (pv 4) pa_nil))))) pa_nil))))))))))), ?_⟩
    have leafy : Leaf x y ∨ ∃ (n' : Nat) (a b : Addr) (xs ys : List V), n = n' + 1 ∧ x = .ref a ∧ y = .ref b ∧ ((H a = some (.lst xs) ∧ H b = some (.lst ys)) ∨ (H a = some (.tup xs) ∧ H b = some (.tup ys))) ∧ xs.length = ys.length ∧ xs.length ≤ 1000 ∧
        ∀ (i : Nat) (x y : V), xs[i]? = some x → ys[i]? = some y → Eqd H n' x y := by
      cases n with
      | zero => exact .inl hE
      | succ n' =>
        rcases hE with h | ⟨a, b, xs, ys, h⟩
        · exact .inl h
        · exact .inr ⟨n', a, b, xs, ys, rfl, h⟩
    rcases leafy with ⟨rfl, hl⟩ | ⟨n', a, b, xs, ys, rfl, rfl, rfl, hab, hlen, h1000, hsub⟩
    · refine ⟨_, rfl, rfl, _, rfl, ite2 (fun e => ?_) (fun e => ?_)⟩
      · have ex := of_decide_eq_true e
        subst ex
        exact ⟨_, rfl, rfl, q _ (Same.refl _)⟩
      · rcases hl with rfl | ⟨bb, rfl⟩ | ⟨i, rfl⟩ | ⟨z, rfl⟩
        · exact absurd (decide_eq_true rfl) e
        · refine ⟨_, rfl, _, _, _, _, _, rfl, .ty _, .base (.bl _), kit_ty (r := true) (by decide +kernel), _, rfl, iteT (iteT ?_)⟩
          refine ⟨_, rfl, _, _, _, _, _, rfl, .ty _, .base (.bl _), kit_ty (r := true) (by decide +kernel), _, rfl, iteT ?_⟩
          refine ⟨_, rfl, _, _, _, _, _, rfl, .ty _, .base (.bl _), kit_ty (r := true) (by decide +kernel), _, rfl, iteT ?_⟩
          refine ⟨_, rfl, _, rfl, rfl, ?_⟩
          rw [decide_eq_true rfl]
          exact q _ (Same.refl _)
        · refine ⟨_, rfl, _, _, _, _, _, rfl, .ty _, .base (.int _), kit_ty (r := false) (by decide +kernel), _, rfl, iteF ?_⟩
          refine ⟨_, rfl, _, _, _, _, _, rfl, .ty _, .base (.int _), kit_ty (r := false) (by decide +kernel), _, rfl, iteF ?_⟩
          refine ⟨_, rfl, two_line, fun p np => ?_⟩
          refine ⟨_, p, _, _, _, _, rfl, upd_same, .cons (.ty _) (.cons (.ty _) .nil), .base (.int _), kit2 (r1 := true) (r2 := false) (by decide +kernel) (by decide +kernel), _, rfl, iteT ?_⟩
          refine ⟨_, rfl, two_line, fun p2 np2 => ?_⟩
          refine ⟨_, p2, _, _, _, _, rfl, upd_same, .cons (.ty _) (.cons (.ty _) .nil), .base (.int _), kit2 (r1 := true) (r2 := false) (by decide +kernel) (by decide +kernel), _, rfl, iteT ?_⟩
          refine ⟨_, rfl, _, _, _, _, _, rfl, .ty _, .base (.int _), kit_ty (r := true) (by decide +kernel), ?_⟩
          refine ⟨_, rfl, _, _, _, _, _, rfl, .ty _, .base (.int _), kit_ty (r := true) (by decide +kernel), rfl, _, rfl, iteT ?_⟩
          refine ⟨_, rfl, _, rfl, rfl, ?_⟩
          rw [decide_eq_true rfl]
          exact q _ ((same_upd np).trans (same_upd np2))
        · refine ⟨_, rfl, _, _, _, _, _, rfl, .ty _, .base (.str _), kit_ty (r := false) (by decide +kernel), _, rfl, iteF ?_⟩
          refine ⟨_, rfl, _, _, _, _, _, rfl, .ty _, .base (.str _), kit_ty (r := false) (by decide +kernel), _, rfl, iteF ?_⟩
          refine ⟨_, rfl, two_line, fun p np => ?_⟩
          refine ⟨_, p, _, _, _, _, rfl, upd_same, .cons (.ty _) (.cons (.ty _) .nil), .base (.str _), kit2 (r1 := false) (r2 := true) (by decide +kernel) (by decide +kernel), _, rfl, iteT ?_⟩
          refine ⟨_, rfl, two_line, fun p2 np2 => ?_⟩
          refine ⟨_, p2, _, _, _, _, rfl, upd_same, .cons (.ty _) (.cons (.ty _) .nil), .base (.str _), kit2 (r1 := false) (r2 := true) (by decide +kernel) (by decide +kernel), _, rfl, iteT ?_⟩
          refine ⟨_, rfl, _, _, _, _, _, rfl, .ty _, .base (.str _), kit_ty (r := false) (by decide +kernel), ?_⟩
          refine ⟨_, rfl, _, _, _, _, _, rfl, .ty _, .base (.str _), kit_ty (r := false) (by decide +kernel), rfl, _, rfl, iteT ?_⟩
          refine ⟨_, rfl, _, rfl, rfl, ?_⟩
          rw [decide_eq_true rfl]
          exact q _ ((same_upd np).trans (same_upd np2))
    · refine ⟨_, rfl, rfl, _, rfl, ite2 (fun e => absurd (of_decide_eq_true e) (by intro z; cases z)) (fun e => ?_)⟩
      rcases hab with ⟨ha, hb⟩ | ⟨ha, hb⟩
      · refine ⟨_, rfl, _, _, _, _, _, rfl, .ty _, .base (.lst hb), kit_ty (r := false) (by decide +kernel), _, rfl, iteF ⟨_, rfl, _, _, _, _, _, rfl, .ty _, .base (.lst ha), kit_ty (r := false) (by decide +kernel), _, rfl, iteF ⟨_, rfl, two_line, fun p np => ?_⟩⟩⟩
        have s1 := same_upd (o := .tup [V.ty "int", V.ty "str"]) np
        refine ⟨_, p, _, _, _, _, rfl, upd_same, .cons (.ty _) (.cons (.ty _) .nil), .base (.lst (s1 _ _ hb)), kit2 (r1 := false) (r2 := false) (by decide +kernel) (by decide +kernel), _, rfl, iteF ?_⟩
        generalize upd H p (.tup [V.ty "int", V.ty "str"]) = H2 at s1
        have ha2 := s1 _ _ ha
        have hb2 := s1 _ _ hb
        refine ⟨_, rfl, _, _, _, _, _, rfl, .ty _, .base (.lst hb2), kit_ty (r := false) (by decide +kernel), _, rfl, iteF ?_⟩
        refine ⟨_, rfl, _, _, _, _, _, rfl, .ty _, .base (.lst hb2), kit_ty (r := true) (by decide +kernel), _, rfl, _, _, _, _, _, rfl, .ty _, .base (.lst ha2), kit_ty (r := true) (by decide +kernel), rfl, _, rfl, iteF ?_⟩
        refine ⟨_, rfl, _, _, _, _, _, rfl, .ty _, .base (.lst hb2), kit_ty (r := false) (by decide +kernel), _, rfl, _, _, _, _, _, rfl, .ty _, .base (.lst ha2), kit_ty (r := false) (by decide +kernel), rfl, _, rfl, iteF ?_⟩
        refine ⟨_, rfl, a, _, rfl, .inl (SqL.of ha2), _, rfl, b, _, rfl, .inl (SqL.of hb2), rfl, _, rfl, ?_⟩
        rw [hlen, decide_eq_true rfl]
        refine iteT ⟨_, rfl, _, rfl, a, b, xs, ys, rfl, .inl ⟨SqL.of ha2, SqL.of hb2, fun D nD => ?_⟩⟩
        refine ⟨fun i m H' => i + m = xs.length ∧ Same H2 H' ∧ H' D = some (.lst ((List.replicate i true).map V.bl)), ⟨xs.length, by omega, same_upd nD, upd_same⟩, fun i m H' hW => ?_⟩
        obtain ⟨hm, s2, hD⟩ := hW
        by_cases hi : i < xs.length
        · have hx : xs[i]? = some xs[i] := List.getElem?_eq_getElem hi
          have hy : ys[i]? = some ys[i] := List.getElem?_eq_getElem (by omega)
          refine .inr ⟨⟨_, _, _, _, SqL.of (s2 _ _ ha2), SqL.of (s2 _ _ hb2), hx, hy⟩, fun H'' => Same H2 H'' ∧ H'' D = some (.lst ((List.replicate (i + 1) true).map V.bl)), fun H'' h => ⟨m - 1, by omega, by omega, h⟩, fun v H'' hv => ?_⟩
          obtain ⟨T', x1, y1, rfl, nT, rfl, f1, f2⟩ := hv
          have ex : x1 = xs[i] := Option.some.inj ((f1 _ (SqL.of (s2 _ _ ha2))).symm.trans hx)
          have ey : y1 = ys[i] := Option.some.inj ((f2 _ (SqL.of (s2 _ _ hb2))).symm.trans hy)
          have s3 : Same H' (upd H' T' (.tup [x1, y1])) := same_upd nT
          refine ⟨T', [x1, y1], rfl, .inl (.inl upd_same), rfl, x1, [y1], rfl, y1, [], rfl, rfl, rfl, ?_⟩
          refine ⟨_, rfl, _, rfl, x1, y1, rfl, ?_, fun H4 s4 => ⟨_, s4 _ _ (s3 _ _ hD), ?_, ?_, ?_⟩⟩
          · subst ex ey
            exact Eqd.mono (s1.trans (s2.trans s3)) n' (hsub i _ _ hx hy)
          · rw [List.length_map, List.length_replicate]
            exact small1000 (by omega)
          · intro c o e
            rw [upd_ne (ne_of_none e nD)]
            exact s4 _ _ (s3 _ _ (s2 _ _ e))
          · rw [upd_same, List.replicate_succ', List.map_append]
            rfl
        · have ei : i = xs.length := by omega
          subst ei
          refine .inl ⟨⟨xs, ys, SqL.of (s2 _ _ ha2), SqL.of (s2 _ _ hb2), .inl (Nat.le_refl _)⟩, ?_⟩
          refine ⟨D, _, rfl, .inl (.inl hD), ?_⟩
          have all : ∀ k : Nat, (List.replicate k true).all id = true := fun k => by
            rw [List.all_replicate]
            split <;> rfl
          rw [all]
          exact q _ (s1.trans s2)
      · refine ⟨_, rfl, _, _, _, _, _, rfl, .ty _, .base (.tup hb), kit_ty (r := false) (by decide +kernel), _, rfl, iteF ⟨_, rfl, _, _, _, _, _, rfl, .ty _, .base (.tup ha), kit_ty (r := false) (by decide +kernel), _, rfl, iteF ⟨_, rfl, two_line, fun p np => ?_⟩⟩⟩
        have s1 := same_upd (o := .tup [V.ty "int", V.ty "str"]) np
        refine ⟨_, p, _, _, _, _, rfl, upd_same, .cons (.ty _) (.cons (.ty _) .nil), .base (.tup (s1 _ _ hb)), kit2 (r1 := false) (r2 := false) (by decide +kernel) (by decide +kernel), _, rfl, iteF ?_⟩
        generalize upd H p (.tup [V.ty "int", V.ty "str"]) = H2 at s1
        have ha2 := s1 _ _ ha
        have hb2 := s1 _ _ hb
        refine ⟨_, rfl, _, _, _, _, _, rfl, .ty _, .base (.tup hb2), kit_ty (r := false) (by decide +kernel), _, rfl, iteF ?_⟩
        refine ⟨_, rfl, _, _, _, _, _, rfl, .ty _, .base (.tup hb2), kit_ty (r := false) (by decide +kernel), _, rfl, _, _, _, _, _, rfl, .ty _, .base (.tup ha2), kit_ty (r := false) (by decide +kernel), rfl, _, rfl, iteF ?_⟩
        refine ⟨_, rfl, _, _, _, _, _, rfl, .ty _, .base (.tup hb2), kit_ty (r := true) (by decide +kernel), _, rfl, _, _, _, _, _, rfl, .ty _, .base (.tup ha2), kit_ty (r := true) (by decide +kernel), rfl, _, rfl, iteF ?_⟩
        refine ⟨_, rfl, a, _, rfl, .inr (SqT.of ha2), _, rfl, b, _, rfl, .inr (SqT.of hb2), rfl, _, rfl, ?_⟩
        rw [hlen, decide_eq_true rfl]
        refine iteT ⟨_, rfl, _, rfl, a, b, xs, ys, rfl, .inr ⟨SqT.of ha2, SqT.of hb2, fun D nD => ?_⟩⟩
        refine ⟨fun i m H' => i + m = xs.length ∧ Same H2 H' ∧ H' D = some (.lst ((List.replicate i true).map V.bl)), ⟨xs.length, by omega, same_upd nD, upd_same⟩, fun i m H' hW => ?_⟩
        obtain ⟨hm, s2, hD⟩ := hW
        by_cases hi : i < xs.length
        · have hx : xs[i]? = some xs[i] := List.getElem?_eq_getElem hi
          have hy : ys[i]? = some ys[i] := List.getElem?_eq_getElem (by omega)
          refine .inr ⟨⟨_, _, _, _, SqT.of (s2 _ _ ha2), SqT.of (s2 _ _ hb2), hx, hy⟩, fun H'' => Same H2 H'' ∧ H'' D = some (.lst ((List.replicate (i + 1) true).map V.bl)), fun H'' h => ⟨m - 1, by omega, by omega, h⟩, fun v H'' hv => ?_⟩
          obtain ⟨T', x1, y1, rfl, nT, rfl, f1, f2⟩ := hv
          have ex : x1 = xs[i] := Option.some.inj ((f1 _ (SqT.of (s2 _ _ ha2))).symm.trans hx)
          have ey : y1 = ys[i] := Option.some.inj ((f2 _ (SqT.of (s2 _ _ hb2))).symm.trans hy)
          have s3 : Same H' (upd H' T' (.tup [x1, y1])) := same_upd nT
          refine ⟨T', [x1, y1], rfl, .inl (.inl upd_same), rfl, x1, [y1], rfl, y1, [], rfl, rfl, rfl, ?_⟩
          refine ⟨_, rfl, _, rfl, x1, y1, rfl, ?_, fun H4 s4 => ⟨_, s4 _ _ (s3 _ _ hD), ?_, ?_, ?_⟩⟩
          · subst ex ey
            exact Eqd.mono (s1.trans (s2.trans s3)) n' (hsub i _ _ hx hy)
          · rw [List.length_map, List.length_replicate]
            exact small1000 (by omega)
          · intro c o e
            rw [upd_ne (ne_of_none e nD)]
            exact s4 _ _ (s3 _ _ (s2 _ _ e))
          · rw [upd_same, List.replicate_succ', List.map_append]
            rfl
        · have ei : i = xs.length := by omega
          subst ei
          refine .inl ⟨⟨xs, ys, SqT.of (s2 _ _ ha2), SqT.of (s2 _ _ hb2), .inl (Nat.le_refl _)⟩, ?_⟩
          refine ⟨D, _, rfl, .inl (.inl hD), ?_⟩
          have all : ∀ k : Nat, (List.replicate k true).all id = true := fun k => by
            rw [List.all_replicate]
            split <;> rfl
          rw [all]
          exact q _ (s1.trans s2)
theorem ok_same (T : Txt K mg fa fd) : ∀ n : Nat, FnOk P w K mg base CX0 (n + 1) (fa 48) (fd 48) ["_law_found", "_law_due"] (spS n)
  | 0 => none_of_false T.F_same sc_same
  | n + 1 => same_step T n (ok_same T n)
end
/-! ### more of lowest terms -/
theorem lowG_ne {u v : Int} (h : v ≠ 0) : lowG u v ≠ 0 := by
  have h1 := gcd_pos (u := u) h
  unfold lowG
  split <;> omega
theorem lowG_dvd_left (u v : Int) : lowG u v ∣ u := by
  unfold lowG
  split
  · exact Int.neg_dvd.mpr (Int.gcd_dvd_left _ _)
  · exact (Int.gcd_dvd_left _ _)
theorem lowG_dvd_right (u v : Int) : lowG u v ∣ v := by
  unfold lowG
  split
  · exact Int.neg_dvd.mpr (Int.gcd_dvd_right _ _)
  · exact (Int.gcd_dvd_right _ _)
theorem lowT_mul {u v : Int} (h : v ≠ 0) : u = lowG u v * lowT u v := by
  obtain ⟨t, ht⟩ := lowG_dvd_left u v
  unfold lowT
  generalize lowG u v = g at ht ⊢
  have hg : g ≠ 0 ∨ g = 0 := by omega
  rcases hg with hg | hg
  · rw [ht, Int.mul_fdiv_cancel_left _ hg]
  · rw [ht, hg, Int.zero_mul, Int.zero_mul]
theorem lowT_abs {u v : Int} (h : v ≠ 0) : (lowT u v).natAbs ≤ u.natAbs := by
  have e := lowT_mul (u := u) h
  have h2 : u.natAbs = (lowG u v).natAbs * (lowT u v).natAbs := by
    rw [← Int.natAbs_mul, ← e]
  have h3 : 1 ≤ (lowG u v).natAbs := by
    have := lowG_ne (u := u) h
    omega
  calc (lowT u v).natAbs = 1 * (lowT u v).natAbs := (Nat.one_mul _).symm
    _ ≤ (lowG u v).natAbs * (lowT u v).natAbs := Nat.mul_le_mul_right _ h3
    _ = u.natAbs := h2.symm
theorem lowD_mul {u v : Int} (h : v ≠ 0) : v = lowG u v * lowD u v := by
  obtain ⟨t, ht⟩ := lowG_dvd_right u v
  have hg := lowG_ne (u := u) h
  unfold lowD
  generalize lowG u v = g at ht hg ⊢
  rw [ht, Int.mul_fdiv_cancel_left _ hg]
theorem lowD_abs {u v : Int} (h : v ≠ 0) : (lowD u v).natAbs ≤ v.natAbs := by
  have e := lowD_mul (u := u) h
  have h2 : v.natAbs = (lowG u v).natAbs * (lowD u v).natAbs := by
    rw [← Int.natAbs_mul, ← e]
  have h3 : 1 ≤ (lowG u v).natAbs := by
    have := lowG_ne (u := u) h
    omega
  calc (lowD u v).natAbs = 1 * (lowD u v).natAbs := (Nat.one_mul _).symm
    _ ≤ (lowG u v).natAbs * (lowD u v).natAbs := Nat.mul_le_mul_right _ h3
    _ = v.natAbs := h2.symm
theorem lowD_pos {u v : Int} (h : v ≠ 0) : 0 < lowD u v := by
  have e := lowD_mul (u := u) h
  have h1 := gcd_pos (u := u) h
  have key : ∀ g d : Int, v = g * d → (0 < g ∧ 0 < v) ∨ (g < 0 ∧ v < 0) → 0 < d := fun g d ev hh => by
    rcases Int.lt_trichotomy d 0 with hd | hd | hd
    · rcases hh with ⟨h1, h2⟩ | ⟨h1, h2⟩
      · have := Int.mul_neg_of_pos_of_neg h1 hd
        omega
      · have := Int.mul_pos_of_neg_of_neg h1 hd
        omega
    · rw [hd, Int.mul_zero] at ev
      omega
    · exact hd
  refine key _ _ e ?_
  unfold lowG
  split
  · exact .inr ⟨by omega, by assumption⟩
  · exact .inl ⟨by omega, by omega⟩
theorem low_gcd {u v : Int} (hv : v ≠ 0) : Int.gcd (lowT u v) (lowD u v) = 1 := by
  have e1 := lowT_mul (u := u) hv
  have e2 := lowD_mul (u := u) hv
  have hg := gcd_pos (u := u) hv
  have e3 : Int.gcd u v = (lowG u v).natAbs * Int.gcd (lowT u v) (lowD u v) := by
    have : Int.gcd (lowG u v * lowT u v) (lowG u v * lowD u v) = (lowG u v).natAbs * Int.gcd (lowT u v) (lowD u v) := Int.gcd_mul_left _ _ _
    rw [← e1, ← e2] at this
    exact this
  have e4 : (lowG u v).natAbs = Int.gcd u v := by
    unfold lowG
    split <;> omega
  rw [e4] at e3
  have e5 : Int.gcd u v * 1 = Int.gcd u v * Int.gcd (lowT u v) (lowD u v) := by rw [Nat.mul_one]; exact e3
  exact (Nat.eq_of_mul_eq_mul_left hg e5).symm
/-! ### data in the heap -/
mutual
inductive Dt (z : Addr) (H : Hp) : V → PyData → Prop
  | non : Dt z H .non .none
  | bl (b : Bool) : Dt z H (.bl b) (.bool b)
  | int (i : Int) (h : i.natAbs.log2 < 4096) : Dt z H (.int i) (.int i)
  | str (x : Str) (h : x.length ≤ 1000) : Dt z H (.str x) (.str x)
  | lst {a : Addr} {xs : List V} {ds : List PyData} : H a = some (.lst xs) → a ≠ z → DtAll z H xs ds → Dt z H (.ref a) (.list ds)
  | tup {a : Addr} {xs : List V} {ds : List PyData} : H a = some (.tup xs) → DtAll z H xs ds → Dt z H (.ref a) (.tuple ds)
inductive DtAll (z : Addr) (H : Hp) : List V → List PyData → Prop
  | nil : DtAll z H [] []
  | cons {v : V} {vs : List V} {d : PyData} {ds : List PyData} : Dt z H v d → DtAll z H vs ds → DtAll z H (v :: vs) (d :: ds)
end
mutual
theorem Dt.via {z : Addr} {H H' : Hp} (s : ∀ a o, H a = some o → ((∃ xs, o = .lst xs) ∧ a ≠ z) ∨ (∃ xs, o = .tup xs) → H' a = some o) : ∀ (d : PyData) (v : V), Dt z H v d → Dt z H' v d
  | .none, _, h => by cases h; exact .non
  | .bool _, _, h => by cases h; exact .bl _
  | .int _, _, h => by
    cases h with
    | int _ hb => exact .int _ hb
  | .str _, _, h => by
    cases h with
    | str _ hx => exact .str _ hx
  | .list ds, _, h => by
    cases h with
    | lst h1 hz h2 => exact .lst (s _ _ h1 (.inl ⟨⟨_, rfl⟩, hz⟩)) hz (DtAll.via s ds _ h2)
  | .tuple ds, _, h => by
    cases h with
    | tup h1 h2 => exact .tup (s _ _ h1 (.inr ⟨_, rfl⟩)) (DtAll.via s ds _ h2)
  | .dict _, _, h => by cases h
theorem DtAll.via {z : Addr} {H H' : Hp} (s : ∀ a o, H a = some o → ((∃ xs, o = .lst xs) ∧ a ≠ z) ∨ (∃ xs, o = .tup xs) → H' a = some o) : ∀ (ds : List PyData) (vs : List V), DtAll z H vs ds → DtAll z H' vs ds
  | [], _, h => by cases h; exact .nil
  | d :: ds, _, h => by
    cases h with
    | cons h1 h2 => exact .cons (Dt.via s d _ h1) (DtAll.via s ds _ h2)
end
theorem Dt.same {z : Addr} {H H' : Hp} {v : V} {d : PyData} (h : Dt z H v d) (s : Same H H') : Dt z H' v d := Dt.via (fun a o e _ => s a o e) d v h
theorem DtAll.same {z : Addr} {H H' : Hp} {vs : List V} {ds : List PyData} (h : DtAll z H vs ds) (s : Same H H') : DtAll z H' vs ds := DtAll.via (fun a o e _ => s a o e) ds vs h
theorem DtAll.len {z : Addr} {H : Hp} : ∀ {vs : List V} {ds : List PyData}, DtAll z H vs ds → vs.length = ds.length
  | _, _, .nil => rfl
  | _, _, .cons _ h => congrArg (· + 1) (DtAll.len h)
mutual
theorem Dt.dp {K : PySem.W.Frag} {z : Addr} {H : Hp} : ∀ (d : PyData) (v : V), Dt z H v d → Dp K H v d
  | .none, _, h => by cases h; exact .non
  | .bool _, _, h => by cases h; exact .bl _
  | .int _, _, h => by cases h; exact .int _
  | .str _, _, h => by cases h; exact .str _
  | .list ds, _, h => by
    cases h with
    | lst h1 _ h2 => exact .lst (SqL.of h1) (DtAll.dp ds _ h2)
  | .tuple ds, _, h => by
    cases h with
    | tup h1 h2 => exact .tup (SqT.of h1) (DtAll.dp ds _ h2)
  | .dict _, _, h => by cases h
theorem DtAll.dp {K : PySem.W.Frag} {z : Addr} {H : Hp} : ∀ (ds : List PyData) (vs : List V), DtAll z H vs ds → DpAll K H vs ds
  | [], _, h => by cases h; exact .nil
  | d :: ds, _, h => by
    cases h with
    | cons h1 h2 => exact .cons (Dt.dp d _ h1) (DtAll.dp ds _ h2)
end
theorem Dt.but {z : Addr} {H H' : Hp} {v : V} {d : PyData} {c : Addr} (hF : FeedOk H z c) (b : But z H H') (h : Dt z H v d) : Dt z H' v d := by
  obtain ⟨ns, k, big, mark, ha, _⟩ := hF
  refine Dt.via (fun p o e g => b p o ?_ e) d v h
  rcases g with ⟨_, g⟩ | ⟨xs, rfl⟩
  · exact g
  · exact ne_of e ha (by intro z; cases z)
theorem dnewT {z : Addr} {H : Hp} {p : Addr} {vs : List V} {ds : List PyData} (n : H p = none) (h : DtAll z H vs ds) : Same H (upd H p (.tup vs)) ∧ Dt z (upd H p (.tup vs)) (.ref p) (.tuple ds) :=
  ⟨same_upd n, .tup upd_same (h.same (same_upd n))⟩
theorem dnewL {z : Addr} {H : Hp} {p : Addr} {vs : List V} {ds : List PyData} (n : H p = none) (hz : p ≠ z) (h : DtAll z H vs ds) : Same H (upd H p (.lst vs)) ∧ Dt z (upd H p (.lst vs)) (.ref p) (.list ds) :=
  ⟨same_upd n, .lst upd_same hz (h.same (same_upd n))⟩
theorem drow {z : Addr} {H : Hp} {p : Addr} {vs : List V} {ds : List PyData} (n : H p = none) (h : DtAll z H vs ds) : Same H (upd H p (.lst vs)) ∧ DtAll z (upd H p (.lst vs)) vs ds ∧ (upd H p (.lst vs)) p = some (.lst vs) :=
  ⟨same_upd n, h.same (same_upd n), upd_same⟩
theorem DtAll.mem {z : Addr} {H : Hp} : ∀ {vs : List V} {ds : List PyData} {v : V}, DtAll z H vs ds → v ∈ vs → ∃ d, d ∈ ds ∧ Dt z H v d
  | _, _, _, .cons (d := d) h r, e => by
    rcases List.mem_cons.mp e with rfl | e
    · exact ⟨d, List.mem_cons_self, h⟩
    · obtain ⟨d', h1, h2⟩ := DtAll.mem r e
      exact ⟨d', List.mem_cons_of_mem _ h1, h2⟩
def tagD : PyData → String
  | .none => "NoneType"
  | .bool _ => "bool"
  | .int _ => "int"
  | .str _ => "str"
  | .list _ => "list"
  | .tuple _ => "tuple"
  | .dict _ => "dict"
theorem Dt.ty {K : PySem.W.Frag} {z : Addr} {H : Hp} {v : V} {d : PyData} (h : Dt z H v d) : TyOf K H v (.type (tagD d)) := by
  cases h with
  | non => exact .non
  | bl b => exact .bl b
  | int i _ => exact .int i
  | str x _ => exact .str x
  | lst h _ _ => exact .lst h
  | tup h _ => exact .tup h
def isTup : PyData → Bool
  | .tuple _ => true
  | _ => false
def isTxt : PyData → Bool
  | .str _ => true
  | _ => false
def isInt : PyData → Bool
  | .int _ => true
  | _ => false
theorem kitTup {d : PyData} : kitB (tagD d) "tuple" = some (isTup d) := by cases d <;> rfl
theorem kitTxt {d : PyData} : kitB (tagD d) "str" = some (isTxt d) := by cases d <;> rfl
theorem Dt.split {z : Addr} {H : Hp} {v : V} {d : PyData} (h : Dt z H v d) : isTup d = false ∨ ∃ a xs ds, v = .ref a ∧ d = .tuple ds ∧ H a = some (.tup xs) ∧ DtAll z H xs ds := by
  cases h with
  | tup h1 h2 => exact .inr ⟨_, _, _, rfl, rfl, h1, h2⟩
  | non => exact .inl rfl
  | bl b => exact .inl rfl
  | int i _ => exact .inl rfl
  | str x _ => exact .inl rfl
  | lst h _ _ => exact .inl rfl
/-! ### what is a name, a fraction, a tie -/
def nameD : PyData → Bool
  | .str x => nameB x.cps.toList
  | _ => false
def ratD : PyData → Bool
  | .tuple [.int t, .int u] => decide (1 ≤ u) && decide (Int.gcd t u = 1)
  | _ => false
def nonz : PyData → Bool
  | .tuple (.int t :: _) => decide (t ≠ 0)
  | _ => false
def termD : PyData → Bool
  | .tuple [n, r] => nameD n && ratD r && nonz r
  | _ => false
def ltD : PyData → PyData → Bool
  | .tuple (.str x :: _), .tuple (.str y :: _) => decide (x.cps.toList < y.cps.toList)
  | _, _ => false
def termsD : PyData → Bool
  | .tuple [s] => termD s
  | .tuple [s, t] => termD s && termD t && ltD s t
  | _ => false
def tieD : PyData → Bool
  | .tuple [t, b] => termsD t && ratD b
  | _ => false
mutual
def noL : PyData → Bool
  | .list _ => false
  | .dict _ => false
  | .tuple ds => noLs ds
  | _ => true
def noLs : List PyData → Bool
  | [] => true
  | d :: ds => noL d && noLs ds
end
/-- tuples stay -/
def TT (H H' : Hp) : Prop := ∀ p xs, H p = some (.tup xs) → H' p = some (.tup xs)
theorem TT.of {H H' : Hp} (s : Same H H') : TT H H' := fun p _ e => s p _ e
theorem TT.but {a c : Addr} {H H' : Hp} (hF : FeedOk H a c) (b : But a H H') : TT H H' := fun p xs e => by
  obtain ⟨ns, k, big, mark, ha, _⟩ := hF
  exact b p _ (ne_of e ha (by intro z; cases z)) e
theorem TT.upd {H : Hp} {D : Addr} {ys zs : List V} (hD : H D = some (.lst ys)) : TT H (L2.upd H D (.lst zs)) := fun p xs e => by
  rw [upd_ne (ne_of e hD (by intro z; cases z))]
  exact e
theorem TT.trans {H H1 H2 : Hp} (h : TT H H1) (k : TT H1 H2) : TT H H2 := fun p xs e => k p xs (h p xs e)
mutual
theorem Dt.tups {z z' : Addr} {H H' : Hp} (s : TT H H') : ∀ (d : PyData) (v : V), noL d = true → Dt z H v d → Dt z' H' v d
  | .none, _, _, h => by cases h; exact .non
  | .bool _, _, _, h => by cases h; exact .bl _
  | .int _, _, _, h => by
    cases h with
    | int _ hb => exact .int _ hb
  | .str _, _, _, h => by
    cases h with
    | str _ hx => exact .str _ hx
  | .list ds, _, n, h => by
    unfold noL at n
    cases n
  | .tuple ds, _, n, h => by
    unfold noL at n
    cases h with
    | tup h1 h2 => exact .tup (s _ _ h1) (DtAll.tups s ds _ n h2)
  | .dict _, _, n, h => by cases h
theorem DtAll.tups {z z' : Addr} {H H' : Hp} (s : TT H H') : ∀ (ds : List PyData) (vs : List V), noLs ds = true → DtAll z H vs ds → DtAll z' H' vs ds
  | [], _, _, h => by cases h; exact .nil
  | d :: ds, _, n, h => by
    unfold noLs at n
    rw [Bool.and_eq_true] at n
    cases h with
    | cons h1 h2 => exact .cons (Dt.tups s d _ n.1 h1) (DtAll.tups s ds _ n.2 h2)
end
theorem DtAll.snoc {z : Addr} {H : Hp} : ∀ {vs : List V} {ds : List PyData} {v : V} {d : PyData}, DtAll z H vs ds → Dt z H v d → DtAll z H (vs ++ [v]) (ds ++ [d])
  | _, _, _, _, .nil, k => .cons k .nil
  | _, _, _, _, .cons h r, k => .cons h (DtAll.snoc r k)
theorem ratD_inv {d : PyData} (h : ratD d = true) : ∃ t u, d = .tuple [.int t, .int u] := by
  unfold ratD at h
  split at h
  · exact ⟨_, _, rfl⟩
  · cases h
theorem DtAll.at {z : Addr} {H : Hp} : ∀ {vs : List V} {ds : List PyData} (i : Nat) {x : V}, DtAll z H vs ds → vs[i]? = some x → ∃ d, ds[i]? = some d ∧ Dt z H x d
  | _, _, 0, _, .cons h _, e => ⟨_, rfl, by cases e; exact h⟩
  | _, _, i + 1, _, .cons _ h, e => DtAll.at i h e
def smallR : PyData → Bool
  | .tuple [.int t, .int u] => decide (t.natAbs ≤ 5 ∧ u.natAbs ≤ 3)
  | _ => false
def okR (r : PyData) : Prop := ratD r = true ∧ nonz r = true ∧ smallR r = true
theorem okR.noL {r : PyData} (h : okR r) : noL r = true := by
  obtain ⟨t, u, rfl⟩ := ratD_inv h.1
  rfl
abbrev trm1 (t : Str × PyData) : PyData := .tuple [.str t.1, t.2]
theorem noLs_trms : ∀ {ts : List (Str × PyData)}, (∀ t ∈ ts, okR t.2) → noLs (ts.map trm1) = true
  | [], _ => rfl
  | t :: ts, h => by
    have h1 := (h t List.mem_cons_self).noL
    have h2 := noLs_trms fun u hu => h u (List.mem_cons_of_mem _ hu)
    show (((true && (noL t.2 && true)) && noLs (ts.map trm1)) = true)
    rw [h1, h2]
    rfl
/-- terms: names and rates -/
abbrev trmD (ts : List (Str × PyData)) : PyData := .tuple (ts.map fun t => .tuple [.str t.1, t.2])
theorem tie_inv {z : Addr} {H : Hp} {v : V} {dd : List PyData} {b : PyData} (hv : Dt z H v (.tuple [.tuple dd, b])) : ∃ p t y xs, v = .ref p ∧ H p = some (.tup [.ref t, y]) ∧ H t = some (.tup xs) ∧ DtAll z H xs dd ∧ Dt z H y b := by
  match v, hv with
  | _, .tup hp (.cons (.tup ht hts) (.cons hb .nil)) => exact ⟨_, _, _, _, rfl, hp, ht, hts, hb⟩
theorem trm_inv {z : Addr} {H : Hp} {xs : List V} {n : Str} {r : PyData} {ds : List PyData} (h : DtAll z H xs (.tuple [.str n, r] :: ds)) : ∃ e rv xs', xs = .ref e :: xs' ∧ H e = some (.tup [.str n, rv]) ∧ Dt z H rv r := by
  match xs, h with
  | _, .cons (.tup he (.cons (.str _ _) (.cons hr .nil))) _ => exact ⟨_, _, _, rfl, he, hr⟩
/-! ### names in order -/
theorem S_of (x : Str) : SX.S x.cps.toList = x := by
  cases x
  rfl
theorem lt_tri : ∀ (x y : List Nat), ltCps y x = false → x ≠ y → ltCps x y = true
  | [], [], _, h => absurd rfl h
  | [], _ :: _, _, _ => rfl
  | _ :: _, [], h, _ => by cases h
  | a :: r, b :: t, h, n => by
    unfold ltCps at h ⊢
    rw [Bool.or_eq_false_iff, decide_eq_false_iff_not, Bool.and_eq_false_iff] at h
    rw [Bool.or_eq_true, decide_eq_true_eq, Bool.and_eq_true, beq_iff_eq]
    by_cases e : a = b
    · subst e
      refine .inr ⟨rfl, lt_tri r t ?_ fun z => n (by rw [z])⟩
      rcases h.2 with h | h
      · simp at h
      · exact h
    · exact .inl (by omega)
theorem sorted_two {x y : Str} (h : sortedS [x, y] = true) (n : x ≠ y) : decide (x.cps.toList < y.cps.toList) = true := by
  have h : (!ltCps y.cps.toList x.cps.toList && true) = true := h
  rw [Bool.and_true, Bool.not_eq_true'] at h
  rw [lt_meets]
  refine lt_tri _ _ h fun z => n ?_
  rw [← S_of x, ← S_of y, z]
theorem S_list (a : List Nat) : (SX.S a).cps.toList = a := by simp [SX.S]
/-! ### texts of fractions: the plain mathematics -/
abbrev dig (c : Nat) : Bool := decide (48 ≤ c) && decide (c ≤ 57)
def isD (a : List Nat) : Bool := !a.isEmpty && a.all dig
def bodyM : List Nat → Bool
  | 45 :: _ => true
  | _ => false
def bodyL : List Nat → List Nat
  | 45 :: r => r
  | a => a
def cutL (a : List Nat) : List Nat × Bool × List Nat := match TL.par [47] [] a with
  | some (p, q) => (p, true, q)
  | none => (a, false, [])
def txtL (n d : Int) : List Nat := (if n < 0 then [45] else []) ++ (TL.numL n.natAbs ++ (if d = 1 then [] else 47 :: TL.numL d.natAbs))
def progN (t : List Nat) : Int := if bodyM t then -((NumText.digitsVal (cutL (bodyL t)).1 : Nat) : Int) else (NumText.digitsVal (cutL (bodyL t)).1 : Nat)
def progD (t : List Nat) : Int := if (cutL (bodyL t)).2.1 then ((NumText.digitsVal (cutL (bodyL t)).2.2 : Nat) : Int) else 1
def progR (t : List Nat) : Option (Int × Int) :=
  if !isD (cutL (bodyL t)).1 || ((cutL (bodyL t)).2.1 && !isD (cutL (bodyL t)).2.2) then none
  else if progD t = 0 then none
  else if txtL (lowT (progN t) (progD t)) (lowD (progN t) (progD t)) = t then some (lowT (progN t) (progD t), lowD (progN t) (progD t)) else none
def goodW (p : List Nat) : Bool := isD p && !(decide (1 < p.length) && p.head? == some 48)
def lawR (t : List Nat) : Option (Int × Int) :=
  if !goodW (cutL (bodyL t)).1 || ((cutL (bodyL t)).2.1 && !goodW (cutL (bodyL t)).2.2) then none
  else if ((cutL (bodyL t)).2.1 = true ∧ progD t < 2 ∨ Int.gcd (progN t) (progD t) ≠ 1) ∨ bodyM t = true ∧ progN t = 0 then none
  else some (progN t, progD t)
theorem gcd_low {u v : Int} (h : v ≠ 0) : Int.gcd (lowT u v) (lowD u v) = 1 := by
  have e1 := lowT_mul (u := u) h
  have e2 := lowD_mul (u := u) h
  have g0 := gcd_pos (u := u) h
  have e : Int.gcd u v = (lowG u v).natAbs * Int.gcd (lowT u v) (lowD u v) := by
    rw [← Int.gcd_mul_left, ← e1, ← e2]
  have hg : (lowG u v).natAbs = Int.gcd u v := by
    unfold lowG
    split <;> omega
  rw [hg] at e
  generalize Int.gcd (lowT u v) (lowD u v) = m at e
  generalize Int.gcd u v = g at e g0
  have : g * 1 = g * m := by rw [Nat.mul_one]; exact e
  exact (Nat.eq_of_mul_eq_mul_left g0 this).symm
theorem low_one {u v : Int} (h : 0 < v) (g : Int.gcd u v = 1) : lowT u v = u ∧ lowD u v = v := by
  have hG : lowG u v = 1 := by
    unfold lowG
    rw [if_neg (by omega), g]
    rfl
  unfold lowT lowD
  rw [hG]
  exact ⟨Int.fdiv_one u, Int.fdiv_one v⟩
theorem all_dig {a : List Nat} : a.all dig = true ↔ NumText.AllDigits a := by
  rw [List.all_eq_true]
  constructor
  · intro h c hc
    have z := h c hc
    unfold dig at z
    rw [Bool.and_eq_true, decide_eq_true_eq, decide_eq_true_eq] at z
    exact z
  · intro h c hc
    have z := h c hc
    unfold dig
    rw [Bool.and_eq_true, decide_eq_true_eq, decide_eq_true_eq]
    exact z
theorem isD_num (n : Nat) : isD (TL.numL n) = true := by
  unfold isD
  rw [Bool.and_eq_true]
  refine ⟨?_, all_dig.mpr (TL.numL_digits n)⟩
  have h := TL.numL_ne n
  cases e : TL.numL n with
  | nil => exact absurd e h
  | cons c r => rfl
theorem isD_iff {a : List Nat} : isD a = true ↔ a ≠ [] ∧ NumText.AllDigits a := by
  unfold isD
  rw [Bool.and_eq_true, all_dig]
  cases a with
  | nil => simp
  | cons c r => simp
theorem nat_char {c : Nat} (h : 48 ≤ c ∧ c ≤ 57) : (Char.ofNat c).toNat = c := by
  have : ∀ c : Nat, c ≤ 57 → 48 ≤ c → (Char.ofNat c).toNat = c := by decide
  exact this c h.2 h.1
theorem num_good {p : List Nat} (h : goodW p = true) : TL.numL (NumText.digitsVal p) = p := by
  unfold goodW at h
  rw [Bool.and_eq_true, isD_iff] at h
  obtain ⟨⟨h1, h2⟩, h3⟩ := h
  have back : ∀ l : List Nat, NumText.AllDigits l → (l.map Char.ofNat).map Char.toNat = l := fun l hl => by
    rw [List.map_map]
    conv => rhs; rw [← List.map_id l]
    exact List.map_congr_left fun c hc => nat_char (hl c hc)
  unfold TL.numL
  rw [NumText.toDigits_all p h2]
  cases p with
  | nil => exact absurd rfl h1
  | cons c r =>
    by_cases e : c = 48
    · subst e
      cases r with
      | nil => rfl
      | cons d r =>
        simp at h3
    · rw [List.dropWhile_cons, if_neg (by rw [beq_iff_eq]; exact e)]
      exact back (c :: r) h2
theorem numL_zero : TL.numL 0 = [48] := TL.numL_lt (by decide)
theorem numL_head {n : Nat} (h : 0 < n) : ∀ c r, TL.numL n = c :: r → 49 ≤ c := by
  induction n using Nat.strongRecOn with
  | _ n ih =>
    intro c r e
    by_cases hn : n < 10
    · rw [TL.numL_lt hn] at e
      injection e with e1 e2
      omega
    · rw [TL.numL_step (by omega)] at e
      cases e2 : TL.numL (n / 10) with
      | nil => exact absurd e2 (TL.numL_ne _)
      | cons c' r' =>
        rw [e2, List.cons_append] at e
        injection e with e3 e4
        have := ih (n / 10) (by omega) (by omega) c' r' e2
        omega
theorem good_num (n : Nat) : goodW (TL.numL n) = true := by
  unfold goodW
  rw [Bool.and_eq_true]
  refine ⟨isD_num n, ?_⟩
  by_cases h : n = 0
  · subst h
    rw [numL_zero]
    rfl
  · cases e : TL.numL n with
    | nil => exact absurd e (TL.numL_ne n)
    | cons c r =>
      have := numL_head (Nat.pos_of_ne_zero h) c r e
      have : (List.head? (c :: r) == some 48) = false := by
        show (some c == some 48) = false
        rw [beq_eq_false_iff_ne]
        intro z
        injection z with z
        omega
      rw [this]
      simp
theorem body_at (t : List Nat) : t = (if bodyM t then [45] else []) ++ bodyL t := by
  unfold bodyM bodyL
  split <;> simp_all
theorem body_minus (b : List Nat) : bodyM (45 :: b) = true ∧ bodyL (45 :: b) = b := ⟨rfl, rfl⟩
theorem body_num (n : Nat) (r : List Nat) : bodyM (TL.numL n ++ r) = false ∧ bodyL (TL.numL n ++ r) = TL.numL n ++ r := by
  cases e : TL.numL n with
  | nil => exact absurd e (TL.numL_ne n)
  | cons c l =>
    have hc : c ≠ 45 := by
      intro z
      have := TL.numL_free (n := n) (s := 45) (.inl (by decide))
      rw [e, z] at this
      exact this List.mem_cons_self
    rw [List.cons_append]
    unfold bodyM bodyL
    constructor
    · split
      · rename_i h
        injection h with h1 h2
        exact absurd h1 hc
      · rfl
    · split
      · rename_i h
        injection h with h1 h2
        exact absurd h1 hc
      · rfl
theorem cut_at (a : List Nat) : a = (cutL a).1 ++ (if (cutL a).2.1 then 47 :: (cutL a).2.2 else []) := by
  by_cases h : 47 ∈ a
  · obtain ⟨p, q, e, hp⟩ := List.eq_append_cons_of_mem h
    subst e
    have := SX.par_head (sep := []) q hp
    unfold cutL
    rw [show p ++ 47 :: q = p ++ (47 :: [] ++ q) from rfl, this]
    rfl
  · have := SX.par_head_none (c := 47) (sep := []) h
    unfold cutL
    rw [this]
    simp
theorem cut_num (n : Nat) : cutL (TL.numL n) = (TL.numL n, false, []) := by
  have := SX.par_head_none (c := 47) (sep := []) (p := TL.numL n) (TL.numL_free (.inl (by decide)))
  unfold cutL
  rw [this]
theorem cut_num2 (n : Nat) (q : List Nat) : cutL (TL.numL n ++ 47 :: q) = (TL.numL n, true, q) := by
  have := SX.par_head (c := 47) (sep := []) (p := TL.numL n) q (TL.numL_free (.inl (by decide)))
  unfold cutL
  rw [show TL.numL n ++ 47 :: q = TL.numL n ++ (47 :: [] ++ q) from rfl, this]
theorem parse_txt (n d : Int) (hd : 0 < d) : bodyM (txtL n d) = decide (n < 0) ∧ (cutL (bodyL (txtL n d))).1 = TL.numL n.natAbs ∧ (cutL (bodyL (txtL n d))).2.1 = decide (d ≠ 1) ∧ (d ≠ 1 → (cutL (bodyL (txtL n d))).2.2 = TL.numL d.natAbs) := by
  have hb : bodyM (txtL n d) = decide (n < 0) ∧ bodyL (txtL n d) = TL.numL n.natAbs ++ (if d = 1 then [] else 47 :: TL.numL d.natAbs) := by
    unfold txtL
    by_cases h : n < 0
    · rw [if_pos h, decide_eq_true h]
      exact body_minus _
    · rw [if_neg h, decide_eq_false h, List.nil_append]
      exact body_num _ _
  rw [hb.2]
  refine ⟨hb.1, ?_⟩
  by_cases h : d = 1
  · rw [if_pos h, List.append_nil, cut_num]
    exact ⟨rfl, (decide_eq_false (fun z => z h)).symm, fun z => absurd h z⟩
  · rw [if_neg h, cut_num2]
    exact ⟨rfl, (decide_eq_true h).symm, fun _ => rfl⟩
/-- the text's parts are those of the fraction -/
theorem parse_val (n d : Int) (hd : 0 < d) : progN (txtL n d) = n ∧ progD (txtL n d) = d := by
  obtain ⟨h1, h2, h3, h4⟩ := parse_txt n d hd
  unfold progN progD
  rw [h1, h2, h3, TL.numL_val]
  constructor
  · by_cases h : n < 0
    · rw [decide_eq_true h, if_pos rfl]
      omega
    · rw [decide_eq_false h, if_neg (by decide)]
      omega
  · by_cases h : d = 1
    · rw [decide_eq_false (fun z => z h), if_neg (by decide), h]
    · rw [decide_eq_true h, if_pos rfl, h4 h, TL.numL_val]
      omega
theorem law_txt (n d : Int) (hd : 0 < d) (g : Int.gcd n d = 1) : lawR (txtL n d) = some (n, d) := by
  obtain ⟨h1, h2, h3, h4⟩ := parse_txt n d hd
  obtain ⟨e1, e2⟩ := parse_val n d hd
  unfold lawR
  rw [e1, e2, h1, h2, h3, good_num]
  have c1 : ((!true) || (decide (d ≠ 1) && !goodW (cutL (bodyL (txtL n d))).2.2)) = false := by
    by_cases h : d = 1
    · rw [decide_eq_false (fun z => z h)]
      rfl
    · rw [h4 h, good_num]
      simp
  rw [c1, if_neg (by decide), if_neg ?_]
  rintro ((⟨z1, z2⟩ | z) | ⟨z1, z2⟩)
  · have := of_decide_eq_true z1
    omega
  · exact z g
  · have := of_decide_eq_true z1
    omega
theorem prog_txt (n d : Int) (hd : 0 < d) (g : Int.gcd n d = 1) : progR (txtL n d) = some (n, d) := by
  obtain ⟨h1, h2, h3, h4⟩ := parse_txt n d hd
  obtain ⟨e1, e2⟩ := parse_val n d hd
  obtain ⟨l1, l2⟩ := low_one hd g
  unfold progR
  rw [e1, e2, h2, h3, isD_num, l1, l2]
  have c1 : ((!true) || (decide (d ≠ 1) && !isD (cutL (bodyL (txtL n d))).2.2)) = false := by
    by_cases h : d = 1
    · rw [decide_eq_false (fun z => z h)]
      rfl
    · rw [h4 h, isD_num]
      simp
  rw [c1, if_neg (by decide), if_neg (by omega), if_pos rfl]
theorem prog_some {t : List Nat} {f : Int × Int} (h : progR t = some f) : t = txtL f.1 f.2 ∧ 0 < f.2 ∧ Int.gcd f.1 f.2 = 1 := by
  unfold progR at h
  split at h
  · cases h
  · split at h
    · cases h
    · rename_i h0
      split at h
      · rename_i e
        cases h
        exact ⟨e.symm, lowD_pos h0, gcd_low h0⟩
      · cases h
theorem law_some {t : List Nat} {f : Int × Int} (h : lawR t = some f) : t = txtL f.1 f.2 ∧ 0 < f.2 ∧ Int.gcd f.1 f.2 = 1 := by
  unfold lawR at h
  split at h
  · cases h
  · rename_i h1
    split at h
    · cases h
    · rename_i h2
      cases h
      have k1 : goodW (cutL (bodyL t)).1 = true := by
        cases e : goodW (cutL (bodyL t)).1
        · rw [e] at h1
          exact absurd rfl h1
        · rfl
      have k2 : (cutL (bodyL t)).2.1 = true → goodW (cutL (bodyL t)).2.2 = true := fun z => by
        cases e : goodW (cutL (bodyL t)).2.2
        · rw [e, z, k1] at h1
          exact absurd rfl h1
        · rfl
      have g1 : Int.gcd (progN t) (progD t) = 1 := by
        by_cases z : Int.gcd (progN t) (progD t) = 1
        · exact z
        · exact absurd (.inl (.inr z)) h2
      have d2 : (cutL (bodyL t)).2.1 = true → 2 ≤ progD t := fun z => by
        have : ¬ progD t < 2 := fun y => h2 (.inl (.inl ⟨z, y⟩))
        omega
      have m2 : bodyM t = true → progN t ≠ 0 := fun z y => h2 (.inr ⟨z, y⟩)
      have hd : 0 < progD t := by
        cases e : (cutL (bodyL t)).2.1
        · unfold progD
          rw [e, if_neg (by decide)]
          omega
        · have := d2 e
          omega
      refine ⟨?_, hd, g1⟩
      have p1 := num_good k1
      show t = txtL (progN t) (progD t)
      have sg : (if progN t < 0 then [45] else []) = (if bodyM t then [45] else ([] : List Nat)) := by
        cases e : bodyM t
        · have : ¬ progN t < 0 := by
            unfold progN
            rw [e]
            simp
          rw [if_neg this]
          rfl
        · have y := m2 e
          have : progN t < 0 := by
            unfold progN at y ⊢
            rw [e, if_pos rfl] at y ⊢
            omega
          rw [if_pos this]
          rfl
      have an : (progN t).natAbs = NumText.digitsVal (cutL (bodyL t)).1 := by
        unfold progN
        split <;> omega
      have sd : (if progD t = 1 then [] else 47 :: TL.numL (progD t).natAbs) = (if (cutL (bodyL t)).2.1 then 47 :: (cutL (bodyL t)).2.2 else []) := by
        cases e : (cutL (bodyL t)).2.1
        · have : progD t = 1 := by
            unfold progD
            rw [e]
            rfl
          rw [if_pos this]
          rfl
        · have y := d2 e
          have z : (progD t).natAbs = NumText.digitsVal (cutL (bodyL t)).2.2 := by
            unfold progD
            rw [e, if_pos rfl]
            omega
          rw [if_neg (by omega), z, num_good (k2 e)]
          rfl
      unfold txtL
      rw [sg, an, p1, sd, ← cut_at, ← body_at]
theorem prog_law (t : List Nat) : progR t = lawR t := by
  cases h : progR t with
  | some f =>
    obtain ⟨e, hd, g⟩ := prog_some h
    rw [e, law_txt f.1 f.2 hd g]
  | none =>
    cases h2 : lawR t with
    | none => rfl
    | some f =>
      obtain ⟨e, hd, g⟩ := law_some h2
      rw [e, prog_txt f.1 f.2 hd g] at h
      cases h
/-! ### the texts' own words on lists of signs -/
theorem dash : (Str.ofString "-" : Str) = SX.S [45] := by decide +kernel
theorem stroke : (Str.ofString "/" : Str) = SX.S [47] := by decide +kernel
theorem nought : (Str.ofString "0" : Str) = SX.S [48] := by decide +kernel
theorem emptyS : (Str.ofString "" : Str) = SX.S [] := by decide +kernel
theorem uni_dig : ∀ c : Nat, c < 128 → Unicode.isDigit c = dig c := by decide +kernel
theorem ascii_dig (a : List Nat) : (Txt.isascii (SX.S a) && Txt.isdigit (SX.S a)) = isD a := by
  have e1 : Txt.isascii (SX.S a) = a.all (fun c => decide (c < 128)) := by
    unfold Txt.isascii
    rw [← Array.all_toList]
  have e2 : Txt.isdigit (SX.S a) = (!a.isEmpty && a.all Unicode.isDigit) := by
    unfold Txt.isdigit
    rw [← Array.all_toList, SX.S_len]
    cases a <;> rfl
  rw [e1, e2]
  unfold isD
  cases h : a.all (fun c => decide (c < 128))
  · cases h2 : a.all dig
    · simp
    · exfalso
      have h3 := all_dig.mp h2
      have : a.all (fun c => decide (c < 128)) = true := List.all_eq_true.mpr fun c hc => decide_eq_true (by have := h3 c hc; omega)
      rw [h] at this
      cases this
  · have h3 := List.all_eq_true.mp h
    have : a.all Unicode.isDigit = a.all dig := by
      rw [Bool.eq_iff_iff, List.all_eq_true, List.all_eq_true]
      exact ⟨fun q c hc => by rw [← uni_dig c (of_decide_eq_true (h3 c hc))]; exact q c hc, fun q c hc => by rw [uni_dig c (of_decide_eq_true (h3 c hc))]; exact q c hc⟩
    rw [this]
    rfl
theorem sub_one (c : Nat) (r : List Nat) : PySem.Builtin.Str.subAt (SX.S (c :: r)) (SX.S [45]) 0 = decide (c = 45) := by
  have e : (SX.S (c :: r)).cps.extract 0 (0 + (SX.S [45]).length) = [c].toArray := by
    rw [SX.S_len]
    simp [List.extract]
  show ((SX.S (c :: r)).cps.extract 0 (0 + (SX.S [45]).length) == (SX.S [45]).cps) = _
  rw [e]
  by_cases h : c = 45
  · subst h
    rfl
  · rw [decide_eq_false h, beq_eq_false_iff_ne]
    intro z
    exact h (List.cons.inj (congrArg Array.toList z)).1
theorem starts_minus (a : List Nat) : Txt.startswith (SX.S a) (SX.S [45]) = bodyM a := by
  cases a with
  | nil => rfl
  | cons c r =>
    unfold Txt.startswith
    rw [sub_one, SX.S_len, SX.S_len]
    have : decide (0 + [45].length ≤ (c :: r).length) = true := decide_eq_true (by simp)
    rw [this, Bool.true_and]
    unfold bodyM
    split
    · rename_i h
      injection h with h1 h2
      rw [h1]
      rfl
    · rename_i h
      exact decide_eq_false fun z => h r (by rw [z])
theorem rem_minus (a : List Nat) : Txt.removeprefix (SX.S a) (SX.S [45]) = SX.S (bodyL a) := by
  have e := eq_of_beq (PyProof.Rows.removeprefix_closes (SX.S a) (SX.S [45]))
  have e2 := starts_minus a
  unfold Txt.startswith at e2
  rw [e2] at e
  rw [e, SX.S_len, SX.S_len]
  cases a with
  | nil => rfl
  | cons c r =>
    cases h : bodyM (c :: r)
    · rw [if_neg (by decide)]
      unfold bodyM at h
      unfold bodyL
      split at h
      · cases h
      · rfl
    · rw [if_pos rfl]
      unfold bodyM at h
      split at h
      · rename_i h1
        injection h1 with h1 h2
        subst h1 h2
        unfold bodyL
        refine TL.ext_tl ?_
        show (((45 :: r).drop ((([45] : List Nat).length : Nat) : Int).toNat).take ((((45 :: r).length : Nat) : Int) - ((([45] : List Nat).length : Nat) : Int)).toNat) = r
        have : ((([45] : List Nat).length : Nat) : Int).toNat = 1 := rfl
        rw [this, List.drop_one, List.tail_cons]
        exact List.take_of_length_le (by simp only [List.length_cons, List.length_nil]; omega)
      · cases h
theorem cut_S (a : List Nat) : Txt.partition (SX.S a) (SX.S [47]) = (SX.S (cutL a).1, SX.S (if (cutL a).2.1 then [47] else []), SX.S (cutL a).2.2) := by
  unfold cutL
  cases h : TL.par [47] [] a with
  | none => exact SX.partition_none (by simp) h
  | some pq =>
    obtain ⟨p, q⟩ := pq
    exact SX.partition_some (by simp) h
section
variable {P : Program} {w : World} {K : PySem.W.Frag} {mg : Str → Option Value} {base : Heap} {fa : Nat → Addr} {fd : Nat → FuncData}
/-! ### ParseError; texts of numbers -/
theorem scPE : FnScope ["self", "at"] ["self", "at"] (defScope (inClass (topS 4) 0)) := ⟨rfl, rfl, rfl, by decide +kernel, rfl, by decide +kernel, by decide +kernel⟩
theorem ok_ParseError (T : Txt K mg fa fd) : FnOk P w K mg base CX0 1 (fa 1004) (fd 1004) ["self", "at"] (spInit1 K "at" "ParseError") := by
  refine T.IParseError.ok scPE (fun vs H Q E h => ?_) (fun cdv A outer s H vs Q E hr h => ?_)
  · obtain ⟨a, C, v, rfl, _⟩ := h
    rfl
  · obtain ⟨a, C, v, rfl, hC, h1, h2, ha, q⟩ := h
    refine ⟨_, pss_cons (ps_ost (pv 0) (pv 1)) (pss_one (ps_ost (pv 0) pe_str)), ?_⟩
    refine ⟨_, rfl, _, rfl, a, C, rfl, hC, h1, .inl ⟨ha, fun dx nd ne => ?_⟩⟩
    refine ⟨_, rfl, a, C, rfl, hC, h2, .inr ⟨dx, _, upd_same, ?_, by show 1 ≤ 900; decide, q dx nd ne⟩⟩
    rw [upd_ne ne, upd_same]
theorem small_line {n : Nat} (h : n ≤ 1000) : n ≤ sizeLine := Nat.le_trans h (Nat.le_of_lt (small1000 (Nat.le_refl _)))
def spIsD : Sp := fun vs H Q _ => ∃ a : List Nat, vs = [.str (SX.S a)] ∧ Q (.bl (isD a)) H
theorem ok_p_is_digits (T : Txt K mg fa fd) : FnOk P w K mg base CX0 1 (fa 18) (fd 18) ["text"] spIsD := by
  refine T.F_p_is_digits.ok sc_p_is_digits (fun vs H Q E h => ?_) (fun cdv A outer s H vs Q E hr h => ?_)
  · obtain ⟨a, rfl, _⟩ := h
    rfl
  · obtain ⟨a, rfl, q⟩ := h
    refine ⟨_, (pss_one (ps_ret (pe_and (pe_m0 PySem.F.slot_str_isascii PySem.F.type_str_isascii mt_isascii (pv 0) (by rfl) (by rfl)) (pe_one (pe_m0 PySem.F.slot_str_isdigit PySem.F.type_str_isdigit mt_isdigit (pv 0) (by rfl) (by rfl)))))), ?_⟩
    rw [← ascii_dig] at q
    refine ⟨_, rfl, ⟨_, rfl⟩, _, rfl, rfl, trivial, ?_⟩
    cases h : Txt.isascii (SX.S a)
    · rw [h] at q
      exact ⟨_, rfl, q⟩
    · rw [h] at q
      exact ⟨_, rfl, _, rfl, ⟨_, rfl⟩, _, rfl, rfl, trivial, q⟩
def intL (n : Int) : List Nat := (if n < 0 then [45] else []) ++ TL.numL n.natAbs
theorem abs_nat (z : Int) : (if z < 0 then -z else z) = (z.natAbs : Int) := by split <;> omega
theorem log_of {n : Nat} (h : n < 10 ^ 62) : n.log2 < 1920 := by
  by_cases h0 : n = 0
  · subst h0
    decide
  · rw [Nat.log2_lt h0]
    exact Nat.lt_trans h (by decide +kernel)
def spNumT : Sp := fun vs H Q _ => ∃ n : Int, vs = [.int n] ∧ n.natAbs < 10 ^ 62 ∧ ∀ H', Same H H' → Q (.str (SX.S (intL n))) H'
theorem ok_p_number_text (T : Txt K mg fa fd) : FnOk P w K mg base CX0 1 (fa 19) (fd 19) ["number"] spNumT := by
  refine T.F_p_number_text.ok sc_p_number_text (fun vs H Q E h => ?_) (fun cdv A outer s H vs Q E hr h => ?_)
  · obtain ⟨a, rfl, _⟩ := h
    rfl
  · obtain ⟨n, rfl, hn, q⟩ := h
    refine ⟨_, (pss_cons (ps_set (i := 1) sc_p_number_text.nd rfl (.inl rfl) (pe_callB call_abs (by rfl) T.m_abs PyProof.Rows.boot_abs (pa_cons (pv 0) pa_nil)))
      (pss_cons (ps_set (i := 2) sc_p_number_text.nd rfl (.inl rfl) (pe_lst pa_nil))
      (pss_cons (ps_while PassesOwn.never (pt_cmpR op_ge (pv 1) (pe_op op_pow pe_int pe_int) (nomark _)) (pss_cons ps_never
      (pss_one ps_never)))
      (pss_cons (ps_expr (pe_bm PySem.F.plainAttrs_list PySem.F.slot_list_append PySem.F.type_list_append mt_append (pv 2) (pa_cons (pe_callTy call_str_int (by rfl) T.m_str (by decide +kernel) (pa_cons (pv 1) pa_nil)) pa_nil)))
      (pss_cons (ps_if (pt_cmpR op_lt (pv 0) pe_int (nomark _)) (pss_one (ps_expr (pe_bm PySem.F.plainAttrs_list PySem.F.slot_list_append PySem.F.type_list_append mt_append (pv 2) (pa_cons pe_str pa_nil)))) pss_nil)
      (pss_one (ps_ret (pe_m1 PySem.F.slot_str_join PySem.F.type_str_join mt_join pe_str (pe_revL (pv 2)) (by rfl) (by rfl) (by rfl))))))))), ?_⟩
    refine ⟨_, rfl, _, rfl, Nat.zero_le _, fun p hp => ?_⟩
    refine ⟨fun m σ H1 => σ = [some (.int n), some (.int (n.natAbs : Int)), some (.ref p), none] ∧ H1 = upd H p (.lst []), ⟨0, by rw [← abs_nat]; rfl, rfl⟩, fun m σ H1 hW => ?_⟩
    obtain ⟨rfl, rfl⟩ := hW
    refine ⟨_, rfl, _, _, rfl, rfl, ⟨by decide, by decide, by decide⟩, _, _, rfl, rfl, _, rfl, ite2 (fun e => ?_) (fun e => ?_)⟩
    · exfalso
      have h1 : (10 : Int) ^ 64 ≤ n.natAbs := of_decide_eq_true e
      have h2 : (n.natAbs : Int) < (10 : Int) ^ 62 := by exact_mod_cast hn
      exact absurd (Int.lt_of_lt_of_le h2 (by decide +kernel : (10 : Int) ^ 62 ≤ 10 ^ 64)) (Int.not_lt.mpr h1)
    · refine ⟨_, rfl, .inl ⟨rfl, _, SqL.of upd_same⟩, _, rfl, _, rfl, log_of hn, p, _, _, rfl, rfl, upd_same, small_line (by show 1 ≤ 1000; decide), ?_⟩
      have sm : ∀ {H1 : Hp} (ys : List V), Same H H1 → Same H (upd H1 p (.lst ys)) := fun ys h1 b u e => by
        rw [upd_ne (ne_of_none e hp)]
        exact h1 b u e
      have sn : ∀ {H1 : Hp} {p2 : Addr} {o : HO}, Same H H1 → H1 p2 = none → Same H (upd H1 p2 o) := fun {H1 p2 o} h1 h2 b u e => by
        rw [upd_ne (ne_of_none (h1 b u e) h2)]
        exact h1 b u e
      have s0 : Same H H := fun b u e => e
      have num : ∀ k : Nat, Str.ofString (toString ((k : Nat) : Int)) = SX.S (TL.numL k) := SX.num_S
      have l63 : (TL.numL n.natAbs).length ≤ 62 := TL.numL_len (by decide) hn
      refine ⟨_, rfl, _, _, rfl, rfl, _, rfl, ite2 (fun e => ?_) (fun e => ?_)⟩
      · refine ⟨_, rfl, .inl ⟨rfl, _, SqL.of upd_same⟩, p, _, _, rfl, rfl, upd_same, small_line (by show 2 ≤ 1000; decide), ?_⟩
        refine ⟨⟨_, rfl⟩, _, rfl, p, _, rfl, SqL.of upd_same, fun p2 hp2 => ⟨_, p2, [Str.ofString "-", Str.ofString (toString (n.natAbs : Int))], rfl, rfl, .inl (SqL.of upd_same), ?_, ?_⟩⟩
        · rw [num, dash, emptyS]
          show (SX.S [45]).length + ((SX.S (TL.numL n.natAbs)).length + 0) + 2 * (SX.S []).length ≤ 16777216
          rw [SX.S_len, SX.S_len, SX.S_len]
          show 1 + _ + 2 * 0 ≤ _
          omega
        · have j : Txt.join (Str.ofString "") [Str.ofString "-", Str.ofString (toString (n.natAbs : Int))] = SX.S (intL n) := by
            rw [num, dash, emptyS]
            have := SX.join_S [] [[45], TL.numL n.natAbs]
            refine this.trans ?_
            unfold intL
            rw [if_pos (of_decide_eq_true e)]
            rfl
          have z := q _ (sn (o := .lst [V.str (Str.ofString "-"), V.str (Str.ofString (toString (n.natAbs : Int)))]) (sm ([] ++ [V.str (Str.ofString (toString (n.natAbs : Int)))] ++ [V.str (Str.ofString "-")]) (sm ([] ++ [V.str (Str.ofString (toString (n.natAbs : Int)))]) (sm [] s0))) hp2)
          rw [← j] at z
          exact z
      · refine ⟨⟨_, rfl⟩, _, rfl, p, _, rfl, SqL.of upd_same, fun p2 hp2 => ⟨_, p2, [Str.ofString (toString (n.natAbs : Int))], rfl, rfl, .inl (SqL.of upd_same), ?_, ?_⟩⟩
        · rw [num, emptyS]
          show ((SX.S (TL.numL n.natAbs)).length + 0) + 1 * (SX.S []).length ≤ 16777216
          rw [SX.S_len, SX.S_len]
          show _ + 1 * 0 ≤ _
          omega
        · have j : Txt.join (Str.ofString "") [Str.ofString (toString (n.natAbs : Int))] = SX.S (intL n) := by
            rw [num, emptyS]
            have := SX.join_S [] [TL.numL n.natAbs]
            refine this.trans ?_
            unfold intL
            rw [if_neg (fun y => e (decide_eq_true y))]
            rfl
          have z := q _ (sn (o := .lst [V.str (Str.ofString (toString (n.natAbs : Int)))]) (sm ([] ++ [V.str (Str.ofString (toString (n.natAbs : Int)))]) (sm [] s0)) hp2)
          rw [← j] at z
          exact z
end
section
variable {P : Program} {w : World} {K : PySem.W.Frag} {mg : Str → Option Value} {base : Heap} {fa : Nat → Addr} {fd : Nat → FuncData}
/-! ### InvalidRatio's making; common_divisor; ratio -/
theorem scI : FnScope ["self", "given"] ["self", "given"] (defScope (inClass (topS 2) 0)) := ⟨rfl, rfl, rfl, by decide +kernel, rfl, by decide +kernel, by decide +kernel⟩
theorem ok_InvalidRatio (T : Txt K mg fa fd) : FnOk P w K mg base CX0 1 (fa 1002) (fd 1002) ["self", "given"] (spInit1 K "given" "InvalidRatio") := by
  refine T.IInvalidRatio.ok scI (fun vs H Q E h => ?_) (fun cdv A outer s H vs Q E hr h => ?_)
  · obtain ⟨a, C, v, rfl, _⟩ := h
    rfl
  · obtain ⟨a, C, v, rfl, hC, h1, h2, ha, q⟩ := h
    refine ⟨_, pss_cons (ps_ost (pv 0) (pv 1)) (pss_one (ps_ost (pv 0) pe_str)), ?_⟩
    refine ⟨_, rfl, _, rfl, a, C, rfl, hC, h1, .inl ⟨ha, fun dx nd ne => ?_⟩⟩
    refine ⟨_, rfl, a, C, rfl, hC, h2, .inr ⟨dx, _, upd_same, ?_, by show 1 ≤ 900; decide, q dx nd ne⟩⟩
    rw [upd_ne ne, upd_same]
abbrev Bd (t : Int) : Prop := t.natAbs.log2 < 4096
theorem bits_bd {v : Nat} (h : v.log2 < 4096) : ¬ ((4096 : Int) < ((Builtin.Int.intBits (v : Int) : Nat) : Int)) := by
  unfold Builtin.Int.intBits
  rw [Int.natAbs_natCast]
  split <;> omega
def spDiv : Sp := fun vs H Q _ => ∃ x y : Int, vs = [.int x, .int y] ∧ (Bd x ∨ Bd y) ∧ Q (.int (Int.gcd x y : Nat)) H
theorem ok_p_common_divisor (T : Txt K mg fa fd) : FnOk P w K mg base CX0 1 (fa 13) (fd 13) ["one", "other"] spDiv := by
  refine T.F_p_common_divisor.ok sc_p_common_divisor (fun vs H Q E h => ?_) (fun cdv A outer s H vs Q E hr h => ?_)
  · obtain ⟨x, y, rfl, _⟩ := h
    rfl
  · obtain ⟨x, y, rfl, hb, q⟩ := h
    refine ⟨_, (pss_cons (ps_set (i := 0) sc_p_common_divisor.nd rfl (.inl rfl) (pe_callB call_abs (by rfl) T.m_abs PyProof.Rows.boot_abs (pa_cons (pv 0) pa_nil)))
      (pss_cons (ps_set (i := 1) sc_p_common_divisor.nd rfl (.inl rfl) (pe_callB call_abs (by rfl) T.m_abs PyProof.Rows.boot_abs (pa_cons (pv 1) pa_nil)))
      (C8.pss_cut (ps_if (pt_cmpR op_lt (pv 0) (pv 1) (nomark _)) (pss_one (ps_par (i := 0) (j := 1) (by rfl) sc_p_common_divisor.nd rfl rfl (by decide) rfl rfl (pa_cons (pv 1) (pa_cons (pv 0) pa_nil)) (by rfl))) pss_nil)
      (pss_cons (ps_while PassesOwn.never (pt_cmpR op_gt (pe_bits (pv 1)) (C8.pe_gc (by rfl) T.c_LONG) (nomark _)) (pss_one ps_never))
      (pss_cons (ps_while PassesOwn.never (pt_cmpR op_gt (pv 1) pe_int (nomark _)) (pss_one (ps_par (i := 0) (j := 1) (by rfl) sc_p_common_divisor.nd rfl rfl (by decide) rfl rfl (pa_cons (pv 1) (pa_cons (pe_op op_mod (pv 0) (pv 1)) pa_nil)) (by rfl))))
      (pss_one (ps_ret (pv 0)))))))), ?_⟩
    refine ⟨_, rfl, _, rfl, _, rfl, _, rfl, ?_⟩
    have ab : ∀ z : Int, (if z < 0 then -z else z) = (z.natAbs : Int) := fun z => by split <;> omega
    rw [ab, ab]
    refine ⟨fun σ H1 => H1 = H ∧ ∃ u v : Nat, σ = [some (.int (u : Int)), some (.int (v : Int))] ∧ v.log2 < 4096 ∧ Nat.gcd u v = Int.gcd x y, ?_, fun σ H1 hM => ?_⟩
    · refine ⟨_, rfl, _, rfl, _, _, rfl, rfl, _, rfl, ite2 (fun e => ?_) (fun e => ?_)⟩
      · have lt : (x.natAbs : Int) < (y.natAbs : Int) := of_decide_eq_true e
        refine ⟨_, rfl, _, rfl, _, _, rfl, rfl, y.natAbs, x.natAbs, rfl, ?_, Nat.gcd_comm _ _⟩
        rcases hb with hb | hb
        · exact hb
        · exact log2_mono (by omega) hb
      · have ge : ¬ (x.natAbs : Int) < (y.natAbs : Int) := fun z => e (decide_eq_true z)
        refine ⟨rfl, x.natAbs, y.natAbs, rfl, ?_, rfl⟩
        rcases hb with hb | hb
        · exact log2_mono (by omega) hb
        · exact hb
    obtain ⟨rfl, u0, v0, rfl, hv0, hg0⟩ := hM
    refine ⟨fun m σ H2 => σ = [some (.int (u0 : Int)), some (.int (v0 : Int))] ∧ H2 = H1, ⟨0, rfl, rfl⟩, fun m σ H2 hW => ?_⟩
    obtain ⟨rfl, rfl⟩ := hW
    refine ⟨_, rfl, _, rfl, _, _, rfl, rfl, _, rfl, ite2 (fun e => absurd (of_decide_eq_true e) (bits_bd hv0)) (fun _ => ?_)⟩
    refine ⟨fun m σ H1 => ∃ u v : Nat, m = v ∧ σ = [some (.int (u : Int)), some (.int (v : Int))] ∧ H1 = H2 ∧ Nat.gcd u v = Int.gcd x y, ⟨_, u0, v0, rfl, rfl, rfl, hg0⟩, fun m σ H1 hW => ?_⟩
    obtain ⟨u, v, rfl, rfl, rfl, hg⟩ := hW
    refine ⟨_, rfl, _, _, rfl, rfl, _, rfl, ite2 (fun e => ?_) (fun e => ?_)⟩
    · have hv : 0 < (m : Int) := of_decide_eq_true e
      refine ⟨fun σ' H' => ∃ m', m' < m ∧ ∃ u v : Nat, m' = v ∧ σ' = [some (.int (u : Int)), some (.int (v : Int))] ∧ H' = H1 ∧ Nat.gcd u v = Int.gcd x y, fun σ' H' h => h, ?_⟩
      refine ⟨_, rfl, _, rfl, _, rfl, _, _, rfl, rfl, hv, ?_⟩
      refine ⟨_, _, rfl, u % m, Nat.mod_lt _ (by omega), m, u % m, rfl, rfl, rfl, ?_⟩
      rw [← hg, Nat.gcd_comm m, ← Nat.gcd_rec, Nat.gcd_comm]
    · have hv : m = 0 := by
        have : ¬ 0 < (m : Int) := fun z => e (decide_eq_true z)
        omega
      subst hv
      refine ⟨_, rfl, ?_⟩
      rw [Nat.gcd_zero_right] at hg
      rw [hg]
      exact q
def spRatio (C : Addr) : Sp := fun vs H Q E => ∃ u v : Int, vs = [.int u, .int v] ∧ (v ≠ 0 → v.natAbs.log2 < 4096 ∧ ∀ p, H p = none → Q (.ref p) (upd H p (.tup [.int (lowT u v), .int (lowD u v)]))) ∧
  (v = 0 → ∀ d H', H d = none → Same H H' → H' d = some (.xd [("tag", .str "InvalidRatio"), ("given", .int 0)]) → E (.ref C) (some d) H')
theorem ok_p_ratio (T : Txt K mg fa fd) : FnOk P w K mg base (L2.CX P w) 3 (fa 14) (fd 14) ["top", "under"] (spRatio (fa 2)) := by
  refine T.F_p_ratio.ok sc_p_ratio (fun vs H Q E h => ?_) (fun cdv A outer s H vs Q E hr h => ?_)
  · obtain ⟨x, y, rfl, _⟩ := h
    rfl
  · obtain ⟨u, v, rfl, h1, h0⟩ := h
    refine ⟨_, (pss_cons (ps_if (pt_cmpR op_eq (pv 1) pe_int (nomark _)) (pss_one (ps_raise rfl (takes_of rfl rfl rfl rfl) (pmk_oex T.eInvalidRatio.oex T.eInvalidRatio.iC T.eInvalidRatio.tI (ok_InvalidRatio T) (hr.mono (by decide)) T.bIInvalidRatio .nil pass0 (by rfl) T.eInvalidRatio.gC (pa_cons pe_int pa_nil)))) pss_nil)
      (pss_cons (ps_set (i := 2) sc_p_ratio.nd rfl (.inl rfl) (pe_call (ok_p_common_divisor T) (hr.mono (by decide)) (by rfl) T.g_p_common_divisor T.F_p_common_divisor.kp T.b_p_common_divisor .nil pass0 (pa_cons (pv 0) (pa_cons (pv 1) pa_nil))))
      (C8.pss_cut (ps_if (pt_cmpR op_lt (pv 1) pe_int (nomark _)) (pss_one (ps_set (i := 2) sc_p_ratio.nd rfl (.inl rfl) (pe_un un_neg (pv 2)))) pss_nil)
      (pss_one (ps_ret (pe_tup (pa_cons (pe_op op_fdivG (pv 0) (pv 2)) (pa_cons (pe_op op_fdivG (pv 1) (pv 2)) pa_nil)))))))), ?_⟩
    refine ⟨_, rfl, rfl, _, rfl, ite2 (fun e => ?_) (fun e => ?_)⟩
    · have ev : v = 0 := V.int.inj (of_decide_eq_true e)
      refine ⟨by show 1 ≤ 1000; decide, fun a na => ⟨a, _, .int 0, rfl, T.eInvalidRatio.oex, T.nInvalidRatio_given, T.eInvalidRatio.tag, upd_same, fun dx nd ne => ⟨rfl, dx, _, ?_, upd_same, ?_, ?_⟩⟩⟩
      · rw [upd_ne ne.symm, upd_same]
      · rw [upd_ne ne] at nd
        exact nd
      · have nd' : H dx = none := by
          rw [upd_ne ne] at nd
          exact nd
        refine h0 ev dx _ nd' (Same.del na nd' fun b o hb q => ?_) upd_same
        rw [upd_ne (ne_of_none q nd'), upd_ne hb, upd_ne (ne_of_none q nd'), upd_ne hb]
        exact q
    · have ev : v ≠ 0 := fun z => e (decide_eq_true (by rw [z]))
      obtain ⟨h9, q⟩ := h1 ev
      refine ⟨_, rfl, _, rfl, u, v, rfl, .inr h9, ?_⟩
      refine ⟨fun σ H1 => H1 = H ∧ σ = [some (.int u), some (.int v), some (.int (lowG u v))], ?_, fun σ H1 hM => ?_⟩
      · refine ⟨_, rfl, _, _, rfl, rfl, _, rfl, ite2 (fun e => ?_) (fun e => ?_)⟩
        · refine ⟨_, rfl, _, rfl, rfl, ?_⟩
          unfold lowG
          rw [if_pos (of_decide_eq_true e)]
          rfl
        · refine ⟨rfl, ?_⟩
          unfold lowG
          rw [if_neg (fun z => e (decide_eq_true z))]
          rfl
      · obtain ⟨rfl, rfl⟩ := hM
        have hG := lowG_ok (u := u) ev h9
        exact ⟨_, rfl, _, rfl, _, _, rfl, rfl, hG, _, rfl, _, rfl, _, _, rfl, rfl, hG, two_line, q⟩
end
/-! ### slices of lists of signs -/
theorem cut_to (a : List Nat) (k : Nat) : L2.cutS (SX.S a) none (some (k : Int)) = SX.S (a.take k) := by
  unfold L2.cutS
  rw [HT.sIx_none, HT.sIx_nat, SX.S_len, Nat.sub_zero]
  refine TL.ext_tl ?_
  show (a.drop 0).take (min k a.length) = a.take k
  rw [List.drop_zero]
  by_cases h : k ≤ a.length
  · rw [Nat.min_eq_left h]
  · rw [Nat.min_eq_right (by omega), List.take_of_length_le (Nat.le_refl _), List.take_of_length_le (by omega)]
theorem cut_from (a : List Nat) (k : Nat) : L2.cutS (SX.S a) (some (k : Int)) none = SX.S (a.drop k) := by
  unfold L2.cutS
  rw [HT.sIx_none, HT.sIx_nat, SX.S_len]
  refine TL.ext_tl ?_
  show (a.drop (min k a.length)).take (a.length - min k a.length) = a.drop k
  by_cases h : k ≤ a.length
  · rw [Nat.min_eq_left h, List.take_of_length_le (by rw [List.length_drop]; exact Nat.le_refl _)]
  · rw [Nat.min_eq_right (by omega), List.drop_of_length_le (Nat.le_refl _), List.drop_of_length_le (by omega), List.take_nil]
section
variable {P : Program} {w : World} {K : PySem.W.Frag} {mg : Str → Option Value} {base : Heap} {fa : Nat → Addr} {fd : Nat → FuncData}
def spNumOf : Sp := fun vs H Q _ => ∃ a : List Nat, vs = [.str (SX.S a)] ∧ isD a = true ∧ a.length ≤ 62 ∧ Q (.int ((NumText.digitsVal a : Nat) : Int)) H
theorem ok_p_number_of (T : Txt K mg fa fd) : FnOk P w K mg base CX0 1 (fa 20) (fd 20) ["digits"] spNumOf := by
  refine T.F_p_number_of.ok sc_p_number_of (fun vs H Q E h => ?_) (fun cdv A outer s H vs Q E hr h => ?_)
  · obtain ⟨a, rfl, _⟩ := h
    rfl
  · obtain ⟨a, rfl, hd, hl, q⟩ := h
    have line : (SX.S a).length ≤ sizeLine := by
      rw [SX.S_len]
      exact small_line (by omega)
    have len : (((SX.S a).length : Nat) : Int) % 64 = (a.length : Nat) := by
      rw [SX.S_len]
      omega
    have cut : L2.cutS (SX.S a) none (some ((((SX.S a).length : Nat) : Int) % 64)) = SX.S a := by
      rw [len, cut_to, List.take_length]
    have cat : (Str.ofString "0" : Str) ++ L2.cutS (SX.S a) none (some ((((SX.S a).length : Nat) : Int) % 64)) = SX.S (48 :: a) := by
      rw [cut, nought, SX.S_cat]
      rfl
    have hd2 := (isD_iff.mp hd).2
    have val : intText? ((Str.ofString "0" : Str) ++ L2.cutS (SX.S a) none (some ((((SX.S a).length : Nat) : Int) % 64))) = some ((NumText.digitsVal a : Nat) : Int) := by
      rw [cat]
      have := intText_digits (x := SX.S (48 :: a)) (fun c hc => by
        rcases List.mem_cons.mp hc with e | e
        · omega
        · exact hd2 c e) (by simp) (by rw [SX.S_len]; simp only [List.length_cons]; omega)
      rw [this]
      rfl
    refine ⟨_, (pss_cons (ps_set (i := 1) sc_p_number_of.nd rfl (.inl rfl) (pe_op op_mod (pe_callB call_len_str (by rfl) T.m_len PySem.boot_len (pa_cons (pv 0) pa_nil)) pe_int))
      (pss_cons (ps_set (i := 2) sc_p_number_of.nd rfl (.inl rfl) (pe_callTy call_int_str (by rfl) T.m_int PySem.Pv.boot_int (pa_cons (pe_op op_add_str pe_str (pe_slice sl_str (pv 0) po_none (po_some (pv 1)))) pa_nil)))
      (pss_cons (ps_for PassesOwn.never rfl (pi_range3 (by rfl) T.m_range (pa_cons (pv 1) (pa_cons (pe_callB call_len_str (by rfl) T.m_len PySem.boot_len (pa_cons (pv 0) pa_nil)) (pa_cons pe_int pa_nil)))) (pg_name (i := 3) sc_p_number_of.nd rfl (.inl rfl)) (pss_one ps_never))
      (pss_one (ps_ret (pv 2)))))), ?_⟩
    refine ⟨_, rfl, _, rfl, line, _, _, rfl, rfl, (by decide : (0 : Int) < 64), _, rfl, _, rfl, _, rfl, _, rfl, line, _, _, rfl, rfl, ?_, _, _, rfl, val, ?_, ?_⟩
    · rw [nought, cut, SX.S_len, SX.S_len]
      exact small_line (by show 1 + _ ≤ 1000; omega)
    · rw [cat, SX.S_len]
      simp only [List.length_cons]
      omega
    · refine ⟨_, rfl, _, rfl, _, rfl, line, _, _, _, 0, rfl, ?_, for_rangeC (fun i σ H1 => H1 = H ∧ σ = [some (.str (SX.S a)), some (.int ((((SX.S a).length : Nat) : Int) % 64)), some (.int ((NumText.digitsVal a : Nat) : Int)), none]) ⟨rfl, rfl⟩ (fun i σ H1 hi => absurd hi (Nat.not_lt_zero _)) (fun σ H1 h => ?_)⟩
      · have z : Builtin.Range.rangeSize ((((SX.S a).length : Nat) : Int) % 64) (((SX.S a).length : Nat) : Int) 64 = 0 := by
          unfold Builtin.Range.rangeSize
          rw [if_pos (by decide), if_neg (by rw [len, SX.S_len]; omega)]
        refine ⟨by decide, by decide, ?_, z⟩
        have e : Builtin.Range.small ((a.length : Nat) : Int) ((a.length : Nat) : Int) 64 = true := by
          have : ∀ n : Nat, n ≤ 62 → Builtin.Range.small (n : Int) (n : Int) 64 = true := by decide +kernel
          exact this _ hl
        rw [len, SX.S_len]
        exact e
      · obtain ⟨rfl, rfl⟩ := h
        exact ⟨_, rfl, q⟩
end
theorem val_lt {a : List Nat} (h : NumText.AllDigits a) : NumText.digitsVal a < 10 ^ a.length := by
  have key : ∀ (l : List Nat) (acc : Nat), NumText.AllDigits l → l.foldl (fun acc c => acc * 10 + (c - 48)) acc < (acc + 1) * 10 ^ l.length := by
    intro l
    induction l with
    | nil => intro acc _; show acc < (acc + 1) * 1; omega
    | cons c l ih =>
      intro acc hl
      have hc := hl.head
      have i := ih (acc * 10 + (c - 48)) hl.tail
      refine Nat.lt_of_lt_of_le i ?_
      rw [List.length_cons, Nat.pow_succ, Nat.mul_comm (10 ^ l.length) 10, ← Nat.mul_assoc]
      exact Nat.mul_le_mul_right _ (by omega)
  have := key a 0 h
  rw [Nat.zero_add, Nat.one_mul] at this
  exact this
theorem val_lt62 {a : List Nat} (h : NumText.AllDigits a) (hl : a.length ≤ 61) : NumText.digitsVal a < 10 ^ 62 := Nat.lt_of_lt_of_le (val_lt h) (Nat.pow_le_pow_right (by decide) (by omega))
theorem body_len (t : List Nat) : (bodyL t).length ≤ t.length := by
  have e := congrArg List.length (body_at t)
  rw [List.length_append] at e
  omega
theorem cut_len (a : List Nat) : (cutL a).1.length ≤ a.length ∧ (cutL a).2.2.length ≤ a.length := by
  have e := congrArg List.length (cut_at a)
  rw [List.length_append] at e
  refine ⟨by omega, ?_⟩
  cases h : (cutL a).2.1
  · unfold cutL at h ⊢
    split at h
    · cases h
    · simp
  · rw [h, if_pos rfl, List.length_cons] at e
    omega
theorem intL_len {n : Int} (h : n.natAbs < 10 ^ 62) : (intL n).length ≤ 63 := by
  have := TL.numL_len (n := n.natAbs) (k := 62) (by decide) h
  unfold intL
  rw [List.length_append]
  split
  · show 1 + _ ≤ _
    omega
  · show 0 + _ ≤ _
    omega
theorem txt_int (n d : Int) (hd : 0 < d) : txtL n d = if d = 1 then intL n else intL n ++ (47 :: intL d) := by
  unfold txtL intL
  have : ¬ d < 0 := by omega
  rw [if_neg this, List.nil_append]
  by_cases h : d = 1
  · rw [if_pos h, if_pos h, List.append_nil]
  · rw [if_neg h, if_neg h, List.append_assoc]
section
variable {P : Program} {w : World} {K : PySem.W.Frag} {mg : Str → Option Value} {base : Heap} {fa : Nat → Addr} {fd : Nat → FuncData}
theorem Same.trans {A B C : Hp} (h1 : Same A B) (h2 : Same B C) : Same A C := fun b u e => h2 b u (h1 b u e)
theorem Same.new {A : Hp} {p : Addr} {o : HO} (h : A p = none) : Same A (upd A p o) := fun b u e => by
  rw [upd_ne (ne_of_none e h)]
  exact e
def spRatT : Sp := fun vs H Q _ => ∃ (p : Addr) (n d : Int), vs = [.ref p] ∧ H p = some (.tup [.int n, .int d]) ∧ 0 < d ∧ n.natAbs < 10 ^ 62 ∧ d.natAbs < 10 ^ 62 ∧ ∀ H', Same H H' → Q (.str (SX.S (txtL n d))) H'
theorem ok_p_ratio_text (T : Txt K mg fa fd) : FnOk P w K mg base CX0 2 (fa 21) (fd 21) ["one"] spRatT := by
  refine T.F_p_ratio_text.ok sc_p_ratio_text (fun vs H Q E h => ?_) (fun cdv A outer s H vs Q E hr h => ?_)
  · obtain ⟨p, n, d, rfl, _⟩ := h
    rfl
  · obtain ⟨p, n, d, rfl, hp, hd, hn, hd2, q⟩ := h
    refine ⟨_, (pss_cons (ps_if (pt_cmpR op_eq (pe_ix ix_tup (pv 0) pe_int (fun _ _ => rfl)) pe_int (nomark _)) (pss_one (ps_ret (pe_call (ok_p_number_text T) (hr.mono (by decide)) (by rfl) T.g_p_number_text T.F_p_number_text.kp T.b_p_number_text .nil pass0 (pa_cons (pe_ix ix_tup (pv 0) pe_int (fun _ _ => rfl)) pa_nil)))) pss_nil)
      (pss_one (ps_ret (pe_op op_add_str (pe_op op_add_str (pe_call (ok_p_number_text T) (hr.mono (by decide)) (by rfl) T.g_p_number_text T.F_p_number_text.kp T.b_p_number_text .nil pass0 (pa_cons (pe_ix ix_tup (pv 0) pe_int (fun _ _ => rfl)) pa_nil)) pe_str) (pe_call (ok_p_number_text T) (hr.mono (by decide)) (by rfl) T.g_p_number_text T.F_p_number_text.kp T.b_p_number_text .nil pass0 (pa_cons (pe_ix ix_tup (pv 0) pe_int (fun _ _ => rfl)) pa_nil)))))), ?_⟩
    refine ⟨_, rfl, p, _, 1, _, rfl, rfl, SqT.of hp, rfl, rfl, _, rfl, ite2 (fun e => ?_) (fun e => ?_)⟩
    · have e1 : d = 1 := V.int.inj (of_decide_eq_true e)
      refine ⟨_, rfl, p, _, 0, _, rfl, rfl, SqT.of hp, rfl, n, rfl, hn, fun H1 s1 => ?_⟩
      have := q H1 s1
      rw [txt_int n d hd, if_pos e1] at this
      exact this
    · have e1 : d ≠ 1 := fun z => e (decide_eq_true (by rw [z]))
      refine ⟨_, rfl, p, _, 0, _, rfl, rfl, SqT.of hp, rfl, n, rfl, hn, fun H1 s1 => ⟨_, _, rfl, rfl, ?_, _, rfl, p, _, 1, _, rfl, rfl, SqT.of (s1 _ _ hp), rfl, d, rfl, hd2, fun H2 s2 => ⟨_, _, rfl, rfl, ?_, ?_⟩⟩⟩
      · rw [stroke, SX.S_len, SX.S_len]
        exact small_line (by have := intL_len hn; show _ + 1 ≤ 1000; omega)
      · rw [stroke, SX.S_cat, SX.S_len, SX.S_len, List.length_append]
        exact small_line (by have := intL_len hn; have := intL_len hd2; show _ + 1 + _ ≤ 1000; omega)
      · have := q H2 (Same.trans s1 s2)
        rw [txt_int n d hd, if_neg e1] at this
        rw [stroke, SX.S_cat, SX.S_cat, List.append_assoc]
        exact this
end
theorem sl_eq (b : Bool) : decide (V.str (SX.S (if b then [47] else [])) = V.str (Str.ofString "")) = !b := by
  rw [emptyS]
  cases b
  · exact decide_eq_true rfl
  · refine decide_eq_false fun z => ?_
    exact absurd (SX.S_inj (V.str.inj z)) (by decide)
theorem progR_bad {t : List Nat} (h : (!isD (cutL (bodyL t)).1 || ((cutL (bodyL t)).2.1 && !isD (cutL (bodyL t)).2.2)) = true) : progR t = none := by
  unfold progR
  rw [if_pos h]
theorem progR_zero {t : List Nat} (h : progD t = 0) : progR t = none := by
  unfold progR
  rw [if_pos h]
  split <;> rfl
theorem progR_ne {t : List Nat} (h0 : progD t ≠ 0) (h : txtL (lowT (progN t) (progD t)) (lowD (progN t) (progD t)) ≠ t) : progR t = none := by
  unfold progR
  rw [if_neg h0, if_neg h]
  split <;> rfl
theorem progR_eq {t : List Nat} (hb : (!isD (cutL (bodyL t)).1 || ((cutL (bodyL t)).2.1 && !isD (cutL (bodyL t)).2.2)) = false) (h0 : progD t ≠ 0) (h : txtL (lowT (progN t) (progD t)) (lowD (progN t) (progD t)) = t) :
    progR t = some (lowT (progN t) (progD t), lowD (progN t) (progD t)) := by
  unfold progR
  rw [hb, if_neg (by decide), if_neg h0, if_pos h]
section
variable {P : Program} {w : World} {K : PySem.W.Frag} {mg : Str → Option Value} {base : Heap} {fa : Nat → Addr} {fd : Nat → FuncData}
def spRatOf : Sp := fun vs H Q _ => ∃ t : List Nat, vs = [.str (SX.S t)] ∧ t.length ≤ 61 ∧ (progR t = none → ∀ H', Same H H' → Q .non H') ∧ (∀ f, progR t = some f → ∀ p H', Same H H' → H' p = some (.tup [.int f.1, .int f.2]) → Q (.ref p) H')
theorem ok_p_ratio_of (T : Txt K mg fa fd) : FnOk P w K mg base (L2.CX P w) 4 (fa 22) (fd 22) ["text"] spRatOf := by
  refine T.F_p_ratio_of.okX sc_p_ratio_of (fun vs H Q E h => ?_) (fun cdv A outer s H vs Q E hr h => ?_)
  · obtain ⟨p, rfl, _⟩ := h
    rfl
  · obtain ⟨t, rfl, hl, qn, qs⟩ := h
    have b1 := body_len t
    obtain ⟨c1, c2⟩ := cut_len (bodyL t)
    have line : (SX.S t).length ≤ sizeLine := by
      rw [SX.S_len]
      exact small_line (by omega)
    have rm : Txt.removeprefix (SX.S t) (Str.ofString "-") = SX.S (bodyL t) := by rw [dash, rem_minus]
    have line2 : (Txt.removeprefix (SX.S t) (Str.ofString "-")).length ≤ sizeLine := by
      rw [rm, SX.S_len]
      exact small_line (by omega)
    have pt := cut_S (bodyL t)
    refine ⟨_, (pss_cons (ps_asg (pe_m1 PySem.F.slot_str_partition PySem.F.type_str_partition mt_partition (pe_m1 PySem.F.slot_str_removeprefix PySem.F.type_str_removeprefix mt_removeprefix (pv 0) pe_str (by rfl) (by rfl) (by rfl)) pe_str (by rfl) (by rfl) (by rfl)) (pg_tup (by rfl) (pgs_cons (pg_name (i := 1) sc_p_ratio_of.nd rfl (.inl rfl)) (pgs_cons (pg_name (i := 2) sc_p_ratio_of.nd rfl (.inl rfl)) (pgs_cons (pg_name (i := 3) sc_p_ratio_of.nd rfl (.inl rfl)) pgs_nil)))))
      (C8.pss_cut (ps_if (PW.pt (pw_or (pt_not (pt_val (pe_call (ok_p_is_digits T) (hr.mono (by decide)) (by rfl) T.g_p_is_digits T.F_p_is_digits.kp T.b_p_is_digits .nil pass0 (pa_cons (pv 1) pa_nil)))) (pw_or1 (PW.pt (pw_and (pt_cmpR op_ne (pv 2) pe_str (nomark _)) (pw_and1 (pt_not (pt_val (pe_call (ok_p_is_digits T) (hr.mono (by decide)) (by rfl) T.g_p_is_digits T.F_p_is_digits.kp T.b_p_is_digits .nil pass0 (pa_cons (pv 3) pa_nil)))))))))) (pss_one (ps_ret pe_non)) pss_nil)
      (C8.pss_cut (ps_set (i := 4) sc_p_ratio_of.nd rfl (.inl rfl) (pe_ifExp (pt_val (pe_m1 PySem.F.slot_str_startswith PySem.F.type_str_startswith mt_startswith (pv 0) pe_str (by rfl) (by rfl) (by rfl))) (pe_un un_neg (pe_call (ok_p_number_of T) (hr.mono (by decide)) (by rfl) T.g_p_number_of T.F_p_number_of.kp T.b_p_number_of .nil pass0 (pa_cons (pv 1) pa_nil))) (pe_call (ok_p_number_of T) (hr.mono (by decide)) (by rfl) T.g_p_number_of T.F_p_number_of.kp T.b_p_number_of .nil pass0 (pa_cons (pv 1) pa_nil))))
      (C8.pss_cut (ps_set (i := 5) sc_p_ratio_of.nd rfl (.inl rfl) (pe_ifExp (pt_cmpR op_eq (pv 2) pe_str (nomark _)) pe_int (pe_call (ok_p_number_of T) (hr.mono (by decide)) (by rfl) T.g_p_number_of T.F_p_number_of.kp T.b_p_number_of .nil pass0 (pa_cons (pv 3) pa_nil))))
      (pss_cons (ps_if (pt_cmpR op_eq (pv 5) pe_int (nomark _)) (pss_one (ps_ret pe_non)) pss_nil)
      (pss_cons (ps_set (i := 6) sc_p_ratio_of.nd rfl (.inl rfl) (pe_call (ok_p_ratio T) (hr.mono (by decide)) (by rfl) T.g_p_ratio T.F_p_ratio.kp T.b_p_ratio .nil (passes_call (takes_of rfl rfl rfl rfl) (fun _ _ _ _ h => h)) (pa_cons (pv 4) (pa_cons (pv 5) pa_nil))))
      (pss_one (ps_ret (pe_ifExp (pt_cmpR op_eq (pe_call (ok_p_ratio_text T) (hr.mono (by decide)) (by rfl) T.g_p_ratio_text T.F_p_ratio_text.kp T.b_p_ratio_text .nil pass0 (pa_cons (pv 6) pa_nil)) (pv 0) (nomark _)) (pv 6) pe_non))))))))), ?_⟩
    refine ⟨_, rfl, ⟨_, rfl⟩, _, _, rfl, rfl, line, ⟨_, rfl⟩, _, _, rfl, rfl, by decide +kernel, line2, fun p hp => ?_⟩
    rw [rm, stroke, pt]
    have sp : Same H (upd H p (.tup [.str (SX.S (cutL (bodyL t)).1), .str (SX.S (if (cutL (bodyL t)).2.1 then [47] else [])), .str (SX.S (cutL (bodyL t)).2.2)])) := Same.new hp
    generalize hH : upd H p (.tup [.str (SX.S (cutL (bodyL t)).1), .str (SX.S (if (cutL (bodyL t)).2.1 then [47] else [])), .str (SX.S (cutL (bodyL t)).2.2)]) = H1 at sp
    have hp1 : H1 p = some (.tup [.str (SX.S (cutL (bodyL t)).1), .str (SX.S (if (cutL (bodyL t)).2.1 then [47] else [])), .str (SX.S (cutL (bodyL t)).2.2)]) := by rw [← hH, upd_same]
    have kd : (!isD (cutL (bodyL t)).1 || ((cutL (bodyL t)).2.1 && !isD (cutL (bodyL t)).2.2)) = false → isD (cutL (bodyL t)).1 = true ∧ ((cutL (bodyL t)).2.1 = true → isD (cutL (bodyL t)).2.2 = true) := fun z => by
      cases e1 : isD (cutL (bodyL t)).1 <;> cases e2 : (cutL (bodyL t)).2.1 <;> cases e3 : isD (cutL (bodyL t)).2.2 <;> rw [e1, e2, e3] at z <;> simp_all
    let S1 : L2.St := [some (.str (SX.S t)), some (.str (SX.S (cutL (bodyL t)).1)), some (.str (SX.S (if (cutL (bodyL t)).2.1 then [47] else []))), some (.str (SX.S (cutL (bodyL t)).2.2))]
    refine ⟨p, _, rfl, SqT.of hp1, rfl, _, _, rfl, _, _, rfl, _, _, rfl, rfl, ?_⟩
    refine ⟨fun σ H2 => H2 = H1 ∧ σ = S1 ++ [none, none, none] ∧ (!isD (cutL (bodyL t)).1 || ((cutL (bodyL t)).2.1 && !isD (cutL (bodyL t)).2.2)) = false, ?_, fun σ H2 hM => ?_⟩
    · refine ⟨_, rfl, _, rfl, _, rfl, ite2 (fun e => ?_) (fun e => ?_)⟩
      · refine qn (progR_bad ?_) H1 sp
        rw [e]
        rfl
      · refine ⟨_, rfl, rfl, _, rfl, ?_⟩
        rw [sl_eq]
        have e1 : (!isD (cutL (bodyL t)).1) = false := by
          cases h : isD (cutL (bodyL t)).1
          · rw [h] at e
            exact absurd rfl e
          · rfl
        refine ite2 (fun e2 => ?_) (fun e2 => ?_)
        · refine ⟨_, rfl, _, rfl, _, rfl, ite2 (fun e3 => ?_) (fun e3 => ?_)⟩
          · refine qn (progR_bad ?_) H1 sp
            rw [e1, e3]
            rw [Bool.not_not] at e2
            rw [e2]
            rfl
          · refine ⟨rfl, rfl, ?_⟩
            rw [e1, Bool.false_or]
            rw [Bool.not_not] at e2
            rw [e2, Bool.true_and]
            exact Bool.eq_false_iff.mpr e3
        · refine ⟨rfl, rfl, ?_⟩
          rw [e1, Bool.false_or]
          rw [Bool.not_not] at e2
          rw [Bool.eq_false_iff.mpr e2, Bool.false_and]
    · obtain ⟨h2, h3, hb⟩ := hM
      rw [h2, h3]
      obtain ⟨d1, d2⟩ := kd hb
      have a1 := (isD_iff.mp d1).2
      have v1 := val_lt62 a1 (by omega)
      have n1 : (progN t).natAbs < 10 ^ 62 := by
        have : (progN t).natAbs = NumText.digitsVal (cutL (bodyL t)).1 := by
          unfold progN
          split <;> omega
        rw [this]
        exact v1
      have n2 : (progD t).natAbs < 10 ^ 62 := by
        unfold progD
        split
        · rename_i e
          have := val_lt62 (isD_iff.mp (d2 e)).2 (by omega)
          rw [Int.natAbs_natCast]
          exact this
        · decide +kernel
      refine ⟨fun σ H3 => H3 = H1 ∧ σ = S1 ++ [some (.int (progN t)), none, none], ?_, fun σ H3 hM => ?_⟩
      · refine ⟨_, rfl, ⟨_, rfl⟩, _, _, rfl, rfl, _, rfl, ?_⟩
        rw [dash, starts_minus]
        refine ite2 (fun e => ?_) (fun e => ?_)
        · refine ⟨_, rfl, _, rfl, d1, by omega, _, rfl, rfl, ?_⟩
          unfold progN
          rw [if_pos e]
          rfl
        · refine ⟨_, rfl, _, rfl, d1, by omega, rfl, ?_⟩
          unfold progN
          rw [if_neg e]
          rfl
      · obtain ⟨h2, h3⟩ := hM
        rw [h2, h3]
        refine ⟨fun σ H3 => H3 = H1 ∧ σ = S1 ++ [some (.int (progN t)), some (.int (progD t)), none], ?_, fun σ H3 hM => ?_⟩
        · refine ⟨_, rfl, rfl, _, rfl, ?_⟩
          rw [sl_eq]
          refine ite2 (fun e => ?_) (fun e => ?_)
          · refine ⟨rfl, ?_⟩
            have e' : (cutL (bodyL t)).2.1 = false := by
              cases h : (cutL (bodyL t)).2.1
              · rfl
              · rw [h] at e
                cases e
            unfold progD
            rw [e']
            rfl
          · have e' : (cutL (bodyL t)).2.1 = true := by
              cases h : (cutL (bodyL t)).2.1
              · rw [h] at e
                exact absurd rfl e
              · rfl
            refine ⟨_, rfl, _, rfl, d2 e', by omega, rfl, ?_⟩
            unfold progD
            rw [if_pos e']
            rfl
        · obtain ⟨h2, h3⟩ := hM
          rw [h2, h3]
          refine ⟨_, rfl, rfl, _, rfl, ite2 (fun e => ?_) (fun e => ?_)⟩
          · exact qn (progR_zero (V.int.inj (of_decide_eq_true e))) H1 sp
          · have h0 : progD t ≠ 0 := fun z => e (decide_eq_true (by rw [z]))
            refine ⟨_, rfl, _, rfl, _, _, rfl, fun hv => ⟨Nat.lt_trans (log_of n2) (by decide), fun p2 hp2 => ?_⟩, fun hv => absurd hv h0⟩
            refine ⟨_, rfl, p2, _, _, rfl, upd_same, lowD_pos h0, Nat.lt_of_le_of_lt (lowT_abs h0) n1, Nat.lt_of_le_of_lt (lowD_abs h0) n2, fun H5 s5 => ⟨_, rfl, rfl, _, rfl, ite2 (fun e => ?_) (fun e => ?_)⟩⟩
            · have e2 : txtL (lowT (progN t) (progD t)) (lowD (progN t) (progD t)) = t := SX.S_inj (V.str.inj (of_decide_eq_true e))
              exact ⟨_, rfl, qs _ (progR_eq hb h0 e2) p2 H5 (Same.trans sp (Same.trans (Same.new hp2) s5)) (s5 _ _ upd_same)⟩
            · exact qn (progR_ne h0 fun z => e (decide_eq_true (by rw [z]))) H5 (Same.trans sp (Same.trans (Same.new hp2) s5))
end
/-! ### runs of signs -/
def runL (s : Nat → Bool) (t : List Nat) (k : Nat) : Nat := k + ((t.drop k).takeWhile s).length
theorem runL_step {s : Nat → Bool} {t : List Nat} {k : Nat} (h : k < t.length) (hs : s t[k] = true) : runL s t k = runL s t (k + 1) := by
  unfold runL
  rw [List.drop_eq_getElem_cons h, List.takeWhile_cons, if_pos hs, List.length_cons]
  omega
theorem runL_stop {s : Nat → Bool} {t : List Nat} {k : Nat} (h : k < t.length) (hs : s t[k] = false) : runL s t k = k := by
  unfold runL
  rw [List.drop_eq_getElem_cons h, List.takeWhile_cons, if_neg (by rw [hs]; decide)]
  rfl
theorem runL_end {s : Nat → Bool} {t : List Nat} {k : Nat} (h : t.length ≤ k) : runL s t k = k := by
  unfold runL
  rw [List.drop_of_length_le h]
  rfl
theorem runL_le (s : Nat → Bool) (t : List Nat) (k : Nat) (h : k ≤ t.length) : runL s t k ≤ t.length := by
  unfold runL
  have := (List.takeWhile_prefix s (l := t.drop k)).length_le
  rw [List.length_drop] at this
  omega
theorem runL_ge (s : Nat → Bool) (t : List Nat) (k : Nat) : k ≤ runL s t k := Nat.le_add_right _ _
section
variable {P : Program} {w : World} {K : PySem.W.Frag} {mg : Str → Option Value} {base : Heap} {fa : Nat → Addr} {fd : Nat → FuncData}
abbrev vS (a : List Nat) : V := .str (SX.S a)
def inZ (z : Str) (c : Nat) : Bool := decide (c ∈ z.cps.toList)
def spRun : Sp := fun vs H Q _ => ∃ (t : List Nat) (k : Nat) (z : Str), vs = [vS t, .int (k : Int), .str z] ∧ t.length ≤ 1000 ∧ k ≤ t.length ∧ Q (.int (runL (inZ z) t k : Nat)) H
theorem ok_p_run_end (T : Txt K mg fa fd) : FnOk P w K mg base CX0 1 (fa 28) (fd 28) ["text", "at", "letters"] spRun := by
  refine T.F_p_run_end.ok sc_p_run_end (fun vs H Q E h => ?_) (fun cdv A outer s H vs Q E hr h => ?_)
  · obtain ⟨t, k, z, rfl, _⟩ := h
    rfl
  · obtain ⟨t, k, z, rfl, ht, hk, q⟩ := h
    refine ⟨_, (pss_cons (ps_while PassesOwn.never (PW.pt (pw_and (pt_cmpR op_lt (pv 1) (pe_callB call_len_str (by rfl) T.m_len PySem.boot_len (pa_cons (pv 0) pa_nil)) (nomark _)) (pw_and1 (pt_cmpR op_in_sign (pe_ix ix_str (pv 0) (pv 1) (fun _ _ => rfl)) (pv 2) (by rfl))))) (pss_one (ps_aug (i := 1) sc_p_run_end.nd rfl (.inl rfl) pe_int ip_add)))
      (pss_one (ps_ret (pv 1)))), ?_⟩
    have st : (SX.S t).length = t.length := SX.S_len t
    refine ⟨fun m σ H1 => ∃ i : Nat, m = t.length - i ∧ i ≤ t.length ∧ runL (inZ z) t i = runL (inZ z) t k ∧ σ = [some (vS t), some (.int i), some (.str z)] ∧ H1 = H, ⟨_, k, rfl, hk, rfl, rfl, rfl⟩, fun m σ H1 hW => ?_⟩
    obtain ⟨i, rfl, hi, er, rfl, rfl⟩ := hW
    refine ⟨_, rfl, _, rfl, _, rfl, small_line (by omega), _, _, rfl, rfl, _, rfl, ite2 (fun e => ?_) (fun e => ?_)⟩
    · have e : (i : Int) < ((SX.S t).length : Int) := of_decide_eq_true e
      have il : i < t.length := by omega
      refine ⟨_, rfl, _, rfl, SX.S t, (i : Int), t[i], rfl, rfl, small_line (by omega), atI_nat (by rw [S_list]; exact List.getElem?_eq_getElem il), _, rfl, t[i], z, rfl, rfl, _, rfl, ?_⟩
      cases hs : inZ z t[i] with
      | true =>
        rw [show decide (t[i] ∈ z.cps.toList) = true from hs]
        refine iteT ⟨fun σ' H' => ∃ m', m' < t.length - i ∧ ∃ j : Nat, m' = t.length - j ∧ j ≤ t.length ∧ runL (inZ z) t j = runL (inZ z) t k ∧ σ' = [some (vS t), some (.int j), some (.str z)] ∧ H' = H1, fun _ _ h => h, ?_⟩
        exact ⟨_, rfl, _, _, rfl, rfl, t.length - (i + 1), by omega, i + 1, rfl, il, by rw [← er, runL_step il hs], rfl, rfl⟩
      | false =>
        rw [show decide (t[i] ∈ z.cps.toList) = false from hs]
        rw [runL_stop il hs] at er
        refine iteF ⟨_, rfl, ?_⟩
        rw [er]
        exact q
    · have e : ¬ ((i : Int) < ((SX.S t).length : Int)) := fun z => e (decide_eq_true z)
      rw [runL_end (by omega)] at er
      refine ⟨_, rfl, ?_⟩
      rw [er]
      exact q
end
/-! ### symbols -/
theorem cut_mid (a : List Nat) {i j : Nat} (h : i ≤ j) (hj : j ≤ a.length) : L2.cutS (SX.S a) (some (i : Int)) (some (j : Int)) = SX.S ((a.drop i).take (j - i)) := by
  unfold L2.cutS
  rw [HT.sIx_nat, HT.sIx_nat, SX.S_len]
  refine TL.ext_tl ?_
  show (a.drop (min i a.length)).take (min j a.length - min i a.length) = (a.drop i).take (j - i)
  rw [show min i a.length = i by omega, show min j a.length = j by omega]
inductive Sy
  | num (f : Int × Int)
  | name (x : List Nat)
  | rel (r : List Nat)
  | sign (c : Nat)
  | fin
  | bad
def mid (t : List Nat) (i j : Nat) : List Nat := (t.drop i).take (j - i)
theorem mid_len (t : List Nat) {i j : Nat} (h : i ≤ j) (hj : j ≤ t.length) : (mid t i j).length = j - i := by
  unfold mid
  rw [List.length_take, List.length_drop]
  omega
def sortS : Sy → Str
  | .num _ => Str.ofString "number"
  | .name _ => Str.ofString "name"
  | .rel _ => Str.ofString "relation"
  | .sign c => SX.S [c]
  | .fin => Str.ofString "end"
  | .bad => Str.ofString "bad"
theorem cut_mid2 (a : List Nat) {i j : Nat} (h : i ≤ j) (hi : i ≤ a.length) : L2.cutS (SX.S a) (some (i : Int)) (some (j : Int)) = SX.S (mid a i j) := by
  by_cases hj : j ≤ a.length
  · exact cut_mid a h hj
  · unfold L2.cutS mid
    rw [HT.sIx_nat, HT.sIx_nat, SX.S_len]
    refine TL.ext_tl ?_
    show (a.drop (min i a.length)).take (min j a.length - min i a.length) = (a.drop i).take (j - i)
    rw [show min i a.length = i by omega, show min j a.length = a.length by omega, List.take_of_length_le (by rw [List.length_drop]; omega), List.take_of_length_le (by rw [List.length_drop]; omega)]
theorem mid_le (t : List Nat) (i j : Nat) : (mid t i j).length ≤ t.length := by
  unfold mid
  rw [List.length_take, List.length_drop]
  omega
theorem quote8 : (Str.ofString "'" : Str) = SX.S [39] := by decide +kernel
theorem numZ : ∀ c : Nat, inZ (Str.ofString "0123456789" ++ Str.ofString "/") c = (dig c || decide (c = 47)) := fun c => by
  unfold inZ dig
  rw [show (Str.ofString "0123456789" ++ Str.ofString "/").cps.toList = [48, 49, 50, 51, 52, 53, 54, 55, 56, 57, 47] by decide +kernel, Bool.eq_iff_iff]
  simp only [decide_eq_true_eq, Bool.or_eq_true, Bool.and_eq_true, List.mem_cons, List.not_mem_nil, or_false]
  omega
def numC (c : Nat) : Bool := dig c || decide (c = 47)
theorem numZ_fun : inZ (Str.ofString "0123456789" ++ Str.ofString "/") = numC := funext numZ
def numP (t : List Nat) (k : Nat) : Sy × Nat :=
  let e := runL numC t k
  let w := mid t k e
  if 30 < (cutL w).1.length ∨ 30 < (cutL w).2.2.length then (.bad, k) else match progR w with
    | none => (.bad, k)
    | some f => (.num f, e)
def numPw (w : List Nat) (k e : Nat) : Sy × Nat :=
  if 30 < (cutL w).1.length ∨ 30 < (cutL w).2.2.length then (.bad, k) else match progR w with
    | none => (.bad, k)
    | some f => (.num f, e)
def WorthV (H : Hp) (v : V) : Sy → Prop
  | .num f => ∃ p, v = .ref p ∧ H p = some (.tup [.int f.1, .int f.2])
  | .name x => v = vS x
  | .rel r => v = vS r
  | .sign c => v = vS [c]
  | .fin => v = vS []
  | .bad => v = vS []
def SyR (H : Hp) (p : Addr) (s : Sy) (e : Nat) : Prop := ∃ v, H p = some (.tup [.str (sortS s), v, .int (e : Int)]) ∧ WorthV H v s
theorem cut_len_le (w : List Nat) : w.length ≤ (cutL w).1.length + 1 + (cutL w).2.2.length := by
  have e := congrArg List.length (cut_at w)
  rw [List.length_append] at e
  split at e
  · rw [List.length_cons] at e
    omega
  · simp only [List.length_nil] at e
    omega
section
variable {P : Program} {w : World} {K : PySem.W.Frag} {mg : Str → Option Value} {base : Heap} {fa : Nat → Addr} {fd : Nat → FuncData}
def spSym (f : List Nat → Nat → Sy × Nat) : Sp := fun vs H Q _ => ∃ (t : List Nat) (k : Nat), vs = [vS t, .int (k : Int)] ∧ t.length ≤ 900 ∧ k < t.length ∧ ∀ p H', Same H H' → SyR H' p (f t k).1 (f t k).2 → Q (.ref p) H'
theorem ok_p_number_symbol (T : Txt K mg fa fd) : FnOk P w K mg base (L2.CX P w) 5 (fa 29) (fd 29) ["text", "at"] (spSym numP) := by
  refine T.F_p_number_symbol.okX sc_p_number_symbol (fun vs H Q E h => ?_) (fun cdv A outer s H vs Q E hr h => ?_)
  · obtain ⟨t, k, rfl, _⟩ := h
    rfl
  · obtain ⟨t, k, rfl, ht, hk, q⟩ := h
    refine ⟨_, (C8.pss_cut (ps_set (i := 2) sc_p_number_symbol.nd rfl (.inl rfl) (pe_call (ok_p_run_end T) (hr.mono (by decide)) (by rfl) T.g_p_run_end T.F_p_run_end.kp T.b_p_run_end .nil pass0 (pa_cons (pv 0) (pa_cons (pv 1) (pa_cons (pe_op op_add_str (C8.pe_gc (by rfl) T.c_DIGITS) pe_str) pa_nil)))))
      (C8.pss_cut (ps_asg (pe_m1 PySem.F.slot_str_partition PySem.F.type_str_partition mt_partition (pe_slice sl_str (pv 0) (po_some (pv 1)) (po_some (pv 2))) pe_str (by rfl) (by rfl) (by rfl)) (pg_tup (by rfl) (pgs_cons (pg_name (i := 3) sc_p_number_symbol.nd rfl (.inl rfl)) (pgs_cons (pg_name (i := 4) sc_p_number_symbol.nd rfl (.inl rfl)) (pgs_cons (pg_name (i := 5) sc_p_number_symbol.nd rfl (.inl rfl)) pgs_nil)))))
      (C8.pss_cut (ps_if (PW.pt (pw_or (pt_cmpR op_gt (pe_callB call_len_str (by rfl) T.m_len PySem.boot_len (pa_cons (pv 3) pa_nil)) (C8.pe_gc (by rfl) T.c_MOST_DIGITS) (nomark _)) (pw_or1 (pt_cmpR op_gt (pe_callB call_len_str (by rfl) T.m_len PySem.boot_len (pa_cons (pv 5) pa_nil)) (C8.pe_gc (by rfl) T.c_MOST_DIGITS) (nomark _))))) (pss_one (ps_ret (pe_tup (pa_cons pe_str (pa_cons pe_str (pa_cons (pv 1) pa_nil)))))) pss_nil)
      (C8.pss_cut (ps_set (i := 6) sc_p_number_symbol.nd rfl (.inl rfl) (pe_call (ok_p_ratio_of T) (hr.mono (by decide)) (by rfl) T.g_p_ratio_of T.F_p_ratio_of.kp T.b_p_ratio_of .nil (passes_call (takes_of rfl rfl rfl rfl) (fun _ _ _ _ h => h)) (pa_cons (pe_slice sl_str (pv 0) (po_some (pv 1)) (po_some (pv 2))) pa_nil)))
      (C8.pss_cut (ps_if (pt_cmpR op_isN (pv 6) pe_non (nomark _)) (pss_one (ps_ret (pe_tup (pa_cons pe_str (pa_cons pe_str (pa_cons (pv 1) pa_nil)))))) pss_nil)
      (pss_one (ps_ret (pe_tup (pa_cons pe_str (pa_cons (pv 6) (pa_cons (pv 2) pa_nil))))))))))), ?_⟩
    have st : (SX.S t).length = t.length := SX.S_len t
    have e1 := runL_ge numC t k
    have e2 := runL_le numC t k (by omega)
    refine ⟨fun σ H1 => H1 = H ∧ σ = [some (vS t), some (.int k), some (.int (runL numC t k : Nat)), none, none, none, none], ?_, fun σ H1 hM => ?_⟩
    · refine ⟨_, rfl, _, rfl, _, _, rfl, rfl, small_line (by decide +kernel), t, k, _, rfl, by omega, by omega, rfl, ?_⟩
      rw [numZ_fun]
      rfl
    obtain ⟨rfl, rfl⟩ := hM
    have qe : numP t k = (if 30 < (cutL (mid t k (runL numC t k))).1.length ∨ 30 < (cutL (mid t k (runL numC t k))).2.2.length then (.bad, k) else match progR (mid t k (runL numC t k)) with
      | none => (.bad, k)
      | some f => (.num f, runL numC t k)) := rfl
    rw [qe] at q
    generalize runL numC t k = e at *
    have cm : L2.cutS (SX.S t) (some (k : Int)) (some (e : Int)) = SX.S (mid t k e) := cut_mid t e1 e2
    have ml := mid_len t e1 e2
    have cl := cut_len_le (mid t k e)
    have sw : (SX.S (mid t k e)).length = (mid t k e).length := SX.S_len _
    generalize mid t k e = w0 at *
    have pt := cut_S w0
    refine ⟨fun σ H2 => Same H1 H2 ∧ σ = [some (vS t), some (.int k), some (.int e), some (vS (cutL w0).1), some (vS (if (cutL w0).2.1 then [47] else [])), some (vS (cutL w0).2.2), none], ?_, fun σ H2 hM => ?_⟩
    · have ln : w0.length ≤ 900 := by omega
      refine ⟨_, rfl, _, rfl, _, rfl, _, rfl, _, rfl, _, rfl, small_line (by omega), ?_⟩
      rw [cm]
      refine ⟨⟨_, rfl⟩, _, _, rfl, rfl, by decide +kernel, small_line (by omega), fun p hp => ?_⟩
      rw [stroke, pt]
      exact ⟨p, _, rfl, SqT.of upd_same, rfl, _, _, rfl, _, _, rfl, _, _, rfl, rfl, same_upd hp, rfl⟩
    obtain ⟨s2, rfl⟩ := hM
    have q := fun p H' (s : Same H2 H') h => q p H' (s2.trans s) h
    clear s2
    have ret : ∀ {H3 : Hp} {p : Addr}, H3 p = none → Same H2 H3 → (numPw w0 k e = (.bad, k)) → Q (.ref p) (upd H3 p (.tup [.str (Str.ofString "bad"), .str (Str.ofString ""), .int (k : Int)])) := fun {H3 p} np s3 eb => by
      refine q p _ (s3.trans (same_upd np)) ?_
      rw [show (if 30 < (cutL w0).1.length ∨ 30 < (cutL w0).2.2.length then ((.bad : Sy), k) else match progR w0 with
        | none => (.bad, k)
        | some f => (.num f, e)) = (.bad, k) from eb]
      exact ⟨_, upd_same, by rw [emptyS]; rfl⟩
    have l1 : (SX.S (cutL w0).1).length = (cutL w0).1.length := SX.S_len _
    have l2 : (SX.S (cutL w0).2.2).length = (cutL w0).2.2.length := SX.S_len _
    have c12 := cut_len w0
    have small : ∀ n : Nat, n ≤ 900 → n ≤ sizeLine := fun n h => small_line (by omega)
    refine ⟨fun σ H3 => H3 = H2 ∧ σ = [some (vS t), some (.int k), some (.int e), some (vS (cutL w0).1), some (vS (if (cutL w0).2.1 then [47] else [])), some (vS (cutL w0).2.2), none] ∧ ¬ (30 < (cutL w0).1.length ∨ 30 < (cutL w0).2.2.length), ?_, fun σ H3 hM => ?_⟩
    · refine ⟨_, rfl, _, rfl, small _ (by omega), _, _, rfl, rfl, _, rfl, ite2 (fun c => ?_) (fun c => ?_)⟩
      · have c := of_decide_eq_true c
        refine ⟨_, rfl, small_line (by show 3 ≤ 1000; decide), fun p np => ret np (Same.refl _) ?_⟩
        unfold numPw
        rw [if_pos (.inl (by omega))]
      · have c : ¬ ((30 : Int) < ((SX.S (cutL w0).1).length : Int)) := fun z => c (decide_eq_true z)
        refine ⟨_, rfl, _, rfl, small _ (by omega), _, _, rfl, rfl, _, rfl, ite2 (fun d => ?_) (fun d => ?_)⟩
        · have d := of_decide_eq_true d
          refine ⟨_, rfl, small_line (by show 3 ≤ 1000; decide), fun p np => ret np (Same.refl _) ?_⟩
          unfold numPw
          rw [if_pos (.inr (by omega))]
        · have d : ¬ ((30 : Int) < ((SX.S (cutL w0).2.2).length : Int)) := fun z => d (decide_eq_true z)
          exact ⟨rfl, rfl, by omega⟩
    obtain ⟨rfl, rfl, hs⟩ := hM
    have w61 : w0.length ≤ 61 := by omega
    -- worth
    refine ⟨fun σ H4 => Same H3 H4 ∧ ((progR w0 = none ∧ σ = [some (vS t), some (.int k), some (.int e), some (vS (cutL w0).1), some (vS (if (cutL w0).2.1 then [47] else [])), some (vS (cutL w0).2.2), some .non]) ∨ ∃ f p, progR w0 = some f ∧ H4 p = some (.tup [.int f.1, .int f.2]) ∧ σ = [some (vS t), some (.int k), some (.int e), some (vS (cutL w0).1), some (vS (if (cutL w0).2.1 then [47] else [])), some (vS (cutL w0).2.2), some (.ref p)]), ?_, fun σ H4 hM => ?_⟩
    · refine ⟨_, rfl, _, rfl, _, rfl, _, rfl, _, rfl, _, rfl, small_line (by omega), ?_⟩
      rw [cm]
      exact ⟨w0, rfl, w61, fun hn H' s' => ⟨s', .inl ⟨hn, rfl⟩⟩, fun f hf p H' s' hp => ⟨s', .inr ⟨f, p, hf, hp, rfl⟩⟩⟩
    obtain ⟨s4, h4⟩ := hM
    rcases h4 with ⟨hn, rfl⟩ | ⟨f, p, hf, hp, rfl⟩
    · refine ⟨fun _ _ => False, ?_, fun _ _ h => h.elim⟩
      refine ⟨_, rfl, rfl, _, rfl, ite2 (fun _ => ?_) (fun c => absurd (decide_eq_true rfl) c)⟩
      refine ⟨_, rfl, small_line (by show 3 ≤ 1000; decide), fun p np => ret np s4 ?_⟩
      unfold numPw
      rw [if_neg hs, hn]
    · refine ⟨fun σ H5 => H5 = H4 ∧ σ = [some (vS t), some (.int k), some (.int e), some (vS (cutL w0).1), some (vS (if (cutL w0).2.1 then [47] else [])), some (vS (cutL w0).2.2), some (.ref p)], ?_, fun σ H5 hM => ?_⟩
      · exact ⟨_, rfl, rfl, _, rfl, ite2 (fun c => absurd (of_decide_eq_true c) (by intro z; cases z)) (fun _ => ⟨rfl, rfl⟩)⟩
      obtain ⟨rfl, rfl⟩ := hM
      refine ⟨_, rfl, _, rfl, small_line (by show 3 ≤ 1000; decide), fun o no => ?_⟩
      have so := same_upd (o := .tup [.str (Str.ofString "number"), .ref p, .int (e : Int)]) no
      refine q o _ (s4.trans so) ?_
      rw [if_neg hs, hf]
      exact ⟨_, upd_same, p, rfl, so _ _ hp⟩
end
def nameP (t : List Nat) (k : Nat) : Sy × Nat :=
  if 6 < runL lowc t k - k then (.bad, k) else
    if mid t (runL lowc t k) (runL lowc t k + 1) = [39] then (.name (mid t k (runL lowc t k + 1)), runL lowc t k + 1) else (.name (mid t k (runL lowc t k)), runL lowc t k)
theorem lowZ : inZ (Str.ofString "abcdefghijklmnopqrstuvwxyz") = lowc := funext fun c => abc_mem c
section
variable {P : Program} {w : World} {K : PySem.W.Frag} {mg : Str → Option Value} {base : Heap} {fa : Nat → Addr} {fd : Nat → FuncData}
theorem ok_p_name_symbol (T : Txt K mg fa fd) : FnOk P w K mg base CX0 2 (fa 30) (fd 30) ["text", "at"] (spSym nameP) := by
  refine T.F_p_name_symbol.ok sc_p_name_symbol (fun vs H Q E h => ?_) (fun cdv A outer s H vs Q E hr h => ?_)
  · obtain ⟨t, k, rfl, _⟩ := h
    rfl
  · obtain ⟨t, k, rfl, ht, hk, q⟩ := h
    refine ⟨_, (C8.pss_cut (ps_set (i := 2) sc_p_name_symbol.nd rfl (.inl rfl) (pe_call (ok_p_run_end T) (hr.mono (by decide)) (by rfl) T.g_p_run_end T.F_p_run_end.kp T.b_p_run_end .nil pass0 (pa_cons (pv 0) (pa_cons (pv 1) (pa_cons (C8.pe_gc (by rfl) T.c_LETTERS) pa_nil)))))
      (C8.pss_cut (ps_if (pt_cmpR op_gt (pe_op op_sub (pv 2) (pv 1)) (C8.pe_gc (by rfl) T.c_MOST_LETTERS) (nomark _)) (pss_one (ps_ret (pe_tup (pa_cons pe_str (pa_cons pe_str (pa_cons (pv 1) pa_nil)))))) pss_nil)
      (C8.pss_cut (ps_if (pt_cmpR op_eq (pe_slice sl_str (pv 0) (po_some (pv 2)) (po_some (pe_op op_add (pv 2) pe_int))) pe_str (nomark _)) (pss_one (ps_aug (i := 2) sc_p_name_symbol.nd rfl (.inl rfl) pe_int ip_add)) pss_nil)
      (pss_one (ps_ret (pe_tup (pa_cons pe_str (pa_cons (pe_slice sl_str (pv 0) (po_some (pv 1)) (po_some (pv 2))) (pa_cons (pv 2) pa_nil))))))))), ?_⟩
    have st : (SX.S t).length = t.length := SX.S_len t
    have e1 := runL_ge lowc t k
    have e2 := runL_le lowc t k (by omega)
    refine ⟨fun σ H1 => H1 = H ∧ σ = [some (vS t), some (.int k), some (.int (runL lowc t k : Nat))], ?_, fun σ H1 hM => ?_⟩
    · refine ⟨_, rfl, _, rfl, t, k, _, rfl, by omega, by omega, rfl, ?_⟩
      rw [lowZ]
      rfl
    obtain ⟨rfl, rfl⟩ := hM
    unfold nameP at q
    generalize runL lowc t k = e at *
    refine ⟨fun σ H2 => H2 = H1 ∧ ¬ 6 < e - k ∧ σ = [some (vS t), some (.int k), some (.int e)], ?_, fun σ H2 hM => ?_⟩
    · refine ⟨_, rfl, _, rfl, _, _, rfl, rfl, _, _, rfl, rfl, _, rfl, ite2 (fun c => ?_) (fun c => ?_)⟩
      · have c : (6 : Int) < (e : Int) - (k : Int) := of_decide_eq_true c
        rw [if_pos (by omega)] at q
        refine ⟨_, rfl, small_line (by show 3 ≤ 1000; decide), fun p np => q p _ (same_upd np) ⟨_, upd_same, by rw [emptyS]; rfl⟩⟩
      · have c : ¬ (6 : Int) < (e : Int) - (k : Int) := fun z => c (decide_eq_true z)
        exact ⟨rfl, by omega, rfl⟩
    obtain ⟨rfl, c, rfl⟩ := hM
    rw [if_neg c] at q
    have ml := mid_le t k (e + 1)
    have ml2 := mid_le t k e
    have m1 := mid_le t e (e + 1)
    refine ⟨fun σ H3 => H3 = H2 ∧ ∃ e' : Nat, k ≤ e' ∧ (∀ p H', Same H2 H' → SyR H' p (.name (mid t k e')) e' → Q (.ref p) H') ∧ σ = [some (vS t), some (.int k), some (.int e')], ?_, fun σ H3 hM => ?_⟩
    · have cm : L2.cutS (SX.S t) (some (e : Int)) (some ((e : Int) + 1)) = SX.S (mid t e (e + 1)) := cut_mid2 t (j := e + 1) (by omega) e2
      refine ⟨_, rfl, _, rfl, _, rfl, _, rfl, _, _, rfl, rfl, _, rfl, _, rfl, small_line (by omega), ?_⟩
      rw [cm]
      refine ⟨rfl, _, rfl, ite2 (fun d => ?_) (fun d => ?_)⟩
      · have d := V.str.inj (of_decide_eq_true d)
        rw [quote8] at d
        rw [if_pos (S_inj d)] at q
        exact ⟨_, rfl, _, _, rfl, rfl, rfl, e + 1, by omega, q, rfl⟩
      · have d : mid t e (e + 1) ≠ [39] := fun z => d (decide_eq_true (by rw [z, quote8]))
        rw [if_neg d] at q
        exact ⟨rfl, e, e1, q, rfl⟩
    obtain ⟨rfl, e', ke, q, rfl⟩ := hM
    have ml3 := mid_le t k e'
    refine ⟨_, rfl, _, rfl, _, rfl, _, rfl, _, rfl, _, rfl, small_line (by omega), _, rfl, ?_⟩
    rw [show L2.cutS (SX.S t) (some (k : Int)) (some (e' : Int)) = SX.S (mid t k e') from cut_mid2 t ke (by omega)]
    exact ⟨small_line (by show 3 ≤ 1000; decide), fun p np => q p _ (same_upd np) ⟨_, upd_same, rfl⟩⟩
end
def symC (c : Nat) (t : List Nat) (k : Nat) : Sy × Nat :=
  if dig c then numP t k else if lowc c then nameP t k else if c = 43 ∨ c = 45 ∨ c = 42 then (.sign c, k + 1) else
    if c = 61 then (.rel [61], k + 1) else if mid t k (k + 2) = [60, 61] ∨ mid t k (k + 2) = [62, 61] then (.rel (mid t k (k + 2)), k + 2) else (.bad, k)
def symP (t : List Nat) (k : Nat) : Sy × Nat := symC (t.getD k 0) t k
theorem digZ : inZ (Str.ofString "0123456789") = dig := funext fun c => by
  unfold inZ dig
  rw [show (Str.ofString "0123456789").cps.toList = [48, 49, 50, 51, 52, 53, 54, 55, 56, 57] by decide +kernel, Bool.eq_iff_iff]
  simp only [decide_eq_true_eq, Bool.and_eq_true, List.mem_cons, List.not_mem_nil, or_false]
  omega
theorem sgnZ (c : Nat) : decide (c ∈ (Str.ofString "+-*").cps.toList) = decide (c = 43 ∨ c = 45 ∨ c = 42) := by
  rw [show (Str.ofString "+-*").cps.toList = [43, 45, 42] by decide +kernel, decide_eq_decide]
  simp only [List.mem_cons, List.not_mem_nil, or_false]
theorem leS : (Str.ofString "<=" : Str) = SX.S [60, 61] := by decide +kernel
theorem geS : (Str.ofString ">=" : Str) = SX.S [62, 61] := by decide +kernel
theorem eqS : (Str.ofString "=" : Str) = SX.S [61] := by decide +kernel
theorem relIn (m : List Nat) : inV (vS m) [V.str (Str.ofString "<="), .str (Str.ofString ">=")] = decide (m = [60, 61] ∨ m = [62, 61]) := by
  rw [leS, geS]
  show ((SX.S [60, 61] == SX.S m) || ((SX.S [62, 61] == SX.S m) || false)) = _
  rw [Bool.or_false, Bool.eq_iff_iff, Bool.or_eq_true, beq_iff_eq, beq_iff_eq, decide_eq_true_eq]
  constructor
  · rintro (h | h)
    · exact .inl (S_inj h).symm
    · exact .inr (S_inj h).symm
  · rintro (h | h)
    · exact .inl (by rw [h])
    · exact .inr (by rw [h])
section
variable {P : Program} {w : World} {K : PySem.W.Frag} {mg : Str → Option Value} {base : Heap} {fa : Nat → Addr} {fd : Nat → FuncData}
theorem ok_p_symbol_at (T : Txt K mg fa fd) : FnOk P w K mg base (L2.CX P w) 6 (fa 31) (fd 31) ["text", "at"] (spSym symP) := by
  refine T.F_p_symbol_at.okX sc_p_symbol_at (fun vs H Q E h => ?_) (fun cdv A outer s H vs Q E hr h => ?_)
  · obtain ⟨t, k, rfl, _⟩ := h
    rfl
  · obtain ⟨t, k, rfl, ht, hk, q⟩ := h
    refine ⟨_, (pss_cons (ps_if (pt_cmpR op_in_sign (pe_ix ix_str (pv 0) (pv 1) (fun _ _ => rfl)) (C8.pe_gc (by rfl) T.c_DIGITS) (by rfl)) (pss_one (ps_ret (pe_call (ok_p_number_symbol T) (hr.mono (by decide)) (by rfl) T.g_p_number_symbol T.F_p_number_symbol.kp T.b_p_number_symbol .nil (passes_call (takes_of rfl rfl rfl rfl) (fun _ _ _ _ h => h)) (pa_cons (pv 0) (pa_cons (pv 1) pa_nil))))) pss_nil)
      (pss_cons (ps_if (pt_cmpR op_in_sign (pe_ix ix_str (pv 0) (pv 1) (fun _ _ => rfl)) (C8.pe_gc (by rfl) T.c_LETTERS) (by rfl)) (pss_one (ps_ret (pe_call (ok_p_name_symbol T) (hr.mono (by decide)) (by rfl) T.g_p_name_symbol T.F_p_name_symbol.kp T.b_p_name_symbol .nil pass0 (pa_cons (pv 0) (pa_cons (pv 1) pa_nil))))) pss_nil)
      (pss_cons (ps_if (pt_cmpR op_in_sign (pe_ix ix_str (pv 0) (pv 1) (fun _ _ => rfl)) pe_str (by rfl)) (pss_one (ps_ret (pe_tup (pa_cons (pe_ix ix_str (pv 0) (pv 1) (fun _ _ => rfl)) (pa_cons (pe_ix ix_str (pv 0) (pv 1) (fun _ _ => rfl)) (pa_cons (pe_op op_add (pv 1) pe_int) pa_nil)))))) pss_nil)
      (pss_cons (ps_if (pt_cmpR op_eq (pe_ix ix_str (pv 0) (pv 1) (fun _ _ => rfl)) pe_str (nomark _)) (pss_one (ps_ret (pe_tup (pa_cons pe_str (pa_cons pe_str (pa_cons (pe_op op_add (pv 1) pe_int) pa_nil)))))) pss_nil)
      (pss_cons (ps_if (pt_cmpR op_in_seq (pe_slice sl_str (pv 0) (po_some (pv 1)) (po_some (pe_op op_add (pv 1) pe_int))) (pe_tup (pa_cons pe_str (pa_cons pe_str pa_nil))) (by rfl)) (pss_one (ps_ret (pe_tup (pa_cons pe_str (pa_cons (pe_slice sl_str (pv 0) (po_some (pv 1)) (po_some (pe_op op_add (pv 1) pe_int))) (pa_cons (pe_op op_add (pv 1) pe_int) pa_nil)))))) pss_nil)
      (pss_one (ps_ret (pe_tup (pa_cons pe_str (pa_cons pe_str (pa_cons (pv 1) pa_nil))))))))))), ?_⟩
    have st : (SX.S t).length = t.length := SX.S_len t
    have ge : t.getD k 0 = t[k] := by rw [List.getD_eq_getElem?_getD, List.getElem?_eq_getElem hk]; rfl
    have it : L2.atI (SX.S t).cps.toList (k : Int) = some t[k] := atI_nat (by rw [S_list]; exact List.getElem?_eq_getElem hk)
    unfold symP at q
    rw [ge] at q
    generalize t[k] = c at *
    unfold symC at q
    refine ⟨_, rfl, _, rfl, _, _, _, rfl, rfl, small_line (by omega), it, c, _, rfl, rfl, _, rfl, ?_⟩
    rw [show decide (c ∈ (Str.ofString "0123456789").cps.toList) = dig c from congrFun digZ c]
    cases h1 : dig c with
    | true =>
      rw [h1, if_pos rfl] at q
      exact iteT ⟨_, rfl, _, rfl, t, k, rfl, ht, hk, q⟩
    | false =>
      rw [h1, if_neg (by decide)] at q
      refine iteF ⟨_, rfl, _, rfl, _, _, _, rfl, rfl, small_line (by omega), it, c, _, rfl, rfl, _, rfl, ?_⟩
      rw [show decide (c ∈ (Str.ofString "abcdefghijklmnopqrstuvwxyz").cps.toList) = lowc c from congrFun lowZ c]
      cases h2 : lowc c with
      | true =>
        rw [h2, if_pos rfl] at q
        exact iteT ⟨_, rfl, _, rfl, t, k, rfl, ht, hk, q⟩
      | false =>
        rw [h2, if_neg (by decide)] at q
        refine iteF ⟨_, rfl, _, rfl, _, _, _, rfl, rfl, small_line (by omega), it, c, _, rfl, rfl, _, rfl, ?_⟩
        rw [sgnZ]
        refine ite2 (fun h3 => ?_) (fun h3 => ?_)
        · rw [if_pos (of_decide_eq_true h3)] at q
          refine ⟨_, rfl, _, rfl, _, _, _, rfl, rfl, small_line (by omega), it, _, rfl, _, rfl, _, _, _, rfl, rfl, small_line (by omega), it, _, rfl, _, _, rfl, rfl, small_line (by show 3 ≤ 1000; decide), fun p np => ?_⟩
          exact q p _ (same_upd np) ⟨_, upd_same, rfl⟩
        · rw [if_neg (fun z => h3 (decide_eq_true z))] at q
          refine ⟨_, rfl, _, rfl, _, _, _, rfl, rfl, small_line (by omega), it, rfl, _, rfl, ite2 (fun h4 => ?_) (fun h4 => ?_)⟩
          · have h4 := V.str.inj (of_decide_eq_true h4)
            rw [eqS] at h4
            have h4 : [c] = [61] := S_inj h4
            rw [if_pos (List.cons.inj h4).1] at q
            refine ⟨_, rfl, _, _, rfl, rfl, small_line (by show 3 ≤ 1000; decide), fun p np => ?_⟩
            exact q p _ (same_upd np) ⟨_, upd_same, by rw [eqS]; rfl⟩
          · have h4 : ¬ c = 61 := fun z => h4 (decide_eq_true (by rw [z, eqS]))
            rw [if_neg h4] at q
            have cm : L2.cutS (SX.S t) (some (k : Int)) (some ((k : Int) + 2)) = SX.S (mid t k (k + 2)) := cut_mid2 t (j := k + 2) (by omega) (by omega)
            have ml := mid_le t k (k + 2)
            refine ⟨_, rfl, _, rfl, _, rfl, _, rfl, _, _, rfl, rfl, _, rfl, _, rfl, small_line (by omega), ?_⟩
            rw [cm]
            refine ⟨small_line (by show 2 ≤ 1000; decide), fun p np => ⟨p, _, rfl, .inr (SqT.of upd_same), rfl, rfl, _, rfl, ?_⟩⟩
            have sp := same_upd (o := .tup [V.str (Str.ofString "<="), .str (Str.ofString ">=")]) np
            show ite (inV (vS (mid t k (k + 2))) [V.str (Str.ofString "<="), .str (Str.ofString ">=")] = true) _ _
            rw [relIn]
            refine ite2 (fun h5 => ?_) (fun h5 => ?_)
            · rw [if_pos (of_decide_eq_true h5)] at q
              refine ⟨_, rfl, _, rfl, _, rfl, _, rfl, _, _, rfl, rfl, _, rfl, _, rfl, small_line (by omega), _, rfl, _, _, rfl, rfl, ?_⟩
              rw [cm]
              exact ⟨small_line (by show 3 ≤ 1000; decide), fun o no => q o _ (sp.trans (same_upd no)) ⟨_, upd_same, rfl⟩⟩
            · rw [if_neg (fun z => h5 (decide_eq_true z))] at q
              refine ⟨_, rfl, small_line (by show 3 ≤ 1000; decide), fun o no => q o _ (sp.trans (same_upd no)) ⟨_, upd_same, by rw [emptyS]; rfl⟩⟩
end
def spc (c : Nat) : Bool := decide (c = 32)
theorem spcZ : inZ (Str.ofString " ") = spc := funext fun c => by
  unfold inZ spc
  rw [show (Str.ofString " ").cps.toList = [32] by decide +kernel, decide_eq_decide, List.mem_singleton]
def isBad : Sy → Bool
  | .bad => true
  | _ => false
theorem sort_bad (s : Sy) : decide (V.str (sortS s) = V.str (Str.ofString "bad")) = isBad s := by
  have nb : (Str.ofString "number" : Str) ≠ Str.ofString "bad" := by decide +kernel
  have ab : (Str.ofString "name" : Str) ≠ Str.ofString "bad" := by decide +kernel
  have rb : (Str.ofString "relation" : Str) ≠ Str.ofString "bad" := by decide +kernel
  have eb : (Str.ofString "end" : Str) ≠ Str.ofString "bad" := by decide +kernel
  have b3 : (Str.ofString "bad" : Str).length = 3 := by decide +kernel
  cases s with
  | num f => exact decide_eq_false (fun z => nb (V.str.inj z))
  | name x => exact decide_eq_false (fun z => ab (V.str.inj z))
  | rel r => exact decide_eq_false (fun z => rb (V.str.inj z))
  | fin => exact decide_eq_false (fun z => eb (V.str.inj z))
  | bad => exact decide_eq_true rfl
  | sign c => exact decide_eq_false (fun z => by
      have e := congrArg Str.length (V.str.inj z)
      rw [b3, show sortS (.sign c) = SX.S [c] from rfl, SX.S_len] at e
      cases e)
theorem num_le (t : List Nat) {k : Nat} (h : k < t.length) (hd : dig t[k] = true) : (numP t k).2 ≤ t.length ∧ (isBad (numP t k).1 = false → k < (numP t k).2) := by
  have e1 := runL_le numC t k (by omega)
  have e2 : k + 1 ≤ runL numC t k := by
    rw [runL_step h (by unfold numC; rw [hd]; rfl)]
    exact runL_ge _ _ _
  unfold numP
  dsimp only
  split
  · exact ⟨by show k ≤ _; omega, fun z => by cases z⟩
  · split
    · exact ⟨by show k ≤ _; omega, fun z => by cases z⟩
    · exact ⟨e1, fun _ => e2⟩
theorem name_le (t : List Nat) {k : Nat} (h : k < t.length) (hd : lowc t[k] = true) : (nameP t k).2 ≤ t.length ∧ (isBad (nameP t k).1 = false → k < (nameP t k).2) := by
  have e1 := runL_le lowc t k (by omega)
  have e2 : k + 1 ≤ runL lowc t k := by
    rw [runL_step h hd]
    exact runL_ge _ _ _
  unfold nameP
  split
  · exact ⟨by show k ≤ _; omega, fun z => by cases z⟩
  · split
    · rename_i c
      have : (mid t (runL lowc t k) (runL lowc t k + 1)).length = 1 := by rw [c]; rfl
      unfold mid at this
      rw [List.length_take, List.length_drop] at this
      exact ⟨by show _ + 1 ≤ _; omega, fun _ => by show k < _ + 1; omega⟩
    · exact ⟨e1, fun _ => e2⟩
theorem sym_le (t : List Nat) {k : Nat} (h : k < t.length) : (symP t k).2 ≤ t.length ∧ (isBad (symP t k).1 = false → k < (symP t k).2) := by
  have ge : t.getD k 0 = t[k] := by rw [List.getD_eq_getElem?_getD, List.getElem?_eq_getElem h]; rfl
  unfold symP symC
  rw [ge]
  by_cases h1 : dig t[k] = true
  · rw [if_pos h1]
    exact num_le t h h1
  · rw [if_neg h1]
    by_cases h2 : lowc t[k] = true
    · rw [if_pos h2]
      exact name_le t h h2
    · rw [if_neg h2]
      split
      · exact ⟨by show k + 1 ≤ _; omega, fun _ => by show k < k + 1; omega⟩
      · split
        · exact ⟨by show k + 1 ≤ _; omega, fun _ => by show k < k + 1; omega⟩
        · split
          · rename_i c
            have : (mid t k (k + 2)).length = 2 := by rcases c with c | c <;> (rw [c]; rfl)
            unfold mid at this
            rw [List.length_take, List.length_drop] at this
            exact ⟨by show k + 2 ≤ _; omega, fun _ => by show k < k + 2; omega⟩
          · exact ⟨by show k ≤ _; omega, fun z => by cases z⟩
def symsL : Nat → List Nat → Nat → List (Sy × Nat)
  | 0, t, _ => [(.fin, t.length)]
  | n + 1, t, k => if k < t.length then (if isBad (symP t k).1 = true then [(.bad, k)] else ((symP t k).1, k) :: symsL n t (runL spc t (symP t k).2)) else [(.fin, t.length)]
def symsOf (t : List Nat) : List (Sy × Nat) := symsL t.length t (runL spc t 0)
theorem syms_stop (n : Nat) (t : List Nat) {k : Nat} (h : t.length ≤ k) : symsL n t k = [(.fin, t.length)] := by
  cases n with
  | zero => rfl
  | succ n =>
    unfold symsL
    rw [if_neg (by omega)]
theorem isBad_eq {s : Sy} (h : isBad s = true) : s = .bad := by cases s <;> first | rfl | cases h
theorem SyR.tt {H H' : Hp} {p : Addr} {s : Sy} {e : Nat} (h : SyR H p s e) (t : TT H H') : SyR H' p s e := by
  obtain ⟨v, h1, h2⟩ := h
  refine ⟨v, t _ _ h1, ?_⟩
  cases s with
  | num f =>
    obtain ⟨q, e, h⟩ := h2
    exact ⟨q, e, t _ _ h⟩
  | name x => exact h2
  | rel r => exact h2
  | sign c => exact h2
  | fin => exact h2
  | bad => exact h2
theorem paired_mono {α β : Type} {R S : α → β → Prop} (h : ∀ a b, R a b → S a b) : ∀ {xs : List α} {ys : List β}, Paired R xs ys → Paired S xs ys
  | _, _, .nil => .nil
  | _, _, .cons r t => .cons (h _ _ r) (paired_mono h t)
theorem paired_snoc {α β : Type} {R : α → β → Prop} : ∀ {xs : List α} {ys : List β} {x : α} {y : β}, Paired R xs ys → R x y → Paired R (xs ++ [x]) (ys ++ [y])
  | _, _, _, _, .nil, h => .cons h .nil
  | _, _, _, _, .cons r t, h => .cons r (paired_snoc t h)
section
variable {P : Program} {w : World} {K : PySem.W.Frag} {mg : Str → Option Value} {base : Heap} {fa : Nat → Addr} {fd : Nat → FuncData}
def spSyms : Sp := fun vs H Q _ => ∃ t : List Nat, vs = [vS t] ∧ t.length ≤ 900 ∧ ∀ D ps H', H D = none → Same H H' → H' D = some (.lst (ps.map V.ref)) → Paired (fun p (si : Sy × Nat) => SyR H' p si.1 si.2) ps (symsOf t) → Q (.ref D) H'
theorem ok_p_symbols_of (T : Txt K mg fa fd) : FnOk P w K mg base (L2.CX P w) 7 (fa 32) (fd 32) ["text"] spSyms := by
  refine T.F_p_symbols_of.okX sc_p_symbols_of (fun vs H Q E h => ?_) (fun cdv A outer s H vs Q E hr h => ?_)
  · obtain ⟨t, rfl, _⟩ := h
    rfl
  · obtain ⟨t, rfl, ht, q⟩ := h
    refine ⟨_, (C8.pss_cut (ps_set (i := 1) sc_p_symbols_of.nd rfl (.inl rfl) (pe_lst pa_nil))
      (C8.pss_cut (ps_set (i := 2) sc_p_symbols_of.nd rfl (.inl rfl) (pe_call (ok_p_run_end T) (hr.mono (by decide)) (by rfl) T.g_p_run_end T.F_p_run_end.kp T.b_p_run_end .nil pass0 (pa_cons (pv 0) (pa_cons pe_int (pa_cons pe_str pa_nil)))))
      (C8.pss_cut (ps_while (passes_of rfl) (pt_cmpR op_lt (pv 2) (pe_callB call_len_str (by rfl) T.m_len PySem.boot_len (pa_cons (pv 0) pa_nil)) (nomark _)) (C8.pss_cut (ps_asg (pe_call (ok_p_symbol_at T) (hr.mono (by decide)) (by rfl) T.g_p_symbol_at T.F_p_symbol_at.kp T.b_p_symbol_at .nil (passes_call (takes_of rfl rfl rfl rfl) (fun _ _ _ _ h => h)) (pa_cons (pv 0) (pa_cons (pv 2) pa_nil))) (pg_tup (by rfl) (pgs_cons (pg_name (i := 3) sc_p_symbols_of.nd rfl (.inl rfl)) (pgs_cons (pg_name (i := 4) sc_p_symbols_of.nd rfl (.inl rfl)) (pgs_cons (pg_name (i := 5) sc_p_symbols_of.nd rfl (.inl rfl)) pgs_nil)))))
      (C8.pss_cut (ps_expr (pe_bm PySem.F.plainAttrs_list PySem.F.slot_list_append PySem.F.type_list_append mt_append (pv 1) (pa_cons (pe_tup (pa_cons (pv 3) (pa_cons (pv 4) (pa_cons (pv 2) pa_nil)))) pa_nil)))
      (C8.pss_cut (ps_if (pt_cmpR op_eq (pv 3) pe_str (nomark _)) (pss_one (ps_ret (pv 1))) pss_nil)
      (pss_one (ps_set (i := 2) sc_p_symbols_of.nd rfl (.inl rfl) (pe_call (ok_p_run_end T) (hr.mono (by decide)) (by rfl) T.g_p_run_end T.F_p_run_end.kp T.b_p_run_end .nil pass0 (pa_cons (pv 0) (pa_cons (pv 5) (pa_cons pe_str pa_nil))))))))))
      (C8.pss_cut (ps_expr (pe_bm PySem.F.plainAttrs_list PySem.F.slot_list_append PySem.F.type_list_append mt_append (pv 1) (pa_cons (pe_tup (pa_cons pe_str (pa_cons pe_str (pa_cons (pe_callB call_len_str (by rfl) T.m_len PySem.boot_len (pa_cons (pv 0) pa_nil)) pa_nil)))) pa_nil)))
      (pss_one (ps_ret (pv 1))))))), ?_⟩
    have st : (SX.S t).length = t.length := SX.S_len t
    refine ⟨fun σ H1 => ∃ D, H D = none ∧ Same H H1 ∧ H1 D = some (.lst []) ∧ σ = [some (vS t), some (.ref D), none, none, none, none], ⟨Nat.zero_le _, fun D nD => ⟨D, nD, same_upd nD, upd_same, rfl⟩⟩, fun σ H1 hM => ?_⟩
    obtain ⟨D, nD, s1, hD1, rfl⟩ := hM
    have e0 := runL_le spc t 0 (Nat.zero_le _)
    refine ⟨fun σ H2 => H2 = H1 ∧ σ = [some (vS t), some (.ref D), some (.int (runL spc t 0 : Nat)), none, none, none], ?_, fun σ H2 hM => ?_⟩
    · refine ⟨_, rfl, t, 0, _, rfl, by omega, Nat.zero_le _, rfl, ?_⟩
      rw [spcZ]
      rfl
    obtain ⟨rfl, rfl⟩ := hM
    refine ⟨fun σ H3 => ∃ ps dn y2 y3 y4 y5, Same H H3 ∧ H3 D = some (.lst (ps.map V.ref)) ∧ Paired (fun p (si : Sy × Nat) => SyR H3 p si.1 si.2) ps dn ∧ symsOf t = dn ++ [(.fin, t.length)] ∧ dn.length ≤ 900 ∧ σ = [some (vS t), some (.ref D), y2, y3, y4, y5], ?_, fun σ H3 hM => ?_⟩
    · refine ⟨fun m σ G => ∃ (k n : Nat) (ps : List Addr) (dn : List (Sy × Nat)) (y3 y4 y5 : Option V), m = t.length - k ∧ k ≤ t.length ∧ t.length - k ≤ n ∧ symsOf t = dn ++ symsL n t k ∧ Same H G ∧ G D = some (.lst (ps.map V.ref)) ∧ Paired (fun p (si : Sy × Nat) => SyR G p si.1 si.2) ps dn ∧ dn.length ≤ k ∧ σ = [some (vS t), some (.ref D), some (.int k), y3, y4, y5],
        ⟨_, runL spc t 0, t.length, [], [], _, _, _, rfl, e0, by omega, rfl, s1, hD1, .nil, Nat.zero_le _, rfl⟩, fun m σ G hW => ?_⟩
      obtain ⟨k, n, ps, dn, y3, y4, y5, rfl, hk, hn, he, sG, hD, hps, hdn, rfl⟩ := hW
      refine ⟨_, rfl, _, rfl, _, rfl, small_line (by omega), _, _, rfl, rfl, _, rfl, ite2 (fun c => ?_) (fun c => ?_)⟩
      · have c : (k : Int) < ((SX.S t).length : Int) := of_decide_eq_true c
        have kl : k < t.length := by omega
        obtain ⟨n, rfl⟩ : ∃ n', n = n' + 1 := ⟨n - 1, by omega⟩
        have hs : symsL (n + 1) t k = if isBad (symP t k).1 = true then [(.bad, k)] else ((symP t k).1, k) :: symsL n t (runL spc t (symP t k).2) := by
          show (if k < t.length then _ else _) = _
          rw [if_pos kl]
        rw [hs] at he
        obtain ⟨sl1, sl2⟩ := sym_le t kl
        refine ⟨fun σ' H' => ∃ m', m' < t.length - k ∧ ∃ (k' n : Nat) (ps : List Addr) (dn : List (Sy × Nat)) (y3 y4 y5 : Option V), m' = t.length - k' ∧ k' ≤ t.length ∧ t.length - k' ≤ n ∧ symsOf t = dn ++ symsL n t k' ∧ Same H H' ∧ H' D = some (.lst (ps.map V.ref)) ∧ Paired (fun p (si : Sy × Nat) => SyR H' p si.1 si.2) ps dn ∧ dn.length ≤ k' ∧ σ' = [some (vS t), some (.ref D), some (.int k'), y3, y4, y5], fun _ _ h => h, ?_⟩
        refine ⟨fun σ G1 => Same G G1 ∧ ∃ v, WorthV G1 v (symP t k).1 ∧ σ = [some (vS t), some (.ref D), some (.int k), some (.str (sortS (symP t k).1)), some v, some (.int ((symP t k).2 : Nat))], ?_, fun σ G1 hM => ?_⟩
        · refine ⟨_, rfl, _, rfl, t, k, rfl, ht, kl, fun p G1 sg hp => ?_⟩
          obtain ⟨v, h1, h2⟩ := hp
          exact ⟨p, _, rfl, SqT.of h1, rfl, _, _, rfl, _, _, rfl, _, _, rfl, rfl, sg, v, h2, rfl⟩
        obtain ⟨sg, v, hv, rfl⟩ := hM
        generalize (symP t k).1 = sy at *
        generalize (symP t k).2 = e at *
        have hDg := sg _ _ hD
        have psl : ps.length ≤ 900 := by
          have := Paired.length hps
          omega
        refine ⟨fun σ G2 => ∃ p, Same H G2 ∧ G2 D = some (.lst ((ps ++ [p]).map V.ref)) ∧ Paired (fun p (si : Sy × Nat) => SyR G2 p si.1 si.2) (ps ++ [p]) (dn ++ [(sy, k)]) ∧ σ = [some (vS t), some (.ref D), some (.int k), some (.str (sortS sy)), some v, some (.int (e : Nat))], ?_, fun σ G2 hM => ?_⟩
        · refine ⟨_, rfl, .inl ⟨rfl, _, SqL.of hDg⟩, _, rfl, _, rfl, _, rfl, small_line (by show 3 ≤ 1000; decide), fun p np => ?_⟩
          have sp := same_upd (o := .tup [.str (sortS sy), v, .int (k : Int)]) np
          have hDp := sp _ _ hDg
          refine ⟨D, _, _, rfl, rfl, hDp, by rw [List.length_map]; exact small1000 (by omega), p, ?_, ?_, ?_, rfl⟩
          · exact fun b o eb => by
              rw [upd_ne (ne_of_none eb nD)]
              exact sp _ _ (sg _ _ (sG _ _ eb))
          · rw [upd_same, List.map_append]
            rfl
          · have tt := TT.upd (zs := ps.map V.ref ++ [.ref p]) hDp
            refine paired_snoc (paired_mono (fun a b h => h.tt (((TT.of sg).trans (TT.of sp)).trans tt)) hps) ?_
            have h0 : SyR (upd G1 p (.tup [.str (sortS sy), v, .int (k : Int)])) p sy k := by
              refine ⟨v, upd_same, ?_⟩
              cases sy with
              | num f =>
                obtain ⟨q, e, h⟩ := hv
                exact ⟨q, e, sp _ _ h⟩
              | name x => exact hv
              | rel r => exact hv
              | sign c => exact hv
              | fin => exact hv
              | bad => exact hv
            exact h0.tt tt
        obtain ⟨p, sH, hD2, hps2, rfl⟩ := hM
        refine ⟨fun σ G3 => G3 = G2 ∧ isBad sy = false ∧ σ = [some (vS t), some (.ref D), some (.int k), some (.str (sortS sy)), some v, some (.int (e : Nat))], ?_, fun σ G3 hM => ?_⟩
        · refine ⟨_, rfl, rfl, _, rfl, ?_⟩
          rw [sort_bad]
          refine ite2 (fun b => ?_) (fun b => ⟨rfl, Bool.eq_false_iff.mpr b, rfl⟩)
          rw [if_pos b] at he
          rw [isBad_eq b] at hps2
          exact ⟨_, rfl, q D _ G2 nD sH hD2 (by rw [he]; exact hps2)⟩
        obtain ⟨rfl, nb, rfl⟩ := hM
        rw [nb, if_neg (by decide)] at he
        have ek := sl2 nb
        have g1 := runL_ge spc t e
        have g2 := runL_le spc t e sl1
        refine ⟨_, rfl, _, rfl, t, e, _, rfl, by omega, sl1, ?_⟩
        rw [spcZ]
        refine ⟨t.length - runL spc t e, by omega, runL spc t e, n, ps ++ [p], dn ++ [(sy, k)], some (.str (sortS sy)), some v, some (.int (e : Nat)), rfl, g2, by omega, ?_, sH, hD2, hps2, ?_, rfl⟩
        · rw [he, List.append_assoc]
          rfl
        · rw [List.length_append]
          show dn.length + 1 ≤ _
          omega
      · have c : ¬ ((k : Int) < ((SX.S t).length : Int)) := fun z => c (decide_eq_true z)
        rw [syms_stop n t (by omega)] at he
        exact ⟨ps, dn, _, _, _, _, sG, hD, hps, he, by omega, rfl⟩
    obtain ⟨ps, dn, y2, y3, y4, y5, sH, hD, hps, he, hdn, rfl⟩ := hM
    have psl : ps.length ≤ 900 := by
      have := Paired.length hps
      omega
    refine ⟨fun σ H4 => ∃ p, Same H H4 ∧ H4 D = some (.lst ((ps ++ [p]).map V.ref)) ∧ Paired (fun p (si : Sy × Nat) => SyR H4 p si.1 si.2) (ps ++ [p]) (dn ++ [(.fin, t.length)]) ∧ σ = [some (vS t), some (.ref D), y2, y3, y4, y5], ?_, fun σ H4 hM => ?_⟩
    · refine ⟨_, rfl, .inl ⟨rfl, _, SqL.of hD⟩, _, rfl, _, rfl, small_line (by omega), small_line (by show 3 ≤ 1000; decide), fun p np => ?_⟩
      rw [st]
      have sp := same_upd (o := .tup [.str (Str.ofString "end"), .str (Str.ofString ""), .int (t.length : Int)]) np
      have hDp := sp _ _ hD
      refine ⟨D, _, _, rfl, rfl, hDp, by rw [List.length_map]; exact small1000 (by omega), p, ?_, ?_, ?_, rfl⟩
      · exact fun b o eb => by
          rw [upd_ne (ne_of_none eb nD)]
          exact sp _ _ (sH _ _ eb)
      · rw [upd_same, List.map_append]
        rfl
      · have tt := TT.upd (zs := ps.map V.ref ++ [.ref p]) hDp
        refine paired_snoc (paired_mono (fun a b h => h.tt ((TT.of sp).trans tt)) hps) ?_
        exact ⟨_, tt _ _ upd_same, by rw [emptyS]; rfl⟩
    obtain ⟨p, s4, hD4, hps4, rfl⟩ := hM
    exact ⟨_, rfl, q D _ H4 nD s4 hD4 (by rw [he]; exact hps4)⟩
end
abbrev FQ := Int × Int
/-- the list of symbols at D -/
def SL (H : Hp) (D : Addr) (S : List (Sy × Nat)) : Prop := ∃ ps : List Addr, H D = some (.lst (ps.map V.ref)) ∧ Paired (fun p (si : Sy × Nat) => SyR H p si.1 si.2) ps S
theorem SL.same {H H' : Hp} {D : Addr} {S : List (Sy × Nat)} (h : SL H D S) (s : Same H H') : SL H' D S := by
  obtain ⟨ps, h1, h2⟩ := h
  exact ⟨ps, s _ _ h1, paired_mono (fun _ _ h => h.tt (TT.of s)) h2⟩
theorem paired_at {α β : Type} {R : α → β → Prop} : ∀ {xs : List α} {ys : List β} (i : Nat) {y : β}, Paired R xs ys → ys[i]? = some y → ∃ x, xs[i]? = some x ∧ R x y
  | _, _, 0, _, .cons r _, e => ⟨_, rfl, by cases e; exact r⟩
  | _, _, i + 1, _, .cons _ t, e => paired_at i t e
theorem SL.at {K : PySem.W.Frag} {H : Hp} {D : Addr} {S : List (Sy × Nat)} (h : SL H D S) {k : Nat} {s : Sy} {i : Nat} (e : S[k]? = some (s, i)) : ∃ xs p v, SqL K H D xs ∧ atI xs (k : Int) = some (.ref p) ∧ H p = some (.tup [.str (sortS s), v, .int (i : Int)]) ∧ WorthV H v s := by
  obtain ⟨ps, h1, h2⟩ := h
  obtain ⟨p, hp, v, hv1, hv2⟩ := paired_at k h2 e
  exact ⟨_, p, v, SqL.of h1, atI_nat (by rw [List.getElem?_map, hp]; rfl), hv1, hv2⟩
/-- behind a symbol that ends nothing stands another one -/
def WF (S : List (Sy × Nat)) : Prop := ∀ k s i, S[k]? = some (s, i) → isBad s = false → (∀ z, s = z → z ≠ .fin) → k + 1 < S.length
def termP (S : List (Sy × Nat)) (k : Nat) : Except Nat (List Nat × FQ × Nat) :=
  match S[k]? with
  | some (.name x, _) => .ok (x, (1, 1), k + 1)
  | some (.num f, _) => match S[k + 1]? with
    | some (.sign 42, _) => match S[k + 2]? with
      | some (.name x, _) => .ok (x, f, k + 3)
      | some (_, i) => .error i
      | none => .error 0
    | _ => .ok ([], f, k + 1)
  | some (_, i) => .error i
  | none => .error 0
def isNm : Sy → Bool
  | .name _ => true
  | _ => false
def isNu : Sy → Bool
  | .num _ => true
  | _ => false
def isSg (c : Nat) : Sy → Bool
  | .sign d => decide (d = c)
  | _ => false
theorem sort_name (s : Sy) : decide (V.str (sortS s) = V.str (Str.ofString "name")) = isNm s := by
  have nb : (Str.ofString "number" : Str) ≠ Str.ofString "name" := by decide +kernel
  have ab : (Str.ofString "bad" : Str) ≠ Str.ofString "name" := by decide +kernel
  have rb : (Str.ofString "relation" : Str) ≠ Str.ofString "name" := by decide +kernel
  have eb : (Str.ofString "end" : Str) ≠ Str.ofString "name" := by decide +kernel
  have b3 : (Str.ofString "name" : Str).length = 4 := by decide +kernel
  cases s with
  | num f => exact decide_eq_false (fun z => nb (V.str.inj z))
  | bad => exact decide_eq_false (fun z => ab (V.str.inj z))
  | rel r => exact decide_eq_false (fun z => rb (V.str.inj z))
  | fin => exact decide_eq_false (fun z => eb (V.str.inj z))
  | name x => exact decide_eq_true rfl
  | sign c => exact decide_eq_false (fun z => by
      have e := congrArg Str.length (V.str.inj z)
      rw [b3, show sortS (.sign c) = SX.S [c] from rfl, SX.S_len] at e
      cases e)
theorem sort_number (s : Sy) : decide (V.str (sortS s) = V.str (Str.ofString "number")) = isNu s := by
  have nb : (Str.ofString "name" : Str) ≠ Str.ofString "number" := by decide +kernel
  have ab : (Str.ofString "bad" : Str) ≠ Str.ofString "number" := by decide +kernel
  have rb : (Str.ofString "relation" : Str) ≠ Str.ofString "number" := by decide +kernel
  have eb : (Str.ofString "end" : Str) ≠ Str.ofString "number" := by decide +kernel
  have b3 : (Str.ofString "number" : Str).length = 6 := by decide +kernel
  cases s with
  | name f => exact decide_eq_false (fun z => nb (V.str.inj z))
  | bad => exact decide_eq_false (fun z => ab (V.str.inj z))
  | rel r => exact decide_eq_false (fun z => rb (V.str.inj z))
  | fin => exact decide_eq_false (fun z => eb (V.str.inj z))
  | num x => exact decide_eq_true rfl
  | sign c => exact decide_eq_false (fun z => by
      have e := congrArg Str.length (V.str.inj z)
      rw [b3, show sortS (.sign c) = SX.S [c] from rfl, SX.S_len] at e
      cases e)
theorem sort_sign (s : Sy) (c : Nat) : decide (V.str (sortS s) = V.str (SX.S [c])) = isSg c s := by
  have len : ∀ z : Str, z.length ≠ 1 → z ≠ SX.S [c] := fun z h e => h (by rw [e, SX.S_len]; rfl)
  cases s with
  | num f => exact decide_eq_false (fun z => len (Str.ofString "number") (by decide +kernel) (V.str.inj z))
  | name x => exact decide_eq_false (fun z => len (Str.ofString "name") (by decide +kernel) (V.str.inj z))
  | bad => exact decide_eq_false (fun z => len _ (by decide +kernel) (V.str.inj z))
  | rel r => exact decide_eq_false (fun z => len (Str.ofString "relation") (by decide +kernel) (V.str.inj z))
  | fin => exact decide_eq_false (fun z => len _ (by decide +kernel) (V.str.inj z))
  | sign d =>
    show decide (V.str (SX.S [d]) = V.str (SX.S [c])) = decide (d = c)
    rw [decide_eq_decide]
    constructor
    · intro z
      exact (List.cons.inj (S_inj (V.str.inj z))).1
    · intro z
      rw [z]
theorem starS : (Str.ofString "*" : Str) = SX.S [42] := by decide +kernel
section
variable {P : Program} {w : World} {K : PySem.W.Frag} {mg : Str → Option Value} {base : Heap} {fa : Nat → Addr} {fd : Nat → FuncData}
/-- a ParseError at i -/
def PEr (E : XK) (C : Addr) (H : Hp) (i : Nat) : Prop := ∀ d H', Same H H' → H' d = some (.xd [("tag", .str "ParseError"), ("at", .int (i : Int))]) → E (.ref C) (some d) H'
def spTerm (C : Addr) : Sp := fun vs H Q E => ∃ (D : Addr) (k : Nat) (S : List (Sy × Nat)), vs = [.ref D, .int (k : Int)] ∧ SL H D S ∧ WF S ∧ k < S.length ∧ S.length ≤ 901 ∧
  (∀ x f k', termP S k = .ok (x, f, k') → ∀ p pr H', Same H H' → H' p = some (.tup [vS x, .ref pr, .int ((k' : Nat) : Int)]) → H' pr = some (.tup [.int f.1, .int f.2]) → Q (.ref p) H') ∧
  (∀ i, termP S k = .error i → PEr E C H i)
theorem ok_p_read_term (T : Txt K mg fa fd) : FnOk P w K mg base (L2.CX P w) 3 (fa 33) (fd 33) ["symbols", "at"] (spTerm (fa 4)) := by
  refine T.F_p_read_term.okX sc_p_read_term (fun vs H Q E h => ?_) (fun cdv A outer s H vs Q E hr h => ?_)
  · obtain ⟨D, k, S, rfl, _⟩ := h
    rfl
  · obtain ⟨D, k, S, rfl, hS, hw, hk, hl, qo, qe⟩ := h
    refine ⟨_, (C8.pss_cut (ps_asg (pe_ix ix_list (pv 0) (pv 1) (fun _ _ => rfl)) (pg_tup (by rfl) (pgs_cons (pg_name (i := 2) sc_p_read_term.nd rfl (.inl rfl)) (pgs_cons (pg_name (i := 3) sc_p_read_term.nd rfl (.inl rfl)) (pgs_cons (pg_name (i := 4) sc_p_read_term.nd rfl (.inl rfl)) pgs_nil)))))
      (C8.pss_cut (ps_if (pt_cmpR op_eq (pv 2) pe_str (nomark _)) (pss_one (ps_ret (pe_tup (pa_cons (pv 3) (pa_cons (pe_tup (pa_cons pe_int (pa_cons pe_int pa_nil))) (pa_cons (pe_op op_add (pv 1) pe_int) pa_nil)))))) pss_nil)
      (C8.pss_cut (ps_if (pt_cmpR op_ne (pv 2) pe_str (nomark _)) (pss_one (ps_raise rfl (takes_of rfl rfl rfl rfl) (pmk_oex T.eParseError.oex T.eParseError.iC T.eParseError.tI (ok_ParseError T) (hr.mono (by decide)) T.bIParseError .nil pass0 (by rfl) T.eParseError.gC (pa_cons (pv 4) pa_nil)))) pss_nil)
      (C8.pss_cut (ps_if (pt_cmpR op_ne (pe_ix ix_tup (pe_ix ix_list (pv 0) (pe_op op_add (pv 1) pe_int) (fun _ _ => rfl)) pe_int (fun _ _ => rfl)) pe_str (nomark _)) (pss_one (ps_ret (pe_tup (pa_cons pe_str (pa_cons (pv 3) (pa_cons (pe_op op_add (pv 1) pe_int) pa_nil)))))) pss_nil)
      (C8.pss_cut (ps_if (pt_cmpR op_ne (pe_ix ix_tup (pe_ix ix_list (pv 0) (pe_op op_add (pv 1) pe_int) (fun _ _ => rfl)) pe_int (fun _ _ => rfl)) pe_str (nomark _)) (pss_one (ps_raise rfl (takes_of rfl rfl rfl rfl) (pmk_oex T.eParseError.oex T.eParseError.iC T.eParseError.tI (ok_ParseError T) (hr.mono (by decide)) T.bIParseError .nil pass0 (by rfl) T.eParseError.gC (pa_cons (pe_ix ix_tup (pe_ix ix_list (pv 0) (pe_op op_add (pv 1) pe_int) (fun _ _ => rfl)) pe_int (fun _ _ => rfl)) pa_nil)))) pss_nil)
      (pss_one (ps_ret (pe_tup (pa_cons (pe_ix ix_tup (pe_ix ix_list (pv 0) (pe_op op_add (pv 1) pe_int) (fun _ _ => rfl)) pe_int (fun _ _ => rfl)) (pa_cons (pv 3) (pa_cons (pe_op op_add (pv 1) pe_int) pa_nil))))))))))), ?_⟩
    obtain ⟨⟨s, i⟩, hs⟩ : ∃ si, S[k]? = some si := ⟨_, List.getElem?_eq_getElem hk⟩
    obtain ⟨xs, p, v, hq, hat, hp, hv⟩ := hS.at (K := K) hs
    refine ⟨fun σ H1 => H1 = H ∧ σ = [some (.ref D), some (.int k), some (.str (sortS s)), some v, some (.int (i : Int))], ⟨_, rfl, _, rfl, D, _, _, _, rfl, rfl, hq, hat, p, _, rfl, .inl (.inl hp), rfl, _, _, rfl, _, _, rfl, _, _, rfl, rfl, rfl, rfl⟩, fun σ H1 hM => ?_⟩
    obtain ⟨rfl, rfl⟩ := hM
    refine ⟨fun σ H2 => H2 = H1 ∧ isNm s = false ∧ σ = [some (.ref D), some (.int k), some (.str (sortS s)), some v, some (.int (i : Int))], ?_, fun σ H2 hM => ?_⟩
    · refine ⟨_, rfl, rfl, _, rfl, ?_⟩
      rw [sort_name]
      refine ite2 (fun c => ?_) (fun c => ⟨rfl, Bool.eq_false_iff.mpr c, rfl⟩)
      obtain ⟨x, rfl⟩ : ∃ x, s = .name x := by cases s <;> first | exact ⟨_, rfl⟩ | cases c
      have ev : v = vS x := hv
      subst ev
      have et : termP S k = .ok (x, (1, 1), k + 1) := by unfold termP; rw [hs]
      refine ⟨_, rfl, two_line, fun e ne => ⟨_, rfl, _, _, rfl, rfl, small_line (by show 3 ≤ 1000; decide), fun o no => ?_⟩⟩
      have se := same_upd (o := .tup [V.int 1, .int 1]) ne
      exact qo x (1, 1) (k + 1) et o e _ (se.trans (same_upd no)) upd_same (same_upd no _ _ upd_same)
    obtain ⟨rfl, nm, rfl⟩ := hM
    refine ⟨fun σ H3 => H3 = H2 ∧ isNu s = true ∧ σ = [some (.ref D), some (.int k), some (.str (sortS s)), some v, some (.int (i : Int))], ?_, fun σ H3 hM => ?_⟩
    · refine ⟨_, rfl, rfl, _, rfl, ?_⟩
      rw [sort_number]
      cases nu : isNu s with
      | true => exact iteF ⟨rfl, rfl, rfl⟩
      | false =>
        have et : termP S k = .error i := by
          unfold termP
          rw [hs]
          cases s with
          | num f => cases nu
          | name x => cases nm
          | rel r => rfl
          | sign c => rfl
          | fin => rfl
          | bad => rfl
        have qe := qe i et
        refine iteT ⟨_, rfl, ?_⟩
        refine ⟨by show 1 ≤ 1000; decide, fun a na => ⟨a, _, .int (i : Int), rfl, T.eParseError.oex, T.nParseError_at, T.eParseError.tag, upd_same, fun dx nd ne => ⟨rfl, dx, _, ?_, upd_same, ?_, ?_⟩⟩⟩
        · rw [upd_ne ne.symm, upd_same]
        · rw [upd_ne ne] at nd
          exact nd
        · have nd' : H2 dx = none := by
            rw [upd_ne ne] at nd
            exact nd
          refine qe dx _ (Same.del na nd' fun b o hb q => ?_) upd_same
          rw [upd_ne (ne_of_none q nd'), upd_ne hb, upd_ne (ne_of_none q nd'), upd_ne hb]
          exact q
    obtain ⟨rfl, nu, rfl⟩ := hM
    obtain ⟨f, rfl⟩ : ∃ f, s = .num f := by cases s <;> first | exact ⟨_, rfl⟩ | cases nu
    obtain ⟨pf, rfl, hpf⟩ : ∃ pf, v = .ref pf ∧ H3 pf = some (.tup [.int f.1, .int f.2]) := hv
    have k1 : k + 1 < S.length := hw k _ _ hs rfl (fun z e => by subst e; intro z; cases z)
    obtain ⟨⟨s1, i1⟩, hs1⟩ : ∃ si, S[k + 1]? = some si := ⟨_, List.getElem?_eq_getElem k1⟩
    obtain ⟨xs1, p1, v1, hq1, hat1, hp1, hv1⟩ := hS.at (K := K) hs1
    refine ⟨fun σ H4 => H4 = H3 ∧ isSg 42 s1 = true ∧ σ = [some (.ref D), some (.int k), some (.str (sortS (.num f))), some (.ref pf), some (.int (i : Int))], ?_, fun σ H4 hM => ?_⟩
    · refine ⟨_, rfl, _, rfl, _, _, rfl, rfl, D, _, _, _, rfl, rfl, hq1, hat1, p1, _, _, _, rfl, rfl, SqT.of hp1, rfl, rfl, _, rfl, ?_⟩
      rw [starS, sort_sign]
      cases sg : isSg 42 s1 with
      | true => exact iteF ⟨rfl, rfl, rfl⟩
      | false =>
        have et : termP S k = .ok ([], f, k + 1) := by
          unfold termP
          rw [hs]
          try dsimp only
          rw [hs1]
          split
          · rename_i h
            cases h
            cases sg
          · rfl
        refine iteT ⟨_, rfl, _, rfl, _, _, rfl, rfl, small_line (by show 3 ≤ 1000; decide), fun o no => ?_⟩
        rw [emptyS]
        exact qo [] f (k + 1) et o pf _ (same_upd no) upd_same (same_upd no _ _ hpf)
    obtain ⟨rfl, sg, rfl⟩ := hM
    obtain rfl : s1 = .sign 42 := by
      cases s1 with
      | sign c =>
        have : c = 42 := of_decide_eq_true sg
        rw [this]
      | _ => cases sg
    have k2 : k + 2 < S.length := hw (k + 1) _ _ hs1 rfl (fun z e => by subst e; intro z; cases z)
    obtain ⟨⟨s2, i2⟩, hs2⟩ : ∃ si, S[k + 2]? = some si := ⟨_, List.getElem?_eq_getElem k2⟩
    obtain ⟨xs2, p2, v2, hq2, hat2, hp2, hv2⟩ := hS.at (K := K) hs2
    refine ⟨fun σ H5 => H5 = H4 ∧ isNm s2 = true ∧ σ = [some (.ref D), some (.int k), some (.str (sortS (.num f))), some (.ref pf), some (.int (i : Int))], ?_, fun σ H5 hM => ?_⟩
    · refine ⟨_, rfl, _, rfl, _, _, rfl, rfl, D, _, _, _, rfl, rfl, hq2, hat2, p2, _, _, _, rfl, rfl, SqT.of hp2, rfl, rfl, _, rfl, ?_⟩
      rw [sort_name]
      cases nm2 : isNm s2 with
      | true => exact iteF ⟨rfl, rfl, rfl⟩
      | false =>
        have et : termP S k = .error i2 := by
          unfold termP
          rw [hs]
          try dsimp only
          rw [hs1]
          try dsimp only
          rw [hs2]
          cases s2 with
          | num f => rfl
          | name x => cases nm2
          | rel r => rfl
          | sign c => rfl
          | fin => rfl
          | bad => rfl
        have qe := qe i2 et
        refine iteT ⟨_, rfl, _, rfl, _, _, rfl, rfl, D, _, _, _, rfl, rfl, hq2, hat2, p2, _, _, _, rfl, rfl, SqT.of hp2, rfl, ?_⟩
        refine ⟨by show 1 ≤ 1000; decide, fun a na => ⟨a, _, .int (i2 : Int), rfl, T.eParseError.oex, T.nParseError_at, T.eParseError.tag, upd_same, fun dx nd ne => ⟨rfl, dx, _, ?_, upd_same, ?_, ?_⟩⟩⟩
        · rw [upd_ne ne.symm, upd_same]
        · rw [upd_ne ne] at nd
          exact nd
        · have nd' : H4 dx = none := by
            rw [upd_ne ne] at nd
            exact nd
          refine qe dx _ (Same.del na nd' fun b o hb q => ?_) upd_same
          rw [upd_ne (ne_of_none q nd'), upd_ne hb, upd_ne (ne_of_none q nd'), upd_ne hb]
          exact q
    obtain ⟨rfl, nm2, rfl⟩ := hM
    obtain ⟨x, rfl⟩ : ∃ x, s2 = .name x := by cases s2 <;> first | exact ⟨_, rfl⟩ | cases nm2
    have ev : v2 = vS x := hv2
    subst ev
    have et : termP S k = .ok (x, f, k + 3) := by
      unfold termP
      rw [hs]
      try dsimp only
      rw [hs1]
      try dsimp only
      rw [hs2]
      try rfl
    refine ⟨_, rfl, _, rfl, _, _, rfl, rfl, D, _, _, _, rfl, rfl, hq2, hat2, p2, _, _, _, rfl, rfl, SqT.of hp2, rfl, _, rfl, _, rfl, _, _, rfl, rfl, small_line (by show 3 ≤ 1000; decide), fun o no => ?_⟩
    exact qo x f (k + 3) et o pf _ (same_upd no) upd_same (same_upd no _ _ hpf)
end
/-! ### the mathematics of reduced ties -/
theorem lowT_self {u v : Int} (hv : v ≠ 0) : lowT u v * v = u * lowD u v := by
  have e1 := lowT_mul (u := u) hv
  have e2 := lowD_mul (u := u) hv
  generalize lowG u v = g at e1 e2
  generalize lowT u v = a at e1 ⊢
  generalize lowD u v = b at e2 ⊢
  subst e1 e2
  rw [← Int.mul_assoc, Int.mul_comm a g]
theorem lowG_scale (u v m : Int) (hm : m ≠ 0) : v ≠ 0 → lowG (u * m) (v * m) = lowG u v * m := fun hv => by
  have g : (Int.gcd (u * m) (v * m) : Int) = (Int.gcd u v : Int) * (m.natAbs : Int) := by
    rw [Int.gcd_mul_right]
    exact Int.natCast_mul _ _
  unfold lowG
  rw [g]
  rcases Int.lt_trichotomy m 0 with h | h | h
  · have em : (m.natAbs : Int) = -m := by omega
    rw [em, Int.mul_neg, Int.neg_neg]
    by_cases h2 : v < 0
    · have := Int.mul_pos_of_neg_of_neg h2 h
      rw [if_neg (by omega), if_pos h2, Int.neg_mul]
    · have := Int.mul_neg_of_pos_of_neg (show 0 < v by omega) h
      rw [if_pos this, if_neg h2]
  · exact absurd h hm
  · have em : (m.natAbs : Int) = m := by omega
    rw [em]
    by_cases h2 : v < 0
    · have := Int.mul_neg_of_neg_of_pos h2 h
      rw [if_pos this, if_pos h2, Int.neg_mul]
    · have := Int.mul_pos (show 0 < v by omega) h
      rw [if_neg (by omega), if_neg h2]
theorem fdiv_scale {g u m : Int} (hg : g ≠ 0) (hm : m ≠ 0) (hd : g ∣ u) : (u * m).fdiv (g * m) = u.fdiv g := by
  obtain ⟨t, rfl⟩ := hd
  have hgm : g * m ≠ 0 := Int.mul_ne_zero hg hm
  rw [Int.mul_fdiv_cancel_left _ hg, show g * t * m = g * m * t by rw [Int.mul_assoc, Int.mul_comm t m, Int.mul_assoc], Int.mul_fdiv_cancel_left _ hgm]
theorem lowT_scale {u v m : Int} (hm : m ≠ 0) (hv : v ≠ 0) : lowT (u * m) (v * m) = lowT u v := by
  unfold lowT
  rw [lowG_scale u v m hm hv]
  exact fdiv_scale (lowG_ne hv) hm (lowG_dvd_left u v)
theorem lowD_scale {u v m : Int} (hm : m ≠ 0) (hv : v ≠ 0) : lowD (u * m) (v * m) = lowD u v := by
  unfold lowD
  rw [lowG_scale u v m hm hv]
  exact fdiv_scale (lowG_ne hv) hm (lowG_dvd_right u v)
theorem lowG_one (u : Int) : lowG u 1 = 1 := by
  unfold lowG
  rw [if_neg (by decide), Int.gcd_one_right]
  rfl
theorem lowT_one (u : Int) : lowT u 1 = u := by
  unfold lowT
  rw [lowG_one, Int.fdiv_one]
theorem lowD_one (u : Int) : lowD u 1 = 1 := by
  unfold lowD
  rw [lowG_one]
  rfl
abbrev FR := Int × Int
def lowF (u v : Int) : FR := (lowT u v, lowD u v)
theorem low_cross {u v u' v' : Int} (hv : v ≠ 0) (hv' : v' ≠ 0) (h : u * v' = u' * v) : lowF u v = lowF u' v' := by
  unfold lowF
  rw [← lowT_scale hv' hv, ← lowD_scale hv' hv, h, ← lowT_scale (u := u') hv hv', ← lowD_scale (u := u') hv hv', Int.mul_comm v v']
/-- the least common denominator, as it is worked out -/
def lcmF (u : Int) : List FR → Int
  | [] => u
  | f :: r => lcmF ((u * f.2).fdiv (Int.gcd u f.2 : Nat)) r
def gcdF (L : Int) (g : Int) : List FR → Int
  | [] => g
  | f :: r => gcdF L (Int.gcd g (L.fdiv f.2 * f.1) : Nat) r
def scl (rs : List FR) : FR := lowF (lcmF 1 rs) (gcdF (lcmF 1 rs) 0 rs)
def redF (s f : FR) : FR := lowF (f.1 * s.1) (f.2 * s.2)
def gl (l : List Int) : Nat := l.foldr (fun m g => Nat.gcd m.natAbs g) 0
theorem gl_mul (A : Int) : ∀ l : List Int, gl (l.map (· * A)) = gl l * A.natAbs
  | [] => (Nat.zero_mul _).symm
  | m :: l => by
    show Nat.gcd (m * A).natAbs (gl (l.map (· * A))) = Nat.gcd m.natAbs (gl l) * A.natAbs
    rw [gl_mul A l, Int.natAbs_mul, Nat.gcd_mul_right]
theorem lcm_step {u d : Int} (hu : 0 < u) (hd : 0 < d) : 0 < (u * d).fdiv (Int.gcd u d : Nat) ∧ u ∣ (u * d).fdiv (Int.gcd u d : Nat) ∧ d ∣ (u * d).fdiv (Int.gcd u d : Nat) := by
  have gp : 0 < Int.gcd u d := gcd_pos (by omega)
  obtain ⟨a, ha⟩ := Int.gcd_dvd_left u d
  obtain ⟨b, hb⟩ := Int.gcd_dvd_right u d
  have g0 : ((Int.gcd u d : Nat) : Int) ≠ 0 := by omega
  have e : (u * d).fdiv (Int.gcd u d : Nat) = u * b := by
    rw [show u * d = ((Int.gcd u d : Nat) : Int) * (u * b) by
      rw [← Int.mul_assoc, Int.mul_comm _ u, Int.mul_assoc, ← hb]]
    exact Int.mul_fdiv_cancel_left _ g0
  have bp : 0 < b := by
    rcases Int.lt_trichotomy b 0 with h | h | h
    · have := Int.mul_neg_of_pos_of_neg (show (0 : Int) < (Int.gcd u d : Nat) by omega) h
      omega
    · rw [h, Int.mul_zero] at hb
      omega
    · exact h
  rw [e]
  refine ⟨Int.mul_pos hu bp, ⟨b, rfl⟩, ⟨a, ?_⟩⟩
  have : ((Int.gcd u d : Nat) : Int) * (u * b) = ((Int.gcd u d : Nat) : Int) * (d * a) := by
    calc ((Int.gcd u d : Nat) : Int) * (u * b) = u * (((Int.gcd u d : Nat) : Int) * b) := by rw [← Int.mul_assoc, Int.mul_comm _ u, Int.mul_assoc]
      _ = u * d := by rw [← hb]
      _ = d * u := Int.mul_comm ..
      _ = d * (((Int.gcd u d : Nat) : Int) * a) := by rw [← ha]
      _ = _ := by rw [← Int.mul_assoc, Int.mul_comm d, Int.mul_assoc]
  exact Int.eq_of_mul_eq_mul_left g0 this
theorem lcmF_ok : ∀ (rs : List FR) (u : Int), 0 < u → (∀ f ∈ rs, 0 < f.2) → 0 < lcmF u rs ∧ u ∣ lcmF u rs ∧ ∀ f ∈ rs, f.2 ∣ lcmF u rs
  | [], u, hu, _ => ⟨hu, ⟨1, (Int.mul_one u).symm⟩, fun _ h => nomatch h⟩
  | f :: r, u, hu, h => by
    have hf := h f List.mem_cons_self
    obtain ⟨h1, h2, h3⟩ := lcm_step hu hf
    obtain ⟨k1, k2, k3⟩ := lcmF_ok r _ h1 fun g hg => h g (List.mem_cons_of_mem _ hg)
    refine ⟨k1, Int.dvd_trans h2 k2, fun g hg => ?_⟩
    rcases List.mem_cons.mp hg with rfl | hg
    · exact Int.dvd_trans h3 k2
    · exact k3 g hg
theorem gcdF_gl (L : Int) : ∀ (rs : List FR) (g : Nat), gcdF L (g : Int) rs = (Nat.gcd g (gl (rs.map fun f => L.fdiv f.2 * f.1)) : Nat)
  | [], g => by
    show (g : Int) = (Nat.gcd g 0 : Nat)
    rw [Nat.gcd_zero_right]
  | f :: r, g => by
    show gcdF L (Int.gcd g (L.fdiv f.2 * f.1) : Nat) r = _
    rw [gcdF_gl L r]
    show ((Nat.gcd (Nat.gcd _ _) _ : Nat) : Int) = (Nat.gcd g (Nat.gcd _ _) : Nat)
    rw [Nat.gcd_assoc]
    rfl
theorem gl_dvd : ∀ (l : List Int) (m : Int), m ∈ l → (gl l : Int) ∣ m
  | a :: l, m, h => by
    have e1 : ((Nat.gcd a.natAbs (gl l) : Nat) : Int) ∣ a := Int.ofNat_dvd_left.mpr (Nat.gcd_dvd_left _ _)
    rcases List.mem_cons.mp h with rfl | h
    · exact e1
    · exact Int.dvd_trans (Int.natCast_dvd_natCast.mpr (Nat.gcd_dvd_right _ _)) (gl_dvd l m h)
/-- good rates -/
def RsOk (rs : List FR) : Prop := rs ≠ [] ∧ ∀ f ∈ rs, 0 < f.2 ∧ f.1 ≠ 0
theorem red_facts {rs : List FR} (h : RsOk rs) : ∃ L G : Int, 0 < L ∧ 0 < G ∧ lcmF 1 rs = L ∧ gcdF L 0 rs = G ∧ ∃ m : FR → Int, (∀ f ∈ rs, m f * G * f.2 = L * f.1) ∧ gl (rs.map m) = 1 := by
  obtain ⟨Lp, _, Ld⟩ := lcmF_ok rs 1 (by decide) fun f hf => (h.2 f hf).1
  have eG := gcdF_gl (lcmF 1 rs) rs 0
  rw [Nat.gcd_zero_left] at eG
  generalize lcmF 1 rs = L at Lp Ld eG ⊢
  have es : ∀ f ∈ rs, L.fdiv f.2 * f.1 * f.2 = L * f.1 ∧ L.fdiv f.2 * f.1 ≠ 0 := fun f hf => by
    obtain ⟨t, ht⟩ := Ld f hf
    have f0 : f.2 ≠ 0 := by have := (h.2 f hf).1; omega
    rw [ht, Int.mul_fdiv_cancel_left _ f0]
    refine ⟨by rw [Int.mul_comm f.2 t, Int.mul_right_comm], ?_⟩
    refine Int.mul_ne_zero (fun z => ?_) (h.2 f hf).2
    rw [z, Int.mul_zero] at ht
    omega
  have Gn : gl (rs.map fun f => L.fdiv f.2 * f.1) ≠ 0 := fun z => by
    obtain ⟨f, r, rfl⟩ : ∃ f r, rs = f :: r := by
      cases rs with
      | nil => exact absurd rfl h.1
      | cons f r => exact ⟨f, r, rfl⟩
    have := gl_dvd _ _ (List.mem_map_of_mem (f := fun f : FR => L.fdiv f.2 * f.1) (List.mem_cons_self (a := f) (l := r)))
    rw [z] at this
    exact (es f List.mem_cons_self).2 (Int.zero_dvd.mp this)
  refine ⟨L, gcdF L 0 rs, Lp, ?_, rfl, rfl, fun f => (L.fdiv f.2 * f.1).fdiv (gcdF L 0 rs), ?_, ?_⟩
  · rw [show gcdF L 0 rs = _ from eG]
    omega
  all_goals
    have eG : gcdF L 0 rs = _ := eG
    have dv : ∀ f ∈ rs, (L.fdiv f.2 * f.1).fdiv (gcdF L 0 rs) * gcdF L 0 rs = L.fdiv f.2 * f.1 := fun f hf => by
      have := gl_dvd _ _ (List.mem_map_of_mem (f := fun f : FR => L.fdiv f.2 * f.1) hf)
      rw [← eG] at this
      obtain ⟨t, ht⟩ := this
      rw [ht, Int.mul_fdiv_cancel_left _ (by rw [eG]; omega), Int.mul_comm]
  · intro f hf
    rw [dv f hf]
    exact (es f hf).1
  · have e2 := gl_mul (gcdF L 0 rs) (rs.map fun f => (L.fdiv f.2 * f.1).fdiv (gcdF L 0 rs))
    have cg : (rs.map fun f => (L.fdiv f.2 * f.1).fdiv (gcdF L 0 rs)).map (· * gcdF L 0 rs) = rs.map fun f => L.fdiv f.2 * f.1 := by
      rw [List.map_map]
      exact List.map_congr_left fun f hf => dv f hf
    rw [cg] at e2
    have e3 : (gcdF L 0 rs).natAbs = gl (rs.map fun f => L.fdiv f.2 * f.1) := by
      rw [eG]
      exact Int.natAbs_natCast _
    rw [e3] at e2
    have : 1 * gl (rs.map fun f => L.fdiv f.2 * f.1) = gl (rs.map fun f => (L.fdiv f.2 * f.1).fdiv (gcdF L 0 rs)) * gl (rs.map fun f => L.fdiv f.2 * f.1) := by rw [Nat.one_mul]; exact e2
    exact (Nat.eq_of_mul_eq_mul_right (by omega) this).symm
theorem cancel3 {k a b : Int} (hk : k ≠ 0) (h : k * a = k * b) : a = b := Int.eq_of_mul_eq_mul_left hk h
/-- a rate times the scale: a whole number -/
theorem redF_of {L G n d m : Int} (hL : 0 < L) (hG : 0 < G) (hd : 0 < d) (h : m * G * d = L * n) : redF (lowF L G) (n, d) = (m, 1) := by
  have e := lowT_self (u := L) (v := G) (by omega)
  have dp := lowD_pos (u := L) (v := G) (by omega)
  unfold redF lowF at *
  have := low_cross (u := n * lowT L G) (v := d * lowD L G) (u' := m) (v' := 1) (Int.mul_ne_zero (by omega) (by omega)) (by decide) ?_
  · unfold lowF at this
    rw [lowT_one, lowD_one] at this
    exact this
  · show n * lowT L G * 1 = m * (d * lowD L G)
    refine cancel3 (k := G) (by omega) ?_
    generalize lowT L G = a at *
    generalize lowD L G = b at *
    calc G * (n * a * 1) = n * (a * G) := by rw [Int.mul_one, Int.mul_comm G, Int.mul_assoc]
      _ = n * (L * b) := by rw [e]
      _ = L * n * b := by rw [← Int.mul_assoc, Int.mul_comm n L]
      _ = m * G * d * b := by rw [h]
      _ = G * (m * (d * b)) := by rw [Int.mul_comm m G, Int.mul_assoc, Int.mul_assoc]
theorem red_scaled {rs : List FR} (h : RsOk rs) {p q : Int} (hp : 0 < p) (hq : 0 < q) :
    RsOk (rs.map fun f => lowF (f.1 * p) (f.2 * q)) ∧ (∀ f ∈ rs, redF (scl (rs.map fun f => lowF (f.1 * p) (f.2 * q))) (lowF (f.1 * p) (f.2 * q)) = redF (scl rs) f) ∧
    ∀ b : FR, 0 < b.2 → redF (scl (rs.map fun f => lowF (f.1 * p) (f.2 * q))) (lowF (b.1 * p) (b.2 * q)) = redF (scl rs) b := by
  have fq : ∀ f ∈ rs, f.2 * q ≠ 0 := fun f hf => Int.mul_ne_zero (by have := (h.2 f hf).1; omega) (by omega)
  have h' : RsOk (rs.map fun f => lowF (f.1 * p) (f.2 * q)) := by
    refine ⟨fun z => h.1 (List.map_eq_nil_iff.mp z), fun g hg => ?_⟩
    obtain ⟨f, hf, rfl⟩ := List.mem_map.mp hg
    refine ⟨lowD_pos (fq f hf), fun z => ?_⟩
    have e := lowT_self (u := f.1 * p) (fq f hf)
    have z : lowT (f.1 * p) (f.2 * q) = 0 := z
    rw [z, Int.zero_mul] at e
    have dp := lowD_pos (u := f.1 * p) (fq f hf)
    exact (Int.mul_ne_zero (Int.mul_ne_zero (h.2 f hf).2 (by omega)) (by omega)) e.symm
  obtain ⟨L, G, Lp, Gp, eL, eG, m, hm, hg⟩ := red_facts h
  obtain ⟨L', G', Lp', Gp', eL', eG', m', hm', hg'⟩ := red_facts h'
  have es : scl rs = lowF L G := by unfold scl; rw [eL, eG]
  have es' : scl (rs.map fun f => lowF (f.1 * p) (f.2 * q)) = lowF L' G' := by unfold scl; rw [eL', eG']
  -- m' (G' q L) = m (L' p G)
  have key : ∀ f ∈ rs, m' (lowF (f.1 * p) (f.2 * q)) * (G' * q * L) = m f * (L' * p * G) := fun f hf => by
    have e1 := hm f hf
    have e2 := hm' _ (List.mem_map_of_mem (f := fun f : FR => lowF (f.1 * p) (f.2 * q)) hf)
    have e3 := lowT_self (u := f.1 * p) (fq f hf)
    have dp := lowD_pos (u := f.1 * p) (fq f hf)
    have fd := (h.2 f hf).1
    generalize m' (lowF (f.1 * p) (f.2 * q)) = M' at *
    change M' * G' * lowD (f.1 * p) (f.2 * q) = L' * lowT (f.1 * p) (f.2 * q) at e2
    generalize lowT (f.1 * p) (f.2 * q) = a at *
    generalize lowD (f.1 * p) (f.2 * q) = b at *
    generalize m f = M at *
    generalize f.1 = n at *
    generalize f.2 = d at *
    refine cancel3 (k := b * d) (Int.mul_ne_zero (by omega) (by omega)) ?_
    calc b * d * (M' * (G' * q * L)) = (M' * G' * b) * (d * q) * L := by ac_rfl
      _ = (L' * a) * (d * q) * L := by rw [e2]
      _ = L' * (a * (d * q)) * L := by ac_rfl
      _ = L' * (n * p * b) * L := by rw [e3]
      _ = L' * p * b * (L * n) := by ac_rfl
      _ = L' * p * b * (M * G * d) := by rw [e1]
      _ = b * d * (M * (L' * p * G)) := by ac_rfl
  have Bp : 0 < G' * q * L := Int.mul_pos (Int.mul_pos Gp' hq) Lp
  have Ap : 0 < L' * p * G := Int.mul_pos (Int.mul_pos Lp' hp) Gp
  have AB : G' * q * L = L' * p * G := by
    have g1 := gl_mul (G' * q * L) (rs.map fun f => m' (lowF (f.1 * p) (f.2 * q)))
    have g2 := gl_mul (L' * p * G) (rs.map m)
    have g3 : gl (rs.map fun f => m' (lowF (f.1 * p) (f.2 * q))) = 1 := by
      rw [List.map_map] at hg'
      exact hg'
    rw [g3, List.map_map, Nat.one_mul] at g1
    rw [hg, List.map_map, Nat.one_mul] at g2
    have g4 : rs.map ((· * (G' * q * L)) ∘ fun f => m' (lowF (f.1 * p) (f.2 * q))) = rs.map ((· * (L' * p * G)) ∘ m) := List.map_congr_left fun f hf => key f hf
    rw [g4, g2] at g1
    omega
  refine ⟨h', fun f hf => ?_, fun b hb => ?_⟩
  · have e := key f hf
    rw [AB] at e
    have e := Int.eq_of_mul_eq_mul_right (by omega) e
    rw [es, es', redF_of Lp Gp (h.2 f hf).1 (hm f hf), ← e]
    exact redF_of Lp' Gp' (lowD_pos (fq f hf)) (hm' _ (List.mem_map_of_mem (f := fun f : FR => lowF (f.1 * p) (f.2 * q)) hf))
  · rw [es, es']
    have bq : b.2 * q ≠ 0 := Int.mul_ne_zero (by omega) (by omega)
    have e3 := lowT_self (u := b.1 * p) bq
    have dp := lowD_pos (u := b.1 * p) bq
    have s1 := lowT_self (u := L) (v := G) (by omega)
    have s2 := lowT_self (u := L') (v := G') (by omega)
    have dp1 := lowD_pos (u := L) (v := G) (by omega)
    have dp2 := lowD_pos (u := L') (v := G') (by omega)
    unfold redF
    refine low_cross (Int.mul_ne_zero (show lowD (b.1 * p) (b.2 * q) ≠ 0 by omega) (show lowD L' G' ≠ 0 by omega)) (Int.mul_ne_zero (by omega) (show lowD L G ≠ 0 by omega)) ?_
    show lowT (b.1 * p) (b.2 * q) * lowT L' G' * (b.2 * lowD L G) = b.1 * lowT L G * (lowD (b.1 * p) (b.2 * q) * lowD L' G')
    generalize lowT (b.1 * p) (b.2 * q) = x at *
    generalize lowD (b.1 * p) (b.2 * q) = y at *
    generalize lowT L G = u at *
    generalize lowD L G = v at *
    generalize lowT L' G' = u' at *
    generalize lowD L' G' = v' at *
    refine cancel3 (k := q * G' * G) (Int.mul_ne_zero (Int.mul_ne_zero (by omega) (by omega)) (by omega)) ?_
    calc q * G' * G * (x * u' * (b.2 * v)) = (x * (b.2 * q)) * (u' * G') * (v * G) := by ac_rfl
      _ = (b.1 * p * y) * (L' * v') * (v * G) := by rw [e3, s2]
      _ = b.1 * y * v' * v * (L' * p * G) := by ac_rfl
      _ = b.1 * y * v' * v * (G' * q * L) := by rw [AB]
      _ = b.1 * (L * v) * y * v' * q * G' := by ac_rfl
      _ = b.1 * (u * G) * y * v' * q * G' := by rw [s1]
      _ = q * G' * G * (b.1 * u * (y * v')) := by ac_rfl
/-! ### sums of fractions -/
def addL (f g : FR) : FR := lowF (f.1 * g.2 + g.1 * f.2) (f.2 * g.2)
def subL (f g : FR) : FR := lowF (f.1 * g.2 - g.1 * f.2) (f.2 * g.2)
def mulL (f g : FR) : FR := lowF (f.1 * g.1) (f.2 * g.2)
def negF (f : FR) : FR := (-f.1, f.2)
def Nf (f : FR) : Prop := 0 < f.2 ∧ Int.gcd f.1 f.2 = 1
theorem nf_low {u v : Int} (h : v ≠ 0) : Nf (lowF u v) := ⟨lowD_pos h, low_gcd h⟩
theorem low_nf {f : FR} (h : Nf f) : lowF f.1 f.2 = f := by
  obtain ⟨a, b⟩ := low_one h.1 h.2
  unfold lowF
  rw [a, b]
theorem Nf.neg {f : FR} (h : Nf f) : Nf (negF f) := ⟨h.1, by show Int.gcd (-f.1) f.2 = 1; rw [Int.neg_gcd]; exact h.2⟩
theorem nf_01 : Nf (0, 1) := ⟨by decide, by decide⟩
theorem nf_11 : Nf (1, 1) := ⟨by decide, by decide⟩
theorem addL_nf {f g : FR} (hf : 0 < f.2) (hg : 0 < g.2) : Nf (addL f g) := nf_low (Int.mul_ne_zero (by omega) (by omega))
theorem subL_nf {f g : FR} (hf : 0 < f.2) (hg : 0 < g.2) : Nf (subL f g) := nf_low (Int.mul_ne_zero (by omega) (by omega))
theorem sub_add {a b c : FR} (ha : 0 < a.2) (hb : 0 < b.2) (hc : 0 < c.2) : addL (subL a b) (negF c) = subL a (addL b c) := by
  have v1 : a.2 * b.2 ≠ 0 := Int.mul_ne_zero (by omega) (by omega)
  have v2 : b.2 * c.2 ≠ 0 := Int.mul_ne_zero (by omega) (by omega)
  have e1 := lowT_self (u := a.1 * b.2 - b.1 * a.2) v1
  have e2 := lowT_self (u := b.1 * c.2 + c.1 * b.2) v2
  have p1 := lowD_pos (u := a.1 * b.2 - b.1 * a.2) v1
  have p2 := lowD_pos (u := b.1 * c.2 + c.1 * b.2) v2
  unfold addL subL negF
  unfold lowF at *
  dsimp only at *
  generalize lowT (a.1 * b.2 - b.1 * a.2) (a.2 * b.2) = t1 at *
  generalize lowD (a.1 * b.2 - b.1 * a.2) (a.2 * b.2) = d1 at *
  generalize lowT (b.1 * c.2 + c.1 * b.2) (b.2 * c.2) = t2 at *
  generalize lowD (b.1 * c.2 + c.1 * b.2) (b.2 * c.2) = d2 at *
  refine low_cross (Int.mul_ne_zero (by omega) (by omega)) (Int.mul_ne_zero (by omega) (by omega)) ?_
  refine Int.eq_of_mul_eq_mul_right (a := a.2 * b.2 * (b.2 * c.2)) (Int.mul_ne_zero v1 v2) ?_
  generalize a.1 = a1 at *
  generalize a.2 = a2 at *
  generalize b.1 = b1 at *
  generalize b.2 = b2 at *
  generalize c.1 = c1 at *
  generalize c.2 = c2 at *
  grind
theorem sub_zero {a : FR} (h : Nf a) : subL a (0, 1) = a := by
  unfold subL
  dsimp only
  rw [Int.mul_one, Int.zero_mul, Int.sub_zero, Int.mul_one]
  exact low_nf h
theorem lowF_neg {u v : Int} (h : v ≠ 0) : lowF (-u) v = negF (lowF u v) := by
  have n := (nf_low (u := u) h).neg
  rw [← low_nf n]
  have e := lowT_self (u := u) h
  have p := lowD_pos (u := u) h
  refine low_cross h (by show lowD u v ≠ 0; omega) ?_
  show -u * lowD u v = -lowT u v * v
  rw [Int.neg_mul, Int.neg_mul, e]
theorem sub_anti {a b : FR} (ha : 0 < a.2) (hb : 0 < b.2) : subL b a = negF (subL a b) := by
  unfold subL
  have v1 : a.2 * b.2 ≠ 0 := Int.mul_ne_zero (by omega) (by omega)
  rw [← lowF_neg v1, Int.mul_comm b.2 a.2]
  congr 1
  omega
theorem low_zero {u v : Int} (h : v ≠ 0) : (lowF u v).1 = 0 ↔ u = 0 := by
  have e := lowT_self (u := u) h
  have p := lowD_pos (u := u) h
  show lowT u v = 0 ↔ u = 0
  constructor
  · intro z
    rw [z, Int.zero_mul] at e
    rcases Int.mul_eq_zero.mp e.symm with y | y
    · exact y
    · omega
  · intro z
    subst z
    rw [Int.zero_mul] at e
    rcases Int.mul_eq_zero.mp e with y | y
    · exact y
    · exact absurd y h
theorem neg_neg {f : FR} : negF (negF f) = f := by
  unfold negF
  rw [Int.neg_neg]
/-- the rate of a name in a list of rates -/
abbrev It := List Nat × FR
def sumX (x : List Nat) (acc : FR) (l : List It) : FR := l.foldl (fun a it => if it.1 = x then addL a it.2 else a) acc
theorem sumX_nf (x : List Nat) : ∀ (l : List It) (acc : FR), Nf acc → (∀ it ∈ l, Nf it.2) → Nf (sumX x acc l)
  | [], _, h, _ => h
  | it :: l, acc, h, hl => by
    refine sumX_nf x l _ ?_ fun i hi => hl i (List.mem_cons_of_mem _ hi)
    show Nf (if it.1 = x then addL acc it.2 else acc)
    split
    · exact addL_nf h.1 (hl it List.mem_cons_self).1
    · exact h
theorem sumX_sub (x : List Nat) (a : FR) (ha : Nf a) : ∀ (l : List It) (b : FR), Nf b → (∀ it ∈ l, Nf it.2) → sumX x (subL a b) (l.map fun it => (it.1, negF it.2)) = subL a (sumX x b l)
  | [], _, _, _ => rfl
  | it :: l, b, hb, hl => by
    have h1 := hl it List.mem_cons_self
    have ih := fun b hb => sumX_sub x a ha l b hb fun i hi => hl i (List.mem_cons_of_mem _ hi)
    show sumX x (if it.1 = x then addL (subL a b) (negF it.2) else subL a b) _ = subL a (sumX x (if it.1 = x then addL b it.2 else b) l)
    split
    · rw [sub_add ha.1 hb.1 h1.1]
      exact ih _ (addL_nf hb.1 h1.1)
    · exact ih _ hb
theorem sumX_app (x : List Nat) (acc : FR) (l r : List It) : sumX x acc (l ++ r) = sumX x (sumX x acc l) r := List.foldl_append
theorem sumX_law (x : List Nat) {l r : List It} (hl : ∀ it ∈ l, Nf it.2) (hr : ∀ it ∈ r, Nf it.2) : sumX x (0, 1) (l ++ r.map fun it => (it.1, negF it.2)) = subL (sumX x (0, 1) l) (sumX x (0, 1) r) := by
  have h := sumX_nf x l (0, 1) nf_01 hl
  rw [sumX_app, ← sumX_sub x _ h r _ nf_01 hr, sub_zero h]
theorem sumX_none (x : List Nat) : ∀ (l : List It) (acc : FR), (∀ it ∈ l, it.1 ≠ x) → sumX x acc l = acc
  | [], _, _ => rfl
  | it :: l, acc, h => by
    show sumX x (if it.1 = x then _ else acc) l = acc
    rw [if_neg (h it List.mem_cons_self)]
    exact sumX_none x l acc fun i hi => h i (List.mem_cons_of_mem _ hi)
/-! ### sizes -/
def Bn (k : Nat) (f : FR) : Prop := f.1.natAbs < 2 ^ k ∧ f.2.natAbs < 2 ^ k
theorem Bn.mono {k j : Nat} {f : FR} (h : Bn k f) (l : k ≤ j) : Bn j f := ⟨Nat.lt_of_lt_of_le h.1 (Nat.pow_le_pow_right (by decide) l), Nat.lt_of_lt_of_le h.2 (Nat.pow_le_pow_right (by decide) l)⟩
theorem Bn.low {k : Nat} {u v : Int} (h : v ≠ 0) (h1 : u.natAbs < 2 ^ k) (h2 : v.natAbs < 2 ^ k) : Bn k (lowF u v) :=
  ⟨Nat.lt_of_le_of_lt (lowT_abs h) h1, Nat.lt_of_le_of_lt (lowD_abs h) h2⟩
theorem pow_mul_lt {k j a b : Nat} (h1 : a < 2 ^ k) (h2 : b < 2 ^ j) : a * b < 2 ^ (k + j) := by
  rw [Nat.pow_add]
  exact Nat.mul_lt_mul'' h1 h2
theorem Bn.add {k j : Nat} {f g : FR} (hf : Bn k f) (hg : Bn j g) (pf : 0 < f.2) (pg : 0 < g.2) : Bn (k + j + 1) (addL f g) := by
  refine Bn.low (Int.mul_ne_zero (by omega) (by omega)) ?_ ?_
  · have h1 : (f.1 * g.2).natAbs < 2 ^ (k + j) := by rw [Int.natAbs_mul]; exact pow_mul_lt hf.1 hg.2
    have h2 : (g.1 * f.2).natAbs < 2 ^ (k + j) := by rw [Int.natAbs_mul, Nat.mul_comm]; exact pow_mul_lt hf.2 hg.1
    have := Int.natAbs_add_le (f.1 * g.2) (g.1 * f.2)
    rw [Nat.pow_succ]
    omega
  · have h1 : (f.2 * g.2).natAbs < 2 ^ (k + j) := by rw [Int.natAbs_mul]; exact pow_mul_lt hf.2 hg.2
    rw [Nat.pow_succ]
    omega
theorem Bn.sub {k j : Nat} {f g : FR} (hf : Bn k f) (hg : Bn j g) (pf : 0 < f.2) (pg : 0 < g.2) : Bn (k + j + 1) (subL f g) := by
  refine Bn.low (Int.mul_ne_zero (by omega) (by omega)) ?_ ?_
  · have h1 : (f.1 * g.2).natAbs < 2 ^ (k + j) := by rw [Int.natAbs_mul]; exact pow_mul_lt hf.1 hg.2
    have h2 : (g.1 * f.2).natAbs < 2 ^ (k + j) := by rw [Int.natAbs_mul, Nat.mul_comm]; exact pow_mul_lt hf.2 hg.1
    have := Int.natAbs_sub_le (f.1 * g.2) (g.1 * f.2)
    rw [Nat.pow_succ]
    omega
  · have h1 : (f.2 * g.2).natAbs < 2 ^ (k + j) := by rw [Int.natAbs_mul]; exact pow_mul_lt hf.2 hg.2
    rw [Nat.pow_succ]
    omega
theorem Bn.mul {k j : Nat} {f g : FR} (hf : Bn k f) (hg : Bn j g) (pf : 0 < f.2) (pg : 0 < g.2) : Bn (k + j) (mulL f g) :=
  Bn.low (Int.mul_ne_zero (by omega) (by omega)) (by rw [Int.natAbs_mul]; exact pow_mul_lt hf.1 hg.1) (by rw [Int.natAbs_mul]; exact pow_mul_lt hf.2 hg.2)
theorem Bn.neg {k : Nat} {f : FR} (h : Bn k f) : Bn k (negF f) := ⟨by show (-f.1).natAbs < _; rw [Int.natAbs_neg]; exact h.1, h.2⟩
def bw (f : FR) : Nat := f.1.natAbs.log2 + f.2.natAbs.log2 + 1
theorem bw_bn (f : FR) : Bn (bw f) f := by
  have key : ∀ n : Nat, n < 2 ^ (n.log2 + 1) := fun n => Nat.lt_log2_self
  exact ⟨Nat.lt_of_lt_of_le (key _) (Nat.pow_le_pow_right (by decide) (by unfold bw; omega)), Nat.lt_of_lt_of_le (key _) (Nat.pow_le_pow_right (by decide) (by unfold bw; omega))⟩
def wIt (l : List It) : Nat := (l.map fun it => bw it.2 + 1).sum
theorem sumX_bn (x : List Nat) : ∀ (l : List It) (acc : FR) (k : Nat), Nf acc → Bn k acc → (∀ it ∈ l, Nf it.2) → Bn (k + wIt l) (sumX x acc l)
  | [], _, _, _, h, _ => h
  | it :: l, acc, k, hn, h, hl => by
    have h1 := hl it List.mem_cons_self
    have e : k + wIt (it :: l) = k + bw it.2 + 1 + wIt l := by
      unfold wIt
      rw [List.map_cons, List.sum_cons]
      omega
    rw [e]
    show Bn _ (sumX x (if it.1 = x then addL acc it.2 else acc) l)
    have hl' : ∀ i ∈ l, Nf i.2 := fun i hi => hl i (List.mem_cons_of_mem _ hi)
    split
    · exact sumX_bn x l _ _ (addL_nf hn.1 h1.1) (Bn.add h (bw_bn _) hn.1 h1.1) hl'
    · exact sumX_bn x l _ _ hn (h.mono (by omega)) hl'
theorem bn_01 : Bn 1 (0, 1) := ⟨by decide, by decide⟩
theorem log_bn {k : Nat} {z : Int} (h : z.natAbs < 2 ^ k) (hk : k ≤ 4096) : z.natAbs.log2 < 4096 ∨ z = 0 := by
  by_cases h0 : z.natAbs = 0
  · exact .inr (by omega)
  · exact .inl ((Nat.log2_lt h0).mpr (Nat.lt_of_lt_of_le h (Nat.pow_le_pow_right (by decide) hk)))
theorem log_lt {k : Nat} {n : Nat} (h : n < 2 ^ k) (hk : 0 < k) : n.log2 < k := by
  by_cases h0 : n = 0
  · rw [h0, Nat.log2_zero]
    exact hk
  · exact (Nat.log2_lt h0).mpr h
/-! ### what lists of symbols are like -/
def wSy : Sy → Nat
  | .num f => bw f + 1
  | .name _ => 2
  | _ => 0
def pm (c : Nat) : Bool := decide (c = 43 ∨ c = 45)
def isPm : Sy → Bool
  | .sign c => pm c
  | _ => false
def isFin : Sy → Bool
  | .fin => true
  | _ => false
def NumOk : Sy → Prop
  | .num f => Nf f ∧ 0 ≤ f.1
  | .name x => 0 < x.length ∧ x.length ≤ 7
  | _ => True
def wS (S : List (Sy × Nat)) : Nat := (S.map fun s => wSy s.1).sum
def cS (S : List (Sy × Nat)) : Nat := S.countP fun s => isPm s.1
def cT (t : List Nat) (k : Nat) : Nat := (t.drop k).countP pm
theorem num_lt (n : Nat) : n.log2 < 4 * (TL.numL n).length := by
  have a : NumText.AllDigits (TL.numL n) := (isD_iff.mp (isD_num n)).2
  have v := val_lt a
  have e : NumText.digitsVal (TL.numL n) = n := TL.numL_val n
  rw [e] at v
  have h0 : 0 < (TL.numL n).length := List.length_pos_iff.mpr (isD_iff.mp (isD_num n)).1
  refine log_lt ?_ (by omega)
  refine Nat.lt_of_lt_of_le v ?_
  rw [Nat.pow_mul]
  exact Nat.pow_le_pow_left (by decide) _
theorem num_w {w : List Nat} {f : FR} (h : progR w = some f) : bw f + 1 ≤ 5 * w.length := by
  obtain ⟨e, hd, _⟩ := prog_some h
  have h1 := num_lt f.1.natAbs
  have h2 := num_lt f.2.natAbs
  have l : w.length = (if f.1 < 0 then [45] else ([] : List Nat)).length + ((TL.numL f.1.natAbs).length + (if f.2 = 1 then ([] : List Nat) else 47 :: TL.numL f.2.natAbs).length) := by
    rw [e]
    unfold txtL
    rw [List.length_append, List.length_append]
  unfold bw
  by_cases c : f.2 = 1
  · rw [if_pos c] at l
    have : f.2.natAbs.log2 = 0 := by rw [c]; decide
    have p : 0 < (TL.numL f.1.natAbs).length := List.length_pos_iff.mpr (isD_iff.mp (isD_num _)).1
    simp only [List.length_nil] at l
    omega
  · rw [if_neg c] at l
    simp only [List.length_cons] at l
    omega
theorem num_nn {w : List Nat} {f : FR} (h : progR w = some f) {c : Nat} {r : List Nat} (hw : w = c :: r) (hc : dig c = true) : 0 ≤ f.1 := by
  obtain ⟨e, _, _⟩ := prog_some h
  rw [hw] at e
  unfold txtL at e
  by_cases z : f.1 < 0
  · rw [if_pos z] at e
    have e1 : c = 45 := (List.cons.inj e).1
    rw [e1] at hc
    exact absurd hc (by decide)
  · omega
theorem mid_head (t : List Nat) {k e : Nat} (h : k < t.length) (he : k < e) : ∃ r, mid t k e = t[k] :: r := by
  unfold mid
  rw [List.drop_eq_getElem_cons h, show e - k = (e - k - 1) + 1 by omega, List.take_succ_cons]
  exact ⟨_, rfl⟩
theorem cT_le (t : List Nat) {k e : Nat} (h : k ≤ e) : cT t e ≤ cT t k := by
  unfold cT
  rw [show t.drop e = (t.drop k).drop (e - k) by rw [List.drop_drop]; congr 1; omega]
  exact List.Sublist.countP_le (List.drop_sublist _ _)
theorem symP_ok (t : List Nat) {k : Nat} (h : k < t.length) (hb : isBad (symP t k).1 = false) :
    isFin (symP t k).1 = false ∧ NumOk (symP t k).1 ∧ wSy (symP t k).1 + 5 * k ≤ 5 * (symP t k).2 ∧ (if isPm (symP t k).1 then 1 else 0) + cT t (symP t k).2 ≤ cT t k := by
  obtain ⟨hl, hk⟩ := sym_le t h
  have hk := hk hb
  have ge : t.getD k 0 = t[k] := by rw [List.getD_eq_getElem?_getD, List.getElem?_eq_getElem h]; rfl
  have cl := cT_le t (Nat.le_of_lt hk)
  have e : symP t k = symC t[k] t k := by unfold symP; rw [ge]
  generalize hr : symP t k = r at *
  have e := e.symm
  clear hr
  unfold symC at e
  split at e
  · rename_i h1
    unfold numP at e
    dsimp only at e
    split at e
    · subst e
      cases hb
    · split at e
      · subst e
        cases hb
      · rename_i f hf
        subst e
        have e2 := runL_le numC t k (by omega)
        have hw := num_w hf
        have hk : k < runL numC t k := hk
        rw [mid_len t (Nat.le_of_lt hk) e2] at hw
        obtain ⟨r, hr⟩ := mid_head t h hk
        refine ⟨rfl, ⟨⟨(prog_some hf).2.1, (prog_some hf).2.2⟩, num_nn hf hr h1⟩, by show bw f + 1 + 5 * k ≤ 5 * runL numC t k; omega, ?_⟩
        show 0 + _ ≤ _
        rw [Nat.zero_add]
        exact cl
  · split at e
    · unfold nameP at e
      split at e
      · subst e
        cases hb
      · rename_i n6
        split at e
        · subst e
          have hk : k < runL lowc t k + 1 := hk
          have e1 := runL_ge lowc t k
          have ml := mid_len t (i := k) (j := runL lowc t k + 1) (by omega) hl
          exact ⟨rfl, ⟨by rw [ml]; omega, by rw [ml]; omega⟩, by show 2 + 5 * k ≤ 5 * (_ + 1); omega, by show 0 + _ ≤ _; rw [Nat.zero_add]; exact cl⟩
        · subst e
          have hk : k < runL lowc t k := hk
          have ml := mid_len t (i := k) (j := runL lowc t k) (by omega) hl
          exact ⟨rfl, ⟨by rw [ml]; omega, by rw [ml]; omega⟩, by show 2 + 5 * k ≤ 5 * _; omega, by show 0 + _ ≤ _; rw [Nat.zero_add]; exact cl⟩
    · split at e
      · subst e
        refine ⟨rfl, trivial, by show 0 + 5 * k ≤ 5 * (k + 1); omega, ?_⟩
        show (if pm t[k] then 1 else 0) + cT t (k + 1) ≤ cT t k
        unfold cT
        rw [List.drop_eq_getElem_cons h, List.countP_cons]
        exact Nat.le_of_eq (Nat.add_comm _ _)
      · split at e
        · subst e
          exact ⟨rfl, trivial, by show 0 + 5 * k ≤ 5 * (k + 1); omega, by show 0 + _ ≤ _; rw [Nat.zero_add]; exact cl⟩
        · split at e
          · subst e
            exact ⟨rfl, trivial, by show 0 + 5 * k ≤ 5 * (k + 2); omega, by show 0 + _ ≤ _; rw [Nat.zero_add]; exact cl⟩
          · subst e
            cases hb
/-- a list of symbols: the last one ends it -/
structure SyL (S : List (Sy × Nat)) (w c : Nat) : Prop where
  ends : ∃ dn z i, S = dn ++ [(z, i)] ∧ (isFin z = true ∨ isBad z = true) ∧ ∀ e ∈ dn, isFin e.1 = false ∧ isBad e.1 = false
  nums : ∀ e ∈ S, NumOk e.1
  wt : wS S ≤ w
  ct : cS S ≤ c
theorem symsL_ok (t : List Nat) : ∀ (n k : Nat), k ≤ t.length → SyL (symsL n t k) (5 * (t.length - k)) (cT t k)
  | 0, k, h => ⟨⟨[], .fin, _, rfl, .inl rfl, fun e h => by cases h⟩, fun e h => by rw [List.mem_singleton.mp h]; trivial, Nat.zero_le _, Nat.zero_le _⟩
  | n + 1, k, h => by
    unfold symsL
    split
    · rename_i hk
      split
      · exact ⟨⟨[], .bad, k, rfl, .inr rfl, fun e h => by cases h⟩, fun e h => by rw [List.mem_singleton.mp h]; trivial, Nat.zero_le _, Nat.zero_le _⟩
      · rename_i nb
        have nb := Bool.eq_false_iff.mpr nb
        obtain ⟨h1, h2, h3, h4⟩ := symP_ok t hk nb
        have e2 := (sym_le t hk).1
        have e3 := runL_ge spc t (symP t k).2
        have e4 := runL_le spc t _ e2
        have ih := symsL_ok t n _ e4
        have c2 := cT_le t e3
        refine ⟨?_, ?_, ?_, ?_⟩
        · obtain ⟨dn, z, i, e, hz, hd⟩ := ih.ends
          refine ⟨((symP t k).1, k) :: dn, z, i, by rw [e]; rfl, hz, fun e he => ?_⟩
          rcases List.mem_cons.mp he with rfl | he
          · exact ⟨h1, nb⟩
          · exact hd e he
        · intro e he
          rcases List.mem_cons.mp he with rfl | he
          · exact h2
          · exact ih.nums e he
        · have := ih.wt
          unfold wS at *
          rw [List.map_cons, List.sum_cons]
          show wSy (symP t k).1 + _ ≤ _
          omega
        · have := ih.ct
          unfold cS at *
          rw [List.countP_cons]
          show _ + (if isPm (symP t k).1 then 1 else 0) ≤ _
          omega
    · exact ⟨⟨[], .fin, _, rfl, .inl rfl, fun e h => by cases h⟩, fun e h => by rw [List.mem_singleton.mp h]; trivial, Nat.zero_le _, Nat.zero_le _⟩
theorem symsOf_ok (t : List Nat) : SyL (symsOf t) (5 * t.length) (cT t 0) := by
  have h := symsL_ok t t.length _ (runL_le spc t 0 (Nat.zero_le _))
  have c := cT_le t (runL_ge spc t 0)
  exact ⟨h.ends, h.nums, Nat.le_trans h.wt (by omega), Nat.le_trans h.ct c⟩
theorem SyL.wf {S : List (Sy × Nat)} {w c : Nat} (h : SyL S w c) : WF S := by
  obtain ⟨dn, z, i, rfl, hz, hd⟩ := h.ends
  intro k s j hs nb nf
  have hk := (List.getElem?_eq_some_iff.mp hs).1
  rw [List.length_append] at hk ⊢
  simp only [List.length_cons, List.length_nil] at *
  by_cases e : k = dn.length
  · subst e
    rw [List.getElem?_append_right (Nat.le_refl _), Nat.sub_self] at hs
    cases hs
    rcases hz with hz | hz
    · cases z with
      | fin => exact absurd rfl (nf _ rfl)
      | _ => cases hz
    · rw [hz] at nb
      cases nb
  · omega
theorem SyL.pos {S : List (Sy × Nat)} {w c : Nat} (h : SyL S w c) : 0 < S.length := by
  obtain ⟨dn, z, i, rfl, _⟩ := h.ends
  simp
theorem symsL_len (t : List Nat) : ∀ (n k : Nat), (symsL n t k).length ≤ n + 1
  | 0, _ => Nat.le_refl _
  | n + 1, k => by
    unfold symsL
    split
    · split
      · exact Nat.succ_le_succ (Nat.zero_le _)
      · exact Nat.succ_le_succ (symsL_len t n _)
    · exact Nat.succ_le_succ (Nat.zero_le _)
section
variable {P : Program} {w : World} {K : PySem.W.Frag} {mg : Str → Option Value} {base : Heap} {fa : Nat → Addr} {fd : Nat → FuncData}
/-! ### fractions, with numbers of any sort -/
theorem ok_p_ratio0 (T : Txt K mg fa fd) : FnOk P w K mg base CX0 3 (fa 14) (fd 14) ["top", "under"] spLow := by
  refine T.F_p_ratio.ok sc_p_ratio (fun vs H Q E h => ?_) (fun cdv A outer s H vs Q E hr h => ?_)
  · obtain ⟨x, y, rfl, _⟩ := h
    rfl
  · obtain ⟨u, v, rfl, ev, h9, q⟩ := h
    refine ⟨_, (pss_cons (ps_if (pt_cmpR op_eq (pv 1) pe_int (nomark _)) (pss_one ps_never) pss_nil)
      (pss_cons (ps_set (i := 2) sc_p_ratio.nd rfl (.inl rfl) (pe_call (ok_p_common_divisor T) (hr.mono (by decide)) (by rfl) T.g_p_common_divisor T.F_p_common_divisor.kp T.b_p_common_divisor .nil pass0 (pa_cons (pv 0) (pa_cons (pv 1) pa_nil))))
      (C8.pss_cut (ps_if (pt_cmpR op_lt (pv 1) pe_int (nomark _)) (pss_one (ps_set (i := 2) sc_p_ratio.nd rfl (.inl rfl) (pe_un un_neg (pv 2)))) pss_nil)
      (pss_one (ps_ret (pe_tup (pa_cons (pe_op op_fdivG (pv 0) (pv 2)) (pa_cons (pe_op op_fdivG (pv 1) (pv 2)) pa_nil)))))))), ?_⟩
    refine ⟨_, rfl, rfl, _, rfl, ite2 (fun e => absurd (V.int.inj (of_decide_eq_true e)) ev) (fun _ => ?_)⟩
    refine ⟨_, rfl, _, rfl, u, v, rfl, .inr h9, ?_⟩
    refine ⟨fun σ H1 => H1 = H ∧ σ = [some (.int u), some (.int v), some (.int (lowG u v))], ?_, fun σ H1 hM => ?_⟩
    · refine ⟨_, rfl, _, _, rfl, rfl, _, rfl, ite2 (fun e => ?_) (fun e => ?_)⟩
      · refine ⟨_, rfl, _, rfl, rfl, ?_⟩
        unfold lowG
        rw [if_pos (of_decide_eq_true e)]
        rfl
      · refine ⟨rfl, ?_⟩
        unfold lowG
        rw [if_neg (fun z => e (decide_eq_true z))]
        rfl
    · obtain ⟨rfl, rfl⟩ := hM
      have hG := lowG_ok (u := u) ev h9
      exact ⟨_, rfl, _, rfl, _, _, rfl, rfl, hG, _, rfl, _, rfl, _, _, rfl, rfl, hG, two_line, q⟩
theorem t0 {x y : V} : atI [x, y] 0 = some x := rfl
theorem t1 {x y : V} : atI [x, y] 1 = some y := rfl
abbrev FrK (K : PySem.W.Frag) (H : Hp) (p : Addr) (f : FR) : Prop := SqT K H p [.int f.1, .int f.2]
abbrev trF (f : FR) : HO := .tup [.int f.1, .int f.2]
theorem wide {k : Nat} {f g : FR} {x y : Int} (hk : k ≤ 2048) (h1 : x.natAbs < 2 ^ k) (h2 : y.natAbs < 2 ^ k) : CMulW x y := by
  have a := log_lt (n := x.natAbs) (k := 2048) (Nat.lt_of_lt_of_le h1 (Nat.pow_le_pow_right (by decide) hk)) (by decide)
  have b := log_lt (n := y.natAbs) (k := 2048) (Nat.lt_of_lt_of_le h2 (Nat.pow_le_pow_right (by decide) hk)) (by decide)
  show _ + _ < 1000000
  omega
theorem den9 {k : Nat} {x y : Int} (hk : k ≤ 2048) (h1 : x.natAbs < 2 ^ k) (h2 : y.natAbs < 2 ^ k) : (x * y).natAbs.log2 < 4096 := by
  rw [Int.natAbs_mul]
  exact log_lt (Nat.lt_of_lt_of_le (pow_mul_lt h1 h2) (Nat.pow_le_pow_right (by decide) (by omega))) (by decide)
def spBn (K : PySem.W.Frag) (G : FR → FR → FR) : Sp := fun vs H Q _ => ∃ (p q : Addr) (f g : FR), vs = [.ref p, .ref q] ∧ FrK K H p f ∧ FrK K H q g ∧ 0 < f.2 ∧ 0 < g.2 ∧ Bn 2048 f ∧ Bn 2048 g ∧ ∀ o, H o = none → Q (.ref o) (upd H o (trF (G f g)))
theorem ok_p_add (T : Txt K mg fa fd) : FnOk P w K mg base CX0 4 (fa 15) (fd 15) ["one", "other"] (spBn K addL) := by
  refine T.F_p_add.ok sc_p_add (fun vs H Q E h => ?_) (fun cdv A outer s H vs Q E hr h => ?_)
  · obtain ⟨p, q, f, g, rfl, _⟩ := h
    rfl
  · obtain ⟨p, r, f, g, rfl, hp, hr', pf, pg, sf, sg, q⟩ := h
    refine ⟨_, (pss_one (ps_ret (pe_call (ok_p_ratio0 T) (hr.mono (by decide)) (by rfl) T.g_p_ratio T.F_p_ratio.kp T.b_p_ratio .nil pass0 (pa_cons (pe_op op_add (pe_op op_mulW (pe_ix ix_tup (pv 0) pe_int (fun _ _ => rfl)) (pe_ix ix_tup (pv 1) pe_int (fun _ _ => rfl))) (pe_op op_mulW (pe_ix ix_tup (pv 1) pe_int (fun _ _ => rfl)) (pe_ix ix_tup (pv 0) pe_int (fun _ _ => rfl)))) (pa_cons (pe_op op_mulW (pe_ix ix_tup (pv 0) pe_int (fun _ _ => rfl)) (pe_ix ix_tup (pv 1) pe_int (fun _ _ => rfl))) pa_nil))))), ?_⟩
    exact ⟨_, rfl, p, _, _, _, rfl, rfl, hp, t0, _, rfl, r, _, _, _, rfl, rfl, hr', t1, _, _, rfl, rfl, wide (f := f) (g := g) (Nat.le_refl _) sf.1 sg.2,
      _, rfl, r, _, _, _, rfl, rfl, hr', t0, _, rfl, p, _, _, _, rfl, rfl, hp, t1, _, _, rfl, rfl, wide (f := f) (g := g) (Nat.le_refl _) sg.1 sf.2, _, _, rfl, rfl,
      _, rfl, p, _, _, _, rfl, rfl, hp, t1, _, rfl, r, _, _, _, rfl, rfl, hr', t1, _, _, rfl, rfl, wide (f := f) (g := g) (Nat.le_refl _) sf.2 sg.2, _, _, rfl, Int.mul_ne_zero (by omega) (by omega), den9 (Nat.le_refl _) sf.2 sg.2, q⟩
theorem ok_p_subtract (T : Txt K mg fa fd) : FnOk P w K mg base CX0 4 (fa 16) (fd 16) ["one", "other"] (spBn K subL) := by
  refine T.F_p_subtract.ok sc_p_subtract (fun vs H Q E h => ?_) (fun cdv A outer s H vs Q E hr h => ?_)
  · obtain ⟨p, q, f, g, rfl, _⟩ := h
    rfl
  · obtain ⟨p, r, f, g, rfl, hp, hr', pf, pg, sf, sg, q⟩ := h
    refine ⟨_, (pss_one (ps_ret (pe_call (ok_p_ratio0 T) (hr.mono (by decide)) (by rfl) T.g_p_ratio T.F_p_ratio.kp T.b_p_ratio .nil pass0 (pa_cons (pe_op op_sub (pe_op op_mulW (pe_ix ix_tup (pv 0) pe_int (fun _ _ => rfl)) (pe_ix ix_tup (pv 1) pe_int (fun _ _ => rfl))) (pe_op op_mulW (pe_ix ix_tup (pv 1) pe_int (fun _ _ => rfl)) (pe_ix ix_tup (pv 0) pe_int (fun _ _ => rfl)))) (pa_cons (pe_op op_mulW (pe_ix ix_tup (pv 0) pe_int (fun _ _ => rfl)) (pe_ix ix_tup (pv 1) pe_int (fun _ _ => rfl))) pa_nil))))), ?_⟩
    exact ⟨_, rfl, p, _, _, _, rfl, rfl, hp, t0, _, rfl, r, _, _, _, rfl, rfl, hr', t1, _, _, rfl, rfl, wide (f := f) (g := g) (Nat.le_refl _) sf.1 sg.2,
      _, rfl, r, _, _, _, rfl, rfl, hr', t0, _, rfl, p, _, _, _, rfl, rfl, hp, t1, _, _, rfl, rfl, wide (f := f) (g := g) (Nat.le_refl _) sg.1 sf.2, _, _, rfl, rfl,
      _, rfl, p, _, _, _, rfl, rfl, hp, t1, _, rfl, r, _, _, _, rfl, rfl, hr', t1, _, _, rfl, rfl, wide (f := f) (g := g) (Nat.le_refl _) sf.2 sg.2, _, _, rfl, Int.mul_ne_zero (by omega) (by omega), den9 (Nat.le_refl _) sf.2 sg.2, q⟩
theorem ok_p_multiply (T : Txt K mg fa fd) : FnOk P w K mg base CX0 4 (fa 17) (fd 17) ["one", "other"] (spBn K mulL) := by
  refine T.F_p_multiply.ok sc_p_multiply (fun vs H Q E h => ?_) (fun cdv A outer s H vs Q E hr h => ?_)
  · obtain ⟨p, q, f, g, rfl, _⟩ := h
    rfl
  · obtain ⟨p, r, f, g, rfl, hp, hr', pf, pg, sf, sg, q⟩ := h
    refine ⟨_, (pss_one (ps_ret (pe_call (ok_p_ratio0 T) (hr.mono (by decide)) (by rfl) T.g_p_ratio T.F_p_ratio.kp T.b_p_ratio .nil pass0 (pa_cons (pe_op op_mulW (pe_ix ix_tup (pv 0) pe_int (fun _ _ => rfl)) (pe_ix ix_tup (pv 1) pe_int (fun _ _ => rfl))) (pa_cons (pe_op op_mulW (pe_ix ix_tup (pv 0) pe_int (fun _ _ => rfl)) (pe_ix ix_tup (pv 1) pe_int (fun _ _ => rfl))) pa_nil))))), ?_⟩
    exact ⟨_, rfl, p, _, _, _, rfl, rfl, hp, t0, _, rfl, r, _, _, _, rfl, rfl, hr', t0, _, _, rfl, rfl, wide (f := f) (g := g) (Nat.le_refl _) sf.1 sg.1,
      _, rfl, p, _, _, _, rfl, rfl, hp, t1, _, rfl, r, _, _, _, rfl, rfl, hr', t1, _, _, rfl, rfl, wide (f := f) (g := g) (Nat.le_refl _) sf.2 sg.2, _, _, rfl, Int.mul_ne_zero (by omega) (by omega), den9 (Nat.le_refl _) sf.2 sg.2, q⟩
theorem ok_plus (T : Txt K mg fa fd) : FnOk P w K mg base CX0 4 (fa 53) (fd 53) ["_law_one", "_law_two"] (spBn K addL) := by
  refine T.F_plus.ok sc_plus (fun vs H Q E h => ?_) (fun cdv A outer s H vs Q E hr h => ?_)
  · obtain ⟨p, q, f, g, rfl, _⟩ := h
    rfl
  · obtain ⟨p, r, f, g, rfl, hp, hr', pf, pg, sf, sg, q⟩ := h
    refine ⟨_, (pss_one (ps_ret (pe_call (ok_low T) (hr.mono (by decide)) (by rfl) T.g_low T.F_low.kp T.b_low .nil pass0 (pa_cons (pe_op op_add (pe_op op_mulW (pe_ix ix_tup (pv 0) pe_int (fun _ _ => rfl)) (pe_ix ix_tup (pv 1) pe_int (fun _ _ => rfl))) (pe_op op_mulW (pe_ix ix_tup (pv 1) pe_int (fun _ _ => rfl)) (pe_ix ix_tup (pv 0) pe_int (fun _ _ => rfl)))) (pa_cons (pe_op op_mulW (pe_ix ix_tup (pv 0) pe_int (fun _ _ => rfl)) (pe_ix ix_tup (pv 1) pe_int (fun _ _ => rfl))) pa_nil))))), ?_⟩
    exact ⟨_, rfl, p, _, _, _, rfl, rfl, hp, t0, _, rfl, r, _, _, _, rfl, rfl, hr', t1, _, _, rfl, rfl, wide (f := f) (g := g) (Nat.le_refl _) sf.1 sg.2,
      _, rfl, r, _, _, _, rfl, rfl, hr', t0, _, rfl, p, _, _, _, rfl, rfl, hp, t1, _, _, rfl, rfl, wide (f := f) (g := g) (Nat.le_refl _) sg.1 sf.2, _, _, rfl, rfl,
      _, rfl, p, _, _, _, rfl, rfl, hp, t1, _, rfl, r, _, _, _, rfl, rfl, hr', t1, _, _, rfl, rfl, wide (f := f) (g := g) (Nat.le_refl _) sf.2 sg.2, _, _, rfl, Int.mul_ne_zero (by omega) (by omega), den9 (Nat.le_refl _) sf.2 sg.2, q⟩
theorem ok_by (T : Txt K mg fa fd) : FnOk P w K mg base CX0 4 (fa 55) (fd 55) ["_law_one", "_law_two"] (spBn K mulL) := by
  refine T.F_by.ok sc_by (fun vs H Q E h => ?_) (fun cdv A outer s H vs Q E hr h => ?_)
  · obtain ⟨p, q, f, g, rfl, _⟩ := h
    rfl
  · obtain ⟨p, r, f, g, rfl, hp, hr', pf, pg, sf, sg, q⟩ := h
    refine ⟨_, (pss_one (ps_ret (pe_call (ok_low T) (hr.mono (by decide)) (by rfl) T.g_low T.F_low.kp T.b_low .nil pass0 (pa_cons (pe_op op_mulW (pe_ix ix_tup (pv 0) pe_int (fun _ _ => rfl)) (pe_ix ix_tup (pv 1) pe_int (fun _ _ => rfl))) (pa_cons (pe_op op_mulW (pe_ix ix_tup (pv 0) pe_int (fun _ _ => rfl)) (pe_ix ix_tup (pv 1) pe_int (fun _ _ => rfl))) pa_nil))))), ?_⟩
    exact ⟨_, rfl, p, _, _, _, rfl, rfl, hp, t0, _, rfl, r, _, _, _, rfl, rfl, hr', t0, _, _, rfl, rfl, wide (f := f) (g := g) (Nat.le_refl _) sf.1 sg.1,
      _, rfl, p, _, _, _, rfl, rfl, hp, t1, _, rfl, r, _, _, _, rfl, rfl, hr', t1, _, _, rfl, rfl, wide (f := f) (g := g) (Nat.le_refl _) sf.2 sg.2, _, _, rfl, Int.mul_ne_zero (by omega) (by omega), den9 (Nat.le_refl _) sf.2 sg.2, q⟩
def spNeg (K : PySem.W.Frag) : Sp := fun vs H Q _ => ∃ (p : Addr) (f : FR), vs = [.ref p] ∧ FrK K H p f ∧ ∀ o, H o = none → Q (.ref o) (upd H o (trF (negF f)))
theorem ok_minus (T : Txt K mg fa fd) : FnOk P w K mg base CX0 1 (fa 54) (fd 54) ["_law_one"] (spNeg K) := by
  refine T.F_minus.ok sc_minus (fun vs H Q E h => ?_) (fun cdv A outer s H vs Q E hr h => ?_)
  · obtain ⟨p, f, rfl, _⟩ := h
    rfl
  · obtain ⟨p, f, rfl, hp, q⟩ := h
    refine ⟨_, (pss_one (ps_ret (pe_tup (pa_cons (pe_un un_neg (pe_ix ix_tup (pv 0) pe_int (fun _ _ => rfl))) (pa_cons (pe_ix ix_tup (pv 0) pe_int (fun _ _ => rfl)) pa_nil))))), ?_⟩
    exact ⟨_, rfl, p, _, _, _, rfl, rfl, hp, t0, _, rfl, _, rfl, p, _, _, _, rfl, rfl, hp, t1, two_line, q⟩
end
/-! ### sums, as they are read -/
def sgn (s : Int) (f : FR) : FR := (s * f.1, f.2)
def sumP : Nat → List (Sy × Nat) → Nat → Int → Except Nat (List It × Nat)
  | 0, _, _, _ => .error 0
  | n + 1, S, k, s => match termP S k with
    | .error i => .error i
    | .ok (x, f, k') => match S[k']? with
      | some (.sign c, _) => if c = 43 ∨ c = 45 then (match sumP n S (k' + 1) (if c = 43 then 1 else -1) with
          | .error i => .error i
          | .ok (l, k2) => .ok ((x, sgn s f) :: l, k2)) else .ok ([(x, sgn s f)], k')
      | _ => .ok ([(x, sgn s f)], k')
def headP (S : List (Sy × Nat)) (k : Nat) : Except Nat (List It × Nat) :=
  match S[k]? with
  | some (.sign c, _) => if c = 45 then sumP S.length S (k + 1) (-1) else sumP S.length S k 1
  | _ => sumP S.length S k 1
theorem sgn_nf {s : Int} (hs : s = 1 ∨ s = -1) {f : FR} (h : Nf f) : Nf (sgn s f) := by
  rcases hs with rfl | rfl
  · unfold sgn
    rw [Int.one_mul]
    exact h
  · unfold sgn
    rw [Int.neg_mul, Int.one_mul]
    exact h.neg
theorem sgn_bw {s : Int} (hs : s = 1 ∨ s = -1) (f : FR) : bw (sgn s f) = bw f := by
  rcases hs with rfl | rfl
  · unfold sgn
    rw [Int.one_mul]
  · unfold sgn bw
    rw [Int.neg_mul, Int.one_mul, Int.natAbs_neg]
theorem drop_at {S : List (Sy × Nat)} {k : Nat} {s : Sy} {i : Nat} (h : S[k]? = some (s, i)) : S.drop k = (s, i) :: S.drop (k + 1) := by
  obtain ⟨hk, e⟩ := List.getElem?_eq_some_iff.mp h
  rw [List.drop_eq_getElem_cons hk, e]
theorem wS_at {S : List (Sy × Nat)} {k : Nat} {s : Sy} {i : Nat} (h : S[k]? = some (s, i)) : wS (S.drop k) = wSy s + wS (S.drop (k + 1)) := by
  rw [drop_at h]
  unfold wS
  rw [List.map_cons, List.sum_cons]
theorem cS_at {S : List (Sy × Nat)} {k : Nat} {s : Sy} {i : Nat} (h : S[k]? = some (s, i)) : cS (S.drop k) = (if isPm s then 1 else 0) + cS (S.drop (k + 1)) := by
  rw [drop_at h]
  unfold cS
  rw [List.countP_cons, Nat.add_comm]
theorem termP_ok {S : List (Sy × Nat)} {w c : Nat} (hS : SyL S w c) {k k' : Nat} {x : List Nat} {f : FR} (h : termP S k = .ok (x, f, k')) :
    (Nf f ∧ x.length ≤ 7) ∧ k < k' ∧ k' < S.length ∧ bw f + 1 + wS (S.drop k') ≤ wS (S.drop k) ∧ cS (S.drop k') ≤ cS (S.drop k) := by
  have wf := hS.wf
  unfold termP at h
  split at h
  · rename_i y i e
    cases h
    have w1 := wS_at e
    have c1 := cS_at e
    have l := wf k _ _ e rfl (fun z q => by subst q; intro q2; cases q2)
    refine ⟨⟨nf_11, (hS.nums _ (List.mem_of_getElem? e)).2⟩, Nat.lt_succ_self _, l, ?_, by omega⟩
    have : bw (1, 1) + 1 = 2 := by decide
    have : wSy (.name x) = 2 := rfl
    omega
  · rename_i g i e
    have w1 := wS_at e
    have c1 := cS_at e
    have l := wf k _ _ e rfl (fun z q => by subst q; intro q2; cases q2)
    have ng := (hS.nums _ (List.mem_of_getElem? e)).1
    have wg : wSy (.num g) = bw g + 1 := rfl
    split at h
    · rename_i j e1
      have w2 : wS (S.drop (k + 1)) = _ + wS (S.drop (k + 2)) := wS_at e1
      have c2 : cS (S.drop (k + 1)) = _ + cS (S.drop (k + 2)) := cS_at e1
      have l2 := wf (k + 1) _ _ e1 rfl (fun z q => by subst q; intro q2; cases q2)
      split at h
      · rename_i y j2 e2
        cases h
        have w3 : wS (S.drop (k + 2)) = _ + wS (S.drop (k + 3)) := wS_at e2
        have c3 : cS (S.drop (k + 2)) = _ + cS (S.drop (k + 3)) := cS_at e2
        have l3 := wf (k + 2) _ _ e2 rfl (fun z q => by subst q; intro q2; cases q2)
        exact ⟨⟨ng, (hS.nums _ (List.mem_of_getElem? e2)).2⟩, by omega, l3, by omega, by omega⟩
      · cases h
      · cases h
    · cases h
      exact ⟨⟨ng, Nat.zero_le _⟩, Nat.lt_succ_self _, l, by omega, by omega⟩
  · cases h
  · cases h
/-- what is told of a sum that was read -/
def SumOk (S : List (Sy × Nat)) (k : Nat) (l : List It) (k' : Nat) : Prop := (∀ it ∈ l, Nf it.2 ∧ it.1.length ≤ 7) ∧ wIt l + wS (S.drop k') ≤ wS (S.drop k) ∧ l.length + cS (S.drop k') ≤ cS (S.drop k) + 1 ∧ k < k' ∧ k' < S.length
theorem sumP_ok {S : List (Sy × Nat)} {w c : Nat} (hS : SyL S w c) : ∀ (n k : Nat) (s : Int) (l : List It) (k' : Nat), (s = 1 ∨ s = -1) → sumP n S k s = .ok (l, k') → SumOk S k l k'
  | 0, _, _, _, _, _, h => by cases h
  | n + 1, k, s, l, k', hs, h => by
    have wf := hS.wf
    unfold sumP at h
    split at h
    · cases h
    · rename_i x f k1 e
      obtain ⟨⟨nf, x7⟩, lk, ll, hw, hc⟩ := termP_ok hS e
      have base : SumOk S k [(x, sgn s f)] k1 := by
        refine ⟨fun it hit => by rw [List.mem_singleton.mp hit]; exact ⟨sgn_nf hs nf, x7⟩, ?_, by show 1 + _ ≤ _; omega, lk, ll⟩
        show bw (sgn s f) + 1 + 0 + _ ≤ _
        rw [sgn_bw hs]
        omega
      split at h
      · rename_i cc i e1
        split at h
        · rename_i hcc
          split at h
          · cases h
          · rename_i l2 k2 e2
            cases h
            have l1 := wf k1 _ _ e1 rfl (fun z q => by subst q; intro q2; cases q2)
            have hs2 : (if cc = 43 then (1 : Int) else -1) = 1 ∨ (if cc = 43 then (1 : Int) else -1) = -1 := by split <;> simp
            obtain ⟨h1, h2, h3, h4, h5⟩ := sumP_ok hS n (k1 + 1) _ l2 k' hs2 e2
            have w1 := wS_at e1
            have c1 := cS_at e1
            have cp : (if isPm (.sign cc) then 1 else 0) = 1 := by
              show (if decide (cc = 43 ∨ cc = 45) = true then 1 else 0) = 1
              rw [decide_eq_true hcc]
              rfl
            rw [cp] at c1
            refine ⟨fun it hit => ?_, ?_, ?_, by omega, h5⟩
            · rcases List.mem_cons.mp hit with rfl | hit
              · exact ⟨sgn_nf hs nf, x7⟩
              · exact h1 it hit
            · show (bw (sgn s f) + 1 + wIt l2) + _ ≤ _
              rw [sgn_bw hs]
              omega
            · rw [List.length_cons]
              omega
        · cases h
          exact base
      · cases h
        exact base
theorem headP_ok {S : List (Sy × Nat)} {w c : Nat} (hS : SyL S w c) {k k' : Nat} {l : List It} (h : headP S k = .ok (l, k')) : SumOk S k l k' := by
  unfold headP at h
  split at h
  · rename_i cc i e
    split at h
    · obtain ⟨h1, h2, h3, h4, h5⟩ := sumP_ok hS _ _ _ _ _ (.inr rfl) h
      have w1 := wS_at e
      have c1 := cS_at e
      exact ⟨h1, by omega, by omega, by omega, h5⟩
    · exact sumP_ok hS _ _ _ _ _ (.inl rfl) h
  · exact sumP_ok hS _ _ _ _ _ (.inl rfl) h
/-! ### dicts of rates -/
theorem nd_snoc8 {α : Type} {l : List α} {k : α} (h : l.Nodup) (n : ¬ k ∈ l) : (l ++ [k]).Nodup := by
  rw [List.nodup_append]
  refine ⟨h, by simp, fun a ha b hb e => ?_⟩
  rw [List.mem_singleton.mp hb] at e
  rw [e] at ha
  exact n ha
theorem valV_in8 : ∀ {kvs : List (Key × V)} {k : Key} {v : V}, valV kvs k = some v → k ∈ kvs.map (·.1)
  | [], k, v, h => by cases h
  | p :: r, k, v, h => by
    by_cases e : p.1 = k
    · rw [List.map_cons, e]
      exact List.mem_cons_self
    · rw [valV_neg e] at h
      exact List.mem_cons_of_mem _ (valV_in8 h)
def keyOf (x : List Nat) : Key := .inr (SX.S x)
theorem key_inj {x y : List Nat} (h : keyOf x = keyOf y) : x = y := S_inj (Sum.inr.inj h)
def addN (N : List (List Nat)) (x : List Nat) : List (List Nat) := if x ∈ N then N else N ++ [x]
def setV (val : List Nat → FR) (x : List Nat) (f : FR) : List Nat → FR := fun y => if y = x then f else val y
theorem addN_len (N : List (List Nat)) (x : List Nat) : (addN N x).length ≤ N.length + 1 := by
  unfold addN
  split
  · omega
  · rw [List.length_append]
    exact Nat.le_refl _
theorem mem_addN {N : List (List Nat)} {x y : List Nat} : y ∈ addN N x ↔ y ∈ N ∨ y = x := by
  unfold addN
  split
  · rename_i h
    exact ⟨.inl, fun z => z.elim id fun e => by rw [e]; exact h⟩
  · rw [List.mem_append, List.mem_singleton]
theorem addN_nodup {N : List (List Nat)} (h : N.Nodup) (x : List Nat) : (addN N x).Nodup := by
  unfold addN
  split
  · exact h
  · rename_i n
    exact nd_snoc8 h n
/-- a rate in a dict: nought, or a tuple that was made -/
def FrV (K : PySem.W.Frag) (H : Hp) (p : Addr) (f : FR) : Prop := FrK K H p f ∧ (f = (0, 1) ∨ H p = some (trF f))
def Tr (K : PySem.W.Frag) (H H' : Hp) : Prop := (∀ p xs, SqT K H p xs → SqT K H' p xs) ∧ ∀ p xs, H p = some (.tup xs) → H' p = some (.tup xs)
def RDk (K : PySem.W.Frag) (H : Hp) (kvs : List (Key × V)) (N : List (List Nat)) (val : List Nat → FR) : Prop :=
  kvs.map (·.1) = N.map keyOf ∧ N.Nodup ∧ ∀ x ∈ N, ∃ p, valV kvs (keyOf x) = some (.ref p) ∧ FrV K H p (val x)
def RD (K : PySem.W.Frag) (H : Hp) (d : Addr) (N : List (List Nat)) (val : List Nat → FR) : Prop := ∃ kvs, H d = some (.dK kvs) ∧ RDk K H kvs N val
theorem RDk.len {K : PySem.W.Frag} {H : Hp} {kvs : List (Key × V)} {N : List (List Nat)} {val : List Nat → FR} (h : RDk K H kvs N val) : kvs.length = N.length := by
  have := congrArg List.length h.1
  rw [List.length_map, List.length_map] at this
  exact this
theorem RDk.none {K : PySem.W.Frag} {H : Hp} {kvs : List (Key × V)} {N : List (List Nat)} {val : List Nat → FR} (h : RDk K H kvs N val) {x : List Nat} (n : x ∉ N) : valV kvs (keyOf x) = .none := by
  cases e : valV kvs (keyOf x) with
  | none => rfl
  | some v =>
    have m := valV_in8 e
    rw [h.1] at m
    obtain ⟨y, hy, ey⟩ := List.mem_map.mp m
    rw [key_inj ey] at hy
    exact absurd hy n
theorem RDk.mono {K : PySem.W.Frag} {H H' : Hp} {kvs : List (Key × V)} {N : List (List Nat)} {val : List Nat → FR} (h : RDk K H kvs N val) (t : Tr K H H') : RDk K H' kvs N val := by
  refine ⟨h.1, h.2.1, fun x hx => ?_⟩
  obtain ⟨p, e, f⟩ := h.2.2 x hx
  exact ⟨p, e, t.1 _ _ f.1, f.2.imp id (t.2 _ _)⟩
theorem put_keys (kvs : List (Key × V)) (k : Key) (v : V) : (putK kvs k v).map (·.1) = if (valV kvs k).isSome = true then kvs.map (·.1) else kvs.map (·.1) ++ [k] := by
  unfold putK
  rw [valV_any]
  split
  · rw [List.map_map]
    refine List.map_congr_left fun kv _ => ?_
    show (if kv.1 = k then (kv.1, v) else kv).1 = kv.1
    split <;> rfl
  · rw [List.map_append]
    rfl
theorem RDk.put {K : PySem.W.Frag} {H : Hp} {kvs : List (Key × V)} {N : List (List Nat)} {val : List Nat → FR} (h : RDk K H kvs N val) {x : List Nat} {o : Addr} {f : FR} (ho : H o = some (trF f)) : RDk K H (putK kvs (keyOf x) (.ref o)) (addN N x) (setV val x f) := by
  refine ⟨?_, addN_nodup h.2.1 x, fun y hy => ?_⟩
  · rw [put_keys, h.1]
    unfold addN
    by_cases m : x ∈ N
    · obtain ⟨p, e, _⟩ := h.2.2 x m
      rw [e, if_pos m]
      rfl
    · rw [h.none m, if_neg (by decide), if_neg m, List.map_append]
      rfl
  · rw [valV_put]
    by_cases e : y = x
    · subst e
      refine ⟨o, if_pos rfl, ?_⟩
      unfold setV
      rw [if_pos rfl]
      exact ⟨SqT.of ho, .inr ho⟩
    · have hy : y ∈ N := (mem_addN.mp hy).resolve_right e
      obtain ⟨p, e2, f2⟩ := h.2.2 y hy
      refine ⟨p, ?_, ?_⟩
      · rw [if_neg fun z => e (key_inj z)]
        exact e2
      · unfold setV
        rw [if_neg e]
        exact f2
theorem Tr.updD {K : PySem.W.Frag} {H : Hp} {d : Addr} {kvs ks : List (Key × V)} (hd : H d = some (.dK kvs)) : Tr K H (upd H d (.dK ks)) := ⟨fun p xs h => by
  rcases h with (h | ⟨o, h⟩) | h
  · refine .inl (.inl ?_)
    rw [upd_ne (fun e => by rw [e, hd] at h; cases h)]
    exact h
  · refine .inl (.inr ⟨o, ?_⟩)
    rw [upd_ne (fun e => by rw [e, hd] at h; cases h)]
    exact h
  · exact .inr h, fun p xs h => by
  rw [upd_ne (fun e => by rw [e, hd] at h; cases h)]
  exact h⟩
theorem SqT.sm {K : PySem.W.Frag} {H H' : Hp} (s : Same H H') : ∀ p xs, SqT K H p xs → SqT K H' p xs := fun p xs h => by
  rcases h with (h | ⟨o, h⟩) | h
  · exact .inl (.inl (s _ _ h))
  · exact .inl (.inr ⟨o, s _ _ h⟩)
  · exact .inr h
theorem Tr.sm {K : PySem.W.Frag} {H H' : Hp} (s : Same H H') : Tr K H H' := ⟨SqT.sm s, fun p _ h => s p _ h⟩
theorem RD.same {K : PySem.W.Frag} {H H' : Hp} {d : Addr} {N : List (List Nat)} {val : List Nat → FR} (h : RD K H d N val) (s : Same H H') : RD K H' d N val := by
  obtain ⟨kvs, e, h⟩ := h
  exact ⟨kvs, s _ _ e, h.mono (Tr.sm s)⟩
def keysL (l : List It) : List (List Nat) := l.foldl (fun N it => addN N it.1) [[]]
def valL (l : List It) : List Nat → FR := fun x => sumX x (0, 1) l
theorem keysL_snoc (l : List It) (it : It) : keysL (l ++ [it]) = addN (keysL l) it.1 := by
  unfold keysL
  rw [List.foldl_append]
  rfl
theorem valL_snoc (l : List It) (x : List Nat) (f : FR) : valL (l ++ [(x, f)]) = setV (valL l) x (addL (valL l x) f) := by
  funext y
  unfold valL setV
  rw [sumX_app]
  show (if x = y then addL (sumX y (0, 1) l) f else sumX y (0, 1) l) = _
  by_cases e : y = x
  · subst e
    rw [if_pos rfl]
  · rw [if_neg (fun z => e z.symm), if_neg e]
theorem foldN_mem {y : List Nat} : ∀ (l : List It) (N : List (List Nat)), y ∈ l.foldl (fun N it => addN N it.1) N ↔ y ∈ N ∨ ∃ it ∈ l, it.1 = y
  | [], N => by simp
  | it :: l, N => by
    show y ∈ l.foldl _ (addN N it.1) ↔ _
    rw [foldN_mem l, mem_addN]
    constructor
    · rintro ((h | h) | ⟨i, hi, e⟩)
      · exact .inl h
      · exact .inr ⟨it, List.mem_cons_self, h.symm⟩
      · exact .inr ⟨i, List.mem_cons_of_mem _ hi, e⟩
    · rintro (h | ⟨i, hi, e⟩)
      · exact .inl (.inl h)
      · rcases List.mem_cons.mp hi with rfl | hi
        · exact .inl (.inr e.symm)
        · exact .inr ⟨i, hi, e⟩
theorem valL_none {l : List It} {x : List Nat} (h : x ∉ keysL l) : valL l x = (0, 1) :=
  sumX_none x l _ fun it hit e => h ((foldN_mem l _).mpr (.inr ⟨it, hit, e⟩))
theorem foldN_len : ∀ (l : List It) (N : List (List Nat)), (l.foldl (fun N it => addN N it.1) N).length ≤ N.length + l.length
  | [], _ => Nat.le_refl _
  | it :: l, N => by
    have h := foldN_len l (addN N it.1)
    have := addN_len N it.1
    rw [List.length_cons]
    show (l.foldl _ (addN N it.1)).length ≤ _
    omega
theorem keysL_len (l : List It) : (keysL l).length ≤ l.length + 1 := by
  have := foldN_len l [[]]
  rw [List.length_singleton] at this
  show (keysL l).length ≤ _
  unfold keysL
  omega
theorem plusS : (Str.ofString "+" : Str) = SX.S [43] := by decide +kernel
theorem sort_pm (s : Sy) : inV (V.str (sortS s)) [V.str (Str.ofString "+"), .str (Str.ofString "-")] = isPm s := by
  have e : inV (V.str (sortS s)) [V.str (Str.ofString "+"), .str (Str.ofString "-")] = (decide (V.str (sortS s) = V.str (SX.S [43])) || decide (V.str (sortS s) = V.str (SX.S [45]))) := by
    rw [plusS, dash]
    show ((SX.S [43] == sortS s) || ((SX.S [45] == sortS s) || false)) = _
    rw [Bool.or_false, Bool.eq_iff_iff, Bool.or_eq_true, Bool.or_eq_true, beq_iff_eq, beq_iff_eq, decide_eq_true_eq, decide_eq_true_eq]
    constructor
    · rintro (h | h)
      · exact .inl (by rw [h])
      · exact .inr (by rw [h])
    · rintro (h | h)
      · exact .inl (V.str.inj h).symm
      · exact .inr (V.str.inj h).symm
  rw [e, sort_sign, sort_sign]
  cases s with
  | sign c =>
    show (decide (c = 43) || decide (c = 45)) = decide (c = 43 ∨ c = 45)
    rw [Bool.eq_iff_iff]
    simp only [Bool.or_eq_true, decide_eq_true_eq]
  | _ => rfl
theorem wS_drop : ∀ (S : List (Sy × Nat)) (k : Nat), wS (S.drop k) ≤ wS S
  | [], _ => by rw [List.drop_nil]; exact Nat.le_refl _
  | _ :: _, 0 => Nat.le_refl _
  | e :: S, k + 1 => by
    have := wS_drop S k
    have e2 : wS (e :: S) = wSy e.1 + wS S := by
      unfold wS
      rw [List.map_cons, List.sum_cons]
    rw [List.drop_succ_cons]
    omega
theorem cS_drop (S : List (Sy × Nat)) (k : Nat) : cS (S.drop k) ≤ cS S := List.Sublist.countP_le (List.drop_sublist _ _)
def cmb (dn : List It) : Except Nat (List It × Nat) → Except Nat (List It × Nat)
  | .error i => .error i
  | .ok (l, k) => .ok (dn ++ l, k)
def WSum (K : PySem.W.Frag) (H : Hp) (D d : Addr) (S : List (Sy × Nat)) (k0 : Nat) : Nat → L2.St → Hp → Prop := fun m σ G => ∃ (k n : Nat) (s : Int) (dn : List It) (y4 y5 : Option V), m = S.length - k ∧ k < S.length ∧ S.length - k ≤ n ∧ headP S k0 = cmb dn (sumP n S k s) ∧ (s = 1 ∨ s = -1) ∧ Same H G ∧ RD K G d (keysL dn) (valL dn) ∧ (∀ it ∈ dn, Nf it.2) ∧ wIt dn + wS (S.drop k) ≤ 800 ∧ dn.length + cS (S.drop k) ≤ 31 ∧ σ = [some (.ref D), some (.int k), some (.ref d), some (.int s), y4, y5]
section
variable {P : Program} {w : World} {K : PySem.W.Frag} {mg : Str → Option Value} {base : Heap} {fa : Nat → Addr} {fd : Nat → FuncData}
def spSum (K : PySem.W.Frag) (C : Addr) : Sp := fun vs H Q E => ∃ (D : Addr) (k : Nat) (S : List (Sy × Nat)), vs = [.ref D, .int (k : Int)] ∧ SL H D S ∧ SyL S 800 30 ∧ k < S.length ∧ S.length ≤ 901 ∧
  (∀ l k', headP S k = .ok (l, k') → ∀ d o H', Same H H' → H d = none → H' o = some (.tup [.ref d, .int (k' : Int)]) → RD K H' d (keysL l) (valL l) → Q (.ref o) H') ∧
  (∀ i, headP S k = .error i → PEr E C H i)
theorem ok_p_read_sum (T : Txt K mg fa fd) : FnOk P w K mg base (L2.CX P w) 5 (fa 34) (fd 34) ["symbols", "at"] (spSum K (fa 4)) := by
  refine T.F_p_read_sum.okX sc_p_read_sum (fun vs H Q E h => ?_) (fun cdv A outer s H vs Q E hr h => ?_)
  · obtain ⟨D, k, S, rfl, _⟩ := h
    rfl
  · obtain ⟨D, k0, S, rfl, hSL, hS, hk0, hl, qo, qe⟩ := h
    refine ⟨_, (C8.pss_cut (ps_set (i := 2) sc_p_read_sum.nd rfl (.inl rfl) (pe_disp (pps_cons pe_str (C8.pe_gc (by rfl) T.c_ZERO) pps_nil) (by rfl) (by rfl) (fun z => by cases z) (by decide)))
      (C8.pss_cut (ps_set (i := 3) sc_p_read_sum.nd rfl (.inl rfl) pe_int)
      (C8.pss_cut (ps_if (pt_cmpR op_eq (pe_ix ix_tup (pe_ix ix_list (pv 0) (pv 1) (fun _ _ => rfl)) pe_int (fun _ _ => rfl)) pe_str (nomark _)) (C8.pss_cut (ps_set (i := 3) sc_p_read_sum.nd rfl (.inl rfl) (pe_un un_neg pe_int))
      (pss_one (ps_aug (i := 1) sc_p_read_sum.nd rfl (.inl rfl) pe_int ip_add))) pss_nil)
      (pss_one (ps_while (passes_of rfl) (pt_val pe_bl) (C8.pss_cut (ps_asg (pe_call (ok_p_read_term T) (hr.mono (by decide)) (by rfl) T.g_p_read_term T.F_p_read_term.kp T.b_p_read_term .nil (passes_call (takes_of rfl rfl rfl rfl) (fun _ _ _ _ h => h)) (pa_cons (pv 0) (pa_cons (pv 1) pa_nil))) (pg_tup (by rfl) (pgs_cons (pg_name (i := 4) sc_p_read_sum.nd rfl (.inl rfl)) (pgs_cons (pg_name (i := 5) sc_p_read_sum.nd rfl (.inl rfl)) (pgs_cons (pg_name (i := 1) sc_p_read_sum.nd rfl (.inl rfl)) pgs_nil)))))
      (C8.pss_cut (ps_dput (Nat.lt_of_le_of_lt (Nat.add_le_add_left (by decide) _) hr.units) (pv 2) (pv 4) (pe_call (ok_p_add T) (hr.mono (by decide)) (by rfl) T.g_p_add T.F_p_add.kp T.b_p_add .nil pass0 (pa_cons (pe_dget2 (Nat.lt_of_le_of_lt (Nat.add_le_add_left (by decide) _) hr.units) (pv 2) (pv 4) (C8.pe_gc (by rfl) T.c_ZERO) ⟨by rfl, by rfl, by rfl, by rfl⟩) (pa_cons (pe_call (ok_p_ratio0 T) (hr.mono (by decide)) (by rfl) T.g_p_ratio T.F_p_ratio.kp T.b_p_ratio .nil pass0 (pa_cons (pe_op op_mul (pv 3) (pe_ix ix_tup (pv 5) pe_int (fun _ _ => rfl))) (pa_cons (pe_ix ix_tup (pv 5) pe_int (fun _ _ => rfl)) pa_nil))) pa_nil))) (by rfl))
      (C8.pss_cut (ps_if (pt_cmpR op_notIn_seq (pe_ix ix_tup (pe_ix ix_list (pv 0) (pv 1) (fun _ _ => rfl)) pe_int (fun _ _ => rfl)) (pe_tup (pa_cons pe_str (pa_cons pe_str pa_nil))) (by rfl)) (pss_one (ps_ret (pe_tup (pa_cons (pv 2) (pa_cons (pv 1) pa_nil))))) pss_nil)
      (C8.pss_cut (ps_set (i := 3) sc_p_read_sum.nd rfl (.inl rfl) (pe_ifExp (pt_cmpR op_eq (pe_ix ix_tup (pe_ix ix_list (pv 0) (pv 1) (fun _ _ => rfl)) pe_int (fun _ _ => rfl)) pe_str (nomark _)) pe_int (pe_un un_neg pe_int)))
      (pss_one (ps_aug (i := 1) sc_p_read_sum.nd rfl (.inl rfl) pe_int ip_add))))))))))), ?_⟩
    have wf := hS.wf
    obtain ⟨⟨s0, i0⟩, hs0⟩ : ∃ si, S[k0]? = some si := ⟨_, List.getElem?_eq_getElem hk0⟩
    -- the empty sum
    refine ⟨fun σ H1 => ∃ d, H d = none ∧ Same H H1 ∧ RD K H1 d (keysL []) (valL []) ∧ σ = [some (.ref D), some (.int k0), some (.ref d), none, none, none], fun d nd => ?_, fun σ H1 hM => ?_⟩
    · refine ⟨upd_same, [(keyOf [], .ref (fa 2000))], by rw [emptyS]; rfl, (by show 1 ≤ 15; decide), d, nd, ?_, ?_, rfl⟩
      · intro b o e
        rw [upd_ne (ne_of_none e nd), upd_ne (ne_of_none e nd)]
        exact e
      · refine ⟨_, upd_same, rfl, by decide, fun x hx => ?_⟩
        obtain rfl : x = [] := List.mem_singleton.mp hx
        exact ⟨fa 2000, valV_pos (p := (keyOf [], V.ref (fa 2000))) rfl, T.z_ZERO _, .inl rfl⟩
    obtain ⟨d, nd, sH, hd, rfl⟩ := hM
    refine ⟨fun σ H2 => H2 = H1 ∧ σ = [some (.ref D), some (.int k0), some (.ref d), some (.int 1), none, none], ⟨rfl, rfl⟩, fun σ H2 hM => ?_⟩
    obtain ⟨rfl, rfl⟩ := hM
    refine ⟨fun σ H3 => H3 = H2 ∧ ∃ (k : Nat) (s : Int), headP S k0 = sumP S.length S k s ∧ (s = 1 ∨ s = -1) ∧ k0 ≤ k ∧ k < S.length ∧ σ = [some (.ref D), some (.int k), some (.ref d), some (.int s), none, none], ?_, fun σ H3 hM => ?_⟩
    · obtain ⟨xs, p, v, hq, hat, hp, hv⟩ := (hSL.same sH).at (K := K) hs0
      refine ⟨_, rfl, _, rfl, D, _, _, _, rfl, rfl, hq, hat, p, _, _, _, rfl, rfl, SqT.of hp, rfl, rfl, _, rfl, ?_⟩
      rw [dash, sort_sign]
      cases sg : isSg 45 s0 with
      | true =>
        obtain ⟨c, rfl⟩ : ∃ c, s0 = .sign c := by cases s0 <;> first | exact ⟨_, rfl⟩ | cases sg
        have ec : c = 45 := of_decide_eq_true sg
        have hh : headP S k0 = sumP S.length S (k0 + 1) (-1) := by
          unfold headP
          rw [hs0]
          exact if_pos ec
        have kl := wf k0 _ _ hs0 rfl (fun z e => by subst e; intro z; cases z)
        refine iteT ⟨fun σ H' => H' = H2 ∧ σ = [some (.ref D), some (.int k0), some (.ref d), some (.int (-1)), none, none], ⟨_, rfl, rfl, rfl⟩, fun σ H' hM => ?_⟩
        obtain ⟨rfl, rfl⟩ := hM
        exact ⟨_, rfl, _, _, rfl, rfl, rfl, k0 + 1, -1, hh, .inr rfl, by omega, kl, rfl⟩
      | false =>
        have hh : headP S k0 = sumP S.length S k0 1 := by
          unfold headP
          rw [hs0]
          cases s0 with
          | sign c => exact if_neg (of_decide_eq_false sg)
          | _ => rfl
        exact iteF ⟨rfl, k0, 1, hh, .inl rfl, by omega, hk0, rfl⟩
    obtain ⟨rfl, k, s, hh, hs, kk, hk, rfl⟩ := hM
    refine ⟨WSum K H D d S k0, ⟨_, k, S.length, s, [], _, _, rfl, hk, by omega, ?_, hs, sH, hd, (fun it h => by cases h), Nat.le_trans (by show 0 + _ ≤ _; rw [Nat.zero_add]; exact wS_drop S k) hS.wt, Nat.le_succ_of_le (Nat.le_trans (by show 0 + _ ≤ _; rw [Nat.zero_add]; exact cS_drop S k) hS.ct), rfl⟩, fun m σ G hW => ?_⟩
    · rw [hh]
      cases sumP S.length S k s with
      | error i => rfl
      | ok r => rfl
    clear hd sH hh hs hk kk hs0
    clear s k
    obtain ⟨k, n, s, dn, y4, y5, rfl, hk, hn, he, hs, sG, hd, hnf, hw, hc, rfl⟩ := hW
    obtain ⟨n, rfl⟩ : ∃ n', n = n' + 1 := ⟨n - 1, by omega⟩
    refine ⟨_, rfl, iteT ⟨fun σ' H' => ∃ m', m' < S.length - k ∧ WSum K H D d S k0 m' σ' H', fun _ _ h => h, ?_⟩⟩
    -- the term
    refine ⟨fun σ G1 => Same G G1 ∧ ∃ x f k' pr, termP S k = .ok (x, f, k') ∧ G1 pr = some (trF f) ∧ σ = [some (.ref D), some (.int ((k' : Nat) : Int)), some (.ref d), some (.int s), some (vS x), some (.ref pr)], ?_, fun σ G1 hM => ?_⟩
    · refine ⟨_, rfl, _, rfl, D, k, S, rfl, hSL.same sG, wf, hk, hl, fun x f k' e p pr G1 sg hp hpr => ?_, fun i e => ?_⟩
      · exact ⟨p, _, rfl, SqT.of hp, rfl, _, _, rfl, _, _, rfl, _, _, rfl, rfl, sg, x, f, k', pr, e, hpr, rfl⟩
      · have h2 : headP S k0 = .error i := by
          rw [he]
          unfold sumP
          rw [e]
          rfl
        exact fun dd H' s' hd' => qe i h2 dd H' (sG.trans s') hd'
    obtain ⟨sg, x, f, k', pr, et, hpr, rfl⟩ := hM
    obtain ⟨⟨nf, x7⟩, lk, ll, hw2, hc2⟩ := termP_ok hS et
    have he2 : sumP (n + 1) S k s = (match S[k']? with
      | some (.sign c, _) => if c = 43 ∨ c = 45 then (match sumP n S (k' + 1) (if c = 43 then 1 else -1) with
          | .error i => .error i
          | .ok (l, k2) => .ok ((x, sgn s f) :: l, k2)) else .ok ([(x, sgn s f)], k')
      | _ => .ok ([(x, sgn s f)], k')) := by
      rw [sumP, et]
      try rfl
    rw [he2] at he
    clear he2
    have sG := sG.trans sg
    have hd := hd.same sg
    clear sg
    have nfs := sgn_nf hs nf
    have nfv : Nf (valL dn x) := sumX_nf x dn _ nf_01 hnf
    have bnv : Bn 2048 (valL dn x) := (sumX_bn x dn (0, 1) 1 nf_01 bn_01 hnf).mono (by omega)
    have bns : Bn 2048 (sgn s f) := (bw_bn _).mono (by rw [sgn_bw hs]; omega)
    have les : lowF (s * f.1) f.2 = sgn s f := low_nf nfs
    -- the dict
    refine ⟨fun σ G2 => Same H G2 ∧ RD K G2 d (keysL (dn ++ [(x, sgn s f)])) (valL (dn ++ [(x, sgn s f)])) ∧ σ = [some (.ref D), some (.int ((k' : Nat) : Int)), some (.ref d), some (.int s), some (vS x), some (.ref pr)], ?_, fun σ G2 hM => ?_⟩
    · obtain ⟨kvs, hkv, hR⟩ := hd
      have hkl : kvs.length < sizeLine := by
        rw [hR.len]
        have := keysL_len dn
        exact small1000 (by omega)
      have got : ∃ q, (valV kvs (keyOf x)).getD (.ref (fa 2000)) = .ref q ∧ FrK K G1 q (valL dn x) := by
        by_cases m : x ∈ keysL dn
        · obtain ⟨q, e, h⟩ := hR.2.2 x m
          exact ⟨q, by rw [e]; rfl, h.1⟩
        · rw [hR.none m, valL_none m]
          exact ⟨fa 2000, rfl, T.z_ZERO _⟩
      obtain ⟨q, eq, hq⟩ := got
      refine ⟨_, rfl, d, rfl, .inl ⟨kvs, .inl hkv⟩, _, rfl, valV kvs (keyOf x), DGet.k (k := keyOf x) hkv, ?_⟩
      rw [eq]
      refine ⟨_, rfl, _, rfl, pr, _, _, _, rfl, rfl, SqT.of hpr, t0, _, _, rfl, rfl, .inl (by rcases hs with rfl | rfl <;> decide), _, rfl, pr, _, _, _, rfl, rfl, SqT.of hpr, t1, _, _, rfl, by have := nf.1; omega, ?_, fun e ne => ?_⟩
      · exact log_lt ((bw_bn f).mono (show bw f ≤ 4096 by omega)).2 (by decide)
      have se := same_upd (o := .tup [.int (lowT (s * f.1) f.2), .int (lowD (s * f.1) f.2)]) ne
      have fe : FrK K (upd G1 e (.tup [.int (lowT (s * f.1) f.2), .int (lowD (s * f.1) f.2)])) e (sgn s f) := by
        rw [← les]
        exact SqT.of upd_same
      refine ⟨q, e, valL dn x, sgn s f, rfl, SqT.sm se _ _ hq, fe, nfv.1, nfs.1, bnv, bns, fun o no => ?_⟩
      have so := se.trans (same_upd (o := trF (addL (valL dn x) (sgn s f))) no)
      have hkv2 := so _ _ hkv
      refine ⟨_, rfl, _, rfl, d, _, rfl, DPut.k (k := keyOf x) hkv2 hkl, ?_, ?_, rfl⟩
      · intro b u eb
        rw [upd_ne (ne_of_none eb nd)]
        exact so _ _ (sG _ _ eb)
      · rw [keysL_snoc, valL_snoc]
        exact ⟨_, upd_same, ((hR.mono (Tr.sm so)).put upd_same).mono (Tr.updD hkv2)⟩
    obtain ⟨sG, hd, rfl⟩ := hM
    obtain ⟨⟨s2, i2⟩, hs2⟩ : ∃ si, S[k']? = some si := ⟨_, List.getElem?_eq_getElem ll⟩
    rw [hs2] at he
    refine ⟨fun σ G3 => Same G2 G3 ∧ isPm s2 = true ∧ σ = [some (.ref D), some (.int ((k' : Nat) : Int)), some (.ref d), some (.int s), some (vS x), some (.ref pr)], ?_, fun σ G3 hM => ?_⟩
    · obtain ⟨xs, p, v, hq, hat, hp, hv⟩ := (hSL.same sG).at (K := K) hs2
      refine ⟨_, rfl, _, rfl, D, _, _, _, rfl, rfl, hq, hat, p, _, _, _, rfl, rfl, SqT.of hp, rfl, small_line (by show 2 ≤ 1000; decide), fun q nq => ⟨q, _, rfl, .inr (SqT.of upd_same), rfl, rfl, _, rfl, ?_⟩⟩
      have sq := same_upd (o := .tup [V.str (Str.ofString "+"), .str (Str.ofString "-")]) nq
      rw [sort_pm]
      cases pm2 : isPm s2 with
      | true => exact iteF ⟨sq, rfl, rfl⟩
      | false =>
        have h2 : headP S k0 = .ok (dn ++ [(x, sgn s f)], k') := by
          rw [he]
          cases s2 with
          | sign c =>
            have : ¬ (c = 43 ∨ c = 45) := of_decide_eq_false pm2
            simp only [if_neg this]
            rfl
          | _ => rfl
        refine iteT ⟨_, rfl, _, rfl, two_line, fun o no => ?_⟩
        have so := sq.trans (same_upd (o := .tup [.ref d, .int ((k' : Nat) : Int)]) no)
        exact qo _ _ h2 d o _ (sG.trans so) nd upd_same (hd.same so)
    obtain ⟨sg, pm2, rfl⟩ := hM
    have sG := sG.trans sg
    have hd := hd.same sg
    obtain ⟨c, rfl⟩ : ∃ c, s2 = .sign c := by cases s2 <;> first | exact ⟨_, rfl⟩ | cases pm2
    have hcc : c = 43 ∨ c = 45 := of_decide_eq_true pm2
    have l2 := wf k' _ _ hs2 rfl (fun z e => by subst e; intro z; cases z)
    refine ⟨fun σ G4 => G4 = G3 ∧ σ = [some (.ref D), some (.int ((k' : Nat) : Int)), some (.ref d), some (.int (if c = 43 then 1 else -1)), some (vS x), some (.ref pr)], ?_, fun σ G4 hM => ?_⟩
    · obtain ⟨xs, p, v, hq, hat, hp, hv⟩ := (hSL.same sG).at (K := K) hs2
      refine ⟨_, rfl, _, rfl, D, _, _, _, rfl, rfl, hq, hat, p, _, _, _, rfl, rfl, SqT.of hp, rfl, rfl, _, rfl, ?_⟩
      rw [plusS, sort_sign]
      by_cases c3 : c = 43
      · rw [show isSg 43 (.sign c) = true from decide_eq_true c3]
        refine iteT ⟨rfl, ?_⟩
        rw [if_pos c3]
        rfl
      · rw [show isSg 43 (.sign c) = false from decide_eq_false c3]
        refine iteF ⟨_, rfl, rfl, ?_⟩
        rw [if_neg c3]
        rfl
    obtain ⟨rfl, rfl⟩ := hM
    have w3 := wS_at hs2
    have c3 := cS_at hs2
    have cp : (if isPm (.sign c) then 1 else 0) = 1 := by rw [pm2]; rfl
    rw [cp] at c3
    have wz : wSy (.sign c) = 0 := rfl
    refine ⟨_, rfl, _, _, rfl, rfl, S.length - (k' + 1), by omega, k' + 1, n, if c = 43 then 1 else -1, dn ++ [(x, sgn s f)], _, _, rfl, l2, by omega, ?_, by split <;> simp, sG, hd, fun it hit => ?_, ?_, ?_, rfl⟩
    · rw [he]
      simp only [if_pos hcc]
      cases sumP n S (k' + 1) (if c = 43 then 1 else -1) with
      | error i => rfl
      | ok r =>
        show Except.ok (dn ++ ((x, sgn s f) :: r.1), r.2) = Except.ok (dn ++ [(x, sgn s f)] ++ r.1, r.2)
        rw [List.append_assoc]
        rfl
    · rcases List.mem_append.mp hit with h | h
      · exact hnf it h
      · rw [List.mem_singleton.mp h]
        exact nfs
    · have : wIt (dn ++ [(x, sgn s f)]) = wIt dn + (bw f + 1) := by
        unfold wIt
        rw [List.map_append, List.sum_append]
        show _ + (bw (sgn s f) + 1 + 0) = _
        rw [sgn_bw hs]
      omega
    · rw [List.length_append]
      show _ + 1 + _ ≤ _
      omega
end
/-! ### walks over the keys of a dict -/
theorem for_keys {d : Addr} {od : Obj} {kvs : List (Key × V)} {g : TG} {tb : TS} {D : Ends} {σ : L2.St} {H : Hp} (Pv : Nat → L2.St → Hp → Prop) (h0 : Pv 0 σ H) (hf : ∀ i σ H, Pv i σ H → H d = some (.frz od (.dK kvs)))
    (hs : ∀ i k v σ H, kvs[i]? = some (k, v) → Pv i σ H → g (kV k) σ H fun σ2 H2 => tb { nx := Pv (i + 1), rt := D.rt, bk := D.nx, ct := Pv (i + 1) } σ2 H2) (hd : ∀ σ H, Pv kvs.length σ H → D.nx σ H) :
    ∃ W : Nat → Nat → L2.St → Hp → Prop, (∃ m, W 0 m σ H) ∧ ∀ i m σ H, W i m σ H →
      ((Itk d od kvs).stop i H ∧ D.nx σ H) ∨ ((Itk d od kvs).go i H ∧ ∃ N : L2.St → Hp → Prop, (∀ σ' H', N σ' H' → ∃ m', m' < m ∧ W (i + 1) m' σ' H') ∧ ∀ x H', (Itk d od kvs).yld i H x H' → g x σ H' fun σ2 H2 => tb { nx := N, rt := D.rt, bk := D.nx, ct := N } σ2 H2) := by
  refine ⟨fun i m σ H => m = kvs.length - i ∧ i ≤ kvs.length ∧ Pv i σ H, ⟨_, rfl, Nat.zero_le _, h0⟩, ?_⟩
  rintro i m σ H ⟨rfl, hi, p⟩
  by_cases hlt : i < kvs.length
  · refine .inr ⟨⟨hf _ _ _ p, hlt⟩, Pv (i + 1), fun σ' H' p' => ⟨kvs.length - (i + 1), by omega, rfl, hlt, p'⟩, fun y H' q => ?_⟩
    obtain ⟨e, k, v, hc, ev⟩ := q
    subst e ev
    exact hs i k v _ _ hc p
  · have e : i = kvs.length := by omega
    subst e
    exact .inl ⟨⟨hf _ _ _ p, Nat.le_refl _⟩, hd _ _ p⟩
theorem lc_keys {d : Addr} {od : Obj} {kvs : List (Key × V)} {g : TG} {tt : L2.TT} {te : TE} {vs : List Nat} {σ : L2.St} {H1 : Hp} {D : Addr} {Qd : Hp → Prop} (Pv : Nat → Hp → Prop) (h0 : Pv 0 (upd H1 D (.lst []))) (hf : ∀ i H, Pv i H → H d = some (.frz od (.dK kvs)))
    (hs : ∀ i k v H, kvs[i]? = some (k, v) → Pv i H → g (kV k) (wipe σ vs) H fun σ2 H2 => wipe σ2 vs = wipe σ vs ∧ tt σ2 H2 fun b H3 =>
      if b = true then te σ2 H3 fun y H4 => ∃ acc, H4 D = some (.lst acc) ∧ acc.length < sizeLine ∧ Pv (i + 1) (upd H4 D (.lst (acc ++ [y]))) else Pv (i + 1) H3) (hd : ∀ H, Pv kvs.length H → Qd H) :
    ∃ W : Nat → Nat → Hp → Prop, (∃ m, W 0 m (upd H1 D (.lst []))) ∧ ∀ i m H, W i m H →
      ((Itk d od kvs).stop i H ∧ Qd H) ∨ ((Itk d od kvs).go i H ∧ ∃ Nx : Hp → Prop, (∀ H', Nx H' → ∃ m', m' < m ∧ W (i + 1) m' H') ∧ ∀ y H', (Itk d od kvs).yld i H y H' → g y (wipe σ vs) H' fun σ2 H2 => wipe σ2 vs = wipe σ vs ∧ tt σ2 H2 fun b H3 =>
        if b = true then te σ2 H3 fun y H4 => ∃ acc, H4 D = some (.lst acc) ∧ acc.length < sizeLine ∧ Nx (upd H4 D (.lst (acc ++ [y]))) else Nx H3) := by
  refine ⟨fun i m H => m = kvs.length - i ∧ i ≤ kvs.length ∧ Pv i H, ⟨_, rfl, Nat.zero_le _, h0⟩, ?_⟩
  rintro i m H ⟨rfl, hi, p⟩
  by_cases hlt : i < kvs.length
  · refine .inr ⟨⟨hf _ _ p, hlt⟩, Pv (i + 1), fun H' p' => ⟨kvs.length - (i + 1), by omega, rfl, hlt, p'⟩, fun y H' q => ?_⟩
    obtain ⟨e, k, v, hc, ev⟩ := q
    subst e ev
    exact hs i k v _ hc p
  · have e : i = kvs.length := by omega
    subst e
    exact .inl ⟨⟨hf _ _ p, Nat.le_refl _⟩, hd _ p⟩
/-- all but what stands at b -/
def Ex (b : Addr) (H G : Hp) : Prop := ∀ c o, H c = some o → c ≠ b → G c = some o
theorem Ex.sqt {K : PySem.W.Frag} {H G : Hp} {b : Addr} {kvs : List (Key × V)} (h : Ex b H G) (hb : H b = some (.dK kvs)) : Tr K H G := ⟨fun p xs q => by
  rcases q with (q | ⟨o, q⟩) | q
  · exact .inl (.inl (h _ _ q fun e => by rw [e, hb] at q; cases q))
  · exact .inl (.inr ⟨o, h _ _ q fun e => by rw [e, hb] at q; cases q⟩)
  · exact .inr q, fun p xs q => h _ _ q fun e => by rw [e, hb] at q; cases q⟩
theorem Ex.same {H G G' : Hp} {b : Addr} (h : Ex b H G) (s : Same G G') : Ex b H G' := fun c o e n => s _ _ (h c o e n)
theorem Ex.back {H G : Hp} {b : Addr} {u : HO} (h : Ex b H G) (hb : H b = some u) : Same H (upd G b u) := fun c o e => by
  by_cases n : c = b
  · subst n
    rw [hb] at e
    cases e
    exact upd_same
  · rw [upd_ne n]
    exact h c o e n
theorem Ex.upd {H G : Hp} {b d : Addr} {u : HO} (h : Ex b H G) (nd : H d = none) : Ex b H (upd G d u) := fun c o e n => by
  rw [upd_ne (ne_of_none e nd)]
  exact h c o e n
theorem keys_at {kvs : List (Key × V)} {N : List (List Nat)} (h : kvs.map (·.1) = N.map keyOf) {i : Nat} {k : Key} {v : V} (e : kvs[i]? = some (k, v)) : ∃ x, N[i]? = some x ∧ k = keyOf x := by
  have e1 : (kvs.map (·.1))[i]? = some k := by rw [List.getElem?_map, e]; rfl
  rw [h, List.getElem?_map] at e1
  obtain ⟨x, hx, ex⟩ := Option.map_eq_some_iff.mp e1
  exact ⟨x, hx, ex.symm⟩
theorem not_take {N : List (List Nat)} (h : N.Nodup) {i : Nat} {x : List Nat} (e : N[i]? = some x) : x ∉ N.take i := fun m => by
  obtain ⟨j, ej⟩ := List.mem_iff_getElem?.mp m
  have hj := (List.getElem?_eq_some_iff.mp ej).1
  rw [List.length_take] at hj
  rw [List.getElem?_take_of_lt (by omega)] at ej
  obtain ⟨hi, ei⟩ := List.getElem?_eq_some_iff.mp e
  obtain ⟨hj2, ej2⟩ := List.getElem?_eq_some_iff.mp ej
  exact (List.pairwise_iff_getElem.mp h) j i hj2 hi (by omega) (by rw [ei, ej2])
def broN (N M : List (List Nat)) : List (List Nat) := M.foldl addN N
theorem broN_snoc (N M : List (List Nat)) (x : List Nat) : broN N (M ++ [x]) = addN (broN N M) x := by
  unfold broN
  rw [List.foldl_append]
  rfl
theorem broN_mem {y : List Nat} : ∀ (M N : List (List Nat)), y ∈ broN N M ↔ y ∈ N ∨ y ∈ M
  | [], N => by simp [broN]
  | x :: M, N => by
    show y ∈ broN (addN N x) M ↔ _
    rw [broN_mem M, mem_addN, List.mem_cons, or_assoc]
theorem broN_len : ∀ (M N : List (List Nat)), (broN N M).length ≤ N.length + M.length
  | [], _ => Nat.le_refl _
  | x :: M, N => by
    have h := broN_len M (addN N x)
    have := addN_len N x
    rw [List.length_cons]
    show (broN (addN N x) M).length ≤ _
    omega
def nz (val : List Nat → FR) (x : List Nat) : Bool := decide (x ≠ []) && decide ((val x).1 ≠ 0)
section
variable {P : Program} {w : World} {K : PySem.W.Frag} {mg : Str → Option Value} {base : Heap} {fa : Nat → Addr} {fd : Nat → FuncData}
def ValOk (N : List (List Nat)) (val : List Nat → FR) : Prop := (∀ x, Nf (val x) ∧ Bn 1000 (val x)) ∧ ∀ x, x ∉ N → val x = (0, 1)
def spBro (K : PySem.W.Frag) : Sp := fun vs H Q _ => ∃ (a b : Addr) (N M : List (List Nat)) (u v : List Nat → FR), vs = [.ref a, .ref b] ∧ RD K H a N u ∧ RD K H b M v ∧ ValOk N u ∧ ValOk M v ∧ N.length ≤ 40 ∧ M.length ≤ 40 ∧
  ∀ d H', Same H H' → H d = none → RD K H' d (broN N M) (fun x => subL (u x) (v x)) → Q (.ref d) H'
theorem ok_p_brought_together (T : Txt K mg fa fd) : FnOk P w K mg base CX0 5 (fa 41) (fd 41) ["left", "right"] (spBro K) := by
  refine T.F_p_brought_together.ok sc_p_brought_together (fun vs H Q E h => ?_) (fun cdv A outer s H vs Q E hr h => ?_)
  · obtain ⟨a, b, N, M, u, v, rfl, _⟩ := h
    rfl
  · obtain ⟨a, b, N, M, u, v, rfl, ⟨ka, hka, hRa⟩, ⟨kb, hkb, hRb⟩, ou, ov, ln, lm, q⟩ := h
    refine ⟨_, (C8.pss_cut (ps_set (i := 2) sc_p_brought_together.nd rfl (.inl rfl) (pe_callTy call_dictD (by rfl) T.m_dict (by decide +kernel) (pa_cons (pv 0) pa_nil)))
      (C8.pss_cut (ps_lock (ps_for PassesOwn.never rfl (pi_keys (pv 1)) (pg_name (i := 3) sc_p_brought_together.nd rfl (.inl rfl)) (pss_one (ps_dput (Nat.lt_of_le_of_lt (Nat.add_le_add_left (by decide) _) hr.units) (pv 2) (pv 3) (pe_call (ok_p_subtract T) (hr.mono (by decide)) (by rfl) T.g_p_subtract T.F_p_subtract.kp T.b_p_subtract .nil pass0 (pa_cons (pe_dget2 (Nat.lt_of_le_of_lt (Nat.add_le_add_left (by decide) _) hr.units) (pv 2) (pv 3) (C8.pe_gc (by rfl) T.c_ZERO) ⟨by rfl, by rfl, by rfl, by rfl⟩) (pa_cons (pe_dget (Nat.lt_of_le_of_lt (Nat.add_le_add_left (by decide) _) hr.units) (pv 1) (pv 3) (fun _ _ => rfl)) pa_nil))) (by rfl)))))
      (pss_one (ps_ret (pv 2))))), ?_⟩
    refine ⟨fun σ H1 => ∃ d, H d = none ∧ Same H H1 ∧ H1 d = some (.dK ka) ∧ σ = [some (.ref a), some (.ref b), some (.ref d), none], ⟨_, rfl, a, ka, rfl, .inl hka, fun d nd => ⟨d, nd, same_upd nd, upd_same, rfl⟩⟩, fun σ H1 hM => ?_⟩
    obtain ⟨d, nd, s1, hd1, rfl⟩ := hM
    have hb1 := s1 _ _ hkb
    have dnb : d ≠ b := fun e => by rw [e, hkb] at nd; cases nd
    have hRb1 := hRb.mono (Tr.sm s1)
    refine ⟨fun σ H2 => Same H H2 ∧ RD K H2 d (broN N M) (fun x => subL (u x) (v x)) ∧ ∃ y3, σ = [some (.ref a), some (.ref b), some (.ref d), y3], ?_, fun σ H2 hM => ?_⟩
    · refine ⟨b, _, hb1, trivial, fun od => ?_⟩
      refine ⟨_, rfl, b, od, rfl, .inl ⟨kb, upd_same, for_keys (fun i σ G => G b = some (.frz od (.dK kb)) ∧ Ex b H G ∧ (∃ kd, G d = some (.dK kd) ∧ RDk K G kd (broN N (M.take i)) (fun x => if x ∈ M.take i then subL (u x) (v x) else u x)) ∧ ∃ y3, σ = [some (.ref a), some (.ref b), some (.ref d), y3]) ⟨upd_same, ?_, ⟨ka, ?_, ?_⟩, _, rfl⟩ (fun i σ G h => h.1) (fun i k vv σ G hk hp => ?_) (fun σ G hp => ?_)⟩⟩
      · exact fun c o e n => by rw [upd_ne n]; exact s1 _ _ e
      · rw [upd_ne dnb]
        exact hd1
      · exact (show RDk K H ka N u from hRa).mono (Ex.sqt (b := b) (fun c o e n => by rw [upd_ne n]; exact s1 _ _ e) hkb)
      · obtain ⟨hfb, ex, ⟨kd, hkd, hRd⟩, y3, rfl⟩ := hp
        obtain ⟨x, hx, rfl⟩ := keys_at hRb.1 hk
        have nt := not_take hRb.2.1 hx
        have hRbG := hRb.mono (ex.sqt hkb)
        obtain ⟨pv, epv, fpv⟩ := hRbG.2.2 x (List.mem_of_getElem? hx)
        have hkl : kd.length < sizeLine := by
          rw [hRd.len]
          have := broN_len (M.take i) N
          rw [List.length_take] at this
          exact small1000 (by omega)
        have got : ∃ p, (valV kd (keyOf x)).getD (.ref (fa 2000)) = .ref p ∧ FrK K G p (u x) := by
          by_cases m : x ∈ broN N (M.take i)
          · obtain ⟨p, e, h⟩ := hRd.2.2 x m
            have h : FrK K G p (if x ∈ M.take i then subL (u x) (v x) else u x) := h.1
            rw [if_neg nt] at h
            exact ⟨p, by rw [e]; rfl, h⟩
          · rw [hRd.none m, ou.2 x fun z => m ((broN_mem _ _).mpr (.inl z))]
            exact ⟨fa 2000, rfl, T.z_ZERO _⟩
        obtain ⟨p, ep, fp⟩ := got
        refine ⟨_, rfl, d, rfl, .inl ⟨kd, .inl hkd⟩, _, rfl, valV kd (keyOf x), DGet.k (k := keyOf x) hkd, ?_⟩
        rw [ep]
        refine ⟨_, rfl, _, rfl, b, _, rfl, .inl ⟨kb, keyOf x, .inr ⟨od, hfb⟩, rfl, epv.symm⟩, p, pv, u x, v x, rfl, fp, fpv.1, (ou.1 x).1.1, (ov.1 x).1.1, (ou.1 x).2.mono (by decide), (ov.1 x).2.mono (by decide), fun o no => ?_⟩
        have so := same_upd (o := trF (subL (u x) (v x))) no
        have hkd2 := so _ _ hkd
        refine ⟨_, rfl, _, rfl, d, _, rfl, DPut.k (k := keyOf x) hkd2 hkl, ?_, (ex.same so).upd nd, ⟨_, upd_same, ?_⟩, _, rfl⟩
        · rw [upd_ne dnb.symm]
          exact so _ _ hfb
        · have h2 := ((hRd.mono (Tr.sm so)).put (x := x) upd_same).mono (Tr.updD hkd2 (ks := putK kd (keyOf x) (.ref o)))
          rw [List.take_add_one, hx, show (some x).toList = [x] from rfl, broN_snoc]
          refine ⟨h2.1, h2.2.1, fun y hy => ?_⟩
          obtain ⟨p', e', f'⟩ := h2.2.2 y hy
          refine ⟨p', e', ?_⟩
          have ev : setV (fun x => if x ∈ M.take i then subL (u x) (v x) else u x) x (subL (u x) (v x)) y = (if y ∈ M.take i ++ [x] then subL (u y) (v y) else u y) := by
            unfold setV
            by_cases e : y = x
            · subst e
              rw [if_pos rfl, if_pos (List.mem_append_right _ List.mem_cons_self)]
            · rw [if_neg e]
              show (if y ∈ M.take i then subL (u y) (v y) else u y) = _
              by_cases m : y ∈ M.take i
              · rw [if_pos m, if_pos (List.mem_append_left _ m)]
              · rw [if_neg m, if_neg fun z => (List.mem_append.mp z).elim m fun z => e (List.mem_singleton.mp z)]
          have f' : FrV K _ p' (setV (fun x => if x ∈ M.take i then subL (u x) (v x) else u x) x (subL (u x) (v x)) y) := f'
          rw [ev] at f'
          exact f'
      · obtain ⟨hfb, ex, ⟨kd, hkd, hRd⟩, y3, rfl⟩ := hp
        rw [hRb.len, List.take_length] at hRd
        refine ⟨hfb, ex.back hkb, ⟨kd, ?_, hRd.1, hRd.2.1, fun x hx => ?_⟩, y3, rfl⟩
        · rw [upd_ne dnb]
          exact hkd
        · obtain ⟨p', e', f'⟩ := hRd.2.2 x hx
          refine ⟨p', e', ?_⟩
          have ev : (if x ∈ M then subL (u x) (v x) else u x) = subL (u x) (v x) := by
            by_cases m : x ∈ M
            · rw [if_pos m]
            · rw [if_neg m, ov.2 x m, sub_zero (ou.1 x).1]
          have f' : FrV K G p' (if x ∈ M then subL (u x) (v x) else u x) := f'
          rw [ev] at f'
          have tb : ∀ p xs, G p = some (.tup xs) → upd G b (.dK kb) p = some (.tup xs) := fun p xs h => by
            rw [upd_ne fun e => by rw [e, hfb] at h; cases h]
            exact h
          refine ⟨?_, f'.2.imp id (tb _ _)⟩
          rcases f'.1 with (f' | ⟨oo, f'⟩) | f'
          · exact .inl (.inl (tb _ _ f'))
          · exact .inl (.inr ⟨oo, by rw [upd_ne fun e => by rw [e, hfb] at f'; cases f']; exact f'⟩)
          · exact .inr f'
    obtain ⟨s2, hd2, y3, rfl⟩ := hM
    exact ⟨_, rfl, q d H2 s2 nd hd2⟩
end
theorem ix_tupK {X : Cx} {K : PySem.W.Frag} (h : X.K = K) : IxR X (rIxT K) := h ▸ ix_tup
section
variable {P : Program} {w : World} {K : PySem.W.Frag} {mg : Str → Option Value} {base : Heap} {fa : Nat → Addr} {fd : Nat → FuncData}
def spAsc (K : PySem.W.Frag) : Sp := fun vs H Q _ => ∃ (a : Addr) (N : List (List Nat)) (val : List Nat → FR), vs = [.ref a] ∧ RD K H a N val ∧ N.length < 64 ∧
  ∀ (ys : List Str) l H', Same H H' → H' l = some (.lst (ys.map V.str)) → ys.Perm ((N.filter (nz val)).map SX.S) → sortedS ys = true → Q (.ref l) H'
theorem ok_p_ascending_names (T : Txt K mg fa fd) : FnOk P w K mg base CX0 1 (fa 40) (fd 40) ["rates"] (spAsc K) := by
  refine T.F_p_ascending_names.ok sc_p_ascending_names (fun vs H Q E h => ?_) (fun cdv A outer s H vs Q E hr h => ?_)
  · obtain ⟨a, N, val, rfl, _⟩ := h
    rfl
  · obtain ⟨a, N, val, rfl, ⟨kvs, hk, hR⟩, hn, q⟩ := h
    refine ⟨_, (pss_one (ps_ret (pe_callB cr_sortedS (by rfl) T.m_sorted (by decide +kernel) (pa_cons (pe_lock (pe_lc (own := [("name", 1)]) (g := gName 1) (tt := _) rfl sc_p_ascending_names.nd (pi_keys (pv 0)) (blkOk_by (own := [("name", 1)]) (N := ["rates", "name"]) (sc := defScope s_p_ascending_names) (by decide +kernel)) (fun _ _ _ _ _ => pg_name (i := 1) sc_p_ascending_names.nd rfl (Or.inl rfl)) (fun _ _ _ _ _ => pts_one (PW.pt (pw_and (pt_cmpR op_ne (pv 1) pe_str (nomark _)) (pw_and1 (pt_cmpR op_ne (pe_ix (ix_tupK (K := K) rfl) (pe_dget (Nat.lt_of_le_of_lt (Nat.add_le_add_left (by decide) _) hr.units) (pv 0) (pv 1) (fun _ _ => rfl)) pe_int (fun _ _ => rfl)) pe_int (nomark _)))))) (fun _ _ _ _ _ => (pe_callTy SkE.call_str_str (by rfl) T.m_str (by decide +kernel) (pa_cons (pv 1) pa_nil))))) pa_nil)))), ?_⟩
    refine ⟨a, _, hk, trivial, fun od => ?_⟩
    refine ⟨_, rfl, a, od, rfl, .inl ⟨kvs, upd_same, fun D nD => ?_⟩⟩
    have naD : D ≠ a := fun e => by rw [e, upd_same] at nD; cases nD
    have nDH : H D = none := by
      rw [upd_ne naD] at nD
      exact nD
    refine lc_keys (fun i G => G a = some (.frz od (.dK kvs)) ∧ Ex a H G ∧ G D = some (.lst ((((N.take i).filter (nz val)).map SX.S).map V.str))) ⟨?_, ?_, upd_same⟩ (fun i G h => h.1) (fun i k vv G hkv hp => ?_) (fun G hp => ?_)
    · rw [upd_ne naD.symm]
      exact upd_same
    · exact fun c o e n => by
        rw [upd_ne (ne_of_none e nDH), upd_ne n]
        exact e
    · obtain ⟨hfa, ex, hD⟩ := hp
      obtain ⟨x, hx, rfl⟩ := keys_at hR.1 hkv
      have hRG := hR.mono (ex.sqt hk)
      obtain ⟨p, ep, fp⟩ := hRG.2.2 x (List.mem_of_getElem? hx)
      have ll : ((((N.take i).filter (nz val)).map SX.S).map V.str).length < sizeLine := by
        rw [List.length_map, List.length_map]
        have := List.length_filter_le (nz val) (N.take i)
        rw [List.length_take] at this
        exact small1000 (by omega)
      have tk : (N.take (i + 1)).filter (nz val) = (N.take i).filter (nz val) ++ (if nz val x = true then [x] else []) := by
        rw [List.take_add_one, hx, List.filter_append]
        show _ ++ List.filter (nz val) [x] = _
        rw [List.filter_cons]
        split <;> rfl
      have fin : ∀ b : Bool, b = nz val x → (if b = true then tCB (fun xs H Q => ∃ a, xs = [V.str a] ∧ Q (V.str a) H) (tCons (tVar 1) tNil)
          (List.set (wipe (L2.start [Str.ofString "rates", Str.ofString "name"] [V.ref a]) (List.map (fun x => x.snd) [(Str.ofString "name", 1)])) 1 (some (kV (keyOf x)))) G fun y H4 =>
          ∃ acc, H4 D = some (HO.lst acc) ∧ acc.length < sizeLine ∧ upd H4 D (HO.lst (acc ++ [y])) a = some (HO.frz od (HO.dK kvs)) ∧ Ex a H (upd H4 D (HO.lst (acc ++ [y]))) ∧
            upd H4 D (HO.lst (acc ++ [y])) D = some (HO.lst (List.map V.str (List.map SX.S (List.filter (nz val) (List.take (i + 1) N)))))
          else G a = some (HO.frz od (HO.dK kvs)) ∧ Ex a H G ∧ G D = some (HO.lst (List.map V.str (List.map SX.S (List.filter (nz val) (List.take (i + 1) N)))))) := by
        intro b hb
        rw [tk, ← hb]
        cases b with
        | true =>
          refine iteT ⟨_, rfl, _, rfl, _, hD, ll, ?_, ex.upd nDH, ?_⟩
          · rw [upd_ne naD.symm]
            exact hfa
          · rw [upd_same, if_pos rfl, List.map_append, List.map_append]
            rfl
        | false =>
          refine iteF ⟨hfa, ex, ?_⟩
          rw [if_neg (by decide), List.append_nil]
          exact hD
      refine ⟨rfl, _, rfl, rfl, _, rfl, ?_⟩
      have c : (!decide (kV (keyOf x) = V.str (Str.ofString ""))) = decide (x ≠ []) := by
        rw [emptyS, Bool.eq_iff_iff, Bool.not_eq_true', decide_eq_false_iff_not, decide_eq_true_eq]
        constructor
        · intro h e
          exact h (by rw [e]; rfl)
        · intro h e
          exact h (S_inj (V.str.inj e))
      rw [c]
      refine ite2 (fun e => ?_) (fun e => ?_)
      · refine ⟨_, rfl, _, rfl, a, _, rfl, .inl ⟨kvs, keyOf x, .inr ⟨od, hfa⟩, rfl, ep.symm⟩, p, _, _, _, rfl, rfl, fp.1, t0, rfl, _, rfl, fin _ ?_⟩
        unfold nz
        rw [e, Bool.true_and, Bool.eq_iff_iff, Bool.not_eq_true', decide_eq_false_iff_not, decide_eq_true_eq]
        constructor
        · intro h z
          exact h (by rw [z])
        · intro h z
          exact h (V.int.inj z)
      · refine fin false ?_
        unfold nz
        rw [Bool.eq_false_iff.mpr e, Bool.false_and]
    · obtain ⟨hfa, ex, hD⟩ := hp
      rw [hR.len, List.take_length] at hD
      refine ⟨hfa, ?_⟩
      have sb := ex.back hk
      have hD2 : upd G a (.dK kvs) D = some (.lst (((N.filter (nz val)).map SX.S).map V.str)) := by
        rw [upd_ne naD]
        exact hD
      refine ⟨D, (N.filter (nz val)).map SX.S, rfl, SqL.of hD2, ?_, fun ys l perm srt nl => ?_⟩
      · rw [List.length_map]
        exact Nat.lt_of_le_of_lt (List.length_filter_le _ _) hn
      · exact q ys l _ (sb.trans (same_upd nl)) upd_same perm srt
end
theorem lcmF_app (u : Int) : ∀ l r : List FR, lcmF u (l ++ r) = lcmF (lcmF u l) r := fun l r => by
  induction l generalizing u with
  | nil => rfl
  | cons f l ih => exact ih _
theorem gcdF_app (L g : Int) : ∀ l r : List FR, gcdF L g (l ++ r) = gcdF L (gcdF L g l) r := fun l r => by
  induction l generalizing g with
  | nil => rfl
  | cons f l ih => exact ih _
theorem gcdF_nn (L : Int) : ∀ (rs : List FR) (g : Int), 0 ≤ g → 0 ≤ gcdF L g rs
  | [], _, h => h
  | _ :: r, _, _ => gcdF_nn L r _ (Int.natCast_nonneg _)
def BdF (f : FR) : Prop := Bn 800 f ∧ 0 < f.2
abbrev frP (f : FR) : PyData := .tuple [.int f.1, .int f.2]
abbrev tmP (t : List Nat × FR) : PyData := .tuple [.str (SX.S t.1), frP t.2]
abbrev tieP (tl : List (List Nat × FR)) (b : FR) : PyData := .tuple [.tuple (tl.map tmP), frP b]
def rts (tl : List (List Nat × FR)) : List FR := tl.map (·.2)
def redL (tl : List (List Nat × FR)) : List (List Nat × FR) := tl.map fun t => (t.1, redF (scl (rts tl)) t.2)
abbrev redP (tl : List (List Nat × FR)) (b : FR) : PyData := tieP (redL tl) (redF (scl (rts tl)) b)
def TlOk (tl : List (List Nat × FR)) : Prop := (tl.length = 1 ∨ tl.length = 2) ∧ ∀ t ∈ tl, t.2.1 ≠ 0 ∧ BdF t.2 ∧ t.1.length ≤ 7
theorem TlOk.rs {tl : List (List Nat × FR)} (h : TlOk tl) : RsOk (rts tl) := by
  refine ⟨fun z => ?_, fun f hf => ?_⟩
  · cases tl with
    | nil => have := h.1; simp at this
    | cons t r => cases z
  · obtain ⟨t, ht, rfl⟩ := List.mem_map.mp hf
    exact ⟨(h.2 t ht).2.1.2, (h.2 t ht).1⟩
theorem step_le {u d : Int} (hu : 0 < u) (hd : 0 < d) : (u * d).fdiv (Int.gcd u d : Nat) ≤ u * d := by
  have gp : 0 < Int.gcd u d := gcd_pos (by omega)
  have h := Int.mul_pos hu hd
  rw [Int.fdiv_eq_ediv_of_nonneg _ (by omega)]
  exact Int.ediv_le_self _ (by omega)
theorem tl_sizes {tl : List (List Nat × FR)} (h : TlOk tl) : ∀ i, 0 < lcmF 1 (rts (tl.take i)) ∧ (lcmF 1 (rts (tl.take i))).natAbs < 2 ^ 1600 := fun i => by
  have hd : ∀ f ∈ rts (tl.take i), 0 < f.2 ∧ f.2.natAbs < 2 ^ 800 := fun f hf => by
    obtain ⟨t, ht, rfl⟩ := List.mem_map.mp hf
    have := (h.2 t (List.mem_of_mem_take ht)).2.1
    exact ⟨this.2, this.1.2⟩
  have hl : (rts (tl.take i)).length ≤ 2 := by
    unfold rts
    rw [List.length_map, List.length_take]
    have := h.1
    omega
  refine ⟨(lcmF_ok _ 1 (by decide) fun f hf => (hd f hf).1).1, ?_⟩
  have one : ∀ f : FR, 0 < f.2 → (1 * f.2).fdiv (Int.gcd 1 f.2 : Nat) = f.2 := fun f _ => by
    rw [Int.one_mul, Int.gcd_comm, Int.gcd_one_right]
    exact Int.fdiv_one _
  match rts (tl.take i), hl, hd with
  | [], _, _ => exact Nat.lt_of_lt_of_le (show 1 < 2 ^ 1 by decide) (Nat.pow_le_pow_right (by decide) (by decide))
  | [f], _, hd =>
    show ((1 * f.2).fdiv _).natAbs < _
    rw [one f (hd f List.mem_cons_self).1]
    exact Nat.lt_of_lt_of_le (hd f List.mem_cons_self).2 (Nat.pow_le_pow_right (by decide) (by decide))
  | [f, g], _, hd =>
    show ((((1 * f.2).fdiv (Int.gcd 1 f.2 : Nat)) * g.2).fdiv (Int.gcd ((1 * f.2).fdiv (Int.gcd 1 f.2 : Nat)) g.2 : Nat)).natAbs < _
    have hf := hd f List.mem_cons_self
    have hg := hd g (List.mem_cons_of_mem _ List.mem_cons_self)
    rw [one f hf.1]
    have h1 := step_le hf.1 hg.1
    have h2 : 0 ≤ (f.2 * g.2).fdiv (Int.gcd f.2 g.2 : Nat) := by
      have := Int.mul_pos hf.1 hg.1
      rw [Int.fdiv_eq_ediv_of_nonneg _ (by omega)]
      exact Int.ediv_nonneg (by omega) (by omega)
    have h3 : (f.2 * g.2).natAbs < 2 ^ (800 + 800) := by rw [Int.natAbs_mul]; exact pow_mul_lt hf.2 hg.2
    exact Nat.lt_of_le_of_lt (show ((f.2 * g.2).fdiv (Int.gcd f.2 g.2 : Nat)).natAbs ≤ (f.2 * g.2).natAbs by omega) h3
  | _ :: _ :: _ :: _, h, _ => simp at h
theorem lcm_first {t : List Nat × FR} {r : List (List Nat × FR)} (h : TlOk (t :: r)) : ∃ e : Nat, e < 2 ^ 800 ∧ (lcmF 1 (rts (t :: r))).natAbs ≤ t.2.2.natAbs * e := by
  have one : ∀ f : FR, 0 < f.2 → (1 * f.2).fdiv (Int.gcd 1 f.2 : Nat) = f.2 := fun f _ => by
    rw [Int.one_mul, Int.gcd_comm, Int.gcd_one_right]
    exact Int.fdiv_one _
  have ht := (h.2 t List.mem_cons_self).2.1
  match r, h with
  | [], h =>
    refine ⟨1, Nat.lt_of_lt_of_le (show 1 < 2 ^ 1 by decide) (Nat.pow_le_pow_right (by decide) (by decide)), ?_⟩
    show ((1 * t.2.2).fdiv _).natAbs ≤ _
    rw [one t.2 ht.2, Nat.mul_one]
    exact Nat.le_refl _
  | [g], h =>
    have hg := (h.2 g (List.mem_cons_of_mem _ List.mem_cons_self)).2.1
    refine ⟨g.2.2.natAbs, hg.1.2, ?_⟩
    show ((((1 * t.2.2).fdiv (Int.gcd 1 t.2.2 : Nat)) * g.2.2).fdiv (Int.gcd ((1 * t.2.2).fdiv (Int.gcd 1 t.2.2 : Nat)) g.2.2 : Nat)).natAbs ≤ _
    rw [one t.2 ht.2, ← Int.natAbs_mul]
    have h1 := step_le ht.2 hg.2
    have h2 : 0 ≤ (t.2.2 * g.2.2).fdiv (Int.gcd t.2.2 g.2.2 : Nat) := by
      have := Int.mul_pos ht.2 hg.2
      rw [Int.fdiv_eq_ediv_of_nonneg _ (by omega)]
      exact Int.ediv_nonneg (by omega) (by omega)
    omega
  | _ :: _ :: _, h => exact absurd h.1 (by simp)
theorem scl_ok {tl : List (List Nat × FR)} (h : TlOk tl) : 0 < lcmF 1 (rts tl) ∧ (lcmF 1 (rts tl)).natAbs < 2 ^ 1600 ∧ 0 < gcdF (lcmF 1 (rts tl)) 0 (rts tl) ∧ (gcdF (lcmF 1 (rts tl)) 0 (rts tl)).natAbs < 2 ^ 1600 := by
  obtain ⟨L, G, Lp, Gp, eL, eG, m, hm, hg⟩ := red_facts h.rs
  have s := tl_sizes h tl.length
  rw [List.take_length] at s
  rw [eL] at s ⊢
  rw [eG]
  refine ⟨Lp, s.2, Gp, ?_⟩
  obtain ⟨t, r, rfl⟩ : ∃ t r, tl = t :: r := by
    cases tl with
    | nil => have := h.1; simp at this
    | cons t r => exact ⟨t, r, rfl⟩
  obtain ⟨e0, he0, hL⟩ := lcm_first h
  rw [eL] at hL
  have e := hm t.2 List.mem_cons_self
  have ht := h.2 t List.mem_cons_self
  have e2 : L.natAbs * t.2.1.natAbs = (m t.2 * t.2.2).natAbs * G.natAbs := by
    rw [← Int.natAbs_mul, ← Int.natAbs_mul, ← e, Int.mul_right_comm]
  have ne : (m t.2 * t.2.2).natAbs ≠ 0 := fun z => by
    rw [z, Nat.zero_mul] at e2
    have := Nat.mul_eq_zero.mp e2
    have := ht.1
    omega
  rw [Int.natAbs_mul] at e2 ne
  have mp : 0 < (m t.2).natAbs := Nat.pos_of_ne_zero fun z => ne (by rw [z, Nat.zero_mul])
  have dp : 0 < t.2.2.natAbs := Nat.pos_of_ne_zero fun z => ne (by rw [z, Nat.mul_zero])
  have h1 : t.2.2.natAbs * G.natAbs ≤ t.2.2.natAbs * (e0 * t.2.1.natAbs) := by
    refine Nat.le_trans ?_ (show L.natAbs * t.2.1.natAbs ≤ _ from Nat.le_trans (Nat.mul_le_mul_right _ hL) (Nat.le_of_eq (Nat.mul_assoc _ _ _)))
    rw [e2, Nat.mul_assoc]
    exact Nat.le_mul_of_pos_left _ mp
  have h2 := Nat.le_of_mul_le_mul_left h1 dp
  exact Nat.lt_of_le_of_lt h2 (pow_mul_lt (k := 800) (j := 800) he0 ht.2.1.1.1)
theorem scl_sm {tl : List (List Nat × FR)} (h : TlOk tl) : Bn 1600 (scl (rts tl)) ∧ 0 < (scl (rts tl)).2 ∧ 0 < (scl (rts tl)).1 := by
  obtain ⟨h1, h2, h3, h4⟩ := scl_ok h
  unfold scl lowF
  generalize lcmF 1 (rts tl) = L at *
  generalize gcdF L 0 (rts tl) = G at *
  have d := lowD_pos (u := L) (v := G) (by omega)
  have e := lowT_self (u := L) (v := G) (by omega)
  refine ⟨Bn.low (by omega) h2 h4, d, ?_⟩
  show 0 < lowT L G
  have := Int.mul_pos h1 d
  rw [← e] at this
  rcases Int.lt_trichotomy (lowT L G) 0 with h | h | h
  · have := Int.mul_neg_of_neg_of_pos h h3
    omega
  · rw [h, Int.zero_mul] at this
    omega
  · exact h
section
variable {P : Program} {w : World} {K : PySem.W.Frag} {mg : Str → Option Value} {base : Heap} {fa : Nat → Addr} {fd : Nat → FuncData}
theorem low_mul_bd {f g : FR} {k m : Nat} (hf : Bn k f) (hg : Bn m g) (hk : k + m ≤ 4096) (h : f.2 * g.2 ≠ 0) : Bd (lowT (f.1 * g.1) (f.2 * g.2)) ∧ Bd (lowD (f.1 * g.1) (f.2 * g.2)) := by
  have mm : ∀ {x y : Int}, x.natAbs < 2 ^ k → y.natAbs < 2 ^ m → (x * y).natAbs < 2 ^ 4096 := fun hx hy => by
    rw [Int.natAbs_mul]
    exact Nat.lt_of_lt_of_le (pow_mul_lt hx hy) (Nat.pow_le_pow_right (by decide) hk)
  exact ⟨log_lt (Nat.lt_of_le_of_lt (lowT_abs h) (mm hf.1 hg.1)) (by decide), log_lt (Nat.lt_of_le_of_lt (lowD_abs h) (mm hf.2 hg.2)) (by decide)⟩
theorem bd_bn {z : Int} {k : Nat} (h : z.natAbs < 2 ^ k) (hk : k ≤ 4096) : Bd z := log_lt (Nat.lt_of_lt_of_le h (Nat.pow_le_pow_right (by decide) hk)) (by decide)
theorem dt_fr {z : Addr} {H : Hp} {v : V} {f : FR} (h : Dt z H v (frP f)) : ∃ p, v = .ref p ∧ H p = some (.tup [.int f.1, .int f.2]) := by
  match v, h with
  | _, .tup hp (.cons (.int _ _) (.cons (.int _ _) .nil)) => exact ⟨_, rfl, hp⟩
theorem noLs_tm : ∀ l : List (List Nat × FR), noLs (l.map tmP) = true
  | [] => rfl
  | _ :: l => by
    show (true && noLs (l.map tmP)) = true
    rw [noLs_tm l]
    rfl
def spReduced : Sp := fun vs H Q _ => ∃ v tl b z, vs = [v] ∧ Dt z H v (tieP tl b) ∧ TlOk tl ∧ BdF b ∧ ∀ v' H', Same H H' → Dt z H' v' (redP tl b) → Q v' H'
theorem ok_p_reduced (T : Txt K mg fa fd) : FnOk P w K mg base CX0 5 (fa 36) (fd 36) ["tie"] spReduced := by
  refine T.F_p_reduced.ok sc_p_reduced (fun vs H Q E h => ?_) (fun cdv A outer s H vs Q E hr h => ?_)
  · obtain ⟨v, tl, b, z, rfl, _⟩ := h
    rfl
  · obtain ⟨v, tl, b, z, rfl, hv, hok, hb, q⟩ := h
    refine ⟨_, (C8.pss_cut (ps_asg (pv 0) (pg_tup (by rfl) (pgs_cons (pg_name (i := 1) sc_p_reduced.nd rfl (.inl rfl)) (pgs_cons (pg_name (i := 2) sc_p_reduced.nd rfl (.inl rfl)) pgs_nil))))
      (C8.pss_cut (ps_set (i := 3) sc_p_reduced.nd rfl (.inl rfl) pe_int)
      (C8.pss_cut (ps_for PassesOwn.never rfl (pi_tup (pv 1)) (pg_tup (by rfl) (pgs_cons (pg_name (i := 4) sc_p_reduced.nd rfl (.inl rfl)) (pgs_cons (pg_name (i := 5) sc_p_reduced.nd rfl (.inl rfl)) pgs_nil))) (pss_one (ps_set (i := 3) sc_p_reduced.nd rfl (.inl rfl) (pe_op op_fdivG (pe_op op_mulW (pv 3) (pe_ix ix_tup (pv 5) pe_int (fun _ _ => rfl))) (pe_call (ok_p_common_divisor T) (hr.mono (by decide)) (by rfl) T.g_p_common_divisor T.F_p_common_divisor.kp T.b_p_common_divisor .nil pass0 (pa_cons (pv 3) (pa_cons (pe_ix ix_tup (pv 5) pe_int (fun _ _ => rfl)) pa_nil)))))))
      (C8.pss_cut (ps_set (i := 6) sc_p_reduced.nd rfl (.inl rfl) pe_int)
      (C8.pss_cut (ps_for PassesOwn.never rfl (pi_tup (pv 1)) (pg_tup (by rfl) (pgs_cons (pg_name (i := 4) sc_p_reduced.nd rfl (.inl rfl)) (pgs_cons (pg_name (i := 5) sc_p_reduced.nd rfl (.inl rfl)) pgs_nil))) (pss_one (ps_set (i := 6) sc_p_reduced.nd rfl (.inl rfl) (pe_call (ok_p_common_divisor T) (hr.mono (by decide)) (by rfl) T.g_p_common_divisor T.F_p_common_divisor.kp T.b_p_common_divisor .nil pass0 (pa_cons (pv 6) (pa_cons (pe_op op_mulW (pe_op op_fdivG (pv 3) (pe_ix ix_tup (pv 5) pe_int (fun _ _ => rfl))) (pe_ix ix_tup (pv 5) pe_int (fun _ _ => rfl))) pa_nil))))))
      (C8.pss_cut (ps_set (i := 7) sc_p_reduced.nd rfl (.inr rfl) (pe_call (ok_p_ratio0 T) (hr.mono (by decide)) (by rfl) T.g_p_ratio T.F_p_ratio.kp T.b_p_ratio .nil pass0 (pa_cons (pv 3) (pa_cons (pv 6) pa_nil))))
      (pss_one (ps_ret (pe_tup (pa_cons (pe_callTy call_tuple_of (by rfl) T.m_tuple (by decide +kernel) (pa_cons (pe_lc (own := [("name", 4), ("rate", 5)]) (g := gTup K 2 (gCons (gName 4) (gCons (gName 5) gNil))) (tt := tYes) rfl sc_p_reduced.nd (pi_tup (pv 1)) (blkOk_by (own := [("name", 4), ("rate", 5)]) (N := ["tie", "terms", "bound", "under", "name", "rate", "shared", "scale"]) (sc := defScope s_p_reduced) (by decide +kernel)) (fun _ _ _ _ _ => pg_tup rfl (pgs_cons (pg_name (i := 4) sc_p_reduced.nd rfl (Or.inl rfl)) (pgs_cons (pg_name (i := 5) sc_p_reduced.nd rfl (Or.inl rfl)) pgs_nil))) (fun _ _ _ _ _ => pts_nil) (fun _ _ _ _ _ => (pe_tup (pa_cons (pv 4) (pa_cons (pe_call (ok_p_multiply T) (hr.mono (by decide)) (by rfl) T.g_p_multiply T.F_p_multiply.kp T.b_p_multiply .nil pass0 (pa_cons (pv 5) (pa_cons (pv 7) pa_nil))) pa_nil))))) pa_nil)) (pa_cons (pe_call (ok_p_multiply T) (hr.mono (by decide)) (by rfl) T.g_p_multiply T.F_p_multiply.kp T.b_p_multiply .nil pass0 (pa_cons (pv 2) (pa_cons (pv 7) pa_nil))) pa_nil))))))))))), ?_⟩
    obtain ⟨P, t, y, xs, rfl, hP, ht, hts, hy⟩ := tie_inv hv
    obtain ⟨pb, rfl, hpb⟩ := dt_fr hy
    have xl : xs.length = tl.length := by
      have := hts.len
      rw [List.length_map] at this
      exact this
    refine ⟨fun σ H1 => H1 = H ∧ σ = [some (.ref P), some (.ref t), some (.ref pb), none, none, none, none, none], ⟨_, rfl, P, _, rfl, .inl (.inl hP), rfl, _, _, rfl, _, _, rfl, rfl, rfl, rfl⟩, fun σ H1 hM => ?_⟩
    obtain ⟨rfl, rfl⟩ := hM
    refine ⟨fun σ H2 => H2 = H1 ∧ σ = [some (.ref P), some (.ref t), some (.ref pb), some (.int 1), none, none, none, none], ⟨rfl, rfl⟩, fun σ H2 hM => ?_⟩
    obtain ⟨rfl, rfl⟩ := hM
    -- under
    refine ⟨fun σ H3 => H3 = H2 ∧ ∃ y4 y5, σ = [some (.ref P), some (.ref t), some (.ref pb), some (.int (lcmF 1 (rts tl))), y4, y5, none, none], ?_, fun σ H3 hM => ?_⟩
    · refine ⟨_, rfl, t, rfl, ⟨_, SqT.of ht⟩, for_tup (K := K) (a := t) (xs := xs) (fun i σ H3 => H3 = H2 ∧ ∃ y4 y5, σ = [some (.ref P), some (.ref t), some (.ref pb), some (.int (lcmF 1 (rts (tl.take i)))), y4, y5, none, none]) ⟨rfl, _, _, rfl⟩ (fun i σ H3 _ hp => by rw [hp.1]; exact SqT.of ht) (fun i x σ H3 hx hp => ?_) (fun σ H3 hp => ?_)⟩
      · obtain ⟨rfl, y4, y5, rfl⟩ := hp
        obtain ⟨d, hd, hdt⟩ := DtAll.at i hts hx
        rw [List.getElem?_map] at hd
        obtain ⟨⟨n, f⟩, he, rfl⟩ := Option.map_eq_some_iff.mp hd
        have tok : f.1 ≠ 0 ∧ BdF f ∧ n.length ≤ 7 := hok.2 _ (List.mem_of_getElem? he)
        change Dt _ _ _ (.tuple [.str (SX.S n), frP f]) at hdt
        match x, hdt with
        | _, .tup (a := pp) hpp (.cons (.str _ _) (.cons hr .nil)) =>
          obtain ⟨pr, rfl, hpr⟩ := dt_fr hr
          have sz := tl_sizes hok i
          have lp : 0 < f.2 := tok.2.1.2
          refine ⟨pp, _, rfl, .inl (.inl hpp), rfl, _, _, rfl, _, _, rfl, rfl, _, rfl, _, rfl, pr, _, _, _, rfl, rfl, SqT.of hpr, t1, _, _, rfl, rfl, wide (f := f) (g := f) (k := 1600) (by decide) sz.2 (Nat.lt_of_lt_of_le tok.2.1.1.2 (Nat.pow_le_pow_right (by decide) (by decide))), _, rfl, _, rfl, pr, _, _, _, rfl, rfl, SqT.of hpr, t1, _, _, rfl, .inr (bd_bn tok.2.1.1.2 (by decide)), _, _, rfl, rfl, ⟨?_, ?_⟩, rfl, some (.str (SX.S n)), some (.ref pr), ?_⟩
          · have := gcd_pos (u := lcmF 1 (rts (tl.take i))) (v := f.2) (by omega)
            omega
          · rw [Int.natAbs_natCast]
            have := gcd_le (u := lcmF 1 (rts (tl.take i))) (v := f.2) (by omega)
            exact log_lt (Nat.lt_of_le_of_lt this (Nat.lt_of_lt_of_le tok.2.1.1.2 (Nat.pow_le_pow_right (by decide) (show 800 ≤ 9000 by decide)))) (by decide)
          · rw [List.take_add_one, he]
            unfold rts
            rw [List.map_append, lcmF_app]
            rfl
      · obtain ⟨rfl, y4, y5, rfl⟩ := hp
        rw [xl, List.take_length]
        exact ⟨rfl, _, _, rfl⟩
    obtain ⟨rfl, y4, y5, rfl⟩ := hM
    refine ⟨fun σ H4 => H4 = H3 ∧ σ = [some (.ref P), some (.ref t), some (.ref pb), some (.int (lcmF 1 (rts tl))), y4, y5, some (.int 0), none], ⟨rfl, rfl⟩, fun σ H4 hM => ?_⟩
    obtain ⟨rfl, rfl⟩ := hM
    obtain ⟨Lp, Lm, Gp, Gm⟩ := scl_ok hok
    have hscl : scl (rts tl) = lowF (lcmF 1 (rts tl)) (gcdF (lcmF 1 (rts tl)) 0 (rts tl)) := rfl
    obtain ⟨ssm, s2p, s1p⟩ := scl_sm hok
    have ssm := ssm.mono (show 1600 ≤ 2048 by decide)
    have Ldv := (lcmF_ok (rts tl) 1 (by decide) fun f hf => (hok.rs.2 f hf).1).2.2
    generalize lcmF 1 (rts tl) = L at *
    -- shared
    refine ⟨fun σ H5 => H5 = H4 ∧ ∃ y4 y5, σ = [some (.ref P), some (.ref t), some (.ref pb), some (.int L), y4, y5, some (.int (gcdF L 0 (rts tl))), none], ?_, fun σ H5 hM => ?_⟩
    · refine ⟨_, rfl, t, rfl, ⟨_, SqT.of ht⟩, for_tup (K := K) (a := t) (xs := xs) (fun i σ H3 => H3 = H4 ∧ ∃ y4 y5, σ = [some (.ref P), some (.ref t), some (.ref pb), some (.int L), y4, y5, some (.int (gcdF L 0 (rts (tl.take i)))), none]) ⟨rfl, _, _, rfl⟩ (fun i σ H3 _ hp => by rw [hp.1]; exact SqT.of ht) (fun i x σ H3 hx hp => ?_) (fun σ H3 hp => ?_)⟩
      · obtain ⟨rfl, y4, y5, rfl⟩ := hp
        obtain ⟨d, hd, hdt⟩ := DtAll.at i hts hx
        rw [List.getElem?_map] at hd
        obtain ⟨⟨n, f⟩, he, rfl⟩ := Option.map_eq_some_iff.mp hd
        have tok : f.1 ≠ 0 ∧ BdF f ∧ n.length ≤ 7 := hok.2 _ (List.mem_of_getElem? he)
        change Dt _ _ _ (.tuple [.str (SX.S n), frP f]) at hdt
        match x, hdt with
        | _, .tup (a := pp) hpp (.cons (.str _ _) (.cons hr .nil)) =>
          obtain ⟨pr, rfl, hpr⟩ := dt_fr hr
          have lp : 0 < f.2 := tok.2.1.2
          have le : (L.fdiv f.2).natAbs < 2 ^ 1600 := by
            have h1 : L.fdiv f.2 ≤ L ∧ 0 ≤ L.fdiv f.2 := by
              rw [Int.fdiv_eq_ediv_of_nonneg _ (by omega)]
              exact ⟨Int.ediv_le_self _ (by omega), Int.ediv_nonneg (by omega) (by omega)⟩
            exact Nat.lt_of_le_of_lt (show (L.fdiv f.2).natAbs ≤ L.natAbs by omega) Lm
          refine ⟨pp, _, rfl, .inl (.inl hpp), rfl, _, _, rfl, _, _, rfl, rfl, _, rfl, _, rfl, _, rfl, pr, _, _, _, rfl, rfl, SqT.of hpr, t1, _, _, rfl, rfl, ⟨by omega, ?_⟩, _, rfl, pr, _, _, _, rfl, rfl, SqT.of hpr, t0, _, _, rfl, rfl, wide (f := f) (g := f) (k := 1600) (by decide) le (Nat.lt_of_lt_of_le tok.2.1.1.1 (Nat.pow_le_pow_right (by decide) (by decide))), _, _, rfl, .inr (log_lt (Nat.lt_of_lt_of_le (show (L.fdiv f.2 * f.1).natAbs < 2 ^ (1600 + 800) by rw [Int.natAbs_mul]; exact pow_mul_lt le tok.2.1.1.1) (Nat.pow_le_pow_right (by decide) (show 1600 + 800 ≤ 4096 by decide))) (by decide)), rfl, some (.str (SX.S n)), some (.ref pr), ?_⟩
          · exact log_lt (Nat.lt_of_lt_of_le tok.2.1.1.2 (Nat.pow_le_pow_right (by decide) (show 800 ≤ 9000 by decide))) (by decide)
          · rw [List.take_add_one, he]
            unfold rts
            rw [List.map_append, gcdF_app]
            rfl
      · obtain ⟨rfl, y4, y5, rfl⟩ := hp
        rw [xl, List.take_length]
        exact ⟨rfl, _, _, rfl⟩
    clear y4 y5
    obtain ⟨rfl, y4, y5, rfl⟩ := hM
    generalize gcdF L 0 (rts tl) = G at *
    -- scale
    refine ⟨fun σ H6 => ∃ ps, H5 ps = none ∧ Same H5 H6 ∧ H6 ps = some (.tup [.int (scl (rts tl)).1, .int (scl (rts tl)).2]) ∧ σ = [some (.ref P), some (.ref t), some (.ref pb), some (.int L), y4, y5, some (.int G), some (.ref ps)], ?_, fun σ H6 hM => ?_⟩
    · refine ⟨_, rfl, _, rfl, _, _, rfl, by omega, log_lt (Nat.lt_of_lt_of_le Gm (Nat.pow_le_pow_right (by decide) (show 1600 ≤ 4096 by decide))) (by decide), fun ps nps => ⟨ps, nps, same_upd nps, ?_, rfl⟩⟩
      rw [hscl]
      exact upd_same
    obtain ⟨ps, nps, s6, hps, rfl⟩ := hM
    have ht6 := s6 _ _ ht
    have hts6 := hts.same s6
    refine ⟨_, rfl, t, rfl, ⟨_, SqT.of ht6⟩, fun D nD => ?_⟩
    refine lc_tup (K := K) (a := t) (xs := xs) (fun i G => Same H6 G ∧ ∃ vs, G D = some (.lst vs) ∧ DtAll z G vs (((redL tl).take i).map tmP)) ⟨same_upd nD, [], upd_same, .nil⟩ (fun i G _ hq => SqT.of (hq.1 _ _ ht6)) (fun i x G hx hq => ?_) (fun G hq => ?_)
    · obtain ⟨sG, vs, hD, hvs⟩ := hq
      obtain ⟨d, hd, hdt⟩ := DtAll.at i hts6 hx
      rw [List.getElem?_map] at hd
      obtain ⟨⟨n, f⟩, he, rfl⟩ := Option.map_eq_some_iff.mp hd
      have tok : f.1 ≠ 0 ∧ BdF f ∧ n.length ≤ 7 := hok.2 _ (List.mem_of_getElem? he)
      change Dt _ _ _ (.tuple [.str (SX.S n), frP f]) at hdt
      have vl : vs.length < sizeLine := by
        have e1 := hvs.len
        rw [List.length_map, List.length_take] at e1
        have := hok.1
        have : (redL tl).length = tl.length := List.length_map ..
        exact small1000 (by omega)
      match x, hdt with
      | _, .tup (a := pp) hpp (.cons (.str _ hn) (.cons hr .nil)) =>
        obtain ⟨pr, rfl, hpr⟩ := dt_fr hr
        refine ⟨pp, _, rfl, .inl (.inl (sG _ _ hpp)), rfl, _, _, rfl, _, _, rfl, rfl, rfl, _, rfl, _, rfl, _, rfl, pr, ps, f, scl (rts tl), rfl, SqT.of (sG _ _ hpr), SqT.of (sG _ _ hps), tok.2.1.2, s2p, tok.2.1.1.mono (by decide), ssm, fun e ne => ?_⟩
        obtain ⟨se, de⟩ := dnewT (z := z) ne (.cons (.int (lowT (f.1 * (scl (rts tl)).1) (f.2 * (scl (rts tl)).2)) (low_mul_bd tok.2.1.1 ssm (by decide) (Int.mul_ne_zero (by have := tok.2.1.2; omega) (by omega))).1) (.cons (.int (lowD (f.1 * (scl (rts tl)).1) (f.2 * (scl (rts tl)).2)) (low_mul_bd tok.2.1.1 ssm (by decide) (Int.mul_ne_zero (by have := tok.2.1.2; omega) (by omega))).2) .nil))
        refine ⟨two_line, fun e2 ne2 => ?_⟩
        obtain ⟨se2, de2⟩ := dnewT (z := z) ne2 (.cons (.str (SX.S n) hn) (.cons de .nil))
        have hD2 := (se.trans se2) _ _ hD
        refine ⟨vs, hD2, vl, fun b o e => (by rw [upd_ne (ne_of_none e nD)]; exact (se.trans se2) _ _ (sG _ _ e)), vs ++ [.ref e2], upd_same, ?_⟩
        have er : (redL tl)[i]? = some (n, redF (scl (rts tl)) f) := by
          unfold redL
          rw [List.getElem?_map, he]
          rfl
        rw [List.take_add_one, er, List.map_append]
        refine DtAll.snoc (hvs.tups ((TT.of (se.trans se2)).trans (TT.upd hD2)) _ _ (noLs_tm _)) ?_
        exact Dt.tups (TT.upd hD2) _ _ rfl de2
    · obtain ⟨sG, vs, hD, hvs⟩ := hq
      have : (redL tl).length = tl.length := List.length_map ..
      rw [xl, ← this, List.take_length] at hvs
      refine ⟨D, vs, rfl, .inl ⟨SqL.of hD, fun l nl => ?_⟩⟩
      obtain ⟨sl, dl⟩ := dnewT (z := z) nl hvs
      have s5 := s6.trans (sG.trans sl)
      refine ⟨_, rfl, _, rfl, pb, ps, b, scl (rts tl), rfl, SqT.of (s5 _ _ hpb), SqT.of ((sG.trans sl) _ _ hps), hb.2, s2p, hb.1.mono (by decide), ssm, fun e ne => ?_⟩
      obtain ⟨se, de⟩ := dnewT (z := z) ne (.cons (.int (lowT (b.1 * (scl (rts tl)).1) (b.2 * (scl (rts tl)).2)) (low_mul_bd hb.1 ssm (by decide) (Int.mul_ne_zero (by have := hb.2; omega) (by omega))).1) (.cons (.int (lowD (b.1 * (scl (rts tl)).1) (b.2 * (scl (rts tl)).2)) (low_mul_bd hb.1 ssm (by decide) (Int.mul_ne_zero (by have := hb.2; omega) (by omega))).2) .nil))
      refine ⟨two_line, fun o no => ?_⟩
      obtain ⟨so, d0⟩ := dnewT (z := z) no (.cons (dl.same se) (.cons de .nil))
      exact q (.ref o) _ (s5.trans (se.trans so)) d0
end
section
variable {P : Program} {w : World} {K : PySem.W.Frag} {mg : Str → Option Value} {base : Heap} {fa : Nat → Addr} {fd : Nat → FuncData}
theorem ok_brief (T : Txt K mg fa fd) : FnOk P w K mg base CX0 5 (fa 57) (fd 57) ["_law_tie"] spReduced := by
  refine T.F_brief.ok sc_brief (fun vs H Q E h => ?_) (fun cdv A outer s H vs Q E hr h => ?_)
  · obtain ⟨v, tl, b, z, rfl, _⟩ := h
    rfl
  · obtain ⟨v, tl, b, z, rfl, hv, hok, hb, q⟩ := h
    refine ⟨_, (C8.pss_cut (ps_asg (pe_tup (pa_cons pe_int (pa_cons pe_int pa_nil))) (pg_tup (by rfl) (pgs_cons (pg_name (i := 1) sc_brief.nd rfl (.inl rfl)) (pgs_cons (pg_name (i := 2) sc_brief.nd rfl (.inl rfl)) pgs_nil))))
      (C8.pss_cut (ps_for PassesOwn.never rfl (pi_tup (pe_ix ix_tup (pv 0) pe_int (fun _ _ => rfl))) (pg_tup (by rfl) (pgs_cons (pg_name (i := 3) sc_brief.nd rfl (.inl rfl)) (pgs_cons (pg_name (i := 4) sc_brief.nd rfl (.inl rfl)) pgs_nil))) (pss_one (ps_set (i := 1) sc_brief.nd rfl (.inl rfl) (pe_op op_fdivG (pe_op op_mulW (pv 1) (pe_ix ix_tup (pv 4) pe_int (fun _ _ => rfl))) (pe_call (ok_gcd T) (hr.mono (by decide)) (by rfl) T.g_gcd T.F_gcd.kp T.b_gcd .nil pass0 (pa_cons (pv 1) (pa_cons (pe_ix ix_tup (pv 4) pe_int (fun _ _ => rfl)) pa_nil)))))))
      (C8.pss_cut (ps_for PassesOwn.never rfl (pi_tup (pe_ix ix_tup (pv 0) pe_int (fun _ _ => rfl))) (pg_tup (by rfl) (pgs_cons (pg_name (i := 3) sc_brief.nd rfl (.inl rfl)) (pgs_cons (pg_name (i := 4) sc_brief.nd rfl (.inl rfl)) pgs_nil))) (pss_one (ps_set (i := 2) sc_brief.nd rfl (.inl rfl) (pe_call (ok_gcd T) (hr.mono (by decide)) (by rfl) T.g_gcd T.F_gcd.kp T.b_gcd .nil pass0 (pa_cons (pv 2) (pa_cons (pe_op op_mulW (pe_ix ix_tup (pv 4) pe_int (fun _ _ => rfl)) (pe_op op_fdivG (pv 1) (pe_ix ix_tup (pv 4) pe_int (fun _ _ => rfl)))) pa_nil))))))
      (C8.pss_cut (ps_set (i := 5) sc_brief.nd rfl (.inr rfl) (pe_call (ok_low T) (hr.mono (by decide)) (by rfl) T.g_low T.F_low.kp T.b_low .nil pass0 (pa_cons (pv 1) (pa_cons (pv 2) pa_nil))))
      (pss_one (ps_ret (pe_tup (pa_cons (pe_callTy call_tuple_of (by rfl) T.m_tuple (by decide +kernel) (pa_cons (pe_lc (own := [("_law_name", 3), ("_law_rate", 4)]) (g := gTup K 2 (gCons (gName 3) (gCons (gName 4) gNil))) (tt := tYes) rfl sc_brief.nd (pi_tup (pe_ix ix_tup (pv 0) pe_int (fun _ _ => rfl))) (blkOk_by (own := [("_law_name", 3), ("_law_rate", 4)]) (N := ["_law_tie", "_law_whole", "_law_part", "_law_name", "_law_rate", "_law_scale"]) (sc := defScope s_brief) (by decide +kernel)) (fun _ _ _ _ _ => pg_tup rfl (pgs_cons (pg_name (i := 3) sc_brief.nd rfl (Or.inl rfl)) (pgs_cons (pg_name (i := 4) sc_brief.nd rfl (Or.inl rfl)) pgs_nil))) (fun _ _ _ _ _ => pts_nil) (fun _ _ _ _ _ => (pe_tup (pa_cons (pv 3) (pa_cons (pe_call (ok_by T) (hr.mono (by decide)) (by rfl) T.g_by T.F_by.kp T.b_by .nil pass0 (pa_cons (pv 4) (pa_cons (pv 5) pa_nil))) pa_nil))))) pa_nil)) (pa_cons (pe_call (ok_by T) (hr.mono (by decide)) (by rfl) T.g_by T.F_by.kp T.b_by .nil pass0 (pa_cons (pe_ix ix_tup (pv 0) pe_int (fun _ _ => rfl)) (pa_cons (pv 5) pa_nil))) pa_nil))))))))), ?_⟩
    obtain ⟨P, t, y, xs, rfl, hP, ht, hts, hy⟩ := tie_inv hv
    obtain ⟨pb, rfl, hpb⟩ := dt_fr hy
    have xl : xs.length = tl.length := by
      have := hts.len
      rw [List.length_map] at this
      exact this
    refine ⟨fun σ H2 => Same H H2 ∧ σ = [some (.ref P), some (.int 1), some (.int 0), none, none, none], ⟨two_line, fun e ne => ⟨e, _, rfl, .inl (.inl upd_same), rfl, _, _, rfl, _, _, rfl, rfl, same_upd ne, rfl⟩⟩, fun σ H2 hM => ?_⟩
    obtain ⟨s2, rfl⟩ := hM
    have hP := s2 _ _ hP
    have ht := s2 _ _ ht
    have hts := hts.same s2
    have hpb := s2 _ _ hpb
    -- under
    refine ⟨fun σ H3 => H3 = H2 ∧ ∃ y4 y5, σ = [some (.ref P), some (.int (lcmF 1 (rts tl))), some (.int 0), y4, y5, none], ?_, fun σ H3 hM => ?_⟩
    · refine ⟨_, rfl, P, _, _, _, rfl, rfl, SqT.of hP, rfl, t, rfl, ⟨_, SqT.of ht⟩, for_tup (K := K) (a := t) (xs := xs) (fun i σ H3 => H3 = H2 ∧ ∃ y4 y5, σ = [some (.ref P), some (.int (lcmF 1 (rts (tl.take i)))), some (.int 0), y4, y5, none]) ⟨rfl, _, _, rfl⟩ (fun i σ H3 _ hp => by rw [hp.1]; exact SqT.of ht) (fun i x σ H3 hx hp => ?_) (fun σ H3 hp => ?_)⟩
      · obtain ⟨rfl, y4, y5, rfl⟩ := hp
        obtain ⟨d, hd, hdt⟩ := DtAll.at i hts hx
        rw [List.getElem?_map] at hd
        obtain ⟨⟨n, f⟩, he, rfl⟩ := Option.map_eq_some_iff.mp hd
        have tok : f.1 ≠ 0 ∧ BdF f ∧ n.length ≤ 7 := hok.2 _ (List.mem_of_getElem? he)
        change Dt _ _ _ (.tuple [.str (SX.S n), frP f]) at hdt
        match x, hdt with
        | _, .tup (a := pp) hpp (.cons (.str _ _) (.cons hr .nil)) =>
          obtain ⟨pr, rfl, hpr⟩ := dt_fr hr
          have sz := tl_sizes hok i
          have lp : 0 < f.2 := tok.2.1.2
          refine ⟨pp, _, rfl, .inl (.inl hpp), rfl, _, _, rfl, _, _, rfl, rfl, _, rfl, _, rfl, pr, _, _, _, rfl, rfl, SqT.of hpr, t1, _, _, rfl, rfl, wide (f := f) (g := f) (k := 1600) (by decide) sz.2 (Nat.lt_of_lt_of_le tok.2.1.1.2 (Nat.pow_le_pow_right (by decide) (by decide))), _, rfl, _, rfl, pr, _, _, _, rfl, rfl, SqT.of hpr, t1, _, _, rfl, _, _, rfl, rfl, ⟨?_, ?_⟩, rfl, some (.str (SX.S n)), some (.ref pr), ?_⟩
          · have := gcd_pos (u := lcmF 1 (rts (tl.take i))) (v := f.2) (by omega)
            omega
          · rw [Int.natAbs_natCast]
            have := gcd_le (u := lcmF 1 (rts (tl.take i))) (v := f.2) (by omega)
            exact log_lt (Nat.lt_of_le_of_lt this (Nat.lt_of_lt_of_le tok.2.1.1.2 (Nat.pow_le_pow_right (by decide) (show 800 ≤ 9000 by decide)))) (by decide)
          · rw [List.take_add_one, he]
            unfold rts
            rw [List.map_append, lcmF_app]
            rfl
      · obtain ⟨rfl, y4, y5, rfl⟩ := hp
        rw [xl, List.take_length]
        exact ⟨rfl, _, _, rfl⟩
    obtain ⟨rfl, y4, y5, rfl⟩ := hM
    obtain ⟨Lp, Lm, Gp, Gm⟩ := scl_ok hok
    have hscl : scl (rts tl) = lowF (lcmF 1 (rts tl)) (gcdF (lcmF 1 (rts tl)) 0 (rts tl)) := rfl
    obtain ⟨ssm, s2p, s1p⟩ := scl_sm hok
    have ssm := ssm.mono (show 1600 ≤ 2048 by decide)
    have Ldv := (lcmF_ok (rts tl) 1 (by decide) fun f hf => (hok.rs.2 f hf).1).2.2
    generalize lcmF 1 (rts tl) = L at *
    -- shared
    refine ⟨fun σ H5 => H5 = H3 ∧ ∃ y4 y5, σ = [some (.ref P), some (.int L), some (.int (gcdF L 0 (rts tl))), y4, y5, none], ?_, fun σ H5 hM => ?_⟩
    · refine ⟨_, rfl, P, _, _, _, rfl, rfl, SqT.of hP, rfl, t, rfl, ⟨_, SqT.of ht⟩, for_tup (K := K) (a := t) (xs := xs) (fun i σ H4 => H4 = H3 ∧ ∃ y4 y5, σ = [some (.ref P), some (.int L), some (.int (gcdF L 0 (rts (tl.take i)))), y4, y5, none]) ⟨rfl, _, _, rfl⟩ (fun i σ H3 _ hp => by rw [hp.1]; exact SqT.of ht) (fun i x σ H3 hx hp => ?_) (fun σ H3 hp => ?_)⟩
      · obtain ⟨rfl, y4, y5, rfl⟩ := hp
        obtain ⟨d, hd, hdt⟩ := DtAll.at i hts hx
        rw [List.getElem?_map] at hd
        obtain ⟨⟨n, f⟩, he, rfl⟩ := Option.map_eq_some_iff.mp hd
        have tok : f.1 ≠ 0 ∧ BdF f ∧ n.length ≤ 7 := hok.2 _ (List.mem_of_getElem? he)
        change Dt _ _ _ (.tuple [.str (SX.S n), frP f]) at hdt
        match x, hdt with
        | _, .tup (a := pp) hpp (.cons (.str _ _) (.cons hr .nil)) =>
          obtain ⟨pr, rfl, hpr⟩ := dt_fr hr
          have lp : 0 < f.2 := tok.2.1.2
          have le : (L.fdiv f.2).natAbs < 2 ^ 1600 := by
            have h1 : L.fdiv f.2 ≤ L ∧ 0 ≤ L.fdiv f.2 := by
              rw [Int.fdiv_eq_ediv_of_nonneg _ (by omega)]
              exact ⟨Int.ediv_le_self _ (by omega), Int.ediv_nonneg (by omega) (by omega)⟩
            exact Nat.lt_of_le_of_lt (show (L.fdiv f.2).natAbs ≤ L.natAbs by omega) Lm
          refine ⟨pp, _, rfl, .inl (.inl hpp), rfl, _, _, rfl, _, _, rfl, rfl, _, rfl, _, rfl, pr, _, _, _, rfl, rfl, SqT.of hpr, t0, _, rfl, _, rfl, pr, _, _, _, rfl, rfl, SqT.of hpr, t1, _, _, rfl, rfl, ⟨by omega, ?_⟩, _, _, rfl, rfl, wide (f := f) (g := f) (k := 1600) (by decide) (Nat.lt_of_lt_of_le tok.2.1.1.1 (Nat.pow_le_pow_right (by decide) (by decide))) le, _, _, rfl, rfl, some (.str (SX.S n)), some (.ref pr), ?_⟩
          · exact log_lt (Nat.lt_of_lt_of_le tok.2.1.1.2 (Nat.pow_le_pow_right (by decide) (show 800 ≤ 9000 by decide))) (by decide)
          · rw [List.take_add_one, he]
            unfold rts
            rw [List.map_append, gcdF_app, Int.mul_comm f.1]
            rfl
      · obtain ⟨rfl, y4, y5, rfl⟩ := hp
        rw [xl, List.take_length]
        exact ⟨rfl, _, _, rfl⟩
    clear y4 y5
    obtain ⟨rfl, y4, y5, rfl⟩ := hM
    generalize gcdF L 0 (rts tl) = G at *
    -- scale
    refine ⟨fun σ H6 => ∃ ps, H5 ps = none ∧ Same H5 H6 ∧ H6 ps = some (.tup [.int (scl (rts tl)).1, .int (scl (rts tl)).2]) ∧ σ = [some (.ref P), some (.int L), some (.int G), y4, y5, some (.ref ps)], ?_, fun σ H6 hM => ?_⟩
    · refine ⟨_, rfl, _, rfl, _, _, rfl, by omega, log_lt (Nat.lt_of_lt_of_le Gm (Nat.pow_le_pow_right (by decide) (show 1600 ≤ 4096 by decide))) (by decide), fun ps nps => ⟨ps, nps, same_upd nps, ?_, rfl⟩⟩
      rw [hscl]
      exact upd_same
    obtain ⟨ps, nps, s6, hps, rfl⟩ := hM
    have ht6 := s6 _ _ ht
    have hts6 := hts.same s6
    refine ⟨_, rfl, P, _, _, _, rfl, rfl, SqT.of (s6 _ _ hP), rfl, t, rfl, ⟨_, SqT.of ht6⟩, fun D nD => ?_⟩
    refine lc_tup (K := K) (a := t) (xs := xs) (fun i G => Same H6 G ∧ ∃ vs, G D = some (.lst vs) ∧ DtAll z G vs (((redL tl).take i).map tmP)) ⟨same_upd nD, [], upd_same, .nil⟩ (fun i G _ hq => SqT.of (hq.1 _ _ ht6)) (fun i x G hx hq => ?_) (fun G hq => ?_)
    · obtain ⟨sG, vs, hD, hvs⟩ := hq
      obtain ⟨d, hd, hdt⟩ := DtAll.at i hts6 hx
      rw [List.getElem?_map] at hd
      obtain ⟨⟨n, f⟩, he, rfl⟩ := Option.map_eq_some_iff.mp hd
      have tok : f.1 ≠ 0 ∧ BdF f ∧ n.length ≤ 7 := hok.2 _ (List.mem_of_getElem? he)
      change Dt _ _ _ (.tuple [.str (SX.S n), frP f]) at hdt
      have vl : vs.length < sizeLine := by
        have e1 := hvs.len
        rw [List.length_map, List.length_take] at e1
        have := hok.1
        have : (redL tl).length = tl.length := List.length_map ..
        exact small1000 (by omega)
      match x, hdt with
      | _, .tup (a := pp) hpp (.cons (.str _ hn) (.cons hr .nil)) =>
        obtain ⟨pr, rfl, hpr⟩ := dt_fr hr
        refine ⟨pp, _, rfl, .inl (.inl (sG _ _ hpp)), rfl, _, _, rfl, _, _, rfl, rfl, rfl, _, rfl, _, rfl, _, rfl, pr, ps, f, scl (rts tl), rfl, SqT.of (sG _ _ hpr), SqT.of (sG _ _ hps), tok.2.1.2, s2p, tok.2.1.1.mono (by decide), ssm, fun e ne => ?_⟩
        obtain ⟨se, de⟩ := dnewT (z := z) ne (.cons (.int (lowT (f.1 * (scl (rts tl)).1) (f.2 * (scl (rts tl)).2)) (low_mul_bd tok.2.1.1 ssm (by decide) (Int.mul_ne_zero (by have := tok.2.1.2; omega) (by omega))).1) (.cons (.int (lowD (f.1 * (scl (rts tl)).1) (f.2 * (scl (rts tl)).2)) (low_mul_bd tok.2.1.1 ssm (by decide) (Int.mul_ne_zero (by have := tok.2.1.2; omega) (by omega))).2) .nil))
        refine ⟨two_line, fun e2 ne2 => ?_⟩
        obtain ⟨se2, de2⟩ := dnewT (z := z) ne2 (.cons (.str (SX.S n) hn) (.cons de .nil))
        have hD2 := (se.trans se2) _ _ hD
        refine ⟨vs, hD2, vl, fun b o e => (by rw [upd_ne (ne_of_none e nD)]; exact (se.trans se2) _ _ (sG _ _ e)), vs ++ [.ref e2], upd_same, ?_⟩
        have er : (redL tl)[i]? = some (n, redF (scl (rts tl)) f) := by
          unfold redL
          rw [List.getElem?_map, he]
          rfl
        rw [List.take_add_one, er, List.map_append]
        refine DtAll.snoc (hvs.tups ((TT.of (se.trans se2)).trans (TT.upd hD2)) _ _ (noLs_tm _)) ?_
        exact Dt.tups (TT.upd hD2) _ _ rfl de2
    · obtain ⟨sG, vs, hD, hvs⟩ := hq
      have : (redL tl).length = tl.length := List.length_map ..
      rw [xl, ← this, List.take_length] at hvs
      refine ⟨D, vs, rfl, .inl ⟨SqL.of hD, fun l nl => ?_⟩⟩
      obtain ⟨sl, dl⟩ := dnewT (z := z) nl hvs
      have s5 := s6.trans (sG.trans sl)
      refine ⟨_, rfl, P, _, _, _, rfl, rfl, SqT.of (s5 _ _ hP), rfl, _, rfl, pb, ps, b, scl (rts tl), rfl, SqT.of (s5 _ _ hpb), SqT.of ((sG.trans sl) _ _ hps), hb.2, s2p, hb.1.mono (by decide), ssm, fun e ne => ?_⟩
      obtain ⟨se, de⟩ := dnewT (z := z) ne (.cons (.int (lowT (b.1 * (scl (rts tl)).1) (b.2 * (scl (rts tl)).2)) (low_mul_bd hb.1 ssm (by decide) (Int.mul_ne_zero (by have := hb.2; omega) (by omega))).1) (.cons (.int (lowD (b.1 * (scl (rts tl)).1) (b.2 * (scl (rts tl)).2)) (low_mul_bd hb.1 ssm (by decide) (Int.mul_ne_zero (by have := hb.2; omega) (by omega))).2) .nil))
      refine ⟨two_line, fun o no => ?_⟩
      obtain ⟨so, d0⟩ := dnewT (z := z) no (.cons (dl.same se) (.cons de .nil))
      exact q (.ref o) _ (s2.trans (s5.trans (se.trans so))) d0
end
/-! ### names in order, any number of them -/
def leN (a b : List Nat) : Prop := ltCps b a = false
theorem ltc (a b : List Nat) : ltCps a b = decide (a < b) := by
  have h := lt_meets (SX.S a) (SX.S b)
  rw [S_list, S_list] at h
  exact h.symm
theorem leN_iff {a b : List Nat} : leN a b ↔ a ≤ b := by
  unfold leN
  rw [ltc, decide_eq_false_iff_not, List.not_lt]
theorem leN_trans {a b c : List Nat} (h : leN a b) (k : leN b c) : leN a c := leN_iff.mpr (List.le_trans (leN_iff.mp h) (leN_iff.mp k))
theorem leN_anti {a b : List Nat} (h : leN a b) (k : leN b a) : a = b := by
  by_cases e : a = b
  · exact e
  · have := lt_tri a b h e
    rw [show ltCps a b = false from k] at this
    cases this
def leStr (a b : Str) : Prop := leN a.cps.toList b.cps.toList
theorem srt_pw : ∀ (l : List Str), sortedS l = true → l.Pairwise leStr
  | [], _ => .nil
  | [x], _ => List.pairwise_singleton _ _
  | x :: y :: r, h => by
    have h : (!ltCps y.cps.toList x.cps.toList && risingS y r) = true := h
    rw [Bool.and_eq_true, Bool.not_eq_true'] at h
    have ih := srt_pw (y :: r) h.2
    refine List.Pairwise.cons (fun z hz => ?_) ih
    rcases List.mem_cons.mp hz with rfl | hz
    · exact h.1
    · exact leN_trans h.1 ((List.pairwise_cons.mp ih).1 z hz)
theorem str_ext {a b : Str} (h : a.cps.toList = b.cps.toList) : a = b := by rw [← S_of a, ← S_of b, h]
theorem srt_unique {l r : List Str} (hl : l.Pairwise leStr) (hr : r.Pairwise leStr) (h : l.Perm r) : l = r :=
  List.Perm.eq_of_pairwise (fun _ _ _ _ h k => str_ext (leN_anti h k)) hl hr h
theorem zero_sub {f : FR} (h : Nf f) : subL (0, 1) f = negF f := by
  unfold subL
  dsimp only
  rw [Int.zero_mul, Int.mul_one, Int.one_mul, Int.zero_sub, lowF_neg (by have := h.1; omega), low_nf h]
section
variable {P : Program} {w : World} {K : PySem.W.Frag} {mg : Str → Option Value} {base : Heap} {fa : Nat → Addr} {fd : Nat → FuncData}
def diff (u v : List Nat → FR) : List Nat → FR := fun x => subL (u x) (v x)
/-- the names of a tie, ascending -/
structure Nms (N : List (List Nat)) (D : List Nat → FR) (ns : List (List Nat)) : Prop where
  perm : ns.Perm (N.filter (nz D))
  srt : (ns.map SX.S).Pairwise leStr
structure Sides (K : PySem.W.Frag) (H : Hp) (a b : Addr) (N M : List (List Nat)) (u v : List Nat → FR) : Prop where
  ha : RD K H a N u
  hb : RD K H b M v
  ou : ValOk N u
  ov : ValOk M v
  ln : N.length ≤ 31
  lm : M.length ≤ 31
  sm : ∀ x, Bn 800 (diff u v x)
theorem Sides.same {K : PySem.W.Frag} {H H' : Hp} {a b : Addr} {N M : List (List Nat)} {u v : List Nat → FR} (h : Sides K H a b N M u v) (s : Same H H') : Sides K H' a b N M u v := ⟨h.ha.same s, h.hb.same s, h.ou, h.ov, h.ln, h.lm, h.sm⟩
theorem Sides.nf {K : PySem.W.Frag} {H : Hp} {a b : Addr} {N M : List (List Nat)} {u v : List Nat → FR} (h : Sides K H a b N M u v) (x : List Nat) : Nf (diff u v x) := subL_nf (h.ou.1 x).1.1 (h.ov.1 x).1.1
def tlOf (D : List Nat → FR) (ns : List (List Nat)) : List It := ns.map fun x => (x, D x)
def spBelow (K : PySem.W.Frag) : Sp := fun vs H Q _ => ∃ (a b : Addr) (N M : List (List Nat)) (u v : List Nat → FR) (z : Addr) (ns : List (List Nat)), vs = [.ref a, .ref b] ∧ Sides K H a b N M u v ∧ [] ∈ N ∧ (∀ x ∈ broN N M, x.length ≤ 7) ∧ Nms (broN N M) (diff u v) ns ∧ (ns.length = 1 ∨ ns.length = 2) ∧
  ∀ v' H', Same H H' → Dt z H' v' (redP (tlOf (diff u v) ns) (negF (diff u v []))) → Q v' H'
theorem ok_p_tie_below (T : Txt K mg fa fd) : FnOk P w K mg base CX0 6 (fa 42) (fd 42) ["left", "right"] (spBelow K) := by
  refine T.F_p_tie_below.ok sc_p_tie_below (fun vs H Q E h => ?_) (fun cdv A outer s H vs Q E hr h => ?_)
  · obtain ⟨a, b, N, M, u, v, z, ns, rfl, _⟩ := h
    rfl
  · obtain ⟨a, b, N, M, u, v, z, ns, rfl, hs, hN, h7, hns, hl, q⟩ := h
    refine ⟨_, (C8.pss_cut (ps_set (i := 2) sc_p_tie_below.nd rfl (.inr rfl) (pe_call (ok_p_brought_together T) (hr.mono (by decide)) (by rfl) T.g_p_brought_together T.F_p_brought_together.kp T.b_p_brought_together .nil pass0 (pa_cons (pv 0) (pa_cons (pv 1) pa_nil))))
      (C8.pss_cut (ps_set (i := 3) sc_p_tie_below.nd rfl (.inl rfl) (pe_callTy call_tuple_of (by rfl) T.m_tuple (by decide +kernel) (pa_cons (pe_lc (own := [("name", 4)]) (g := gName 4) (tt := tYes) rfl sc_p_tie_below.nd (pi_list (pe_call (ok_p_ascending_names T) (hr.mono (by decide)) (by rfl) T.g_p_ascending_names T.F_p_ascending_names.kp T.b_p_ascending_names .nil pass0 (pa_cons (pv 2) pa_nil))) (blkOk_by (own := [("name", 4)]) (N := ["left", "right", "rates", "terms", "name"]) (sc := defScope s_p_tie_below) (by decide +kernel)) (fun _ _ _ _ _ => pg_name (i := 4) sc_p_tie_below.nd rfl (Or.inl rfl)) (fun _ _ _ _ _ => pts_nil) (fun _ _ _ _ _ => (pe_tup (pa_cons (pv 4) (pa_cons (pe_dget (Nat.lt_of_le_of_lt (Nat.add_le_add_left (by decide) _) hr.units) (pv 2) (pv 4) (fun _ _ => rfl)) pa_nil))))) pa_nil)))
      (pss_one (ps_ret (pe_call (ok_p_reduced T) (hr.mono (by decide)) (by rfl) T.g_p_reduced T.F_p_reduced.kp T.b_p_reduced .nil pass0 (pa_cons (pe_tup (pa_cons (pv 3) (pa_cons (pe_call (ok_p_subtract T) (hr.mono (by decide)) (by rfl) T.g_p_subtract T.F_p_subtract.kp T.b_p_subtract .nil pass0 (pa_cons (C8.pe_gc (by rfl) T.c_ZERO) (pa_cons (pe_dget (Nat.lt_of_le_of_lt (Nat.add_le_add_left (by decide) _) hr.units) (pv 2) pe_str (fun _ _ => rfl)) pa_nil))) pa_nil))) pa_nil)))))), ?_⟩
    have blen := broN_len M N
    have nl := hs.ln
    have ml := hs.lm
    refine ⟨fun σ H1 => Same H H1 ∧ ∃ d, RD K H1 d (broN N M) (diff u v) ∧ σ = [some (.ref a), some (.ref b), some (.ref d), none, none], ⟨_, rfl, _, rfl, a, b, N, M, u, v, rfl, hs.ha, hs.hb, hs.ou, hs.ov, by omega, by omega, fun d H1 s1 _ hd => ⟨s1, d, hd, rfl⟩⟩, fun σ H1 hM => ?_⟩
    obtain ⟨s1, d, hd, rfl⟩ := hM
    have inB : [] ∈ broN N M := (broN_mem _ _).mpr (.inl hN)
    have nsIn : ∀ x ∈ ns, x ∈ broN N M ∧ nz (diff u v) x = true := fun x hx => List.mem_filter.mp (hns.perm.mem_iff.mp hx)
    -- terms
    refine ⟨fun σ H2 => Same H1 H2 ∧ ∃ t vs, H2 t = some (.tup vs) ∧ DtAll z H2 vs ((tlOf (diff u v) ns).map tmP) ∧ ∃ y, σ = [some (.ref a), some (.ref b), some (.ref d), some (.ref t), y], ?_, fun σ H2 hM => ?_⟩
    · refine ⟨_, rfl, d, _, _, rfl, hd, by omega, fun ys l H2 s2 hl2 perm srt => ?_⟩
      have e : ys = ns.map SX.S := srt_unique (srt_pw ys srt) hns.srt (perm.trans (hns.perm.map SX.S).symm)
      subst e
      rw [List.map_map] at hl2
      refine ⟨l, rfl, ⟨_, SqL.of hl2⟩, fun D nD => ?_⟩
      have hd2 := hd.same s2
      refine lc_list (K := K) (a := l) (xs := ns.map (V.str ∘ SX.S)) (fun i G => Same H2 G ∧ ∃ vs, G D = some (.lst vs) ∧ DtAll z G vs (((tlOf (diff u v) ns).take i).map tmP)) ⟨same_upd nD, [], upd_same, .nil⟩ (fun i G _ h => SqL.of (h.1 _ _ hl2)) (fun i x G hx h => ?_) (fun G h => ?_)
      · obtain ⟨sG, vs, hD, hvs⟩ := h
        rw [List.getElem?_map] at hx
        obtain ⟨x, hxi, rfl⟩ := Option.map_eq_some_iff.mp hx
        have hxm := List.mem_of_getElem? hxi
        obtain ⟨kvs, hk, hR⟩ := hd2.same sG
        obtain ⟨p, ep, fp⟩ := hR.2.2 x (nsIn x hxm).1
        have vl : vs.length < sizeLine := by
          have e1 := hvs.len
          rw [List.length_map, List.length_take] at e1
          have : (tlOf (diff u v) ns).length = ns.length := List.length_map ..
          exact small1000 (by omega)
        have h2 := (nsIn x hxm).2
        unfold nz at h2
        rw [Bool.and_eq_true, decide_eq_true_eq, decide_eq_true_eq] at h2
        have hp : G p = some (trF (diff u v x)) := fp.2.resolve_left fun z => h2.2 (by rw [z])
        refine ⟨rfl, _, rfl, _, rfl, _, rfl, d, _, rfl, by rw [← ep]; exact DGet.k (k := keyOf x) hk, two_line, fun e ne => ?_⟩
        have x7 := h7 x (nsIn x hxm).1
        obtain ⟨se, de⟩ := dnewT (z := z) ne (.cons (.str (SX.S x) (by rw [SX.S_len]; omega)) (.cons (.tup hp (.cons (.int (diff u v x).1 (bd_bn (hs.sm x).1 (by decide))) (.cons (.int (diff u v x).2 (bd_bn (hs.sm x).2 (by decide))) .nil))) .nil))
        have hD2 := se _ _ hD
        refine ⟨vs, hD2, vl, fun b o eb => (by rw [upd_ne (ne_of_none eb nD)]; exact se _ _ (sG _ _ eb)), vs ++ [.ref e], upd_same, ?_⟩
        have er : (tlOf (diff u v) ns)[i]? = some (x, diff u v x) := by
          unfold tlOf
          rw [List.getElem?_map, hxi]
          rfl
        rw [List.take_add_one, er, List.map_append]
        refine DtAll.snoc (hvs.tups ((TT.of se).trans (TT.upd hD2)) _ _ (noLs_tm _)) ?_
        exact Dt.tups (TT.upd hD2) _ _ rfl de
      · obtain ⟨sG, vs, hD, hvs⟩ := h
        rw [List.length_map, show ns.length = (tlOf (diff u v) ns).length from (List.length_map ..).symm, List.take_length] at hvs
        refine ⟨D, vs, rfl, .inl ⟨SqL.of hD, fun t nt => ?_⟩⟩
        exact ⟨s2.trans (sG.trans (same_upd nt)), t, vs, upd_same, hvs.same (same_upd nt), _, rfl⟩
    obtain ⟨s2, t, vs, ht, hvs, y, rfl⟩ := hM
    obtain ⟨kvs, hk, hR⟩ := hd.same s2
    obtain ⟨p, ep, fp⟩ := hR.2.2 [] inB
    refine ⟨_, rfl, _, rfl, d, _, rfl, by rw [emptyS, ← ep]; exact DGet.k (k := keyOf []) hk, ?_⟩
    refine ⟨fa 2000, p, (0, 1), diff u v [], rfl, T.z_ZERO _, fp.1, by decide, (hs.nf []).1, ⟨by decide +kernel, by decide +kernel⟩, (hs.sm []).mono (by decide), fun e ne => ?_⟩
    rw [zero_sub (hs.nf [])]
    obtain ⟨se, de⟩ := dnewT (z := z) ne (.cons (.int (negF (diff u v [])).1 (bd_bn (hs.sm []).neg.1 (by decide))) (.cons (.int (negF (diff u v [])).2 (bd_bn (hs.sm []).neg.2 (by decide))) .nil))
    refine ⟨two_line, fun o no => ?_⟩
    obtain ⟨so, d0⟩ := dnewT (z := z) no (.cons (.tup (se _ _ ht) (hvs.same se)) (.cons de .nil))
    refine ⟨.ref o, tlOf (diff u v) ns, negF (diff u v []), z, rfl, d0, ⟨?_, fun tt htt => ?_⟩, ⟨(hs.sm []).neg, (hs.nf []).1⟩, fun v' H' s' hd' => q v' H' (s1.trans (s2.trans (se.trans (so.trans s')))) hd'⟩
    · show (ns.map _).length = 1 ∨ (ns.map _).length = 2
      rw [List.length_map]
      exact hl
    · obtain ⟨x, hx, rfl⟩ := List.mem_map.mp htt
      obtain ⟨h1, h2⟩ := nsIn x hx
      unfold nz at h2
      rw [Bool.and_eq_true, decide_eq_true_eq, decide_eq_true_eq] at h2
      exact ⟨h2.2, ⟨hs.sm x, (hs.nf x).1⟩, h7 x h1⟩
end
/-! ### what is read from a text -/
def parseP (S : List (Sy × Nat)) : Except Nat (List It × List Nat × List It) :=
  match headP S 0 with
  | .error i => .error i
  | .ok (l, k1) => match S[k1]? with
    | some (.rel g, _) => match headP S (k1 + 1) with
      | .error i => .error i
      | .ok (r, k2) => match S[k2]? with
        | some (.fin, _) => .ok (l, g, r)
        | some (_, i) => .error i
        | none => .error 0
    | some (_, i) => .error i
    | none => .error 0
def isRel : Sy → Bool
  | .rel _ => true
  | _ => false
theorem sort_rel (s : Sy) : decide (V.str (sortS s) = V.str (Str.ofString "relation")) = isRel s := by
  have nb : (Str.ofString "number" : Str) ≠ Str.ofString "relation" := by decide +kernel
  have ab : (Str.ofString "bad" : Str) ≠ Str.ofString "relation" := by decide +kernel
  have rb : (Str.ofString "name" : Str) ≠ Str.ofString "relation" := by decide +kernel
  have eb : (Str.ofString "end" : Str) ≠ Str.ofString "relation" := by decide +kernel
  have b3 : (Str.ofString "relation" : Str).length = 8 := by decide +kernel
  cases s with
  | num f => exact decide_eq_false (fun z => nb (V.str.inj z))
  | bad => exact decide_eq_false (fun z => ab (V.str.inj z))
  | name r => exact decide_eq_false (fun z => rb (V.str.inj z))
  | fin => exact decide_eq_false (fun z => eb (V.str.inj z))
  | rel x => exact decide_eq_true rfl
  | sign c => exact decide_eq_false (fun z => by
      have e := congrArg Str.length (V.str.inj z)
      rw [b3, show sortS (.sign c) = SX.S [c] from rfl, SX.S_len] at e
      cases e)
theorem sort_end (s : Sy) : decide (V.str (sortS s) = V.str (Str.ofString "end")) = isFin s := by
  have nb : (Str.ofString "number" : Str) ≠ Str.ofString "end" := by decide +kernel
  have ab : (Str.ofString "bad" : Str) ≠ Str.ofString "end" := by decide +kernel
  have rb : (Str.ofString "name" : Str) ≠ Str.ofString "end" := by decide +kernel
  have eb : (Str.ofString "relation" : Str) ≠ Str.ofString "end" := by decide +kernel
  have b3 : (Str.ofString "end" : Str).length = 3 := by decide +kernel
  cases s with
  | num f => exact decide_eq_false (fun z => nb (V.str.inj z))
  | bad => exact decide_eq_false (fun z => ab (V.str.inj z))
  | name r => exact decide_eq_false (fun z => rb (V.str.inj z))
  | rel x => exact decide_eq_false (fun z => eb (V.str.inj z))
  | fin => exact decide_eq_true rfl
  | sign c => exact decide_eq_false (fun z => by
      have e := congrArg Str.length (V.str.inj z)
      rw [b3, show sortS (.sign c) = SX.S [c] from rfl, SX.S_len] at e
      cases e)
theorem int_in12 (n : Nat) : inV (V.int (n : Int)) [V.int 1, .int 2] = decide (n = 1 ∨ n = 2) := by
  show (((1 : Int) == (n : Int)) || (((2 : Int) == (n : Int)) || false)) = _
  rw [Bool.or_false, Bool.eq_iff_iff, Bool.or_eq_true, beq_iff_eq, beq_iff_eq, decide_eq_true_eq]
  omega
theorem SyL.mono {S : List (Sy × Nat)} {w c w' c' : Nat} (h : SyL S w c) (h1 : w ≤ w') (h2 : c ≤ c') : SyL S w' c' := ⟨h.ends, h.nums, Nat.le_trans h.wt h1, Nat.le_trans h.ct h2⟩
theorem foldN_nodup : ∀ (l : List It) (N : List (List Nat)), N.Nodup → (l.foldl (fun N it => addN N it.1) N).Nodup
  | [], _, h => h
  | it :: l, _, h => foldN_nodup l _ (addN_nodup h it.1)
theorem keysL_nodup (l : List It) : (keysL l).Nodup := foldN_nodup l _ (by decide)
theorem broN_nodup : ∀ (M N : List (List Nat)), N.Nodup → (broN N M).Nodup
  | [], _, h => h
  | x :: M, _, h => broN_nodup M _ (addN_nodup h x)
theorem nz_anti {u v : List Nat → FR} (hu : ∀ x, Nf (u x)) (hv : ∀ x, Nf (v x)) (x : List Nat) : nz (diff v u) x = nz (diff u v) x := by
  unfold nz diff
  rw [sub_anti (hu x).1 (hv x).1]
  show (decide (x ≠ []) && decide (-(subL (u x) (v x)).1 ≠ 0)) = _
  congr 1
  rw [decide_eq_decide]
  omega
theorem Nms.swap {N M : List (List Nat)} {u v : List Nat → FR} {ns : List (List Nat)} (hN : N.Nodup) (hM : M.Nodup) (hu : ∀ x, Nf (u x)) (hv : ∀ x, Nf (v x)) (h : Nms (broN N M) (diff u v) ns) : Nms (broN M N) (diff v u) ns := by
  refine ⟨h.perm.trans ?_, h.srt⟩
  refine (List.perm_ext_iff_of_nodup ((broN_nodup M N hN).filter _) ((broN_nodup N M hM).filter _)).mpr fun x => ?_
  rw [List.mem_filter, List.mem_filter, broN_mem, broN_mem, nz_anti hu hv, or_comm]
theorem keysL_mem {y : List Nat} (l : List It) : y ∈ keysL l ↔ y = [] ∨ ∃ it ∈ l, it.1 = y := by
  unfold keysL
  rw [foldN_mem, List.mem_singleton]
/-- two sums that were read -/
structure Two (l r : List It) : Prop where
  nl : ∀ it ∈ l, Nf it.2 ∧ it.1.length ≤ 7
  nr : ∀ it ∈ r, Nf it.2 ∧ it.1.length ≤ 7
  w : wIt l + wIt r ≤ 700
  ll : l.length ≤ 22
  lr : r.length ≤ 22
theorem Two.sides {l r : List It} (h : Two l r) {K : PySem.W.Frag} {H : Hp} {a b : Addr} (ha : RD K H a (keysL l) (valL l)) (hb : RD K H b (keysL r) (valL r)) : Sides K H a b (keysL l) (keysL r) (valL l) (valL r) := by
  have nl := fun x => sumX_nf x l _ nf_01 fun it hit => (h.nl it hit).1
  have nr := fun x => sumX_nf x r _ nf_01 fun it hit => (h.nr it hit).1
  have bl := fun x => sumX_bn x l (0, 1) 1 nf_01 bn_01 fun it hit => (h.nl it hit).1
  have br := fun x => sumX_bn x r (0, 1) 1 nf_01 bn_01 fun it hit => (h.nr it hit).1
  have hw := h.w
  have kl := keysL_len l
  have kr := keysL_len r
  have h1 := h.ll
  have h2 := h.lr
  exact ⟨ha, hb, ⟨fun x => ⟨nl x, (bl x).mono (by omega)⟩, fun x hx => valL_none hx⟩, ⟨fun x => ⟨nr x, (br x).mono (by omega)⟩, fun x hx => valL_none hx⟩, by omega, by omega, fun x => (Bn.sub (bl x) (br x) (nl x).1 (nr x).1).mono (by omega)⟩
theorem Two.names {l r : List It} (h : Two l r) : ∀ x ∈ broN (keysL l) (keysL r), x.length ≤ 7 := fun x hx => by
  rcases (broN_mem _ _).mp hx with hx | hx
  · rcases (keysL_mem l).mp hx with rfl | ⟨it, hit, rfl⟩
    · exact Nat.zero_le _
    · exact (h.nl it hit).2
  · rcases (keysL_mem r).mp hx with rfl | ⟨it, hit, rfl⟩
    · exact Nat.zero_le _
    · exact (h.nr it hit).2
theorem Two.swap {l r : List It} (h : Two l r) : Two r l := ⟨h.nr, h.nl, by have := h.w; omega, h.lr, h.ll⟩
def namesLR (l r : List It) : List (List Nat) := (broN (keysL l) (keysL r)).filter (nz (diff (valL l) (valL r)))
def oneP (l r : List It) (ns : List (List Nat)) : PyData := redP (tlOf (diff (valL l) (valL r)) ns) (negF (diff (valL l) (valL r) []))
def resD (l : List It) (g : List Nat) (r : List It) (ns : List (List Nat)) : List PyData :=
  if g = [60, 61] then [oneP l r ns] else if g = [62, 61] then [oneP r l ns] else [oneP l r ns, oneP r l ns]
theorem two_of {S : List (Sy × Nat)} (hS : SyL S 700 20) {l r : List It} {k1 k2 : Nat} (h1 : SumOk S 0 l k1) (h2 : SumOk S (k1 + 1) r k2) : Two l r := by
  obtain ⟨a1, a2, a3, a4, a5⟩ := h1
  obtain ⟨b1, b2, b3, b4, b5⟩ := h2
  have w0 := hS.wt
  have c0 := hS.ct
  rw [List.drop_zero] at a2 a3
  have w1 : wS (S.drop (k1 + 1)) ≤ wS (S.drop k1) := by
    rw [← List.drop_drop]
    exact wS_drop _ _
  have c1 : cS (S.drop (k1 + 1)) ≤ cS (S.drop k1) := by
    rw [← List.drop_drop]
    exact cS_drop _ _
  exact ⟨a1, b1, by omega, by omega, by omega⟩
section
variable {P : Program} {w : World} {K : PySem.W.Frag} {mg : Str → Option Value} {base : Heap} {fa : Nat → Addr} {fd : Nat → FuncData}
theorem scNT : FnScope ["self", "many"] ["self", "many"] (defScope (inClass (topS 3) 0)) := ⟨rfl, rfl, rfl, by decide +kernel, rfl, by decide +kernel, by decide +kernel⟩
theorem ok_NotTied (T : Txt K mg fa fd) : FnOk P w K mg base CX0 1 (fa 1003) (fd 1003) ["self", "many"] (spInit1 K "many" "NotTied") := by
  refine T.INotTied.ok scNT (fun vs H Q E h => ?_) (fun cdv A outer s H vs Q E hr h => ?_)
  · obtain ⟨a, C, v, rfl, _⟩ := h
    rfl
  · obtain ⟨a, C, v, rfl, hC, h1, h2, ha, q⟩ := h
    refine ⟨_, pss_cons (ps_ost (pv 0) (pv 1)) (pss_one (ps_ost (pv 0) pe_str)), ?_⟩
    refine ⟨_, rfl, _, rfl, a, C, rfl, hC, h1, .inl ⟨ha, fun dx nd ne => ?_⟩⟩
    refine ⟨_, rfl, a, C, rfl, hC, h2, .inr ⟨dx, _, upd_same, ?_, by show 1 ≤ 900; decide, q dx nd ne⟩⟩
    rw [upd_ne ne, upd_same]
def NTr (E : XK) (C : Addr) (H : Hp) (n : Nat) : Prop := ∀ d H', Same H H' → H' d = some (.xd [("tag", .str "NotTied"), ("many", .int (n : Int))]) → E (.ref C) (some d) H'
def spRead (C1 C2 : Addr) : Sp := fun vs H Q E => ∃ (t : List Nat) (z : Addr), vs = [vS t] ∧ t.length ≤ 140 ∧ cT t 0 ≤ 20 ∧
  (∀ i, parseP (symsOf t) = .error i → PEr E C1 H i) ∧
  (∀ l g r, parseP (symsOf t) = .ok (l, g, r) → (¬((namesLR l r).length = 1 ∨ (namesLR l r).length = 2) → NTr E C2 H (namesLR l r).length) ∧
    ((namesLR l r).length = 1 ∨ (namesLR l r).length = 2 → ∀ ns, Nms (broN (keysL l) (keysL r)) (diff (valL l) (valL r)) ns → ∀ p vs H', Same H H' → H p = none → H' p = some (.lst vs) → DtAll z H' vs (resD l g r ns) → Q (.ref p) H'))
theorem ok_p_read_ties (T : Txt K mg fa fd) : FnOk P w K mg base (L2.CX P w) 8 (fa 43) (fd 43) ["text"] (spRead (fa 4) (fa 3)) := by
  refine T.F_p_read_ties.okX sc_p_read_ties (fun vs H Q E h => ?_) (fun cdv A outer s H vs Q E hr h => ?_)
  · obtain ⟨t, z, rfl, _⟩ := h
    rfl
  · obtain ⟨t, z, rfl, ht, hct, qe, qo⟩ := h
    refine ⟨_, (C8.pss_cut (ps_set (i := 1) sc_p_read_ties.nd rfl (.inl rfl) (pe_call (ok_p_symbols_of T) (hr.mono (by decide)) (by rfl) T.g_p_symbols_of T.F_p_symbols_of.kp T.b_p_symbols_of .nil (passes_call (takes_of rfl rfl rfl rfl) (fun _ _ _ _ h => h)) (pa_cons (pv 0) pa_nil)))
      (C8.pss_cut (ps_asg (pe_call (ok_p_read_sum T) (hr.mono (by decide)) (by rfl) T.g_p_read_sum T.F_p_read_sum.kp T.b_p_read_sum .nil (passes_call (takes_of rfl rfl rfl rfl) (fun _ _ _ _ h => h)) (pa_cons (pv 1) (pa_cons pe_int pa_nil))) (pg_tup (by rfl) (pgs_cons (pg_name (i := 2) sc_p_read_ties.nd rfl (.inl rfl)) (pgs_cons (pg_name (i := 3) sc_p_read_ties.nd rfl (.inl rfl)) pgs_nil))))
      (C8.pss_cut (ps_asg (pe_ix ix_list (pv 1) (pv 3) (fun _ _ => rfl)) (pg_tup (by rfl) (pgs_cons (pg_name (i := 4) sc_p_read_ties.nd rfl (.inl rfl)) (pgs_cons (pg_name (i := 5) sc_p_read_ties.nd rfl (.inl rfl)) (pgs_cons (pg_name (i := 6) sc_p_read_ties.nd rfl (.inl rfl)) pgs_nil)))))
      (C8.pss_cut (ps_if (pt_cmpR op_ne (pv 4) pe_str (nomark _)) (pss_one (ps_raise rfl (takes_of rfl rfl rfl rfl) (pmk_oex T.eParseError.oex T.eParseError.iC T.eParseError.tI (ok_ParseError T) (hr.mono (by decide)) T.bIParseError .nil pass0 (by rfl) T.eParseError.gC (pa_cons (pv 6) pa_nil)))) pss_nil)
      (C8.pss_cut (ps_asg (pe_call (ok_p_read_sum T) (hr.mono (by decide)) (by rfl) T.g_p_read_sum T.F_p_read_sum.kp T.b_p_read_sum .nil (passes_call (takes_of rfl rfl rfl rfl) (fun _ _ _ _ h => h)) (pa_cons (pv 1) (pa_cons (pe_op op_add (pv 3) pe_int) pa_nil))) (pg_tup (by rfl) (pgs_cons (pg_name (i := 7) sc_p_read_ties.nd rfl (.inl rfl)) (pgs_cons (pg_name (i := 3) sc_p_read_ties.nd rfl (.inl rfl)) pgs_nil))))
      (C8.pss_cut (ps_if (pt_cmpR op_ne (pe_ix ix_tup (pe_ix ix_list (pv 1) (pv 3) (fun _ _ => rfl)) pe_int (fun _ _ => rfl)) pe_str (nomark _)) (pss_one (ps_raise rfl (takes_of rfl rfl rfl rfl) (pmk_oex T.eParseError.oex T.eParseError.iC T.eParseError.tI (ok_ParseError T) (hr.mono (by decide)) T.bIParseError .nil pass0 (by rfl) T.eParseError.gC (pa_cons (pe_ix ix_tup (pe_ix ix_list (pv 1) (pv 3) (fun _ _ => rfl)) pe_int (fun _ _ => rfl)) pa_nil)))) pss_nil)
      (C8.pss_cut (ps_set (i := 8) sc_p_read_ties.nd rfl (.inl rfl) (pe_callB call_len_seq (by rfl) T.m_len PySem.boot_len (pa_cons (pe_call (ok_p_ascending_names T) (hr.mono (by decide)) (by rfl) T.g_p_ascending_names T.F_p_ascending_names.kp T.b_p_ascending_names .nil pass0 (pa_cons (pe_call (ok_p_brought_together T) (hr.mono (by decide)) (by rfl) T.g_p_brought_together T.F_p_brought_together.kp T.b_p_brought_together .nil pass0 (pa_cons (pv 2) (pa_cons (pv 7) pa_nil))) pa_nil)) pa_nil)))
      (C8.pss_cut (ps_if (pt_cmpR op_notIn_seq (pv 8) (pe_tup (pa_cons pe_int (pa_cons pe_int pa_nil))) (by rfl)) (pss_one (ps_raise rfl (takes_of rfl rfl rfl rfl) (pmk_oex T.eNotTied.oex T.eNotTied.iC T.eNotTied.tI (ok_NotTied T) (hr.mono (by decide)) T.bINotTied .nil pass0 (by rfl) T.eNotTied.gC (pa_cons (pv 8) pa_nil)))) pss_nil)
      (C8.pss_cut (ps_if (pt_cmpR op_eq (pv 5) pe_str (nomark _)) (pss_one (ps_ret (pe_lst (pa_cons (pe_call (ok_p_tie_below T) (hr.mono (by decide)) (by rfl) T.g_p_tie_below T.F_p_tie_below.kp T.b_p_tie_below .nil pass0 (pa_cons (pv 2) (pa_cons (pv 7) pa_nil))) pa_nil)))) pss_nil)
      (C8.pss_cut (ps_if (pt_cmpR op_eq (pv 5) pe_str (nomark _)) (pss_one (ps_ret (pe_lst (pa_cons (pe_call (ok_p_tie_below T) (hr.mono (by decide)) (by rfl) T.g_p_tie_below T.F_p_tie_below.kp T.b_p_tie_below .nil pass0 (pa_cons (pv 7) (pa_cons (pv 2) pa_nil))) pa_nil)))) pss_nil)
      (pss_one (ps_ret (pe_lst (pa_cons (pe_call (ok_p_tie_below T) (hr.mono (by decide)) (by rfl) T.g_p_tie_below T.F_p_tie_below.kp T.b_p_tie_below .nil pass0 (pa_cons (pv 2) (pa_cons (pv 7) pa_nil))) (pa_cons (pe_call (ok_p_tie_below T) (hr.mono (by decide)) (by rfl) T.g_p_tie_below T.F_p_tie_below.kp T.b_p_tie_below .nil pass0 (pa_cons (pv 7) (pa_cons (pv 2) pa_nil))) pa_nil))))))))))))))), ?_⟩
    have hS0 : SyL (symsOf t) 700 20 := (symsOf_ok t).mono (by omega) hct
    have hS : SyL (symsOf t) 800 30 := hS0.mono (by decide) (by decide)
    have sl : (symsOf t).length ≤ 901 := Nat.le_trans (symsL_len _ _ _) (by omega)
    have wf := hS.wf
    have spos := hS.pos
    -- symbols
    refine ⟨fun σ H1 => Same H H1 ∧ ∃ D, SL H1 D (symsOf t) ∧ σ = [some (vS t), some (.ref D), none, none, none, none, none, none, none], ⟨_, rfl, t, rfl, by omega, fun D ps H' _ s hD hps => ⟨s, D, ⟨ps, hD, hps⟩, rfl⟩⟩, fun σ H1 hM => ?_⟩
    obtain ⟨s1, D, hSL, rfl⟩ := hM
    generalize symsOf t = S at *
    -- left
    refine ⟨fun σ H2 => Same H1 H2 ∧ ∃ l k1 a, headP S 0 = .ok (l, k1) ∧ RD K H2 a (keysL l) (valL l) ∧ σ = [some (vS t), some (.ref D), some (.ref a), some (.int (k1 : Nat)), none, none, none, none, none], ?_, fun σ H2 hM => ?_⟩
    · refine ⟨_, rfl, D, 0, S, rfl, hSL, hS, spos, sl, fun l k' e d o H' s' _ ho hd => ?_, fun i e => ?_⟩
      · exact ⟨o, _, rfl, SqT.of ho, rfl, _, _, rfl, _, _, rfl, rfl, s', l, k', d, e, hd, rfl⟩
      · have h2 : parseP S = .error i := by unfold parseP; rw [e]
        exact fun dd H' s' hd' => qe i h2 dd H' (s1.trans s') hd'
    obtain ⟨s2, l, k1, a, el, ha, rfl⟩ := hM
    have ol := headP_ok hS el
    have s12 := s1.trans s2
    have hSL := hSL.same s2
    obtain ⟨⟨y1, i1⟩, hy1⟩ : ∃ si, S[k1]? = some si := ⟨_, List.getElem?_eq_getElem ol.2.2.2.2⟩
    -- the relation
    refine ⟨fun σ H3 => H3 = H2 ∧ ∃ v1, WorthV H3 v1 y1 ∧ σ = [some (vS t), some (.ref D), some (.ref a), some (.int (k1 : Nat)), some (.str (sortS y1)), some v1, some (.int (i1 : Nat)), none, none], ?_, fun σ H3 hM => ?_⟩
    · obtain ⟨xs, p, v, hq, hat, hp, hv⟩ := hSL.at (K := K) hy1
      exact ⟨_, rfl, _, rfl, D, _, _, _, rfl, rfl, hq, hat, p, _, rfl, .inl (.inl hp), rfl, _, _, rfl, _, _, rfl, _, _, rfl, rfl, rfl, v, hv, rfl⟩
    obtain ⟨rfl, v1, hv1, rfl⟩ := hM
    refine ⟨fun σ H4 => H4 = H3 ∧ isRel y1 = true ∧ σ = [some (vS t), some (.ref D), some (.ref a), some (.int (k1 : Nat)), some (.str (sortS y1)), some v1, some (.int (i1 : Nat)), none, none], ?_, fun σ H4 hM => ?_⟩
    · refine ⟨_, rfl, rfl, _, rfl, ?_⟩
      rw [sort_rel]
      cases r1 : isRel y1 with
      | true => exact iteF ⟨rfl, rfl, rfl⟩
      | false =>
        have h2 : parseP S = .error i1 := by
          unfold parseP
          rw [el]
          try dsimp only
          rw [hy1]
          cases y1 <;> first | rfl | cases r1
        have qe := qe i1 h2
        have qe : PEr E (fa 4) H3 i1 := fun dd H' s' hd' => qe dd H' (s12.trans s') hd'
        refine iteT ⟨_, rfl, ?_⟩
        refine ⟨by show 1 ≤ 1000; decide, fun a0 na => ⟨a0, _, .int (i1 : Int), rfl, T.eParseError.oex, T.nParseError_at, T.eParseError.tag, upd_same, fun dx nd ne => ⟨rfl, dx, _, ?_, upd_same, ?_, ?_⟩⟩⟩
        · rw [upd_ne ne.symm, upd_same]
        · rw [upd_ne ne] at nd
          exact nd
        · have nd' : H3 dx = none := by
            rw [upd_ne ne] at nd
            exact nd
          refine qe dx _ (Same.del na nd' fun b o hb q => ?_) upd_same
          rw [upd_ne (ne_of_none q nd'), upd_ne hb, upd_ne (ne_of_none q nd'), upd_ne hb]
          exact q
    obtain ⟨rfl, r1, rfl⟩ := hM
    obtain ⟨g, rfl⟩ : ∃ g, y1 = .rel g := by cases y1 <;> first | exact ⟨_, rfl⟩ | cases r1
    obtain rfl : v1 = vS g := hv1
    have kl := wf k1 _ _ hy1 rfl (fun z e => by subst e; intro z; cases z)
    -- right
    refine ⟨fun σ H5 => Same H4 H5 ∧ ∃ r k2 b, headP S (k1 + 1) = .ok (r, k2) ∧ RD K H5 b (keysL r) (valL r) ∧ σ = [some (vS t), some (.ref D), some (.ref a), some (.int (k2 : Nat)), some (.str (sortS (.rel g))), some (vS g), some (.int (i1 : Nat)), some (.ref b), none], ?_, fun σ H5 hM => ?_⟩
    · refine ⟨_, rfl, _, rfl, _, _, rfl, rfl, D, k1 + 1, S, rfl, hSL, hS, kl, sl, fun r k' e d o H' s' _ ho hd => ?_, fun i e => ?_⟩
      · exact ⟨o, _, rfl, SqT.of ho, rfl, _, _, rfl, _, _, rfl, rfl, s', r, k', d, e, hd, rfl⟩
      · have h2 : parseP S = .error i := by
          unfold parseP
          rw [el]
          try dsimp only
          rw [hy1]
          try dsimp only
          rw [e]
        exact fun dd H' s' hd' => qe i h2 dd H' (s12.trans s') hd'
    obtain ⟨s5, r, k2, b, er, hb, rfl⟩ := hM
    have or' := headP_ok hS er
    have s15 := s12.trans s5
    have hSL := hSL.same s5
    have ha := ha.same s5
    have tw := two_of hS0 ol or'
    obtain ⟨⟨y2, i2⟩, hy2⟩ : ∃ si, S[k2]? = some si := ⟨_, List.getElem?_eq_getElem or'.2.2.2.2⟩
    have ep : parseP S = (match some (y2, i2) with
        | some (.fin, _) => .ok (l, g, r)
        | some (_, i) => .error i
        | none => .error 0) := by
      unfold parseP
      rw [el]
      try dsimp only
      rw [hy1]
      try dsimp only
      rw [er]
      try dsimp only
      rw [hy2]
    refine ⟨fun σ H6 => H6 = H5 ∧ isFin y2 = true ∧ σ = [some (vS t), some (.ref D), some (.ref a), some (.int (k2 : Nat)), some (.str (sortS (.rel g))), some (vS g), some (.int (i1 : Nat)), some (.ref b), none], ?_, fun σ H6 hM => ?_⟩
    · obtain ⟨xs, p, v, hq, hat, hp, hv⟩ := hSL.at (K := K) hy2
      refine ⟨_, rfl, _, rfl, D, _, _, _, rfl, rfl, hq, hat, p, _, _, _, rfl, rfl, SqT.of hp, rfl, rfl, _, rfl, ?_⟩
      rw [sort_end]
      cases r2 : isFin y2 with
      | true => exact iteF ⟨rfl, rfl, rfl⟩
      | false =>
        have h2 : parseP S = .error i2 := by
          rw [ep]
          cases y2 <;> first | rfl | cases r2
        have qe := qe i2 h2
        have qe : PEr E (fa 4) H5 i2 := fun dd H' s' hd' => qe dd H' (s15.trans s') hd'
        refine iteT ⟨_, rfl, _, rfl, D, _, _, _, rfl, rfl, hq, hat, p, _, _, _, rfl, rfl, SqT.of hp, rfl, ?_⟩
        refine ⟨by show 1 ≤ 1000; decide, fun a0 na => ⟨a0, _, .int (i2 : Int), rfl, T.eParseError.oex, T.nParseError_at, T.eParseError.tag, upd_same, fun dx nd ne => ⟨rfl, dx, _, ?_, upd_same, ?_, ?_⟩⟩⟩
        · rw [upd_ne ne.symm, upd_same]
        · rw [upd_ne ne] at nd
          exact nd
        · have nd' : H5 dx = none := by
            rw [upd_ne ne] at nd
            exact nd
          refine qe dx _ (Same.del na nd' fun b o hb q => ?_) upd_same
          rw [upd_ne (ne_of_none q nd'), upd_ne hb, upd_ne (ne_of_none q nd'), upd_ne hb]
          exact q
    obtain ⟨rfl, r2, rfl⟩ := hM
    have ep : parseP S = .ok (l, g, r) := by
      rw [ep]
      cases y2 <;> first | rfl | cases r2
    obtain ⟨qt, qo⟩ := qo l g r ep
    have hs := tw.sides ha hb
    have nl := hs.ln
    have nr := hs.lm
    have bl := broN_len (keysL r) (keysL l)
    -- many
    refine ⟨fun σ H8 => Same H6 H8 ∧ (∃ ns, Nms (broN (keysL l) (keysL r)) (diff (valL l) (valL r)) ns) ∧ σ = [some (vS t), some (.ref D), some (.ref a), some (.int (k2 : Nat)), some (.str (sortS (.rel g))), some (vS g), some (.int (i1 : Nat)), some (.ref b), some (.int ((namesLR l r).length : Nat))], ?_, fun σ H8 hM => ?_⟩
    · refine ⟨_, rfl, _, rfl, a, b, _, _, _, _, rfl, hs.ha, hs.hb, hs.ou, hs.ov, by omega, by omega, fun d H7 s7 _ hd => ⟨d, _, _, rfl, hd, by omega, fun ys ll H8 s8 hll perm srt => ?_⟩⟩
      have yl : ys.length = (namesLR l r).length := by
        rw [perm.length_eq, List.length_map]
        rfl
      have hns : Nms (broN (keysL l) (keysL r)) (diff (valL l) (valL r)) (ys.map fun x => x.cps.toList) := by
        refine ⟨?_, ?_⟩
        · have h := perm.map fun x : Str => x.cps.toList
          rw [List.map_map] at h
          refine h.trans (List.Perm.of_eq ?_)
          conv => rhs; rw [← List.map_id (List.filter _ _)]
          exact List.map_congr_left fun x _ => S_list x
        · rw [List.map_map]
          have e : ys.map (SX.S ∘ fun x => x.cps.toList) = ys := by
            conv => rhs; rw [← List.map_id ys]
            exact List.map_congr_left fun x _ => S_of x
          rw [e]
          exact srt_pw ys srt
      refine ⟨ll, _, rfl, .inl (SqL.of hll), s7.trans s8, ⟨_, hns⟩, ?_⟩
      rw [List.length_map, yl]
      rfl
    obtain ⟨s8, ⟨ns, hns⟩, rfl⟩ := hM
    have s18 := s15.trans s8
    have qt : ¬((namesLR l r).length = 1 ∨ (namesLR l r).length = 2) → NTr E (fa 3) H8 (namesLR l r).length := fun h dd H' s' hd' => qt h dd H' (s18.trans s') hd'
    refine ⟨fun σ H9 => Same H8 H9 ∧ ((namesLR l r).length = 1 ∨ (namesLR l r).length = 2) ∧ σ = [some (vS t), some (.ref D), some (.ref a), some (.int (k2 : Nat)), some (.str (sortS (.rel g))), some (vS g), some (.int (i1 : Nat)), some (.ref b), some (.int ((namesLR l r).length : Nat))], ?_, fun σ H9 hM => ?_⟩
    · refine ⟨_, rfl, two_line, fun q0 nq => ⟨q0, _, rfl, .inr (SqT.of upd_same), rfl, rfl, _, rfl, ?_⟩⟩
      have sq := same_upd (o := .tup [V.int 1, .int 2]) nq
      rw [show inV (V.int ((namesLR l r).length : Nat)) [V.int 1, .int 2] = decide ((namesLR l r).length = 1 ∨ (namesLR l r).length = 2) from int_in12 _]
      by_cases h12 : (namesLR l r).length = 1 ∨ (namesLR l r).length = 2
      · rw [decide_eq_true h12]
        exact iteF ⟨sq, h12, rfl⟩
      · rw [decide_eq_false h12]
        have qt := qt h12
        refine iteT ⟨_, rfl, ?_⟩
        refine ⟨by show 1 ≤ 1000; decide, fun a0 na => ⟨a0, _, .int ((namesLR l r).length : Int), rfl, T.eNotTied.oex, T.nNotTied_many, T.eNotTied.tag, upd_same, fun dx nd ne => ⟨rfl, dx, _, ?_, upd_same, ?_, ?_⟩⟩⟩
        · rw [upd_ne ne.symm, upd_same]
        · rw [upd_ne ne] at nd
          exact nd
        · have nd' : upd H8 q0 (.tup [V.int 1, .int 2]) dx = none := by
            rw [upd_ne ne] at nd
            exact nd
          refine qt dx _ (sq.trans (Same.del na nd' fun b o hb q => ?_)) upd_same
          rw [upd_ne (ne_of_none q nd'), upd_ne hb, upd_ne (ne_of_none q nd'), upd_ne hb]
          exact q
    obtain ⟨s9, hn, rfl⟩ := hM
    have s19 := s18.trans s9
    have hs := hs.same (s8.trans s9)
    have hlen : ns.length = 1 ∨ ns.length = 2 := by
      rw [hns.perm.length_eq]
      exact hn
    have qo := qo hn ns hns
    have inl_ : [] ∈ keysL l := (keysL_mem l).mpr (.inl rfl)
    have inr_ : [] ∈ keysL r := (keysL_mem r).mpr (.inl rfl)
    have hsR : Sides K H9 b a (keysL r) (keysL l) (valL r) (valL l) := tw.swap.sides hs.hb hs.ha
    have hnsR := hns.swap (keysL_nodup l) (keysL_nodup r) (fun x => (hs.ou.1 x).1) (fun x => (hs.ov.1 x).1)
    have back : ∀ {G : Hp} {p : Addr}, Same H G → G p = none → H p = none := fun {G p} s e => by
      cases h : H p with
      | none => rfl
      | some o =>
        rw [s _ _ h] at e
        cases e
    -- <=
    refine ⟨fun σ H10 => H10 = H9 ∧ g ≠ [60, 61] ∧ σ = [some (vS t), some (.ref D), some (.ref a), some (.int (k2 : Nat)), some (.str (sortS (.rel g))), some (vS g), some (.int (i1 : Nat)), some (.ref b), some (.int ((namesLR l r).length : Nat))], ?_, fun σ H10 hM => ?_⟩
    · refine ⟨_, rfl, rfl, _, rfl, ?_⟩
      by_cases hg : g = [60, 61]
      · rw [show decide (vS g = V.str (Str.ofString "<=")) = true from decide_eq_true (by rw [hg, leS])]
        refine iteT ⟨_, rfl, _, rfl, a, b, _, _, _, _, z, ns, rfl, hs, inl_, tw.names, hns, hlen, fun v' G' s' hd' => ⟨small_line (by show 1 ≤ 1000; decide), fun p np => ?_⟩⟩
        refine qo p _ _ (s19.trans (s'.trans (same_upd np))) (back (s19.trans s') np) upd_same ?_
        unfold resD
        rw [if_pos hg]
        exact .cons (hd'.same (same_upd np)) .nil
      · rw [show decide (vS g = V.str (Str.ofString "<=")) = false from decide_eq_false fun e => hg (S_inj (by rw [← leS]; exact V.str.inj e))]
        exact iteF ⟨rfl, hg, rfl⟩
    obtain ⟨rfl, g1, rfl⟩ := hM
    -- >=
    refine ⟨fun σ H11 => H11 = H10 ∧ g ≠ [62, 61] ∧ σ = [some (vS t), some (.ref D), some (.ref a), some (.int (k2 : Nat)), some (.str (sortS (.rel g))), some (vS g), some (.int (i1 : Nat)), some (.ref b), some (.int ((namesLR l r).length : Nat))], ?_, fun σ H11 hM => ?_⟩
    · refine ⟨_, rfl, rfl, _, rfl, ?_⟩
      by_cases hg : g = [62, 61]
      · rw [show decide (vS g = V.str (Str.ofString ">=")) = true from decide_eq_true (by rw [hg, geS])]
        refine iteT ⟨_, rfl, _, rfl, b, a, _, _, _, _, z, ns, rfl, hsR, inr_, tw.swap.names, hnsR, hlen, fun v' G' s' hd' => ⟨small_line (by show 1 ≤ 1000; decide), fun p np => ?_⟩⟩
        refine qo p _ _ (s19.trans (s'.trans (same_upd np))) (back (s19.trans s') np) upd_same ?_
        unfold resD
        rw [if_neg g1, if_pos hg]
        exact .cons (hd'.same (same_upd np)) .nil
      · rw [show decide (vS g = V.str (Str.ofString ">=")) = false from decide_eq_false fun e => hg (S_inj (by rw [← geS]; exact V.str.inj e))]
        exact iteF ⟨rfl, hg, rfl⟩
    obtain ⟨rfl, g2, rfl⟩ := hM
    refine ⟨_, rfl, _, rfl, a, b, _, _, _, _, z, ns, rfl, hs, inl_, tw.names, hns, hlen, fun v' G' s' hd' => ?_⟩
    refine ⟨_, rfl, _, rfl, b, a, _, _, _, _, z, ns, rfl, hsR.same s', inr_, tw.swap.names, hnsR, hlen, fun v2 G2 s2' hd2 => ⟨two_line, fun p np => ?_⟩⟩
    refine qo p _ _ (s19.trans (s'.trans (s2'.trans (same_upd np)))) (back (s19.trans (s'.trans s2')) np) upd_same ?_
    unfold resD
    rw [if_neg g1, if_neg g2]
    exact .cons ((hd'.same s2').same (same_upd np)) (.cons (hd2.same (same_upd np)) .nil)
end
/-! ### the law's symbols -/
def numB (w : List Nat) : Bool :=
  ((decide ((cutL w).1.length ≤ 30) && goodW (cutL w).1) && (!(cutL w).2.1 || (decide ((cutL w).2.2.length ≤ 30) && goodW (cutL w).2.2))) &&
    (!(cutL w).2.1 || (decide (1 < NumText.digitsVal (cutL w).2.2) && decide (Int.gcd (NumText.digitsVal (cutL w).1 : Nat) (NumText.digitsVal (cutL w).2.2 : Nat) = 1)))
theorem body_no {t : List Nat} (h : bodyM t = false) : bodyL t = t := by
  have e := body_at t
  rw [h] at e
  exact e.symm
theorem cut_no (w : List Nat) (h : (cutL w).2.1 = false) : (cutL w).2.2 = [] := by
  unfold cutL at *
  split at h
  · cases h
  · rfl
/-- the law's numbers are the program's -/
theorem num_link {w : List Nat} (h : bodyM w = false) : numB w = (!decide (30 < (cutL w).1.length ∨ 30 < (cutL w).2.2.length) && (progR w).isSome) := by
  have eb := body_no h
  rw [prog_law]
  unfold lawR numB
  rw [eb]
  have en : progN w = ((NumText.digitsVal (cutL w).1 : Nat) : Int) := by
    unfold progN
    rw [h, eb]
    rfl
  rw [en, h]
  cases hs : (cutL w).2.1 with
  | false =>
    have ed : progD w = 1 := by
      unfold progD
      rw [eb, hs]
      rfl
    rw [cut_no w hs, ed]
    by_cases l1 : (cutL w).1.length ≤ 30
    · rw [decide_eq_true l1, decide_eq_false (show ¬ (30 < (cutL w).1.length ∨ 30 < ([] : List Nat).length) by rw [List.length_nil]; omega)]
      cases hg : goodW (cutL w).1 with
      | false => rfl
      | true =>
        simp
    · rw [decide_eq_false l1, decide_eq_true (show (30 < (cutL w).1.length ∨ 30 < ([] : List Nat).length) by omega)]
      rfl
  | true =>
    have ed : progD w = ((NumText.digitsVal (cutL w).2.2 : Nat) : Int) := by
      unfold progD
      rw [eb, hs]
      rfl
    rw [ed]
    by_cases l1 : (cutL w).1.length ≤ 30
    · by_cases l2 : (cutL w).2.2.length ≤ 30
      · rw [decide_eq_true l1, decide_eq_true l2, decide_eq_false (show ¬ (30 < (cutL w).1.length ∨ 30 < (cutL w).2.2.length) by omega)]
        cases hg : goodW (cutL w).1 with
        | false => rfl
        | true =>
          cases hg2 : goodW (cutL w).2.2 with
          | false => rfl
          | true =>
            by_cases d1 : 1 < NumText.digitsVal (cutL w).2.2
            · rw [decide_eq_true d1]
              by_cases g1 : Int.gcd (NumText.digitsVal (cutL w).1 : Nat) (NumText.digitsVal (cutL w).2.2 : Nat) = 1
              · rw [decide_eq_true g1, if_neg (by decide), if_neg (fun z => by rcases z with (⟨_, z⟩ | z) | ⟨z, _⟩ <;> first | exact absurd g1 z | cases z | omega)]
                rfl
              · rw [decide_eq_false g1, if_neg (by decide), if_pos (.inl (.inr g1))]
                rfl
            · rw [decide_eq_false d1, if_neg (by decide), if_pos (.inl (.inl ⟨rfl, by omega⟩))]
              rfl
      · rw [decide_eq_false l2, decide_eq_true (show (30 < (cutL w).1.length ∨ 30 < (cutL w).2.2.length) by omega)]
        cases goodW (cutL w).1 <;> cases decide ((cutL w).1.length ≤ 30) <;> rfl
    · rw [decide_eq_false l1, decide_eq_true (show (30 < (cutL w).1.length ∨ 30 < (cutL w).2.2.length) by omega)]
      rfl
theorem rl_ten (c : Nat) : decide (c ∈ (Str.ofString "0123456789").cps.toList) = dig c := congrFun digZ c
theorem str_nil (a : List Nat) : decide (V.str (SX.S a) = V.str (Str.ofString "")) = a.isEmpty := by
  rw [emptyS]
  cases a with
  | nil => exact decide_eq_true rfl
  | cons c r =>
    refine decide_eq_false fun z => ?_
    exact absurd (SX.S_inj (V.str.inj z)) (by simp)
theorem good_eq (a : List Nat) : goodW a = !(a.isEmpty || (!a.all dig || (decide (1 < a.length) && a.head? == some 48))) := by
  unfold goodW isD
  cases a.isEmpty <;> cases a.all dig <;> simp
theorem str_zero (c : Nat) : decide (V.str ⟨#[c]⟩ = V.str (Str.ofString "0")) = decide (c = 48) := by
  rw [nought]
  by_cases h : c = 48
  · subst h
    exact decide_eq_true rfl
  · rw [decide_eq_false h]
    refine decide_eq_false fun z => ?_
    exact h (List.cons.inj (congrArg (fun x : Str => x.cps.toList) (V.str.inj z))).1
theorem good_isD {a : List Nat} (h : goodW a = true) : isD a = true := by
  unfold goodW at h
  rw [Bool.and_eq_true] at h
  exact h.1
theorem int_dig {a : List Nat} (h : isD a = true) (hl : a.length ≤ 61) : intText? (SX.S a) = some ((NumText.digitsVal a : Nat) : Int) ∧ (SX.S a).length ≤ 640 := by
  obtain ⟨h1, h2⟩ := isD_iff.mp h
  refine ⟨intText_digits (x := SX.S a) h2 h1 (by rw [SX.S_len]; omega), ?_⟩
  rw [SX.S_len]
  omega
def good30 (a : List Nat) : Bool := decide (a.length ≤ 30) && goodW a
section
variable {P : Program} {w : World} {K : PySem.W.Frag} {mg : Str → Option Value} {base : Heap} {fa : Nat → Addr} {fd : Nat → FuncData}
theorem ok_run_end (T : Txt K mg fa fd) : FnOk P w K mg base CX0 1 (fa 59) (fd 59) ["_law_text", "_law_at", "_law_signs"] spRun := by
  refine T.F_run_end.ok sc_run_end (fun vs H Q E h => ?_) (fun cdv A outer s H vs Q E hr h => ?_)
  · obtain ⟨t, k, z, rfl, _⟩ := h
    rfl
  · obtain ⟨t, k, z, rfl, ht, hk, q⟩ := h
    refine ⟨_, (pss_cons (ps_while PassesOwn.never (PW.pt (pw_and (pt_cmpR op_lt (pv 1) (pe_callB call_len_str (by rfl) T.m_len PySem.boot_len (pa_cons (pv 0) pa_nil)) (nomark _)) (pw_and1 (pt_cmpR op_in_sign (pe_ix ix_str (pv 0) (pv 1) (fun _ _ => rfl)) (pv 2) (by rfl))))) (pss_one (ps_set (i := 1) sc_run_end.nd rfl (.inl rfl) (pe_op op_add (pv 1) pe_int))))
      (pss_one (ps_ret (pv 1)))), ?_⟩
    have st : (SX.S t).length = t.length := SX.S_len t
    refine ⟨fun m σ H1 => ∃ i : Nat, m = t.length - i ∧ i ≤ t.length ∧ runL (inZ z) t i = runL (inZ z) t k ∧ σ = [some (vS t), some (.int i), some (.str z)] ∧ H1 = H, ⟨_, k, rfl, hk, rfl, rfl, rfl⟩, fun m σ H1 hW => ?_⟩
    obtain ⟨i, rfl, hi, er, rfl, rfl⟩ := hW
    refine ⟨_, rfl, _, rfl, _, rfl, small_line (by omega), _, _, rfl, rfl, _, rfl, ite2 (fun e => ?_) (fun e => ?_)⟩
    · have e : (i : Int) < ((SX.S t).length : Int) := of_decide_eq_true e
      have il : i < t.length := by omega
      refine ⟨_, rfl, _, rfl, SX.S t, (i : Int), t[i], rfl, rfl, small_line (by omega), atI_nat (by rw [S_list]; exact List.getElem?_eq_getElem il), _, rfl, t[i], z, rfl, rfl, _, rfl, ?_⟩
      cases hs : inZ z t[i] with
      | true =>
        rw [show decide (t[i] ∈ z.cps.toList) = true from hs]
        refine iteT ⟨fun σ' H' => ∃ m', m' < t.length - i ∧ ∃ j : Nat, m' = t.length - j ∧ j ≤ t.length ∧ runL (inZ z) t j = runL (inZ z) t k ∧ σ' = [some (vS t), some (.int j), some (.str z)] ∧ H' = H1, fun _ _ h => h, ?_⟩
        exact ⟨_, rfl, _, _, rfl, rfl, t.length - (i + 1), by omega, i + 1, rfl, il, by rw [← er, runL_step il hs], rfl, rfl⟩
      | false =>
        rw [show decide (t[i] ∈ z.cps.toList) = false from hs]
        rw [runL_stop il hs] at er
        refine iteF ⟨_, rfl, ?_⟩
        rw [er]
        exact q
    · have e : ¬ ((i : Int) < ((SX.S t).length : Int)) := fun z => e (decide_eq_true z)
      rw [runL_end (by omega)] at er
      refine ⟨_, rfl, ?_⟩
      rw [er]
      exact q
def spIsNum : Sp := fun vs H Q _ => ∃ t : List Nat, vs = [vS t] ∧ t.length ≤ 900 ∧ ∀ H', Same H H' → Q (.bl (numB t)) H'
theorem ok_is_number (T : Txt K mg fa fd) : FnOk P w K mg base CX0 2 (fa 60) (fd 60) ["_law_word"] spIsNum := by
  refine T.F_is_number.ok sc_is_number (fun vs H Q E h => ?_) (fun cdv A outer s H vs Q E hr h => ?_)
  · obtain ⟨t, rfl, _⟩ := h
    rfl
  · obtain ⟨t, rfl, hl, q⟩ := h
    obtain ⟨c1, c2⟩ := cut_len t
    have line : ∀ {a : List Nat}, a.length ≤ 900 → (SX.S a).length ≤ sizeLine := fun {a} h => by
      rw [SX.S_len]
      exact small_line (by omega)
    have pt := cut_S t
    refine ⟨_, (C8.pss_cut (ps_asg (pe_m1 PySem.F.slot_str_partition PySem.F.type_str_partition mt_partition (pv 0) pe_str (by rfl) (by rfl) (by rfl)) (pg_tup (by rfl) (pgs_cons (pg_name (i := 1) sc_is_number.nd rfl (.inl rfl)) (pgs_cons (pg_name (i := 2) sc_is_number.nd rfl (.inl rfl)) (pgs_cons (pg_name (i := 3) sc_is_number.nd rfl (.inl rfl)) pgs_nil)))))
      (C8.pss_cut (ps_for PassesOwn.never rfl (pi_list (pe_ifExp (pt_cmpR op_ne (pv 2) pe_str (nomark _)) (pe_lst (pa_cons (pv 1) (pa_cons (pv 3) pa_nil))) (pe_lst (pa_cons (pv 1) pa_nil)))) (pg_name (i := 4) sc_is_number.nd rfl (.inl rfl)) (pss_one (ps_if (PW.pt (pw_or (pt_not (pt_chain op_le op_le pe_int (pe_callB call_len_str (by rfl) T.m_len PySem.boot_len (pa_cons (pv 4) pa_nil)) pe_int)) (pw_or (pt_not (pt_val (pe_callB (cr_all rfl) (by rfl) T.m_all PyProof.Rows.boot_all (pa_cons (pe_lc (own := [("_law_sign", 5)]) (g := gName 5) (tt := tYes) rfl sc_is_number.nd (pi_str (pv 4)) (blkOk_by (own := [("_law_sign", 5)]) (N := ["_law_word", "_law_first", "_law_stroke", "_law_second", "_law_part", "_law_sign"]) (sc := defScope s_is_number) (by decide +kernel)) (fun _ _ _ _ _ => pg_name (i := 5) sc_is_number.nd rfl (Or.inl rfl)) (fun _ _ _ _ _ => pts_nil) (fun _ _ _ _ _ => (pe_cmpR op_in_sign (pv 5) pe_str (by rfl)))) pa_nil)))) (pw_or1 (PW.pt (pw_and (pt_cmpR op_gt (pe_callB call_len_str (by rfl) T.m_len PySem.boot_len (pa_cons (pv 4) pa_nil)) pe_int (nomark _)) (pw_and1 (pt_cmpR op_eq (pe_ix ix_str (pv 4) pe_int (fun _ _ => rfl)) pe_str (nomark _))))))))) (pss_one (ps_ret pe_bl)) pss_nil)))
      (pss_one (ps_ret (pe_or (pe_cmpR op_eq (pv 2) pe_str (nomark _)) (pe_one (pe_and (pe_cmpR op_gt (pe_callTy call_int_str (by rfl) T.m_int PySem.Pv.boot_int (pa_cons (pv 3) pa_nil)) pe_int (nomark _)) (pe_one (pe_cmpR op_eq (pe_call (ok_gcd T) (hr.mono (by decide)) (by rfl) T.g_gcd T.F_gcd.kp T.b_gcd .nil pass0 (pa_cons (pe_callTy call_int_str (by rfl) T.m_int PySem.Pv.boot_int (pa_cons (pv 1) pa_nil)) (pa_cons (pe_callTy call_int_str (by rfl) T.m_int PySem.Pv.boot_int (pa_cons (pv 3) pa_nil)) pa_nil))) pe_int (nomark _)))))))))), ?_⟩
    refine ⟨fun σ H1 => Same H H1 ∧ σ = [some (vS t), some (vS (cutL t).1), some (vS (if (cutL t).2.1 then [47] else [])), some (vS (cutL t).2.2), none, none], ?_, fun σ H1 hM => ?_⟩
    · refine ⟨_, rfl, ⟨_, rfl⟩, _, _, rfl, rfl, by decide +kernel, line (by omega), fun p hp => ?_⟩
      rw [stroke, pt]
      exact ⟨p, _, rfl, SqT.of upd_same, rfl, _, _, rfl, _, _, rfl, _, _, rfl, rfl, Same.new hp, rfl⟩
    obtain ⟨s1, rfl⟩ := hM
    -- the parts
    refine ⟨fun σ H2 => Same H H2 ∧ (∃ w4, σ = [some (vS t), some (vS (cutL t).1), some (vS (if (cutL t).2.1 then [47] else [])), some (vS (cutL t).2.2), w4, none]) ∧ (good30 (cutL t).1 && (!(cutL t).2.1 || good30 (cutL t).2.2)) = true, ?_, fun σ H2 hM => ?_⟩
    · obtain ⟨ws, hw⟩ : ∃ ws : List (List Nat), ws = if (cutL t).2.1 then [(cutL t).1, (cutL t).2.2] else [(cutL t).1] := ⟨_, rfl⟩
      have w900 : ∀ a ∈ ws, a.length ≤ 900 := fun a ha => by
        rw [hw] at ha
        split at ha <;> simp at ha
        · rcases ha with e | e <;> rw [e] <;> omega
        · rw [ha]
          omega
      have wbad : ∀ i a, ws[i]? = some a → good30 a = false → numB t = false := fun i a ha hg => by
        have e0 : numB t = ((good30 (cutL t).1 && (!(cutL t).2.1 || good30 (cutL t).2.2)) && (!(cutL t).2.1 || (decide (1 < NumText.digitsVal (cutL t).2.2) && decide (Int.gcd (NumText.digitsVal (cutL t).1 : Nat) (NumText.digitsVal (cutL t).2.2 : Nat) = 1)))) := rfl
        rw [e0]
        rw [hw] at ha
        have hm := List.mem_of_getElem? ha
        split at hm
        · rename_i e
          rw [e]
          simp at hm
          rcases hm with e2 | e2
          · rw [← e2, hg]
            rfl
          · rw [← e2, hg]
            cases good30 (cutL t).1 <;> rfl
        · simp at hm
          rw [← hm, hg]
          rfl
      have wall : (∀ j a, j < ws.length → ws[j]? = some a → good30 a = true) → (good30 (cutL t).1 && (!(cutL t).2.1 || good30 (cutL t).2.2)) = true := fun h => by
        rw [hw] at h
        cases e : (cutL t).2.1
        · rw [e, if_neg (by decide)] at h
          rw [h 0 _ (by simp) rfl]
          rfl
        · rw [e, if_pos rfl] at h
          rw [h 0 _ (by simp) rfl, h 1 _ (by simp) rfl]
          rfl
      refine ⟨_, rfl, rfl, _, rfl, ?_⟩
      rw [sl_eq, Bool.not_not]
      refine ite2 (fun e => ?_) (fun e => ?_)
      · refine ⟨_, rfl, _, rfl, two_line, fun l nl => ⟨l, rfl, ⟨_, SqL.of upd_same⟩, ?_⟩⟩
        have hl2 : upd H1 l (.lst [vS (cutL t).1, vS (cutL t).2.2]) l = some (.lst (ws.map vS)) := by
          rw [upd_same, hw, if_pos e]
          rfl
        have s12 : Same H (upd H1 l (.lst [vS (cutL t).1, vS (cutL t).2.2])) := Same.trans s1 (Same.new nl)
        generalize upd H1 l (.lst [vS (cutL t).1, vS (cutL t).2.2]) = H2 at hl2 s12 ⊢
        · skip
          have s2 : Same H H2 := s12
          refine for_list (K := K) (a := l) (xs := ws.map vS) (fun i σ H3 => Same H2 H3 ∧ (∃ w5, σ = [some (vS t), some (vS (cutL t).1), some (vS (if (cutL t).2.1 then [47] else [])), some (vS (cutL t).2.2), w5, none]) ∧ ∀ j a, j < i → ws[j]? = some a → good30 a = true)
            ⟨fun b u e => e, ⟨_, rfl⟩, fun j a h => absurd h (Nat.not_lt_zero _)⟩ (fun i σ H3 _ hp => SqL.of (hp.1 _ _ hl2)) (fun i0 x σ H3 hx hp => ?_) (fun σ H3 hp => ?_)
          · rw [List.getElem?_map] at hx
            obtain ⟨a, ha, rfl⟩ := Option.map_eq_some_iff.mp hx
            obtain ⟨s3, ⟨w5, rfl⟩, hg⟩ := hp
            have h900 := w900 a (List.mem_of_getElem? ha)
            have la : (SX.S a).length = a.length := SX.S_len a
            have bad : good30 a = false → Q (.bl false) H3 := fun h => by
              rw [← wbad i0 a ha h]
              exact q H3 (s2.trans s3)
            refine ⟨_, rfl, _, rfl, line h900, _, _, rfl, rfl, _, rfl, ?_⟩
            have stay0 : ∀ H4, Same H3 H4 → good30 a = true → Same H2 H4 ∧ (∃ w6, ([some (vS t), some (vS (cutL t).1), some (vS (if (cutL t).2.1 then [47] else [])), some (vS (cutL t).2.2), w5, none] : L2.St).set 4 (some (vS a)) = [some (vS t), some (vS (cutL t).1), some (vS (if (cutL t).2.1 then [47] else [])), some (vS (cutL t).2.2), w6, none]) ∧ ∀ j b, j < i0 + 1 → ws[j]? = some b → good30 b = true := fun H4 s4 h => by
              refine ⟨Same.trans s3 s4, ⟨_, rfl⟩, fun j b hj hb => ?_⟩
              by_cases hji : j < i0
              · exact hg j b hji hb
              · have : j = i0 := by omega
                subst this
                rw [ha] at hb
                cases hb
                exact h
            refine ite2 (fun e0 => ⟨_, _, rfl, rfl, _, rfl, ?_⟩) (fun e0 => ⟨_, rfl, ?_⟩)
            · refine ite2 (fun e1 => ?_) (fun e1 => ?_)
              · refine bad ?_
                have : ¬ ((SX.S a).length : Int) ≤ 30 := fun z => by rw [decide_eq_true z] at e1; cases e1
                unfold good30
                rw [decide_eq_false (by omega)]
                rfl
              · have n30 : a.length ≤ 30 := by
                  by_cases z : ((SX.S a).length : Int) ≤ 30
                  · omega
                  · rw [decide_eq_false z] at e1
                    exact absurd rfl e1
                have n1 : a.isEmpty = false := by
                  have := of_decide_eq_true e0
                  cases a with
                  | nil => exact absurd this (by rw [SX.S_len]; decide)
                  | cons c r => rfl
                have g30 : good30 a = goodW a := by
                  unfold good30
                  rw [decide_eq_true n30, Bool.true_and]
                rw [g30] at bad
                rw [g30] at stay0
                refine ⟨_, rfl, _, rfl, fun D nD => ?_⟩
                refine lc_str (x := SX.S a) (fun i H4 => Same H3 H4 ∧ H4 D = some (.lst ((a.take i).map fun c => V.bl (dig c)))) ⟨Same.new nD, upd_same⟩ (fun i c H4 hc hp4 => ?_) (fun H4 hp4 => ?_)
                · have hc2 : a[i]? = some c := by
                    rw [← List.getElem?_toArray]
                    exact hc
                  refine ⟨rfl, _, rfl, c, _, rfl, rfl, _, hp4.2, ?_, ?_, ?_⟩
                  · rw [List.length_map, List.length_take]
                    exact Nat.lt_of_le_of_lt (Nat.min_le_right _ _) (small1000 (by omega))
                  · exact fun b o e => by
                      rw [upd_ne (ne_of_none e nD)]
                      exact hp4.1 b o e
                  · rw [upd_same, List.take_add_one, hc2, List.map_append, rl_ten]
                    rfl
                · have hD : H4 D = some (.lst ((a.map dig).map V.bl)) := by
                    have := hp4.2
                    rw [show (SX.S a).cps.size = a.length from by simp, List.take_length] at this
                    rw [this, List.map_map]
                    rfl
                  have bad4 : goodW a = false → Q (.bl false) H4 := fun h => by
                    rw [← wbad i0 a ha (by rw [g30]; exact h)]
                    exact q H4 (s2.trans (s3.trans hp4.1))
                  have stay := stay0 H4 hp4.1
                  refine ⟨D, _, rfl, SqL.of hD, _, rfl, ?_⟩
                  rw [List.all_map, show (id ∘ dig) = dig from rfl]
                  refine ite2 (fun e2 => ?_) (fun e2 => ?_)
                  · refine bad4 ?_
                    rw [good_eq, e2]
                    cases a.isEmpty <;> rfl
                  · have n2 : (!a.all dig) = false := Bool.eq_false_iff.mpr e2
                    refine ⟨_, rfl, _, rfl, line (by omega), _, _, rfl, rfl, _, rfl, ite2 (fun e3 => ?_) (fun e3 => ?_)⟩
                    · have e4 : decide (1 < a.length) = true := by
                        have := of_decide_eq_true e3
                        rw [SX.S_len] at this
                        exact decide_eq_true (by omega)
                      obtain ⟨c, r, hcr⟩ : ∃ c r, a = c :: r := by
                        cases a with
                        | nil => cases n1
                        | cons c r => exact ⟨c, r, rfl⟩
                      have hat : atI (SX.S a).cps.toList 0 = some c := by
                        rw [hcr]
                        exact atI_nat (xs := c :: r) (j := 0) rfl
                      refine ⟨_, rfl, _, _, c, rfl, rfl, line (by omega), hat, rfl, _, rfl, ?_⟩
                      rw [str_zero]
                      have hh : (a.head? == some 48) = decide (c = 48) := by
                        rw [hcr]
                        show (some c == some 48) = _
                        by_cases h : c = 48
                        · subst h
                          rfl
                        · rw [decide_eq_false h, beq_eq_false_iff_ne]
                          intro z
                          exact h (Option.some.inj z)
                      refine ite2 (fun e5 => ?_) (fun e5 => ?_)
                      · refine bad4 ?_
                        rw [good_eq, n1, n2, e4, hh, e5]
                        rfl
                      · refine stay ?_
                        rw [good_eq, n1, n2, e4, hh, Bool.eq_false_iff.mpr e5]
                        rfl
                    · refine stay ?_
                      have e4 : decide (1 < a.length) = false := by
                        refine decide_eq_false fun h => e3 (decide_eq_true ?_)
                        rw [SX.S_len]
                        omega
                      rw [good_eq, n1, n2, e4]
                      rfl
            · refine bad ?_
              have z : ¬ (1 : Int) ≤ ((SX.S a).length : Int) := fun z => e0 (decide_eq_true z)
              have : a = [] := List.eq_nil_of_length_eq_zero (by omega)
              rw [this]
              rfl
          · rw [List.length_map] at hp
            exact ⟨Same.trans s2 hp.1, hp.2.1, wall hp.2.2⟩
      · refine ⟨_, rfl, small_line (by show 1 ≤ 1000; decide), fun l nl => ⟨l, rfl, ⟨_, SqL.of upd_same⟩, ?_⟩⟩
        have hl2 : upd H1 l (.lst [vS (cutL t).1]) l = some (.lst (ws.map vS)) := by
          rw [upd_same, hw, if_neg e]
          rfl
        have s12 : Same H (upd H1 l (.lst [vS (cutL t).1])) := Same.trans s1 (Same.new nl)
        generalize upd H1 l (.lst [vS (cutL t).1]) = H2 at hl2 s12 ⊢
        · skip
          have s2 : Same H H2 := s12
          refine for_list (K := K) (a := l) (xs := ws.map vS) (fun i σ H3 => Same H2 H3 ∧ (∃ w5, σ = [some (vS t), some (vS (cutL t).1), some (vS (if (cutL t).2.1 then [47] else [])), some (vS (cutL t).2.2), w5, none]) ∧ ∀ j a, j < i → ws[j]? = some a → good30 a = true)
            ⟨fun b u e => e, ⟨_, rfl⟩, fun j a h => absurd h (Nat.not_lt_zero _)⟩ (fun i σ H3 _ hp => SqL.of (hp.1 _ _ hl2)) (fun i0 x σ H3 hx hp => ?_) (fun σ H3 hp => ?_)
          · rw [List.getElem?_map] at hx
            obtain ⟨a, ha, rfl⟩ := Option.map_eq_some_iff.mp hx
            obtain ⟨s3, ⟨w5, rfl⟩, hg⟩ := hp
            have h900 := w900 a (List.mem_of_getElem? ha)
            have la : (SX.S a).length = a.length := SX.S_len a
            have bad : good30 a = false → Q (.bl false) H3 := fun h => by
              rw [← wbad i0 a ha h]
              exact q H3 (s2.trans s3)
            refine ⟨_, rfl, _, rfl, line h900, _, _, rfl, rfl, _, rfl, ?_⟩
            have stay0 : ∀ H4, Same H3 H4 → good30 a = true → Same H2 H4 ∧ (∃ w6, ([some (vS t), some (vS (cutL t).1), some (vS (if (cutL t).2.1 then [47] else [])), some (vS (cutL t).2.2), w5, none] : L2.St).set 4 (some (vS a)) = [some (vS t), some (vS (cutL t).1), some (vS (if (cutL t).2.1 then [47] else [])), some (vS (cutL t).2.2), w6, none]) ∧ ∀ j b, j < i0 + 1 → ws[j]? = some b → good30 b = true := fun H4 s4 h => by
              refine ⟨Same.trans s3 s4, ⟨_, rfl⟩, fun j b hj hb => ?_⟩
              by_cases hji : j < i0
              · exact hg j b hji hb
              · have : j = i0 := by omega
                subst this
                rw [ha] at hb
                cases hb
                exact h
            refine ite2 (fun e0 => ⟨_, _, rfl, rfl, _, rfl, ?_⟩) (fun e0 => ⟨_, rfl, ?_⟩)
            · refine ite2 (fun e1 => ?_) (fun e1 => ?_)
              · refine bad ?_
                have : ¬ ((SX.S a).length : Int) ≤ 30 := fun z => by rw [decide_eq_true z] at e1; cases e1
                unfold good30
                rw [decide_eq_false (by omega)]
                rfl
              · have n30 : a.length ≤ 30 := by
                  by_cases z : ((SX.S a).length : Int) ≤ 30
                  · omega
                  · rw [decide_eq_false z] at e1
                    exact absurd rfl e1
                have n1 : a.isEmpty = false := by
                  have := of_decide_eq_true e0
                  cases a with
                  | nil => exact absurd this (by rw [SX.S_len]; decide)
                  | cons c r => rfl
                have g30 : good30 a = goodW a := by
                  unfold good30
                  rw [decide_eq_true n30, Bool.true_and]
                rw [g30] at bad
                rw [g30] at stay0
                refine ⟨_, rfl, _, rfl, fun D nD => ?_⟩
                refine lc_str (x := SX.S a) (fun i H4 => Same H3 H4 ∧ H4 D = some (.lst ((a.take i).map fun c => V.bl (dig c)))) ⟨Same.new nD, upd_same⟩ (fun i c H4 hc hp4 => ?_) (fun H4 hp4 => ?_)
                · have hc2 : a[i]? = some c := by
                    rw [← List.getElem?_toArray]
                    exact hc
                  refine ⟨rfl, _, rfl, c, _, rfl, rfl, _, hp4.2, ?_, ?_, ?_⟩
                  · rw [List.length_map, List.length_take]
                    exact Nat.lt_of_le_of_lt (Nat.min_le_right _ _) (small1000 (by omega))
                  · exact fun b o e => by
                      rw [upd_ne (ne_of_none e nD)]
                      exact hp4.1 b o e
                  · rw [upd_same, List.take_add_one, hc2, List.map_append, rl_ten]
                    rfl
                · have hD : H4 D = some (.lst ((a.map dig).map V.bl)) := by
                    have := hp4.2
                    rw [show (SX.S a).cps.size = a.length from by simp, List.take_length] at this
                    rw [this, List.map_map]
                    rfl
                  have bad4 : goodW a = false → Q (.bl false) H4 := fun h => by
                    rw [← wbad i0 a ha (by rw [g30]; exact h)]
                    exact q H4 (s2.trans (s3.trans hp4.1))
                  have stay := stay0 H4 hp4.1
                  refine ⟨D, _, rfl, SqL.of hD, _, rfl, ?_⟩
                  rw [List.all_map, show (id ∘ dig) = dig from rfl]
                  refine ite2 (fun e2 => ?_) (fun e2 => ?_)
                  · refine bad4 ?_
                    rw [good_eq, e2]
                    cases a.isEmpty <;> rfl
                  · have n2 : (!a.all dig) = false := Bool.eq_false_iff.mpr e2
                    refine ⟨_, rfl, _, rfl, line (by omega), _, _, rfl, rfl, _, rfl, ite2 (fun e3 => ?_) (fun e3 => ?_)⟩
                    · have e4 : decide (1 < a.length) = true := by
                        have := of_decide_eq_true e3
                        rw [SX.S_len] at this
                        exact decide_eq_true (by omega)
                      obtain ⟨c, r, hcr⟩ : ∃ c r, a = c :: r := by
                        cases a with
                        | nil => cases n1
                        | cons c r => exact ⟨c, r, rfl⟩
                      have hat : atI (SX.S a).cps.toList 0 = some c := by
                        rw [hcr]
                        exact atI_nat (xs := c :: r) (j := 0) rfl
                      refine ⟨_, rfl, _, _, c, rfl, rfl, line (by omega), hat, rfl, _, rfl, ?_⟩
                      rw [str_zero]
                      have hh : (a.head? == some 48) = decide (c = 48) := by
                        rw [hcr]
                        show (some c == some 48) = _
                        by_cases h : c = 48
                        · subst h
                          rfl
                        · rw [decide_eq_false h, beq_eq_false_iff_ne]
                          intro z
                          exact h (Option.some.inj z)
                      refine ite2 (fun e5 => ?_) (fun e5 => ?_)
                      · refine bad4 ?_
                        rw [good_eq, n1, n2, e4, hh, e5]
                        rfl
                      · refine stay ?_
                        rw [good_eq, n1, n2, e4, hh, Bool.eq_false_iff.mpr e5]
                        rfl
                    · refine stay ?_
                      have e4 : decide (1 < a.length) = false := by
                        refine decide_eq_false fun h => e3 (decide_eq_true ?_)
                        rw [SX.S_len]
                        omega
                      rw [good_eq, n1, n2, e4]
                      rfl
            · refine bad ?_
              have z : ¬ (1 : Int) ≤ ((SX.S a).length : Int) := fun z => e0 (decide_eq_true z)
              have : a = [] := List.eq_nil_of_length_eq_zero (by omega)
              rw [this]
              rfl
          · rw [List.length_map] at hp
            exact ⟨Same.trans s2 hp.1, hp.2.1, wall hp.2.2⟩
    obtain ⟨s2, ⟨w4, rfl⟩, hg⟩ := hM
    have fin : ∀ b : Bool, b = (!(cutL t).2.1 || (decide (1 < NumText.digitsVal (cutL t).2.2) && decide (Int.gcd (NumText.digitsVal (cutL t).1 : Nat) (NumText.digitsVal (cutL t).2.2 : Nat) = 1))) → Q (.bl b) H2 := fun b hb => by
      have e0 : numB t = ((good30 (cutL t).1 && (!(cutL t).2.1 || good30 (cutL t).2.2)) && (!(cutL t).2.1 || (decide (1 < NumText.digitsVal (cutL t).2.2) && decide (Int.gcd (NumText.digitsVal (cutL t).1 : Nat) (NumText.digitsVal (cutL t).2.2 : Nat) = 1)))) := rfl
      rw [hg, Bool.true_and, ← hb] at e0
      rw [← e0]
      exact q H2 s2
    refine ⟨_, rfl, rfl, _, rfl, ?_⟩
    rw [sl_eq]
    cases hs : (cutL t).2.1 with
    | false => exact iteT (fin true (by rw [hs]; rfl))
    | true =>
      rw [hs, Bool.not_true, Bool.false_or] at hg
      rw [Bool.and_eq_true] at hg
      have g1 := hg.1
      have g2 := hg.2
      unfold good30 at g1 g2
      rw [Bool.and_eq_true, decide_eq_true_eq] at g1 g2
      have i1 := int_dig (good_isD g1.2) (by omega)
      have i2 := int_dig (good_isD g2.2) (by omega)
      refine iteF ⟨_, rfl, _, _, rfl, i2.1, i2.2, _, _, rfl, rfl, _, rfl, ite2 (fun e1 => ?_) (fun e1 => ?_)⟩
      · refine ⟨_, rfl, _, _, rfl, i1.1, i1.2, _, rfl, _, _, rfl, i2.1, i2.2, _, _, rfl, rfl, fin _ ?_⟩
        have e1 := of_decide_eq_true e1
        rw [hs, decide_eq_true (show 1 < NumText.digitsVal (cutL t).2.2 by omega)]
        show decide (V.int _ = V.int 1) = (false || (true && _))
        rw [Bool.false_or, Bool.true_and, decide_eq_decide]
        constructor
        · intro z
          have := V.int.inj z
          omega
        · intro z
          rw [z]
          rfl
      · refine fin false ?_
        have e1 : ¬ (1 : Int) < ((NumText.digitsVal (cutL t).2.2 : Nat) : Int) := fun z => e1 (decide_eq_true z)
        rw [hs, decide_eq_false (show ¬ 1 < NumText.digitsVal (cutL t).2.2 by omega)]
        rfl
end
/-! ### the law's list of symbols -/
def wordS : Sy → List Nat
  | .num f => txtL f.1 f.2
  | .name x => x
  | .rel r => r
  | .sign c => [c]
  | .fin => []
  | .bad => []
abbrev Ly := Sy × Nat × List Nat
def trip (e : Ly) : PyData := .tuple [.str (sortS e.1), .int (e.2.1 : Nat), .str (SX.S e.2.2)]
def uni (t : List Nat) : Prop := ∀ c ∈ t, c < 1114112
def OkE (e : Ly) : Prop := PyData.strOk (sortS e.1) = true ∧ PyData.strOk (SX.S e.2.2) = true ∧ e.2.2.length ≤ 400 ∧ (isBad e.1 = false → e.2.2 = wordS e.1)
theorem uni_ok {t : List Nat} (h : uni t) : PyData.strOk (SX.S t) = true := by
  unfold PyData.strOk
  show (t.toArray.all _) = true
  rw [List.all_toArray, List.all_eq_true]
  exact fun c hc => decide_eq_true (h c hc)
theorem uni_mid {t : List Nat} (h : uni t) (i j : Nat) : uni (mid t i j) := fun c hc => h c (List.mem_of_mem_drop (List.mem_of_mem_take hc))
theorem sort_ok {s : Sy} (h : ∀ c, s = .sign c → c < 1114112) : PyData.strOk (sortS s) = true := by
  cases s with
  | sign c => exact uni_ok (t := [c]) fun d hd => by rw [List.mem_singleton.mp hd]; exact h c rfl
  | num f => show PyData.strOk (Str.ofString "number") = true; decide +kernel
  | name x => show PyData.strOk (Str.ofString "name") = true; decide +kernel
  | rel x => show PyData.strOk (Str.ofString "relation") = true; decide +kernel
  | fin => show PyData.strOk (Str.ofString "end") = true; decide +kernel
  | bad => show PyData.strOk (Str.ofString "bad") = true; decide +kernel
theorem trips_ok : ∀ (L : List Ly), (∀ e ∈ L, OkE e) → PyData.canLayAll0 (L.map trip) = true ∧ PyData.depthAll (L.map trip) ≤ 1
  | [], _ => ⟨rfl, Nat.zero_le _⟩
  | e :: L, h => by
    obtain ⟨h1, h2⟩ := trips_ok L fun e he => h e (List.mem_cons_of_mem _ he)
    obtain ⟨a, b, _⟩ := h e List.mem_cons_self
    constructor
    · show ((PyData.strOk (sortS e.1) && (true && (PyData.strOk (SX.S e.2.2) && true))) && PyData.canLayAll0 (L.map trip)) = true
      rw [a, b, h1]
      rfl
    · rw [List.map_cons, PyData.depthAll.eq_2]
      have : (trip e).depth = 1 := rfl
      omega
theorem shaped_list {ds : List PyData} (h1 : PyData.canLayAll0 ds = true) (h2 : PyData.depthAll ds ≤ 60) : SeqAt.shaped (.list ds) = true := by
  unfold SeqAt.shaped
  rw [PyData.canLay0.eq_5, PyData.depth.eq_1, h1, Bool.true_and, decide_eq_true_eq]
  omega
def LSL (H : Hp) (D : Addr) (L : List Ly) : Prop := ∃ ps : List Addr, H D = some (.lst (ps.map V.ref)) ∧ Paired (fun p (e : Ly) => H p = some (.tup [.str (sortS e.1), .int (e.2.1 : Nat), vS e.2.2])) ps L
theorem LSL.same {H H' : Hp} {D : Addr} {L : List Ly} (h : LSL H D L) (s : Same H H') : LSL H' D L := by
  obtain ⟨ps, h1, h2⟩ := h
  exact ⟨ps, s _ _ h1, paired_mono (fun _ _ h => s _ _ h) h2⟩
theorem dpAll_of {K : PySem.W.Frag} {H : Hp} : ∀ {ps : List Addr} {L : List Ly}, Paired (fun p (e : Ly) => H p = some (.tup [.str (sortS e.1), .int (e.2.1 : Nat), vS e.2.2])) ps L → DpAll K H (ps.map V.ref) (L.map trip)
  | _, _, .nil => .nil
  | _, _, .cons h t => .cons (.tup (SqT.of h) (.cons (.str _) (.cons (.int _) (.cons (.str _) .nil)))) (dpAll_of t)
theorem LSL.dp {K : PySem.W.Frag} {H : Hp} {D : Addr} {L : List Ly} (h : LSL H D L) : Dp K H (.ref D) (.list (L.map trip)) := by
  obtain ⟨ps, h1, h2⟩ := h
  exact .lst (SqL.of h1) (dpAll_of h2)
theorem atI_last {α : Type} (xs : List α) (x : α) : atI (xs ++ [x]) (-1) = some x := by
  unfold atI ixN
  simp
  rw [if_pos (by omega)]
  show (xs ++ [x])[((-1 : Int) + ((xs.length : Int) + 1)).toNat]? = some x
  rw [show ((-1 : Int) + ((xs.length : Int) + 1)).toNat = xs.length by omega, List.getElem?_append_right (Nat.le_refl _), Nat.sub_self]
  rfl
theorem LSL.last {K : PySem.W.Frag} {H : Hp} {D : Addr} {L : List Ly} {e : Ly} (h : LSL H D (L ++ [e])) : ∃ xs p, SqL K H D xs ∧ atI xs (-1) = some (.ref p) ∧ H p = some (.tup [.str (sortS e.1), .int (e.2.1 : Nat), vS e.2.2]) := by
  obtain ⟨ps, h1, h2⟩ := h
  have hl := Paired.length h2
  rw [List.length_append, List.length_singleton] at hl
  obtain ⟨qs, p, rfl⟩ : ∃ qs p, ps = qs ++ [p] := by
    rcases List.eq_nil_or_concat ps with z | z
    · rw [z] at hl
      simp at hl
    · obtain ⟨a, b, e⟩ := z
      exact ⟨a, b, by rw [e, List.concat_eq_append]⟩
  obtain ⟨p', hp', r⟩ := paired_at L.length h2 (by rw [List.getElem?_append_right (Nat.le_refl _), Nat.sub_self]; rfl)
  have : qs.length = L.length := by rw [List.length_append, List.length_singleton] at hl; omega
  rw [← this, List.getElem?_append_right (Nat.le_refl _), Nat.sub_self] at hp'
  cases hp'
  exact ⟨_, p, SqL.of h1, by rw [List.map_append]; exact atI_last _ _, r⟩
/-- one symbol, as the law and as the program take it -/
def StepOk (t : List Nat) (k : Nat) (s : Sy) (e : Nat) : Prop := s = (symP t k).1 ∧ k < e ∧ e ≤ t.length ∧ (isBad s = false → e = (symP t k).2 ∧ mid t k e = wordS s) ∧ PyData.strOk (sortS s) = true
theorem symP_at {t : List Nat} {k : Nat} (h : k < t.length) : symP t k = symC t[k] t k := by
  unfold symP
  rw [List.getD_eq_getElem?_getD, List.getElem?_eq_getElem h]
  rfl
theorem num_step {t : List Nat} {k : Nat} (h : k < t.length) (hd : dig t[k] = true) (b : Bool) (hb : b = numB (mid t k (runL numC t k))) :
    ∃ s, (if b = true then Str.ofString "number" else Str.ofString "bad") = sortS s ∧ StepOk t k s (runL numC t k) := by
  have e1 : k < runL numC t k := by
    rw [runL_step h (by unfold numC; rw [hd]; rfl)]
    exact runL_ge _ _ _
  have e2 := runL_le numC t k (by omega)
  obtain ⟨r, hr⟩ := mid_head t h e1
  have bm : bodyM (mid t k (runL numC t k)) = false := by
    rw [hr]
    unfold bodyM
    split
    · rename_i z
      have := (List.cons.inj z).1
      rw [this] at hd
      cases hd
    · rfl
  have lk := num_link bm
  rw [← hb] at lk
  have es : symP t k = numP t k := by
    rw [symP_at h]
    unfold symC
    rw [if_pos hd]
  have en : numP t k = (if 30 < (cutL (mid t k (runL numC t k))).1.length ∨ 30 < (cutL (mid t k (runL numC t k))).2.2.length then (.bad, k) else match progR (mid t k (runL numC t k)) with
    | none => (.bad, k)
    | some f => (.num f, runL numC t k)) := rfl
  rw [← es] at en
  cases b with
  | true =>
    have lk := lk.symm
    rw [Bool.and_eq_true, Bool.not_eq_true', decide_eq_false_iff_not] at lk
    obtain ⟨f, hf⟩ := Option.isSome_iff_exists.mp lk.2
    rw [if_neg lk.1, hf] at en
    refine ⟨.num f, rfl, by rw [en], e1, e2, fun _ => ⟨by rw [en], (prog_some hf).1⟩, sort_ok fun c z => by cases z⟩
  | false =>
    have : symP t k = (.bad, k) := by
      rw [en]
      by_cases c : 30 < (cutL (mid t k (runL numC t k))).1.length ∨ 30 < (cutL (mid t k (runL numC t k))).2.2.length
      · rw [if_pos c]
      · rw [if_neg c]
        rw [decide_eq_false c, Bool.not_false, Bool.true_and] at lk
        cases hp : progR (mid t k (runL numC t k)) with
        | none => rfl
        | some f =>
          rw [hp] at lk
          cases lk
    exact ⟨.bad, rfl, by rw [this], e1, e2, (fun z => by cases z), sort_ok fun c z => by cases z⟩
theorem name_step {t : List Nat} {k : Nat} (h : k < t.length) (hd : dig t[k] = false) (hl : lowc t[k] = true) :
    ∃ s, (if runL lowc t k - k < 7 then Str.ofString "name" else Str.ofString "bad") = sortS s ∧ StepOk t k s (runL lowc t k + (if mid t (runL lowc t k) (runL lowc t k + 1) = [39] then 1 else 0)) := by
  have e1 : k < runL lowc t k := by
    rw [runL_step h hl]
    exact runL_ge _ _ _
  have e2 := runL_le lowc t k (by omega)
  have es : symP t k = nameP t k := by
    rw [symP_at h]
    unfold symC
    rw [hd, if_neg (by decide), if_pos hl]
  have e3 : runL lowc t k + (if mid t (runL lowc t k) (runL lowc t k + 1) = [39] then 1 else 0) ≤ t.length := by
    split
    · rename_i c
      have : (mid t (runL lowc t k) (runL lowc t k + 1)).length = 1 := by rw [c]; rfl
      unfold mid at this
      rw [List.length_take, List.length_drop] at this
      omega
    · exact e2
  by_cases c : runL lowc t k - k < 7
  · rw [if_pos c]
    have en : nameP t k = (.name (mid t k (runL lowc t k + (if mid t (runL lowc t k) (runL lowc t k + 1) = [39] then 1 else 0))), runL lowc t k + (if mid t (runL lowc t k) (runL lowc t k + 1) = [39] then 1 else 0)) := by
      unfold nameP
      rw [if_neg (by omega)]
      split <;> rfl
    rw [← es] at en
    refine ⟨.name (mid t k (runL lowc t k + (if mid t (runL lowc t k) (runL lowc t k + 1) = [39] then 1 else 0))), rfl, by rw [en], by omega, e3, fun _ => ⟨by rw [en], rfl⟩, sort_ok fun c z => by cases z⟩
  · rw [if_neg c]
    have en : nameP t k = (.bad, k) := by
      unfold nameP
      rw [if_pos (by omega)]
    rw [← es] at en
    exact ⟨.bad, rfl, by rw [en], by omega, e3, (fun z => by cases z), sort_ok fun c z => by cases z⟩
theorem numZ2 : inZ (Str.ofString "0123456789/") = numC := by
  rw [show (Str.ofString "0123456789/" : Str) = Str.ofString "0123456789" ++ Str.ofString "/" by decide +kernel]
  exact numZ_fun
theorem spaceS : (Str.ofString " " : Str) = SX.S [32] := by decide +kernel
theorem one_eq (c d : Nat) : decide (V.str ⟨#[c]⟩ = vS [d]) = decide (c = d) := by
  rw [decide_eq_decide]
  constructor
  · intro z
    exact (List.cons.inj (S_inj (a := [c]) (b := [d]) (V.str.inj z))).1
  · intro z
    rw [z]
abbrev smV : V := .str (Str.ofString "abcdefghijklmnopqrstuvwxyz")
/-- what the list of the law is, next to the program's -/
def LawL (t : List Nat) (L : List Ly) : Prop := (∀ e ∈ L, OkE e) ∧ ((L.map fun e => (e.1, e.2.1)) = symsOf t ∨ ((L.map fun e => (e.1, e.2.1)) = symsOf t ++ [(.fin, t.length)] ∧ ∃ dn i, symsOf t = dn ++ [(.bad, i)]))
/-- the loop's state -/
def LoopS (t : List Nat) (k n : Nat) (L : List Ly) : Bool → Prop
  | false => symsOf t = (L.map fun e => (e.1, e.2.1)) ++ symsL n t (runL spc t k) ∧ t.length - k ≤ n ∧ ∀ e ∈ L, isBad e.1 = false
  | true => symsOf t = (L.map fun e => (e.1, e.2.1)) ∧ ∃ L' i w, L = L' ++ [(.bad, i, w)]
theorem loop_cond {K : PySem.W.Frag} {t : List Nat} {G : Hp} {D : Addr} {L : List Ly} {k n : Nat} {b : Bool} (hD : LSL G D L) (hok : ∀ e ∈ L, OkE e) (hl : LoopS t k n L b) (σ : L2.St) (h1 : σ[1]? = some (some (.ref D))) (F : Bool → Hp → Prop) (hF : ∀ G', Same G G' → F (!b) G') :
    tOr (tTest (tOp (rEqD K) (tVar 1) (tLst tNil))) (tTest (tOp rNe (tOp (rIxT K) (tOp (rIxL K) (tVar 1) (tUn (rU fun i => V.int (-i)) (tC (V.int 1)))) (tC (V.int 0))) (tC (V.str (Str.ofString "bad"))))) σ G F := by
  obtain ⟨tr1, tr2⟩ := trips_ok L hok
  refine ⟨_, h1, Nat.zero_le _, fun q0 nq => ?_⟩
  have sq := same_upd (o := .lst []) nq
  have hDq := hD.same sq
  refine ⟨_, _, hDq.dp, .lst (SqL.of upd_same) .nil, shaped_list tr1 (by omega), by decide +kernel, _, rfl, ?_⟩
  rcases List.eq_nil_or_concat L with rfl | ⟨L', e, rfl⟩
  · cases b with
    | false => exact iteT (hF _ sq)
    | true =>
      obtain ⟨_, L', i, w, z⟩ := hl
      simp at z
  · rw [List.concat_eq_append] at *
    have ev : PyData.eqv (.list ((L' ++ [e]).map trip)) (.list []) = false := by
      cases L' <;> rfl
    rw [ev]
    obtain ⟨xs, p, hq, hat, hp⟩ := hDq.last (K := K)
    refine iteF ⟨_, h1, _, rfl, D, _, _, _, rfl, rfl, hq, hat, p, _, _, _, rfl, rfl, SqT.of hp, rfl, rfl, _, rfl, ?_⟩
    rw [sort_bad]
    have eb : isBad e.1 = b := by
      cases b with
      | false => exact hl.2.2 e (List.mem_append_right _ List.mem_cons_self)
      | true =>
        obtain ⟨_, L2, i, w, z⟩ := hl
        have := List.append_inj_right' z rfl
        rw [(List.cons.inj this).1]
        rfl
    rw [eb]
    exact hF _ sq
section
variable {P : Program} {w : World} {K : PySem.W.Frag} {mg : Str → Option Value} {base : Heap} {fa : Nat → Addr} {fd : Nat → FuncData}
def spLSy : Sp := fun vs H Q _ => ∃ t : List Nat, vs = [vS t] ∧ t.length ≤ 400 ∧ uni t ∧ ∀ D L H', Same H H' → LSL H' D L → LawL t L → Q (.ref D) H'
def WSy (H : Hp) (t : List Nat) (D : Addr) : Nat → L2.St → Hp → Prop := fun m σ G => ∃ (k n : Nat) (L : List Ly) (b : Bool) (y4 y5 y6 : Option V), m = (if b = true then 0 else t.length + 1 - k) ∧ k ≤ t.length ∧ LoopS t k n L b ∧ (∀ e ∈ L, OkE e) ∧ L.length ≤ k ∧ Same H G ∧ LSL G D L ∧ σ = [some (vS t), some (.ref D), some (.int k), some smV, y4, y5, y6]
theorem ok_symbols (T : Txt K mg fa fd) : FnOk P w K mg base CX0 3 (fa 61) (fd 61) ["_law_text"] spLSy := by
  refine T.F_symbols.ok sc_symbols (fun vs H Q E h => ?_) (fun cdv A outer s H vs Q E hr h => ?_)
  · obtain ⟨t, rfl, _⟩ := h
    rfl
  · obtain ⟨t, rfl, ht, hu, q⟩ := h
    refine ⟨_, (C8.pss_cut (ps_par3 (i := 1) (j := 2) (l := 3) (by rfl) sc_symbols.nd rfl rfl rfl (by decide) (by decide) (by decide) rfl rfl rfl (pa_cons (pe_lst pa_nil) (pa_cons pe_int (pa_cons pe_str pa_nil))) (by rfl))
      (C8.pss_cut (ps_while PassesOwn.never (PW.pt (pw_and (pt_cmpR op_lt (pv 2) (pe_callB call_len_str (by rfl) T.m_len PySem.boot_len (pa_cons (pv 0) pa_nil)) (nomark _)) (pw_and1 (PW.pt (pw_or (pt_cmpR (op_eqD hr.units) (pv 1) (pe_lst pa_nil) (nomark _)) (pw_or1 (pt_cmpR op_ne (pe_ix ix_tup (pe_ix ix_list (pv 1) (pe_un un_neg pe_int) (fun _ _ => rfl)) pe_int (fun _ _ => rfl)) pe_str (nomark _)))))))) (C8.pss_cut (ps_par3 (i := 4) (j := 5) (l := 6) (by rfl) sc_symbols.nd rfl rfl rfl (by decide) (by decide) (by decide) rfl rfl rfl (pa_cons (pe_ix ix_str (pv 0) (pv 2) (fun _ _ => rfl)) (pa_cons (pe_op op_add (pv 2) pe_int) (pa_cons pe_str pa_nil))) (by rfl))
      (C8.pss_cut (ps_if (pt_cmpR op_eq (pv 4) pe_str (nomark _)) (C8.pss_cut (ps_set (i := 2) sc_symbols.nd rfl (.inl rfl) (pv 5))
      (pss_one ps_continue)) pss_nil)
      (C8.pss_cut (ps_if (pt_cmpR op_in_sign (pv 4) pe_str (by rfl)) (C8.pss_cut (ps_set (i := 5) sc_symbols.nd rfl (.inl rfl) (pe_call (ok_run_end T) (hr.mono (by decide)) (by rfl) T.g_run_end T.F_run_end.kp T.b_run_end .nil pass0 (pa_cons (pv 0) (pa_cons (pv 2) (pa_cons pe_str pa_nil)))))
      (pss_one (ps_set (i := 6) sc_symbols.nd rfl (.inl rfl) (pe_ifExp (pt_val (pe_call (ok_is_number T) (hr.mono (by decide)) (by rfl) T.g_is_number T.F_is_number.kp T.b_is_number .nil pass0 (pa_cons (pe_slice sl_str (pv 0) (po_some (pv 2)) (po_some (pv 5))) pa_nil))) pe_str pe_str)))) (pss_one (ps_if (pt_cmpR op_in_sign (pv 4) (pv 3) (by rfl)) (C8.pss_cut (ps_set (i := 5) sc_symbols.nd rfl (.inl rfl) (pe_call (ok_run_end T) (hr.mono (by decide)) (by rfl) T.g_run_end T.F_run_end.kp T.b_run_end .nil pass0 (pa_cons (pv 0) (pa_cons (pv 2) (pa_cons (pv 3) pa_nil)))))
      (C8.pss_cut (ps_set (i := 6) sc_symbols.nd rfl (.inl rfl) (pe_ifExp (pt_cmpR op_lt (pe_op op_sub (pv 5) (pv 2)) pe_int (nomark _)) pe_str pe_str))
      (pss_one (ps_set (i := 5) sc_symbols.nd rfl (.inl rfl) (pe_op op_add (pv 5) (pe_callTy call_int1 (by rfl) T.m_int PySem.Pv.boot_int (pa_cons (pe_cmpR op_eq (pe_slice sl_str (pv 0) (po_some (pv 5)) (po_some (pe_op op_add (pv 5) pe_int))) pe_str (nomark _)) pa_nil))))))) (pss_one (ps_if (pt_cmpR op_in_sign (pv 4) pe_str (by rfl)) (pss_one (ps_set (i := 6) sc_symbols.nd rfl (.inl rfl) (pv 4))) (pss_one (ps_if (PW.pt (pw_or (pt_cmpR op_eq (pv 4) pe_str (nomark _)) (pw_or1 (pt_cmpR op_in_seq (pe_slice sl_str (pv 0) (po_some (pv 2)) (po_some (pe_op op_add (pv 2) pe_int))) (pe_tup (pa_cons pe_str (pa_cons pe_str pa_nil))) (by rfl))))) (C8.pss_cut (ps_set (i := 5) sc_symbols.nd rfl (.inl rfl) (pe_op op_add (pe_op op_add (pv 2) pe_int) (pe_callTy call_int1 (by rfl) T.m_int PySem.Pv.boot_int (pa_cons (pe_cmpR op_ne (pv 4) pe_str (nomark _)) pa_nil))))
      (pss_one (ps_set (i := 6) sc_symbols.nd rfl (.inl rfl) pe_str))) pss_nil)))))))
      (C8.pss_cut (ps_expr (pe_bm PySem.F.plainAttrs_list PySem.F.slot_list_append PySem.F.type_list_append mt_append (pv 1) (pa_cons (pe_tup (pa_cons (pv 6) (pa_cons (pv 2) (pa_cons (pe_slice sl_str (pv 0) (po_some (pv 2)) (po_some (pv 5))) pa_nil)))) pa_nil)))
      (pss_one (ps_set (i := 2) sc_symbols.nd rfl (.inl rfl) (pv 5))))))))
      (pss_one (ps_ret (pe_op op_cat (pv 1) (pe_lst (pa_cons (pe_tup (pa_cons pe_str (pa_cons (pe_callB call_len_str (by rfl) T.m_len PySem.boot_len (pa_cons (pv 0) pa_nil)) (pa_cons pe_str pa_nil)))) pa_nil))))))), ?_⟩
    have st : (SX.S t).length = t.length := SX.S_len t
    refine ⟨fun σ H1 => ∃ D, H D = none ∧ Same H H1 ∧ LSL H1 D [] ∧ σ = [some (vS t), some (.ref D), some (.int 0), some smV, none, none, none], ⟨Nat.zero_le _, fun D nD => ⟨_, _, _, rfl, D, nD, same_upd nD, ⟨[], upd_same, .nil⟩, rfl⟩⟩, fun σ H1 hM => ?_⟩
    obtain ⟨D, nD, s1, hD1, rfl⟩ := hM
    refine ⟨fun σ H2 => ∃ (k n : Nat) (L : List Ly) (b : Bool) (y4 y5 y6 : Option V), (b = true ∨ k = t.length) ∧ k ≤ t.length ∧ LoopS t k n L b ∧ (∀ e ∈ L, OkE e) ∧ L.length ≤ 400 ∧ Same H H2 ∧ LSL H2 D L ∧ σ = [some (vS t), some (.ref D), some (.int k), some smV, y4, y5, y6], ?_, fun σ H2 hM => ?_⟩
    · refine ⟨WSy H t D, ⟨_, 0, t.length, [], false, _, _, _, rfl, Nat.zero_le _, ⟨rfl, by omega, (fun e h => by cases h)⟩, (fun e h => by cases h), Nat.zero_le _, s1, hD1, rfl⟩, fun m σ G hW => ?_⟩
      obtain ⟨k, n, L, b, y4, y5, y6, rfl, hk, hl, hok, hLk, sG, hD, rfl⟩ := hW
      refine ⟨_, rfl, _, rfl, _, rfl, small_line (by omega), _, _, rfl, rfl, _, rfl, ite2 (fun c => ?_) (fun c => ?_)⟩
      · have c : (k : Int) < ((SX.S t).length : Int) := of_decide_eq_true c
        have kl : k < t.length := by omega
        refine loop_cond (K := K) hD hok hl _ rfl _ fun G1 sg => ?_
        have sG := sG.trans sg
        have hD := hD.same sg
        cases b with
        | true => exact iteF ⟨k, n, L, true, _, _, _, .inl rfl, hk, hl, hok, by omega, sG, hD, rfl⟩
        | false =>
          refine iteT ⟨fun σ' H' => ∃ m', m' < t.length + 1 - k ∧ WSy H t D m' σ' H', fun _ _ h => h, ?_⟩
          have it : L2.atI (SX.S t).cps.toList (k : Int) = some t[k] := atI_nat (by rw [S_list]; exact List.getElem?_eq_getElem kl)
          have cu : t[k] < 1114112 := hu _ (List.getElem_mem kl)
          have spk := symP_at kl
          obtain ⟨he, hn, hnb⟩ := hl
          -- the sign
          refine ⟨fun σ H' => H' = G1 ∧ σ = [some (vS t), some (.ref D), some (.int k), some smV, some (.str ⟨#[t[k]]⟩), some (.int ((k + 1 : Nat) : Int)), some (.str (Str.ofString "bad"))], ⟨_, rfl, _, rfl, _, _, _, rfl, rfl, small_line (by omega), it, _, rfl, _, _, rfl, rfl, _, _, _, rfl, rfl, rfl⟩, fun σ H' hM => ?_⟩
          obtain ⟨rfl, rfl⟩ := hM
          -- a space
          refine ⟨fun σ H2 => H2 = H' ∧ t[k] ≠ 32 ∧ σ = [some (vS t), some (.ref D), some (.int k), some smV, some (.str ⟨#[t[k]]⟩), some (.int ((k + 1 : Nat) : Int)), some (.str (Str.ofString "bad"))], ?_, fun σ H2 hM => ?_⟩
          · refine ⟨_, rfl, rfl, _, rfl, ?_⟩
            rw [spaceS, one_eq]
            refine ite2 (fun e => ?_) (fun e => ⟨rfl, fun z => e (decide_eq_true z), rfl⟩)
            have e := of_decide_eq_true e
            refine ⟨fun σ H2 => H2 = H' ∧ σ = [some (vS t), some (.ref D), some (.int ((k + 1 : Nat) : Int)), some smV, some (.str ⟨#[t[k]]⟩), some (.int ((k + 1 : Nat) : Int)), some (.str (Str.ofString "bad"))], ⟨_, rfl, rfl, rfl⟩, fun σ H2 hM => ?_⟩
            obtain ⟨rfl, rfl⟩ := hM
            refine ⟨t.length + 1 - (k + 1), by omega, k + 1, n, L, false, _, _, _, rfl, kl, ⟨?_, by omega, hnb⟩, hok, by omega, sG, hD, rfl⟩
            rw [he, runL_step kl (show spc t[k] = true from decide_eq_true e)]
          obtain ⟨rfl, ns, rfl⟩ := hM
          have rk : runL spc t k = k := runL_stop kl (decide_eq_false ns)
          rw [rk] at he
          generalize hc : t[k] = c at *
          -- the symbol
          refine ⟨fun σ H3 => Same H2 H3 ∧ ∃ s e, StepOk t k s e ∧ σ = [some (vS t), some (.ref D), some (.int k), some smV, some (.str ⟨#[c]⟩), some (.int ((e : Nat) : Int)), some (.str (sortS s))], ?_, fun σ H3 hM => ?_⟩
          · have gd : ∀ {s : Sy} {e : Nat}, StepOk t k s e → StepOk t k s e := fun h => h
            refine ⟨_, rfl, c, _, rfl, rfl, _, rfl, ?_⟩
            rw [show decide (c ∈ (Str.ofString "0123456789").cps.toList) = dig c from congrFun digZ c]
            cases h1 : dig c with
            | true =>
              have e2 := runL_le numC t k (by omega)
              have e1 := runL_ge numC t k
              obtain ⟨s, hs1, hst⟩ := num_step kl (by rw [hc]; exact h1) _ rfl
              refine iteT ⟨fun σ H' => H' = H2 ∧ σ = [some (vS t), some (.ref D), some (.int k), some smV, some (.str ⟨#[c]⟩), some (.int ((runL numC t k : Nat) : Int)), some (.str (Str.ofString "bad"))], ?_, fun σ H' hM => ?_⟩
              · refine ⟨_, rfl, _, rfl, t, k, _, rfl, by omega, by omega, ?_⟩
                rw [numZ2]
                exact ⟨rfl, rfl⟩
              obtain ⟨rfl, rfl⟩ := hM
              refine ⟨_, rfl, _, rfl, _, rfl, _, rfl, _, rfl, _, rfl, small_line (by omega), ?_⟩
              rw [show L2.cutS (SX.S t) (some (k : Int)) (some ((runL numC t k : Nat) : Int)) = SX.S (mid t k (runL numC t k)) from cut_mid2 t e1 (by omega)]
              refine ⟨_, rfl, by have := mid_le t k (runL numC t k); omega, fun H3 s3 => ⟨_, rfl, ?_⟩⟩
              cases hb : numB (mid t k (runL numC t k)) with
              | true =>
                rw [hb] at hs1
                refine iteT ⟨s3, s, _, hst, ?_⟩
                rw [← hs1]
                rfl
              | false =>
                rw [hb] at hs1
                refine iteF ⟨s3, s, _, hst, ?_⟩
                rw [← hs1]
                rfl
            | false =>
              refine iteF ⟨_, rfl, _, rfl, c, _, rfl, rfl, _, rfl, ?_⟩
              rw [show decide (c ∈ (Str.ofString "abcdefghijklmnopqrstuvwxyz").cps.toList) = lowc c from congrFun lowZ c]
              cases h2 : lowc c with
              | true =>
                have e2 := runL_le lowc t k (by omega)
                have e1 := runL_ge lowc t k
                obtain ⟨s, hs1, hst⟩ := name_step kl (by rw [hc]; exact h1) (by rw [hc]; exact h2)
                refine iteT ⟨fun σ H' => H' = H2 ∧ σ = [some (vS t), some (.ref D), some (.int k), some smV, some (.str ⟨#[c]⟩), some (.int ((runL lowc t k : Nat) : Int)), some (.str (Str.ofString "bad"))], ?_, fun σ H' hM => ?_⟩
                · refine ⟨_, rfl, _, rfl, _, rfl, t, k, _, rfl, by omega, by omega, ?_⟩
                  rw [lowZ]
                  exact ⟨rfl, rfl⟩
                obtain ⟨rfl, rfl⟩ := hM
                refine ⟨fun σ H3 => H3 = H' ∧ σ = [some (vS t), some (.ref D), some (.int k), some smV, some (.str ⟨#[c]⟩), some (.int ((runL lowc t k : Nat) : Int)), some (.str (if runL lowc t k - k < 7 then Str.ofString "name" else Str.ofString "bad"))], ?_, fun σ H3 hM => ?_⟩
                · refine ⟨_, rfl, _, rfl, _, _, rfl, rfl, _, _, rfl, rfl, _, rfl, ite2 (fun z => ?_) (fun z => ?_)⟩
                  · have z := of_decide_eq_true z
                    refine ⟨rfl, ?_⟩
                    rw [if_pos (show runL lowc t k - k < 7 by omega)]
                    rfl
                  · have z : ¬ ((runL lowc t k : Nat) : Int) - (k : Int) < 7 := fun y => z (decide_eq_true y)
                    refine ⟨rfl, ?_⟩
                    rw [if_neg (show ¬ runL lowc t k - k < 7 by omega)]
                    rfl
                obtain ⟨rfl, rfl⟩ := hM
                rw [hs1]
                have ml := mid_le t (runL lowc t k) (runL lowc t k + 1)
                refine ⟨_, rfl, _, rfl, _, rfl, _, rfl, _, rfl, _, _, rfl, rfl, _, rfl, _, rfl, small_line (by omega), ?_⟩
                rw [show L2.cutS (SX.S t) (some ((runL lowc t k : Nat) : Int)) (some (((runL lowc t k : Nat) : Int) + 1)) = SX.S (mid t (runL lowc t k) (runL lowc t k + 1)) from cut_mid2 t (j := runL lowc t k + 1) (by omega) e2]
                refine ⟨rfl, .inr ⟨_, rfl, _, _, rfl, rfl, Same.refl _, s, _, hst, ?_⟩⟩
                by_cases m39 : mid t (runL lowc t k) (runL lowc t k + 1) = [39]
                · rw [if_pos m39, m39, decide_eq_true (show vS [39] = V.str (Str.ofString "'") by rw [quote8])]
                  rfl
                · rw [if_neg m39, decide_eq_false (show ¬ vS (mid t (runL lowc t k) (runL lowc t k + 1)) = V.str (Str.ofString "'") from fun z => m39 (S_inj (by rw [← quote8]; exact V.str.inj z)))]
                  rfl
              | false =>
                have e0 : symP t k = (if c = 43 ∨ c = 45 ∨ c = 42 then (.sign c, k + 1) else if c = 61 then (.rel [61], k + 1) else if mid t k (k + 2) = [60, 61] ∨ mid t k (k + 2) = [62, 61] then (.rel (mid t k (k + 2)), k + 2) else (.bad, k)) := by
                  rw [spk]
                  unfold symC
                  rw [h1, h2, if_neg (by decide), if_neg (by decide)]
                have m1 : mid t k (k + 1) = [c] := by
                  unfold mid
                  rw [List.drop_eq_getElem_cons kl, show k + 1 - k = 1 by omega, hc]
                  rfl
                refine iteF ⟨_, rfl, c, _, rfl, rfl, _, rfl, ?_⟩
                rw [sgnZ]
                refine ite2 (fun h3 => ?_) (fun h3 => ?_)
                · have h3 := of_decide_eq_true h3
                  rw [if_pos h3] at e0
                  exact ⟨_, rfl, Same.refl _, .sign c, k + 1, ⟨by rw [e0], by omega, by omega, fun _ => ⟨by rw [e0], m1⟩, sort_ok fun d z => by cases z; exact cu⟩, rfl⟩
                have h3 : ¬ (c = 43 ∨ c = 45 ∨ c = 42) := fun z => h3 (decide_eq_true z)
                rw [if_neg h3] at e0
                refine ⟨_, rfl, rfl, _, rfl, ?_⟩
                rw [eqS, one_eq]
                by_cases h4 : c = 61
                · rw [decide_eq_true h4]
                  rw [if_pos h4] at e0
                  refine iteT (iteT ⟨fun σ H' => H' = H2 ∧ σ = [some (vS t), some (.ref D), some (.int k), some smV, some (.str ⟨#[c]⟩), some (.int ((k + 1 : Nat) : Int)), some (.str (Str.ofString "bad"))], ⟨_, rfl, _, _, rfl, rfl, _, rfl, rfl, .inr ⟨_, rfl, _, _, rfl, rfl, rfl, ?_⟩⟩, fun σ H' hM => ?_⟩)
                  · rw [one_eq, decide_eq_true h4]
                    rfl
                  obtain ⟨rfl, rfl⟩ := hM
                  exact ⟨Same.refl _, .rel [61], k + 1, ⟨by rw [e0], by omega, by omega, fun _ => ⟨by rw [e0], by rw [m1, h4]; rfl⟩, sort_ok fun d z => by cases z⟩, rfl⟩
                · rw [decide_eq_false h4]
                  rw [if_neg h4] at e0
                  have ml := mid_le t k (k + 2)
                  refine iteF ⟨_, rfl, _, rfl, _, rfl, _, rfl, _, _, rfl, rfl, _, rfl, _, rfl, small_line (by omega), ?_⟩
                  rw [show L2.cutS (SX.S t) (some (k : Int)) (some ((k : Int) + 2)) = SX.S (mid t k (k + 2)) from cut_mid2 t (j := k + 2) (by omega) (by omega)]
                  refine ⟨small_line (by show 2 ≤ 1000; decide), fun p np => ⟨p, _, rfl, .inr (SqT.of upd_same), rfl, rfl, _, rfl, ?_⟩⟩
                  have sp := same_upd (o := .tup [V.str (Str.ofString "<="), .str (Str.ofString ">=")]) np
                  show ite (inV (vS (mid t k (k + 2))) [V.str (Str.ofString "<="), .str (Str.ofString ">=")] = true) _ _
                  rw [relIn]
                  refine ite2 (fun h5 => ?_) (fun h5 => ?_)
                  · have h5 := of_decide_eq_true h5
                    rw [if_pos h5] at e0
                    have e2 : k + 2 ≤ t.length := by
                      have := (sym_le t kl).1
                      rw [e0] at this
                      exact this
                    refine ⟨fun σ H' => H' = upd H2 p (.tup [V.str (Str.ofString "<="), .str (Str.ofString ">=")]) ∧ σ = [some (vS t), some (.ref D), some (.int k), some smV, some (.str ⟨#[c]⟩), some (.int ((k + 2 : Nat) : Int)), some (.str (Str.ofString "bad"))], ⟨_, rfl, _, _, rfl, rfl, _, rfl, rfl, .inr ⟨_, rfl, _, _, rfl, rfl, rfl, ?_⟩⟩, fun σ H' hM => ?_⟩
                    · rw [one_eq, decide_eq_false h4]
                      rfl
                    obtain ⟨rfl, rfl⟩ := hM
                    exact ⟨sp, .rel (mid t k (k + 2)), k + 2, ⟨by rw [e0], by omega, e2, fun _ => ⟨by rw [e0], rfl⟩, sort_ok fun d z => by cases z⟩, rfl⟩
                  · have h5 : ¬ (mid t k (k + 2) = [60, 61] ∨ mid t k (k + 2) = [62, 61]) := fun z => h5 (decide_eq_true z)
                    rw [if_neg h5] at e0
                    exact ⟨sp, .bad, k + 1, ⟨by rw [e0], by omega, by omega, (fun z => by cases z), sort_ok fun d z => by cases z⟩, rfl⟩
          obtain ⟨s3, s, e, hst, rfl⟩ := hM
          obtain ⟨es, ke, el, hw, hso⟩ := hst
          have sG := sG.trans s3
          have hD := hD.same s3
          have mle := mid_le t k e
          obtain ⟨n, rfl⟩ : ∃ n', n = n' + 1 := ⟨n - 1, by omega⟩
          have hsy : symsL (n + 1) t k = if isBad (symP t k).1 = true then [(.bad, k)] else ((symP t k).1, k) :: symsL n t (runL spc t (symP t k).2) := by
            show (if k < t.length then _ else _) = _
            rw [if_pos kl]
          rw [hsy, ← es] at he
          have okn : OkE (s, k, mid t k e) := ⟨hso, uni_ok (uni_mid hu k e), by show (mid t k e).length ≤ 400; omega, fun z => (hw z).2⟩
          -- append
          refine ⟨fun σ H4 => Same H H4 ∧ LSL H4 D (L ++ [(s, k, mid t k e)]) ∧ σ = [some (vS t), some (.ref D), some (.int k), some smV, some (.str ⟨#[c]⟩), some (.int ((e : Nat) : Int)), some (.str (sortS s))], ?_, fun σ H4 hM => ?_⟩
          · obtain ⟨ps, hps, hpp⟩ := hD
            have psl := Paired.length hpp
            refine ⟨_, rfl, .inl ⟨rfl, _, SqL.of hps⟩, _, rfl, _, rfl, _, rfl, _, rfl, _, rfl, _, rfl, _, rfl, _, rfl, small_line (by omega), ?_⟩
            rw [show L2.cutS (SX.S t) (some (k : Int)) (some ((e : Nat) : Int)) = SX.S (mid t k e) from cut_mid2 t (by omega) (by omega)]
            refine ⟨small_line (by show 3 ≤ 1000; decide), fun p np => ?_⟩
            have sp := same_upd (o := .tup [.str (sortS s), .int (k : Int), vS (mid t k e)]) np
            have hDp := sp _ _ hps
            refine ⟨D, _, _, rfl, rfl, hDp, by rw [List.length_map]; exact small1000 (by omega), ?_, ⟨ps ++ [p], ?_, ?_⟩, rfl⟩
            · exact fun b o eb => by
                rw [upd_ne (ne_of_none eb nD)]
                exact sp _ _ (sG _ _ eb)
            · rw [upd_same, List.map_append]
              rfl
            · have tt := TT.upd (zs := ps.map V.ref ++ [.ref p]) hDp
              refine paired_snoc (paired_mono (fun a b h => tt _ _ (sp _ _ h)) hpp) ?_
              exact tt _ _ upd_same
          obtain ⟨sG4, hD4, rfl⟩ := hM
          have okL : ∀ x ∈ L ++ [(s, k, mid t k e)], OkE x := fun x hx => by
            rcases List.mem_append.mp hx with hx | hx
            · exact hok x hx
            · rw [List.mem_singleton.mp hx]
              exact okn
          have llen : (L ++ [(s, k, mid t k e)]).length ≤ e := by
            rw [List.length_append, List.length_singleton]
            omega
          cases hbad : isBad s with
          | true =>
            rw [hbad, if_pos rfl] at he
            refine ⟨_, rfl, 0, by omega, e, n, L ++ [(s, k, mid t k e)], true, _, _, _, rfl, el, ⟨?_, L, k, mid t k e, by rw [isBad_eq hbad]⟩, okL, llen, sG4, hD4, rfl⟩
            rw [he, List.map_append, isBad_eq hbad]
            rfl
          | false =>
            rw [hbad, if_neg (by decide), ← (hw hbad).1] at he
            refine ⟨_, rfl, t.length + 1 - e, by omega, e, n, L ++ [(s, k, mid t k e)], false, _, _, _, rfl, el, ⟨?_, by omega, fun x hx => ?_⟩, okL, llen, sG4, hD4, rfl⟩
            · rw [he, List.map_append, List.append_assoc]
              rfl
            · rcases List.mem_append.mp hx with hx | hx
              · exact hnb x hx
              · rw [List.mem_singleton.mp hx]
                exact hbad
      · exact ⟨k, n, L, b, _, _, _, .inr (by have : ¬ (k : Int) < ((SX.S t).length : Int) := fun z => c (decide_eq_true z); omega), hk, hl, hok, by omega, sG, hD, rfl⟩
    obtain ⟨k, n, L, b, y4, y5, y6, hbk, hk, hl, hok, hLk, sG, hD, rfl⟩ := hM
    obtain ⟨ps, hps, hpp⟩ := hD
    refine ⟨_, rfl, _, rfl, _, rfl, small_line (by omega), small_line (by show 3 ≤ 1000; decide), fun p np => ⟨small_line (by show 1 ≤ 1000; decide), fun e ne => ?_⟩⟩
    have sp := same_upd (o := .tup [V.str (Str.ofString "end"), .int ((SX.S t).length : Int), .str (Str.ofString "")]) np
    have se := same_upd (o := .lst [.ref p]) ne
    have s2 := sp.trans se
    refine ⟨D, e, _, _, rfl, rfl, s2 _ _ hps, upd_same, by rw [List.length_map, Paired.length hpp]; exact small_line (by show L.length + 1 ≤ 1000; omega), fun o no => ?_⟩
    have s3 := s2.trans (same_upd (o := .lst (ps.map V.ref ++ [.ref p])) no)
    have okF : OkE (.fin, t.length, []) := ⟨sort_ok (fun d z => by cases z), uni_ok (t := []) (fun c h => by cases h), Nat.zero_le _, fun _ => rfl⟩
    refine q o (L ++ [(.fin, t.length, [])]) _ (sG.trans s3) ⟨ps ++ [p], by rw [upd_same, List.map_append]; rfl, paired_snoc (paired_mono (fun a b h => s3 _ _ h) hpp) ?_⟩ ⟨fun x hx => ?_, ?_⟩
    · refine same_upd no _ _ (se _ _ ?_)
      rw [upd_same, st, emptyS]
      rfl
    · rcases List.mem_append.mp hx with hx | hx
      · exact hok x hx
      · rw [List.mem_singleton.mp hx]
        exact okF
    · rw [List.map_append]
      cases b with
      | true =>
        obtain ⟨h1, L', i, w, h2⟩ := hl
        refine .inr ⟨by rw [h1]; rfl, L'.map (fun e => (e.1, e.2.1)), i, ?_⟩
        rw [h1, h2, List.map_append]
        rfl
      | false =>
        refine .inl ?_
        obtain ⟨h1, _, _⟩ := hl
        have hk : k = t.length := hbk.resolve_left (by decide)
        rw [h1, syms_stop n t (by have := runL_ge spc t k; omega)]
        rfl
end
/-! ### the law's way along a list of symbols, and the program's -/
inductive FS
  | start | term | number | name | factor
deriving DecidableEq
def faultL : FS → Bool → List (Sy × Nat) → Int
  | _, _, [] => -1
  | .start, b, (.num _, _) :: r => faultL .number b r
  | .start, b, (.name _, _) :: r => faultL .name b r
  | .start, b, (.sign c, i) :: r => if c = 45 then faultL .term b r else (i : Int)
  | .start, _, (_, i) :: _ => (i : Int)
  | .term, b, (.num _, _) :: r => faultL .number b r
  | .term, b, (.name _, _) :: r => faultL .name b r
  | .term, _, (_, i) :: _ => (i : Int)
  | .factor, b, (.name _, _) :: r => faultL .name b r
  | .factor, _, (_, i) :: _ => (i : Int)
  | .number, b, (.sign c, i) :: r => if c = 42 then faultL .factor b r else if c = 43 ∨ c = 45 then faultL .term b r else (i : Int)
  | .name, b, (.sign c, i) :: r => if c = 43 ∨ c = 45 then faultL .term b r else (i : Int)
  | .number, b, (.rel _, i) :: r => if b = true then (i : Int) else faultL .start true r
  | .name, b, (.rel _, i) :: r => if b = true then (i : Int) else faultL .start true r
  | .number, b, (.fin, i) :: _ => if b = true then -1 else (i : Int)
  | .name, b, (.fin, i) :: _ => if b = true then -1 else (i : Int)
  | .number, _, (_, i) :: _ => (i : Int)
  | .name, _, (_, i) :: _ => (i : Int)
theorem start_term {b : Bool} {s : Sy} {i : Nat} {r : List (Sy × Nat)} (h : isSg 45 s = false) : faultL .start b ((s, i) :: r) = faultL .term b ((s, i) :: r) := by
  cases s with
  | sign c => exact if_neg (of_decide_eq_false h)
  | _ => rfl
theorem number_name {b : Bool} {s : Sy} {i : Nat} {r : List (Sy × Nat)} (h : isSg 42 s = false) : faultL .number b ((s, i) :: r) = faultL .name b ((s, i) :: r) := by
  cases s with
  | sign c => exact if_neg (of_decide_eq_false h)
  | _ => rfl
/-- how a term is read -/
inductive TC (S : List (Sy × Nat)) (k : Nat) : Prop
  | nm (x : List Nat) (i : Nat) (h : S[k]? = some (.name x, i)) (e : termP S k = .ok (x, (1, 1), k + 1))
  | nu (f : FQ) (i : Nat) (s1 : Sy) (i1 : Nat) (h : S[k]? = some (.num f, i)) (h1 : S[k + 1]? = some (s1, i1)) (g : isSg 42 s1 = false) (e : termP S k = .ok ([], f, k + 1))
  | ti (f : FQ) (i i1 : Nat) (x : List Nat) (i2 : Nat) (h : S[k]? = some (.num f, i)) (h1 : S[k + 1]? = some (.sign 42, i1)) (h2 : S[k + 2]? = some (.name x, i2)) (e : termP S k = .ok (x, f, k + 3))
  | te (f : FQ) (i i1 : Nat) (s2 : Sy) (i2 : Nat) (h : S[k]? = some (.num f, i)) (h1 : S[k + 1]? = some (.sign 42, i1)) (h2 : S[k + 2]? = some (s2, i2)) (n : isNm s2 = false) (e : termP S k = .error i2)
  | er (s : Sy) (i : Nat) (h : S[k]? = some (s, i)) (n : isNm s = false) (u : isNu s = false) (e : termP S k = .error i)
theorem term_cases {S : List (Sy × Nat)} (wf : WF S) {k : Nat} (hk : k < S.length) : TC S k := by
  obtain ⟨⟨s, i⟩, hs⟩ : ∃ si, S[k]? = some si := ⟨_, List.getElem?_eq_getElem hk⟩
  have other : isNm s = false → isNu s = false → TC S k := fun n u => by
    refine .er s i hs n u ?_
    unfold termP
    rw [hs]
    cases s with
    | num f => cases u
    | name x => cases n
    | _ => rfl
  cases s with
  | name x => exact .nm x i hs (by unfold termP; rw [hs])
  | num f =>
    have k1 : k + 1 < S.length := wf k _ _ hs rfl (fun z e => by subst e; intro z; cases z)
    obtain ⟨⟨s1, i1⟩, hs1⟩ : ∃ si, S[k + 1]? = some si := ⟨_, List.getElem?_eq_getElem k1⟩
    cases sg : isSg 42 s1 with
    | false =>
      refine .nu f i s1 i1 hs hs1 sg ?_
      unfold termP
      rw [hs]
      try dsimp only
      rw [hs1]
      split
      · rename_i h
        cases h
        cases sg
      · rfl
    | true =>
      obtain rfl : s1 = .sign 42 := by
        cases s1 with
        | sign c => rw [show c = 42 from of_decide_eq_true sg]
        | _ => cases sg
      have k2 : k + 2 < S.length := wf (k + 1) _ _ hs1 rfl (fun z e => by subst e; intro z; cases z)
      obtain ⟨⟨s2, i2⟩, hs2⟩ : ∃ si, S[k + 2]? = some si := ⟨_, List.getElem?_eq_getElem k2⟩
      cases nm : isNm s2 with
      | true =>
        obtain ⟨x, rfl⟩ : ∃ x, s2 = .name x := by cases s2 <;> first | exact ⟨_, rfl⟩ | cases nm
        refine .ti f i i1 x i2 hs hs1 hs2 ?_
        unfold termP
        rw [hs]
        try dsimp only
        rw [hs1]
        try dsimp only
        rw [hs2]
        try rfl
      | false =>
        refine .te f i i1 s2 i2 hs hs1 hs2 nm ?_
        unfold termP
        rw [hs]
        try dsimp only
        rw [hs1]
        try dsimp only
        rw [hs2]
        cases s2 with
        | name x => cases nm
        | _ => rfl
  | rel r => exact other rfl rfl
  | sign c => exact other rfl rfl
  | fin => exact other rfl rfl
  | bad => exact other rfl rfl
/-- what the law tells of a sum, and the program -/
def SumF (b : Bool) (S X : List (Sy × Nat)) : Except Nat (List It × Nat) → Int
  | .error i => (i : Int)
  | .ok (_, k) => faultL .name b (S.drop k ++ X)
theorem fault_term {S : List (Sy × Nat)} (wf : WF S) (X : List (Sy × Nat)) (b : Bool) {k : Nat} (hk : k < S.length) :
    faultL .term b (S.drop k ++ X) = match termP S k with
      | .error i => (i : Int)
      | .ok (_, _, k') => faultL .name b (S.drop k' ++ X) := by
  cases term_cases wf hk with
  | nm x i h e =>
    rw [e, drop_at h]
    rfl
  | nu f i s1 i1 h h1 g e =>
    rw [e, drop_at h]
    show faultL .number b (S.drop (k + 1) ++ X) = faultL .name b (S.drop (k + 1) ++ X)
    rw [drop_at h1]
    exact number_name g
  | ti f i i1 x i2 h h1 h2 e =>
    rw [e, drop_at h]
    show faultL .number b (S.drop (k + 1) ++ X) = faultL .name b (S.drop (k + 3) ++ X)
    rw [drop_at h1]
    show (if 42 = 42 then faultL .factor b (S.drop (k + 2) ++ X) else _) = _
    rw [if_pos rfl, drop_at h2]
    rfl
  | te f i i1 s2 i2 h h1 h2 n e =>
    rw [e, drop_at h]
    show faultL .number b (S.drop (k + 1) ++ X) = (i2 : Int)
    rw [drop_at h1]
    show (if 42 = 42 then faultL .factor b (S.drop (k + 2) ++ X) else _) = _
    rw [if_pos rfl, drop_at h2]
    cases s2 with
    | name x => cases n
    | _ => rfl
  | er s i h n u e =>
    rw [e, drop_at h]
    cases s with
    | name x => cases n
    | num f => cases u
    | _ => rfl
theorem fault_sum {S : List (Sy × Nat)} {w c : Nat} (hS : SyL S w c) (X : List (Sy × Nat)) (b : Bool) : ∀ (n k : Nat) (s : Int), k < S.length → S.length - k ≤ n →
    faultL .term b (S.drop k ++ X) = SumF b S X (sumP n S k s) ∧ ∀ l k2, sumP n S k s = .ok (l, k2) → ∃ s2 i2, S[k2]? = some (s2, i2) ∧ isPm s2 = false
  | 0, k, s, hk, hn => by omega
  | n + 1, k, s, hk, hn => by
    have wf := hS.wf
    rw [fault_term wf X b hk]
    unfold sumP
    cases e : termP S k with
    | error i => exact ⟨rfl, fun l k2 z => by cases z⟩
    | ok r =>
      obtain ⟨x, f, k'⟩ := r
      obtain ⟨_, lk, ll, _, _⟩ := termP_ok hS e
      obtain ⟨⟨s2, i2⟩, hs2⟩ : ∃ si, S[k']? = some si := ⟨_, List.getElem?_eq_getElem ll⟩
      dsimp only
      rw [hs2]
      have stop : isPm s2 = false → ∀ l k2, (Except.ok ([(x, sgn s f)], k') : Except Nat (List It × Nat)) = .ok (l, k2) → ∃ s2 i2, S[k2]? = some (s2, i2) ∧ isPm s2 = false := fun p l k2 z => by
        cases z
        exact ⟨s2, i2, hs2, p⟩
      cases s2 with
      | sign d =>
        dsimp only
        by_cases hd : d = 43 ∨ d = 45
        · rw [if_pos hd]
          have l2 := wf k' _ _ hs2 rfl (fun z e => by subst e; intro z; cases z)
          obtain ⟨h1, h2⟩ := fault_sum hS X b n (k' + 1) (if d = 43 then 1 else -1) l2 (by omega)
          have e1 : faultL .name b (S.drop k' ++ X) = faultL .term b (S.drop (k' + 1) ++ X) := by
            rw [drop_at hs2]
            exact if_pos hd
          rw [e1, h1]
          cases e3 : sumP n S (k' + 1) (if d = 43 then 1 else -1) with
          | error j => exact ⟨rfl, fun l k2 z => by cases z⟩
          | ok r =>
            refine ⟨rfl, fun l k2 z => ?_⟩
            cases z
            exact h2 _ _ e3
        · rw [if_neg hd]
          exact ⟨rfl, stop (decide_eq_false hd)⟩
      | num g => exact ⟨rfl, stop rfl⟩
      | name y => exact ⟨rfl, stop rfl⟩
      | rel y => exact ⟨rfl, stop rfl⟩
      | fin => exact ⟨rfl, stop rfl⟩
      | bad => exact ⟨rfl, stop rfl⟩
theorem headP_dash {S : List (Sy × Nat)} {k : Nat} {i : Nat} (h : S[k]? = some (.sign 45, i)) : headP S k = sumP S.length S (k + 1) (-1) := by
  unfold headP
  rw [h]
  exact if_pos rfl
theorem headP_else {S : List (Sy × Nat)} {k : Nat} {s : Sy} {i : Nat} (h : S[k]? = some (s, i)) (g : isSg 45 s = false) : headP S k = sumP S.length S k 1 := by
  unfold headP
  rw [h]
  cases s with
  | sign c => exact if_neg (of_decide_eq_false g)
  | _ => rfl
theorem fault_head {S : List (Sy × Nat)} {w c : Nat} (hS : SyL S w c) (X : List (Sy × Nat)) (b : Bool) {k : Nat} (hk : k < S.length) :
    faultL .start b (S.drop k ++ X) = SumF b S X (headP S k) ∧ ∀ l k2, headP S k = .ok (l, k2) → ∃ s2 i2, S[k2]? = some (s2, i2) ∧ isPm s2 = false := by
  obtain ⟨⟨s, i⟩, hs⟩ : ∃ si, S[k]? = some si := ⟨_, List.getElem?_eq_getElem hk⟩
  cases g : isSg 45 s with
  | false =>
    rw [headP_else hs g, drop_at hs, show ((s, i) :: S.drop (k + 1)) ++ X = (s, i) :: (S.drop (k + 1) ++ X) from rfl, start_term g, show (s, i) :: (S.drop (k + 1) ++ X) = ((s, i) :: S.drop (k + 1)) ++ X from rfl, ← drop_at hs]
    exact fault_sum hS X b _ k 1 hk (by omega)
  | true =>
    obtain rfl : s = .sign 45 := by
      cases s with
      | sign c => rw [show c = 45 from of_decide_eq_true g]
      | _ => cases g
    have l2 := hS.wf k _ _ hs rfl (fun z e => by subst e; intro z; cases z)
    rw [headP_dash hs, drop_at hs]
    show (if 45 = 45 then faultL .term b (S.drop (k + 1) ++ X) else _) = _ ∧ _
    rw [if_pos rfl]
    exact fault_sum hS X b _ (k + 1) (-1) l2 (by omega)
theorem fault_parse {S : List (Sy × Nat)} {w c : Nat} (hS : SyL S w c) (X : List (Sy × Nat)) :
    faultL .start false (S ++ X) = match parseP S with
      | .error i => (i : Int)
      | .ok _ => -1 := by
  obtain ⟨h1, p1⟩ := fault_head hS X false (k := 0) hS.pos
  rw [List.drop_zero] at h1
  rw [h1]
  unfold parseP
  cases e1 : headP S 0 with
  | error i => rfl
  | ok r =>
    obtain ⟨l, k1⟩ := r
    obtain ⟨s1, i1, hs1, pm1⟩ := p1 l k1 e1
    dsimp only
    show faultL .name false (S.drop k1 ++ X) = _
    rw [drop_at hs1, hs1]
    cases s1 with
    | rel g =>
      have l2 := hS.wf k1 _ _ hs1 rfl (fun z e => by subst e; intro z; cases z)
      obtain ⟨h2, p2⟩ := fault_head hS X true (k := k1 + 1) l2
      show faultL .start true (S.drop (k1 + 1) ++ X) = _
      rw [h2]
      dsimp only
      cases e2 : headP S (k1 + 1) with
      | error i => rfl
      | ok r =>
        obtain ⟨r, k2⟩ := r
        obtain ⟨s2, i2, hs2, pm2⟩ := p2 r k2 e2
        dsimp only
        show faultL .name true (S.drop k2 ++ X) = _
        rw [drop_at hs2, hs2]
        cases s2 with
        | sign d => exact if_neg (of_decide_eq_false pm2)
        | _ => rfl
    | sign d => exact if_neg (of_decide_eq_false pm1)
    | _ => rfl
/-! ### the rates that the law gathers -/
def isFl : Sy → Bool
  | .sign c => decide (c = 43 ∨ c = 45)
  | .rel _ => true
  | .fin => true
  | _ => false
def flushM (held : Bool) (s : Int) (f : FR) (l : List It) : List It := if held = true then ([], sgn s f) :: l else l
def ratesM : Int → Int → FR → Bool → List Sy → List It
  | _, _, _, _, [] => []
  | d, s, _, _, .num g :: r => ratesM d s g true r
  | d, s, f, _, .name x :: r => (x, sgn (d * s) f) :: ratesM d s (1, 1) false r
  | d, s, f, h, .sign c :: r => if c = 43 ∨ c = 45 then flushM h (d * s) f (ratesM d (if c = 43 then 1 else -1) (if h = true then (1, 1) else f) false r) else ratesM d s f h r
  | d, s, f, h, .rel _ :: r => flushM h (d * s) f (ratesM (-1) 1 (if h = true then (1, 1) else f) false r)
  | d, s, f, h, .fin :: r => flushM h (d * s) f (ratesM d s (if h = true then (1, 1) else f) false r)
  | d, s, f, h, .bad :: r => ratesM d s f h r
theorem rates_flush {d s : Int} {f : FR} {z : Sy} (h : isFl z = true) (r : List Sy) : ratesM d s f true (z :: r) = ([], sgn (d * s) f) :: ratesM d s (1, 1) false (z :: r) := by
  cases z with
  | sign c =>
    have h : c = 43 ∨ c = 45 := of_decide_eq_true h
    show (if c = 43 ∨ c = 45 then _ else _) = _ :: (if c = 43 ∨ c = 45 then _ else _)
    rw [if_pos h, if_pos h]
    rfl
  | rel g => rfl
  | fin => rfl
  | _ => cases h
abbrev fs (S : List (Sy × Nat)) (k : Nat) : List Sy := (S.drop k).map (·.1)
theorem fs_at {S : List (Sy × Nat)} {k : Nat} {s : Sy} {i : Nat} (h : S[k]? = some (s, i)) : fs S k = s :: fs S (k + 1) := by
  unfold fs
  rw [drop_at h]
  rfl
theorem rates_term {S : List (Sy × Nat)} (wf : WF S) {d s : Int} {k k' : Nat} {x : List Nat} {f : FR} (hk : k < S.length) (e : termP S k = .ok (x, f, k')) {z : Sy} {j : Nat} (hz : S[k']? = some (z, j)) (hf : isFl z = true) :
    ratesM d s (1, 1) false (fs S k) = (x, sgn (d * s) f) :: ratesM d s (1, 1) false (fs S k') := by
  cases term_cases wf hk with
  | nm y i h e2 =>
    rw [e] at e2
    cases e2
    rw [fs_at h]
    rfl
  | nu g i s1 i1 h h1 n e2 =>
    rw [e] at e2
    cases e2
    rw [fs_at h, fs_at hz]
    exact rates_flush hf _
  | ti g i i1 y i2 h h1 h2 e2 =>
    rw [e] at e2
    cases e2
    rw [fs_at h, fs_at h1, fs_at h2]
    rfl
  | te g i i1 s2 i2 h h1 h2 n e2 =>
    rw [e] at e2
    cases e2
  | er g i h n u e2 =>
    rw [e] at e2
    cases e2
theorem sgn_sgn (d s : Int) (f : FR) : sgn (d * s) f = sgn d (sgn s f) := by
  unfold sgn
  rw [Int.mul_assoc]
def sideL (d : Int) (l : List It) : List It := l.map fun it => (it.1, sgn d it.2)
theorem rates_sum {S : List (Sy × Nat)} {w c : Nat} (hS : SyL S w c) (d : Int) : ∀ (n k : Nat) (s : Int) (l : List It) (k2 : Nat), k < S.length → sumP n S k s = .ok (l, k2) → (∃ z j, S[k2]? = some (z, j) ∧ isFl z = true) →
    ∃ s', ratesM d s (1, 1) false (fs S k) = sideL d l ++ ratesM d s' (1, 1) false (fs S k2)
  | 0, _, _, _, _, _, h, _ => by cases h
  | n + 1, k, s, l, k2, hk, h, hz => by
    have wf := hS.wf
    unfold sumP at h
    split at h
    · cases h
    · rename_i x f k1 e
      obtain ⟨_, lk, ll, _, _⟩ := termP_ok hS e
      obtain ⟨⟨s1, i1⟩, hs1⟩ : ∃ si, S[k1]? = some si := ⟨_, List.getElem?_eq_getElem ll⟩
      have stop : (Except.ok ([(x, sgn s f)], k1) : Except Nat (List It × Nat)) = .ok (l, k2) → ∃ s', ratesM d s (1, 1) false (fs S k) = sideL d l ++ ratesM d s' (1, 1) false (fs S k2) := fun z => by
        cases z
        obtain ⟨z, j, hz, fz⟩ := hz
        refine ⟨s, ?_⟩
        rw [rates_term wf hk e hz fz, sgn_sgn]
        rfl
      rw [hs1] at h
      cases s1 with
      | sign cc =>
        dsimp only at h
        by_cases hcc : cc = 43 ∨ cc = 45
        · rw [if_pos hcc] at h
          have l1 := wf k1 _ _ hs1 rfl (fun z q => by subst q; intro q2; cases q2)
          split at h
          · cases h
          · rename_i l2 k3 e2
            cases h
            obtain ⟨s', h2⟩ := rates_sum hS d n (k1 + 1) _ l2 k2 l1 e2 hz
            refine ⟨s', ?_⟩
            rw [rates_term wf hk e hs1 (decide_eq_true hcc), fs_at hs1]
            show _ :: (if cc = 43 ∨ cc = 45 then ratesM d (if cc = 43 then 1 else -1) (1, 1) false (fs S (k1 + 1)) else _) = _
            rw [if_pos hcc, h2, sgn_sgn]
            rfl
        · rw [if_neg hcc] at h
          exact stop h
      | num g => exact stop h
      | name y => exact stop h
      | rel y => exact stop h
      | fin => exact stop h
      | bad => exact stop h
theorem rates_head {S : List (Sy × Nat)} {w c : Nat} (hS : SyL S w c) (d : Int) {k k2 : Nat} {l : List It} (hk : k < S.length) (h : headP S k = .ok (l, k2)) (hz : ∃ z j, S[k2]? = some (z, j) ∧ isFl z = true) :
    ∃ s', ratesM d 1 (1, 1) false (fs S k) = sideL d l ++ ratesM d s' (1, 1) false (fs S k2) := by
  obtain ⟨⟨s, i⟩, hs⟩ : ∃ si, S[k]? = some si := ⟨_, List.getElem?_eq_getElem hk⟩
  cases g : isSg 45 s with
  | false =>
    rw [headP_else hs g] at h
    exact rates_sum hS d _ k 1 l k2 hk h hz
  | true =>
    obtain rfl : s = .sign 45 := by
      cases s with
      | sign c => rw [show c = 45 from of_decide_eq_true g]
      | _ => cases g
    have l2 := hS.wf k _ _ hs rfl (fun z e => by subst e; intro z; cases z)
    rw [headP_dash hs] at h
    rw [fs_at hs]
    exact rates_sum hS d _ (k + 1) (-1) l k2 l2 h hz
theorem side_one (l : List It) : sideL 1 l = l := by
  unfold sideL sgn
  refine (List.map_congr_left fun it _ => ?_).trans (List.map_id l)
  rw [Int.one_mul]
  rfl
theorem side_neg (l : List It) : sideL (-1) l = l.map fun it => (it.1, negF it.2) := by
  unfold sideL sgn
  refine List.map_congr_left fun it _ => ?_
  rw [Int.neg_mul, Int.one_mul]
  rfl
theorem rates_parse {S : List (Sy × Nat)} {w c : Nat} (hS : SyL S w c) {l r : List It} {g : List Nat} (h : parseP S = .ok (l, g, r)) :
    ratesM 1 1 (1, 1) false (S.map (·.1)) = l ++ r.map fun it => (it.1, negF it.2) := by
  unfold parseP at h
  split at h
  · cases h
  · rename_i l1 k1 e1
    split at h
    · rename_i g1 i1 hs1
      have l2 := hS.wf k1 _ _ hs1 rfl (fun z q => by subst q; intro q2; cases q2)
      split at h
      · cases h
      · rename_i r1 k2 e2
        split at h
        · rename_i i2 hs2
          injection h with h
          injection h with hl h
          injection h with hg hr
          subst hl hg hr
          obtain ⟨s1, h1⟩ := rates_head hS 1 hS.pos e1 ⟨_, _, hs1, rfl⟩
          obtain ⟨s2, h2⟩ := rates_head hS (-1) l2 e2 ⟨_, _, hs2, rfl⟩
          have e0 : fs S 0 = S.map (·.1) := by unfold fs; rw [List.drop_zero]
          rw [e0] at h1
          rw [h1, fs_at hs1]
          show sideL 1 l1 ++ ratesM (-1) 1 (1, 1) false (fs S (k1 + 1)) = _
          rw [h2, fs_at hs2, side_one, side_neg]
          obtain ⟨dn, z, i, eS, hz, hd⟩ := hS.ends
          have lst : k2 + 1 = S.length := by
            have k2l := (List.getElem?_eq_some_iff.mp hs2).1
            have sl : S.length = dn.length + 1 := by rw [eS, List.length_append, List.length_singleton]
            rw [sl] at k2l ⊢
            rw [eS] at hs2
            by_cases q : k2 < dn.length
            · rw [List.getElem?_append_left q] at hs2
              have := (hd _ (List.mem_of_getElem? hs2)).1
              cases this
            · omega
          have : fs S (k2 + 1) = [] := by
            unfold fs
            rw [List.drop_eq_nil_of_le (by omega)]
            rfl
          rw [this]
          show l1 ++ (_ ++ []) = _
          rw [List.append_nil]
        · cases h
        · cases h
    · cases h
    · cases h
/-! ### where the law finds the first fault -/
def FSs : FS → Str
  | .start => Str.ofString "start"
  | .term => Str.ofString "term"
  | .number => Str.ofString "number"
  | .name => Str.ofString "name"
  | .factor => Str.ofString "factor"
def isST : FS → Bool
  | .start => true
  | .term => true
  | _ => false
theorem st_in (st : FS) : inV (V.str (FSs st)) [V.str (Str.ofString "start"), .str (Str.ofString "term")] = isST st := by
  cases st <;> decide +kernel
theorem st_eq (a b : FS) (h : a ≠ b) : decide (V.str (FSs a) = V.str (FSs b)) = false := by
  refine decide_eq_false fun z => ?_
  have z := V.str.inj z
  revert z h
  cases a <;> cases b <;> first | (intro h _; exact absurd rfl h) | (intro _; decide +kernel)
theorem st_self (a : FS) : decide (V.str (FSs a) = V.str (FSs a)) = true := decide_eq_true rfl
theorem kind_in (s : Sy) : inV (V.str (sortS s)) [V.str (Str.ofString "number"), .str (Str.ofString "name")] = (isNu s || isNm s) := by
  rw [← sort_number, ← sort_name]
  show ((Str.ofString "number" == sortS s) || ((Str.ofString "name" == sortS s) || false)) = _
  rw [Bool.or_false, Bool.eq_iff_iff, Bool.or_eq_true, Bool.or_eq_true, beq_iff_eq, beq_iff_eq, decide_eq_true_eq, decide_eq_true_eq]
  constructor
  · rintro (h | h)
    · exact .inl (by rw [h])
    · exact .inr (by rw [h])
  · rintro (h | h)
    · exact .inl (V.str.inj h).symm
    · exact .inr (V.str.inj h).symm
theorem iteT' {c : Bool} {A B : Prop} (h : c = true) (a : A) : ite (c = true) A B := by rw [h]; exact a
theorem iteF' {c : Bool} {A B : Prop} (h : c = false) (a : B) : ite (c = true) A B := by rw [h]; exact a
abbrev two2 (e : Ly) : Sy × Nat := (e.1, e.2.1)
section
variable {P : Program} {w : World} {K : PySem.W.Frag} {mg : Str → Option Value} {base : Heap} {fa : Nat → Addr} {fd : Nat → FuncData}
def spFault : Sp := fun vs H Q _ => ∃ (D : Addr) (L : List Ly), vs = [.ref D, .bl true] ∧ LSL H D L ∧ ∀ H', Same H H' → Q (.int (faultL .start false (L.map two2))) H'
theorem ok_sum_fault (T : Txt K mg fa fd) : FnOk P w K mg base CX0 1 (fa 62) (fd 62) ["_law_symbols_here", "_law_wants_relation"] spFault := by
  refine T.F_sum_fault.ok sc_sum_fault (fun vs H Q E h => ?_) (fun cdv A outer s H vs Q E hr h => ?_)
  · obtain ⟨D, L, rfl, _⟩ := h
    rfl
  · obtain ⟨D, L, rfl, hL, q⟩ := h
    refine ⟨_, (C8.pss_cut (ps_par (i := 2) (j := 3) (by rfl) sc_sum_fault.nd rfl rfl (by decide) rfl rfl (pa_cons pe_str (pa_cons (pe_not (pv 1)) pa_nil)) (by rfl))
      (C8.pss_cut (ps_for PassesOwn.never rfl (pi_list (pv 0)) (pg_tup (by rfl) (pgs_cons (pg_name (i := 4) sc_sum_fault.nd rfl (.inl rfl)) (pgs_cons (pg_name (i := 5) sc_sum_fault.nd rfl (.inl rfl)) (pgs_cons (pg_name (i := 6) sc_sum_fault.nd rfl (.inl rfl)) pgs_nil)))) (pss_one (ps_if (pt_cmpR op_in_seq (pv 2) (pe_tup (pa_cons pe_str (pa_cons pe_str pa_nil))) (by rfl)) (pss_one (ps_if (PW.pt (pw_and (pt_cmpR op_eq (pv 4) pe_str (nomark _)) (pw_and1 (pt_cmpR op_eq (pv 2) pe_str (nomark _))))) (pss_one (ps_set (i := 2) sc_sum_fault.nd rfl (.inl rfl) pe_str)) (pss_one (ps_if (pt_cmpR op_in_seq (pv 4) (pe_tup (pa_cons pe_str (pa_cons pe_str pa_nil))) (by rfl)) (pss_one (ps_set (i := 2) sc_sum_fault.nd rfl (.inl rfl) (pv 4))) (pss_one (ps_ret (pv 5))))))) (pss_one (ps_if (pt_cmpR op_eq (pv 2) pe_str (nomark _)) (C8.pss_cut (ps_if (pt_cmpR op_ne (pv 4) pe_str (nomark _)) (pss_one (ps_ret (pv 5))) pss_nil)
      (pss_one (ps_set (i := 2) sc_sum_fault.nd rfl (.inl rfl) pe_str))) (pss_one (ps_if (PW.pt (pw_and (pt_cmpR op_eq (pv 4) pe_str (nomark _)) (pw_and1 (pt_cmpR op_eq (pv 2) pe_str (nomark _))))) (pss_one (ps_set (i := 2) sc_sum_fault.nd rfl (.inl rfl) pe_str)) (pss_one (ps_if (pt_cmpR op_in_seq (pv 4) (pe_tup (pa_cons pe_str (pa_cons pe_str pa_nil))) (by rfl)) (pss_one (ps_set (i := 2) sc_sum_fault.nd rfl (.inl rfl) pe_str)) (pss_one (ps_if (PW.pt (pw_and (pt_cmpR op_eq (pv 4) pe_str (nomark _)) (pw_and1 (pt_not (pt_val (pv 3)))))) (pss_one (ps_asg (pe_tup (pa_cons pe_str (pa_cons pe_bl pa_nil))) (pg_tup (by rfl) (pgs_cons (pg_name (i := 2) sc_sum_fault.nd rfl (.inl rfl)) (pgs_cons (pg_name (i := 3) sc_sum_fault.nd rfl (.inl rfl)) pgs_nil))))) (pss_one (ps_if (PW.pt (pw_and (pt_cmpR op_eq (pv 4) pe_str (nomark _)) (pw_and1 (pt_val (pv 3))))) (pss_one (ps_ret (pe_un un_neg pe_int))) (pss_one (ps_ret (pv 5))))))))))))))))
      (pss_one (ps_ret (pe_un un_neg pe_int))))), ?_⟩
    refine ⟨fun σ H1 => H1 = H ∧ σ = [some (.ref D), some (.bl true), some (.str (FSs .start)), some (.bl false), none, none, none], ?_, fun σ H1 hM => ?_⟩
    · exact ⟨_, rfl, _, rfl, _, _, rfl, rfl, rfl⟩
    obtain ⟨rfl, rfl⟩ := hM
    obtain ⟨ps, hps, hpp⟩ := hL
    have lps := Paired.length hpp
    refine ⟨fun σ H2 => Same H1 H2 ∧ faultL .start false (L.map two2) = -1, ?_, fun σ H2 hM => ?_⟩
    · refine ⟨_, rfl, D, rfl, ⟨_, SqL.of hps⟩, for_list (K := K) (a := D) (xs := ps.map V.ref) (fun i σ H3 => Same H1 H3 ∧ ∃ st b y4 y5 y6, faultL .start false (L.map two2) = faultL st b ((L.map two2).drop i) ∧ σ = [some (.ref D), some (.bl true), some (.str (FSs st)), some (.bl b), y4, y5, y6]) ⟨Same.refl _, .start, false, _, _, _, rfl, rfl⟩ (fun i σ H3 _ hp => SqL.of (hp.1 _ _ hps)) (fun i x σ H3 hx hp => ?_) (fun σ H3 hp => ?_)⟩
      · obtain ⟨s3, st, b, y4, y5, y6, hf, rfl⟩ := hp
        rw [List.getElem?_map] at hx
        obtain ⟨p, hp, rfl⟩ := Option.map_eq_some_iff.mp hx
        have il : i < L.length := by
          have := (List.getElem?_eq_some_iff.mp hp).1
          omega
        obtain ⟨⟨sy, k, wd⟩, he⟩ : ∃ e, L[i]? = some e := ⟨_, List.getElem?_eq_getElem il⟩
        obtain ⟨p', hp', hpd⟩ := paired_at i hpp he
        rw [hp] at hp'
        cases hp'
        have hpd := s3 _ _ hpd
        have hd : (L.map two2).drop i = (sy, k) :: (L.map two2).drop (i + 1) := drop_at (by rw [List.getElem?_map, he]; rfl)
        rw [hd] at hf
        refine ⟨p, _, rfl, .inl (.inl hpd), rfl, _, _, rfl, _, _, rfl, _, _, rfl, rfl, ?_⟩
        have ret : ∀ H', Same H3 H' → faultL st b ((sy, k) :: (L.map two2).drop (i + 1)) = (k : Int) → Q (.int (k : Int)) H' := fun H' s' e => by
          rw [← e, ← hf]
          exact q H' (s3.trans s')
        have nxt : ∀ (st' : FS) (b' : Bool) H', Same H3 H' → faultL st b ((sy, k) :: (L.map two2).drop (i + 1)) = faultL st' b' ((L.map two2).drop (i + 1)) → Same H1 H' ∧ ∃ st b y4 y5 y6, faultL .start false (L.map two2) = faultL st b ((L.map two2).drop (i + 1)) ∧ [some (V.ref D), some (.bl true), some (.str (FSs st')), some (.bl b'), some (.str (sortS sy)), some (.int (k : Int)), some (vS wd)] = [some (.ref D), some (.bl true), some (.str (FSs st)), some (.bl b), y4, y5, y6] := fun st' b' H' s' e =>
          ⟨s3.trans s', st', b', _, _, _, hf.trans e, rfl⟩
        refine ⟨_, rfl, small_line (by show 2 ≤ 1000; decide), fun a na => ⟨a, _, rfl, .inr (SqT.of upd_same), rfl, rfl, _, rfl, ?_⟩⟩
        rw [st_in]
        have sa := same_upd (o := .tup [V.str (Str.ofString "start"), .str (Str.ofString "term")]) na
        have valK : (isNu sy || isNm sy) = true → ∃ st', sortS sy = FSs st' ∧ (faultL .start b ((sy, k) :: (L.map two2).drop (i + 1)) = faultL st' b ((L.map two2).drop (i + 1))) ∧ (faultL .term b ((sy, k) :: (L.map two2).drop (i + 1)) = faultL st' b ((L.map two2).drop (i + 1))) := fun h => by
          cases sy with
          | num f => exact ⟨.number, rfl, rfl, rfl⟩
          | name x => exact ⟨.name, rfl, rfl, rfl⟩
          | _ => cases h
        have noK : (isNu sy || isNm sy) = false → (faultL .term b ((sy, k) :: (L.map two2).drop (i + 1)) = (k : Int)) := fun h => by
          cases sy with
          | num f => cases h
          | name x => cases h
          | _ => rfl
        cases st with
        | start =>
          refine iteT ⟨_, rfl, rfl, _, rfl, ?_⟩
          rw [dash, sort_sign]
          cases g : isSg 45 sy with
          | true =>
            refine iteT ⟨_, rfl, rfl, _, rfl, iteT' (st_self .start) ?_⟩
            refine nxt .term b _ sa ?_
            cases sy with
            | sign c => exact if_pos (of_decide_eq_true g)
            | _ => cases g
          | false =>
            refine iteF ⟨_, rfl, small_line (by show 2 ≤ 1000; decide), fun o no => ⟨o, _, rfl, .inr (SqT.of upd_same), rfl, rfl, _, rfl, ?_⟩⟩
            have so := sa.trans (same_upd (o := .tup [V.str (Str.ofString "number"), .str (Str.ofString "name")]) no)
            rw [kind_in]
            cases v : isNu sy || isNm sy with
            | true =>
              obtain ⟨st', e1, e2, _⟩ := valK v
              refine iteT ⟨_, rfl, ?_⟩
              have := nxt st' b _ so e2
              rw [← e1] at this
              exact this
            | false => exact iteF ⟨_, rfl, ret _ so ((start_term g).trans (noK v))⟩
        | term =>
          have last : ∀ G, Same H3 G → (∀ o, G o = none → Same H3 (upd G o (.tup [V.str (Str.ofString "number"), .str (Str.ofString "name")]))) := fun G s o no => s.trans (same_upd no)
          refine iteT ⟨_, rfl, rfl, _, rfl, ?_⟩
          rw [dash, sort_sign]
          have rest := fun (o : Addr) (no : upd H3 a (.tup [V.str (Str.ofString "start"), .str (Str.ofString "term")]) o = none) => last _ sa o no
          cases g : isSg 45 sy with
          | true =>
            refine iteT ⟨_, rfl, rfl, _, rfl, iteF' (st_eq .term .start (by decide)) ⟨_, rfl, small_line (by show 2 ≤ 1000; decide), fun o no => ⟨o, _, rfl, .inr (SqT.of upd_same), rfl, rfl, _, rfl, ?_⟩⟩⟩
            rw [kind_in]
            have v : (isNu sy || isNm sy) = false := by
              cases sy with
              | sign c => rfl
              | _ => cases g
            rw [v]
            exact iteF ⟨_, rfl, ret _ (rest o no) (noK v)⟩
          | false =>
            refine iteF ⟨_, rfl, small_line (by show 2 ≤ 1000; decide), fun o no => ⟨o, _, rfl, .inr (SqT.of upd_same), rfl, rfl, _, rfl, ?_⟩⟩
            rw [kind_in]
            cases v : isNu sy || isNm sy with
            | true =>
              obtain ⟨st', e1, _, e2⟩ := valK v
              refine iteT ⟨_, rfl, ?_⟩
              have := nxt st' b _ (rest o no) e2
              rw [← e1] at this
              exact this
            | false => exact iteF ⟨_, rfl, ret _ (rest o no) (noK v)⟩
        | factor =>
          refine iteF ⟨_, rfl, rfl, _, rfl, iteT' (st_self .factor) ?_⟩
          refine ⟨fun σ G => Same H3 G ∧ isNm sy = true ∧ σ = [some (V.ref D), some (.bl true), some (.str (FSs .factor)), some (.bl b), some (.str (sortS sy)), some (.int (k : Int)), some (vS wd)], ?_, fun σ G hM => ?_⟩
          · refine ⟨_, rfl, rfl, _, rfl, ?_⟩
            rw [sort_name]
            cases n : isNm sy with
            | true => exact iteF ⟨sa, rfl, rfl⟩
            | false =>
              refine iteT ⟨_, rfl, ret _ sa ?_⟩
              cases sy with
              | name x => cases n
              | _ => rfl
          obtain ⟨s4, n, rfl⟩ := hM
          refine nxt .name b _ s4 ?_
          cases sy with
          | name x => rfl
          | _ => cases n
        | _ =>
          refine iteF ⟨_, rfl, rfl, _, rfl, iteF' (st_eq _ .factor (by decide)) ⟨_, rfl, rfl, _, rfl, ?_⟩⟩
          rw [starS, sort_sign]
          cases g : isSg 42 sy with
          | true =>
            obtain rfl : sy = .sign 42 := by
              cases sy with
              | sign c => rw [of_decide_eq_true g]
              | _ => cases g
            refine iteT ⟨_, rfl, rfl, _, rfl, ?_⟩
            first
              | exact iteT' (st_self .number) (nxt .factor b _ sa rfl)
              | (refine iteF' (st_eq .name .number (by decide)) ⟨_, rfl, small_line (by show 2 ≤ 1000; decide), fun o no => ⟨o, _, rfl, .inr (SqT.of upd_same), rfl, rfl, _, rfl, ?_⟩⟩
                 have so := sa.trans (same_upd (o := .tup [V.str (Str.ofString "+"), .str (Str.ofString "-")]) no)
                 rw [sort_pm]
                 refine iteF ⟨_, rfl, rfl, _, rfl, ?_⟩
                 rw [sort_rel]
                 refine iteF ⟨_, rfl, rfl, _, rfl, ?_⟩
                 rw [sort_end]
                 exact iteF ⟨_, rfl, ret _ so rfl⟩)
          | false =>
            refine iteF ⟨_, rfl, small_line (by show 2 ≤ 1000; decide), fun o no => ⟨o, _, rfl, .inr (SqT.of upd_same), rfl, rfl, _, rfl, ?_⟩⟩
            have so := sa.trans (same_upd (o := .tup [V.str (Str.ofString "+"), .str (Str.ofString "-")]) no)
            rw [sort_pm]
            cases pm : isPm sy with
            | true =>
              refine iteT (nxt .term b _ so ?_)
              cases sy with
              | sign c =>
                have g : c ≠ 42 := of_decide_eq_false g
                have pm : c = 43 ∨ c = 45 := of_decide_eq_true pm
                first | exact if_pos pm | exact (if_neg g).trans (if_pos pm)
              | _ => cases pm
            | false =>
              refine iteF ⟨_, rfl, rfl, _, rfl, ?_⟩
              rw [sort_rel]
              cases sy with
              | rel w =>
                refine iteT ⟨_, rfl, b, rfl, ?_⟩
                cases b with
                | true =>
                  refine iteF ⟨_, rfl, rfl, _, rfl, ?_⟩
                  rw [sort_end]
                  exact iteF ⟨_, rfl, ret _ so rfl⟩
                | false =>
                  refine iteT ⟨two_line, fun u nu => ⟨u, _, rfl, .inl (.inl upd_same), rfl, _, _, rfl, _, _, rfl, rfl, ?_⟩⟩
                  exact nxt .start true _ (so.trans (same_upd nu)) rfl
              | fin =>
                refine iteF ⟨_, rfl, rfl, _, rfl, ?_⟩
                rw [sort_end]
                refine iteT ⟨_, rfl, b, rfl, ?_⟩
                cases b with
                | true =>
                  refine iteT ⟨_, rfl, ?_⟩
                  have := q _ (s3.trans so)
                  rw [hf] at this
                  exact this
                | false => exact iteF ⟨_, rfl, ret _ so rfl⟩
              | sign c =>
                refine iteF ⟨_, rfl, rfl, _, rfl, ?_⟩
                rw [sort_end]
                have g : c ≠ 42 := of_decide_eq_false g
                have pm : ¬ (c = 43 ∨ c = 45) := of_decide_eq_false pm
                exact iteF ⟨_, rfl, ret _ so (by first | exact if_neg pm | exact (if_neg g).trans (if_neg pm))⟩
              | _ =>
                refine iteF ⟨_, rfl, rfl, _, rfl, ?_⟩
                rw [sort_end]
                exact iteF ⟨_, rfl, ret _ so rfl⟩
      · obtain ⟨s3, st, b, y4, y5, y6, hf, rfl⟩ := hp
        rw [List.length_map, lps, show L.length = (L.map two2).length from (List.length_map _).symm, List.drop_length] at hf
        refine ⟨s3, hf.trans ?_⟩
        cases st <;> rfl
    obtain ⟨s2, e⟩ := hM
    refine ⟨_, rfl, ?_⟩
    have := q H2 s2
    rw [e] at this
    exact this
end
/-! ### the rates that the law gathers, run -/
theorem int_digW {a : List Nat} (h : isD a = true) (hl : a.length ≤ 640) : intText? (SX.S a) = some ((NumText.digitsVal a : Nat) : Int) ∧ (SX.S a).length ≤ 640 := by
  obtain ⟨h1, h2⟩ := isD_iff.mp h
  refine ⟨intText_digits (x := SX.S a) h2 h1 (by rw [SX.S_len]; omega), ?_⟩
  rw [SX.S_len]
  exact hl
theorem cut_pos {n d : Int} (hd : 0 < d) (hn : 0 ≤ n) : (cutL (txtL n d)).1 = TL.numL n.natAbs ∧ (cutL (txtL n d)).2.1 = decide (d ≠ 1) ∧ (d ≠ 1 → (cutL (txtL n d)).2.2 = TL.numL d.natAbs) := by
  obtain ⟨h1, h2, h3, h4⟩ := parse_txt n d hd
  have hb : bodyL (txtL n d) = txtL n d := body_no (by rw [h1]; exact decide_eq_false (by omega))
  rw [hb] at h2 h3 h4
  exact ⟨h2, h3, h4⟩
section
variable {P : Program} {w : World} {K : PySem.W.Frag} {mg : Str → Option Value} {base : Heap} {fa : Nat → Addr} {fd : Nat → FuncData}
def spNumOf8 : Sp := fun vs H Q _ => ∃ f : FR, vs = [vS (txtL f.1 f.2)] ∧ Nf f ∧ 0 ≤ f.1 ∧ (txtL f.1 f.2).length ≤ 400 ∧ ∀ p, H p = none → ∀ H', Same H H' → H' p = some (trF f) → Q (.ref p) H'
theorem ok_number_of (T : Txt K mg fa fd) : FnOk P w K mg base CX0 1 (fa 63) (fd 63) ["_law_word"] spNumOf8 := by
  refine T.F_number_of.ok sc_number_of (fun vs H Q E h => ?_) (fun cdv A outer s H vs Q E hr h => ?_)
  · obtain ⟨f, rfl, _⟩ := h
    rfl
  · obtain ⟨f, rfl, nf, nn, hl, q⟩ := h
    refine ⟨_, (pss_cons (ps_asg (pe_m1 PySem.F.slot_str_partition PySem.F.type_str_partition mt_partition (pv 0) pe_str (by rfl) (by rfl) (by rfl)) (pg_tup (by rfl) (pgs_cons (pg_name (i := 1) sc_number_of.nd rfl (.inl rfl)) (pgs_cons (pg_name (i := 2) sc_number_of.nd rfl (.inl rfl)) (pgs_cons (pg_name (i := 3) sc_number_of.nd rfl (.inl rfl)) pgs_nil)))))
      (pss_one (ps_ret (pe_tup (pa_cons (pe_callTy call_int_str (by rfl) T.m_int PySem.Pv.boot_int (pa_cons (pv 1) pa_nil)) (pa_cons (pe_ifExp (pt_cmpR op_ne (pv 2) pe_str (nomark _)) (pe_callTy call_int_str (by rfl) T.m_int PySem.Pv.boot_int (pa_cons (pv 3) pa_nil)) pe_int) pa_nil)))))), ?_⟩
    obtain ⟨c1, c2, c3⟩ := cut_pos nf.1 nn
    obtain ⟨l1, l2⟩ := cut_len (txtL f.1 f.2)
    have pt := cut_S (txtL f.1 f.2)
    have line : ∀ {a : List Nat}, a.length ≤ 900 → (SX.S a).length ≤ sizeLine := fun {a} h => by
      rw [SX.S_len]
      exact small_line (by omega)
    have d1 := int_digW (isD_num f.1.natAbs) (by rw [← c1]; omega)
    have v1 : NumText.digitsVal (TL.numL f.1.natAbs) = f.1.natAbs := TL.numL_val _
    refine ⟨_, rfl, ⟨_, rfl⟩, _, _, rfl, rfl, by decide +kernel, line (by omega), fun p hp => ?_⟩
    rw [stroke, pt]
    refine ⟨p, _, rfl, SqT.of upd_same, rfl, _, _, rfl, _, _, rfl, _, _, rfl, rfl, _, rfl, _, _, rfl, by rw [c1]; exact d1.1, by rw [c1]; exact d1.2, _, rfl, rfl, _, rfl, ?_⟩
    rw [str_nil, c2]
    have fin : ∀ m : Int, m = f.2 → ∀ H1, Same H H1 → ∀ o, H1 o = none → Q (.ref o) (upd H1 o (.tup [.int ((NumText.digitsVal (TL.numL f.1.natAbs) : Nat) : Int), .int m])) := fun m e H1 s1 o no => by
      have e1 : ((NumText.digitsVal (TL.numL f.1.natAbs) : Nat) : Int) = f.1 := by rw [v1]; omega
      refine q o ?_ _ (s1.trans (same_upd no)) (by rw [upd_same, e1, e])
      cases h : H o with
      | none => rfl
      | some x =>
        rw [s1 _ _ h] at no
        cases no
    by_cases e : f.2 = 1
    · rw [decide_eq_false (show ¬ f.2 ≠ 1 from fun z => z e)]
      exact iteF ⟨two_line, fun o no => fin 1 e.symm _ (same_upd hp) o no⟩
    · rw [decide_eq_true (show f.2 ≠ 1 from e)]
      have d2 := int_digW (isD_num f.2.natAbs) (by rw [← c3 e]; omega)
      have v2 : NumText.digitsVal (TL.numL f.2.natAbs) = f.2.natAbs := TL.numL_val _
      refine iteT ⟨_, rfl, _, _, rfl, by rw [c3 e]; exact d2.1, by rw [c3 e]; exact d2.2, two_line, fun o no => fin _ (by rw [v2]; have := nf.1; omega) _ (same_upd hp) o no⟩
end
/-! ### the law's dict of rates -/
def lawK (l : List It) : List (List Nat) := l.foldl (fun N it => addN N it.1) []
theorem lawK_snoc (l : List It) (it : It) : lawK (l ++ [it]) = addN (lawK l) it.1 := by
  unfold lawK
  rw [List.foldl_append]
  rfl
theorem lawK_mem {y : List Nat} (l : List It) : y ∈ lawK l ↔ ∃ it ∈ l, it.1 = y := by
  unfold lawK
  rw [foldN_mem]
  exact ⟨fun h => h.resolve_left (fun z => by cases z), .inr⟩
theorem lawK_len (l : List It) : (lawK l).length ≤ l.length := by
  have := foldN_len l []
  unfold lawK
  rw [List.length_nil] at this
  omega
theorem lawV_none {l : List It} {x : List Nat} (h : x ∉ lawK l) : valL l x = (0, 1) :=
  sumX_none x l _ fun it hit e => h ((lawK_mem l).mpr ⟨it, hit, e⟩)
def heldS (b : Bool) : Str := if b = true then Str.ofString "number" else Str.ofString ""
theorem held_num (b : Bool) : decide (V.str (heldS b) = V.str (Str.ofString "number")) = b := by
  cases b with
  | true => exact decide_eq_true rfl
  | false =>
    refine decide_eq_false fun z => ?_
    have z := V.str.inj z
    revert z
    decide +kernel
theorem kind_fl (s : Sy) : inV (V.str (sortS s)) [V.str (Str.ofString "+"), .str (Str.ofString "-"), .str (Str.ofString "relation"), .str (Str.ofString "end")] = isFl s := by
  have e : inV (V.str (sortS s)) [V.str (Str.ofString "+"), .str (Str.ofString "-"), .str (Str.ofString "relation"), .str (Str.ofString "end")] = (isPm s || (isRel s || isFin s)) := by
    rw [← sort_pm, ← sort_rel, ← sort_end]
    show ((Str.ofString "+" == sortS s) || ((Str.ofString "-" == sortS s) || ((Str.ofString "relation" == sortS s) || ((Str.ofString "end" == sortS s) || false)))) = (((Str.ofString "+" == sortS s) || ((Str.ofString "-" == sortS s) || false)) || _)
    have q : ∀ a : Str, (a == sortS s) = decide (V.str (sortS s) = V.str a) := fun a => by
      rw [Bool.eq_iff_iff, beq_iff_eq, decide_eq_true_eq]
      exact ⟨fun h => by rw [h], fun h => (V.str.inj h).symm⟩
    rw [q, q, q, q]
    cases decide (V.str (sortS s) = V.str (Str.ofString "+")) <;> cases decide (V.str (sortS s) = V.str (Str.ofString "-")) <;> cases decide (V.str (sortS s) = V.str (Str.ofString "relation")) <;> cases decide (V.str (sortS s) = V.str (Str.ofString "end")) <;> rfl
  rw [e]
  cases s with
  | sign c =>
    show (pm c || (false || false)) = decide _
    rw [Bool.or_false, Bool.or_false]
    rfl
  | _ => rfl
theorem Bn.of1 {s : Int} (hs : s = 1 ∨ s = -1) : Bn 2048 ((s, 1) : FR) := by
  refine (bw_bn _).mono ?_
  rcases hs with rfl | rfl <;> decide
theorem mul_sgn {s : Int} (hs : s = 1 ∨ s = -1) {f : FR} (h : Nf f) : mulL (s, 1) f = sgn s f := by
  unfold mulL
  rw [Int.one_mul]
  exact low_nf (sgn_nf hs h)
def fA : Sy → FR → FR
  | .num g, _ => g
  | _, f => f
def dB : Sy → List It → FR → List It
  | .name x, dn, f => dn ++ [(x, f)]
  | _, dn, _ => dn
def sD : Sy → Int → Int
  | .sign c, s => if c = 43 then 1 else if c = 45 then -1 else s
  | _, s => s
def gE : Sy → Int → Int
  | .rel _, _ => -1
  | _, d => d
def sE : Sy → Int → Int
  | .rel _, _ => 1
  | _, s => s
theorem sD_pm {sy : Sy} {s : Int} (hs : s = 1 ∨ s = -1) : sD sy s = 1 ∨ sD sy s = -1 := by
  cases sy with
  | sign c =>
    show (if c = 43 then (1 : Int) else if c = 45 then -1 else s) = 1 ∨ (if c = 43 then (1 : Int) else if c = 45 then -1 else s) = -1
    by_cases h : c = 43
    · rw [if_pos h]
      exact .inl rfl
    · rw [if_neg h]
      by_cases h : c = 45
      · rw [if_pos h]
        exact .inr rfl
      · rw [if_neg h]
        exact hs
  | _ => exact hs
theorem wIt_snoc (dn : List It) (x : List Nat) {s : Int} (hs : s = 1 ∨ s = -1) (f : FR) : wIt (dn ++ [(x, sgn s f)]) = wIt dn + (bw f + 1) := by
  unfold wIt
  rw [List.map_append, List.sum_append]
  show _ + (bw (sgn s f) + 1 + 0) = _
  rw [sgn_bw hs]
section
variable {P : Program} {w : World} {K : PySem.W.Frag} {mg : Str → Option Value} {base : Heap} {fa : Nat → Addr} {fd : Nat → FuncData}
def spRates (K : PySem.W.Frag) : Sp := fun vs H Q _ => ∃ (D : Addr) (L : List Ly), vs = [.ref D] ∧ LSL H D L ∧ (∀ e ∈ L, OkE e ∧ isBad e.1 = false ∧ NumOk e.1) ∧ L.length ≤ 401 ∧ wS (L.map two2) ≤ 700 ∧
  ∀ d H', Same H H' → H d = none → RD K H' d (lawK (ratesM 1 1 (1, 1) false (L.map fun e => e.1))) (valL (ratesM 1 1 (1, 1) false (L.map fun e => e.1))) → Q (.ref d) H'
/-- the state behind a part of a turn -/
def RS (K : PySem.W.Frag) (H : Hp) (D d : Addr) (e : Ly) (g s : Int) (f : FR) (h : Bool) (dn : List It) : L2.St → Hp → Prop := fun σ G => Same H G ∧ RD K G d (lawK dn) (valL dn) ∧ ∃ pr, G pr = some (trF f) ∧ σ = [some (.ref D), some (.ref d), some (.int g), some (.int s), some (.ref pr), some (.str (heldS h)), some (.str (sortS e.1)), some (.int (e.2.1 : Nat)), some (vS e.2.2)]
theorem ok_rates_of (T : Txt K mg fa fd) : FnOk P w K mg base CX0 5 (fa 64) (fd 64) ["_law_symbols_here"] (spRates K) := by
  refine T.F_rates_of.ok sc_rates_of (fun vs H Q E h => ?_) (fun cdv A outer s H vs Q E hr h => ?_)
  · obtain ⟨D, L, rfl, _⟩ := h
    rfl
  · obtain ⟨D, L, rfl, hL, hok, hlen, hw, q⟩ := h
    refine ⟨_, (C8.pss_cut (ps_asg (pe_tup (pa_cons pe_dnewK (pa_cons pe_int (pa_cons pe_int (pa_cons (pe_tup (pa_cons pe_int (pa_cons pe_int pa_nil))) (pa_cons pe_str pa_nil)))))) (pg_tup (by rfl) (pgs_cons (pg_name (i := 1) sc_rates_of.nd rfl (.inl rfl)) (pgs_cons (pg_name (i := 2) sc_rates_of.nd rfl (.inl rfl)) (pgs_cons (pg_name (i := 3) sc_rates_of.nd rfl (.inl rfl)) (pgs_cons (pg_name (i := 4) sc_rates_of.nd rfl (.inl rfl)) (pgs_cons (pg_name (i := 5) sc_rates_of.nd rfl (.inl rfl)) pgs_nil)))))))
      (C8.pss_cut (ps_for PassesOwn.never rfl (pi_list (pv 0)) (pg_tup (by rfl) (pgs_cons (pg_name (i := 6) sc_rates_of.nd rfl (.inl rfl)) (pgs_cons (pg_name (i := 7) sc_rates_of.nd rfl (.inl rfl)) (pgs_cons (pg_name (i := 8) sc_rates_of.nd rfl (.inl rfl)) pgs_nil)))) (C8.pss_cut (ps_if (pt_cmpR op_eq (pv 6) pe_str (nomark _)) (pss_one (ps_par (i := 4) (j := 5) (by rfl) sc_rates_of.nd rfl rfl (by decide) rfl rfl (pa_cons (pe_call (ok_number_of T) (hr.mono (by decide)) (by rfl) T.g_number_of T.F_number_of.kp T.b_number_of .nil pass0 (pa_cons (pv 8) pa_nil)) (pa_cons pe_str pa_nil)) (by rfl))) pss_nil)
      (C8.pss_cut (ps_if (pt_cmpR op_eq (pv 6) pe_str (nomark _)) (C8.pss_cut (ps_dput (Nat.lt_of_le_of_lt (Nat.add_le_add_left (by decide) _) hr.units) (pv 1) (pv 8) (pe_call (ok_plus T) (hr.mono (by decide)) (by rfl) T.g_plus T.F_plus.kp T.b_plus .nil pass0 (pa_cons (pe_dget2 (Nat.lt_of_le_of_lt (Nat.add_le_add_left (by decide) _) hr.units) (pv 1) (pv 8) (pe_tup (pa_cons pe_int (pa_cons pe_int pa_nil))) ⟨by rfl, by rfl, by rfl, by rfl⟩) (pa_cons (pe_call (ok_by T) (hr.mono (by decide)) (by rfl) T.g_by T.F_by.kp T.b_by .nil pass0 (pa_cons (pe_tup (pa_cons (pe_op op_mul (pv 2) (pv 3)) (pa_cons pe_int pa_nil))) (pa_cons (pv 4) pa_nil))) pa_nil))) (by rfl))
      (pss_one (ps_asg (pe_tup (pa_cons (pe_tup (pa_cons pe_int (pa_cons pe_int pa_nil))) (pa_cons pe_str pa_nil))) (pg_tup (by rfl) (pgs_cons (pg_name (i := 4) sc_rates_of.nd rfl (.inl rfl)) (pgs_cons (pg_name (i := 5) sc_rates_of.nd rfl (.inl rfl)) pgs_nil)))))) pss_nil)
      (C8.pss_cut (ps_if (PW.pt (pw_and (pt_cmpR op_in_seq (pv 6) (pe_tup (pa_cons pe_str (pa_cons pe_str (pa_cons pe_str (pa_cons pe_str pa_nil))))) (by rfl)) (pw_and1 (pt_cmpR op_eq (pv 5) pe_str (nomark _))))) (C8.pss_cut (ps_dput (Nat.lt_of_le_of_lt (Nat.add_le_add_left (by decide) _) hr.units) (pv 1) pe_str (pe_call (ok_plus T) (hr.mono (by decide)) (by rfl) T.g_plus T.F_plus.kp T.b_plus .nil pass0 (pa_cons (pe_dget2 (Nat.lt_of_le_of_lt (Nat.add_le_add_left (by decide) _) hr.units) (pv 1) pe_str (pe_tup (pa_cons pe_int (pa_cons pe_int pa_nil))) ⟨by rfl, by rfl, by rfl, by rfl⟩) (pa_cons (pe_call (ok_by T) (hr.mono (by decide)) (by rfl) T.g_by T.F_by.kp T.b_by .nil pass0 (pa_cons (pe_tup (pa_cons (pe_op op_mul (pv 2) (pv 3)) (pa_cons pe_int pa_nil))) (pa_cons (pv 4) pa_nil))) pa_nil))) (by rfl))
      (pss_one (ps_asg (pe_tup (pa_cons (pe_tup (pa_cons pe_int (pa_cons pe_int pa_nil))) (pa_cons pe_str pa_nil))) (pg_tup (by rfl) (pgs_cons (pg_name (i := 4) sc_rates_of.nd rfl (.inl rfl)) (pgs_cons (pg_name (i := 5) sc_rates_of.nd rfl (.inl rfl)) pgs_nil)))))) pss_nil)
      (C8.pss_cut (ps_if (pt_cmpR op_in_seq (pv 6) (pe_tup (pa_cons pe_str (pa_cons pe_str pa_nil))) (by rfl)) (pss_one (ps_set (i := 3) sc_rates_of.nd rfl (.inl rfl) (pe_ifExp (pt_cmpR op_eq (pv 6) pe_str (nomark _)) pe_int (pe_un un_neg pe_int)))) pss_nil)
      (pss_one (ps_if (pt_cmpR op_eq (pv 6) pe_str (nomark _)) (pss_one (ps_asg (pe_tup (pa_cons (pe_un un_neg pe_int) (pa_cons pe_int pa_nil))) (pg_tup (by rfl) (pgs_cons (pg_name (i := 2) sc_rates_of.nd rfl (.inl rfl)) (pgs_cons (pg_name (i := 3) sc_rates_of.nd rfl (.inl rfl)) pgs_nil))))) pss_nil)))))))
      (pss_one (ps_ret (pv 1))))), ?_⟩
    obtain ⟨ps, hps, hpp⟩ := hL
    have lps := Paired.length hpp
    refine ⟨fun σ H1 => ∃ d pr, H d = none ∧ Same H H1 ∧ RD K H1 d [] (valL []) ∧ H1 pr = some (trF (1, 1)) ∧ σ = [some (.ref D), some (.ref d), some (.int 1), some (.int 1), some (.ref pr), some (.str (heldS false)), none, none, none], ?_, fun σ H1 hM => ?_⟩
    · refine fun d nd => ⟨two_line, fun pr npr => ⟨small_line (by show 5 ≤ 1000; decide), fun o no => ⟨o, _, rfl, .inl (.inl upd_same), rfl, _, _, rfl, _, _, rfl, _, _, rfl, _, _, rfl, _, _, rfl, rfl, ?_⟩⟩⟩
      have s1 := same_upd (o := .dK []) nd
      have s2 := same_upd (o := trF (1, 1)) npr
      have s3 := same_upd (o := .tup [V.ref d, .int 1, .int 1, .ref pr, .str (Str.ofString "")]) no
      exact ⟨d, pr, nd, s1.trans (s2.trans s3), ⟨[], (s2.trans s3) _ _ upd_same, rfl, List.nodup_nil, fun x hx => by cases hx⟩, s3 _ _ upd_same, rfl⟩
    obtain ⟨d, pr, nd, s1, hd, hpr, rfl⟩ := hM
    refine ⟨fun σ H2 => Same H H2 ∧ RD K H2 d (lawK (ratesM 1 1 (1, 1) false (L.map fun e => e.1))) (valL (ratesM 1 1 (1, 1) false (L.map fun e => e.1))) ∧ σ[1]? = some (some (.ref d)), ?_, fun σ H2 hM => ?_⟩
    · refine ⟨_, rfl, D, rfl, ⟨_, SqL.of (s1 _ _ hps)⟩, for_list (K := K) (a := D) (xs := ps.map V.ref) (fun i σ G => Same H G ∧ ∃ (g s : Int) (f : FR) (h : Bool) (dn : List It) (pr : Addr) (y6 y7 y8 : Option V), RD K G d (lawK dn) (valL dn) ∧ G pr = some (trF f) ∧ Nf f ∧ (h = false → f = (1, 1)) ∧ (g = 1 ∨ g = -1) ∧ (s = 1 ∨ s = -1) ∧ (∀ it ∈ dn, Nf it.2) ∧ dn.length ≤ i ∧ wIt dn + (if h = true then bw f + 1 else 0) + wS ((L.map two2).drop i) ≤ 700 ∧ ratesM 1 1 (1, 1) false (L.map fun e => e.1) = dn ++ ratesM g s f h ((L.map fun e => e.1).drop i) ∧ σ = [some (.ref D), some (.ref d), some (.int g), some (.int s), some (.ref pr), some (.str (heldS h)), y6, y7, y8]) ⟨s1, 1, 1, (1, 1), false, [], pr, _, _, _, hd, hpr, nf_11, fun _ => rfl, .inl rfl, .inl rfl, (fun it h => by cases h), Nat.zero_le _, ?_, rfl, rfl⟩ (fun i σ G _ hp => SqL.of (hp.1 _ _ hps)) (fun i x σ G hx hp => ?_) (fun σ G hp => ?_)⟩
      · show 0 + 0 + wS (L.map two2) ≤ 700
        omega
      · obtain ⟨sG, g, s, f, h, dn, pr, y6, y7, y8, hd, hpr, nf, h0, hg, hs, hnf, hdl, hwt, he, rfl⟩ := hp
        rw [List.getElem?_map] at hx
        obtain ⟨p, hp, rfl⟩ := Option.map_eq_some_iff.mp hx
        have il : i < L.length := by
          have := (List.getElem?_eq_some_iff.mp hp).1
          omega
        obtain ⟨⟨sy, k, wd⟩, hL⟩ : ∃ e, L[i]? = some e := ⟨_, List.getElem?_eq_getElem il⟩
        obtain ⟨p', hp', hpd⟩ := paired_at i hpp hL
        rw [hp] at hp'
        cases hp'
        have hpd := sG _ _ hpd
        obtain ⟨⟨o1, o2, o3, o4⟩, nb, no⟩ := hok _ (List.mem_of_getElem? hL)
        have hwd : wd = wordS sy := o4 nb
        have e1 : (L.map two2).drop i = (sy, k) :: (L.map two2).drop (i + 1) := drop_at (by rw [List.getElem?_map, hL]; rfl)
        have e2 : (L.map fun e => e.1).drop i = sy :: (L.map fun e => e.1).drop (i + 1) := by
          have hi : i < (L.map fun e => e.1).length := by rw [List.length_map]; exact il
          rw [List.drop_eq_getElem_cons hi, List.getElem_map]
          rw [List.getElem?_eq_getElem il] at hL
          rw [Option.some.inj hL]
        rw [e1, show wS ((sy, k) :: (L.map two2).drop (i + 1)) = wSy sy + wS ((L.map two2).drop (i + 1)) from by unfold wS; rw [List.map_cons, List.sum_cons]] at hwt
        rw [e2] at he
        refine ⟨p, _, rfl, .inl (.inl hpd), rfl, _, _, rfl, _, _, rfl, _, _, rfl, rfl, ?_⟩
        -- a number
        refine ⟨RS K H D d (sy, k, wd) g s (fA sy f) (isNu sy || h) dn, ?_, fun σ G1 hM => ?_⟩
        · refine ⟨_, rfl, rfl, _, rfl, ?_⟩
          rw [sort_number]
          cases sy with
          | num z =>
            have wz : wd = txtL z.1 z.2 := hwd
            refine iteT ⟨_, rfl, z, by rw [← wz]; rfl, no.1, no.2, by rw [← wz]; exact o3, fun o no H' s' ho => ⟨_, _, rfl, sG.trans s', hd.same s', o, ho, rfl⟩⟩
          | _ => exact iteF ⟨sG, hd, pr, hpr, rfl⟩
        clear hpr hpd sG hd
        clear pr
        obtain ⟨sG, hd, pr, hpr, rfl⟩ := hM
        have nf1 : Nf (fA sy f) := by
          cases sy with
          | num z => exact no.1
          | _ => exact nf
        have hbw : bw (fA sy f) ≤ 700 := by
          have h1 : h = true ∨ f = (1, 1) := by
            cases h with
            | true => exact .inl rfl
            | false => exact .inr (h0 rfl)
          have h2 : bw f ≤ 700 := by
            rcases h1 with rfl | rfl
            · rw [if_pos rfl] at hwt
              omega
            · decide
          cases sy with
          | num z =>
            have : wSy (.num z) = bw z + 1 := rfl
            show bw z ≤ 700
            omega
          | _ => exact h2
        have bnf : Bn 2048 (fA sy f) := (bw_bn _).mono (Nat.le_trans hbw (by decide))
        have bnv : ∀ x, Bn 2048 (valL dn x) := fun x => (sumX_bn x dn (0, 1) 1 nf_01 bn_01 hnf).mono (by omega)
        have nfv : ∀ {x}, Nf (valL dn x) := fun {x} => sumX_nf x dn _ nf_01 hnf
        have gs1 : g * s = 1 ∨ g * s = -1 := by
          rcases hg with rfl | rfl <;> rcases hs with rfl | rfl <;> decide
        -- a name
        refine ⟨RS K H D d (sy, k, wd) g s (if isNm sy = true then (1, 1) else fA sy f) (!isNm sy && (isNu sy || h)) (dB sy dn (sgn (g * s) (fA sy f))), ?_, fun σ G2 hM => ?_⟩
        · refine ⟨_, rfl, rfl, _, rfl, ?_⟩
          rw [sort_name]
          cases sy with
          | name x =>
            have wx : wd = x := hwd
            subst wx
            obtain ⟨kvs, hkv, hR⟩ := hd
            have hkl : kvs.length < sizeLine := by
              rw [hR.len]
              have := lawK_len dn
              exact small1000 (by omega)
            refine iteT ⟨RS K H D d (.name wd, k, wd) g s f h (dn ++ [(wd, sgn (g * s) f)]), ?_, fun σ G2 hM => ?_⟩
            · refine ⟨_, rfl, d, rfl, .inl ⟨kvs, .inl hkv⟩, _, rfl, two_line, fun z nz => ⟨valV kvs (keyOf wd), DGet.k (k := keyOf wd) (same_upd nz _ _ hkv), ?_⟩⟩
              have sz := same_upd (o := .tup [V.int 0, .int 1]) nz
              have got : ∃ q, (valV kvs (keyOf wd)).getD (.ref z) = .ref q ∧ FrK K (upd G1 z (.tup [V.int 0, .int 1])) q (valL dn wd) := by
                by_cases m : wd ∈ lawK dn
                · obtain ⟨q, e, h⟩ := hR.2.2 wd m
                  exact ⟨q, by rw [e]; rfl, SqT.sm sz _ _ h.1⟩
                · rw [hR.none m, lawV_none m]
                  exact ⟨z, rfl, SqT.of upd_same⟩
              obtain ⟨q1, eq1, hq1⟩ := got
              rw [eq1]
              refine ⟨_, rfl, _, rfl, _, _, rfl, rfl, .inl (by rcases hg with rfl | rfl <;> decide), two_line, fun t nt => ⟨_, rfl, t, pr, (g * s, 1), f, rfl, SqT.of upd_same, SqT.of (same_upd nt _ _ (sz _ _ hpr)), Int.zero_lt_one, nf.1, Bn.of1 gs1, bnf, fun e ne => ?_⟩⟩
              have st := same_upd (o := .tup [V.int (g * s), .int 1]) nt
              have se := same_upd (o := trF (mulL (g * s, 1) f)) ne
              rw [mul_sgn gs1 nf] at se ⊢
              refine ⟨q1, e, valL dn wd, sgn (g * s) f, rfl, SqT.sm (st.trans se) _ _ hq1, SqT.of upd_same, nfv.1, nf.1, bnv wd, (bw_bn _).mono (by rw [sgn_bw gs1]; exact Nat.le_trans hbw (by decide)), fun o no => ?_⟩
              have so := sz.trans (st.trans (se.trans (same_upd (o := trF (addL (valL dn wd) (sgn (g * s) f))) no)))
              have hkv2 := so _ _ hkv
              refine ⟨_, rfl, _, rfl, d, _, rfl, DPut.k (k := keyOf wd) hkv2 hkl, ?_, ?_, pr, ?_, rfl⟩
              · intro b u eb
                rw [upd_ne (ne_of_none eb nd)]
                exact so _ _ (sG _ _ eb)
              · rw [lawK_snoc, valL_snoc]
                exact ⟨_, upd_same, ((hR.mono (Tr.sm so)).put upd_same).mono (Tr.updD hkv2)⟩
              · rw [upd_ne (fun z => by rw [z, hkv] at hpr; cases hpr)]
                exact so _ _ hpr
            · obtain ⟨sG, hd, pr, hpr, rfl⟩ := hM
              refine ⟨two_line, fun u nu => ⟨two_line, fun o no => ⟨o, _, rfl, .inl (.inl upd_same), rfl, _, _, rfl, _, _, rfl, rfl, ?_⟩⟩⟩
              have s2 := (same_upd (o := trF (1, 1)) nu).trans (same_upd (o := .tup [V.ref u, .str (Str.ofString "")]) no)
              exact ⟨sG.trans s2, hd.same s2, u, same_upd no _ _ upd_same, rfl⟩
          | _ => exact iteF ⟨sG, hd, pr, hpr, rfl⟩
        clear hpr sG hd
        clear pr
        obtain ⟨f2, hf2⟩ : ∃ f2 : FR, f2 = if isNm sy = true then (1, 1) else fA sy f := ⟨_, rfl⟩
        obtain ⟨h2, hh2⟩ : ∃ h2 : Bool, h2 = (!isNm sy && (isNu sy || h)) := ⟨_, rfl⟩
        obtain ⟨dn2, hdn2⟩ : ∃ dn2, dn2 = dB sy dn (sgn (g * s) (fA sy f)) := ⟨_, rfl⟩
        rw [← hf2, ← hh2, ← hdn2] at hM
        have nf2 : Nf f2 := by
          rw [hf2]
          split
          · exact nf_11
          · exact nf1
        have hbw2 : bw f2 ≤ 700 := by
          rw [hf2]
          split
          · decide
          · exact hbw
        have wdn2 : wIt dn2 ≤ wIt dn + 701 ∧ dn2.length ≤ dn.length + 1 ∧ ∀ it ∈ dn2, Nf it.2 := by
          rw [hdn2]
          cases sy with
          | name x =>
            refine ⟨?_, ?_, fun it hit => ?_⟩
            · have : wIt (dn ++ [(x, sgn (g * s) f)]) = wIt dn + (bw f + 1) := by
                unfold wIt
                rw [List.map_append, List.sum_append]
                show _ + (bw (sgn (g * s) f) + 1 + 0) = _
                rw [sgn_bw gs1]
              show wIt (dn ++ [(x, sgn (g * s) f)]) ≤ _
              have hbw : bw f ≤ 700 := hbw
              omega
            · show (dn ++ [(x, sgn (g * s) f)]).length ≤ _
              rw [List.length_append]
              exact Nat.le_refl _
            · rcases List.mem_append.mp hit with h | h
              · exact hnf it h
              · rw [List.mem_singleton.mp h]
                exact sgn_nf gs1 nf
          | _ => exact ⟨by show wIt dn ≤ _; omega, by show dn.length ≤ _; omega, hnf⟩
        have bnf2 : Bn 2048 f2 := (bw_bn _).mono (Nat.le_trans hbw2 (by decide))
        have bnv2 : ∀ x, Bn 2048 (valL dn2 x) := fun x => (sumX_bn x dn2 (0, 1) 1 nf_01 bn_01 wdn2.2.2).mono (by omega)
        have nfv2 : ∀ {x}, Nf (valL dn2 x) := fun {x} => sumX_nf x dn2 _ nf_01 wdn2.2.2
        obtain ⟨sG, hd, pr, hpr, rfl⟩ := hM
        -- the end of a term
        refine ⟨RS K H D d (sy, k, wd) g s (if (isFl sy && h2) = true then (1, 1) else f2) (h2 && !isFl sy) (if (isFl sy && h2) = true then dn2 ++ [([], sgn (g * s) f2)] else dn2), ?_, fun σ G3 hM => ?_⟩
        · refine ⟨_, rfl, small_line (by show 4 ≤ 1000; decide), fun o no => ⟨o, _, rfl, .inr (SqT.of upd_same), rfl, rfl, _, rfl, ?_⟩⟩
          have sq := same_upd (o := .tup [V.str (Str.ofString "+"), .str (Str.ofString "-"), .str (Str.ofString "relation"), .str (Str.ofString "end")]) no
          rw [kind_fl]
          have sG := sG.trans sq
          have hd := hd.same sq
          have hpr := sq _ _ hpr
          generalize upd G2 o (.tup [V.str (Str.ofString "+"), .str (Str.ofString "-"), .str (Str.ofString "relation"), .str (Str.ofString "end")]) = G1 at *
          cases fl : isFl sy with
          | false =>
            rw [Bool.not_false, Bool.and_true]
            exact iteF ⟨sG, hd, pr, hpr, rfl⟩
          | true =>
            refine iteT ⟨_, rfl, rfl, _, rfl, ?_⟩
            rw [held_num]
            cases hh : h2 with
            | false => exact iteF ⟨sG, hd, pr, hpr, rfl⟩
            | true =>
              obtain ⟨kvs, hkv, hR⟩ := hd
              have hkl : kvs.length < sizeLine := by
                rw [hR.len]
                have := lawK_len dn2
                exact small1000 (by omega)
              refine iteT ⟨RS K H D d (sy, k, wd) g s f2 true (dn2 ++ [([], sgn (g * s) f2)]), ?_, fun σ G2 hM => ?_⟩
              · refine ⟨_, rfl, d, rfl, .inl ⟨kvs, .inl hkv⟩, two_line, fun z nz => ⟨valV kvs (keyOf []), by rw [emptyS]; exact DGet.k (k := keyOf []) (same_upd nz _ _ hkv), ?_⟩⟩
                have sz := same_upd (o := .tup [V.int 0, .int 1]) nz
                have got : ∃ q, (valV kvs (keyOf [])).getD (.ref z) = .ref q ∧ FrK K (upd G1 z (.tup [V.int 0, .int 1])) q (valL dn2 []) := by
                  by_cases m : [] ∈ lawK dn2
                  · obtain ⟨q, e, h⟩ := hR.2.2 [] m
                    exact ⟨q, by rw [e]; rfl, SqT.sm sz _ _ h.1⟩
                  · rw [hR.none m, lawV_none m]
                    exact ⟨z, rfl, SqT.of upd_same⟩
                obtain ⟨q1, eq1, hq1⟩ := got
                rw [eq1]
                refine ⟨_, rfl, _, rfl, _, _, rfl, rfl, .inl (by rcases hg with rfl | rfl <;> decide), two_line, fun t nt => ⟨_, rfl, t, pr, (g * s, 1), f2, rfl, SqT.of upd_same, SqT.of (same_upd nt _ _ (sz _ _ hpr)), Int.zero_lt_one, nf2.1, Bn.of1 gs1, bnf2, fun e ne => ?_⟩⟩
                have st := same_upd (o := .tup [V.int (g * s), .int 1]) nt
                have se := same_upd (o := trF (mulL (g * s, 1) f2)) ne
                rw [mul_sgn gs1 nf2] at se ⊢
                refine ⟨q1, e, valL dn2 [], sgn (g * s) f2, rfl, SqT.sm (st.trans se) _ _ hq1, SqT.of upd_same, nfv2.1, nf2.1, bnv2 [], (bw_bn _).mono (by rw [sgn_bw gs1]; exact Nat.le_trans hbw2 (by decide)), fun o no => ?_⟩
                have so := sz.trans (st.trans (se.trans (same_upd (o := trF (addL (valL dn2 []) (sgn (g * s) f2))) no)))
                have hkv2 := so _ _ hkv
                refine ⟨_, rfl, d, _, rfl, by rw [emptyS]; exact DPut.k (k := keyOf []) hkv2 hkl, ?_, ?_, pr, ?_, rfl⟩
                · intro b u eb
                  rw [upd_ne (ne_of_none eb nd)]
                  exact so _ _ (sG _ _ eb)
                · rw [lawK_snoc, valL_snoc]
                  exact ⟨_, upd_same, ((hR.mono (Tr.sm so)).put upd_same).mono (Tr.updD hkv2)⟩
                · rw [upd_ne (fun z => by rw [z, hkv] at hpr; cases hpr)]
                  exact so _ _ hpr
              · obtain ⟨sG, hd, pr, hpr, rfl⟩ := hM
                refine ⟨two_line, fun u nu => ⟨two_line, fun o no => ⟨o, _, rfl, .inl (.inl upd_same), rfl, _, _, rfl, _, _, rfl, rfl, ?_⟩⟩⟩
                have s2 := (same_upd (o := trF (1, 1)) nu).trans (same_upd (o := .tup [V.ref u, .str (Str.ofString "")]) no)
                exact ⟨sG.trans s2, hd.same s2, u, same_upd no _ _ upd_same, rfl⟩
        clear hpr sG hd
        clear pr
        obtain ⟨f3, hf3⟩ : ∃ f3 : FR, f3 = if (isFl sy && h2) = true then (1, 1) else f2 := ⟨_, rfl⟩
        obtain ⟨dn3, hdn3⟩ : ∃ dn3, dn3 = if (isFl sy && h2) = true then dn2 ++ [([], sgn (g * s) f2)] else dn2 := ⟨_, rfl⟩
        rw [← hf3, ← hdn3] at hM
        obtain ⟨sG, hd, pr, hpr, rfl⟩ := hM
        -- the sign
        refine ⟨RS K H D d (sy, k, wd) g (sD sy s) f3 (h2 && !isFl sy) dn3, ?_, fun σ G4 hM => ?_⟩
        · refine ⟨_, rfl, two_line, fun o no => ⟨o, _, rfl, .inr (SqT.of upd_same), rfl, rfl, _, rfl, ?_⟩⟩
          have sq := same_upd (o := .tup [V.str (Str.ofString "+"), .str (Str.ofString "-")]) no
          rw [sort_pm]
          have sG := sG.trans sq
          have hd := hd.same sq
          have hpr := sq _ _ hpr
          cases sy with
          | sign c =>
            by_cases cp : c = 43 ∨ c = 45
            · rw [show isPm (.sign c) = true from decide_eq_true cp]
              refine iteT ⟨_, rfl, rfl, _, rfl, ?_⟩
              rw [plusS, sort_sign]
              by_cases c3 : c = 43
              · rw [show isSg 43 (.sign c) = true from decide_eq_true c3, show sD (.sign c) s = 1 from if_pos c3]
                exact iteT ⟨sG, hd, pr, hpr, rfl⟩
              · rw [show isSg 43 (.sign c) = false from decide_eq_false c3, show sD (.sign c) s = -1 from (if_neg c3).trans (if_pos (cp.resolve_left c3))]
                exact iteF ⟨_, rfl, sG, hd, pr, hpr, rfl⟩
            · rw [show isPm (.sign c) = false from decide_eq_false cp, show sD (.sign c) s = s from (if_neg fun z => cp (.inl z)).trans (if_neg fun z => cp (.inr z))]
              exact iteF ⟨sG, hd, pr, hpr, rfl⟩
          | _ => exact iteF ⟨sG, hd, pr, hpr, rfl⟩
        clear hpr sG hd
        clear pr
        obtain ⟨sG, hd, pr, hpr, rfl⟩ := hM
        have fin : ∀ G5, Same H G5 → RD K G5 d (lawK dn3) (valL dn3) → G5 pr = some (trF f3) → Same H G5 ∧ ∃ (g' s' : Int) (f' : FR) (h' : Bool) (dn' : List It) (pr' : Addr) (y6 y7 y8 : Option V), RD K G5 d (lawK dn') (valL dn') ∧ G5 pr' = some (trF f') ∧ Nf f' ∧ (h' = false → f' = (1, 1)) ∧ (g' = 1 ∨ g' = -1) ∧ (s' = 1 ∨ s' = -1) ∧ (∀ it ∈ dn', Nf it.2) ∧ dn'.length ≤ i + 1 ∧ wIt dn' + (if h' = true then bw f' + 1 else 0) + wS ((L.map two2).drop (i + 1)) ≤ 700 ∧ ratesM 1 1 (1, 1) false (L.map fun e => e.1) = dn' ++ ratesM g' s' f' h' ((L.map fun e => e.1).drop (i + 1)) ∧ [some (V.ref D), some (.ref d), some (.int (gE sy g)), some (.int (sE sy (sD sy s))), some (.ref pr), some (.str (heldS (h2 && !isFl sy))), some (V.str (sortS sy)), some (.int (k : Nat)), some (vS wd)] = [some (.ref D), some (.ref d), some (.int g'), some (.int s'), some (.ref pr'), some (.str (heldS h')), y6, y7, y8] := fun G5 s5 hd5 hp5 => by
          refine ⟨s5, gE sy g, sE sy (sD sy s), f3, h2 && !isFl sy, dn3, pr, _, _, _, hd5, hp5, ?_, ?_, ?_, ?_, ?_, ?_, ?_, ?_, rfl⟩
          · rw [hf3]
            split
            · exact nf_11
            · exact nf2
          · intro z
            rw [hf3]
            split
            · rfl
            · rename_i c
              rw [hf2]
              have z2 : h2 = false := by
                cases q : h2 with
                | false => rfl
                | true =>
                  rw [q, Bool.and_true] at c
                  rw [q, Bool.eq_false_iff.mpr c] at z
                  cases z
              rw [hh2] at z2
              cases sy with
              | name x => rfl
              | num x => cases z2
              | _ => exact h0 z2
          · cases sy with
            | rel r => exact .inr rfl
            | _ => exact hg
          · cases sy with
            | rel r => exact .inl rfl
            | sign c => exact sD_pm (sy := .sign c) hs
            | _ => exact hs
          · rw [hdn3]
            split
            · intro it hit
              rcases List.mem_append.mp hit with h | h
              · exact wdn2.2.2 it h
              · rw [List.mem_singleton.mp h]
                exact sgn_nf gs1 nf2
            · exact wdn2.2.2
          · rw [hdn3, hdn2]
            cases sy with
            | name x =>
              show (dn ++ [(x, _)]).length ≤ i + 1
              rw [List.length_append]
              show dn.length + 1 ≤ i + 1
              omega
            | _ =>
              show (if _ then dn ++ [_] else dn).length ≤ i + 1
              split
              · rw [List.length_append]
                show dn.length + 1 ≤ i + 1
                omega
              · omega
          · rw [hdn3, hf3, hh2, hdn2, hf2]
            cases sy with
            | num z =>
              show wIt dn + (bw z + 1) + _ ≤ _
              have : wSy (.num z) = bw z + 1 := rfl
              omega
            | name x =>
              have w1 := wIt_snoc dn x gs1 f
              show wIt (dn ++ [(x, sgn (g * s) f)]) + 0 + _ ≤ _
              have : wSy (.name x) = 2 := rfl
              rw [w1]
              cases h with
              | true =>
                rw [if_pos rfl] at hwt
                omega
              | false =>
                rw [if_neg (by decide)] at hwt
                rw [h0 rfl, show bw (1, 1) = 1 by decide]
                omega
            | sign c =>
              have w1 := wIt_snoc dn [] gs1 f
              cases fl : isFl (.sign c) with
              | false =>
                show wIt dn + (if (h && true) = true then bw f + 1 else 0) + _ ≤ _
                rw [Bool.and_true]
                omega
              | true =>
                cases h with
                | true =>
                  rw [if_pos rfl] at hwt
                  show wIt (dn ++ [([], sgn (g * s) f)]) + 0 + _ ≤ _
                  omega
                | false =>
                  rw [if_neg (by decide)] at hwt
                  show wIt dn + 0 + _ ≤ _
                  omega
            | bad => cases nb
            | _ =>
              have w1 := wIt_snoc dn [] gs1 f
              cases h with
              | true =>
                rw [if_pos rfl] at hwt
                show wIt (dn ++ [([], sgn (g * s) f)]) + 0 + _ ≤ _
                omega
              | false =>
                rw [if_neg (by decide)] at hwt
                show wIt dn + 0 + _ ≤ _
                omega
          · rw [he, hdn3, hf3, hh2, hdn2, hf2]
            have app : ∀ (x : It) (r : List It), dn ++ x :: r = dn ++ [x] ++ r := fun x r => by rw [List.append_assoc]; rfl
            cases sy with
            | num z => rfl
            | name x => exact app _ _
            | sign c =>
              show dn ++ (if c = 43 ∨ c = 45 then _ else _) = _
              by_cases cp : c = 43 ∨ c = 45
              · have e3 : sD (.sign c) s = if c = 43 then 1 else -1 := by
                  show (if c = 43 then (1 : Int) else if c = 45 then -1 else s) = _
                  by_cases c3 : c = 43
                  · rw [if_pos c3, if_pos c3]
                  · rw [if_neg c3, if_neg c3, if_pos (cp.resolve_left c3)]
                rw [if_pos cp, show isFl (.sign c) = true from decide_eq_true cp, e3]
                cases h with
                | true => exact app _ _
                | false => rfl
              · have e3 : sD (.sign c) s = s := (if_neg fun z => cp (.inl z)).trans (if_neg fun z => cp (.inr z))
                rw [if_neg cp, show isFl (.sign c) = false from decide_eq_false cp, e3]
                cases h <;> rfl
            | bad => cases nb
            | _ =>
              cases h with
              | true => exact app _ _
              | false => rfl
        refine ⟨_, rfl, rfl, _, rfl, ?_⟩
        rw [sort_rel]
        cases sy with
        | rel r => exact iteT ⟨_, rfl, two_line, fun o no => ⟨o, _, rfl, .inl (.inl upd_same), rfl, _, _, rfl, _, _, rfl, rfl, fin _ (sG.trans (same_upd no)) (hd.same (same_upd no)) (same_upd no _ _ hpr)⟩⟩
        | _ => exact iteF (fin _ sG hd hpr)
      · obtain ⟨sG, g, s, f, h, dn, pr, y6, y7, y8, hd, hpr, nf, h0, hg, hs, hnf, hdl, hwt, he, rfl⟩ := hp
        rw [List.length_map, lps, show L.length = (L.map fun e => e.1).length from (List.length_map _).symm, List.drop_length] at he
        have e0 : ratesM g s f h [] = [] := by unfold ratesM; rfl
        rw [e0, List.append_nil] at he
        rw [he]
        exact ⟨sG, hd, rfl⟩
    obtain ⟨s2, hd2, e2⟩ := hM
    exact ⟨_, e2, q d H2 s2 nd hd2⟩
end
/-! ### the law's ties: what there is to know -/
theorem parse_info {S : List (Sy × Nat)} {w c : Nat} (hS : SyL S w c) {l r : List It} {g : List Nat} (h : parseP S = .ok (l, g, r)) :
    ∃ k1 i1 k2 i2, headP S 0 = .ok (l, k1) ∧ S[k1]? = some (.rel g, i1) ∧ headP S (k1 + 1) = .ok (r, k2) ∧ S[k2]? = some (.fin, i2) := by
  unfold parseP at h
  split at h
  · cases h
  · rename_i l1 k1 e1
    split at h
    · rename_i g1 i1 hs1
      split at h
      · cases h
      · rename_i r1 k2 e2
        split at h
        · rename_i i2 hs2
          injection h with h
          injection h with hl h
          injection h with hg hr
          subst hl hg hr
          exact ⟨k1, i1, k2, i2, e1, hs1, e2, hs2⟩
        · cases h
        · cases h
    · cases h
    · cases h
theorem parse_good {S : List (Sy × Nat)} {w c : Nat} (hS : SyL S w c) {l r : List It} {g : List Nat} (h : parseP S = .ok (l, g, r)) : ∀ e ∈ S, isBad e.1 = false := by
  obtain ⟨k1, i1, k2, i2, _, _, _, h2⟩ := parse_info hS h
  obtain ⟨dn, z, i, e, hz, hd⟩ := hS.ends
  have k2l := (List.getElem?_eq_some_iff.mp h2).1
  have lst : k2 = dn.length := by
    have sl : S.length = dn.length + 1 := by rw [e, List.length_append, List.length_singleton]
    rw [sl] at k2l
    rw [e] at h2
    by_cases q : k2 < dn.length
    · rw [List.getElem?_append_left q] at h2
      have := (hd _ (List.mem_of_getElem? h2)).1
      cases this
    · omega
  rw [e, lst, List.getElem?_append_right (Nat.le_refl _), Nat.sub_self] at h2
  obtain ⟨rfl, rfl⟩ : z = .fin ∧ i = i2 := by
    have := Option.some.inj h2
    injection this with a b
    exact ⟨a, b⟩
  intro x hx
  rw [e] at hx
  rcases List.mem_append.mp hx with hx | hx
  · exact (hd x hx).2
  · rw [List.mem_singleton.mp hx]
    rfl
theorem two_parse {S : List (Sy × Nat)} (hS : SyL S 700 20) {l r : List It} {g : List Nat} (h : parseP S = .ok (l, g, r)) : Two l r := by
  obtain ⟨k1, i1, k2, i2, e1, _, e2, _⟩ := parse_info hS h
  exact two_of hS (headP_ok hS e1) (headP_ok hS e2)
/-! the first relation -/
def NoR (S : List (Sy × Nat)) (k k' : Nat) : Prop := ∀ j s i, k ≤ j → j < k' → S[j]? = some (s, i) → isRel s = false
theorem NoR.one {S : List (Sy × Nat)} {k : Nat} {s : Sy} {i : Nat} (h : S[k]? = some (s, i)) (n : isRel s = false) : NoR S k (k + 1) := fun j s' i' a b e => by
  obtain rfl : j = k := by omega
  rw [h] at e
  cases e
  exact n
theorem NoR.app {S : List (Sy × Nat)} {a b c : Nat} (h : NoR S a b) (k : NoR S b c) : NoR S a c := fun j s i x y e => by
  by_cases q : j < b
  · exact h j s i x q e
  · exact k j s i (by omega) y e
theorem nor_term {S : List (Sy × Nat)} (wf : WF S) {k k' : Nat} {x : List Nat} {f : FR} (hk : k < S.length) (e : termP S k = .ok (x, f, k')) : NoR S k k' := by
  cases term_cases wf hk with
  | nm y i h e2 =>
    rw [e] at e2
    cases e2
    exact .one h rfl
  | nu g i s1 i1 h h1 n e2 =>
    rw [e] at e2
    cases e2
    exact .one h rfl
  | ti g i i1 y i2 h h1 h2 e2 =>
    rw [e] at e2
    cases e2
    exact (NoR.one h rfl).app ((NoR.one h1 rfl).app (NoR.one h2 rfl))
  | te g i i1 s2 i2 h h1 h2 n e2 =>
    rw [e] at e2
    cases e2
  | er g i h n u e2 =>
    rw [e] at e2
    cases e2
theorem nor_sum {S : List (Sy × Nat)} {w c : Nat} (hS : SyL S w c) : ∀ (n k : Nat) (s : Int) (l : List It) (k2 : Nat), k < S.length → sumP n S k s = .ok (l, k2) → NoR S k k2
  | 0, _, _, _, _, _, h => by cases h
  | n + 1, k, s, l, k2, hk, h => by
    have wf := hS.wf
    unfold sumP at h
    split at h
    · cases h
    · rename_i x f k1 e
      obtain ⟨_, lk, ll, _, _⟩ := termP_ok hS e
      obtain ⟨⟨s1, i1⟩, hs1⟩ : ∃ si, S[k1]? = some si := ⟨_, List.getElem?_eq_getElem ll⟩
      have n1 := nor_term wf hk e
      have stop : (Except.ok ([(x, sgn s f)], k1) : Except Nat (List It × Nat)) = .ok (l, k2) → NoR S k k2 := fun z => by
        cases z
        exact n1
      rw [hs1] at h
      cases s1 with
      | sign cc =>
        dsimp only at h
        by_cases hcc : cc = 43 ∨ cc = 45
        · rw [if_pos hcc] at h
          have l1 := wf k1 _ _ hs1 rfl (fun z q => by subst q; intro q2; cases q2)
          split at h
          · cases h
          · rename_i l2 k3 e2
            cases h
            exact n1.app ((NoR.one hs1 rfl).app (nor_sum hS n (k1 + 1) _ l2 k2 l1 e2))
        · rw [if_neg hcc] at h
          exact stop h
      | num g => exact stop h
      | name y => exact stop h
      | rel y => exact stop h
      | fin => exact stop h
      | bad => exact stop h
theorem nor_head {S : List (Sy × Nat)} {w c : Nat} (hS : SyL S w c) {k k2 : Nat} {l : List It} (hk : k < S.length) (h : headP S k = .ok (l, k2)) : NoR S k k2 := by
  obtain ⟨⟨s, i⟩, hs⟩ : ∃ si, S[k]? = some si := ⟨_, List.getElem?_eq_getElem hk⟩
  cases g : isSg 45 s with
  | false =>
    rw [headP_else hs g] at h
    exact nor_sum hS _ k 1 l k2 hk h
  | true =>
    obtain rfl : s = .sign 45 := by
      cases s with
      | sign c => rw [show c = 45 from of_decide_eq_true g]
      | _ => cases g
    have l2 := hS.wf k _ _ hs rfl (fun z e => by subst e; intro z; cases z)
    rw [headP_dash hs] at h
    exact (NoR.one hs rfl).app (nor_sum hS _ (k + 1) (-1) l k2 l2 h)
theorem first_rel {S : List (Sy × Nat)} {w c : Nat} (hS : SyL S w c) {l r : List It} {g : List Nat} (h : parseP S = .ok (l, g, r)) : ∃ i1 R, S.filter (fun e => isRel e.1) = (.rel g, i1) :: R := by
  obtain ⟨k1, i1, k2, i2, e1, h1, _, _⟩ := parse_info hS h
  have nr := nor_head hS hS.pos e1
  refine ⟨i1, (S.drop (k1 + 1)).filter (fun e => isRel e.1), ?_⟩
  have e : S = S.take k1 ++ (.rel g, i1) :: S.drop (k1 + 1) := by rw [← drop_at h1, List.take_append_drop]
  have f0 : (S.take k1).filter (fun e => isRel e.1) = [] := by
    refine List.filter_eq_nil_iff.mpr fun x hx => ?_
    obtain ⟨j, hj, hx⟩ := List.mem_iff_getElem.mp hx
    rw [List.length_take] at hj
    have := nr j x.1 x.2 (Nat.zero_le _) (by omega) (by rw [List.getElem?_eq_getElem (by omega), ← hx, List.getElem_take])
    rw [this]
    decide
  calc S.filter (fun e => isRel e.1) = (S.take k1 ++ (.rel g, i1) :: S.drop (k1 + 1)).filter (fun e => isRel e.1) := by rw [← e]
    _ = _ := by rw [List.filter_append, f0, List.nil_append, List.filter_cons]; rfl
/-! the names -/
def itemsLR (l r : List It) : List It := l ++ r.map fun it => (it.1, negF it.2)
theorem items_val {l r : List It} (h : Two l r) (x : List Nat) : valL (itemsLR l r) x = diff (valL l) (valL r) x :=
  sumX_law x (fun it hit => (h.nl it hit).1) (fun it hit => (h.nr it hit).1)
theorem items_mem {l r : List It} {x : List Nat} (hx : x ≠ []) : x ∈ lawK (itemsLR l r) ↔ x ∈ broN (keysL l) (keysL r) := by
  rw [lawK_mem, broN_mem, keysL_mem, keysL_mem]
  unfold itemsLR
  constructor
  · rintro ⟨it, hit, rfl⟩
    rcases List.mem_append.mp hit with h | h
    · exact .inl (.inr ⟨it, h, rfl⟩)
    · obtain ⟨j, hj, rfl⟩ := List.mem_map.mp h
      exact .inr (.inr ⟨j, hj, rfl⟩)
  · rintro ((h | ⟨it, h, rfl⟩) | (h | ⟨it, h, rfl⟩))
    · exact absurd h hx
    · exact ⟨it, List.mem_append_left _ h, rfl⟩
    · exact absurd h hx
    · exact ⟨_, List.mem_append_right _ (List.mem_map.mpr ⟨it, h, rfl⟩), rfl⟩
theorem lawK_nodup (l : List It) : (lawK l).Nodup := foldN_nodup l [] List.nodup_nil
theorem law_names {l r : List It} (h : Two l r) {ms : List (List Nat)} (pm : ms.Perm (lawK (itemsLR l r))) (sr : (ms.map SX.S).Pairwise leStr) :
    Nms (broN (keysL l) (keysL r)) (diff (valL l) (valL r)) (ms.filter (nz (valL (itemsLR l r)))) := by
  have ev : nz (valL (itemsLR l r)) = nz (diff (valL l) (valL r)) := by
    funext x
    unfold nz
    rw [items_val h]
  rw [ev]
  refine ⟨(pm.filter _).trans ?_, ?_⟩
  · refine (List.perm_ext_iff_of_nodup ((lawK_nodup _).filter _) ((broN_nodup _ _ (keysL_nodup l)).filter _)).mpr fun x => ?_
    rw [List.mem_filter, List.mem_filter]
    constructor
    · rintro ⟨a, b⟩
      have : x ≠ [] := by
        unfold nz at b
        rw [Bool.and_eq_true, decide_eq_true_eq] at b
        exact b.1
      exact ⟨(items_mem this).mp a, b⟩
    · rintro ⟨a, b⟩
      have : x ≠ [] := by
        unfold nz at b
        rw [Bool.and_eq_true, decide_eq_true_eq] at b
        exact b.1
      exact ⟨(items_mem this).mpr a, b⟩
  · exact sr.sublist (List.filter_sublist.map _)
theorem items_len {l r : List It} (h : Two l r) : (itemsLR l r).length ≤ 44 := by
  unfold itemsLR
  rw [List.length_append, List.length_map]
  have := h.ll
  have := h.lr
  omega
/-! the tie the other way round -/
def negT (tl : List It) : List It := tl.map fun t => (t.1, negF t.2)
theorem neg_neg8 (f : FR) : negF (negF f) = f := by
  unfold negF
  rw [Int.neg_neg]
theorem lcm_neg : ∀ (tl : List It) (u : Int), lcmF u (rts (negT tl)) = lcmF u (rts tl)
  | [], _ => rfl
  | t :: tl, u => lcm_neg tl _
theorem gcd_neg : ∀ (tl : List It) (L g : Int), gcdF L g (rts (negT tl)) = gcdF L g (rts tl)
  | [], _, _ => rfl
  | t :: tl, L, g => by
    show gcdF L (Int.gcd g (L.fdiv t.2.2 * -t.2.1) : Nat) (rts (negT tl)) = gcdF L (Int.gcd g (L.fdiv t.2.2 * t.2.1) : Nat) (rts tl)
    rw [Int.mul_neg, Int.gcd_neg]
    exact gcd_neg tl L _
theorem scl_neg (tl : List It) : scl (rts (negT tl)) = scl (rts tl) := by
  unfold scl
  rw [lcm_neg, gcd_neg]
theorem redF_neg {s f : FR} (hs : s.2 ≠ 0) (hf : f.2 ≠ 0) : redF s (negF f) = negF (redF s f) := by
  unfold redF
  rw [← lowF_neg (Int.mul_ne_zero hf hs)]
  show lowF (-f.1 * s.1) (f.2 * s.2) = _
  rw [Int.neg_mul]
theorem redP_neg {tl : List It} {b : FR} (h : TlOk tl) (hb : BdF b) : redP (negT tl) (negF b) = tieP (negT (redL tl)) (negF (redF (scl (rts tl)) b)) := by
  obtain ⟨_, s2, _⟩ := scl_sm h
  have e : redL (negT tl) = negT (redL tl) := by
    unfold redL
    rw [scl_neg]
    unfold negT
    rw [List.map_map, List.map_map]
    refine List.map_congr_left fun t ht => ?_
    show (t.1, redF (scl (rts tl)) (negF t.2)) = (t.1, negF (redF (scl (rts tl)) t.2))
    have := (h.2 t ht).2.1.2
    rw [redF_neg (by omega) (by omega)]
  have hb2 := hb.2
  show tieP (redL (negT tl)) (redF (scl (rts (negT tl))) (negF b)) = _
  rw [e, scl_neg, redF_neg (by omega) (by omega)]
theorem one_back {l r : List It} (h : Two l r) (ns : List (List Nat)) : oneP r l ns = redP (negT (tlOf (diff (valL l) (valL r)) ns)) (negF (negF (diff (valL l) (valL r) []))) := by
  have nl := fun x => sumX_nf x l _ nf_01 fun it hit => (h.nl it hit).1
  have nr := fun x => sumX_nf x r _ nf_01 fun it hit => (h.nr it hit).1
  have e : ∀ x, diff (valL r) (valL l) x = negF (diff (valL l) (valL r) x) := fun x => sub_anti (nl x).1 (nr x).1
  unfold oneP
  rw [e]
  congr 1
  unfold tlOf negT
  rw [List.map_map]
  refine List.map_congr_left fun x _ => ?_
  show (x, diff (valL r) (valL l) x) = (x, negF (diff (valL l) (valL r) x))
  rw [e]
theorem diff_sm {l r : List It} (h : Two l r) (x : List Nat) : Bn 800 (diff (valL l) (valL r) x) := by
  have nl := fun x => sumX_nf x l _ nf_01 fun it hit => (h.nl it hit).1
  have nr := fun x => sumX_nf x r _ nf_01 fun it hit => (h.nr it hit).1
  have bl := fun x => sumX_bn x l (0, 1) 1 nf_01 bn_01 fun it hit => (h.nl it hit).1
  have br := fun x => sumX_bn x r (0, 1) 1 nf_01 bn_01 fun it hit => (h.nr it hit).1
  have hw := h.w
  exact (Bn.sub (bl x) (br x) (nl x).1 (nr x).1).mono (by omega)
theorem tl_ok {l r : List It} (h : Two l r) {ns : List (List Nat)} (hns : Nms (broN (keysL l) (keysL r)) (diff (valL l) (valL r)) ns) (hl : ns.length = 1 ∨ ns.length = 2) :
    TlOk (tlOf (diff (valL l) (valL r)) ns) ∧ BdF (negF (diff (valL l) (valL r) [])) := by
  have nl := fun x => sumX_nf x l _ nf_01 fun it hit => (h.nl it hit).1
  have nr := fun x => sumX_nf x r _ nf_01 fun it hit => (h.nr it hit).1
  have bl := fun x => sumX_bn x l (0, 1) 1 nf_01 bn_01 fun it hit => (h.nl it hit).1
  have br := fun x => sumX_bn x r (0, 1) 1 nf_01 bn_01 fun it hit => (h.nr it hit).1
  have hw := h.w
  have sm : ∀ x, Bn 800 (diff (valL l) (valL r) x) := fun x => (Bn.sub (bl x) (br x) (nl x).1 (nr x).1).mono (by omega)
  have nf : ∀ x, Nf (diff (valL l) (valL r) x) := fun x => subL_nf (nl x).1 (nr x).1
  refine ⟨⟨?_, fun tt htt => ?_⟩, ⟨(sm []).neg, (nf []).1⟩⟩
  · show (ns.map _).length = 1 ∨ (ns.map _).length = 2
    rw [List.length_map]
    exact hl
  · obtain ⟨x, hx, rfl⟩ := List.mem_map.mp htt
    obtain ⟨h1, h2⟩ := List.mem_filter.mp (hns.perm.mem_iff.mp hx)
    unfold nz at h2
    rw [Bool.and_eq_true, decide_eq_true_eq, decide_eq_true_eq] at h2
    exact ⟨h2.2, ⟨sm x, (nf x).1⟩, h.names x h1⟩
/-! ### numbers in what is told are small -/
theorem termP_err {S : List (Sy × Nat)} {k i : Nat} (h : termP S k = .error i) : i = 0 ∨ ∃ e ∈ S, e.2 = i := by
  have m : ∀ {j : Nat} {s : Sy} {i' : Nat}, S[j]? = some (s, i') → ∃ e ∈ S, e.2 = i' := fun h => ⟨_, List.mem_of_getElem? h, rfl⟩
  unfold termP at h
  split at h
  · cases h
  · split at h
    · split at h
      · cases h
      · cases h
        exact .inr (m (by assumption))
      · cases h
        exact .inl rfl
    · cases h
  · cases h
    exact .inr (m (by assumption))
  · cases h
    exact .inl rfl
theorem sumP_err {S : List (Sy × Nat)} : ∀ {n k : Nat} {s : Int} {i : Nat}, sumP n S k s = .error i → i = 0 ∨ ∃ e ∈ S, e.2 = i
  | 0, _, _, _, h => by
    cases h
    exact .inl rfl
  | n + 1, k, s, i, h => by
    unfold sumP at h
    split at h
    · cases h
      exact termP_err (by assumption)
    · split at h
      · split at h
        · split at h
          · cases h
            exact sumP_err (by assumption)
          · cases h
        · cases h
      · cases h
theorem headP_err {S : List (Sy × Nat)} {k i : Nat} (h : headP S k = .error i) : i = 0 ∨ ∃ e ∈ S, e.2 = i := by
  unfold headP at h
  split at h
  · split at h
    · exact sumP_err h
    · exact sumP_err h
  · exact sumP_err h
theorem parseP_err {S : List (Sy × Nat)} {i : Nat} (h : parseP S = .error i) : i = 0 ∨ ∃ e ∈ S, e.2 = i := by
  have m : ∀ {j : Nat} {s : Sy} {i' : Nat}, S[j]? = some (s, i') → ∃ e ∈ S, e.2 = i' := fun h => ⟨_, List.mem_of_getElem? h, rfl⟩
  unfold parseP at h
  split at h
  · cases h
    exact headP_err (by assumption)
  · split at h
    · split at h
      · cases h
        exact headP_err (by assumption)
      · split at h
        · cases h
        · cases h
          exact .inr (m (by assumption))
        · cases h
          exact .inl rfl
    · cases h
      exact .inr (m (by assumption))
    · cases h
      exact .inl rfl
theorem symsL_at (t : List Nat) : ∀ (n k : Nat), ∀ e ∈ symsL n t k, e.2 ≤ t.length
  | 0, _, e, h => by
    rw [List.mem_singleton.mp h]
    exact Nat.le_refl _
  | n + 1, k, e, h => by
    unfold symsL at h
    split at h
    · split at h
      · rw [List.mem_singleton.mp h]
        exact Nat.le_of_lt (by assumption)
      · rcases List.mem_cons.mp h with rfl | h
        · exact Nat.le_of_lt (by assumption)
        · exact symsL_at t n _ e h
    · rw [List.mem_singleton.mp h]
      exact Nat.le_refl _
theorem parse_at {t : List Nat} {i : Nat} (h : parseP (symsOf t) = .error i) : i ≤ t.length := by
  rcases parseP_err h with rfl | ⟨e, he, rfl⟩
  · exact Nat.zero_le _
  · exact symsL_at t _ _ e he
theorem bd_nat {n : Nat} (h : n ≤ 10000) : Bd (n : Int) := log2_mono (b := 10000) (by omega) (by decide +kernel)
theorem dt_fr_bd {z : Addr} {H : Hp} {v : V} {f : FR} (h : Dt z H v (frP f)) : Bd f.1 ∧ Bd f.2 := by
  match v, h with
  | _, .tup hp (.cons (.int _ h1) (.cons (.int _ h2) .nil)) => exact ⟨h1, h2⟩
theorem names_few {l r : List It} (h : Two l r) : (namesLR l r).length ≤ 10000 := by
  have h1 : (namesLR l r).length ≤ (broN (keysL l) (keysL r)).length := List.length_filter_le ..
  have h2 := broN_len (keysL r) (keysL l)
  have h3 := keysL_len l
  have h4 := keysL_len r
  have h5 := h.ll
  have h6 := h.lr
  omega
theorem bd_neg {z : Int} (h : Bd z) : Bd (-z) := by
  show (-z).natAbs.log2 < 4096
  rw [Int.natAbs_neg]
  exact h
section
variable {P : Program} {w : World} {K : PySem.W.Frag} {mg : Str → Option Value} {base : Heap} {fa : Nat → Addr} {fd : Nat → FuncData}
def outE (c : Str) (v : PyData) : PyData := .tuple [.tuple [.str c, v], .list []]
/-- what the law asks of a text -/
inductive Due (t : List Nat) : PyData → Prop
  | parse (i : Nat) (h : parseP (symsOf t) = .error i) : Due t (outE (Str.ofString "ParseError") (.int (i : Int)))
  | many (l r : List It) (g : List Nat) (h : parseP (symsOf t) = .ok (l, g, r)) (n : ¬((namesLR l r).length = 1 ∨ (namesLR l r).length = 2)) : Due t (outE (Str.ofString "NotTied") (.int ((namesLR l r).length : Int)))
  | ties (l r : List It) (g : List Nat) (h : parseP (symsOf t) = .ok (l, g, r)) (n : (namesLR l r).length = 1 ∨ (namesLR l r).length = 2) (ns : List (List Nat)) (hn : Nms (broN (keysL l) (keysL r)) (diff (valL l) (valL r)) ns) : Due t (.tuple [.tuple [.str (Str.ofString ""), .none], .list (resD l g r ns)])
def spTies : Sp := fun vs H Q _ => ∃ (t : List Nat) (z : Addr), vs = [vS t] ∧ t.length ≤ 140 ∧ cT t 0 ≤ 20 ∧ uni t ∧ H z ≠ none ∧ ∀ p d H', Same H H' → Due t d → Dt z H' (.ref p) d → Q (.ref p) H'
theorem ok_ties_of (T : Txt K mg fa fd) : FnOk P w K mg base CX0 7 (fa 65) (fd 65) ["_law_text"] spTies := by
  refine T.F_ties_of.ok sc_ties_of (fun vs H Q E h => ?_) (fun cdv A outer s H vs Q E hr h => ?_)
  · obtain ⟨t, z, rfl, _⟩ := h
    rfl
  · obtain ⟨t, z, rfl, ht, hct, hu, hz, q⟩ := h
    refine ⟨_, (C8.pss_cut (ps_set (i := 1) sc_ties_of.nd rfl (.inl rfl) (pe_call (ok_symbols T) (hr.mono (by decide)) (by rfl) T.g_symbols T.F_symbols.kp T.b_symbols .nil pass0 (pa_cons (pv 0) pa_nil)))
      (C8.pss_cut (ps_set (i := 2) sc_ties_of.nd rfl (.inl rfl) (pe_call (ok_sum_fault T) (hr.mono (by decide)) (by rfl) T.g_sum_fault T.F_sum_fault.kp T.b_sum_fault .nil pass0 (pa_cons (pv 1) (pa_cons pe_bl pa_nil))))
      (C8.pss_cut (ps_if (pt_cmpR op_ge (pv 2) pe_int (nomark _)) (pss_one (ps_ret (pe_tup (pa_cons (pe_tup (pa_cons pe_str (pa_cons (pv 2) pa_nil))) (pa_cons (pe_lst pa_nil) pa_nil))))) pss_nil)
      (C8.pss_cut (ps_set (i := 3) sc_ties_of.nd rfl (.inr rfl) (pe_call (ok_rates_of T) (hr.mono (by decide)) (by rfl) T.g_rates_of T.F_rates_of.kp T.b_rates_of .nil pass0 (pa_cons (pv 1) pa_nil)))
      (C8.pss_cut (ps_set (i := 4) sc_ties_of.nd rfl (.inl rfl) (pe_callTy call_tuple_of (by rfl) T.m_tuple (by decide +kernel) (pa_cons (pe_lc (own := [("_law_name", 8)]) (g := gName 8) (tt := _) rfl sc_ties_of.nd (pi_list (pe_callB cr_sortedS (by rfl) T.m_sorted (by decide +kernel) (pa_cons (pe_callTy (call_listD rfl) (by rfl) T.m_list (by decide +kernel) (pa_cons (pv 3) pa_nil)) pa_nil))) (blkOk_by (own := [("_law_name", 8)]) (N := ["_law_text", "_law_symbols_here", "_law_fault", "_law_rates", "_law_terms", "_law_word", "_law_tie", "_law_back", "_law_name", "_law_symbol", "_law_rate"]) (sc := defScope s_ties_of) (by decide +kernel)) (fun _ _ _ _ _ => pg_name (i := 8) sc_ties_of.nd rfl (Or.inl rfl)) (fun _ _ _ _ _ => pts_one (PW.pt (pw_and (pt_cmpR op_ne (pv 8) pe_str (nomark _)) (pw_and1 (pt_cmpR op_ne (pe_ix (ix_tupK (K := K) rfl) (pe_dget (Nat.lt_of_le_of_lt (Nat.add_le_add_left (by decide) _) hr.units) (pv 3) (pv 8) (fun _ _ => rfl)) pe_int (fun _ _ => rfl)) pe_int (nomark _)))))) (fun _ _ _ _ _ => (pe_tup (pa_cons (pv 8) (pa_cons (pe_dget (Nat.lt_of_le_of_lt (Nat.add_le_add_left (by decide) _) hr.units) (pv 3) (pv 8) (fun _ _ => rfl)) pa_nil))))) pa_nil)))
      (C8.pss_cut (ps_if (pt_not (pt_chain op_le op_le pe_int (pe_callB call_len_seq (by rfl) T.m_len PySem.boot_len (pa_cons (pv 4) pa_nil)) pe_int)) (pss_one (ps_ret (pe_tup (pa_cons (pe_tup (pa_cons pe_str (pa_cons (pe_callB call_len_seq (by rfl) T.m_len PySem.boot_len (pa_cons (pv 4) pa_nil)) pa_nil))) (pa_cons (pe_lst pa_nil) pa_nil))))) pss_nil)
      (C8.pss_cut (ps_set (i := 5) sc_ties_of.nd rfl (.inl rfl) (pe_ix ix_list (pe_lc (own := [("_law_symbol", 9)]) (g := gName 9) (tt := _) rfl sc_ties_of.nd (pi_list (pv 1)) (blkOk_by (own := [("_law_symbol", 9)]) (N := ["_law_text", "_law_symbols_here", "_law_fault", "_law_rates", "_law_terms", "_law_word", "_law_tie", "_law_back", "_law_name", "_law_symbol", "_law_rate"]) (sc := defScope s_ties_of) (by decide +kernel)) (fun _ _ _ _ _ => pg_name (i := 9) sc_ties_of.nd rfl (Or.inl rfl)) (fun _ _ _ _ _ => pts_one (pt_cmpR op_eq (pe_ix (ix_tupK (K := K) rfl) (pv 9) pe_int (fun _ _ => rfl)) pe_str (nomark _))) (fun _ _ _ _ _ => (pe_ix (ix_tupK (K := K) rfl) (pv 9) pe_int (fun _ _ => rfl)))) pe_int (fun _ _ => rfl)))
      (C8.pss_cut (ps_set (i := 6) sc_ties_of.nd rfl (.inl rfl) (pe_call (ok_brief T) (hr.mono (by decide)) (by rfl) T.g_brief T.F_brief.kp T.b_brief .nil pass0 (pa_cons (pe_tup (pa_cons (pv 4) (pa_cons (pe_call (ok_minus T) (hr.mono (by decide)) (by rfl) T.g_minus T.F_minus.kp T.b_minus .nil pass0 (pa_cons (pe_dget2 (Nat.lt_of_le_of_lt (Nat.add_le_add_left (by decide) _) hr.units) (pv 3) pe_str (pe_tup (pa_cons pe_int (pa_cons pe_int pa_nil))) ⟨by rfl, by rfl, by rfl, by rfl⟩) pa_nil)) pa_nil))) pa_nil)))
      (C8.pss_cut (ps_set (i := 7) sc_ties_of.nd rfl (.inl rfl) (pe_tup (pa_cons (pe_callTy call_tuple_of (by rfl) T.m_tuple (by decide +kernel) (pa_cons (pe_lc (own := [("_law_name", 8), ("_law_rate", 10)]) (g := gTup K 2 (gCons (gName 8) (gCons (gName 10) gNil))) (tt := tYes) rfl sc_ties_of.nd (pi_tup (pe_ix (ix_tupK (K := K) rfl) (pv 6) pe_int (fun _ _ => rfl))) (blkOk_by (own := [("_law_name", 8), ("_law_rate", 10)]) (N := ["_law_text", "_law_symbols_here", "_law_fault", "_law_rates", "_law_terms", "_law_word", "_law_tie", "_law_back", "_law_name", "_law_symbol", "_law_rate"]) (sc := defScope s_ties_of) (by decide +kernel)) (fun _ _ _ _ _ => pg_tup rfl (pgs_cons (pg_name (i := 8) sc_ties_of.nd rfl (Or.inl rfl)) (pgs_cons (pg_name (i := 10) sc_ties_of.nd rfl (Or.inl rfl)) pgs_nil))) (fun _ _ _ _ _ => pts_nil) (fun _ _ _ _ _ => (pe_tup (pa_cons (pv 8) (pa_cons (pe_call (ok_minus T) (hr.mono (by decide)) (by rfl) T.g_minus T.F_minus.kp T.b_minus .nil pass0 (pa_cons (pv 10) pa_nil)) pa_nil))))) pa_nil)) (pa_cons (pe_call (ok_minus T) (hr.mono (by decide)) (by rfl) T.g_minus T.F_minus.kp T.b_minus .nil pass0 (pa_cons (pe_ix ix_tup (pv 6) pe_int (fun _ _ => rfl)) pa_nil)) pa_nil))))
      (pss_one (ps_ret (pe_tup (pa_cons (pe_tup (pa_cons pe_str (pa_cons pe_non pa_nil))) (pa_cons (pe_ifExp (pt_cmpR op_eq (pv 5) pe_str (nomark _)) (pe_lst (pa_cons (pv 6) pa_nil)) (pe_ifExp (pt_cmpR op_eq (pv 5) pe_str (nomark _)) (pe_lst (pa_cons (pv 7) pa_nil)) (pe_lst (pa_cons (pv 6) (pa_cons (pv 7) pa_nil))))) pa_nil)))))))))))))), ?_⟩
    have zne : ∀ {H' : Hp} {p : Addr}, Same H H' → H' p = none → p ≠ z := fun {H' p} s n e => by
      cases hh : H z with
      | none => exact hz hh
      | some o =>
        rw [e, s _ _ hh] at n
        cases n
    have hS : SyL (symsOf t) 700 20 := (symsOf_ok t).mono (by omega) hct
    have sl : (symsOf t).length ≤ 141 := Nat.le_trans (symsL_len _ _ _) (by omega)
    -- symbols
    refine ⟨fun σ H1 => Same H H1 ∧ ∃ D L, LSL H1 D L ∧ LawL t L ∧ σ = [some (vS t), some (.ref D), none, none, none, none, none, none, none, none, none], ⟨_, rfl, t, rfl, by omega, hu, fun D L H' s' hD hL => ⟨s', D, L, hD, hL, rfl⟩⟩, fun σ H1 hM => ?_⟩
    obtain ⟨s1, D, L, hD, ⟨hok, hL⟩, rfl⟩ := hM
    -- the fault
    have hf : faultL .start false (L.map two2) = match parseP (symsOf t) with
      | .error i => (i : Int)
      | .ok _ => -1 := by
      rcases hL with e | ⟨e, _⟩
      · have z := fault_parse hS []
        rw [List.append_nil] at z
        rw [show L.map two2 = symsOf t from e]
        exact z
      · rw [show L.map two2 = symsOf t ++ [(.fin, t.length)] from e]
        exact fault_parse hS _
    refine ⟨fun σ H2 => Same H1 H2 ∧ σ = [some (vS t), some (.ref D), some (.int (faultL .start false (L.map two2))), none, none, none, none, none, none, none, none], ⟨_, rfl, D, L, rfl, hD, fun H' s' => ⟨s', rfl⟩⟩, fun σ H2 hM => ?_⟩
    obtain ⟨s2, rfl⟩ := hM
    have s12 := s1.trans s2
    have hD := hD.same s2
    rw [hf]
    cases hp : parseP (symsOf t) with
    | error i =>
      refine ⟨fun _ _ => False, ?_, fun σ H3 hM => hM.elim⟩
      refine ⟨_, rfl, _, _, rfl, rfl, _, rfl, iteT' (decide_eq_true (by show (0 : Int) ≤ (i : Int); omega)) ?_⟩
      refine ⟨_, rfl, two_line, fun a na => ⟨Nat.zero_le _, fun b nb => ⟨two_line, fun p np => ?_⟩⟩⟩
      obtain ⟨sa, da⟩ := dnewT (z := z) na (.cons (.str (Str.ofString "ParseError") (by decide +kernel)) (.cons (.int (i : Int) (bd_nat (by have := parse_at hp; omega))) .nil))
      obtain ⟨sb, db⟩ := dnewL (z := z) nb (zne (s12.trans sa) nb) .nil
      obtain ⟨sp, dp⟩ := dnewT (z := z) np (.cons (da.same sb) (.cons db .nil))
      exact q p _ _ (s12.trans (sa.trans (sb.trans sp))) (.parse i hp) dp
    | ok res =>
      obtain ⟨l, g, r⟩ := res
      have hLe : L.map two2 = symsOf t := by
        rcases hL with e | ⟨_, dn, i, e⟩
        · exact e
        · have := parse_good hS hp (.bad, i) (by rw [e]; exact List.mem_append_right _ List.mem_cons_self)
          cases this
      have hL1 : L.map (fun e => e.1) = (symsOf t).map (·.1) := by
        rw [← hLe, List.map_map]
        rfl
      have hit : ratesM 1 1 (1, 1) false (L.map fun e => e.1) = itemsLR l r := by
        rw [hL1]
        exact rates_parse hS hp
      have tw := two_parse hS hp
      have il := items_len tw
      have kl := lawK_len (itemsLR l r)
      have hLl : L.length ≤ 141 := by
        have := congrArg List.length hLe
        rw [List.length_map] at this
        omega
      have hmem : ∀ e ∈ L, OkE e ∧ isBad e.1 = false ∧ NumOk e.1 := fun e he => by
        have m : two2 e ∈ symsOf t := by
          rw [← hLe]
          exact List.mem_map.mpr ⟨e, he, rfl⟩
        exact ⟨hok e he, parse_good hS hp _ m, hS.nums _ m⟩
      refine ⟨fun σ H3 => H3 = H2 ∧ σ = [some (vS t), some (.ref D), some (.int (-1)), none, none, none, none, none, none, none, none], ⟨_, rfl, _, _, rfl, rfl, _, rfl, iteF' (show decide ((0 : Int) ≤ -1) = false by decide) ⟨rfl, rfl⟩⟩, fun σ H3 hM => ?_⟩
      obtain ⟨rfl, rfl⟩ := hM
      -- the rates
      refine ⟨fun σ H4 => Same H3 H4 ∧ ∃ d, RD K H4 d (lawK (itemsLR l r)) (valL (itemsLR l r)) ∧ σ = [some (vS t), some (.ref D), some (.int (-1)), some (.ref d), none, none, none, none, none, none, none], ⟨_, rfl, D, L, rfl, hD, hmem, by omega, by rw [hLe]; exact hS.wt, fun d H' s' nd hd => ⟨s', d, by rw [hit] at hd; exact hd, rfl⟩⟩, fun σ H4 hM => ?_⟩
      obtain ⟨s4, d, hd, rfl⟩ := hM
      have s14 := s12.trans s4
      have hD := hD.same s4
      obtain ⟨kvs, hk, hR⟩ := hd
      -- the terms
      refine ⟨fun σ H5 => Same H4 H5 ∧ ∃ (ms : List (List Nat)) (tt : Addr) (vs : List V), ms.Perm (lawK (itemsLR l r)) ∧ (ms.map SX.S).Pairwise leStr ∧ H5 tt = some (.tup vs) ∧ DtAll z H5 vs ((tlOf (valL (itemsLR l r)) (ms.filter (nz (valL (itemsLR l r))))).map tmP) ∧ ∃ y, σ = [some (vS t), some (.ref D), some (.int (-1)), some (.ref d), some (.ref tt), none, none, none, y, none, none], ?_, fun σ H5 hM => ?_⟩
      · refine ⟨_, rfl, d, kvs, rfl, .inl hk, fun p1 np1 => ?_⟩
        have eks : (kvs.map fun kv => kV kv.1) = ((lawK (itemsLR l r)).map SX.S).map V.str := by
          rw [show (kvs.map fun kv => kV kv.1) = (kvs.map (·.1)).map kV by rw [List.map_map]; rfl, hR.1, List.map_map, List.map_map]
          rfl
        rw [eks]
        have sp1 := same_upd (o := .lst (((lawK (itemsLR l r)).map SX.S).map V.str)) np1
        refine ⟨p1, (lawK (itemsLR l r)).map SX.S, rfl, SqL.of upd_same, by rw [List.length_map]; omega, fun ys p2 pm srt np2 => ?_⟩
        obtain ⟨ms, hms⟩ : ∃ ms : List (List Nat), ms = ys.map fun y => y.cps.toList := ⟨_, rfl⟩
        have eys : ys = ms.map SX.S := by
          rw [hms, List.map_map]
          refine ((List.map_congr_left fun y _ => ?_).trans (List.map_id ys)).symm
          exact S_of y
        subst eys
        have pms : ms.Perm (lawK (itemsLR l r)) := by
          have := pm.map fun y : Str => y.cps.toList
          rw [List.map_map, List.map_map] at this
          have e : ((fun y : Str => y.cps.toList) ∘ SX.S) = id := by
            funext x
            exact S_list x
          rw [e, List.map_id, List.map_id] at this
          exact this
        have sp2 := sp1.trans (same_upd (o := .lst ((ms.map SX.S).map V.str)) np2)
        have ml : ms.length ≤ 44 := by rw [pms.length_eq]; omega
        refine ⟨p2, rfl, ⟨_, SqL.of upd_same⟩, fun D1 nD1 => ?_⟩
        generalize hH6 : upd (upd H4 p1 (.lst (((lawK (itemsLR l r)).map SX.S).map V.str))) p2 (.lst ((ms.map SX.S).map V.str)) = H6 at *
        have hp2 : H6 p2 = some (.lst (ms.map (V.str ∘ SX.S))) := by rw [← hH6, upd_same, List.map_map]
        refine lc_list (K := K) (a := p2) (xs := ms.map (V.str ∘ SX.S)) (fun i G => Same H6 G ∧ ∃ vs, G D1 = some (.lst vs) ∧ DtAll z G vs ((tlOf (valL (itemsLR l r)) ((ms.take i).filter (nz (valL (itemsLR l r))))).map tmP)) ⟨same_upd nD1, [], upd_same, .nil⟩ (fun i G _ h => SqL.of (h.1 _ _ hp2)) (fun i x G hx h => ?_) (fun G h => ?_)
        · obtain ⟨sG, vs, hD1, hvs⟩ := h
          rw [List.getElem?_map] at hx
          obtain ⟨x, hxi, rfl⟩ := Option.map_eq_some_iff.mp hx
          have hxm := List.mem_of_getElem? hxi
          have hkG := sG _ _ (sp2 _ _ hk)
          have hRG := hR.mono (Tr.sm (sp2.trans sG))
          obtain ⟨p, ep, fp⟩ := hRG.2.2 x (pms.mem_iff.mp hxm)
          have tk : (ms.take (i + 1)).filter (nz (valL (itemsLR l r))) = (ms.take i).filter (nz (valL (itemsLR l r))) ++ (if nz (valL (itemsLR l r)) x = true then [x] else []) := by
            rw [List.take_add_one, hxi, List.filter_append]
            show _ ++ List.filter _ [x] = _
            rw [List.filter_cons]
            split <;> rfl
          have vl : vs.length < sizeLine := by
            have e1 := hvs.len
            rw [List.length_map] at e1
            have e2 : (tlOf (valL (itemsLR l r)) ((ms.take i).filter (nz (valL (itemsLR l r))))).length = ((ms.take i).filter (nz (valL (itemsLR l r)))).length := List.length_map ..
            have := List.length_filter_le (nz (valL (itemsLR l r))) (ms.take i)
            rw [List.length_take] at this
            exact small1000 (by omega)
          rw [tk]
          have no : nz (valL (itemsLR l r)) x = false → Same H6 G ∧ ∃ vs, G D1 = some (.lst vs) ∧ DtAll z G vs ((tlOf (valL (itemsLR l r)) ((ms.take i).filter (nz (valL (itemsLR l r))) ++ (if nz (valL (itemsLR l r)) x = true then [x] else []))).map tmP) := fun h => by
            rw [h, if_neg (by decide), List.append_nil]
            exact ⟨sG, vs, hD1, hvs⟩
          refine ⟨rfl, _, rfl, rfl, _, rfl, ?_⟩
          have c : (!decide (V.str (SX.S x) = V.str (Str.ofString ""))) = decide (x ≠ []) := by
            rw [emptyS, Bool.eq_iff_iff, Bool.not_eq_true', decide_eq_false_iff_not, decide_eq_true_eq]
            constructor
            · intro h e
              exact h (by rw [e])
            · intro h e
              exact h (S_inj (V.str.inj e))
          show ite ((!decide (V.str (SX.S x) = V.str (Str.ofString ""))) = true) _ _
          rw [c]
          refine ite2 (fun e => ?_) (fun e => ?_)
          · refine ⟨_, rfl, _, rfl, d, _, rfl, by rw [← ep]; exact DGet.k (k := keyOf x) hkG, p, _, _, _, rfl, rfl, fp.1, t0, rfl, _, rfl, ?_⟩
            have e := of_decide_eq_true e
            refine ite2 (fun e2 => ?_) (fun e2 => ?_)
            · have e3 : (valL (itemsLR l r) x).1 ≠ 0 := fun z => by
                rw [z] at e2
                exact absurd e2 (by decide)
              have hnz : nz (valL (itemsLR l r)) x = true := by
                unfold nz
                rw [decide_eq_true e, decide_eq_true e3]
                rfl
              have hp : G p = some (trF (valL (itemsLR l r) x)) := fp.2.resolve_left fun z => e3 (by rw [z])
              refine ⟨_, rfl, _, rfl, _, rfl, d, _, rfl, by rw [← ep]; exact DGet.k (k := keyOf x) hkG, two_line, fun e1 ne => ?_⟩
              have x7 : x.length ≤ 7 := tw.names x ((items_mem e).mp (pms.mem_iff.mp hxm))
              obtain ⟨se, de⟩ := dnewT (z := z) ne (.cons (.str (SX.S x) (by rw [SX.S_len]; omega)) (.cons (.tup hp (.cons (.int (valL (itemsLR l r) x).1 (by rw [items_val tw]; exact bd_bn (diff_sm tw x).1 (by decide))) (.cons (.int (valL (itemsLR l r) x).2 (by rw [items_val tw]; exact bd_bn (diff_sm tw x).2 (by decide))) .nil))) .nil))
              have hD2 := se _ _ hD1
              refine ⟨vs, hD2, vl, fun b o eb => (by rw [upd_ne (ne_of_none eb nD1)]; exact se _ _ (sG _ _ eb)), vs ++ [.ref e1], upd_same, ?_⟩
              rw [hnz, if_pos rfl]
              unfold tlOf
              rw [List.map_append, List.map_append]
              refine DtAll.snoc (hvs.tups ((TT.of se).trans (TT.upd hD2)) _ _ (noLs_tm _)) ?_
              exact Dt.tups (TT.upd hD2) _ _ rfl de
            · refine no ?_
              have e3 : (valL (itemsLR l r) x).1 = 0 := by
                by_cases z : (valL (itemsLR l r) x).1 = 0
                · exact z
                · exfalso
                  refine e2 ?_
                  rw [Bool.not_eq_true', decide_eq_false_iff_not]
                  exact fun y => z (V.int.inj y)
              unfold nz
              rw [e3]
              cases decide (x ≠ []) <;> rfl
          · refine no ?_
            unfold nz
            rw [Bool.eq_false_iff.mpr e, Bool.false_and]
        · obtain ⟨sG, vs, hD1, hvs⟩ := h
          rw [List.length_map, List.take_length] at hvs
          refine ⟨D1, vs, rfl, .inl ⟨SqL.of hD1, fun tt nt => ?_⟩⟩
          have st := same_upd (o := .tup vs) nt
          exact ⟨sp2.trans (sG.trans st), ms, tt, vs, pms, srt_pw _ srt, upd_same, hvs.same st, _, rfl⟩
      obtain ⟨s5, ms, tt, vs, pms, sms, htt, hvs, y8, rfl⟩ := hM
      have hn := law_names tw pms sms
      have nl : namesLR l r = (broN (keysL l) (keysL r)).filter (nz (diff (valL l) (valL r))) := rfl
      have nlen : (namesLR l r).length = (ms.filter (nz (valL (itemsLR l r)))).length := by rw [nl]; exact hn.perm.length_eq.symm
      have etl : tlOf (valL (itemsLR l r)) (ms.filter (nz (valL (itemsLR l r)))) = tlOf (diff (valL l) (valL r)) (ms.filter (nz (valL (itemsLR l r)))) := by
        unfold tlOf
        refine List.map_congr_left fun x _ => ?_
        rw [items_val tw]
      rw [etl] at hvs
      generalize ms.filter (nz (valL (itemsLR l r))) = ns at *
      have vl : vs.length = ns.length := by
        have := hvs.len
        rw [List.length_map] at this
        rw [this]
        exact List.length_map ..
      have hD := hD.same s5
      have s15 := s14.trans s5
      have hk := s5 _ _ hk
      have hR := hR.mono (Tr.sm s5)
      -- how many
      refine ⟨fun σ H6 => H6 = H5 ∧ (ns.length = 1 ∨ ns.length = 2) ∧ σ = [some (vS t), some (.ref D), some (.int (-1)), some (.ref d), some (.ref tt), none, none, none, y8, none, none], ?_, fun σ H6 hM => ?_⟩
      · refine ⟨_, rfl, tt, vs, rfl, .inr (SqT.of htt), ?_⟩
        have notT : ¬(ns.length = 1 ∨ ns.length = 2) → ∀ a, H5 a = none → ∀ b, upd H5 a (.tup [.str (Str.ofString "NotTied"), .int (vs.length : Int)]) b = none → ∀ p, upd (upd H5 a (.tup [.str (Str.ofString "NotTied"), .int (vs.length : Int)])) b (.lst []) p = none → Q (.ref p) (upd (upd (upd H5 a (.tup [.str (Str.ofString "NotTied"), .int (vs.length : Int)])) b (.lst [])) p (.tup [.ref a, .ref b])) := fun hn2 a na b nb p np => by
          rw [show vs.length = (namesLR l r).length by omega] at nb np ⊢
          obtain ⟨sa, da⟩ := dnewT (z := z) na (.cons (.str (Str.ofString "NotTied") (by decide +kernel)) (.cons (.int ((namesLR l r).length : Int) (bd_nat (names_few tw))) .nil))
          obtain ⟨sb, db⟩ := dnewL (z := z) nb (zne (s15.trans sa) nb) .nil
          obtain ⟨sp, dp⟩ := dnewT (z := z) np (.cons (da.same sb) (.cons db .nil))
          exact q p _ _ (s15.trans (sa.trans (sb.trans sp))) (.many l r g hp (by rw [nlen]; exact hn2)) dp
        refine ⟨_, _, rfl, rfl, _, rfl, ?_⟩
        by_cases h12 : ns.length = 1 ∨ ns.length = 2
        · refine iteT' (decide_eq_true (by omega)) ⟨_, _, rfl, rfl, _, rfl, iteF' (by rw [decide_eq_true (by omega)]; rfl) ⟨rfl, h12, rfl⟩⟩
        · by_cases h0 : ns.length = 0
          · exact iteF' (decide_eq_false (by omega)) ⟨_, rfl, iteT' rfl ⟨_, rfl, tt, vs, rfl, .inr (SqT.of htt), two_line, fun a na => ⟨Nat.zero_le _, fun b nb => ⟨two_line, fun p np => notT h12 a na b nb p np⟩⟩⟩⟩
          · exact iteT' (decide_eq_true (by omega)) ⟨_, _, rfl, rfl, _, rfl, iteT' (by rw [decide_eq_false (by omega)]; rfl) ⟨_, rfl, tt, vs, rfl, .inr (SqT.of htt), two_line, fun a na => ⟨Nat.zero_le _, fun b nb => ⟨two_line, fun p np => notT h12 a na b nb p np⟩⟩⟩⟩
      obtain ⟨rfl, h12, rfl⟩ := hM
      -- the relation
      obtain ⟨i1, R, hrel⟩ := first_rel hS hp
      have hrelL : ∃ e RL, L.filter (fun e => isRel e.1) = e :: RL ∧ e.2.2 = g := by
        have e1 : (L.filter (fun e => isRel e.1)).map two2 = (symsOf t).filter (fun e => isRel e.1) := by
          rw [← hLe, List.filter_map]
          rfl
        rw [hrel] at e1
        cases hf2 : L.filter (fun e => isRel e.1) with
        | nil =>
          rw [hf2] at e1
          cases e1
        | cons e RL =>
          rw [hf2, List.map_cons] at e1
          refine ⟨e, RL, rfl, ?_⟩
          have ee : two2 e = (.rel g, i1) := (List.cons.inj e1).1
          have me : e ∈ L := (List.mem_filter.mp (by rw [hf2]; exact List.mem_cons_self)).1
          have ok := (hmem e me).1.2.2.2 (hmem e me).2.1
          have e3 : e.1 = .rel g := congrArg Prod.fst ee
          rw [ok, e3]
          rfl
      obtain ⟨e0, RL, hfl, he0⟩ := hrelL
      refine ⟨fun σ H7 => Same H6 H7 ∧ ∃ y9, σ = [some (vS t), some (.ref D), some (.int (-1)), some (.ref d), some (.ref tt), some (vS g), none, none, y8, y9, none], ?_, fun σ H7 hM => ?_⟩
      · obtain ⟨ps, hps, hpp⟩ := hD
        have lps := Paired.length hpp
        refine ⟨_, rfl, D, rfl, ⟨_, SqL.of hps⟩, fun D1 nD1 => ?_⟩
        refine lc_list (K := K) (a := D) (xs := ps.map V.ref) (fun i G => Same H6 G ∧ G D1 = some (.lst (((L.take i).filter (fun e => isRel e.1)).map fun e => vS e.2.2))) ⟨same_upd nD1, upd_same⟩ (fun i G _ h => SqL.of (h.1 _ _ hps)) (fun i x G hx h => ?_) (fun G h => ?_)
        · obtain ⟨sG, hD1⟩ := h
          rw [List.getElem?_map] at hx
          obtain ⟨p, hp1, rfl⟩ := Option.map_eq_some_iff.mp hx
          have il : i < L.length := by
            have := (List.getElem?_eq_some_iff.mp hp1).1
            omega
          obtain ⟨⟨sy, k, wd⟩, hLi⟩ : ∃ e, L[i]? = some e := ⟨_, List.getElem?_eq_getElem il⟩
          obtain ⟨p', hp', hpd⟩ := paired_at i hpp hLi
          rw [hp1] at hp'
          cases hp'
          have hpd := sG _ _ hpd
          have tk : (L.take (i + 1)).filter (fun e => isRel e.1) = (L.take i).filter (fun e => isRel e.1) ++ (if isRel sy = true then [(sy, k, wd)] else []) := by
            rw [List.take_add_one, hLi, List.filter_append]
            show _ ++ List.filter _ [(sy, k, wd)] = _
            rw [List.filter_cons]
            split <;> rfl
          have ll : (((L.take i).filter (fun e => isRel e.1)).map fun e => vS e.2.2).length < sizeLine := by
            rw [List.length_map]
            have := List.length_filter_le (fun e : Ly => isRel e.1) (L.take i)
            rw [List.length_take] at this
            exact small1000 (by omega)
          rw [tk]
          refine ⟨rfl, _, rfl, p, _, _, _, rfl, rfl, SqT.of hpd, rfl, rfl, _, rfl, ?_⟩
          rw [sort_rel]
          cases hr1 : isRel sy with
          | true =>
            refine iteT ⟨_, rfl, p, _, _, _, rfl, rfl, SqT.of hpd, rfl, _, hD1, ll, fun b o eb => (by rw [upd_ne (ne_of_none eb nD1)]; exact sG _ _ eb), ?_⟩
            rw [upd_same, if_pos rfl, List.map_append]
            rfl
          | false =>
            refine iteF ⟨sG, ?_⟩
            rw [if_neg (by decide), List.append_nil]
            exact hD1
        · obtain ⟨sG, hD1⟩ := h
          rw [List.length_map, lps, List.take_length, hfl, List.map_cons, he0] at hD1
          exact ⟨D1, _, _, _, rfl, rfl, SqL.of hD1, atI_nat (j := 0) rfl, sG, _, rfl⟩
      obtain ⟨s7, y9, rfl⟩ := hM
      have s17 := s15.trans s7
      have htt := s7 _ _ htt
      have hvs := hvs.same s7
      have hk := s7 _ _ hk
      have hR := hR.mono (Tr.sm s7)
      obtain ⟨tlok, bok⟩ := tl_ok tw hn h12
      have iv0 : valL (itemsLR l r) [] = diff (valL l) (valL r) [] := items_val tw []
      have nfI : Nf (valL (itemsLR l r) []) := by
        rw [iv0]
        have nl := fun x => sumX_nf x l _ nf_01 fun it hit => (tw.nl it hit).1
        have nr := fun x => sumX_nf x r _ nf_01 fun it hit => (tw.nr it hit).1
        exact subL_nf (nl []).1 (nr []).1
      -- the tie
      refine ⟨fun σ H8 => Same H7 H8 ∧ ∃ v, Dt z H8 v (redP (tlOf (diff (valL l) (valL r)) ns) (negF (diff (valL l) (valL r) []))) ∧ σ = [some (vS t), some (.ref D), some (.int (-1)), some (.ref d), some (.ref tt), some (vS g), some v, none, y8, y9, none], ?_, fun σ H8 hM => ?_⟩
      · refine ⟨_, rfl, _, rfl, d, rfl, .inl ⟨kvs, .inl hk⟩, two_line, fun u nu => ⟨valV kvs (keyOf []), by rw [emptyS]; exact DGet.k (k := keyOf []) (same_upd nu _ _ hk), ?_⟩⟩
        have su := same_upd (o := .tup [V.int 0, .int 1]) nu
        have got : ∃ q, (valV kvs (keyOf [])).getD (.ref u) = .ref q ∧ FrK K (upd H7 u (.tup [V.int 0, .int 1])) q (valL (itemsLR l r) []) := by
          by_cases m : [] ∈ lawK (itemsLR l r)
          · obtain ⟨q, e, h⟩ := hR.2.2 [] m
            exact ⟨q, by rw [e]; rfl, SqT.sm su _ _ h.1⟩
          · rw [hR.none m, lawV_none m]
            exact ⟨u, rfl, SqT.of upd_same⟩
        obtain ⟨q1, eq1, hq1⟩ := got
        rw [eq1]
        refine ⟨q1, _, rfl, hq1, fun o no => ?_⟩
        rw [iv0]
        obtain ⟨so, do1⟩ := dnewT (z := z) no (.cons (.int (negF (diff (valL l) (valL r) [])).1 (bd_bn (diff_sm tw []).neg.1 (by decide))) (.cons (.int (negF (diff (valL l) (valL r) [])).2 (bd_bn (diff_sm tw []).neg.2 (by decide))) .nil))
        refine ⟨two_line, fun e ne => ?_⟩
        obtain ⟨se, de⟩ := dnewT (z := z) ne (.cons (.tup ((su.trans so) _ _ htt) (hvs.same (su.trans so))) (.cons do1 .nil))
        exact ⟨_, _, _, z, rfl, de, tlok, bok, fun v' H' s' hd' => ⟨su.trans (so.trans (se.trans s')), v', hd', rfl⟩⟩
      obtain ⟨s8, v, hv, rfl⟩ := hM
      have s18 := s17.trans s8
      obtain ⟨P1, t1', y1, xs, rfl, hP, ht1, hts, hy⟩ := tie_inv hv
      obtain ⟨pb, rfl, hpb⟩ := dt_fr hy
      generalize htl : tlOf (diff (valL l) (valL r)) ns = tl at *
      generalize hb0 : negF (diff (valL l) (valL r) []) = b0 at *
      have back := redP_neg tlok bok
      have xl : xs.length = (redL tl).length := by
        have := hts.len
        rw [List.length_map] at this
        exact this
      -- the tie the other way round
      refine ⟨fun σ H9 => Same H8 H9 ∧ ∃ v, Dt z H9 v (redP (negT tl) (negF b0)) ∧ ∃ y8 y10, σ = [some (vS t), some (.ref D), some (.int (-1)), some (.ref d), some (.ref tt), some (vS g), some (.ref P1), some v, y8, y9, y10], ?_, fun σ H9 hM => ?_⟩
      · rw [back]
        refine ⟨_, rfl, P1, _, _, _, rfl, rfl, SqT.of hP, rfl, ?_⟩
        refine ⟨t1', rfl, ⟨_, SqT.of ht1⟩, fun D2 nD => ?_⟩
        refine lc_tup (K := K) (a := t1') (xs := xs) (fun i G => Same H8 G ∧ ∃ vs, G D2 = some (.lst vs) ∧ DtAll z G vs (((negT (redL tl)).take i).map tmP)) ⟨same_upd nD, [], upd_same, .nil⟩ (fun i G _ hq => SqT.of (hq.1 _ _ ht1)) (fun i x G hx hq => ?_) (fun G hq => ?_)
        · obtain ⟨sG, vs, hD, hvs⟩ := hq
          obtain ⟨d9, hd9, hdt⟩ := DtAll.at i hts hx
          rw [List.getElem?_map] at hd9
          obtain ⟨⟨n, f⟩, he, rfl⟩ := Option.map_eq_some_iff.mp hd9
          change Dt _ _ _ (.tuple [.str (SX.S n), frP f]) at hdt
          have vl : vs.length < sizeLine := by
            have e1 := hvs.len
            rw [List.length_map, List.length_take] at e1
            have := tlok.1
            have : (negT (redL tl)).length = tl.length := by unfold negT redL; rw [List.length_map, List.length_map]
            exact small1000 (by omega)
          match x, hdt with
          | _, .tup (a := pp) hpp (.cons (.str _ hn) (.cons hr .nil)) =>
            obtain ⟨pr, rfl, hpr⟩ := dt_fr hr
            refine ⟨pp, _, rfl, .inl (.inl (sG _ _ hpp)), rfl, _, _, rfl, _, _, rfl, rfl, rfl, _, rfl, _, rfl, pr, f, rfl, SqT.of (sG _ _ hpr), fun e ne => ?_⟩
            obtain ⟨se, de⟩ := dnewT (z := z) ne (.cons (.int (negF f).1 (bd_neg (dt_fr_bd hr).1)) (.cons (.int (negF f).2 (dt_fr_bd hr).2) .nil))
            refine ⟨two_line, fun e2 ne2 => ?_⟩
            obtain ⟨se2, de2⟩ := dnewT (z := z) ne2 (.cons (.str (SX.S n) hn) (.cons de .nil))
            have hD2 := (se.trans se2) _ _ hD
            refine ⟨vs, hD2, vl, fun b o e => (by rw [upd_ne (ne_of_none e nD)]; exact (se.trans se2) _ _ (sG _ _ e)), vs ++ [.ref e2], upd_same, ?_⟩
            have er : (negT (redL tl))[i]? = some (n, negF f) := by
              unfold negT
              rw [List.getElem?_map, he]
              rfl
            rw [List.take_add_one, er, List.map_append]
            refine DtAll.snoc (hvs.tups ((TT.of (se.trans se2)).trans (TT.upd hD2)) _ _ (noLs_tm _)) ?_
            exact Dt.tups (TT.upd hD2) _ _ rfl de2
        · obtain ⟨sG, vs, hD, hvs⟩ := hq
          have : (negT (redL tl)).length = (redL tl).length := List.length_map ..
          rw [xl, ← this, List.take_length] at hvs
          refine ⟨D2, vs, rfl, .inl ⟨SqL.of hD, fun l0 nl0 => ?_⟩⟩
          obtain ⟨sl0, dl⟩ := dnewT (z := z) nl0 hvs
          have s5 := sG.trans sl0
          refine ⟨_, rfl, P1, _, _, _, rfl, rfl, SqT.of (s5 _ _ hP), rfl, pb, _, rfl, SqT.of (s5 _ _ hpb), fun e ne => ?_⟩
          obtain ⟨se, de⟩ := dnewT (z := z) ne (.cons (.int (negF (redF (scl (rts tl)) b0)).1 (bd_neg (dt_fr_bd hy).1)) (.cons (.int (negF (redF (scl (rts tl)) b0)).2 (dt_fr_bd hy).2) .nil))
          refine ⟨two_line, fun o no => ?_⟩
          obtain ⟨so, d0⟩ := dnewT (z := z) no (.cons (dl.same se) (.cons de .nil))
          exact ⟨s5.trans (se.trans so), .ref o, d0, _, _, rfl⟩
      obtain ⟨s9, v9, hv9, y8', y10, rfl⟩ := hM
      have s19 := s18.trans s9
      have hv1 : Dt z H9 (.ref P1) (redP tl b0) := Dt.same (.tup hP (.cons (.tup ht1 hts) (.cons hy .nil))) s9
      have w1 : redP tl b0 = oneP l r ns := by
        unfold oneP
        rw [htl, hb0]
      have w2 : redP (negT tl) (negF b0) = oneP r l ns := by rw [one_back tw ns, htl, hb0]
      rw [w1] at hv1
      rw [w2] at hv9
      have geq : ∀ (m : List Nat) (x : Str), x = SX.S m → decide (vS g = V.str x) = decide (g = m) := fun m x hx => by
        rw [hx, decide_eq_decide]
        exact ⟨fun z => S_inj (V.str.inj z), fun z => by rw [z]⟩
      refine ⟨two_line, fun a na => ?_⟩
      obtain ⟨sa, da⟩ := dnewT (z := z) na (.cons (.str (Str.ofString "") (by decide +kernel)) (.cons .non .nil))
      have fin : ∀ vs', DtAll z (upd H9 a (.tup [V.str (Str.ofString ""), .non])) vs' (resD l g r ns) → ∀ b, upd H9 a (.tup [V.str (Str.ofString ""), .non]) b = none → 2 ≤ sizeLine ∧ ∀ p, upd (upd H9 a (.tup [V.str (Str.ofString ""), .non])) b (.lst vs') p = none → Q (.ref p) (upd (upd (upd H9 a (.tup [V.str (Str.ofString ""), .non])) b (.lst vs')) p (.tup [.ref a, .ref b])) := fun vs' hvs' b nb => ⟨two_line, fun p np => by
        obtain ⟨sb, db⟩ := dnewL (z := z) nb (zne (s19.trans sa) nb) hvs'
        obtain ⟨sp, dp⟩ := dnewT (z := z) np (.cons (da.same sb) (.cons db .nil))
        exact q p _ _ (s19.trans (sa.trans (sb.trans sp))) (.ties l r g hp (by rw [nlen]; exact h12) ns hn) dp⟩
      unfold resD at fin
      refine ⟨_, rfl, rfl, _, rfl, ?_⟩
      show ite (decide (vS g = V.str (Str.ofString "<=")) = true) _ _
      rw [geq _ _ leS]
      by_cases g1 : g = [60, 61]
      · rw [decide_eq_true g1]
        rw [if_pos g1] at fin
        exact iteT ⟨_, rfl, small_line (by show 1 ≤ 1000; decide), fun b nb => fin _ (.cons (hv1.same sa) .nil) b nb⟩
      · rw [decide_eq_false g1]
        rw [if_neg g1] at fin
        refine iteF ⟨_, rfl, rfl, _, rfl, ?_⟩
        show ite (decide (vS g = V.str (Str.ofString ">=")) = true) _ _
        rw [geq _ _ geS]
        by_cases g2 : g = [62, 61]
        · rw [decide_eq_true g2]
          rw [if_pos g2] at fin
          exact iteT ⟨_, rfl, small_line (by show 1 ≤ 1000; decide), fun b nb => fin _ (.cons (hv9.same sa) .nil) b nb⟩
        · rw [decide_eq_false g2]
          rw [if_neg g2] at fin
          exact iteF ⟨_, rfl, _, rfl, two_line, fun b nb => fin _ (.cons (hv1.same sa) (.cons (hv9.same sa) .nil)) b nb⟩
end
theorem small_log2 {v : Int} (h : v.natAbs ≤ 8000) : v.natAbs.log2 < 9000 := Nat.lt_of_le_of_lt (Nat.log2_le_self _) (by omega)
theorem mid_of {m : Int} (h : 0 < m) (h2 : m ≤ 8000) : Mid m := ⟨h, small_log2 (by omega)⟩
theorem new_ne {H : Hp} {a c p : Addr} (h : FeedOk H a c) (n : H p = none) : p ≠ a := by
  obtain ⟨_, _, _, _, ha, _⟩ := h
  exact (ne_of_none ha n).symm
theorem join_singles : ∀ cs : List Nat, TL.joinL [] (cs.map fun c => [c]) = cs
  | [] => rfl
  | [c] => rfl
  | c :: d :: r => by
    show [c] ++ ([] ++ TL.joinL [] ((d :: r).map fun c => [c])) = c :: d :: r
    rw [join_singles (d :: r)]
    rfl
theorem FeedOk.put {H : Hp} {a c p : Addr} {o : HO} (h : FeedOk H a c) (h1 : p ≠ a) (h2 : p ≠ c) : FeedOk (L2.upd H p o) a c := by
  obtain ⟨ns, k, big, mark, e1, e2, h3⟩ := h
  exact ⟨ns, k, big, mark, by rw [upd_ne h1.symm]; exact e1, by rw [upd_ne h2.symm]; exact e2, h3⟩
theorem but_none {a p : Addr} {H H' : Hp} (b : But a H H') (n : H' p = none) (ne : p ≠ a) : H p = none := by
  cases e : H p with
  | none => rfl
  | some o =>
    rw [b p o ne e] at n
    cases n
theorem But.updN {a p : Addr} {H H' : Hp} {o : HO} (b : But a H H') (n : H p = none) : But a H (L2.upd H' p o) := fun q x hq e => by
  rw [upd_ne (ne_of_none e n)]
  exact b q x hq e
theorem new_nc {H : Hp} {a c p : Addr} (h : FeedOk H a c) (n : H p = none) : p ≠ c := by
  obtain ⟨_, _, _, _, _, hc, _⟩ := h
  exact (ne_of_none hc n).symm
section
variable {P : Program} {w : World} {K : PySem.W.Frag} {mg : Str → Option Value} {base : Heap} {fa : Nat → Addr} {fd : Nat → FuncData}
def spWords : Sp := fun vs H Q _ => ∃ (a c : Addr) (m : Nat), vs = [.ref a, .int (m : Int)] ∧ FeedOk H a c ∧ m ≤ 6 ∧ ∀ (p : Addr) (ws : List (List Nat)) (H' : Hp), FeedOk H' a c → But a H H' → p ≠ a → H' p = some (.lst (ws.map vS)) → ws.length = m → ws.Nodup → (∀ x ∈ ws, LW x) → Q (.ref p) H'
theorem ok_words (T : Txt K mg fa fd) : FnOk P w K mg base CX0 3 (fa 56) (fd 56) ["_law_feed_here", "_law_many"] spWords := by
  refine T.F_words.ok sc_words (fun vs H Q E h => ?_) (fun cdv A outer s H vs Q E hr h => ?_)
  · obtain ⟨a, c, m, rfl, _⟩ := h
    rfl
  · obtain ⟨a, c, m, rfl, hF, hm, q⟩ := h
    refine ⟨_, (C8.pss_cut (ps_set (i := 2) sc_words.nd rfl (.inr rfl) pe_str)
      (C8.pss_cut (ps_set (i := 3) sc_words.nd rfl (.inr rfl) (pe_m1 PySem.F.slot_str_join PySem.F.type_str_join mt_join pe_str (pe_lc (own := [("_law_k", 8)]) (g := gName 8) (tt := tYes) rfl sc_words.nd (pi_range1 (by rfl) T.m_range (pa_cons (pe_call (ok_draw T) (hr.mono (by decide)) (by rfl) T.g_draw T.F_draw.kp T.b_draw .nil pass0 (pa_cons (pv 0) (pa_cons pe_int pa_nil))) pa_nil)) (blkOk_by (own := [("_law_k", 8)]) (N := ["_law_feed_here", "_law_many", "_law_letters", "_law_stem", "_law_spot", "_law_first", "_law_way", "_law_found", "_law_k"]) (sc := defScope s_words) (by decide +kernel)) (fun _ _ _ _ _ => pg_name (i := 8) sc_words.nd rfl (Or.inl rfl)) (fun _ _ _ _ _ => pts_nil) (fun _ _ _ _ _ => (pe_ix ix_str (pv 2) (pe_call (ok_draw T) (hr.mono (by decide)) (by rfl) T.g_draw T.F_draw.kp T.b_draw .nil pass0 (pa_cons (pv 0) (pa_cons pe_int pa_nil))) (fun _ _ => rfl)))) (by rfl) (by rfl) (by rfl)))
      (C8.pss_cut (ps_asg (pe_tup (pa_cons (pe_call (ok_draw T) (hr.mono (by decide)) (by rfl) T.g_draw T.F_draw.kp T.b_draw .nil pass0 (pa_cons (pv 0) (pa_cons (pe_op op_add (pe_callB call_len_str (by rfl) T.m_len PySem.boot_len (pa_cons (pv 3) pa_nil)) pe_int) pa_nil))) (pa_cons (pe_call (ok_draw T) (hr.mono (by decide)) (by rfl) T.g_draw T.F_draw.kp T.b_draw .nil pass0 (pa_cons (pv 0) (pa_cons pe_int pa_nil))) (pa_cons (pe_call (ok_draw T) (hr.mono (by decide)) (by rfl) T.g_draw T.F_draw.kp T.b_draw .nil pass0 (pa_cons (pv 0) (pa_cons pe_int pa_nil))) pa_nil)))) (pg_tup (by rfl) (pgs_cons (pg_name (i := 4) sc_words.nd rfl (.inr rfl)) (pgs_cons (pg_name (i := 5) sc_words.nd rfl (.inr rfl)) (pgs_cons (pg_name (i := 6) sc_words.nd rfl (.inl rfl)) pgs_nil)))))
      (C8.pss_cut (ps_setLc (i := 7) (own := [("_law_k", 8)]) (g := gName 8) (tt := tYes) rfl sc_words.nd rfl rfl (sw_true rfl rfl rfl (by decide +kernel)) (pi_range1 (by rfl) T.m_range (pa_cons (pv 1) pa_nil)) (blkOk_by (own := [("_law_k", 8)]) (N := ["_law_feed_here", "_law_many", "_law_letters", "_law_stem", "_law_spot", "_law_first", "_law_way", "_law_found", "_law_k"]) (sc := defScope s_words) (by decide +kernel)) (fun _ _ _ _ _ => pg_name (i := 8) sc_words.nd rfl (Or.inl rfl)) (fun _ _ _ _ _ => pts_nil) (fun _ _ _ _ _ => (pe_op op_add_str (pe_op op_add_str (pe_slice sl_str (pv 3) po_none (po_some (pv 4))) (pe_ix ix_str (pv 2) (pe_op op_mod (pe_callTy call_int1 (by rfl) T.m_int PySem.Pv.boot_int (pa_cons (pe_op op_add (pv 5) (pe_op op_mul pe_int (pv 8))) pa_nil)) pe_int) (fun _ _ => rfl))) (pe_slice sl_str (pv 3) (po_some (pv 4)) po_none))))
      (C8.pss_cut (ps_if (pt_cmpR op_eq (pv 6) pe_int (nomark _)) (C8.pss_cut (ps_setLc (i := 7) (own := [("_law_k", 8)]) (g := gName 8) (tt := tYes) rfl sc_words.nd rfl rfl (sw_true rfl rfl rfl (by decide +kernel)) (pi_range1 (by rfl) T.m_range (pa_cons (pv 1) pa_nil)) (blkOk_by (own := [("_law_k", 8)]) (N := ["_law_feed_here", "_law_many", "_law_letters", "_law_stem", "_law_spot", "_law_first", "_law_way", "_law_found", "_law_k"]) (sc := defScope s_words) (by decide +kernel)) (fun _ _ _ _ _ => pg_name (i := 8) sc_words.nd rfl (Or.inl rfl)) (fun _ _ _ _ _ => pts_nil) (fun _ _ _ _ _ => (pe_slice sl_str (pe_op op_add_str (pe_slice sl_str (pv 3) po_none (po_some pe_int)) (pe_op op_mul_str (pe_ix ix_str (pv 2) (pe_op op_mod (pe_callTy call_int1 (by rfl) T.m_int PySem.Pv.boot_int (pa_cons (pe_op op_add (pv 5) (pe_op op_mul pe_int (pv 8))) pa_nil)) pe_int) (fun _ _ => rfl)) (pe_op op_add pe_int (pe_op op_mod (pe_callTy call_int1 (by rfl) T.m_int PySem.Pv.boot_int (pa_cons (pe_op op_add (pv 8) (pv 5)) pa_nil)) pe_int)))) (po_some (pe_un un_neg pe_int)) po_none)))
      (pss_one (ps_set (i := 7) sc_words.nd rfl (.inl rfl) (pe_ifExp (pt_cmpR op_eq (pe_callB call_len_seq (by rfl) T.m_len PySem.boot_len (pa_cons (pe_callB (cr_sortedW rfl) (by rfl) T.m_sorted (by decide +kernel) (pa_cons (pe_callTy (cr_setS rfl) (by rfl) T.m_set (by decide +kernel) (pa_cons (pv 7) pa_nil)) pa_nil)) pa_nil)) (pv 1) (nomark _)) (pv 7) (pe_lc (own := [("_law_k", 8)]) (g := gName 8) (tt := tYes) rfl sc_words.nd (pi_range1 (by rfl) T.m_range (pa_cons (pv 1) pa_nil)) (blkOk_by (own := [("_law_k", 8)]) (N := ["_law_feed_here", "_law_many", "_law_letters", "_law_stem", "_law_spot", "_law_first", "_law_way", "_law_found", "_law_k"]) (sc := defScope s_words) (by decide +kernel)) (fun _ _ _ _ _ => pg_name (i := 8) sc_words.nd rfl (Or.inl rfl)) (fun _ _ _ _ _ => pts_nil) (fun _ _ _ _ _ => (pe_ix ix_str (pv 2) (pe_op op_mod (pe_callTy call_int1 (by rfl) T.m_int PySem.Pv.boot_int (pa_cons (pe_op op_add (pv 5) (pe_op op_mul pe_int (pv 8))) pa_nil)) pe_int) (fun _ _ => rfl)))))))) pss_nil)
      (pss_one (ps_ret (pv 7)))))))), ?_⟩
    refine ⟨fun σ H1 => H1 = H ∧ σ = [some (.ref a), some (.int m), some (.str ABC), none, none, none, none, none, none], ⟨rfl, rfl⟩, fun σ H1 hM => ?_⟩
    obtain ⟨rfl, rfl⟩ := hM
    -- stem
    refine ⟨fun σ H2 => FeedOk H2 a c ∧ But a H1 H2 ∧ ∃ st : List Nat, st.length ≤ 5 ∧ st.all lowc = true ∧ σ = [some (.ref a), some (.int m), some (.str ABC), some (vS st), none, none, none, none, none], ?_, fun σ H2 hM => ?_⟩
    · refine ⟨⟨_, rfl⟩, _, rfl, a, c, _, rfl, hF, mid_of (by decide) (by decide), fun r H2 r0 r1 hF2 b2 => ?_⟩
      refine ⟨r, rfl, by omega, by omega, fun D nD => ?_⟩
      obtain ⟨n, rfl⟩ := Int.eq_ofNat_of_zero_le r0
      have nDa := new_ne hF2 nD
      have nDc := new_nc hF2 nD
      have nD1 := but_none b2 nD nDa
      refine lc_range (n := n) (fun i H3 => FeedOk H3 a c ∧ But a H1 H3 ∧ ∃ st : List Nat, st.length = i ∧ st.all lowc = true ∧ H3 D = some (.lst (st.map fun c => vS [c]))) ⟨hF2.new nD, b2.updN nD1, [], rfl, rfl, upd_same⟩ (fun i H3 hi hp => ?_) (fun H3 hp => ?_)
      · obtain ⟨hF3, b3, st, hl, hs, hD⟩ := hp
        refine ⟨rfl, _, rfl, _, rfl, a, c, _, rfl, hF3, mid_of (by decide) (by decide), fun r2 H4 r3 r4 hF4 b4 => ?_⟩
        refine ⟨_, _, _, rfl, rfl, small_line (by decide), abc_at r3 r4, _, b4 _ _ nDa hD, ?_, hF4.put nDa nDc, (b3.trans b4).updN nD1, st ++ [97 + r2.toNat], ?_, ?_, ?_⟩
        · rw [List.length_map]
          exact small1000 (by omega)
        · rw [List.length_append, hl]
          rfl
        · rw [List.all_append, hs, Bool.true_and]
          simp [low_abc (show r2.toNat < 26 by omega)]
        · rw [upd_same, List.map_append]
          rfl
      · obtain ⟨hF3, b3, st, hl, hs, hD⟩ := hp
        have em : (st.map fun c => vS [c]) = (st.map fun c => SX.S [c]).map V.str := by rw [List.map_map]; rfl
        refine ⟨_, D, st.map fun c => SX.S [c], rfl, rfl, .inl (SqL.of (by rw [← em]; exact hD)), ?_, hF3, b3, st, by omega, hs, ?_⟩
        · have : ∀ l : List Nat, ((l.map fun c => SX.S [c]).map (·.length)).sum = l.length := fun l => by
            induction l with
            | nil => rfl
            | cons x l ih =>
              rw [List.map_cons, List.map_cons, List.sum_cons, ih, List.length_cons, SX.S_len]
              exact Nat.add_comm _ _
          rw [this, List.length_map]
          show st.length + st.length * 0 ≤ _
          omega
        · have e : Txt.join (Str.ofString "") (st.map fun c => SX.S [c]) = SX.S st := by
            have := SX.join_S [] (st.map fun c => [c])
            rw [join_singles, List.map_map] at this
            exact this
          rw [e]
          rfl
    · obtain ⟨hF2, b2, st, hst, hsl, rfl⟩ := hM
      -- spot, first, way
      refine ⟨fun σ H3 => FeedOk H3 a c ∧ But a H1 H3 ∧ ∃ (sp f : Nat) (wy : Int), f < 26 ∧ σ = [some (.ref a), some (.int m), some (.str ABC), some (vS st), some (.int sp), some (.int f), some (.int wy), none, none], ?_, fun σ H3 hM => ?_⟩
      · have sl : (SX.S st).length = st.length := SX.S_len st
        refine ⟨_, rfl, _, rfl, _, rfl, small_line (by omega), _, _, rfl, rfl, a, c, _, rfl, hF2, mid_of (by omega) (by omega), fun r H3 r0 r1 hF3 b3 => ?_⟩
        refine ⟨_, rfl, a, c, _, rfl, hF3, mid_of (by decide) (by decide), fun r2 H4 r3 r4 hF4 b4 => ?_⟩
        refine ⟨_, rfl, a, c, _, rfl, hF4, mid_of (by decide) (by decide), fun r5 H5 _ _ hF5 b5 => ?_⟩
        refine ⟨small_line (by show 3 ≤ 1000; decide), fun p np => ⟨p, _, rfl, .inl (.inl upd_same), rfl, _, _, rfl, _, _, rfl, _, _, rfl, rfl, ?_⟩⟩
        obtain ⟨sp, rfl⟩ := Int.eq_ofNat_of_zero_le r0
        obtain ⟨f, rfl⟩ := Int.eq_ofNat_of_zero_le r3
        exact ⟨hF5.new np, (b2.trans (b3.trans (b4.trans b5))).trans (But.of (same_upd np)), sp, f, r5, by omega, rfl⟩
      · clear hF2 b2 H2
        obtain ⟨hF3, b3, sp, f, wy, hf, rfl⟩ := hM
        -- found
        refine ⟨fun σ H4 => FeedOk H4 a c ∧ But a H1 H4 ∧ ∃ p, p ≠ a ∧ H4 p = some (.lst (((List.range m).map fun k => st.take sp ++ [five f k] ++ st.drop sp).map vS)) ∧ σ = [some (.ref a), some (.int m), some (.str ABC), some (vS st), some (.int sp), some (.int f), some (.int wy), some (.ref p), none], ?_, fun σ H4 hM => ?_⟩
        · refine ⟨_, rfl, _, rfl, by omega, by omega, fun D nD => ?_⟩
          have nDa := new_ne hF3 nD
          have nDc := new_nc hF3 nD
          have nD1 := but_none b3 nD nDa
          have sl : (SX.S st).length = st.length := SX.S_len st
          refine lc_range (n := m) (fun i H4 => FeedOk H4 a c ∧ But a H1 H4 ∧ H4 D = some (.lst (((List.range i).map fun k => st.take sp ++ [five f k] ++ st.drop sp).map vS))) ⟨hF3.new nD, b3.updN nD1, upd_same⟩ (fun i H4 hi hp => ?_) (fun H4 hp => ⟨hp.1, hp.2.1, D, nDa, hp.2.2, rfl⟩)
          obtain ⟨hF4, b4, hD⟩ := hp
          have m0 : (0 : Int) ≤ ((f : Int) + 5 * (0 + (i : Int))) % 26 := by omega
          have m1 : ((f : Int) + 5 * (0 + (i : Int))) % 26 < 26 := by omega
          have m2 : 97 + (((f : Int) + 5 * (0 + (i : Int))) % 26).toNat = five f i := by
            unfold five
            omega
          have it := abc_at m0 m1
          rw [m2] at it
          refine ⟨rfl, _, rfl, _, rfl, _, rfl, _, rfl, small_line (by omega), _, rfl, _, rfl, _, rfl, _, _, rfl, rfl, .inl (by decide), _, _, rfl, rfl, .inl ⟨_, rfl, _, _, rfl, rfl, (by show (0 : Int) < 26; decide), ?_⟩⟩
          refine ⟨_, _, _, rfl, rfl, small_line (by decide), it, _, _, rfl, rfl, ?_, _, rfl, _, rfl, _, rfl, _, rfl, small_line (by omega), _, _, rfl, rfl, ?_, _, hD, ?_, ?_, ?_, ?_⟩
          · rw [cut_to, SX.S_len, List.length_take]
            exact small_line (by show min sp st.length + 1 ≤ 1000; omega)
          · rw [cut_to, cut_from, show ({ cps := #[five f i] } : Str) = SX.S [five f i] from rfl, SX.S_cat, SX.S_len, SX.S_len, List.length_append, List.length_take, List.length_drop]
            exact small_line (by show min sp st.length + 1 + (st.length - sp) ≤ 1000; omega)
          · rw [List.length_map, List.length_map, List.length_range]
            exact small1000 (by omega)
          · exact hF4.put nDa nDc
          · exact b4.updN nD1
          · rw [upd_same, cut_to, cut_from, show ({ cps := #[five f i] } : Str) = SX.S [five f i] from rfl, SX.S_cat, SX.S_cat, List.range_succ, List.map_append, List.map_append]
            rfl
        · clear hF3 b3 H3
          obtain ⟨hF4, b4, p, npa, hp, rfl⟩ := hM
          have lw0 : ∀ x ∈ (List.range m).map fun k => st.take sp ++ [five f k] ++ st.drop sp, LW x := fun x hx => by
            obtain ⟨k, hk, rfl⟩ := List.mem_map.mp hx
            exact LW.put hst hsl (low_abc (Nat.mod_lt _ (by decide)))
          have nd0 : ((List.range m).map fun k => st.take sp ++ [five f k] ++ st.drop sp).Nodup := nodup_range_map fun i j hi hj e => five_inj (by omega) (by omega) (put_inj e)
          -- way
          refine ⟨fun σ H5 => ∃ (p : Addr) (ws : List (List Nat)), FeedOk H5 a c ∧ But a H1 H5 ∧ p ≠ a ∧ H5 p = some (.lst (ws.map vS)) ∧ ws.length = m ∧ ws.Nodup ∧ (∀ x ∈ ws, LW x) ∧ σ = [some (.ref a), some (.int m), some (.str ABC), some (vS st), some (.int sp), some (.int f), some (.int wy), some (.ref p), none], ?_, fun σ H5 hM => ?_⟩
          · refine ⟨_, rfl, rfl, _, rfl, ite2 (fun _ => ?_) (fun _ => ⟨p, _, hF4, b4, npa, hp, by rw [List.length_map, List.length_range], nd0, lw0, rfl⟩)⟩
            refine ⟨fun σ H5 => FeedOk H5 a c ∧ But a H1 H5 ∧ ∃ (p : Addr) (ws : List (List Nat)), p ≠ a ∧ H5 p = some (.lst (ws.map vS)) ∧ ws.length = m ∧ (∀ x ∈ ws, LW x) ∧ σ = [some (.ref a), some (.int m), some (.str ABC), some (vS st), some (.int sp), some (.int f), some (.int wy), some (.ref p), none], ?_, fun σ H5 hM => ?_⟩
            · refine ⟨_, rfl, _, rfl, by omega, by omega, fun D nD => ?_⟩
              have nDa := new_ne hF4 nD
              have nDc := new_nc hF4 nD
              have nD1 := but_none b4 nD nDa
              refine lc_range (n := m) (fun i H5 => FeedOk H5 a c ∧ But a H1 H5 ∧ ∃ ws : List (List Nat), ws.length = i ∧ (∀ x ∈ ws, LW x) ∧ H5 D = some (.lst (ws.map vS))) ⟨hF4.new nD, b4.updN nD1, [], rfl, (fun x h => by cases h), upd_same⟩ (fun i H5 hi hp => ?_) (fun H5 hp => by
                obtain ⟨h1, h2, ws, h3, h4, h5⟩ := hp
                exact ⟨h1, h2, D, ws, nDa, h5, h3, h4, rfl⟩)
              obtain ⟨hF5, b5, ws, hl, hw, hD⟩ := hp
              have m0 : (0 : Int) ≤ ((f : Int) + 7 * (0 + (i : Int))) % 26 := by omega
              have m1 : ((f : Int) + 7 * (0 + (i : Int))) % 26 < 26 := by omega
              have it := abc_at m0 m1
              have lc := low_abc (show (((f : Int) + 7 * (0 + (i : Int))) % 26).toNat < 26 by omega)
              generalize 97 + (((f : Int) + 7 * (0 + (i : Int))) % 26).toNat = cd at it lc
              have r0 : 0 ≤ (1 : Int) + ((0 + (i : Int)) + (f : Int)) % 4 := by omega
              have r1 : 1 ≤ ((1 : Int) + ((0 + (i : Int)) + (f : Int)) % 4).toNat := by omega
              have r2 : ((1 : Int) + ((0 + (i : Int)) + (f : Int)) % 4).toNat ≤ 4 := by omega
              have r3 : (1 : Int) + ((0 + (i : Int)) + (f : Int)) % 4 ≤ 4 := by omega
              have sl : (SX.S st).length = st.length := SX.S_len st
              refine ⟨rfl, _, rfl, _, rfl, _, rfl, small_line (by omega), _, rfl, _, rfl, _, rfl, _, _, rfl, rfl, .inl (by decide), _, _, rfl, rfl, .inl ⟨_, rfl, _, _, rfl, rfl, (by show (0 : Int) < 26; decide), ?_⟩⟩
              refine ⟨_, _, _, rfl, rfl, small_line (by decide), it, _, rfl, _, rfl, _, _, rfl, rfl, .inl ⟨_, rfl, _, _, rfl, rfl, (by show (0 : Int) < 4; decide), ?_⟩⟩
              refine ⟨_, _, rfl, rfl, _, _, rfl, rfl, mul_one1 rfl (by omega) (by omega), ?_⟩
              generalize (1 : Int) + ((0 + (i : Int)) + (f : Int)) % 4 = N at r0 r1 r2 r3
              have e1 : cutS (SX.S st) none (some 1) = SX.S (st.take 1) := cut_to st 1
              have e2 : Txt.mul { cps := #[cd] } N = SX.S (List.replicate N.toNat cd) := mul_rep cd N
              have l5 : (st.take 1 ++ List.replicate N.toNat cd).length ≤ 6 := (LW.rep (a := st) hsl lc r1 (by omega)).2.1
              have whole : cutS (cutS (SX.S st) none (some 1) ++ Txt.mul { cps := #[cd] } N) (some (-6)) none = SX.S (st.take 1 ++ List.replicate N.toNat cd) := by
                rw [e1, e2, SX.S_cat]
                exact cut_last _ (k := 6) l5 (by decide)
              refine ⟨_, _, rfl, rfl, ?_, _, rfl, _, rfl, _, rfl, ?_, _, hD, ?_, hF5.put nDa nDc, b5.updN nD1, ws ++ [st.take 1 ++ List.replicate N.toNat cd], ?_, ?_, ?_⟩
              · rw [e1, e2, SX.S_len, SX.S_len, ← List.length_append]
                exact small_line (by omega)
              · rw [e1, e2, SX.S_cat, SX.S_len]
                exact small_line (by omega)
              · rw [List.length_map]
                exact small1000 (by omega)
              · rw [List.length_append, hl]
                rfl
              · intro x hx
                rcases List.mem_append.mp hx with h | h
                · exact hw x h
                · rw [List.mem_singleton.mp h]
                  exact LW.rep hsl lc r1 (by omega)
              · rw [upd_same, List.map_append]
                exact congrArg (fun z => some (HO.lst (ws.map vS ++ [V.str z]))) whole
            · clear hF4 b4 hp npa p nd0 lw0 H4
              obtain ⟨hF5, b5, p, ws, npa, hp, hl, hw, rfl⟩ := hM
              have hpS : H5 p = some (.lst ((ws.map SX.S).map V.str)) := by
                rw [List.map_map]
                exact hp
              have il := insAll_len (ws.map SX.S) []
              rw [List.length_map] at il
              simp only [List.length_nil, Nat.add_zero] at il
              refine ⟨_, rfl, p, _, rfl, SqL.of hpS, by rw [List.length_map]; omega, fun q nq => ⟨q, _, rfl, upd_same, insAll_nodup _ List.nodup_nil, by omega, fun zs r pm _ nr => ?_⟩⟩
              refine ⟨r, _, rfl, .inl (SqL.of upd_same), _, rfl, rfl, _, rfl, ?_⟩
              have sq := same_upd (o := SetW P w q (insAll (ws.map SX.S) [])) nq
              have sr := same_upd (o := .lst (zs.map V.str)) nr
              have sx := sq.trans sr
              have hF7 := hF5.same sx
              have b7 := b5.trans (But.of (a := a) sx)
              have hp7 := sx _ _ hp
              generalize upd (upd H5 q (SetW P w q (insAll (ws.map SX.S) []))) r (.lst (zs.map V.str)) = H7 at hF7 b7 hp7 ⊢
              refine ite2 (fun e => ?_) (fun _ => ?_)
              · have e := V.int.inj (of_decide_eq_true e)
                rw [List.length_map] at e
                have el : (insAll (ws.map SX.S) []).length = (ws.map SX.S).length + ([] : List Str).length := by
                  rw [← pm.length_eq, List.length_map, List.length_nil]
                  omega
                exact ⟨_, rfl, p, ws, hF7, b7, npa, hp7, hl, nodup_S (ins_all_full _ _ el).1, hw, rfl⟩
              · refine ⟨_, rfl, _, rfl, by omega, by omega, fun D nD => ?_⟩
                have nDa := new_ne hF7 nD
                have nDc := new_nc hF7 nD
                have nD1 := but_none b7 nD nDa
                refine lc_range (n := m) (fun i H8 => FeedOk H8 a c ∧ But a H1 H8 ∧ H8 D = some (.lst (((List.range i).map fun k => [five f k]).map vS))) ⟨hF7.new nD, b7.updN nD1, upd_same⟩ (fun i H8 hi hp => ?_) (fun H8 hp => ?_)
                · obtain ⟨hF8, b8, hD⟩ := hp
                  have m0 : (0 : Int) ≤ ((f : Int) + 5 * (0 + (i : Int))) % 26 := by omega
                  have m1 : ((f : Int) + 5 * (0 + (i : Int))) % 26 < 26 := by omega
                  have m2 : 97 + (((f : Int) + 5 * (0 + (i : Int))) % 26).toNat = five f i := by
                    unfold five
                    omega
                  have it := abc_at m0 m1
                  rw [m2] at it
                  refine ⟨rfl, _, rfl, _, rfl, _, rfl, _, _, rfl, rfl, .inl (by decide), _, _, rfl, rfl, .inl ⟨_, rfl, _, _, rfl, rfl, (by show (0 : Int) < 26; decide), ?_⟩⟩
                  refine ⟨_, _, _, rfl, rfl, small_line (by decide), it, _, hD, ?_, hF8.put nDa nDc, b8.updN nD1, ?_⟩
                  · rw [List.length_map, List.length_map, List.length_range]
                    exact small1000 (by omega)
                  · rw [upd_same, List.range_succ, List.map_append, List.map_append]
                    rfl
                · obtain ⟨hF8, b8, hD⟩ := hp
                  refine ⟨D, _, hF8, b8, nDa, hD, by rw [List.length_map, List.length_range], nodup_range_map fun i j hi hj e => five_inj (by omega) (by omega) (List.cons.inj e).1, fun x hx => ?_, rfl⟩
                  obtain ⟨k, hk, rfl⟩ := List.mem_map.mp hx
                  exact LW.one (low_abc (Nat.mod_lt _ (by decide)))
          · obtain ⟨p, ws, hF5, b5, npa, hp, hl, hn, hw, rfl⟩ := hM
            exact ⟨_, rfl, q p ws H5 hF5 b5 npa hp hl hn hw⟩
end
def tmL (x : List Nat) (f : FR) : List Nat := if f = (1, 1) then x else if f = (-1, 1) then 45 :: x else txtL f.1 f.2 ++ 42 :: x
def Fsm (f : FR) : Prop := f.1.natAbs < 10 ^ 62 ∧ 0 < f.2 ∧ f.2.natAbs < 10 ^ 62
theorem txtL_len {f : FR} (h : Fsm f) : (txtL f.1 f.2).length ≤ 127 := by
  rw [txt_int f.1 f.2 h.2.1]
  have a := intL_len h.1
  have b := intL_len h.2.2
  split
  · omega
  · rw [List.length_append, List.length_cons]
    omega
theorem tmL_len {x : List Nat} {f : FR} (hx : x.length ≤ 7) (h : Fsm f) : (tmL x f).length ≤ 135 := by
  have := txtL_len h
  unfold tmL
  split
  · omega
  · split
    · rw [List.length_cons]
      omega
    · rw [List.length_append, List.length_cons]
      omega
theorem star : (Str.ofString "*" : Str) = SX.S [42] := by decide +kernel
theorem minusT : (Str.ofString " - " : Str) = SX.S [32, 45, 32] := by decide +kernel
theorem plusT : (Str.ofString " + " : Str) = SX.S [32, 43, 32] := by decide +kernel
theorem leT : (Str.ofString " <= " : Str) = SX.S [32, 60, 61, 32] := by decide +kernel
theorem eqv_pair (a b c d : Int) : PyData.eqv (.tuple [.int a, .int b]) (.tuple [.int c, .int d]) = decide ((a, b) = (c, d)) := by
  show ((a == c) && ((b == d) && true)) = _
  rw [Bool.and_true, Bool.eq_iff_iff, Bool.and_eq_true, beq_iff_eq, beq_iff_eq, decide_eq_true_eq, Prod.mk.injEq]
theorem dp_fr {K : PySem.W.Frag} {H : Hp} {p : Addr} {a b : Int} (h : H p = some (.tup [.int a, .int b])) : Dp K H (.ref p) (.tuple [.int a, .int b]) := .tup (SqT.of h) (.cons (.int a) (.cons (.int b) .nil))
section
variable {P : Program} {w : World} {K : PySem.W.Frag} {mg : Str → Option Value} {base : Heap} {fa : Nat → Addr} {fd : Nat → FuncData}
def spTermT : Sp := fun vs H Q _ => ∃ (x : List Nat) (p : Addr) (f : FR), vs = [vS x, .ref p] ∧ x.length ≤ 7 ∧ H p = some (.tup [.int f.1, .int f.2]) ∧ Fsm f ∧ ∀ H', Same H H' → Q (vS (tmL x f)) H'
theorem ok_p_term_text (T : Txt K mg fa fd) : FnOk P w K mg base CX0 3 (fa 37) (fd 37) ["name", "rate"] spTermT := by
  refine T.F_p_term_text.ok sc_p_term_text (fun vs H Q E h => ?_) (fun cdv A outer s H vs Q E hr h => ?_)
  · obtain ⟨x, p, f, rfl, _⟩ := h
    rfl
  · obtain ⟨x, p, f, rfl, hx, hp, hf, q⟩ := h
    refine ⟨_, (pss_cons (ps_if (pt_cmpR (op_eqD hr.units) (pv 1) (pe_tup (pa_cons pe_int (pa_cons pe_int pa_nil))) (nomark _)) (pss_one (ps_ret (pv 0))) pss_nil)
      (pss_cons (ps_if (pt_cmpR (op_eqD hr.units) (pv 1) (pe_tup (pa_cons (pe_un un_neg pe_int) (pa_cons pe_int pa_nil))) (nomark _)) (pss_one (ps_ret (pe_op op_add_str pe_str (pv 0)))) pss_nil)
      (pss_one (ps_ret (pe_op op_add_str (pe_op op_add_str (pe_call (ok_p_ratio_text T) (hr.mono (by decide)) (by rfl) T.g_p_ratio_text T.F_p_ratio_text.kp T.b_p_ratio_text .nil pass0 (pa_cons (pv 1) pa_nil)) pe_str) (pv 0)))))), ?_⟩
    refine ⟨_, rfl, two_line, fun e ne => ?_⟩
    have s1 := same_upd (o := .tup [V.int 1, .int 1]) ne
    refine ⟨_, _, dp_fr (s1 _ _ hp), dp_fr upd_same, rfl, rfl, _, rfl, ?_⟩
    rw [eqv_pair]
    refine ite2 (fun c => ?_) (fun c => ?_)
    · have := q _ s1
      unfold tmL at this
      rw [if_pos (of_decide_eq_true c)] at this
      exact ⟨_, rfl, this⟩
    · refine ⟨_, rfl, _, rfl, two_line, fun e2 ne2 => ?_⟩
      have s2 := same_upd (o := .tup [V.int (-1), .int 1]) ne2
      refine ⟨_, _, dp_fr (s2 _ _ (s1 _ _ hp)), dp_fr upd_same, rfl, rfl, _, rfl, ?_⟩
      rw [eqv_pair]
      have c1 : f ≠ (1, 1) := fun z => c (decide_eq_true z)
      refine ite2 (fun c2 => ?_) (fun c2 => ?_)
      · have := q _ (s1.trans s2)
        unfold tmL at this
        rw [if_neg c1, if_pos (of_decide_eq_true c2)] at this
        refine ⟨_, rfl, _, _, rfl, rfl, ?_, ?_⟩
        · rw [dash, SX.S_len, SX.S_len]
          exact small_line (by show 1 + x.length ≤ 1000; omega)
        · rw [dash, SX.S_cat]
          exact this
      · have c3 : f ≠ (-1, 1) := fun z => c2 (decide_eq_true z)
        have tl := txtL_len hf
        refine ⟨_, rfl, p, f.1, f.2, rfl, (s1.trans s2) _ _ hp, hf.2.1, hf.1, hf.2.2, fun H' s3 => ⟨_, _, rfl, rfl, ?_, _, rfl, _, _, rfl, rfl, ?_, ?_⟩⟩
        · rw [star, SX.S_len, SX.S_len]
          exact small_line (by show _ + 1 ≤ 1000; omega)
        · rw [star, SX.S_cat, SX.S_len, SX.S_len, List.length_append]
          exact small_line (by show _ + 1 + _ ≤ 1000; omega)
        · have := q _ (s1.trans (s2.trans s3))
          unfold tmL at this
          rw [if_neg c1, if_neg c3] at this
          rw [star, SX.S_cat, SX.S_cat, List.append_assoc]
          exact this
end
def stepT (acc : List Nat) (u : List Nat × FR) : List Nat := if u.2.1 < 0 then acc ++ [32, 45, 32] ++ tmL u.1 (-u.2.1, u.2.2) else acc ++ [32, 43, 32] ++ tmL u.1 u.2
def tsL : List (List Nat × FR) → List Nat
  | [] => []
  | t :: r => r.foldl stepT (tmL t.1 t.2)
def TsOk (tl : List (List Nat × FR)) : Prop := (tl.length = 1 ∨ tl.length = 2) ∧ ∀ t ∈ tl, t.1.length ≤ 7 ∧ Fsm t.2
theorem Fsm.neg {f : FR} (h : Fsm f) : Fsm (-f.1, f.2) := ⟨by show (-f.1).natAbs < _; rw [Int.natAbs_neg]; exact h.1, h.2⟩
theorem stepT_len {acc : List Nat} {u : List Nat × FR} (hx : u.1.length ≤ 7) (h : Fsm u.2) : (stepT acc u).length ≤ acc.length + 138 := by
  unfold stepT
  split
  · have := tmL_len hx h.neg
    simp only [List.length_append, List.length_cons, List.length_nil]
    omega
  · have := tmL_len hx h
    simp only [List.length_append, List.length_cons, List.length_nil]
    omega
theorem cut_1 {xs : List V} (h : 1 ≤ xs.length) : cutV xs (some 1) none = xs.drop 1 := by
  unfold cutV
  rw [show HT.sIx xs.length 0 (some 1) = min 1 xs.length from HT.sIx_nat xs.length 0 1, HT.sIx_none, Nat.min_eq_left h]
  exact List.take_of_length_le (by rw [List.length_drop]; exact Nat.le_refl _)
section
variable {P : Program} {w : World} {K : PySem.W.Frag} {mg : Str → Option Value} {base : Heap} {fa : Nat → Addr} {fd : Nat → FuncData}
def spTermsT : Sp := fun vs H Q _ => ∃ v tl z, vs = [v] ∧ Dt z H v (.tuple (tl.map tmP)) ∧ TsOk tl ∧ ∀ H', Same H H' → Q (vS (tsL tl)) H'
theorem ok_p_terms_text (T : Txt K mg fa fd) : FnOk P w K mg base CX0 4 (fa 38) (fd 38) ["terms"] spTermsT := by
  refine T.F_p_terms_text.ok sc_p_terms_text (fun vs H Q E h => ?_) (fun cdv A outer s H vs Q E hr h => ?_)
  · obtain ⟨v, tl, z, rfl, _⟩ := h
    rfl
  · obtain ⟨v, tl, z, rfl, hv, hok, q⟩ := h
    refine ⟨_, (C8.pss_cut (ps_set (i := 1) sc_p_terms_text.nd rfl (.inl rfl) (pe_call (ok_p_term_text T) (hr.mono (by decide)) (by rfl) T.g_p_term_text T.F_p_term_text.kp T.b_p_term_text .nil pass0 (pa_cons (pe_ix ix_tup (pe_ix ix_tup (pv 0) pe_int (fun _ _ => rfl)) pe_int (fun _ _ => rfl)) (pa_cons (pe_ix ix_tup (pe_ix ix_tup (pv 0) pe_int (fun _ _ => rfl)) pe_int (fun _ _ => rfl)) pa_nil))))
      (C8.pss_cut (ps_for PassesOwn.never rfl (pi_tup (pe_slice sl_tup (pv 0) (po_some pe_int) po_none)) (pg_tup (by rfl) (pgs_cons (pg_name (i := 2) sc_p_terms_text.nd rfl (.inl rfl)) (pgs_cons (pg_name (i := 3) sc_p_terms_text.nd rfl (.inl rfl)) pgs_nil))) (pss_one (ps_if (pt_cmpR op_lt (pe_ix ix_tup (pv 3) pe_int (fun _ _ => rfl)) pe_int (nomark _)) (pss_one (ps_set (i := 1) sc_p_terms_text.nd rfl (.inl rfl) (pe_op op_add_str (pe_op op_add_str (pv 1) pe_str) (pe_call (ok_p_term_text T) (hr.mono (by decide)) (by rfl) T.g_p_term_text T.F_p_term_text.kp T.b_p_term_text .nil pass0 (pa_cons (pv 2) (pa_cons (pe_tup (pa_cons (pe_un un_neg (pe_ix ix_tup (pv 3) pe_int (fun _ _ => rfl))) (pa_cons (pe_ix ix_tup (pv 3) pe_int (fun _ _ => rfl)) pa_nil))) pa_nil)))))) (pss_one (ps_set (i := 1) sc_p_terms_text.nd rfl (.inl rfl) (pe_op op_add_str (pe_op op_add_str (pv 1) pe_str) (pe_call (ok_p_term_text T) (hr.mono (by decide)) (by rfl) T.g_p_term_text T.F_p_term_text.kp T.b_p_term_text .nil pass0 (pa_cons (pv 2) (pa_cons (pv 3) pa_nil)))))))))
      (pss_one (ps_ret (pv 1))))), ?_⟩
    obtain ⟨t, xs, rfl, ht, hts⟩ : ∃ t xs, v = .ref t ∧ H t = some (.tup xs) ∧ DtAll z H xs (tl.map tmP) := by
      generalize tl.map tmP = dd at hv
      match v, hv with
      | _, .tup h1 h2 => exact ⟨_, _, rfl, h1, h2⟩
    obtain ⟨⟨x, f⟩, r, rfl⟩ : ∃ u r, tl = u :: r := by
      cases tl with
      | nil => have := hok.1; simp at this
      | cons u r => exact ⟨u, r, rfl⟩
    obtain ⟨pp, pf, xs', rfl, hpp, hpf, hts'⟩ : ∃ pp pf xs', xs = .ref pp :: xs' ∧ H pp = some (.tup [vS x, .ref pf]) ∧ H pf = some (.tup [.int f.1, .int f.2]) ∧ DtAll z H xs' (r.map tmP) := by
      change DtAll z H xs (.tuple [.str (SX.S x), frP f] :: r.map tmP) at hts
      match xs, hts with
      | _, .cons (.tup h1 (.cons (.str _ _) (.cons h2 .nil))) h3 =>
        obtain ⟨pf, rfl, h4⟩ := dt_fr h2
        exact ⟨_, _, _, rfl, h1, h4, h3⟩
    have xl : xs'.length = r.length := by
      have := hts'.len
      rw [List.length_map] at this
      exact this
    have rl : r.length ≤ 1 := by
      have := hok.1
      simp only [List.length_cons] at this
      omega
    have h0 := hok.2 (x, f) List.mem_cons_self
    have l0 : (tmL x f).length ≤ 135 := tmL_len h0.1 h0.2
    refine ⟨fun σ H1 => Same H H1 ∧ σ = [some (.ref t), some (vS (tmL x f)), none, none], ?_, fun σ H1 hM => ?_⟩
    · exact ⟨_, rfl, t, _, _, _, rfl, rfl, SqT.of ht, at_of (j := 0) rfl rfl, pp, _, _, _, rfl, rfl, SqT.of hpp, rfl, _, rfl, t, _, _, _, rfl, rfl, SqT.of ht, at_of (j := 0) rfl rfl, pp, _, _, _, rfl, rfl, SqT.of hpp, rfl, x, pf, f, rfl, h0.1, hpf, h0.2, fun H' s' => ⟨s', rfl⟩⟩
    obtain ⟨s1, rfl⟩ := hM
    have ht1 := s1 _ _ ht
    have hts1 := hts'.same s1
    refine ⟨fun σ H2 => Same H1 H2 ∧ ∃ y2 y3, σ = [some (.ref t), some (vS (tsL ((x, f) :: r))), y2, y3], ?_, fun σ H2 hM => ?_⟩
    · refine ⟨_, rfl, 1, rfl, t, _, rfl, SqT.of ht1, ?_, fun p np => ?_⟩
      · intro z
        have z1 := z.1
        rw [show HT.sIx (V.ref pp :: xs').length 0 (some 1) = min 1 _ from HT.sIx_nat _ 0 1] at z1
        simp only [List.length_cons] at z1
        omega
      have sp := same_upd (o := .tup (cutV (V.ref pp :: xs') (some 1) none)) np
      have hp : (upd H1 p (.tup (cutV (V.ref pp :: xs') (some 1) none))) p = some (.tup xs') := by
        rw [upd_same, cut_1 (by simp)]
        rfl
      have hts2 := hts1.same sp
      refine ⟨p, rfl, ⟨_, SqT.of hp⟩, for_tup (K := K) (a := p) (xs := xs') (fun i σ H2 => Same (upd H1 p (.tup (cutV (V.ref pp :: xs') (some 1) none))) H2 ∧ ∃ y2 y3, σ = [some (.ref t), some (vS ((r.take i).foldl stepT (tmL x f))), y2, y3]) ⟨Same.refl _, _, _, rfl⟩ (fun i σ H2 _ hq => SqT.of (hq.1 _ _ hp)) (fun i y σ H2 hy hq => ?_) (fun σ H2 hq => ?_)⟩
      · obtain ⟨s2, y2, y3, rfl⟩ := hq
        obtain ⟨dt, hdd, hdt⟩ := DtAll.at i hts2 hy
        rw [List.getElem?_map] at hdd
        obtain ⟨⟨n, g⟩, he, rfl⟩ := Option.map_eq_some_iff.mp hdd
        have i0 : i = 0 := by
          have := (List.getElem?_eq_some_iff.mp he).1
          omega
        subst i0
        have hu := hok.2 (n, g) (List.mem_cons_of_mem _ (List.mem_of_getElem? he))
        change Dt _ _ _ (.tuple [.str (SX.S n), frP g]) at hdt
        have e1 : (r.take (0 + 1)).foldl stepT (tmL x f) = stepT (tmL x f) (n, g) := by
          rw [List.take_add_one, he]
          rfl
        rw [e1]
        have nl : n.length ≤ 7 := hu.1
        have tn : (tmL n (-g.1, g.2)).length ≤ 135 := tmL_len nl hu.2.neg
        have tp : (tmL n g).length ≤ 135 := tmL_len nl hu.2
        match y, hdt with
        | _, .tup (a := pp2) hpp2 (.cons (.str _ _) (.cons hr' .nil)) =>
          obtain ⟨pr, rfl, hpr⟩ := dt_fr hr'
          refine ⟨pp2, _, rfl, .inl (.inl (s2 _ _ hpp2)), rfl, _, _, rfl, _, _, rfl, rfl, _, rfl, pr, _, _, _, rfl, rfl, SqT.of (s2 _ _ hpr), t0, _, _, rfl, rfl, _, rfl, ite2 (fun c => ?_) (fun c => ?_)⟩
          · have c := of_decide_eq_true c
            refine ⟨_, rfl, _, _, rfl, rfl, ?_, _, rfl, _, rfl, pr, _, _, _, rfl, rfl, SqT.of (s2 _ _ hpr), t0, _, rfl, _, rfl, pr, _, _, _, rfl, rfl, SqT.of (s2 _ _ hpr), t1, two_line, fun e ne => ?_⟩
            · rw [minusT, SX.S_len, SX.S_len]
              exact small_line (by show (tmL x f).length + 3 ≤ 1000; omega)
            · have se := same_upd (o := .tup [V.int (-g.1), .int g.2]) ne
              refine ⟨n, e, (-g.1, g.2), rfl, nl, upd_same, hu.2.neg, fun H' s' => ⟨_, _, rfl, rfl, ?_, s2.trans (se.trans s'), some (vS n), some (.ref pr), ?_⟩⟩
              · rw [minusT, SX.S_cat, SX.S_len, SX.S_len, List.length_append]
                exact small_line (by show (tmL x f).length + 3 + (tmL n (-g.1, g.2)).length ≤ 1000; omega)
              · unfold stepT
                rw [if_pos c, minusT, SX.S_cat, SX.S_cat]
                rfl
          · have c : ¬ g.1 < 0 := fun z => c (decide_eq_true z)
            refine ⟨_, rfl, _, _, rfl, rfl, ?_, _, rfl, _, rfl, n, pr, g, rfl, nl, s2 _ _ hpr, hu.2, fun H' s' => ⟨_, _, rfl, rfl, ?_, s2.trans s', some (vS n), some (.ref pr), ?_⟩⟩
            · rw [plusT, SX.S_len, SX.S_len]
              exact small_line (by show (tmL x f).length + 3 ≤ 1000; omega)
            · rw [plusT, SX.S_cat, SX.S_len, SX.S_len, List.length_append]
              exact small_line (by show (tmL x f).length + 3 + (tmL n g).length ≤ 1000; omega)
            · unfold stepT
              rw [if_neg c, plusT, SX.S_cat, SX.S_cat]
              rfl
      · obtain ⟨s2, y2, y3, rfl⟩ := hq
        rw [xl, List.take_length]
        exact ⟨sp.trans s2, _, _, rfl⟩
    obtain ⟨s2, y2, y3, rfl⟩ := hM
    exact ⟨_, rfl, q H2 (s1.trans s2)⟩
end
/-! ### texts written and read again -/
abbrev Pc := Sy × List Nat × Nat
def textP : List Pc → List Nat
  | [] => []
  | (_, w, n) :: r => w ++ (List.replicate n 32 ++ textP r)
def idxP (N : Nat) : Nat → List Pc → List (Sy × Nat)
  | _, [] => [(.fin, N)]
  | k, (s, w, n) :: r => (s, k) :: idxP N (k + w.length + n) r
/-- a word that reads as a symbol, what stands behind it being given -/
def TokOk (s : Sy) (w u : List Nat) : Prop := isBad s = false ∧ w ≠ [] ∧ ∀ (t : List Nat) (k : Nat), t.drop k = w ++ u → k < t.length → symP t k = (s, k + w.length)
def NoSp (t : List Nat) : Prop := ∀ c r, t = c :: r → c ≠ 32
inductive GoodP : List Pc → Prop
  | nil : GoodP []
  | cons {s : Sy} {w : List Nat} {n : Nat} {r : List Pc} : TokOk s w (List.replicate n 32 ++ textP r) → NoSp (textP r) → GoodP r → GoodP ((s, w, n) :: r)
theorem drop_add {t w u : List Nat} {k : Nat} (h : t.drop k = w ++ u) : t.drop (k + w.length) = u := by
  rw [← List.drop_drop, h, List.drop_left]
theorem drop_lt {t w u : List Nat} {k : Nat} (h : t.drop k = w ++ u) (hw : w ≠ []) : k < t.length ∧ k + w.length ≤ t.length := by
  have e := congrArg List.length h
  rw [List.length_drop, List.length_append] at e
  have := List.length_pos_iff.mpr hw
  omega
theorem run_tok {p : Nat → Bool} {t w u : List Nat} {k : Nat} (h : t.drop k = w ++ u) (hw : w.all p = true) (hu : ∀ c r, u = c :: r → p c = false) : runL p t k = k + w.length := by
  unfold runL
  rw [h]
  have e1 : (w ++ u).takeWhile p = w ++ u.takeWhile p := List.takeWhile_append_of_pos fun c hc => List.all_eq_true.mp hw c hc
  have e2 : u.takeWhile p = [] := by
    cases u with
    | nil => rfl
    | cons c r => rw [List.takeWhile_cons, hu c r rfl]; rfl
  rw [e1, e2, List.append_nil]
theorem mid_tok {t w u : List Nat} {k : Nat} (h : t.drop k = w ++ u) : mid t k (k + w.length) = w := by
  unfold mid
  rw [h, show k + w.length - k = w.length by omega, List.take_left]
theorem sp_run {t u : List Nat} {k n : Nat} (h : t.drop k = List.replicate n 32 ++ u) (hu : NoSp u) : runL spc t k = k + n := by
  have := run_tok (p := spc) h (by rw [List.all_eq_true]; intro c hc; rw [List.eq_of_mem_replicate hc]; rfl) (fun c r e => decide_eq_false (hu c r e))
  rw [List.length_replicate] at this
  exact this
theorem syms_pieces : ∀ (ps : List Pc) (n : Nat) (t : List Nat) (k : Nat), t.drop k = textP ps → k ≤ t.length → ps.length ≤ n → GoodP ps → symsL n t k = idxP t.length k ps
  | [], n, t, k, h, hk, _, _ => by
    have : t.length ≤ k := by
      have e := congrArg List.length h
      rw [List.length_drop] at e
      have : (textP []).length = 0 := rfl
      omega
    exact syms_stop n t this
  | (s, w, m) :: r, n, t, k, h, hk, hn, hg => by
    cases hg with
    | cons tok ns hg =>
      obtain ⟨nb, hw, ht⟩ := tok
      have h : t.drop k = w ++ (List.replicate m 32 ++ textP r) := h
      obtain ⟨kl, kw⟩ := drop_lt h hw
      have hs := ht t k h kl
      obtain ⟨n, rfl⟩ : ∃ n', n = n' + 1 := ⟨n - 1, by rw [List.length_cons] at hn; omega⟩
      have d1 := drop_add h
      have r1 := sp_run d1 ns
      have d2 : t.drop (k + w.length + m) = textP r := by
        have := drop_add d1
        rw [List.length_replicate] at this
        exact this
      have l2 : k + w.length + m ≤ t.length := by
        have := runL_le spc t (k + w.length) kw
        omega
      show (if k < t.length then _ else _) = _
      rw [if_pos kl, hs]
      show (if isBad s = true then _ else (s, k) :: symsL n t (runL spc t (k + w.length))) = _
      rw [nb, if_neg (by decide), r1, syms_pieces r n t _ d2 l2 (by rw [List.length_cons] at hn; omega) hg]
      rfl
theorem good_len : ∀ {ps : List Pc}, GoodP ps → ps.length ≤ (textP ps).length
  | _, .nil => Nat.le_refl _
  | _, .cons (s := s) (w := w) (n := n) (r := r) tok _ h => by
    have := good_len h
    have := List.length_pos_iff.mpr tok.2.1
    show r.length + 1 ≤ (w ++ (List.replicate n 32 ++ textP r)).length
    rw [List.length_append, List.length_append]
    omega
theorem syms_text {ps : List Pc} (h : GoodP ps) (ns : NoSp (textP ps)) : symsOf (textP ps) = idxP (textP ps).length 0 ps := by
  have r0 : runL spc (textP ps) 0 = 0 := sp_run (n := 0) (by rw [List.drop_zero]; rfl) ns
  unfold symsOf
  rw [r0]
  exact syms_pieces ps _ _ 0 List.drop_zero (Nat.zero_le _) (good_len h) h
/-! the words -/
theorem head_at {t w u : List Nat} {c : Nat} {k : Nat} (h : t.drop k = c :: w ++ u) (hk : k < t.length) : t[k] = c := by
  rw [List.drop_eq_getElem_cons hk] at h
  exact (List.cons.inj h).1
theorem tok_sign {c : Nat} (hc : c = 43 ∨ c = 45 ∨ c = 42) (u : List Nat) : TokOk (.sign c) [c] u := by
  refine ⟨rfl, by simp, fun t k h hk => ?_⟩
  rw [symP_at hk, head_at h hk]
  unfold symC
  have d : dig c = false := by rcases hc with rfl | rfl | rfl <;> decide
  have l : lowc c = false := by rcases hc with rfl | rfl | rfl <;> decide
  rw [d, l, if_neg (by decide), if_neg (by decide), if_pos hc]
  rfl
theorem tok_le (u : List Nat) : TokOk (.rel [60, 61]) [60, 61] u := by
  refine ⟨rfl, by simp, fun t k h hk => ?_⟩
  rw [symP_at hk, head_at h hk]
  have m : mid t k (k + 2) = [60, 61] := mid_tok h
  unfold symC
  rw [m]
  rfl
theorem all_numC {n d : Int} (hn : 0 ≤ n) : (txtL n d).all numC = true := by
  have dg : ∀ m : Nat, (TL.numL m).all numC = true := fun m => by
    rw [List.all_eq_true]
    intro c hc
    have := List.all_eq_true.mp (all_dig.mpr (TL.numL_digits m)) c hc
    unfold numC
    rw [this]
    rfl
  unfold txtL
  rw [if_neg (by omega), List.nil_append, List.all_append, dg, Bool.true_and]
  split
  · rfl
  · rw [List.all_cons, dg]
    rfl
theorem txt_head {n d : Int} (hn : 0 ≤ n) : ∃ c r, txtL n d = c :: r ∧ dig c = true := by
  unfold txtL
  rw [if_neg (by omega), List.nil_append]
  have h := isD_num n.natAbs
  cases e : TL.numL n.natAbs with
  | nil => exact absurd e (TL.numL_ne _)
  | cons c r =>
    refine ⟨c, _, rfl, ?_⟩
    have := all_dig.mpr (TL.numL_digits n.natAbs)
    rw [e, List.all_cons, Bool.and_eq_true] at this
    exact this.1
theorem tok_num {f : FR} (hf : Nf f) (hn : 0 ≤ f.1) (l1 : (TL.numL f.1.natAbs).length ≤ 30) (l2 : (TL.numL f.2.natAbs).length ≤ 30) {u : List Nat} (hu : ∀ c r, u = c :: r → numC c = false) : TokOk (.num f) (txtL f.1 f.2) u := by
  obtain ⟨c, r, e, dc⟩ := txt_head (d := f.2) hn
  refine ⟨rfl, by rw [e]; simp, fun t k h hk => ?_⟩
  have h1 : t[k] = c := by
    rw [e] at h
    exact head_at h hk
  have r1 := run_tok h (all_numC hn) hu
  have m1 := mid_tok h
  obtain ⟨c1, c2, c3⟩ := cut_pos hf.1 hn
  rw [symP_at hk, h1]
  unfold symC
  rw [dc, if_pos rfl]
  unfold numP
  rw [r1]
  dsimp only
  rw [m1]
  have no : ¬(30 < (cutL (txtL f.1 f.2)).1.length ∨ 30 < (cutL (txtL f.1 f.2)).2.2.length) := by
    rw [c1]
    by_cases o : f.2 = 1
    · have : (cutL (txtL f.1 f.2)).2.2 = [] := cut_no _ (by rw [c2]; exact decide_eq_false (fun z => z o))
      rw [this]
      show ¬(_ ∨ 30 < 0)
      omega
    · rw [c3 o]
      omega
  rw [if_neg no, prog_txt f.1 f.2 hf.1 hf.2]
/-- a name, with its sign or without -/
def NameL (x : List Nat) : Prop := ∃ y, LW y ∧ (x = y ∨ x = y ++ [39])
theorem tok_name {x u : List Nat} (hx : NameL x) (hu : ∃ r, u = 32 :: r) : TokOk (.name x) x u := by
  obtain ⟨y, hy, hxy⟩ := hx
  obtain ⟨r, rfl⟩ := hu
  obtain ⟨c, q, rfl⟩ : ∃ c q, y = c :: q := by
    cases y with
    | nil => exact absurd rfl hy.1
    | cons c q => exact ⟨c, q, rfl⟩
  have lc : lowc c = true := by
    have := hy.2.2
    rw [List.all_cons, Bool.and_eq_true] at this
    exact this.1
  have dc : dig c = false := by
    unfold lowc at lc
    unfold dig
    rw [Bool.and_eq_true, decide_eq_true_eq, decide_eq_true_eq] at lc
    rw [Bool.and_eq_false_iff, decide_eq_false_iff_not, decide_eq_false_iff_not]
    omega
  have yl := hy.2.1
  refine ⟨rfl, by rcases hxy with rfl | rfl <;> simp, fun t k h hk => ?_⟩
  rw [symP_at hk]
  rcases hxy with rfl | rfl
  · rw [head_at h hk]
    unfold symC
    rw [dc, lc, if_neg (by decide), if_pos rfl]
    have r1 := run_tok (p := lowc) h hy.2.2 (fun d s e => by rw [← (List.cons.inj e).1]; decide)
    have d1 := drop_add h
    have m1 : mid t (k + (c :: q).length) (k + (c :: q).length + 1) = [32] := mid_tok (w := [32]) d1
    unfold nameP
    rw [r1, if_neg (by omega), m1, if_neg (by decide), mid_tok h]
  · have h2 : t.drop k = (c :: q) ++ (39 :: 32 :: r) := by rw [h]; simp
    rw [head_at h2 hk]
    unfold symC
    rw [dc, lc, if_neg (by decide), if_pos rfl]
    have r1 := run_tok (p := lowc) h2 hy.2.2 (fun d s e => by rw [← (List.cons.inj e).1]; decide)
    have d1 := drop_add h2
    have m1 : mid t (k + (c :: q).length) (k + (c :: q).length + 1) = [39] := mid_tok (w := [39]) d1
    have m2 := mid_tok h
    have l2 : ((c :: q) ++ [39]).length = (c :: q).length + 1 := by rw [List.length_append]; rfl
    unfold nameP
    rw [r1, if_neg (by omega), m1, if_pos rfl]
    rw [l2, ← Nat.add_assoc] at m2
    rw [m2, l2, ← Nat.add_assoc]
/-! ### the text of a tie, piece by piece -/
def wordP (c : Int) (x : List Nat) : List Pc := if c.natAbs = 1 then [(.name x, x, 1)] else [(.num ((c.natAbs : Int), 1), txtL (c.natAbs : Int) 1, 0), (.sign 42, [42], 0), (.name x, x, 1)]
def firstP (c : Int) (x : List Nat) : List Pc := (if c < 0 then [(.sign 45, [45], 0)] else []) ++ wordP c x
def nextP (c : Int) (x : List Nat) : List Pc := (if c < 0 then (.sign 45, [45], 1) else (.sign 43, [43], 1)) :: wordP c x
def endP (b : FR) : List Pc := (.rel [60, 61], [60, 61], 1) :: ((if b.1 < 0 then [(.sign 45, [45], 0)] else []) ++ [(.num ((b.1.natAbs : Int), b.2), txtL (b.1.natAbs : Int) b.2, 0)])
abbrev Cf := List Nat × Int
def tieQ (u : Cf) (r : List Cf) (b : FR) : List Pc := firstP u.2 u.1 ++ (r.flatMap (fun v => nextP v.2 v.1) ++ endP b)
theorem textP_app : ∀ a b : List Pc, textP (a ++ b) = textP a ++ textP b
  | [], _ => rfl
  | (s, w, n) :: a, b => by
    show w ++ (List.replicate n 32 ++ textP (a ++ b)) = w ++ (List.replicate n 32 ++ textP a) ++ textP b
    rw [textP_app a b, List.append_assoc, List.append_assoc]
theorem natAbs_int (c : Int) : ((c.natAbs : Nat) : Int).natAbs = c.natAbs := Int.natAbs_natCast _
theorem txt_abs (n d : Int) : txtL n d = (if n < 0 then [45] else []) ++ txtL (n.natAbs : Int) d := by
  unfold txtL
  rw [natAbs_int, if_neg (show ¬ ((n.natAbs : Nat) : Int) < 0 by omega), List.nil_append]
theorem text_word (c : Int) (x : List Nat) : textP (wordP c x) = (if c.natAbs = 1 then x else txtL (c.natAbs : Int) 1 ++ 42 :: x) ++ [32] := by
  unfold wordP
  split
  · rfl
  · show txtL _ _ ++ ([] ++ ([42] ++ ([] ++ (x ++ [32])))) = _
    simp
theorem text_first {c : Int} (hc : c ≠ 0) (x : List Nat) : textP (firstP c x) = tmL x (c, 1) ++ [32] := by
  unfold firstP tmL
  rw [textP_app, text_word, ← List.append_assoc]
  congr 1
  by_cases h1 : c = 1
  · subst h1
    rfl
  · by_cases h2 : c = -1
    · subst h2
      rfl
    · rw [if_neg (fun z => h1 (congrArg Prod.fst z)), if_neg (fun z => h2 (congrArg Prod.fst z)), if_neg (show ¬ c.natAbs = 1 by omega), txt_abs c 1]
      split <;> simp [textP]
theorem text_next {c : Int} (hc : c ≠ 0) (acc x : List Nat) : acc ++ 32 :: textP (nextP c x) = stepT acc (x, (c, 1)) ++ [32] := by
  unfold nextP stepT
  have w : ∀ m : Int, 0 < m → m.natAbs = c.natAbs → tmL x (m, 1) = if c.natAbs = 1 then x else txtL (c.natAbs : Int) 1 ++ 42 :: x := fun m hm e => by
    unfold tmL
    by_cases h1 : m = 1
    · subst h1
      rw [if_pos rfl, if_pos (by rw [← e]; rfl)]
    · rw [if_neg (fun z => h1 (congrArg Prod.fst z)), if_neg (fun z => by have := congrArg Prod.fst z; simp only at this; omega), if_neg (by omega), show m = (c.natAbs : Int) by omega]
  by_cases h : c < 0
  · rw [if_pos h, if_pos h, w (-c) (by omega) (by omega)]
    show acc ++ 32 :: ([45] ++ ([32] ++ textP (wordP c x))) = _
    rw [text_word]
    simp
  · rw [if_neg h, if_neg h, w c (by omega) rfl]
    show acc ++ 32 :: ([43] ++ ([32] ++ textP (wordP c x))) = _
    rw [text_word]
    simp
theorem text_end (b : FR) : textP (endP b) = [60, 61, 32] ++ txtL b.1 b.2 := by
  unfold endP
  rw [txt_abs b.1 b.2]
  show [60, 61] ++ ([32] ++ textP _) = _
  rw [textP_app]
  split <;> simp [textP]
def rateL (tl : List Cf) : List It := tl.map fun u => (u.1, (u.2, 1))
theorem text_tie {u : Cf} (hu : u.2 ≠ 0) {r : List Cf} (hr : ∀ v ∈ r, v.2 ≠ 0) (b : FR) : textP (tieQ u r b) = tsL (rateL (u :: r)) ++ [32, 60, 61, 32] ++ txtL b.1 b.2 := by
  have go : ∀ (r : List Cf) (acc : List Nat), (∀ v ∈ r, v.2 ≠ 0) → (acc ++ [32]) ++ textP (r.flatMap fun v => nextP v.2 v.1) = (rateL r).foldl stepT acc ++ [32] := fun r => by
    induction r with
    | nil => intro acc _; simp [textP, rateL]
    | cons v r ih =>
      intro acc h
      have hv := h v List.mem_cons_self
      rw [List.flatMap_cons, textP_app]
      have e := text_next hv acc v.1
      have e2 : acc ++ [32] ++ (textP (nextP v.2 v.1) ++ textP (r.flatMap fun v => nextP v.2 v.1)) = (acc ++ 32 :: textP (nextP v.2 v.1)) ++ textP (r.flatMap fun v => nextP v.2 v.1) := by simp
      rw [e2, e, ih _ fun w hw => h w (List.mem_cons_of_mem _ hw)]
      rfl
  unfold tieQ
  rw [textP_app, textP_app, text_first hu, ← List.append_assoc, go r _ hr, text_end]
  show (rateL r).foldl stepT (tmL u.1 (u.2, 1)) ++ [32] ++ ([60, 61, 32] ++ txtL b.1 b.2) = (rateL r).foldl stepT (tmL u.1 (u.2, 1)) ++ [32, 60, 61, 32] ++ txtL b.1 b.2
  simp
/-! they read well -/
theorem NameL.nosp {x u : List Nat} (h : NameL x) : NoSp (x ++ u) := by
  obtain ⟨y, hy, hxy⟩ := h
  intro c r e
  obtain ⟨d, q, rfl⟩ : ∃ d q, y = d :: q := by
    cases y with
    | nil => exact absurd rfl hy.1
    | cons c q => exact ⟨c, q, rfl⟩
  have ld : lowc d = true := by
    have := hy.2.2
    rw [List.all_cons, Bool.and_eq_true] at this
    exact this.1
  have : d = c := by rcases hxy with rfl | rfl <;> exact (List.cons.inj e).1
  rw [← this]
  rintro rfl
  exact absurd ld (by decide)
theorem txt_nosp {n d : Int} (hn : 0 ≤ n) (u : List Nat) : NoSp (txtL n d ++ u) := by
  obtain ⟨c, r, e, dc⟩ := txt_head (d := d) hn
  rw [e]
  intro c' r' z
  rw [← (List.cons.inj z).1]
  rintro rfl
  exact absurd dc (by decide)
def CfOk (u : Cf) : Prop := NameL u.1 ∧ u.2 ≠ 0 ∧ (TL.numL u.2.natAbs).length ≤ 30
theorem num_one : (TL.numL (1 : Int).natAbs).length ≤ 30 := by
  have : TL.numL 1 = [49] := TL.numL_lt (by decide)
  show (TL.numL 1).length ≤ 30
  rw [this]
  decide
theorem nf_one (n : Int) : Nf (n, 1) := ⟨Int.zero_lt_one, by show Int.gcd n 1 = 1; exact Int.gcd_one_right n⟩
theorem good_word {u : Cf} (h : CfOk u) {r : List Pc} (hr : GoodP r) (ns : NoSp (textP r)) : GoodP (wordP u.2 u.1 ++ r) ∧ NoSp (textP (wordP u.2 u.1 ++ r)) := by
  have nm : GoodP ((.name u.1, u.1, 1) :: r) := .cons (tok_name h.1 ⟨_, rfl⟩) ns hr
  have n1 : NoSp (textP ((.name u.1, u.1, 1) :: r)) := h.1.nosp
  unfold wordP
  split
  · exact ⟨nm, n1⟩
  · have g2 : GoodP ((.sign 42, [42], 0) :: (.name u.1, u.1, 1) :: r) := .cons (tok_sign (.inr (.inr rfl)) _) n1 nm
    refine ⟨.cons (tok_num (f := ((u.2.natAbs : Int), 1)) (nf_one _) (by show (0 : Int) ≤ (u.2.natAbs : Int); omega) (by show (TL.numL ((u.2.natAbs : Int)).natAbs).length ≤ 30; rw [natAbs_int]; exact h.2.2) num_one (fun c r e => ?_)) (fun c r e => ?_) g2, txt_nosp (by omega) _⟩
    · rw [← (List.cons.inj e).1]
      decide
    · rw [← (List.cons.inj e).1]
      decide
theorem good_end {b : FR} (hb : Nf b) (l1 : (TL.numL b.1.natAbs).length ≤ 30) (l2 : (TL.numL b.2.natAbs).length ≤ 30) : GoodP (endP b) ∧ NoSp (textP (endP b)) := by
  have nf : Nf ((b.1.natAbs : Int), b.2) := ⟨hb.1, by
    have := hb.2
    show Int.gcd ((b.1.natAbs : Nat) : Int) b.2 = 1
    unfold Int.gcd at *
    rw [natAbs_int]
    exact this⟩
  have g1 : GoodP [(.num ((b.1.natAbs : Int), b.2), txtL (b.1.natAbs : Int) b.2, 0)] := .cons (tok_num (f := ((b.1.natAbs : Int), b.2)) nf (by show (0 : Int) ≤ (b.1.natAbs : Int); omega) (by show (TL.numL ((b.1.natAbs : Int)).natAbs).length ≤ 30; rw [natAbs_int]; exact l1) l2 (fun c r e => by cases e)) (fun c r e => by cases e) .nil
  have n1 : NoSp (textP [(.num ((b.1.natAbs : Int), b.2), txtL (b.1.natAbs : Int) b.2, 0)]) := txt_nosp (by omega) _
  unfold endP
  refine ⟨.cons (tok_le _) ?_ ?_, fun c r e => by rw [← (List.cons.inj e).1]; decide⟩
  · split
    · intro c r e
      rw [← (List.cons.inj e).1]
      decide
    · exact n1
  · split
    · exact .cons (tok_sign (.inr (.inl rfl)) _) n1 g1
    · exact g1
theorem good_tie {u : Cf} (hu : CfOk u) {r : List Cf} (hr : ∀ v ∈ r, CfOk v) {b : FR} (hb : Nf b) (l1 : (TL.numL b.1.natAbs).length ≤ 30) (l2 : (TL.numL b.2.natAbs).length ≤ 30) : GoodP (tieQ u r b) ∧ NoSp (textP (tieQ u r b)) := by
  have go : ∀ r : List Cf, (∀ v ∈ r, CfOk v) → GoodP (r.flatMap (fun v => nextP v.2 v.1) ++ endP b) ∧ NoSp (textP (r.flatMap (fun v => nextP v.2 v.1) ++ endP b)) := fun r => by
    induction r with
    | nil => exact fun _ => good_end hb l1 l2
    | cons v r ih =>
      intro h
      obtain ⟨g, n⟩ := ih fun w hw => h w (List.mem_cons_of_mem _ hw)
      obtain ⟨g2, n2⟩ := good_word (h v List.mem_cons_self) g n
      rw [List.flatMap_cons, List.append_assoc]
      unfold nextP
      split
      · exact ⟨.cons (tok_sign (.inr (.inl rfl)) _) n2 g2, fun c r e => by rw [← (List.cons.inj e).1]; decide⟩
      · exact ⟨.cons (tok_sign (.inl rfl) _) n2 g2, fun c r e => by rw [← (List.cons.inj e).1]; decide⟩
  obtain ⟨g, n⟩ := go r hr
  obtain ⟨g2, n2⟩ := good_word hu g n
  unfold tieQ firstP
  split
  · exact ⟨.cons (tok_sign (.inr (.inl rfl)) _) n2 g2, fun c r e => by rw [← (List.cons.inj e).1]; decide⟩
  · exact ⟨g2, n2⟩
/-! and as they were meant -/
def vC (c : Int) : FR := sgn (if c < 0 then -1 else 1) (if c.natAbs = 1 then (1, 1) else ((c.natAbs : Int), 1))
theorem vC_eq (c : Int) (hc : c ≠ 0) : vC c = (c, 1) := by
  unfold vC sgn
  by_cases h : c < 0
  · rw [if_pos h]
    split
    · refine Prod.ext ?_ rfl
      show (-1 : Int) * 1 = c
      omega
    · refine Prod.ext ?_ rfl
      show (-1 : Int) * (c.natAbs : Int) = c
      omega
  · rw [if_neg h]
    split
    · refine Prod.ext ?_ rfl
      show (1 : Int) * 1 = c
      omega
    · refine Prod.ext ?_ rfl
      show (1 : Int) * (c.natAbs : Int) = c
      omega
def vB (b : FR) : FR := sgn (if b.1 < 0 then -1 else 1) ((b.1.natAbs : Int), b.2)
theorem vB_eq (b : FR) : vB b = b := by
  unfold vB sgn
  by_cases h : b.1 < 0
  · rw [if_pos h]
    refine Prod.ext ?_ rfl
    show (-1 : Int) * (b.1.natAbs : Int) = b.1
    omega
  · rw [if_neg h]
    refine Prod.ext ?_ rfl
    show (1 : Int) * (b.1.natAbs : Int) = b.1
    omega
theorem parse_one (N : Nat) (u : Cf) (hu : u.2 ≠ 0) (b : FR) : parseP (idxP N 0 (tieQ u [] b)) = .ok ([(u.1, (u.2, 1))], [60, 61], [([], b)]) := by
  rw [← vC_eq u.2 hu]
  conv => rhs; rw [← vB_eq b]
  obtain ⟨x, c⟩ := u
  unfold tieQ firstP wordP endP vC vB
  dsimp only
  by_cases h1 : c < 0 <;> by_cases h2 : c.natAbs = 1 <;> by_cases h3 : b.1 < 0 <;> simp only [h1, h2, h3, if_true, if_false] <;> rfl
theorem parse_two (N : Nat) (u v : Cf) (hu : u.2 ≠ 0) (hv : v.2 ≠ 0) (b : FR) : parseP (idxP N 0 (tieQ u [v] b)) = .ok ([(u.1, (u.2, 1)), (v.1, (v.2, 1))], [60, 61], [([], b)]) := by
  rw [← vC_eq u.2 hu, ← vC_eq v.2 hv]
  conv => rhs; rw [← vB_eq b]
  obtain ⟨x, c⟩ := u
  obtain ⟨y, d⟩ := v
  unfold tieQ
  rw [List.flatMap_cons, List.flatMap_nil]
  unfold firstP nextP wordP endP vC vB
  dsimp only
  by_cases h1 : c < 0 <;> by_cases h2 : c.natAbs = 1 <;> by_cases h3 : b.1 < 0 <;> by_cases h4 : d < 0 <;> by_cases h5 : d.natAbs = 1 <;> simp only [h1, h2, h3, h4, h5, if_true, if_false] <;> rfl
/-! ### how great the numbers of a drawn text can be -/
def RB (t : List Nat) : Prop := ∀ k, k ≤ t.length → runL numC t k ≤ k + 3
def SmallN (f : FR) : Prop := 0 ≤ f.1 ∧ f.1 ≤ 999 ∧ 0 < f.2 ∧ f.2 ≤ 9 ∧ Int.gcd f.1 f.2 = 1
theorem num_below (n m : Nat) (h : (TL.numL n).length ≤ m) : n < 10 ^ m := by
  have a : NumText.AllDigits (TL.numL n) := (isD_iff.mp (isD_num n)).2
  have v := val_lt a
  have e : NumText.digitsVal (TL.numL n) = n := TL.numL_val n
  rw [e] at v
  exact Nat.lt_of_lt_of_le v (Nat.pow_le_pow_right (by decide) h)
theorem small_of {w : List Nat} {f : FR} (h : progR w = some f) (hn : 0 ≤ f.1) (hl : w.length ≤ 3) : SmallN f := by
  obtain ⟨e, hd, hg⟩ := prog_some h
  rw [e] at hl
  unfold txtL at hl
  rw [if_neg (by omega), List.nil_append, List.length_append] at hl
  have p1 : 0 < (TL.numL f.1.natAbs).length := List.length_pos_iff.mpr (TL.numL_ne _)
  have p2 : 0 < (TL.numL f.2.natAbs).length := List.length_pos_iff.mpr (TL.numL_ne _)
  by_cases o : f.2 = 1
  · have := num_below f.1.natAbs 3 (by omega)
    have : (10 : Nat) ^ 3 = 1000 := by decide
    exact ⟨hn, by omega, hd, by omega, hg⟩
  · rw [if_neg o, List.length_cons] at hl
    have a := num_below f.1.natAbs 1 (by omega)
    have b := num_below f.2.natAbs 1 (by omega)
    exact ⟨hn, by omega, hd, by omega, hg⟩
theorem symP_kind (t : List Nat) {k : Nat} (h : k < t.length) (hb : isBad (symP t k).1 = false) : (∀ x, (symP t k).1 = .name x → NameL x) ∧ (RB t → ∀ f, (symP t k).1 = .num f → SmallN f) := by
  have nn := (symP_ok t h hb).2.1
  have e := symP_at h
  generalize hr : symP t k = r at *
  have e := e.symm
  clear hr
  unfold symC at e
  split at e
  · rename_i h1
    unfold numP at e
    dsimp only at e
    split at e
    · subst e
      cases hb
    · split at e
      · subst e
        cases hb
      · rename_i f hf
        subst e
        refine ⟨(fun x z => by cases z), fun rb g z => ?_⟩
        injection z with z
        subst z
        refine small_of hf nn.2 ?_
        have := rb k (by omega)
        have e2 := runL_le numC t k (by omega)
        rw [mid_len t (runL_ge _ _ _) e2]
        omega
  · split at e
    · rename_i h2
      have rl : ∀ j, runL lowc t k ≤ j → (mid t k (runL lowc t k)).all lowc = true := fun j _ => by
        unfold mid runL
        rw [show k + ((t.drop k).takeWhile lowc).length - k = ((t.drop k).takeWhile lowc).length by omega]
        have : (t.drop k).take ((t.drop k).takeWhile lowc).length = (t.drop k).takeWhile lowc := by
          conv => lhs; arg 2; rw [← List.takeWhile_append_dropWhile (p := lowc) (l := t.drop k)]
          rw [List.take_left]
        rw [this]
        exact List.all_takeWhile
      have e1 : k < runL lowc t k := by
        rw [runL_step h h2]
        exact runL_ge _ _ _
      have e2 := runL_le lowc t k (by omega)
      have ml := mid_len t (i := k) (j := runL lowc t k) (by omega) e2
      unfold nameP at e
      split at e
      · subst e
        cases hb
      · rename_i n6
        have lw : LW (mid t k (runL lowc t k)) := ⟨fun z => by rw [z] at ml; have : ([] : List Nat).length = 0 := rfl; omega, by omega, rl _ (Nat.le_refl _)⟩
        split at e
        · rename_i m39
          subst e
          refine ⟨fun x z => ?_, fun _ f z => by cases z⟩
          injection z with z
          refine ⟨_, lw, .inr ?_⟩
          rw [← z, ← m39]
          unfold mid
          have : t.drop (runL lowc t k) = (t.drop k).drop (runL lowc t k - k) := by rw [List.drop_drop]; congr 1; omega
          rw [this, show runL lowc t k + 1 - k = (runL lowc t k - k) + 1 by omega, show runL lowc t k + 1 - runL lowc t k = 1 by omega]
          rw [List.take_add]
        · subst e
          refine ⟨fun x z => ?_, fun _ f z => by cases z⟩
          injection z with z
          exact ⟨_, lw, .inl z.symm⟩
    · split at e
      · subst e
        exact ⟨(fun x z => by cases z), (fun _ f z => by cases z)⟩
      · split at e
        · subst e
          exact ⟨(fun x z => by cases z), (fun _ f z => by cases z)⟩
        · split at e
          · subst e
            exact ⟨(fun x z => by cases z), (fun _ f z => by cases z)⟩
          · subst e
            cases hb
theorem syms_kind (t : List Nat) : ∀ (n k : Nat), k ≤ t.length → ∀ e ∈ symsL n t k, (∀ x, e.1 = .name x → NameL x) ∧ (RB t → ∀ f, e.1 = .num f → SmallN f)
  | 0, k, h, e, he => by
    rw [List.mem_singleton.mp he]
    exact ⟨(fun x z => by cases z), (fun _ f z => by cases z)⟩
  | n + 1, k, h, e, he => by
    unfold symsL at he
    split at he
    · rename_i hk
      split at he
      · rw [List.mem_singleton.mp he]
        exact ⟨(fun x z => by cases z), (fun _ f z => by cases z)⟩
      · rename_i nb
        have nb := Bool.eq_false_iff.mpr nb
        rcases List.mem_cons.mp he with rfl | he
        · exact symP_kind t hk nb
        · exact syms_kind t n _ (runL_le spc t _ (sym_le t hk).1) e he
    · rw [List.mem_singleton.mp he]
      exact ⟨(fun x z => by cases z), (fun _ f z => by cases z)⟩
/-- where the items of a sum come from -/
def FromS (S : List (Sy × Nat)) (it : It) : Prop := (it.1 = [] ∨ ∃ e ∈ S, e.1 = .name it.1) ∧ ∃ (f : FR) (s : Int), (s = 1 ∨ s = -1) ∧ it.2 = sgn s f ∧ (f = (1, 1) ∨ ∃ e ∈ S, e.1 = .num f)
theorem from_term {S : List (Sy × Nat)} (wf : WF S) {k k' : Nat} {x : List Nat} {f : FR} (hk : k < S.length) (e : termP S k = .ok (x, f, k')) {s : Int} (hs : s = 1 ∨ s = -1) : FromS S (x, sgn s f) := by
  cases term_cases wf hk with
  | nm y i h e2 =>
    rw [e] at e2
    cases e2
    exact ⟨.inr ⟨_, List.mem_of_getElem? h, rfl⟩, _, s, hs, rfl, .inl rfl⟩
  | nu g i s1 i1 h h1 n e2 =>
    rw [e] at e2
    cases e2
    exact ⟨.inl rfl, _, s, hs, rfl, .inr ⟨_, List.mem_of_getElem? h, rfl⟩⟩
  | ti g i i1 y i2 h h1 h2 e2 =>
    rw [e] at e2
    cases e2
    exact ⟨.inr ⟨_, List.mem_of_getElem? h2, rfl⟩, _, s, hs, rfl, .inr ⟨_, List.mem_of_getElem? h, rfl⟩⟩
  | te g i i1 s2 i2 h h1 h2 n e2 =>
    rw [e] at e2
    cases e2
  | er g i h n u e2 =>
    rw [e] at e2
    cases e2
theorem from_sum {S : List (Sy × Nat)} {w c : Nat} (hS : SyL S w c) : ∀ (n k : Nat) (s : Int) (l : List It) (k2 : Nat), (s = 1 ∨ s = -1) → k < S.length → sumP n S k s = .ok (l, k2) → ∀ it ∈ l, FromS S it
  | 0, _, _, _, _, _, _, h => by cases h
  | n + 1, k, s, l, k2, hs, hk, h => by
    have wf := hS.wf
    unfold sumP at h
    split at h
    · cases h
    · rename_i x f k1 e
      obtain ⟨_, lk, ll, _, _⟩ := termP_ok hS e
      obtain ⟨⟨s1, i1⟩, hs1⟩ : ∃ si, S[k1]? = some si := ⟨_, List.getElem?_eq_getElem ll⟩
      have n1 := from_term wf hk e hs
      have stop : (Except.ok ([(x, sgn s f)], k1) : Except Nat (List It × Nat)) = .ok (l, k2) → ∀ it ∈ l, FromS S it := fun z => by
        cases z
        intro it hit
        rw [List.mem_singleton.mp hit]
        exact n1
      rw [hs1] at h
      cases s1 with
      | sign cc =>
        dsimp only at h
        by_cases hcc : cc = 43 ∨ cc = 45
        · rw [if_pos hcc] at h
          have l1 := wf k1 _ _ hs1 rfl (fun z q => by subst q; intro q2; cases q2)
          split at h
          · cases h
          · rename_i l2 k3 e2
            cases h
            intro it hit
            rcases List.mem_cons.mp hit with rfl | hit
            · exact n1
            · exact from_sum hS n (k1 + 1) _ l2 k2 (by split <;> simp) l1 e2 it hit
        · rw [if_neg hcc] at h
          exact stop h
      | num g => exact stop h
      | name y => exact stop h
      | rel y => exact stop h
      | fin => exact stop h
      | bad => exact stop h
theorem from_head {S : List (Sy × Nat)} {w c : Nat} (hS : SyL S w c) {k k2 : Nat} {l : List It} (hk : k < S.length) (h : headP S k = .ok (l, k2)) : ∀ it ∈ l, FromS S it := by
  obtain ⟨⟨s, i⟩, hs⟩ : ∃ si, S[k]? = some si := ⟨_, List.getElem?_eq_getElem hk⟩
  cases g : isSg 45 s with
  | false =>
    rw [headP_else hs g] at h
    exact from_sum hS _ k 1 l k2 (.inl rfl) hk h
  | true =>
    obtain rfl : s = .sign 45 := by
      cases s with
      | sign c => rw [show c = 45 from of_decide_eq_true g]
      | _ => cases g
    have l2 := hS.wf k _ _ hs rfl (fun z e => by subst e; intro z; cases z)
    rw [headP_dash hs] at h
    exact from_sum hS _ (k + 1) (-1) l k2 (.inr rfl) l2 h
/-! fractions whose denominators divide 2520 -/
def IB (m : Nat) (f : FR) : Prop := Nf f ∧ ∃ z : Int, z * f.2 = 2520 * f.1 ∧ z.natAbs ≤ m
theorem IB.mono {m n : Nat} {f : FR} (h : IB m f) (k : m ≤ n) : IB n f := by
  obtain ⟨a, z, b, c⟩ := h
  exact ⟨a, z, b, Nat.le_trans c k⟩
theorem IB.neg {m : Nat} {f : FR} (h : IB m f) : IB m (negF f) := by
  obtain ⟨a, z, b, c⟩ := h
  refine ⟨a.neg, -z, ?_, by rw [Int.natAbs_neg]; exact c⟩
  show -z * f.2 = 2520 * -f.1
  rw [Int.neg_mul, Int.mul_neg, b]
theorem ib_zero : IB 0 (0, 1) := ⟨nf_01, 0, by decide, Nat.le_refl _⟩
theorem IB.add {m n : Nat} {f g : FR} (h : IB m f) (k : IB n g) : IB (m + n) (addL f g) := by
  obtain ⟨a, z, b, c⟩ := h
  obtain ⟨a', z', b', c'⟩ := k
  refine ⟨addL_nf a.1 a'.1, z + z', ?_, by omega⟩
  have nz : f.2 * g.2 ≠ 0 := Int.mul_ne_zero (by have := a.1; omega) (by have := a'.1; omega)
  have e : (addL f g).1 * (f.2 * g.2) = (f.1 * g.2 + g.1 * f.2) * (addL f g).2 := lowT_self nz
  generalize (addL f g).1 = N at *
  generalize (addL f g).2 = D at *
  refine Int.eq_of_mul_eq_mul_right nz ?_
  calc (z + z') * D * (f.2 * g.2) = ((z * f.2) * g.2 + (z' * g.2) * f.2) * D := by
        rw [Int.add_mul, Int.add_mul, Int.add_mul]
        congr 1
        · simp only [Int.mul_assoc, Int.mul_left_comm, Int.mul_comm]
        · simp only [Int.mul_assoc, Int.mul_left_comm, Int.mul_comm]
    _ = (2520 * f.1 * g.2 + 2520 * g.1 * f.2) * D := by rw [b, b']
    _ = 2520 * ((f.1 * g.2 + g.1 * f.2) * D) := by
        rw [Int.mul_assoc 2520 f.1, Int.mul_assoc 2520 g.1, ← Int.mul_add, Int.mul_assoc]
    _ = 2520 * (N * (f.2 * g.2)) := by rw [e]
    _ = 2520 * N * (f.2 * g.2) := by rw [Int.mul_assoc]
theorem sub_addN (f g : FR) : subL f g = addL f (negF g) := by
  unfold subL addL negF
  dsimp only
  rw [Int.neg_mul, Int.sub_eq_add_neg]
theorem ib_sum (x : List Nat) (c : Nat) : ∀ (l : List It) (acc : FR) (m : Nat), IB m acc → (∀ it ∈ l, IB c it.2) → IB (m + c * l.length) (sumX x acc l)
  | [], _, _, h, _ => h
  | it :: l, acc, m, h, hl => by
    have hl' := fun i hi => hl i (List.mem_cons_of_mem it hi)
    show IB _ (sumX x (if it.1 = x then addL acc it.2 else acc) l)
    rw [List.length_cons, Nat.mul_succ, Nat.add_comm (c * l.length), ← Nat.add_assoc]
    split
    · exact ib_sum x c l _ _ (h.add (hl it List.mem_cons_self)) hl'
    · exact ib_sum x c l _ _ (h.mono (Nat.le_add_right _ _)) hl'
theorem ib_small {f : FR} (h : SmallN f) : IB 2517480 f := by
  obtain ⟨h1, h2, h3, h4, h5⟩ := h
  refine ⟨⟨h3, h5⟩, ?_⟩
  have : f.2 = 1 ∨ f.2 = 2 ∨ f.2 = 3 ∨ f.2 = 4 ∨ f.2 = 5 ∨ f.2 = 6 ∨ f.2 = 7 ∨ f.2 = 8 ∨ f.2 = 9 := by omega
  rcases this with e | e | e | e | e | e | e | e | e <;> rw [e]
  · exact ⟨2520 * f.1, by omega, by omega⟩
  · exact ⟨1260 * f.1, by omega, by omega⟩
  · exact ⟨840 * f.1, by omega, by omega⟩
  · exact ⟨630 * f.1, by omega, by omega⟩
  · exact ⟨504 * f.1, by omega, by omega⟩
  · exact ⟨420 * f.1, by omega, by omega⟩
  · exact ⟨360 * f.1, by omega, by omega⟩
  · exact ⟨315 * f.1, by omega, by omega⟩
  · exact ⟨280 * f.1, by omega, by omega⟩
theorem IB.sgn {m : Nat} {f : FR} (h : IB m f) {s : Int} (hs : s = 1 ∨ s = -1) : IB m (sgn s f) := by
  rcases hs with rfl | rfl
  · unfold T8.sgn
    rw [Int.one_mul]
    exact h
  · have : T8.sgn (-1) f = negF f := by
      unfold T8.sgn negF
      rw [Int.neg_mul, Int.one_mul]
    rw [this]
    exact h.neg
theorem IB.size {m : Nat} {f : FR} (h : IB m f) : f.1.natAbs ≤ m ∧ 0 < f.2 ∧ f.2 ≤ 2520 := by
  obtain ⟨⟨d0, g⟩, z, e, c⟩ := h
  have dv : f.2.natAbs ∣ 2520 * f.1.natAbs := by
    have : f.2 ∣ 2520 * f.1 := ⟨z, by rw [← e, Int.mul_comm]⟩
    have := Int.natAbs_dvd_natAbs.mpr this
    rw [Int.natAbs_mul] at this
    exact this
  have cp : Nat.Coprime f.2.natAbs f.1.natAbs := by
    show Nat.gcd _ _ = 1
    rw [Nat.gcd_comm]
    exact g
  have d2 := Nat.le_of_dvd (by decide) (cp.dvd_of_dvd_mul_right dv)
  refine ⟨?_, d0, by omega⟩
  have e2 : z.natAbs * f.2.natAbs = 2520 * f.1.natAbs := by
    rw [← Int.natAbs_mul, e, Int.natAbs_mul]
    rfl
  have : z.natAbs * f.2.natAbs ≤ m * 2520 := Nat.mul_le_mul c d2
  omega
/-! ### reduced ties that are small -/
def BdS (f : FR) : Prop := f.1.natAbs ≤ 110769120 ∧ 0 < f.2 ∧ f.2 ≤ 2520
theorem IB.bds {f : FR} (h : IB 110769120 f) : BdS f := h.size
theorem lcm_small {tl : List It} (hl : tl.length = 1 ∨ tl.length = 2) (h : ∀ t ∈ tl, BdS t.2) : lcmF 1 (rts tl) ≤ 6350400 := by
  have one : ∀ f : FR, (1 * f.2).fdiv (Int.gcd 1 f.2 : Nat) = f.2 := fun f => by
    rw [Int.one_mul, Int.gcd_comm, Int.gcd_one_right]
    exact Int.fdiv_one _
  match tl, hl, h with
  | [f], _, h =>
    show (1 * f.2.2).fdiv _ ≤ _
    rw [one f.2]
    have := (h f List.mem_cons_self).2.2
    omega
  | [f, g], _, h =>
    show ((((1 * f.2.2).fdiv (Int.gcd 1 f.2.2 : Nat)) * g.2.2).fdiv (Int.gcd ((1 * f.2.2).fdiv (Int.gcd 1 f.2.2 : Nat)) g.2.2 : Nat)) ≤ _
    rw [one f.2]
    have hf := (h f List.mem_cons_self).2
    have hg := (h g (List.mem_cons_of_mem _ List.mem_cons_self)).2
    have h1 := step_le hf.1 hg.1
    have h2 : f.2.2 * g.2.2 ≤ 2520 * 2520 := Int.mul_le_mul hf.2 hg.2 (by omega) (by decide)
    omega
  | [], hl, _ => simp at hl
  | _ :: _ :: _ :: _, hl, _ => simp at hl
theorem red_int {tl : List It} (h : TlOk tl) (hs : ∀ t ∈ tl, BdS t.2) {b : FR} (hb : BdS b) :
    (∀ t ∈ tl, ∃ m : Int, redF (scl (rts tl)) t.2 = (m, 1) ∧ m ≠ 0 ∧ m.natAbs < 10 ^ 15) ∧ Nf (redF (scl (rts tl)) b) ∧ (redF (scl (rts tl)) b).1.natAbs < 10 ^ 15 ∧ (redF (scl (rts tl)) b).2.natAbs < 10 ^ 19 := by
  obtain ⟨L, G, Lp, Gp, eL, eG, m, hm, _⟩ := red_facts h.rs
  have es : scl (rts tl) = lowF L G := by
    unfold scl
    rw [eL, eG]
  have Lm : L ≤ 6350400 := by
    rw [← eL]
    exact lcm_small h.1 hs
  have key : ∀ t ∈ tl, m t.2 ≠ 0 ∧ (m t.2).natAbs * G.natAbs ≤ 6350400 * 110769120 := fun t ht => by
    have e := hm t.2 (List.mem_map.mpr ⟨t, ht, rfl⟩)
    have ok := h.2 t ht
    have bs := hs t ht
    have nz : m t.2 ≠ 0 := fun z => by
      rw [z, Int.zero_mul, Int.zero_mul] at e
      rcases Int.mul_eq_zero.mp e.symm with q | q
      · omega
      · exact ok.1 q
    refine ⟨nz, ?_⟩
    have e2 : (m t.2).natAbs * G.natAbs * t.2.2.natAbs = L.natAbs * t.2.1.natAbs := by
      rw [← Int.natAbs_mul, ← Int.natAbs_mul, e, Int.natAbs_mul]
    have h1 : (m t.2).natAbs * G.natAbs ≤ (m t.2).natAbs * G.natAbs * t.2.2.natAbs := Nat.le_mul_of_pos_right _ (by have := bs.2.1; omega)
    have h2 : L.natAbs * t.2.1.natAbs ≤ 6350400 * 110769120 := Nat.mul_le_mul (by omega) bs.1
    omega
  have Gm : G.natAbs ≤ 6350400 * 110769120 := by
    obtain ⟨t, r, rfl⟩ : ∃ t r, tl = t :: r := by
      cases tl with
      | nil => have := h.1; simp at this
      | cons t r => exact ⟨t, r, rfl⟩
    obtain ⟨n0, k⟩ := key t List.mem_cons_self
    have : G.natAbs ≤ (m t.2).natAbs * G.natAbs := Nat.le_mul_of_pos_left _ (by omega)
    omega
  rw [es]
  refine ⟨fun t ht => ?_, ?_, ?_, ?_⟩
  · obtain ⟨n0, k⟩ := key t ht
    refine ⟨m t.2, redF_of Lp Gp (h.2 t ht).2.1.2 (hm t.2 (List.mem_map.mpr ⟨t, ht, rfl⟩)), n0, ?_⟩
    have : (m t.2).natAbs ≤ (m t.2).natAbs * G.natAbs := Nat.le_mul_of_pos_right _ (by omega)
    have : (10 : Nat) ^ 15 = 1000000000000000 := by decide
    omega
  · have dp := lowD_pos (u := L) (v := G) (by omega)
    exact nf_low (Int.mul_ne_zero (by have := hb.2.1; omega) (by show lowD L G ≠ 0; omega))
  all_goals
    have dp := lowD_pos (u := L) (v := G) (by omega)
    have nz : b.2 * (lowF L G).2 ≠ 0 := Int.mul_ne_zero (by have := hb.2.1; omega) (by show lowD L G ≠ 0; omega)
  · have a := lowT_abs (u := b.1 * (lowF L G).1) nz
    have c : (b.1 * (lowF L G).1).natAbs ≤ 110769120 * 6350400 := by
      rw [Int.natAbs_mul]
      have := lowT_abs (u := L) (v := G) (by omega)
      exact Nat.mul_le_mul hb.1 (by show (lowT L G).natAbs ≤ _; omega)
    have : (10 : Nat) ^ 15 = 1000000000000000 := by decide
    show (lowT (b.1 * (lowF L G).1) (b.2 * (lowF L G).2)).natAbs < _
    omega
  · have a := lowD_abs (u := b.1 * (lowF L G).1) nz
    have c : (b.2 * (lowF L G).2).natAbs ≤ 2520 * (6350400 * 110769120) := by
      rw [Int.natAbs_mul]
      have := lowD_abs (u := L) (v := G) (by omega)
      exact Nat.mul_le_mul (by have := hb.2; omega) (by show (lowD L G).natAbs ≤ _; omega)
    have : (10 : Nat) ^ 19 = 10000000000000000000 := by decide
    show (lowD (b.1 * (lowF L G).1) (b.2 * (lowF L G).2)).natAbs < _
    omega
theorem red_again {tl : List It} (h : TlOk tl) {b : FR} (hb : 0 < b.2) : redL (redL tl) = redL tl ∧ redF (scl (rts (redL tl))) (redF (scl (rts tl)) b) = redF (scl (rts tl)) b := by
  obtain ⟨_, s2, s1⟩ := scl_sm h
  obtain ⟨_, r2, r3⟩ := red_scaled h.rs s1 s2
  have e : rts (redL tl) = (rts tl).map fun f => lowF (f.1 * (scl (rts tl)).1) (f.2 * (scl (rts tl)).2) := by
    unfold rts redL
    rw [List.map_map, List.map_map]
    rfl
  have e2 : redF (scl (rts tl)) = fun f => lowF (f.1 * (scl (rts tl)).1) (f.2 * (scl (rts tl)).2) := rfl
  constructor
  · show (redL tl).map (fun t => (t.1, redF (scl (rts (redL tl))) t.2)) = redL tl
    rw [e]
    unfold redL
    rw [List.map_map]
    refine List.map_congr_left fun t ht => ?_
    exact congrArg (Prod.mk t.1) (r2 t.2 (List.mem_map.mpr ⟨t, ht, rfl⟩))
  · rw [e]
    exact r3 b hb
/-- a tie that can be written and read again -/
structure RT (u : Cf) (r : List Cf) (B : FR) : Prop where
  len : r.length ≤ 1
  nm : ∀ v ∈ u :: r, NameL v.1
  nq : ∀ v ∈ u :: r, v.2 ≠ 0
  sz : ∀ v ∈ u :: r, v.2.natAbs < 10 ^ 15
  nf : Nf B
  b1 : B.1.natAbs < 10 ^ 15
  b2 : B.2.natAbs < 10 ^ 19
  srt : (((u :: r).map (·.1)).map SX.S).Pairwise leStr
  nd : ((u :: r).map (·.1)).Nodup
  e1 : redL (rateL (u :: r)) = rateL (u :: r)
  e2 : redF (scl (rts (rateL (u :: r)))) B = B
theorem one_RT {l r : List It} (h : Two l r) (hn : ∀ x ∈ broN (keysL l) (keysL r), x = [] ∨ NameL x) (hi : ∀ it ∈ l ++ r, IB 2517480 it.2) {ns : List (List Nat)} (hns : Nms (broN (keysL l) (keysL r)) (diff (valL l) (valL r)) ns) (hl : ns.length = 1 ∨ ns.length = 2) :
    ∃ u rr B, RT u rr B ∧ oneP l r ns = tieP (rateL (u :: rr)) B := by
  have ll := h.ll
  have lr := h.lr
  have ib : ∀ x, IB 110769120 (diff (valL l) (valL r) x) := fun x => by
    have a := ib_sum x 2517480 l (0, 1) 0 ib_zero fun it hit => hi it (List.mem_append_left _ hit)
    have b := ib_sum x 2517480 r (0, 1) 0 ib_zero fun it hit => hi it (List.mem_append_right _ hit)
    have : diff (valL l) (valL r) x = addL (valL l x) (negF (valL r x)) := sub_addN _ _
    rw [this]
    exact (a.add b.neg).mono (by omega)
  obtain ⟨tlok, bok⟩ := tl_ok h hns hl
  generalize htl : tlOf (diff (valL l) (valL r)) ns = tl at tlok
  generalize hb : negF (diff (valL l) (valL r) []) = b at bok
  have hs : ∀ t ∈ tl, BdS t.2 := fun t ht => by
    rw [← htl] at ht
    obtain ⟨x, _, rfl⟩ := List.mem_map.mp ht
    exact (ib x).bds
  have hbs : BdS b := by
    rw [← hb]
    exact (ib []).neg.bds
  obtain ⟨r1, r2, r3, r4⟩ := red_int tlok hs hbs
  obtain ⟨a1, a2⟩ := red_again tlok bok.2
  have shape : ∃ cs : List Cf, redL tl = rateL cs ∧ cs.map (·.1) = ns ∧ ∀ v ∈ cs, v.2 ≠ 0 ∧ v.2.natAbs < 10 ^ 15 := by
    refine ⟨tl.map fun t => (t.1, (redF (scl (rts tl)) t.2).1), ?_, ?_, fun v hv => ?_⟩
    · unfold redL rateL
      rw [List.map_map]
      refine List.map_congr_left fun t ht => ?_
      obtain ⟨m, e, _⟩ := r1 t ht
      show (t.1, redF (scl (rts tl)) t.2) = (t.1, ((redF (scl (rts tl)) t.2).1, 1))
      rw [e]
    · rw [List.map_map, ← htl]
      unfold tlOf
      rw [List.map_map]
      exact List.map_id ns
    · obtain ⟨t, ht, rfl⟩ := List.mem_map.mp hv
      obtain ⟨m, e, n0, sm⟩ := r1 t ht
      show (redF (scl (rts tl)) t.2).1 ≠ 0 ∧ (redF (scl (rts tl)) t.2).1.natAbs < _
      rw [e]
      exact ⟨n0, sm⟩
  obtain ⟨cs, ec, en, hc⟩ := shape
  obtain ⟨u, rr, rfl⟩ : ∃ u rr, cs = u :: rr := by
    cases cs with
    | nil => rw [List.map_nil] at en; rw [← en] at hl; simp at hl
    | cons u rr => exact ⟨u, rr, rfl⟩
  have nsl := congrArg List.length en
  rw [List.length_map, List.length_cons] at nsl
  have nmem : ∀ x ∈ ns, x ∈ broN (keysL l) (keysL r) ∧ x ≠ [] := fun x hx => by
    obtain ⟨h1, h2⟩ := List.mem_filter.mp (hns.perm.mem_iff.mp hx)
    unfold nz at h2
    rw [Bool.and_eq_true, decide_eq_true_eq, decide_eq_true_eq] at h2
    exact ⟨h1, h2.1⟩
  have hv : ∀ v ∈ u :: rr, v.1 ∈ ns := fun v hv => by
    rw [← en]
    exact List.mem_map.mpr ⟨v, hv, rfl⟩
  rw [ec] at a1 a2
  refine ⟨u, rr, redF (scl (rts tl)) b, ⟨by omega, fun v h' => ((hn _ (nmem _ (hv v h')).1).resolve_left (nmem _ (hv v h')).2), fun v h' => (hc v h').1, fun v h' => (hc v h').2, r2, r3, r4, by rw [en]; exact hns.srt, ?_, a1, a2⟩, ?_⟩
  · rw [en]
    exact hns.perm.nodup_iff.mpr ((broN_nodup _ _ (keysL_nodup l)).filter _)
  · unfold oneP
    rw [htl, hb]
    show tieP (redL tl) _ = _
    rw [ec]
theorem neg_S (m : Nat) : Str.ofString (toString (Int.negSucc m)) = SX.S (45 :: TL.numL (m + 1)) := by
  refine TL.ext_tl ?_
  have h : toString (Int.negSucc m) = "-" ++ toString ((m + 1 : Nat) : Int) := rfl
  rw [h, TL.tl_ofString, String.toList_append, List.map_append, ← TL.tl_ofString, ← TL.tl_ofString, TL.tl_num]
  rfl
theorem str_int (n : Int) : Str.ofString (toString n) = SX.S (intL n) := by
  unfold intL
  match n with
  | .ofNat k =>
    have h : ¬ Int.ofNat k < 0 := by
      show ¬ (k : Int) < 0
      omega
    rw [if_neg h]
    exact SX.num_S k
  | .negSucc k =>
    rw [if_pos (Int.negSucc_lt_zero k)]
    exact neg_S k
section
variable {P : Program} {w : World} {K : PySem.W.Frag} {mg : Str → Option Value} {base : Heap} {fa : Nat → Addr} {fd : Nat → FuncData}
theorem ok_part_text (T : Txt K mg fa fd) : FnOk P w K mg base CX0 2 (fa 58) (fd 58) ["_law_one"] spRatT := by
  refine T.F_part_text.ok sc_part_text (fun vs H Q E h => ?_) (fun cdv A outer s H vs Q E hr h => ?_)
  · obtain ⟨p, n, d, rfl, _⟩ := h
    rfl
  · obtain ⟨p, n, d, rfl, hp, hd, hn, hd2, q⟩ := h
    refine ⟨_, (pss_one (ps_ret (pe_ifExp (pt_cmpR op_eq (pe_ix ix_tup (pv 0) pe_int (fun _ _ => rfl)) pe_int (nomark _)) (pe_callTy call_str_int (by rfl) T.m_str (by decide +kernel) (pa_cons (pe_ix ix_tup (pv 0) pe_int (fun _ _ => rfl)) pa_nil)) (pe_op op_add_str (pe_op op_add_str (pe_callTy call_str_int (by rfl) T.m_str (by decide +kernel) (pa_cons (pe_ix ix_tup (pv 0) pe_int (fun _ _ => rfl)) pa_nil)) pe_str) (pe_callTy call_str_int (by rfl) T.m_str (by decide +kernel) (pa_cons (pe_ix ix_tup (pv 0) pe_int (fun _ _ => rfl)) pa_nil)))))), ?_⟩
    refine ⟨_, rfl, p, _, 1, _, rfl, rfl, SqT.of hp, rfl, rfl, _, rfl, ite2 (fun e => ?_) (fun e => ?_)⟩
    · have e1 : d = 1 := V.int.inj (of_decide_eq_true e)
      refine ⟨_, rfl, p, _, 0, _, rfl, rfl, SqT.of hp, rfl, n, rfl, log_of hn, ?_⟩
      have := q H fun b u e => e
      rw [txt_int n d hd, if_pos e1] at this
      rw [str_int]
      exact this
    · have e1 : d ≠ 1 := fun z => e (decide_eq_true (by rw [z]))
      refine ⟨_, rfl, p, _, 0, _, rfl, rfl, SqT.of hp, rfl, n, rfl, log_of hn, _, _, rfl, rfl, ?_, _, rfl, p, _, 1, _, rfl, rfl, SqT.of hp, rfl, d, rfl, log_of hd2, _, _, rfl, rfl, ?_, ?_⟩
      · rw [str_int, stroke, SX.S_len, SX.S_len]
        exact small_line (by have := intL_len hn; show _ + 1 ≤ 1000; omega)
      · rw [str_int, str_int, stroke, SX.S_cat, SX.S_len, SX.S_len, List.length_append]
        exact small_line (by have := intL_len hn; have := intL_len hd2; show _ + 1 + _ ≤ 1000; omega)
      · have := q H fun b u e => e
        rw [txt_int n d hd, if_neg e1] at this
        rw [str_int, str_int, stroke, SX.S_cat, SX.S_cat, List.append_assoc]
        exact this
def spAnyS : Sp := fun vs H Q _ => ∃ (a c : Addr) (z : Str), vs = [.ref a, .str z] ∧ FeedOk H a c ∧ 0 < z.length ∧ z.length ≤ 1000 ∧ ∀ ch H', ch ∈ z.cps.toList → FeedOk H' a c → But a H H' → Q (vS [ch]) H'
theorem ok_anyS (T : Txt K mg fa fd) : FnOk P w K mg base CX0 2 (fa 47) (fd 47) ["_law_feed_here", "_law_row"] spAnyS := by
  refine T.F_any.ok sc_any (fun vs H Q E h => ?_) (fun cdv A outer s H vs Q E hr h => ?_)
  · obtain ⟨a, c, z, rfl, _⟩ := h
    rfl
  · obtain ⟨a, c, z, rfl, hF, h0, h1, q⟩ := h
    refine ⟨_, (pss_one (ps_ret (pe_ix ix_str (pv 1) (pe_call (ok_draw T) (hr.mono (by decide)) (by rfl) T.g_draw T.F_draw.kp T.b_draw .nil pass0 (pa_cons (pv 0) (pa_cons (pe_callB call_len_str (by rfl) T.m_len PySem.boot_len (pa_cons (pv 1) pa_nil)) pa_nil))) (fun _ _ => rfl)))), ?_⟩
    refine ⟨_, rfl, _, rfl, _, rfl, _, rfl, small_line h1, a, c, _, rfl, hF, mid_small h0 h1, fun r H' r0 r1 hF' b => ?_⟩
    obtain ⟨n, rfl⟩ := Int.eq_ofNat_of_zero_le r0
    have hn : n < z.cps.toList.length := by
      rw [Array.length_toList]
      exact Int.ofNat_lt.mp r1
    exact ⟨z, n, z.cps.toList[n], rfl, rfl, small_line h1, atI_nat (List.getElem?_eq_getElem hn), q _ _ (List.getElem_mem hn) hF' b⟩
def TxB (n c : Nat) (t : List Nat) : Prop := t.length ≤ n ∧ t.countP pm ≤ c ∧ uni t
theorem TxB.app {n c m d : Nat} {s t : List Nat} (h : TxB n c s) (k : TxB m d t) : TxB (n + m) (c + d) (s ++ t) := by
  refine ⟨?_, ?_, fun x hx => ?_⟩
  · rw [List.length_append]
    have := h.1
    have := k.1
    omega
  · rw [List.countP_append]
    have := h.2.1
    have := k.2.1
    omega
  · rcases List.mem_append.mp hx with hx | hx
    · exact h.2.2 x hx
    · exact k.2.2 x hx
theorem TxB.mono {n c m d : Nat} {t : List Nat} (h : TxB n c t) (k : n ≤ m) (l : c ≤ d) : TxB m d t := ⟨Nat.le_trans h.1 k, Nat.le_trans h.2.1 l, h.2.2⟩
theorem TxB.len {n c : Nat} {t : List Nat} (h : TxB n c t) : (SX.S t).length ≤ n := by
  rw [SX.S_len]
  exact h.1
theorem TxB.nil : TxB 0 0 [] := ⟨Nat.le_refl _, Nat.le_refl _, fun x h => by cases h⟩
theorem TxB.low {x : List Nat} (h : x.all lowc = true) : TxB x.length 0 x := by
  have hx : ∀ c ∈ x, 97 ≤ c ∧ c ≤ 122 := fun c hc => by
    have := List.all_eq_true.mp h c hc
    unfold lowc at this
    rw [Bool.and_eq_true, decide_eq_true_eq, decide_eq_true_eq] at this
    exact this
  refine ⟨Nat.le_refl _, ?_, fun c hc => by have := hx c hc; omega⟩
  rw [Nat.le_zero, List.countP_eq_zero]
  intro c hc
  have := hx c hc
  unfold pm
  rw [decide_eq_true_eq]
  omega
theorem TxB.dig {x : List Nat} (h : x.all dig = true) : TxB x.length 0 x := by
  have hx : ∀ c ∈ x, 48 ≤ c ∧ c ≤ 57 := fun c hc => by
    have := List.all_eq_true.mp h c hc
    unfold T8.dig at this
    rw [Bool.and_eq_true, decide_eq_true_eq, decide_eq_true_eq] at this
    exact this
  refine ⟨Nat.le_refl _, ?_, fun c hc => by have := hx c hc; omega⟩
  rw [Nat.le_zero, List.countP_eq_zero]
  intro c hc
  have := hx c hc
  unfold pm
  rw [decide_eq_true_eq]
  omega
theorem num_tx {n : Nat} (h : n < 10) : TxB 1 0 (TL.numL n) := by
  have e : TL.numL n = [48 + n] := TL.numL_lt h
  rw [e]
  exact TxB.dig (x := [48 + n]) (by simp [dig]; omega)
theorem small_tx {u v : Int} (hu : 0 ≤ u ∧ u < 9) (hv : 0 < v ∧ v < 6) : TxB 3 0 (txtL (lowT u v) (lowD u v)) ∧ (lowT u v).natAbs < 10 ∧ (lowD u v).natAbs < 10 := by
  have d := lowD_pos (u := u) (v := v) (by omega)
  have e := lowT_self (u := u) (v := v) (by omega)
  have a1 := lowT_abs (u := u) (v := v) (by omega)
  have a2 := lowD_abs (u := u) (v := v) (by omega)
  have n1 : 0 ≤ lowT u v := by
    by_cases z : 0 ≤ lowT u v
    · exact z
    · have := Int.mul_neg_of_neg_of_pos (show lowT u v < 0 by omega) hv.1
      have := Int.mul_nonneg hu.1 (show 0 ≤ lowD u v by omega)
      omega
  refine ⟨?_, by omega, by omega⟩
  unfold txtL
  rw [if_neg (by omega), List.nil_append]
  by_cases o : lowD u v = 1
  · rw [if_pos o, List.append_nil]
    exact (num_tx (by omega)).mono (by decide) (by decide)
  · rw [if_neg o]
    exact (num_tx (by omega)).app ((show TxB 1 0 [47] from ⟨Nat.le_refl _, by decide, fun x h => by rw [List.mem_singleton.mp h]; decide⟩).app (num_tx (by omega)))
end
/-! ### what is read from it -/
theorem num_len15 {n : Nat} (h : n < 10 ^ 15) : (TL.numL n).length ≤ 15 := TL.numL_len (n := n) (k := 15) (by decide) h
theorem num_len19 {n : Nat} (h : n < 10 ^ 19) : (TL.numL n).length ≤ 19 := TL.numL_len (n := n) (k := 19) (by decide) h
theorem NameL.tx {x : List Nat} (h : NameL x) : TxB 7 0 x := by
  obtain ⟨y, hy, hxy⟩ := h
  have := hy.2.1
  rcases hxy with rfl | rfl
  · exact (TxB.low hy.2.2).mono (by omega) (Nat.le_refl _)
  · exact ((TxB.low hy.2.2).app (show TxB 1 0 [39] from ⟨Nat.le_refl _, by decide, fun x h => by rw [List.mem_singleton.mp h]; decide⟩)).mono (by omega) (by decide)
theorem num_txB (n : Nat) : TxB (TL.numL n).length 0 (TL.numL n) := TxB.dig (all_dig.mpr (TL.numL_digits n))
theorem txt_tx {n d : Int} (hn : 0 ≤ n) (h1 : n.natAbs < 10 ^ 15) (h2 : d.natAbs < 10 ^ 19) : TxB 35 0 (txtL n d) := by
  have a := num_len15 h1
  have b := num_len19 h2
  unfold txtL
  rw [if_neg (by omega), List.nil_append]
  split
  · rw [List.append_nil]
    exact (num_txB _).mono (by omega) (Nat.le_refl _)
  · exact ((num_txB n.natAbs).app ((show TxB 1 0 [47] from ⟨Nat.le_refl _, by decide, fun x h => by rw [List.mem_singleton.mp h]; decide⟩).app (num_txB d.natAbs))).mono (by omega) (by decide)
theorem one_tx {c : Nat} (h : c < 128) : TxB 1 (if pm c = true then 1 else 0) [c] := by
  refine ⟨Nat.le_refl _, ?_, fun x hx => by rw [List.mem_singleton.mp hx]; omega⟩
  rw [List.countP_cons]
  cases pm c <;> exact Nat.le_refl _
theorem word_txP {u : Cf} (hx : NameL u.1) (h : u.2.natAbs < 10 ^ 15) : TxB 24 0 (textP (wordP u.2 u.1)) := by
  rw [text_word]
  have s := one_tx (c := 32) (by decide)
  split
  · exact (hx.tx.app s).mono (by decide) (by decide)
  · have e : txtL (u.2.natAbs : Int) 1 = TL.numL u.2.natAbs := by
      unfold txtL
      rw [if_neg (by omega), List.nil_append, if_pos rfl, List.append_nil, natAbs_int]
    rw [e]
    have a := num_len15 h
    exact (((num_txB _).app ((one_tx (c := 42) (by decide)).app hx.tx)).app s).mono (by show _ + (1 + 7) + 1 ≤ 24; omega) (by decide)
theorem tie_tx {u : Cf} {r : List Cf} {B : FR} (h : RT u r B) : TxB 140 20 (textP (tieQ u r B)) := by
  have f1 : TxB 25 1 (textP (firstP u.2 u.1)) := by
    unfold firstP
    rw [textP_app]
    have w := word_txP (h.nm u List.mem_cons_self) (h.sz u List.mem_cons_self)
    split
    · exact ((one_tx (c := 45) (by decide)).app w).mono (by decide) (by decide)
    · exact w.mono (by decide) (by decide)
  have f2 : TxB 26 1 (textP (r.flatMap fun v => nextP v.2 v.1)) := by
    match r, h with
    | [], _ => exact TxB.nil.mono (by decide) (by decide)
    | [v], h =>
      have w := word_txP (h.nm v (List.mem_cons_of_mem _ List.mem_cons_self)) (h.sz v (List.mem_cons_of_mem _ List.mem_cons_self))
      rw [List.flatMap_cons, List.flatMap_nil, List.append_nil]
      unfold nextP
      split
      · exact ((one_tx (c := 45) (by decide)).app ((one_tx (c := 32) (by decide)).app w)).mono (by decide) (by decide)
      · exact ((one_tx (c := 43) (by decide)).app ((one_tx (c := 32) (by decide)).app w)).mono (by decide) (by decide)
    | _ :: _ :: _, h => have := h.len; simp at this
  have f3 : TxB 39 1 (textP (endP B)) := by
    have t := txt_tx (n := (B.1.natAbs : Int)) (d := B.2) (by omega) (by rw [natAbs_int]; exact h.b1) h.b2
    rw [text_end, txt_abs B.1 B.2]
    have z := ((one_tx (c := 60) (by decide)).app ((one_tx (c := 61) (by decide)).app (one_tx (c := 32) (by decide)))).mono (n := 3) (m := 3) (d := 0) (Nat.le_refl _) (by decide)
    split
    · exact (z.app ((one_tx (c := 45) (by decide)).app t)).mono (by decide) (by decide)
    · exact (z.app t).mono (by decide) (by decide)
  unfold tieQ
  rw [textP_app, textP_app]
  exact (f1.app (f2.app f3)).mono (by decide) (by decide)
theorem RT.cf {u : Cf} {r : List Cf} {B : FR} (h : RT u r B) : ∀ v ∈ u :: r, CfOk v := fun v hv => ⟨h.nm v hv, h.nq v hv, Nat.le_trans (num_len15 (h.sz v hv)) (by decide)⟩
theorem RT.parse {u : Cf} {r : List Cf} {B : FR} (h : RT u r B) : parseP (symsOf (textP (tieQ u r B))) = .ok (rateL (u :: r), [60, 61], [([], B)]) := by
  obtain ⟨g, n⟩ := good_tie (h.cf u List.mem_cons_self) (fun v hv => h.cf v (List.mem_cons_of_mem _ hv)) h.nf (Nat.le_trans (num_len15 h.b1) (by decide)) (Nat.le_trans (num_len19 h.b2) (by decide))
  rw [syms_text g n]
  match r, h with
  | [], h => exact parse_one _ u (h.nq u List.mem_cons_self) B
  | [v], h => exact parse_two _ u v (h.nq u List.mem_cons_self) (h.nq v (List.mem_cons_of_mem _ List.mem_cons_self)) B
  | _ :: _ :: _, h => have := h.len; simp at this
theorem zero_add {f : FR} (h : Nf f) : addL (0, 1) f = f := by
  unfold addL
  dsimp only
  rw [Int.zero_mul, Int.zero_add, Int.mul_one, Int.one_mul]
  exact low_nf h
theorem NameL.ne {x : List Nat} (h : NameL x) : x ≠ [] := by
  obtain ⟨y, hy, hxy⟩ := h
  rcases hxy with rfl | rfl
  · exact hy.1
  · simp
/-- the names, and what stands with them -/
theorem RT.read {u : Cf} {r : List Cf} {B : FR} (h : RT u r B) : ∃ ns, (namesLR (rateL (u :: r)) [([], B)]).length = ns.length ∧ (ns.length = 1 ∨ ns.length = 2) ∧ Nms (broN (keysL (rateL (u :: r))) (keysL [([], B)])) (diff (valL (rateL (u :: r))) (valL [([], B)])) ns ∧ resD (rateL (u :: r)) [60, 61] [([], B)] ns = [tieP (rateL (u :: r)) B] := by
  have kr : keysL [([], B)] = [[]] := rfl
  have vr0 : valL [([], B)] [] = B := by
    show addL (0, 1) B = B
    exact zero_add h.nf
  have vrn : ∀ x, x ≠ [] → valL [([], B)] x = (0, 1) := fun x hx => by
    show (if ([] : List Nat) = x then addL (0, 1) B else (0, 1)) = (0, 1)
    rw [if_neg fun z => hx z.symm]
  have ne : ∀ v ∈ u :: r, v.1 ≠ [] := fun v hv => (h.nm v hv).ne
  have vl : (∀ v ∈ u :: r, valL (rateL (u :: r)) v.1 = (v.2, 1)) ∧ valL (rateL (u :: r)) [] = (0, 1) ∧ keysL (rateL (u :: r)) = [] :: (u :: r).map (·.1) := by
    match r, h, ne with
    | [], h, ne =>
      have nu := ne u List.mem_cons_self
      refine ⟨fun v hv => ?_, ?_, ?_⟩
      · rw [List.mem_singleton.mp hv]
        show (if u.1 = u.1 then addL (0, 1) (u.2, 1) else (0, 1)) = _
        rw [if_pos rfl]
        exact zero_add (nf_one _)
      · show (if u.1 = [] then addL (0, 1) (u.2, 1) else (0, 1)) = _
        rw [if_neg nu]
      · show addN [[]] u.1 = _
        unfold addN
        rw [if_neg (by rw [List.mem_singleton]; exact nu)]
        rfl
    | [w], h, ne =>
      have nu := ne u List.mem_cons_self
      have nw := ne w (List.mem_cons_of_mem _ List.mem_cons_self)
      have nuw : u.1 ≠ w.1 := by
        have := h.nd
        rw [List.map_cons, List.nodup_cons] at this
        exact fun z => this.1 (by rw [z]; exact List.mem_cons_self)
      refine ⟨fun v hv => ?_, ?_, ?_⟩
      · rcases List.mem_cons.mp hv with rfl | hv
        · show (if w.1 = v.1 then addL (if v.1 = v.1 then addL (0, 1) (v.2, 1) else (0, 1)) (w.2, 1) else (if v.1 = v.1 then addL (0, 1) (v.2, 1) else (0, 1))) = _
          rw [if_neg nuw.symm, if_pos rfl]
          exact zero_add (nf_one _)
        · rw [List.mem_singleton.mp hv]
          show (if w.1 = w.1 then addL (if u.1 = w.1 then addL (0, 1) (u.2, 1) else (0, 1)) (w.2, 1) else _) = _
          rw [if_pos rfl, if_neg nuw]
          exact zero_add (nf_one _)
      · show (if w.1 = [] then _ else (if u.1 = [] then addL (0, 1) (u.2, 1) else (0, 1))) = _
        rw [if_neg nw, if_neg nu]
      · show addN (addN [[]] u.1) w.1 = _
        have e1 : addN [[]] u.1 = [[], u.1] := by
          unfold addN
          rw [if_neg (by rw [List.mem_singleton]; exact nu)]
          rfl
        rw [e1]
        unfold addN
        rw [if_neg (by simp only [List.mem_cons, List.not_mem_nil, or_false]; rintro (z | z); exact nw z; exact nuw z.symm)]
        rfl
    | _ :: _ :: _, h, _ => have := h.len; simp at this
  obtain ⟨v1, v0, kl⟩ := vl
  have dv : ∀ v ∈ u :: r, diff (valL (rateL (u :: r))) (valL [([], B)]) v.1 = (v.2, 1) := fun v hv => by
    show subL (valL (rateL (u :: r)) v.1) (valL [([], B)] v.1) = _
    rw [v1 v hv, vrn _ (ne v hv)]
    exact sub_zero (nf_one _)
  have d0 : diff (valL (rateL (u :: r))) (valL [([], B)]) [] = negF B := by
    show subL (valL (rateL (u :: r)) []) (valL [([], B)] []) = _
    rw [v0, vr0]
    exact zero_sub h.nf
  have kb : broN (keysL (rateL (u :: r))) (keysL [([], B)]) = [] :: (u :: r).map (·.1) := by
    rw [kl, kr]
    unfold broN
    rw [List.foldl_cons, List.foldl_nil]
    unfold addN
    rw [if_pos List.mem_cons_self]
  have fl : (broN (keysL (rateL (u :: r))) (keysL [([], B)])).filter (nz (diff (valL (rateL (u :: r))) (valL [([], B)]))) = (u :: r).map (·.1) := by
    rw [kb, List.filter_cons, if_neg (by unfold nz; simp)]
    refine List.filter_eq_self.mpr fun x hx => ?_
    obtain ⟨v, hv, rfl⟩ := List.mem_map.mp hx
    unfold nz
    rw [dv v hv, decide_eq_true (ne v hv), decide_eq_true (h.nq v hv)]
    rfl
  have ln : ((u :: r).map (·.1)).length = 1 ∨ ((u :: r).map (·.1)).length = 2 := by
    rw [List.length_map, List.length_cons]
    have := h.len
    omega
  refine ⟨(u :: r).map (·.1), ?_, ln, ⟨?_, h.srt⟩, ?_⟩
  · show ((broN (keysL (rateL (u :: r))) (keysL [([], B)])).filter _).length = _
    rw [fl]
  · rw [fl]
  · unfold resD
    rw [if_pos rfl]
    have et : tlOf (diff (valL (rateL (u :: r))) (valL [([], B)])) ((u :: r).map (·.1)) = rateL (u :: r) := by
      unfold tlOf rateL
      rw [List.map_map]
      refine List.map_congr_left fun v hv => ?_
      exact congrArg (Prod.mk v.1) (dv v hv)
    unfold oneP
    rw [et, d0, neg_neg8]
    show [tieP (redL (rateL (u :: r))) (redF (scl (rts (rateL (u :: r)))) B)] = _
    rw [h.e1, h.e2]
theorem leT' : (Str.ofString " <= " : Str) = SX.S [32, 60, 61, 32] := by decide +kernel
theorem pow62 {n k : Nat} (h : n < 10 ^ k) (hk : k ≤ 62) : n < 10 ^ 62 := Nat.lt_of_lt_of_le h (Nat.pow_le_pow_right (by decide) hk)
theorem bn_of {f : FR} (h1 : f.1.natAbs < 10 ^ 19) (h2 : f.2.natAbs < 10 ^ 19) : Bn 800 f :=
  ⟨Nat.lt_of_lt_of_le h1 (Nat.le_trans (show 10 ^ 19 ≤ 2 ^ 64 by decide) (Nat.pow_le_pow_right (by decide) (by decide))), Nat.lt_of_lt_of_le h2 (Nat.le_trans (show 10 ^ 19 ≤ 2 ^ 64 by decide) (Nat.pow_le_pow_right (by decide) (by decide)))⟩
theorem NameL.len {x : List Nat} (h : NameL x) : x.length ≤ 7 := h.tx.1
theorem RT.ok {u : Cf} {r : List Cf} {B : FR} (h : RT u r B) : TlOk (rateL (u :: r)) ∧ BdF B ∧ TsOk (rateL (u :: r)) ∧ Fsm B := by
  have l15 : (10 : Nat) ^ 15 ≤ 10 ^ 19 := by decide
  have ln : (rateL (u :: r)).length = 1 ∨ (rateL (u :: r)).length = 2 := by
    unfold rateL
    rw [List.length_map, List.length_cons]
    have := h.len
    omega
  refine ⟨⟨ln, fun t ht => ?_⟩, ⟨bn_of (Nat.lt_of_lt_of_le h.b1 l15) h.b2, h.nf.1⟩, ⟨ln, fun t ht => ?_⟩, ⟨pow62 h.b1 (by decide), h.nf.1, pow62 h.b2 (by decide)⟩⟩
  · obtain ⟨v, hv, rfl⟩ := List.mem_map.mp ht
    exact ⟨h.nq v hv, ⟨bn_of (Nat.lt_of_lt_of_le (h.sz v hv) l15) (by show (1 : Int).natAbs < _; decide), Int.zero_lt_one⟩, (h.nm v hv).len⟩
  · obtain ⟨v, hv, rfl⟩ := List.mem_map.mp ht
    exact ⟨(h.nm v hv).len, pow62 (h.sz v hv) (by decide), Int.zero_lt_one, by show (1 : Int).natAbs < _; exact pow62 (k := 1) (by decide) (by decide)⟩
section
variable {P : Program} {w : World} {K : PySem.W.Frag} {mg : Str → Option Value} {base : Heap} {fa : Nat → Addr} {fd : Nat → FuncData}
def spTieT8 : Sp := fun vs H Q _ => ∃ v u r B z, vs = [v] ∧ Dt z H v (tieP (rateL (u :: r)) B) ∧ RT u r B ∧ ∀ H', Same H H' → Q (vS (textP (tieQ u r B))) H'
theorem ok_p_tie_text (T : Txt K mg fa fd) : FnOk P w K mg base CX0 6 (fa 39) (fd 39) ["tie"] spTieT8 := by
  refine T.F_p_tie_text.ok sc_p_tie_text (fun vs H Q E h => ?_) (fun cdv A outer s H vs Q E hr h => ?_)
  · obtain ⟨v, u, r, B, z, rfl, _⟩ := h
    rfl
  · obtain ⟨v, u, r, B, z, rfl, hv, hR, q⟩ := h
    refine ⟨_, (C8.pss_cut (ps_asg (pe_call (ok_p_reduced T) (hr.mono (by decide)) (by rfl) T.g_p_reduced T.F_p_reduced.kp T.b_p_reduced .nil pass0 (pa_cons (pv 0) pa_nil)) (pg_tup (by rfl) (pgs_cons (pg_name (i := 1) sc_p_tie_text.nd rfl (.inl rfl)) (pgs_cons (pg_name (i := 2) sc_p_tie_text.nd rfl (.inl rfl)) pgs_nil))))
      (pss_one (ps_ret (pe_op op_add_str (pe_op op_add_str (pe_call (ok_p_terms_text T) (hr.mono (by decide)) (by rfl) T.g_p_terms_text T.F_p_terms_text.kp T.b_p_terms_text .nil pass0 (pa_cons (pv 1) pa_nil)) pe_str) (pe_call (ok_p_ratio_text T) (hr.mono (by decide)) (by rfl) T.g_p_ratio_text T.F_p_ratio_text.kp T.b_p_ratio_text .nil pass0 (pa_cons (pv 2) pa_nil)))))), ?_⟩
    obtain ⟨hok, hb, hts, fb⟩ := hR.ok
    have tx := tie_tx hR
    rw [text_tie (hR.nq u List.mem_cons_self) (fun v hv => hR.nq v (List.mem_cons_of_mem _ hv))] at tx q
    have tl := tx.1
    rw [List.length_append, List.length_append] at tl
    refine ⟨fun σ H1 => Same H H1 ∧ ∃ vt pb, Dt z H1 vt (.tuple ((rateL (u :: r)).map tmP)) ∧ H1 pb = some (.tup [.int B.1, .int B.2]) ∧ ∃ y0, σ = [y0, some vt, some (.ref pb)], ?_, fun σ H1 hM => ?_⟩
    · refine ⟨_, rfl, v, rateL (u :: r), B, z, rfl, hv, hok, hb, fun v' H1 s1 hv' => ?_⟩
      rw [show redP (rateL (u :: r)) B = tieP (rateL (u :: r)) B by show tieP (redL _) (redF _ _) = _; rw [hR.e1, hR.e2]] at hv'
      obtain ⟨P, t, y, xs, rfl, hP, ht, hxs, hy⟩ := tie_inv hv'
      obtain ⟨pb, rfl, hpb⟩ := dt_fr hy
      exact ⟨P, _, rfl, .inl (.inl hP), rfl, _, _, rfl, _, _, rfl, rfl, s1, .ref t, pb, .tup ht hxs, hpb, _, rfl⟩
    obtain ⟨s1, vt, pb, hvt, hpb, y0, rfl⟩ := hM
    have l4 : ([32, 60, 61, 32] : List Nat).length = 4 := rfl
    refine ⟨_, rfl, vt, rateL (u :: r), z, rfl, hvt, hts, fun H2 s2 => ⟨_, _, rfl, rfl, ?_, _, rfl, pb, _, _, rfl, s2 _ _ hpb, fb.2.1, fb.1, fb.2.2, fun H3 s3 => ⟨_, _, rfl, rfl, ?_, ?_⟩⟩⟩
    · rw [leT', SX.S_len, SX.S_len]
      exact small_line (by omega)
    · rw [leT', SX.S_cat, SX.S_len, SX.S_len, List.length_append]
      exact small_line (by omega)
    · rw [leT', SX.S_cat, SX.S_cat]
      exact q H3 (s1.trans (s2.trans s3))
end
/-! ### runs of digits in a drawn text -/
theorem run_le {t : List Nat} : RB t ↔ ∀ k, k ≤ t.length → ((t.drop k).takeWhile numC).length ≤ 3 := by
  unfold RB runL
  exact ⟨fun h k hk => by have := h k hk; omega, fun h k hk => by have := h k hk; omega⟩
def NN (w : List Nat) : Prop := ∀ c ∈ w, numC c = false
def LNm (t : List Nat) : Prop := ∀ s c, t = s ++ [c] → numC c = false
theorem NN.tw {w : List Nat} (h : NN w) : w.takeWhile numC = [] := by
  cases w with
  | nil => rfl
  | cons c r => rw [List.takeWhile_cons, h c List.mem_cons_self]; rfl
theorem rb_short {t : List Nat} (h : t.length ≤ 3) : RB t := run_le.mpr fun k _ => by
  have := (List.takeWhile_sublist (l := t.drop k) numC).length_le
  rw [List.length_drop] at this
  omega
theorem RB.non {s w : List Nat} (h : RB s) (hw : NN w) : RB (s ++ w) := run_le.mpr fun k hk => by
  by_cases q : k ≤ s.length
  · rw [List.drop_append_of_le_length q, List.takeWhile_append]
    have := run_le.mp h k q
    split
    · rename_i e
      rw [hw.tw, List.append_nil]
      omega
    · exact this
  · have e : (s ++ w).drop k = w.drop (k - s.length) := by rw [List.drop_append, List.drop_eq_nil_of_le (by omega), List.nil_append]
    rw [e, NN.tw (fun c hc => hw c (List.mem_of_mem_drop hc))]
    exact Nat.zero_le _
theorem RB.ln {s w : List Nat} (h : RB s) (hl : LNm s) (hw : RB w) : RB (s ++ w) := run_le.mpr fun k hk => by
  by_cases q : k ≤ s.length
  · rw [List.drop_append_of_le_length q, List.takeWhile_append]
    have := run_le.mp h k q
    split
    · rename_i e
      rcases List.eq_nil_or_concat (s.drop k) with z | ⟨a, c, z⟩
      · rw [z, List.nil_append]
        have := run_le.mp hw 0 (Nat.zero_le _)
        rw [List.drop_zero] at this
        exact this
      · exfalso
        rw [List.concat_eq_append] at z
        have e1 : s = (s.take k ++ a) ++ [c] := by rw [List.append_assoc, ← z, List.take_append_drop]
        have nc := hl _ _ e1
        have al : (s.drop k).takeWhile numC = s.drop k := (List.takeWhile_sublist _).eq_of_length e
        have : c ∈ (s.drop k).takeWhile numC := by rw [al, z]; exact List.mem_append_right _ List.mem_cons_self
        have := List.all_eq_true.mp List.all_takeWhile c this
        rw [nc] at this
        cases this
    · exact this
  · have e : (s ++ w).drop k = w.drop (k - s.length) := by rw [List.drop_append, List.drop_eq_nil_of_le (by omega), List.nil_append]
    rw [e]
    rw [List.length_append] at hk
    exact run_le.mp hw _ (by omega)
theorem rb_nil : RB [] := rb_short (Nat.zero_le _)
theorem ln_nil : LNm [] := fun s c e => by simp at e
theorem LNm.non {s w : List Nat} (h : LNm s) (hw : NN w) : LNm (s ++ w) := fun a c e => by
  rcases List.eq_nil_or_concat w with rfl | ⟨b, d, rfl⟩
  · rw [List.append_nil] at e
    exact h a c e
  · rw [List.concat_eq_append] at *
    rw [← List.append_assoc] at e
    have := List.append_inj_right' e rfl
    rw [← (List.cons.inj this).1]
    exact hw d (List.mem_append_right _ List.mem_cons_self)
theorem ln_end {s w : List Nat} (hw : NN w) (hn : w ≠ []) : LNm (s ++ w) := fun a c e => by
  rcases List.eq_nil_or_concat w with rfl | ⟨b, d, rfl⟩
  · exact absurd rfl hn
  · rw [List.concat_eq_append] at *
    rw [← List.append_assoc] at e
    have := List.append_inj_right' e rfl
    rw [← (List.cons.inj this).1]
    exact hw d (List.mem_append_right _ List.mem_cons_self)
theorem NN.app {a b : List Nat} (h : NN a) (k : NN b) : NN (a ++ b) := fun c hc => (List.mem_append.mp hc).elim (h c) (k c)
theorem nn_one {c : Nat} (h : numC c = false) : NN [c] := fun d hd => by rw [List.mem_singleton.mp hd]; exact h
theorem nn_low {x : List Nat} (h : x.all lowc = true) : NN x := fun c hc => by
  have := List.all_eq_true.mp h c hc
  unfold lowc at this
  rw [Bool.and_eq_true, decide_eq_true_eq, decide_eq_true_eq] at this
  unfold numC dig
  rw [decide_eq_false (show ¬ c ≤ 57 by omega), decide_eq_false (show ¬ c = 47 by omega), Bool.and_false]
  rfl
theorem NameL.nn {x : List Nat} (h : NameL x) : NN x := by
  obtain ⟨y, hy, hxy⟩ := h
  rcases hxy with rfl | rfl
  · exact nn_low hy.2.2
  · exact (nn_low hy.2.2).app (nn_one (by decide))
section
variable {P : Program} {w : World} {K : PySem.W.Frag} {mg : Str → Option Value} {base : Heap} {fa : Nat → Addr} {fd : Nat → FuncData}
/-- a text of so many signs is drawn -/
def spGap : Sp := fun vs H Q _ => ∃ (a c : Addr), vs = [.ref a] ∧ FeedOk H a c ∧ ∀ t H', TxB 2 0 t → NN t → FeedOk H' a c → But a H H' → Q (vS t) H'
theorem ok_gap (T : Txt K mg fa fd) : FnOk P w K mg base CX0 3 (fa 66) (fd 66) ["_law_feed_here"] spGap := by
  refine T.F_gap.ok sc_gap (fun vs H Q E h => ?_) (fun cdv A outer s H vs Q E hr h => ?_)
  · obtain ⟨a, c, rfl, _⟩ := h
    rfl
  · obtain ⟨a, c, rfl, hF, q⟩ := h
    refine ⟨_, (pss_one (ps_ret (pe_op op_mul_str pe_str (pe_call (ok_any T) (hr.mono (by decide)) (by rfl) T.g_any T.F_any.kp T.b_any .nil pass0 (pa_cons (pv 0) (pa_cons (pe_lst (pa_cons pe_int (pa_cons pe_int (pa_cons pe_int (pa_cons pe_int (pa_cons pe_int pa_nil)))))) pa_nil)))))), ?_⟩
    refine ⟨_, rfl, small_line (by show 5 ≤ 1000; decide), fun p np => ⟨a, c, p, _, rfl, hF.new np, upd_same, new_ne hF np, by decide, by decide, fun v H' hv hF' b => ?_⟩⟩
    have b2 : But a H H' := (But.of (same_upd np)).trans b
    obtain ⟨n, rfl, hn⟩ : ∃ n : Nat, v = .int (n : Int) ∧ n ≤ 2 := by
      simp only [List.mem_cons, List.not_mem_nil, or_false] at hv
      rcases hv with rfl | rfl | rfl | rfl | rfl
      · exact ⟨0, rfl, by decide⟩
      · exact ⟨0, rfl, by decide⟩
      · exact ⟨1, rfl, by decide⟩
      · exact ⟨1, rfl, by decide⟩
      · exact ⟨2, rfl, by decide⟩
    have sp1 : (Str.ofString " " : Str) = { cps := #[32] } := by decide +kernel
    refine ⟨_, _, rfl, rfl, mul_one1 (by decide +kernel) (by omega) (by omega), ?_⟩
    rw [sp1, mul_rep 32 (n : Int)]
    refine q _ _ ⟨?_, ?_, fun x hx => ?_⟩ (fun x hx => by rw [List.eq_of_mem_replicate hx]; decide) hF' b2
    · rw [List.length_replicate]
      omega
    · rw [Nat.le_zero, List.countP_eq_zero]
      intro x hx
      rw [List.eq_of_mem_replicate hx]
      decide
    · rw [List.eq_of_mem_replicate hx]
      decide
/-- the sum of a few terms -/
def spDSum (K : PySem.W.Frag) : Sp := fun vs H Q _ => ∃ (a c p : Addr) (ws : List (List Nat)), vs = [.ref a, .ref p, .int 3] ∧ FeedOk H a c ∧ p ≠ a ∧ H p = some (.lst (ws.map vS)) ∧ ws ≠ [] ∧ ws.length ≤ 10 ∧ (∀ x ∈ ws, NameL x) ∧ ∀ t H', TxB 58 3 t → RB t → FeedOk H' a c → But a H H' → Q (vS t) H'
theorem ok_drawn_sum (T : Txt K mg fa fd) : FnOk P w K mg base CX0 4 (fa 67) (fd 67) ["_law_feed_here", "_law_words_here", "_law_many"] (spDSum K) := by
  refine T.F_drawn_sum.ok sc_drawn_sum (fun vs H Q E h => ?_) (fun cdv A outer s H vs Q E hr h => ?_)
  · obtain ⟨a, c, p, ws, rfl, _⟩ := h
    rfl
  · obtain ⟨a, c, p, ws, rfl, hF, npa, hp, wne, wl, hw, q⟩ := h
    refine ⟨_, (C8.pss_cut (ps_set (i := 3) sc_drawn_sum.nd rfl (.inl rfl) (pe_ifExp (pt_cmpR op_eq (pe_call (ok_draw T) (hr.mono (by decide)) (by rfl) T.g_draw T.F_draw.kp T.b_draw .nil pass0 (pa_cons (pv 0) (pa_cons pe_int pa_nil))) pe_int (nomark _)) (pe_op op_add_str pe_str (pe_call (ok_gap T) (hr.mono (by decide)) (by rfl) T.g_gap T.F_gap.kp T.b_gap .nil pass0 (pa_cons (pv 0) pa_nil))) pe_str))
      (C8.pss_cut (ps_for PassesOwn.never rfl (pi_range1 (by rfl) T.m_range (pa_cons (pe_op op_add pe_int (pe_call (ok_draw T) (hr.mono (by decide)) (by rfl) T.g_draw T.F_draw.kp T.b_draw .nil pass0 (pa_cons (pv 0) (pa_cons (pv 2) pa_nil)))) pa_nil)) (pg_name (i := 4) sc_drawn_sum.nd rfl (.inl rfl)) (C8.pss_cut (ps_if (pt_cmpR op_gt (pv 4) pe_int (nomark _)) (pss_one (ps_set (i := 3) sc_drawn_sum.nd rfl (.inl rfl) (pe_op op_add_str (pe_op op_add_str (pe_op op_add_str (pv 3) (pe_call (ok_gap T) (hr.mono (by decide)) (by rfl) T.g_gap T.F_gap.kp T.b_gap .nil pass0 (pa_cons (pv 0) pa_nil))) (pe_call (ok_anyS T) (hr.mono (by decide)) (by rfl) T.g_any T.F_any.kp T.b_any .nil pass0 (pa_cons (pv 0) (pa_cons pe_str pa_nil)))) (pe_call (ok_gap T) (hr.mono (by decide)) (by rfl) T.g_gap T.F_gap.kp T.b_gap .nil pass0 (pa_cons (pv 0) pa_nil))))) pss_nil)
      (C8.pss_cut (ps_set (i := 5) sc_drawn_sum.nd rfl (.inl rfl) (pe_call (ok_low T) (hr.mono (by decide)) (by rfl) T.g_low T.F_low.kp T.b_low .nil pass0 (pa_cons (pe_call (ok_draw T) (hr.mono (by decide)) (by rfl) T.g_draw T.F_draw.kp T.b_draw .nil pass0 (pa_cons (pv 0) (pa_cons pe_int pa_nil))) (pa_cons (pe_op op_add pe_int (pe_call (ok_draw T) (hr.mono (by decide)) (by rfl) T.g_draw T.F_draw.kp T.b_draw .nil pass0 (pa_cons (pv 0) (pa_cons pe_int pa_nil)))) pa_nil))))
      (C8.pss_cut (ps_set (i := 6) sc_drawn_sum.nd rfl (.inl rfl) (pe_call (ok_draw T) (hr.mono (by decide)) (by rfl) T.g_draw T.F_draw.kp T.b_draw .nil pass0 (pa_cons (pv 0) (pa_cons pe_int pa_nil))))
      (pss_one (ps_if (PW.pt (pw_or (pt_cmpR op_eq (pv 6) pe_int (nomark _)) (pw_or1 (pt_cmpR (op_eqD hr.units) (pv 1) (pe_lst pa_nil) (nomark _))))) (pss_one (ps_set (i := 3) sc_drawn_sum.nd rfl (.inl rfl) (pe_op op_add_str (pv 3) (pe_call (ok_part_text T) (hr.mono (by decide)) (by rfl) T.g_part_text T.F_part_text.kp T.b_part_text .nil pass0 (pa_cons (pv 5) pa_nil))))) (pss_one (ps_if (pt_cmpR op_eq (pv 6) pe_int (nomark _)) (pss_one (ps_set (i := 3) sc_drawn_sum.nd rfl (.inl rfl) (pe_op op_add_str (pv 3) (pe_call (ok_any T) (hr.mono (by decide)) (by rfl) T.g_any T.F_any.kp T.b_any .nil pass0 (pa_cons (pv 0) (pa_cons (pv 1) pa_nil)))))) (C8.pss_cut (ps_set (i := 3) sc_drawn_sum.nd rfl (.inl rfl) (pe_op op_add_str (pe_op op_add_str (pe_op op_add_str (pv 3) (pe_call (ok_part_text T) (hr.mono (by decide)) (by rfl) T.g_part_text T.F_part_text.kp T.b_part_text .nil pass0 (pa_cons (pv 5) pa_nil))) (pe_call (ok_gap T) (hr.mono (by decide)) (by rfl) T.g_gap T.F_gap.kp T.b_gap .nil pass0 (pa_cons (pv 0) pa_nil))) pe_str))
      (pss_one (ps_set (i := 3) sc_drawn_sum.nd rfl (.inl rfl) (pe_op op_add_str (pe_op op_add_str (pv 3) (pe_call (ok_gap T) (hr.mono (by decide)) (by rfl) T.g_gap T.F_gap.kp T.b_gap .nil pass0 (pa_cons (pv 0) pa_nil))) (pe_call (ok_any T) (hr.mono (by decide)) (by rfl) T.g_any T.F_any.kp T.b_any .nil pass0 (pa_cons (pv 0) (pa_cons (pv 1) pa_nil)))))))))))))))
      (pss_one (ps_ret (pv 3))))), ?_⟩
    refine ⟨fun σ H1 => ∃ t, TxB 3 1 t ∧ RB t ∧ LNm t ∧ FeedOk H1 a c ∧ But a H H1 ∧ σ = [some (.ref a), some (.ref p), some (.int 3), some (vS t), none, none, none], ?_, fun σ H1 hM => ?_⟩
    · refine ⟨_, rfl, a, c, _, rfl, hF, mid_of (by decide) (by decide), fun r H1 r0 r1 hF1 b1 => ⟨rfl, _, rfl, ite2 (fun _ => ?_) (fun _ => ⟨[], TxB.nil.mono (by decide) (by decide), rb_nil, ln_nil, hF1, b1, by rw [emptyS]; rfl⟩)⟩⟩
      refine ⟨_, rfl, a, c, rfl, hF1, fun t H2 ht hnn hF2 b2 => ⟨_, _, rfl, rfl, ?_, [45] ++ t, ?_, (rb_short (by decide)).non hnn, LNm.non (fun a c e => by have := List.append_inj_right' (s₁ := []) e rfl; rw [← (List.cons.inj this).1]; decide) hnn, hF2, b1.trans b2, ?_⟩⟩
      · rw [dash, SX.S_len, SX.S_len]
        exact small_line (by have := ht.1; show 1 + t.length ≤ 1000; omega)
      · exact (show TxB 1 1 [45] from ⟨Nat.le_refl _, by decide, fun x h => by rw [List.mem_singleton.mp h]; decide⟩).app ht
      · rw [dash, SX.S_cat]
        rfl
    obtain ⟨t, ht, hrb, hln, hF1, b1, rfl⟩ := hM
    refine ⟨fun σ H2 => ∃ t y4 y5 y6, TxB 58 3 t ∧ RB t ∧ FeedOk H2 a c ∧ But a H H2 ∧ σ = [some (.ref a), some (.ref p), some (.int 3), some (vS t), y4, y5, y6], ?_, fun σ H2 hM => ?_⟩
    · refine ⟨_, rfl, _, rfl, a, c, _, rfl, hF1, mid_of (by decide) (by decide), fun r H2 r0 r1 hF2 b2 => ?_⟩
      obtain ⟨n, rfl⟩ := Int.eq_ofNat_of_zero_le r0
      refine ⟨_, _, rfl, rfl, _, rfl, by omega, by omega, for_range (n := 1 + n) (fun i σ H3 => ∃ t y4 y5 y6, TxB (if i = 0 then 3 else 20 * i - 2) (if i = 0 then 1 else i) t ∧ RB t ∧ (i = 0 → LNm t) ∧ FeedOk H3 a c ∧ But a H H3 ∧ σ = [some (.ref a), some (.ref p), some (.int 3), some (vS t), y4, y5, y6]) ⟨t, _, _, _, ht, hrb, fun _ => hln, hF2, b1.trans b2, rfl⟩ (fun i σ H3 hi hq => ?_) (fun σ H3 hq => ?_)⟩
      · clear hrb hln
        obtain ⟨t, y4, y5, y6, ht, hrb, hln, hF3, b3, rfl⟩ := hq
        have i3 : i ≤ 2 := by omega
        have ht0 : TxB (20 * i + 3) (i + 1) t := ht.mono (by split <;> omega) (by split <;> omega)
        refine ⟨fun σ H4 => ∃ t, TxB (20 * i + 3) (i + 1) t ∧ RB t ∧ LNm t ∧ FeedOk H4 a c ∧ But a H H4 ∧ σ = [some (.ref a), some (.ref p), some (.int 3), some (vS t), some (.int (0 + (i : Int))), y5, y6], ?_, fun σ H4 hM => ?_⟩
        · refine ⟨_, rfl, _, _, rfl, rfl, _, rfl, ite2 (fun e => ?_) (fun e => ⟨t, ht0, hrb, hln (by have : ¬ (0 : Int) < 0 + (i : Int) := fun z => e (decide_eq_true z); omega), hF3, b3, rfl⟩)⟩
          have e : (0 : Int) < 0 + (i : Int) := of_decide_eq_true e
          rw [if_neg (show ¬ i = 0 by omega), if_neg (show ¬ i = 0 by omega)] at ht
          refine ⟨_, rfl, _, rfl, a, c, rfl, hF3, fun g1 H4 h1 nn1 hF4 b4 => ⟨_, _, rfl, rfl, ?_, ?_⟩⟩
          · have := ht.1
            have := h1.1
            rw [SX.S_len, SX.S_len]
            exact small_line (by omega)
          rw [SX.S_cat]
          refine ⟨_, rfl, a, c, _, rfl, hF4, by decide +kernel, by decide +kernel, fun ch H5 hch hF5 b5 => ⟨_, _, rfl, rfl, ?_, ?_⟩⟩
          · have := (ht.app h1).1
            rw [SX.S_len, SX.S_len]
            exact small_line (by show _ + 1 ≤ 1000; omega)
          rw [SX.S_cat]
          have one : TxB 1 1 [ch] := by
            have hc : ch = 43 ∨ ch = 45 := by
              rw [show (Str.ofString "+-").cps.toList = [43, 45] by decide +kernel] at hch
              simpa using hch
            refine ⟨Nat.le_refl _, List.countP_le_length, fun x hx => ?_⟩
            rw [List.mem_singleton.mp hx]
            rcases hc with rfl | rfl <;> decide
          have nnc : NN [ch] := nn_one (by
            rw [show (Str.ofString "+-").cps.toList = [43, 45] by decide +kernel] at hch
            have hc : ch = 43 ∨ ch = 45 := by simpa using hch
            rcases hc with rfl | rfl <;> decide)
          refine ⟨_, rfl, a, c, rfl, hF5, fun g2 H6 h2 nn2 hF6 b6 => ⟨_, _, rfl, rfl, ?_, ?_⟩⟩
          · have := ((ht.app h1).app one).1
            have := h2.1
            rw [SX.S_len, SX.S_len]
            exact small_line (by omega)
          · rw [SX.S_cat]
            exact ⟨_, (((ht.app h1).app one).app h2).mono (by omega) (by omega), ((hrb.non nn1).non nnc).non nn2, (ln_end nnc (by simp)).non nn2, hF6, b3.trans (b4.trans (b5.trans b6)), rfl⟩
        clear ht0 ht hF3 b3 hrb hln
        clear t
        obtain ⟨t, ht, hrb, hln, hF4, b4, rfl⟩ := hM
        -- the size
        refine ⟨fun σ H5 => FeedOk H5 a c ∧ But a H H5 ∧ ∃ ps u v, (0 ≤ u ∧ u < 9) ∧ (0 < v ∧ v < 6) ∧ H5 ps = some (.tup [.int (lowT u v), .int (lowD u v)]) ∧ ps ≠ a ∧ σ = [some (.ref a), some (.ref p), some (.int 3), some (vS t), some (.int (0 + (i : Int))), some (.ref ps), y6], ?_, fun σ H5 hM => ?_⟩
        · refine ⟨_, rfl, a, c, _, rfl, hF4, mid_of (by decide) (by decide), fun r H5 r0 r1 hF5 b5 => ⟨_, rfl, a, c, _, rfl, hF5, mid_of (by decide) (by decide), fun r2 H6 r3 r4 hF6 b6 => ⟨_, _, rfl, rfl, r, 1 + r2, rfl, by omega, log2_mono (b := 8000) (by omega) (by decide +kernel), fun ps nps => ?_⟩⟩⟩
          exact ⟨hF6.new nps, (b4.trans (b5.trans b6)).trans (But.of (same_upd nps)), ps, r, 1 + r2, ⟨r0, r1⟩, ⟨by omega, by omega⟩, upd_same, new_ne hF6 nps, rfl⟩
        obtain ⟨hF5, b5, ps, u, v, hu, hv, hps, npsa, rfl⟩ := hM
        obtain ⟨tx, n1, n2⟩ := small_tx hu hv
        have dpos := lowD_pos (u := u) (v := v) (by omega)
        -- the way
        refine ⟨fun σ H6 => FeedOk H6 a c ∧ But a H H6 ∧ H6 ps = some (.tup [.int (lowT u v), .int (lowD u v)]) ∧ ∃ y6, σ = [some (.ref a), some (.ref p), some (.int 3), some (vS t), some (.int (0 + (i : Int))), some (.ref ps), some (.int y6)], ⟨_, rfl, a, c, _, rfl, hF5, mid_of (by decide) (by decide), fun r H6 r0 r1 hF6 b6 => ⟨hF6, b5.trans b6, b6 _ _ npsa hps, r, rfl⟩⟩, fun σ H6 hM => ?_⟩
        clear hF5 b5 hps
        obtain ⟨hF6, b6, hps, way, rfl⟩ := hM
        have hp6 := b6 _ _ npa hp
        have fin : ∀ t' H', TxB (20 * i + 18) (i + 1) t' → RB t' → FeedOk H' a c → But a H H' → ∃ t y4 y5 y6, TxB (if i + 1 = 0 then 3 else 20 * (i + 1) - 2) (if i + 1 = 0 then 1 else i + 1) t ∧ RB t ∧ (i + 1 = 0 → LNm t) ∧ FeedOk H' a c ∧ But a H H' ∧ [some (V.ref a), some (.ref p), some (.int 3), some (vS t'), some (.int (0 + (i : Int))), some (.ref ps), some (.int way)] = [some (.ref a), some (.ref p), some (.int 3), some (vS t), y4, y5, y6] := fun t' H' h hr hF b => ⟨t', _, _, _, h.mono (by rw [if_neg (by omega)]; omega) (by rw [if_neg (by omega)]; exact Nat.le_refl _), hr, fun z => absurd z (Nat.succ_ne_zero i), hF, b, rfl⟩
        have tl : t.length ≤ 43 := Nat.le_trans ht.1 (by omega)
        refine ⟨_, rfl, rfl, _, rfl, ite2 (fun e => ?_) (fun e => ?_)⟩
        · refine ⟨_, rfl, _, rfl, ps, lowT u v, lowD u v, rfl, hps, dpos, Nat.lt_trans n1 (by decide), Nat.lt_trans n2 (by decide), fun H' s' => ⟨_, _, rfl, rfl, ?_, ?_⟩⟩
          · have := tx.1
            rw [SX.S_len, SX.S_len]
            exact small_line (by omega)
          · rw [SX.S_cat]
            exact fin _ _ ((ht.app tx).mono (by omega) (by omega)) (hrb.ln hln (rb_short tx.1)) (hF6.same s') (b6.trans (But.of s'))
        · refine ⟨_, rfl, Nat.zero_le _, fun q0 nq => ?_⟩
          have sq := same_upd (o := .lst []) nq
          have hpq := sq _ _ hp6
          have dws : ∀ (H : Hp) (l : List (List Nat)), DpAll K H (l.map vS) (l.map fun x => PyData.str (SX.S x)) := fun H l => by
            induction l with
            | nil => exact .nil
            | cons x l ih => exact .cons (.str _) ih
          have lay : ∀ l : List (List Nat), (∀ x ∈ l, uni x) → PyData.canLayAll0 (l.map fun x => PyData.str (SX.S x)) = true ∧ PyData.depthAll (l.map fun x => PyData.str (SX.S x)) ≤ 0 := fun l => by
            induction l with
            | nil => exact fun _ => ⟨rfl, Nat.zero_le _⟩
            | cons x l ih =>
              intro h
              obtain ⟨h1, h2⟩ := ih fun y hy => h y (List.mem_cons_of_mem _ hy)
              constructor
              · show (PyData.strOk (SX.S x) && PyData.canLayAll0 (l.map fun x => PyData.str (SX.S x))) = true
                rw [uni_ok (h x List.mem_cons_self), h1]
                rfl
              · rw [List.map_cons, PyData.depthAll.eq_2]
                have : (PyData.str (SX.S x)).depth = 0 := rfl
                omega
          obtain ⟨l1, l2⟩ := lay ws fun x hx => (hw x hx).tx.2.2
          refine ⟨_, _, .lst (SqL.of hpq) (dws _ ws), .lst (SqL.of upd_same) .nil, shaped_list l1 (by omega), by decide +kernel, _, rfl, ?_⟩
          have ev : PyData.eqv (.list (ws.map fun x => PyData.str (SX.S x))) (.list []) = false := by
            cases ws with
            | nil => exact absurd rfl wne
            | cons x l => rfl
          rw [ev]
          have hF7 := hF6.same sq
          have b7 := b6.trans (But.of (a := a) sq)
          have hps7 := sq _ _ hps
          generalize upd H6 q0 (.lst []) = H7 at *
          refine iteF ⟨_, rfl, rfl, _, rfl, ite2 (fun e => ?_) (fun e => ?_)⟩
          · refine ⟨_, rfl, _, rfl, _, rfl, a, c, p, _, rfl, hF7, hpq, npa, by rw [List.length_map]; exact List.length_pos_iff.mpr wne, by rw [List.length_map]; omega, fun v H' hv hF' b' => ?_⟩
            obtain ⟨x, hx, rfl⟩ := List.mem_map.mp hv
            have hx7 := (hw x hx).tx
            have xnn := (hw x hx).nn
            refine ⟨_, _, rfl, rfl, ?_, ?_⟩
            · have := hx7.1
              rw [SX.S_len, SX.S_len]
              exact small_line (by omega)
            · rw [SX.S_cat]
              exact fin _ _ ((ht.app hx7).mono (by omega) (by omega)) (hrb.non xnn) hF' (b7.trans b')
          · refine ⟨fun σ H8 => FeedOk H8 a c ∧ But a H H8 ∧ ∃ t', TxB (20 * i + 9) (i + 1) t' ∧ RB t' ∧ σ = [some (.ref a), some (.ref p), some (.int 3), some (vS t'), some (.int (0 + (i : Int))), some (.ref ps), some (.int way)], ?_, fun σ H8 hM => ?_⟩
            · refine ⟨_, rfl, _, rfl, ps, lowT u v, lowD u v, rfl, hps7, dpos, Nat.lt_trans n1 (by decide), Nat.lt_trans n2 (by decide), fun H' s' => ⟨_, _, rfl, rfl, ?_, ?_⟩⟩
              · have := tx.1
                rw [SX.S_len, SX.S_len]
                exact small_line (by omega)
              rw [SX.S_cat]
              refine ⟨_, rfl, a, c, rfl, hF7.same s', fun g H8 hg nng hF8 b8 => ⟨_, _, rfl, rfl, ?_, _, _, rfl, rfl, ?_, ?_⟩⟩
              · have := tx.1
                have := hg.1
                rw [SX.S_len, SX.S_len, List.length_append]
                exact small_line (by omega)
              · have := tx.1
                have := hg.1
                rw [SX.S_cat, starS, SX.S_len, SX.S_len, List.length_append, List.length_append]
                exact small_line (by show _ + 1 ≤ 1000; omega)
              · rw [SX.S_cat, starS, SX.S_cat]
                exact ⟨hF8, (b7.trans (But.of s')).trans b8, _, (((ht.app tx).app hg).app (show TxB 1 0 [42] from ⟨Nat.le_refl _, by decide, fun x h => by rw [List.mem_singleton.mp h]; decide⟩)).mono (by omega) (by omega), ((hrb.ln hln (rb_short tx.1)).non nng).non (nn_one (by decide)), rfl⟩
            obtain ⟨hF8, b8, t2, ht2, hrb2, rfl⟩ := hM
            have hp8 := b8 _ _ npa hp
            have t2l : t2.length ≤ 49 := Nat.le_trans ht2.1 (by omega)
            refine ⟨_, rfl, _, rfl, a, c, rfl, hF8, fun g H9 hg nng hF9 b9 => ⟨_, _, rfl, rfl, ?_, ?_⟩⟩
            · have := hg.1
              rw [SX.S_len, SX.S_len]
              exact small_line (by omega)
            rw [SX.S_cat]
            refine ⟨_, rfl, _, rfl, a, c, p, _, rfl, hF9, b9 _ _ npa hp8, npa, by rw [List.length_map]; exact List.length_pos_iff.mpr wne, by rw [List.length_map]; omega, fun v H' hv hF' b' => ?_⟩
            obtain ⟨x, hx, rfl⟩ := List.mem_map.mp hv
            have hx7 := (hw x hx).tx
            have xnn := (hw x hx).nn
            refine ⟨_, _, rfl, rfl, ?_, ?_⟩
            · have := hx7.1
              have := hg.1
              rw [SX.S_len, SX.S_len, List.length_append]
              exact small_line (by omega)
            · rw [SX.S_cat]
              exact fin _ _ (((ht2.app hg).app hx7).mono (by omega) (by omega)) ((hrb2.non nng).non xnn) hF' (b8.trans (b9.trans b'))
      · clear hrb hln
        obtain ⟨t, y4, y5, y6, ht, hrb, _, hF3, b3, rfl⟩ := hq
        exact ⟨t, y4, y5, y6, ht.mono (by split <;> omega) (by split <;> omega), hrb, hF3, b3, rfl⟩
    clear hrb hln
    obtain ⟨t, y4, y5, y6, ht, hrb, hF2, b2, rfl⟩ := hM
    exact ⟨_, rfl, q t H2 ht hrb hF2 b2⟩
end
section
variable {P : Program} {w : World} {K : PySem.W.Frag} {mg : Str → Option Value} {base : Heap} {fa : Nat → Addr} {fd : Nat → FuncData}
/-- the text of a tie -/
def spDText (K : PySem.W.Frag) : Sp := fun vs H Q _ => ∃ (a c p : Addr) (ws : List (List Nat)), vs = [.ref a, .ref p] ∧ FeedOk H a c ∧ p ≠ a ∧ H p = some (.lst (ws.map vS)) ∧ ws ≠ [] ∧ ws.length ≤ 10 ∧ (∀ x ∈ ws, NameL x) ∧ ∀ t H', TxB 126 6 t → RB t → FeedOk H' a c → But a H H' → Q (vS t) H'
theorem ok_drawn_text (T : Txt K mg fa fd) : FnOk P w K mg base CX0 5 (fa 68) (fd 68) ["_law_feed_here", "_law_words_here"] (spDText K) := by
  refine T.F_drawn_text.ok sc_drawn_text (fun vs H Q E h => ?_) (fun cdv A outer s H vs Q E hr h => ?_)
  · obtain ⟨a, c, p, ws, rfl, _⟩ := h
    rfl
  · obtain ⟨a, c, p, ws, rfl, hF, npa, hp, wne, wl, hw, q⟩ := h
    refine ⟨_, (C8.pss_cut (ps_par (i := 2) (j := 3) (by rfl) sc_drawn_text.nd rfl rfl (by decide) rfl rfl (pa_cons (pe_call (ok_drawn_sum T) (hr.mono (by decide)) (by rfl) T.g_drawn_sum T.F_drawn_sum.kp T.b_drawn_sum .nil pass0 (pa_cons (pv 0) (pa_cons (pv 1) (pa_cons pe_int pa_nil)))) (pa_cons (pe_call (ok_drawn_sum T) (hr.mono (by decide)) (by rfl) T.g_drawn_sum T.F_drawn_sum.kp T.b_drawn_sum .nil pass0 (pa_cons (pv 0) (pa_cons (pv 1) (pa_cons pe_int pa_nil)))) pa_nil)) (by rfl))
      (C8.pss_cut (ps_set (i := 4) sc_drawn_text.nd rfl (.inl rfl) (pe_op op_add_str (pe_op op_add_str (pe_call (ok_gap T) (hr.mono (by decide)) (by rfl) T.g_gap T.F_gap.kp T.b_gap .nil pass0 (pa_cons (pv 0) pa_nil)) (pe_call (ok_any T) (hr.mono (by decide)) (by rfl) T.g_any T.F_any.kp T.b_any .nil pass0 (pa_cons (pv 0) (pa_cons (pe_lst (pa_cons pe_str (pa_cons pe_str (pa_cons pe_str (pa_cons pe_str pa_nil))))) pa_nil)))) (pe_call (ok_gap T) (hr.mono (by decide)) (by rfl) T.g_gap T.F_gap.kp T.b_gap .nil pass0 (pa_cons (pv 0) pa_nil))))
      (pss_one (ps_ret (pe_op op_add_str (pe_op op_add_str (pe_op op_add_str (pe_op op_add_str (pe_call (ok_gap T) (hr.mono (by decide)) (by rfl) T.g_gap T.F_gap.kp T.b_gap .nil pass0 (pa_cons (pv 0) pa_nil)) (pv 2)) (pv 4)) (pv 3)) (pe_call (ok_gap T) (hr.mono (by decide)) (by rfl) T.g_gap T.F_gap.kp T.b_gap .nil pass0 (pa_cons (pv 0) pa_nil))))))), ?_⟩
    refine ⟨fun σ H1 => ∃ l r, TxB 58 3 l ∧ TxB 58 3 r ∧ RB l ∧ RB r ∧ FeedOk H1 a c ∧ But a H H1 ∧ σ = [some (.ref a), some (.ref p), some (vS l), some (vS r), none], ?_, fun σ H1 hM => ?_⟩
    · refine ⟨_, rfl, _, rfl, a, c, p, ws, rfl, hF, npa, hp, wne, wl, hw, fun l H1 hl rl hF1 b1 => ⟨_, rfl, _, rfl, a, c, p, ws, rfl, hF1, npa, b1 _ _ npa hp, wne, wl, hw, fun r H2 hr rr hF2 b2 => ⟨_, _, rfl, l, r, hl, hr, rl, rr, hF2, b1.trans b2, rfl⟩⟩⟩
    obtain ⟨l, r, hl, hr, rl, rr, hF1, b1, rfl⟩ := hM
    refine ⟨fun σ H2 => ∃ m, TxB 6 0 m ∧ NN m ∧ m ≠ [] ∧ FeedOk H2 a c ∧ But a H H2 ∧ σ = [some (.ref a), some (.ref p), some (vS l), some (vS r), some (vS m)], ?_, fun σ H2 hM => ?_⟩
    · refine ⟨_, rfl, a, c, rfl, hF1, fun g H2 hg nng hF2 b2 => ⟨_, rfl, small_line (by show 4 ≤ 1000; decide), fun p1 np1 => ⟨a, c, p1, _, rfl, hF2.new np1, upd_same, new_ne hF2 np1, by decide, by decide, fun v H3 hv hF3 b3 => ?_⟩⟩⟩
      obtain ⟨x, rfl, hx, nnx, xne⟩ : ∃ x, v = vS x ∧ TxB 2 0 x ∧ NN x ∧ x ≠ [] := by
        rw [leS, geS, eqS] at hv
        simp only [List.mem_cons, List.not_mem_nil, or_false] at hv
        have two : ∀ a b : Nat, pm a = false → pm b = false → a < 128 → b < 128 → TxB 2 0 [a, b] := fun a b h1 h2 h3 h4 => by
          refine ⟨Nat.le_refl _, ?_, fun x hx => ?_⟩
          · rw [List.countP_cons, List.countP_cons, h1, h2]
            exact Nat.le_refl _
          · simp at hx
            rcases hx with rfl | rfl <;> omega
        rcases hv with rfl | rfl | rfl | rfl
        · exact ⟨_, rfl, two _ _ (by decide) (by decide) (by decide) (by decide), by unfold NN; decide, by simp⟩
        · exact ⟨_, rfl, two _ _ (by decide) (by decide) (by decide) (by decide), by unfold NN; decide, by simp⟩
        · exact ⟨_, rfl, ⟨by decide, by decide, fun x h => by rw [List.mem_singleton.mp h]; decide⟩, by unfold NN; decide, by simp⟩
        · exact ⟨_, rfl, two _ _ (by decide) (by decide) (by decide) (by decide), by unfold NN; decide, by simp⟩
      have b13 := b2.trans ((But.of (a := a) (same_upd np1)).trans b3)
      refine ⟨_, _, rfl, rfl, ?_, ?_⟩
      · have := (hg.app hx).1
        rw [SX.S_len, SX.S_len]
        rw [List.length_append] at this
        exact small_line (by omega)
      rw [SX.S_cat]
      refine ⟨_, rfl, a, c, rfl, hF3, fun g2 H4 hg2 nng2 hF4 b4 => ⟨_, _, rfl, rfl, ?_, ?_⟩⟩
      · have := ((hg.app hx).app hg2).1
        rw [List.length_append] at this
        rw [SX.S_len, SX.S_len]
        exact small_line (by omega)
      · rw [SX.S_cat]
        exact ⟨_, ((hg.app hx).app hg2).mono (by decide) (by decide), (nng.app nnx).app nng2, by simp [xne], hF4, b1.trans (b13.trans b4), rfl⟩
    obtain ⟨m, hm, nnm, mne, hF2, b2, rfl⟩ := hM
    refine ⟨_, rfl, a, c, rfl, hF2, fun g H3 hg nng hF3 b3 => ?_⟩
    have h1 := hg.app hl
    have h2 := h1.app hm
    have h3 := h2.app hr
    refine ⟨_, rfl, _, _, rfl, rfl, ?_, ?_⟩
    · have := h1.1
      rw [List.length_append] at this
      rw [SX.S_len, SX.S_len]
      exact small_line (by omega)
    rw [SX.S_cat]
    refine ⟨_, rfl, _, _, rfl, rfl, ?_, ?_⟩
    · have := h2.1
      rw [List.length_append] at this
      rw [SX.S_len, SX.S_len]
      exact small_line (by omega)
    rw [SX.S_cat]
    refine ⟨_, rfl, _, _, rfl, rfl, ?_, ?_⟩
    · have := h3.1
      rw [List.length_append] at this
      rw [SX.S_len, SX.S_len]
      exact small_line (by omega)
    rw [SX.S_cat]
    refine ⟨_, rfl, a, c, rfl, hF3, fun g2 H4 hg2 nng2 hF4 b4 => ⟨_, _, rfl, rfl, ?_, ?_⟩⟩
    · have := (h3.app hg2).1
      rw [List.length_append] at this
      rw [SX.S_len, SX.S_len]
      exact small_line (by omega)
    · rw [SX.S_cat]
      refine q _ H4 ((h3.app hg2).mono (by decide) (by decide)) ?_ hF4 (b2.trans (b3.trans b4))
      exact ((((rb_short (t := []) (by decide)).non nng |>.ln (ln_nil.non nng) rl).non nnm).ln (ln_end nnm mne) rr).non nng2
end
section
variable {P : Program} {w : World} {K : PySem.W.Frag} {mg : Str → Option Value} {base : Heap} {fa : Nat → Addr} {fd : Nat → FuncData}
/-! ### what is told of an error -/
def tagsV (l : List String) : List V := l.map fun x => V.str (Str.ofString x)
def fieldOf (tag : Str) : Option Str :=
  if inV (.str tag) (tagsV ["InvalidRatio", "InvalidTimes", "InvalidLimit"]) = true then some "given" else
  if inV (.str tag) (tagsV ["InvalidRow", "InvalidTie", "InvalidWish", "ParseError"]) = true then some "at" else
  if inV (.str tag) (tagsV ["InvalidName", "SameName", "UnknownName"]) = true then some "name" else
  if inV (.str tag) (tagsV ["DuplicateLabel", "UnknownLabel"]) = true then some "label" else
  if decide (V.str tag = V.str "NotTied") = true then some "many" else
  if decide (V.str tag = V.str "CapacityExceeded") = true then some "most" else
  if decide (V.str tag = V.str "InvalidCommand") = true then some "first" else none
def FldOk (K : PySem.W.Frag) (C : Addr) (fs : List (Str × V)) (tag : Str) (v : V) : Prop := match fieldOf tag with
  | some n => PySem.W.findIn K (.ref C) n = some none ∧ fs.lookup n = some v
  | none => v = .non
def spField (K : PySem.W.Frag) (p : Addr × Obj) : Sp := fun vs H Q _ => vs = [.ref p.1] ∧ ∃ (C dd : Addr) (fs : List (Str × V)) (tag : Str) (v : V), Xat K p C dd ∧ PySem.W.findIn K (.ref C) "tag" = some none ∧ H dd = some (.xd fs) ∧ fs.lookup ("tag" : Str) = some (.str tag) ∧ FldOk K C fs tag v ∧
  ∀ H', Same H H' → Q v H'
theorem fld_of {K : PySem.W.Frag} {C : Addr} {fs : List (Str × V)} {tag : Str} {v : V} {n : Str} (h : FldOk K C fs tag v) (e : fieldOf tag = some n) : PySem.W.findIn K (.ref C) n = some none ∧ fs.lookup n = some v := by
  unfold FldOk at h
  rw [e] at h
  exact h
theorem fld_none {K : PySem.W.Frag} {C : Addr} {fs : List (Str × V)} {tag : Str} {v : V} (h : FldOk K C fs tag v) (e : fieldOf tag = none) : v = .non := by
  unfold FldOk at h
  rw [e] at h
  exact h
theorem ok_field (T : Txt K mg fa fd) : FnP P w K mg base 1 (fa 49) (fd 49) ["_law_e"] (spField K) := by
  refine fn_ofP T.F_field sc_field (fun p vs H Q E h => ?_) (fun cdv A outer s H vs Q p hr h => ?_)
  · obtain ⟨rfl, _⟩ := h
    rfl
  · obtain ⟨rfl, C, dd, fs, tag, v, X, ht, hd, lt, hf, q⟩ := h
    refine ⟨_, (pss_cons (ps_if (pt_cmpR op_in_seq (pe_xp (by exact List.mem_cons_self) (pv 0)) (pe_tup (pa_cons pe_str (pa_cons pe_str (pa_cons pe_str pa_nil)))) (by rfl)) (pss_one (ps_ret (pe_xp (by exact List.mem_cons_self) (pv 0)))) pss_nil)
      (pss_cons (ps_if (pt_cmpR op_in_seq (pe_xp (by exact List.mem_cons_self) (pv 0)) (pe_tup (pa_cons pe_str (pa_cons pe_str (pa_cons pe_str (pa_cons pe_str pa_nil))))) (by rfl)) (pss_one (ps_ret (pe_xp (by exact List.mem_cons_self) (pv 0)))) pss_nil)
      (pss_cons (ps_if (pt_cmpR op_in_seq (pe_xp (by exact List.mem_cons_self) (pv 0)) (pe_tup (pa_cons pe_str (pa_cons pe_str (pa_cons pe_str pa_nil)))) (by rfl)) (pss_one (ps_ret (pe_xp (by exact List.mem_cons_self) (pv 0)))) pss_nil)
      (pss_cons (ps_if (pt_cmpR op_in_seq (pe_xp (by exact List.mem_cons_self) (pv 0)) (pe_tup (pa_cons pe_str (pa_cons pe_str pa_nil))) (by rfl)) (pss_one (ps_ret (pe_xp (by exact List.mem_cons_self) (pv 0)))) pss_nil)
      (pss_cons (ps_if (pt_cmpR op_eq (pe_xp (by exact List.mem_cons_self) (pv 0)) pe_str (nomark _)) (pss_one (ps_ret (pe_xp (by exact List.mem_cons_self) (pv 0)))) pss_nil)
      (pss_cons (ps_if (pt_cmpR op_eq (pe_xp (by exact List.mem_cons_self) (pv 0)) pe_str (nomark _)) (pss_one (ps_ret (pe_xp (by exact List.mem_cons_self) (pv 0)))) pss_nil)
      (pss_one (ps_ret (pe_ifExp (pt_cmpR op_eq (pe_xp (by exact List.mem_cons_self) (pv 0)) pe_str (nomark _)) (pe_xp (by exact List.mem_cons_self) (pv 0)) pe_non))))))))), ?_⟩
    refine ⟨_, rfl, rfl, C, dd, fs, _, X, ht, hd, lt, Nat.le_of_lt (small1000 (by show 3 ≤ 1000; decide)), fun p1 n1 => ?_⟩
    have s1 := same_upd (o := .tup (tagsV ["InvalidRatio", "InvalidTimes", "InvalidLimit"])) n1
    refine ⟨p1, _, rfl, .inr (SqT.of upd_same), rfl, rfl, _, rfl, ite2 (fun e1 => ?_) (fun e1 => ?_)⟩
    · have hn := fld_of hf (show fieldOf tag = some "given" from if_pos e1)
      exact ⟨_, rfl, rfl, C, dd, fs, _, X, hn.1, s1 _ _ hd, hn.2, q _ s1⟩
    have hd1 := s1 _ _ hd
    refine ⟨_, rfl, rfl, C, dd, fs, _, X, ht, hd1, lt, Nat.le_of_lt (small1000 (by show 4 ≤ 1000; decide)), fun p2 n2 => ?_⟩
    have s2 := s1.trans (same_upd (o := .tup (tagsV ["InvalidRow", "InvalidTie", "InvalidWish", "ParseError"])) n2)
    refine ⟨p2, _, rfl, .inr (SqT.of upd_same), rfl, rfl, _, rfl, ite2 (fun e2 => ?_) (fun e2 => ?_)⟩
    · have hn := fld_of hf (show fieldOf tag = some "at" from (if_neg e1).trans (if_pos e2))
      exact ⟨_, rfl, rfl, C, dd, fs, _, X, hn.1, s2 _ _ hd, hn.2, q _ s2⟩
    have hd2 := s2 _ _ hd
    refine ⟨_, rfl, rfl, C, dd, fs, _, X, ht, hd2, lt, Nat.le_of_lt (small1000 (by show 3 ≤ 1000; decide)), fun p3 n3 => ?_⟩
    have s3 := s2.trans (same_upd (o := .tup (tagsV ["InvalidName", "SameName", "UnknownName"])) n3)
    refine ⟨p3, _, rfl, .inr (SqT.of upd_same), rfl, rfl, _, rfl, ite2 (fun e3 => ?_) (fun e3 => ?_)⟩
    · have hn := fld_of hf (show fieldOf tag = some "name" from (if_neg e1).trans ((if_neg e2).trans (if_pos e3)))
      exact ⟨_, rfl, rfl, C, dd, fs, _, X, hn.1, s3 _ _ hd, hn.2, q _ s3⟩
    have hd3 := s3 _ _ hd
    refine ⟨_, rfl, rfl, C, dd, fs, _, X, ht, hd3, lt, two_line, fun p4 n4 => ?_⟩
    have s4 := s3.trans (same_upd (o := .tup (tagsV ["DuplicateLabel", "UnknownLabel"])) n4)
    refine ⟨p4, _, rfl, .inr (SqT.of upd_same), rfl, rfl, _, rfl, ite2 (fun e4 => ?_) (fun e4 => ?_)⟩
    · have hn := fld_of hf (show fieldOf tag = some "label" from (if_neg e1).trans ((if_neg e2).trans ((if_neg e3).trans (if_pos e4))))
      exact ⟨_, rfl, rfl, C, dd, fs, _, X, hn.1, s4 _ _ hd, hn.2, q _ s4⟩
    have hd4 := s4 _ _ hd
    refine ⟨_, rfl, rfl, C, dd, fs, _, X, ht, hd4, lt, rfl, _, rfl, ite2 (fun e5 => ?_) (fun e5 => ?_)⟩
    · have hn := fld_of hf (show fieldOf tag = some "many" from (if_neg e1).trans ((if_neg e2).trans ((if_neg e3).trans ((if_neg e4).trans (if_pos e5)))))
      exact ⟨_, rfl, rfl, C, dd, fs, _, X, hn.1, hd4, hn.2, q _ s4⟩
    refine ⟨_, rfl, rfl, C, dd, fs, _, X, ht, hd4, lt, rfl, _, rfl, ite2 (fun e6 => ?_) (fun e6 => ?_)⟩
    · have hn := fld_of hf (show fieldOf tag = some "most" from (if_neg e1).trans ((if_neg e2).trans ((if_neg e3).trans ((if_neg e4).trans ((if_neg e5).trans (if_pos e6))))))
      exact ⟨_, rfl, rfl, C, dd, fs, _, X, hn.1, hd4, hn.2, q _ s4⟩
    refine ⟨_, rfl, rfl, C, dd, fs, _, X, ht, hd4, lt, rfl, _, rfl, ite2 (fun e7 => ?_) (fun e7 => ?_)⟩
    · have hn := fld_of hf (show fieldOf tag = some "first" from (if_neg e1).trans ((if_neg e2).trans ((if_neg e3).trans ((if_neg e4).trans ((if_neg e5).trans ((if_neg e6).trans (if_pos e7)))))))
      exact ⟨_, rfl, rfl, C, dd, fs, _, X, hn.1, hd4, hn.2, q _ s4⟩
    · have hn := fld_none hf (show fieldOf tag = none from (if_neg e1).trans ((if_neg e2).trans ((if_neg e3).trans ((if_neg e4).trans ((if_neg e5).trans ((if_neg e6).trans (if_neg e7)))))))
      rw [hn] at q
      exact q _ s4
end
section
variable {fa : Nat → Addr} {fd : Nat → FuncData}
/-- an error, as why tells of it -/
def WhyE (K : PySem.W.Frag) (Tie Miss : Addr) (Q : VK) : XK := fun cls d H' => ∃ (C dd : Addr) (fs : List (Str × V)) (tag : Str) (v : V), cls = .ref C ∧ d = some dd ∧ PySem.W.exmAny K (.ref C) [.ref Tie, .ref Miss] = some true ∧ XfC K C ∧ PySem.W.findIn K (.ref C) "tag" = some none ∧ H' dd = some (.xd fs) ∧
  fs.lookup ("tag" : Str) = some (.str tag) ∧ FldOk K C fs tag v ∧ ∀ p H'', Same H' H'' → H'' p = some (.tup [.str tag, v]) → Q (.ref p) H''
def TTWhy (K : PySem.W.Frag) (Tie Miss : Addr) : (XK → Hp → VK → Prop) → Hp → VK → Prop := fun tl H Q => ∀ (H1 : Hp) (Q' : VK) (E' : XK), Same H H1 → (∀ v H', (∀ p, H' p = none → Q (.ref p) (upd H' p (.tup [.str "", v]))) → Q' v H') →
  (∀ cls d H', WhyE K Tie Miss Q cls d H' → E' cls d H') → tl E' H1 Q'
def tSuite (K : PySem.W.Frag) : Addr → Value → Option Addr → TS := fun a cls d D σ H => ∃ (C dd : Addr) (fs : List (Str × V)) (tag : Str) (v : V), cls = .ref C ∧ d = some dd ∧ XfC K C ∧ PySem.W.findIn K (.ref C) "tag" = some none ∧ H dd = some (.xd fs) ∧
  fs.lookup ("tag" : Str) = some (.str tag) ∧ FldOk K C fs tag v ∧ (σ.length = 3 → σ[2]? = some (some (.ref a))) ∧ ∀ p H'', σ.length = 3 → Same H H'' → H'' p = some (.tup [.str tag, v]) → D.nx (σ.set 1 (some (.ref p))) H''
theorem why_gives {X : Cx} (T : Txt X.K X.mg fa fd) {k : Nat} (hr : Room (k + 2) X.A) {cdg : Value} {q : Str} : LamX.GivesTo X ["_law_ask", "_law_told", "_law_e"] "_law_why" (defScope s_why) (fa 50) cdg (defBody s_why) "_law_ask" q (TTWhy X.K (fa 1) (fa 5)) := by
  intro f c' s H Q tl act hc h
  have F : FnP X.prog X.w X.K X.mg X.base 1 (fa 49) (fd 49) ["_law_e"] (spField X.K) := ok_field T
  refine ⟨_, pss_cons (ps_set (i := 1) sc_why.nd rfl (.inl rfl) (pe_tup (pa_cons pe_str (pa_cons pe_non pa_nil))))
    (pss_cons (ps_try_tup (i := 2) (tb := fun W D σ H => ∃ Ech : XK, (∀ cls d σ' H', Ech cls d H' → W cls d σ' H') ∧ σ[0]? = some (some (.ref f)) ∧ H c' = some (LamX.CodeO c' q) ∧ tl Ech H fun v H' => [V.str "", v].length ≤ sizeLine ∧ ∀ p, H' p = none → D.nx (σ.set 1 (some (.ref p))) (upd H' p (.tup [.str "", v]))) (ts := tSuite X.K)
        rfl rfl sc_why.nd rfl rfl rfl T.gTieError rfl T.gMissing (fun W pn xe tk _ => ?_) (fun a oe cls d pn hz hf => ?_))
    (pss_one (ps_ret (pv 1)))), ?_⟩
  · refine ⟨fun pins s' σ H' D I h' => ?_⟩
    obtain ⟨Ech, hW, h1, h2, h3⟩ := h'
    exact (pss_one (ps_set (i := 1) sc_why.nd rfl (.inl rfl) (pe_tup (pa_cons pe_str (pa_cons (act W pn xe Ech _ _ tk hW) pa_nil))))).run pins s' σ H' D I ⟨h1, h2, h3⟩
  · refine ⟨fun pins s' σ H' D I h' => ?_⟩
    obtain ⟨C, dd, fs, tag, v, rfl, rfl, xf, ht, hd, lt, hv, h2, h3⟩ := h'
    have l3 : σ.length = 3 := I.len
    have h2 := h2 l3
    have hx : Xat X.K (a, oe) C dd := ⟨hz, hf, xf⟩
    refine (pss_one (ps_set (i := 1) sc_why.nd rfl (.inl rfl) (pe_tup (pa_cons (pe_xp (X := (cxOf C8.CX0 X.prog X.w X.K X.mg X.base ["_law_ask", "_law_told", "_law_e"] "_law_why" (defScope s_why) (fa 50) cdg X.A X.stack s H C8.E0).nox.suite a ((a, oe) :: pn)) (p := (a, oe)) (by exact List.mem_cons_self) (pv 2)) (pa_cons (pe_callP (X := (cxOf C8.CX0 X.prog X.w X.K X.mg X.base ["_law_ask", "_law_told", "_law_e"] "_law_why" (defScope s_why) (fa 50) cdg X.A X.stack s H C8.E0).nox.suite a ((a, oe) :: pn)) (p := (a, oe)) F ?_ (by exact List.mem_cons_self) (by rfl) T.g_field T.F_field.kp T.b_field (pa_cons (pv 2) pa_nil)) pa_nil))))).run pins s' σ H' D I ?_
    · have r := hr.deeper (envOfC "_law_why" (defScope s_why) s.heap.objs.size (fa 50) cdg)
      exact ⟨by have := r.dp; show (X.A.deeper (envOfC "_law_why" (defScope s_why) s.heap.objs.size (fa 50) cdg)).depth + 3 * 1 + 5 < recursionLimit; omega, by have := r.un; show (X.A.deeper (envOfC "_law_why" (defScope s_why) s.heap.objs.size (fa 50) cdg)).units + 16 * 1 + 200 < cLine; omega⟩
    · refine ⟨_, h2, rfl, C, dd, fs, _, hx, ht, hd, lt, _, h2, rfl, C, dd, fs, tag, v, hx, ht, hd, lt, hv, fun H2 s2 => ⟨two_line, fun p np => ?_⟩⟩
      exact h3 p _ l3 (s2.trans (same_upd np)) upd_same
  · refine ⟨two_line, fun p np => ⟨WhyE X.K (fa 1) (fa 5) Q, ?_, rfl, same_upd np _ _ hc, h _ _ _ (same_upd np) (fun v H' hQ => ⟨two_line, fun p np => ⟨_, rfl, hQ p np⟩⟩) fun _ _ _ z => z⟩⟩
    rintro cls d σ' H' ⟨C, dd, fs, tag, v, rfl, rfl, ha, xf, ht, hd, lt, hv, h3⟩
    refine ⟨ha, fun a na => ⟨C, dd, fs, tag, v, rfl, rfl, xf, ht, hd, lt, hv, fun l => ?_, fun p H'' l s2 hp => ?_⟩⟩
    · rw [List.length_set] at l
      rw [List.getElem?_set_self (by omega)]
    · rw [List.length_set] at l
      match σ', l with
      | [a0, a1, a2], _ => exact ⟨_, rfl, h3 p H'' s2 hp⟩
end
section
variable {fa : Nat → Addr} {fd : Nat → FuncData}
/-- why(lambda: body) -/
theorem pe_why {X : Cx} (T : Txt X.K X.mg fa fd) {c P : Addr} {k : Nat} {params : Arguments} {body : Expr} {scope : Scope} {t : XK → TE} {p lpos pos : Pos} (TB : LamX.TabB X.base X.mg c P) (hcode : X.env.code = .ref c) (hr : Room (k + 2) X.A) (hg : Gl X "_law_why") (L : LamX.LamS X.env.scope scope)
    (hbody : ∀ (A : Around) (outer : List Env) (s : Shared) (H : Hp) (E : XK) (f c' : Addr), Room k (A.deeper (LamX.lamEnv X scope s.heap.objs.size f c')) → PE (LamX.lamCx X A outer s H E scope f c') body (t E))
    (hdef : defaultsOf params X.env = ([], []) := by rfl) (hbind : ∀ (q : Str) (cl : List (Str × Addr)) (pm cv ctv : Value), bindArgs (PySem.W.kla_fn "<lambda>" q params body scope cl pm cv ctv) ⟨[], []⟩ = pure [] := by intros; rfl) :
    PE X (.Call (.Name "_law_why" p) [.Lambda params body scope lpos] [] pos) (LamX.tLam [(P, X.env.qual ++ "<lambda>")] (TTWhy X.K (fa 1) (fa 5)) t) := by
  obtain ⟨oc, od, kV, doc, pm, an, cdv, ct, osl, e, lk, hcd⟩ := T.F_why.ex
  rw [e] at lk
  have hb := T.b_why
  rw [e] at hb
  refine LamX.pe_lamcall (X := X) (T := [(P, X.env.qual ++ "<lambda>")]) (a := "_law_ask") (Ng := ["_law_ask", "_law_told", "_law_e"]) hg T.g_why T.F_why.kp lk hcd hb sc_why rfl (.inl rfl) (why_gives T hr) TB hcode List.mem_cons_self (fun q hq _ => ?_) hr L hdef hbind hbody
  rw [List.mem_singleton.mp hq]
end
/-! ### more of heaps, data, errors -/
theorem tabs_but {L : List (Addr × Str)} {H H' : Hp} {a c : Addr} (hF : FeedOk H a c) (b : But a H H') (t : LamX.Tabs L H) : LamX.Tabs L H' := fun p hp => by
  obtain ⟨ns, k, big, mark, ha, _⟩ := hF
  obtain ⟨ps, h1, h2, h3⟩ := t p hp
  refine ⟨ps, b _ _ (ne_of h1 ha (by intro z; cases z)) h1, h2, fun pos cv hc => ?_⟩
  obtain ⟨c', e1, e2⟩ := h3 pos cv hc
  exact ⟨c', e1, b _ _ (ne_of e2 ha (by intro z; unfold LamX.CodeO at z; cases z)) e2⟩
theorem FeedOk.ext {H H' : Hp} {a c : Addr} (h : FeedOk H a c) (s : LamX.ExtN H H') : FeedOk H' a c := by
  obtain ⟨ns, k, big, mark, h1, h2, h3⟩ := h
  exact ⟨ns, k, big, mark, s _ _ h1 (by intro ps z; cases z), s _ _ h2 (by intro ps z; cases z), h3⟩
theorem eqd_bl {H : Hp} {n : Nat} (b : Bool) : Eqd H n (.bl b) (.bl b) := Eqd.leaf ⟨rfl, .inr (.inl ⟨b, rfl⟩)⟩
def Fr (H : Hp) (p : Addr) (f : Int × Int) : Prop := H p = some (.tup [.int f.1, .int f.2])
theorem Fr.ext {H H' : Hp} {p : Addr} {f : Int × Int} (h : Fr H p f) (s : LamX.ExtN H H') : Fr H' p f := s _ _ h (by intro ps z; cases z)
theorem Fr.but {H H' : Hp} {a c p : Addr} {f : Int × Int} (hF : FeedOk H a c) (b : But a H H') (h : Fr H p f) : Fr H' p f := by
  obtain ⟨ns, k, big, mark, ha, _⟩ := hF
  exact b _ _ (ne_of h ha (by intro z; cases z)) h
theorem eqd_fr {H : Hp} {p q : Addr} {f : Int × Int} (h1 : Fr H p f) (h2 : Fr H q f) : Eqd H 1 (.ref p) (.ref q) := by
  refine .inr ⟨p, q, _, _, rfl, rfl, .inr ⟨h1, h2⟩, rfl, (by show 2 ≤ 1000; decide), fun i y z e1 e2 => ?_⟩
  have e : y = z := Option.some.inj (e1.symm.trans e2)
  subst e
  match i, e1 with
  | 0, e1 => cases e1; exact ⟨rfl, .inr (.inr (.inl ⟨_, rfl⟩))⟩
  | 1, e1 => cases e1; exact ⟨rfl, .inr (.inr (.inl ⟨_, rfl⟩))⟩
theorem Eqd.up {H : Hp} : ∀ {n : Nat} {v w : V}, Eqd H n v w → Eqd H (n + 1) v w
  | 0, _, _, h => .inl h
  | n + 1, _, _, h => by
    rcases h with h | ⟨a, b, xs, ys, e1, e2, h, l1, l2, r⟩
    · exact .inl h
    · exact .inr ⟨a, b, xs, ys, e1, e2, h, l1, l2, fun i x y h1 h2 => Eqd.up (r i x y h1 h2)⟩
section
variable {P : Program} {w : World} {K : PySem.W.Frag} {mg : Str → Option Value} {base : Heap} {fa : Nat → Addr} {fd : Nat → FuncData}
def tbs (Pt : Addr) : List (Addr × Str) := [(Pt, (("law" : Str) ++ ".<locals>.") ++ "<lambda>")]
theorem fieldOf_ratio : fieldOf "InvalidRatio" = some "given" := by decide +kernel
theorem why_ratio (T : Txt K mg fa fd) {Q : VK} {d : Addr} {H : Hp} (hd : H d = some (.xd [("tag", .str "InvalidRatio"), ("given", .int 0)])) (q : ∀ p H'', Same H H'' → H'' p = some (.tup [.str "InvalidRatio", .int 0]) → Q (.ref p) H'') :
    WhyE K (fa 1) (fa 5) Q (.ref (fa 2)) (some d) H := by
  refine ⟨_, d, _, "InvalidRatio", .int 0, rfl, rfl, T.eInvalidRatio.any, T.eInvalidRatio.xf, T.eInvalidRatio.tag, hd, by decide +kernel, ?_, q⟩
  unfold FldOk
  rw [fieldOf_ratio]
  exact ⟨T.nInvalidRatio_given, by decide +kernel⟩
theorem one_line : 1 ≤ sizeLine := Nat.le_trans (by decide : 1 ≤ 2) two_line
theorem four_line : 4 ≤ sizeLine := Nat.le_trans (by decide : 4 ≤ 1000) (Nat.le_of_lt (small1000 (Nat.le_refl _)))
theorem five_line : 5 ≤ sizeLine := Nat.le_trans (by decide : 5 ≤ 1000) (Nat.le_of_lt (small1000 (Nat.le_refl _)))
end
theorem Eqd.le {H : Hp} {n m : Nat} {v w : V} (h : Eqd H n v w) (k : n ≤ m) : Eqd H m v w := by
  induction k with
  | refl => exact h
  | step _ ih => exact ih.up
theorem eqd_bls {H : Hp} {a b : Addr} {bs : List Bool} (ha : H a = some (.lst (bs.map V.bl))) (hb : H b = some (.lst (bs.map V.bl))) (hl : bs.length ≤ 1000) : Eqd H 5 (.ref a) (.ref b) := by
  refine .inr ⟨a, b, _, _, rfl, rfl, .inl ⟨ha, hb⟩, rfl, by rw [List.length_map]; exact hl, fun i y z h1 h2 => ?_⟩
  have e : y = z := Option.some.inj (h1.symm.trans h2)
  subst e
  rw [List.getElem?_map] at h1
  obtain ⟨o, ho, rfl⟩ := Option.map_eq_some_iff.mp h1
  exact eqd_bl o
theorem eqd_strs {H : Hp} {a b : Addr} {l : List Str} (ha : H a = some (.lst (l.map V.str))) (hb : H b = some (.lst (l.map V.str))) (hl : l.length ≤ 1000) : Eqd H 1 (.ref a) (.ref b) := by
  refine .inr ⟨a, b, _, _, rfl, rfl, .inl ⟨ha, hb⟩, rfl, by rw [List.length_map]; exact hl, fun i y z h1 h2 => ?_⟩
  have e : y = z := Option.some.inj (h1.symm.trans h2)
  subst e
  rw [List.getElem?_map] at h1
  obtain ⟨o, ho, rfl⟩ := Option.map_eq_some_iff.mp h1
  exact ⟨rfl, .inr (.inr (.inr ⟨_, rfl⟩))⟩
theorem eqd_int {H : Hp} {n : Nat} (i : Int) : Eqd H n (.int i) (.int i) := Eqd.leaf ⟨rfl, .inr (.inr (.inl ⟨i, rfl⟩))⟩
theorem eqd_tup2 {H : Hp} {n : Nat} {a b : Addr} {v1 v2 w1 w2 : V} (ha : H a = some (.tup [v1, v2])) (hb : H b = some (.tup [w1, w2])) (h1 : Eqd H n v1 w1) (h2 : Eqd H n v2 w2) : Eqd H (n + 1) (.ref a) (.ref b) := by
  refine .inr ⟨a, b, _, _, rfl, rfl, .inr ⟨ha, hb⟩, rfl, (by show 2 ≤ 1000; decide), fun i y z g1 g2 => ?_⟩
  match i, g1, g2 with
  | 0, g1, g2 => cases g1; cases g2; exact h1
  | 1, g1, g2 => cases g1; cases g2; exact h2
theorem eqd_frP {z : Addr} {H : Hp} {v w : V} {f : FR} (h1 : Dt z H v (frP f)) (h2 : Dt z H w (frP f)) : Eqd H 1 v w := by
  obtain ⟨p, rfl, hp⟩ := dt_fr h1
  obtain ⟨q, rfl, hq⟩ := dt_fr h2
  exact eqd_tup2 hp hq (eqd_int _) (eqd_int _)
theorem eqd_tie {z : Addr} {H : Hp} {v w : V} {tl : List (List Nat × FR)} {b : FR} (hl : tl.length ≤ 1000) (h1 : Dt z H v (tieP tl b)) (h2 : Dt z H w (tieP tl b)) : Eqd H 4 v w := by
  obtain ⟨p, t, y, xs, rfl, hp, ht, hxs, hy⟩ := tie_inv h1
  obtain ⟨p', t', y', xs', rfl, hp', ht', hxs', hy'⟩ := tie_inv h2
  have e1 := hxs.len
  have e2 := hxs'.len
  rw [List.length_map] at e1 e2
  refine eqd_tup2 hp hp' ?_ ((eqd_frP hy hy').le (by decide))
  refine .inr ⟨t, t', _, _, rfl, rfl, .inr ⟨ht, ht'⟩, by omega, by omega, fun i y z g1 g2 => ?_⟩
  obtain ⟨d, hd, k1⟩ := DtAll.at i hxs g1
  obtain ⟨d', hd', k2⟩ := DtAll.at i hxs' g2
  have := hd.symm.trans hd'
  cases this
  rw [List.getElem?_map] at hd
  obtain ⟨⟨n, f⟩, he, rfl⟩ := Option.map_eq_some_iff.mp hd
  change Dt _ _ _ (.tuple [.str (SX.S n), frP f]) at k1
  change Dt _ _ _ (.tuple [.str (SX.S n), frP f]) at k2
  match y, k1, z, k2 with
  | _, .tup h1 (.cons (.str _ _) (.cons r1 .nil)), _, .tup h2 (.cons (.str _ _) (.cons r2 .nil)) =>
    exact eqd_tup2 h1 h2 (Eqd.leaf ⟨rfl, .inr (.inr (.inr ⟨_, rfl⟩))⟩) (eqd_frP r1 r2)

section
variable {P : Program} {w : World} {K : PySem.W.Frag} {mg : Str → Option Value} {base : Heap} {fa : Nat → Addr} {fd : Nat → FuncData}
theorem fieldOf_parse : fieldOf "ParseError" = some "at" := by decide +kernel
theorem fieldOf_tied : fieldOf "NotTied" = some "many" := by decide +kernel
theorem why_parse (T : Txt K mg fa fd) {Q : VK} {d : Addr} {H : Hp} {i : Int} (hd : H d = some (.xd [("tag", .str "ParseError"), ("at", .int i)])) (q : ∀ p H'', Same H H'' → H'' p = some (.tup [.str "ParseError", .int i]) → Q (.ref p) H'') :
    WhyE K (fa 1) (fa 5) Q (.ref (fa 4)) (some d) H := by
  refine ⟨_, d, _, "ParseError", .int i, rfl, rfl, T.eParseError.any, T.eParseError.xf, T.eParseError.tag, hd, by rfl, ?_, q⟩
  unfold FldOk
  rw [fieldOf_parse]
  exact ⟨T.nParseError_at, by rfl⟩
theorem why_tied (T : Txt K mg fa fd) {Q : VK} {d : Addr} {H : Hp} {i : Int} (hd : H d = some (.xd [("tag", .str "NotTied"), ("many", .int i)])) (q : ∀ p H'', Same H H'' → H'' p = some (.tup [.str "NotTied", .int i]) → Q (.ref p) H'') :
    WhyE K (fa 1) (fa 5) Q (.ref (fa 3)) (some d) H := by
  refine ⟨_, d, _, "NotTied", .int i, rfl, rfl, T.eNotTied.any, T.eNotTied.xf, T.eNotTied.tag, hd, by rfl, ?_, q⟩
  unfold FldOk
  rw [fieldOf_tied]
  exact ⟨T.nNotTied_many, by rfl⟩
end
theorem eqd_ties {z : Addr} {H : Hp} {a b : Addr} {us vs : List V} {ds : List PyData} (ha : H a = some (.lst us)) (hb : H b = some (.lst vs)) (hu : DtAll z H us ds) (hv : DtAll z H vs ds) (hd : ∀ d ∈ ds, ∃ tl bd, d = tieP tl bd ∧ tl.length ≤ 1000) (hl : ds.length ≤ 1000) : Eqd H 5 (.ref a) (.ref b) := by
  refine .inr ⟨a, b, us, vs, rfl, rfl, .inl ⟨ha, hb⟩, by rw [hu.len, hv.len], by rw [hu.len]; exact hl, fun i x y h1 h2 => ?_⟩
  obtain ⟨d1, e1, r1⟩ := DtAll.at i hu h1
  obtain ⟨d2, e2, r2⟩ := DtAll.at i hv h2
  rw [e1] at e2
  cases e2
  obtain ⟨tl, bd, rfl, l⟩ := hd _ (List.mem_of_getElem? e1)
  exact eqd_tie l r1 r2
theorem res_ties (l : List It) (g : List Nat) (r : List It) (ns : List (List Nat)) (h : ns.length ≤ 2) : (resD l g r ns).length ≤ 2 ∧ ∀ d ∈ resD l g r ns, ∃ tl bd, d = tieP tl bd ∧ tl.length ≤ 1000 := by
  have one : ∀ l r : List It, ∃ tl bd, oneP l r ns = tieP tl bd ∧ tl.length ≤ 1000 := fun l r => by
    refine ⟨_, _, rfl, ?_⟩
    unfold redL tlOf
    rw [List.length_map, List.length_map]
    omega
  unfold resD
  split
  · exact ⟨by simp, fun d hd => by rw [List.mem_singleton.mp hd]; exact one l r⟩
  · split
    · exact ⟨by simp, fun d hd => by rw [List.mem_singleton.mp hd]; exact one r l⟩
    · refine ⟨by simp, fun d hd => ?_⟩
      simp only [List.mem_cons, List.not_mem_nil, or_false] at hd
      rcases hd with rfl | rfl
      · exact one l r
      · exact one r l
section
variable {fa : Nat → Addr} {fd : Nat → FuncData}
/-- why(lambda: body) within a comprehension -/
theorem pe_whyQ {X : Cx} {K : PySem.W.Frag} {mg : Str → Option Value} {q : Str} (eK : X.K = K) (em : X.mg = mg) (eq : X.env.qual = q) (T : Txt K mg fa fd) {c P : Addr} {k : Nat} {params : Arguments} {body : Expr} {scope : Scope} {t : XK → TE} {p lpos pos : Pos} (TB : LamX.TabB X.base mg c P) (hcode : X.env.code = .ref c) (hr : Room (k + 2) X.A) (hg : Gl X "_law_why") (L : LamX.LamS X.env.scope scope)
    (hbody : ∀ (A : Around) (outer : List Env) (s : Shared) (H : Hp) (E : XK) (f c' : Addr), Room k (A.deeper (LamX.lamEnv X scope s.heap.objs.size f c')) → PE (LamX.lamCx X A outer s H E scope f c') body (t E))
    (hdef : defaultsOf params X.env = ([], []) := by rfl) (hbind : ∀ (q : Str) (cl : List (Str × Addr)) (pm cv ctv : Value), bindArgs (PySem.W.kla_fn "<lambda>" q params body scope cl pm cv ctv) ⟨[], []⟩ = pure [] := by intros; rfl) :
    PE X (.Call (.Name "_law_why" p) [.Lambda params body scope lpos] [] pos) (LamX.tLam [(P, q ++ "<lambda>")] (TTWhy K (fa 1) (fa 5)) t) := by
  subst eK em eq
  exact pe_why T TB hcode hr hg L hbody hdef hbind
end
/-! ### the ties of a drawn text can be written and read again -/
theorem items_good {t : List Nat} (rb : RB t) (hS : SyL (symsOf t) 700 20) {l r : List It} {g : List Nat} (hp : parseP (symsOf t) = .ok (l, g, r)) : ∀ it ∈ l ++ r, (it.1 = [] ∨ NameL it.1) ∧ IB 2517480 it.2 := by
  obtain ⟨k1, i1, k2, i2, e1, h1, e2, _⟩ := parse_info hS hp
  have k1l := (List.getElem?_eq_some_iff.mp h1).1
  have kind := syms_kind t t.length (runL spc t 0) (runL_le spc t 0 (Nat.zero_le _))
  have f1 := from_head hS hS.pos e1
  have f2 := from_head hS (hS.wf k1 _ _ h1 rfl (fun z q => by subst q; intro q2; cases q2)) e2
  intro it hit
  have hf : FromS (symsOf t) it := by
    rcases List.mem_append.mp hit with h | h
    · exact f1 it h
    · exact f2 it h
  obtain ⟨hn, f, s, hs, e, hf⟩ := hf
  refine ⟨hn.imp id fun ⟨x, hx, ex⟩ => (kind x hx).1 _ ex, ?_⟩
  rw [e]
  rcases hf with rfl | ⟨x, hx, ex⟩
  · exact IB.sgn ⟨nf_11, 2520, by decide, by decide⟩ hs
  · exact (ib_small ((kind x hx).2 rb _ ex)).sgn hs
theorem res_RT {t : List Nat} (rb : RB t) (hS : SyL (symsOf t) 700 20) {l r : List It} {g : List Nat} (hp : parseP (symsOf t) = .ok (l, g, r)) {ns : List (List Nat)} (hns : Nms (broN (keysL l) (keysL r)) (diff (valL l) (valL r)) ns) (hl : ns.length = 1 ∨ ns.length = 2) :
    ∀ d ∈ resD l g r ns, ∃ u rr B, RT u rr B ∧ d = tieP (rateL (u :: rr)) B := by
  have tw := two_parse hS hp
  have ig := items_good rb hS hp
  have hk : ∀ (l' : List It), (∀ it ∈ l', it ∈ l ++ r) → ∀ x ∈ keysL l', x = [] ∨ NameL x := fun l' h x hx => by
    rcases (keysL_mem l').mp hx with rfl | ⟨it, hit, rfl⟩
    · exact .inl rfl
    · exact (ig it (h it hit)).1
  have kl := hk l fun it h => List.mem_append_left _ h
  have kr := hk r fun it h => List.mem_append_right _ h
  have a := one_RT tw (fun x hx => ((broN_mem _ _).mp hx).elim (kl x) (kr x)) (fun it h => (ig it h).2) hns hl
  have nl := fun x => sumX_nf x l _ nf_01 fun it hit => (tw.nl it hit).1
  have nr := fun x => sumX_nf x r _ nf_01 fun it hit => (tw.nr it hit).1
  have b := one_RT tw.swap (fun x hx => ((broN_mem _ _).mp hx).elim (kr x) (kl x)) (fun it h => (ig it ((List.mem_append.mp h).elim (fun h => List.mem_append_right _ h) (fun h => List.mem_append_left _ h))).2) (hns.swap (keysL_nodup l) (keysL_nodup r) nl nr) hl
  obtain ⟨u, rr, B, h1, h2⟩ := a
  obtain ⟨u', rr', B', h1', h2'⟩ := b
  intro d hd
  unfold resD at hd
  split at hd
  · rw [List.mem_singleton.mp hd]
    exact ⟨u, rr, B, h1, h2⟩
  · split at hd
    · rw [List.mem_singleton.mp hd]
      exact ⟨u', rr', B', h1', h2'⟩
    · simp only [List.mem_cons, List.not_mem_nil, or_false] at hd
      rcases hd with rfl | rfl
      · exact ⟨u, rr, B, h1, h2⟩
      · exact ⟨u', rr', B', h1', h2'⟩
theorem RT.len2 {u : Cf} {r : List Cf} {B : FR} (h : RT u r B) : (rateL (u :: r)).length ≤ 1000 := by
  unfold rateL
  rw [List.length_map, List.length_cons]
  have := h.len
  omega
/-! ### the written texts -/
def isOk (r : Except Nat (List It × List Nat × List It)) (l : List It) (g : List Nat) (q : List It) : Bool := match r with
  | .error _ => false
  | .ok (a, b, c) => decide (a = l) && decide (b = g) && decide (c = q)
theorem isOk_eq {r : Except Nat (List It × List Nat × List It)} {l : List It} {g : List Nat} {q : List It} (h : isOk r l g q = true) : r = .ok (l, g, q) := by
  unfold isOk at h
  split at h
  · cases h
  · rw [Bool.and_eq_true, Bool.and_eq_true, decide_eq_true_eq, decide_eq_true_eq, decide_eq_true_eq] at h
    rw [h.1.1, h.1.2, h.2]
/-- a text, what is read from it -/
structure Wr (t : List Nat) (l : List It) (g : List Nat) (r : List It) (ns : List (List Nat)) (ds : List PyData) : Prop where
  len : t.length ≤ 140
  ct : cT t 0 ≤ 20
  parse : parseP (symsOf t) = .ok (l, g, r)
  many : (namesLR l r).length = 1 ∨ (namesLR l r).length = 2
  nms : Nms (broN (keysL l) (keysL r)) (diff (valL l) (valL r)) ns
  res : resD l g r ns = ds
def w1 : List Nat := [120, 32, 60, 61, 32, 49, 47, 50, 42, 121, 32, 43, 32, 49]
def w2 : List Nat := [51, 32, 61, 32, 50, 42, 120]
def w3 : List Nat := [32, 120, 43, 120, 32, 62, 61, 52, 32]
theorem w1_S : (Str.ofString "x <= 1/2*y + 1" : Str) = SX.S w1 := by decide +kernel
theorem w2_S : (Str.ofString "3 = 2*x" : Str) = SX.S w2 := by decide +kernel
theorem w3_S : (Str.ofString " x+x >=4 " : Str) = SX.S w3 := by decide +kernel
theorem one_res {l r : List It} {ns : List (List Nat)} {tl : List It} {b : FR} (h1 : redL (tlOf (diff (valL l) (valL r)) ns) = tl) (h2 : redF (scl (rts (tlOf (diff (valL l) (valL r)) ns))) (negF (diff (valL l) (valL r) [])) = b) : oneP l r ns = tieP tl b := by
  show tieP (redL _) (redF _ _) = _
  rw [h1, h2]
theorem wr1 : Wr w1 [([120], (1, 1))] [60, 61] [([121], (1, 2)), ([], (1, 1))] [[120], [121]] [tieP [([120], (2, 1)), ([121], (-1, 1))] (2, 1)] := by
  refine ⟨by decide, by decide +kernel, isOk_eq (by decide +kernel), .inr (by decide +kernel), ⟨?_, ?_⟩, ?_⟩
  · rw [show (broN (keysL [([120], (1, 1))]) (keysL [([121], (1, 2)), ([], (1, 1))])).filter (nz (diff (valL [([120], (1, 1))]) (valL [([121], (1, 2)), ([], (1, 1))]))) = [[120], [121]] by decide +kernel]
  · refine .cons (fun x hx => ?_) (List.pairwise_singleton _ _)
    rw [List.map_singleton, List.mem_singleton] at hx
    rw [hx]
    show ltCps (SX.S [121]).cps.toList (SX.S [120]).cps.toList = false
    decide +kernel
  · unfold resD
    rw [if_pos rfl, one_res (tl := [([120], (2, 1)), ([121], (-1, 1))]) (b := (2, 1)) (by decide +kernel) (by decide +kernel)]
theorem wr2 : Wr w2 [([], (3, 1))] [61] [([120], (2, 1))] [[120]] [tieP [([120], (-1, 1))] (-3, 2), tieP [([120], (1, 1))] (3, 2)] := by
  refine ⟨by decide, by decide +kernel, isOk_eq (by decide +kernel), .inl (by decide +kernel), ⟨?_, List.pairwise_singleton _ _⟩, ?_⟩
  · rw [show (broN (keysL [([], (3, 1))]) (keysL [([120], (2, 1))])).filter (nz (diff (valL [([], (3, 1))]) (valL [([120], (2, 1))]))) = [[120]] by decide +kernel]
  · unfold resD
    rw [if_neg (by decide), if_neg (by decide), one_res (tl := [([120], (-1, 1))]) (b := (-3, 2)) (by decide +kernel) (by decide +kernel), one_res (tl := [([120], (1, 1))]) (b := (3, 2)) (by decide +kernel) (by decide +kernel)]
theorem wr3 : Wr w3 [([120], (1, 1)), ([120], (1, 1))] [62, 61] [([], (4, 1))] [[120]] [tieP [([120], (-1, 1))] (-2, 1)] := by
  refine ⟨by decide, by decide +kernel, isOk_eq (by decide +kernel), .inl (by decide +kernel), ⟨?_, List.pairwise_singleton _ _⟩, ?_⟩
  · rw [show (broN (keysL [([120], (1, 1)), ([120], (1, 1))]) (keysL [([], (4, 1))])).filter (nz (diff (valL [([120], (1, 1)), ([120], (1, 1))]) (valL [([], (4, 1))]))) = [[120]] by decide +kernel]
  · unfold resD
    rw [if_neg (by decide), if_pos rfl, one_res (tl := [([120], (-1, 1))]) (b := (-2, 1)) (by decide +kernel) (by decide +kernel)]
theorem Nms.unique {N : List (List Nat)} {D : List Nat → FR} {ns ms : List (List Nat)} (h : Nms N D ns) (k : Nms N D ms) : ns = ms := by
  have e := srt_unique h.srt k.srt ((h.perm.trans k.perm.symm).map SX.S)
  have e2 := congrArg (List.map fun x : Str => x.cps.toList) e
  rw [List.map_map, List.map_map] at e2
  have f : ((fun y : Str => y.cps.toList) ∘ SX.S) = id := by
    funext x
    exact S_list x
  rw [f, List.map_id, List.map_id] at e2
  exact e2
section
variable {t : List Nat} {l r l' r' : List It} {g g' : List Nat} {ns ns' : List (List Nat)} {ds : List PyData}
theorem Wr.same (W : Wr t l g r ns ds) (e : parseP (symsOf t) = .ok (l', g', r')) : l = l' ∧ g = g' ∧ r = r' := by
  rw [W.parse] at e
  injection e with e
  injection e with e1 e
  injection e with e2 e3
  exact ⟨e1, e2, e3⟩
theorem Wr.noerr (W : Wr t l g r ns ds) {i : Nat} (e : parseP (symsOf t) = .error i) : False := by
  rw [W.parse] at e
  cases e
theorem Wr.notmany (W : Wr t l g r ns ds) (e : parseP (symsOf t) = .ok (l', g', r')) (n : ¬((namesLR l' r').length = 1 ∨ (namesLR l' r').length = 2)) : False := by
  obtain ⟨rfl, rfl, rfl⟩ := W.same e
  exact n W.many
theorem Wr.got (W : Wr t l g r ns ds) (e : parseP (symsOf t) = .ok (l', g', r')) (h : Nms (broN (keysL l') (keysL r')) (diff (valL l') (valL r')) ns') : resD l' g' r' ns' = ds := by
  obtain ⟨rfl, rfl, rfl⟩ := W.same e
  rw [← W.nms.unique h]
  exact W.res
end
section
variable {P : Program} {w : World} {K : PySem.W.Frag} {mg : Str → Option Value} {base : Heap} {fa : Nat → Addr} {fd : Nat → FuncData}
def spLaw (K : PySem.W.Frag) (Pt : Addr) : Sp := fun vs H Q _ => ∃ (a : Addr) (ns : List Int), vs = [.ref a] ∧ SqL K H a (ns.map V.int) ∧ ns.length ≤ 63 ∧ LamX.Tabs (tbs Pt) H ∧ ∀ H', Q (.bl true) H'
theorem tabs_lst {L : List (Addr × Str)} {H : Hp} {D : Addr} {xs : List V} {o : HO} (t : LamX.Tabs L H) (hD : H D = some (.lst xs)) : LamX.Tabs L (upd H D o) := fun p hp => by
  obtain ⟨ps, h1, h2, h3⟩ := t p hp
  refine ⟨ps, ?_, h2, fun pos cv hc => ?_⟩
  · rw [upd_ne (ne_of h1 hD (by intro z; cases z))]
    exact h1
  · obtain ⟨c', e1, e2⟩ := h3 pos cv hc
    refine ⟨c', e1, ?_⟩
    rw [upd_ne (ne_of e2 hD (by intro z; unfold LamX.CodeO at z; cases z))]
    exact e2
theorem due_inv {t : List Nat} {d : PyData} {z p : Addr} {H : Hp} (h : Due t d) (hp : Dt z H (.ref p) d) : ∃ (pd pb : Addr) (w : V) (tag : Str) (v : PyData) (l : List PyData) (us : List V), Due t (.tuple [.tuple [.str tag, v], .list l]) ∧ H p = some (.tup [.ref pd, .ref pb]) ∧ H pd = some (.tup [.str tag, w]) ∧ Dt z H w v ∧ H pb = some (.lst us) ∧ DtAll z H us l ∧ pb ≠ z := by
  obtain ⟨tag, v, l, rfl⟩ : ∃ tag v l, d = .tuple [.tuple [.str tag, v], .list l] := by
    cases h with
    | parse i h => exact ⟨_, _, _, rfl⟩
    | many l r g h n => exact ⟨_, _, _, rfl⟩
    | ties l r g h n ns hn => exact ⟨_, _, _, rfl⟩
  match hp with
  | .tup hp (.cons (.tup h1 (.cons (.str _ _) (.cons hw .nil))) (.cons (.lst h2 n2 hl) .nil)) => exact ⟨_, _, _, tag, v, l, _, h, hp, h1, hw, h2, hl, n2⟩
theorem Dt.ext {z : Addr} {H H' : Hp} {v : V} {d : PyData} (h : Dt z H v d) (x : LamX.ExtN H H') : Dt z H' v d := Dt.via (fun a o e k => x a o e (by
  rcases k with ⟨⟨xs, rfl⟩, _⟩ | ⟨xs, rfl⟩
  · intro ps z; cases z
  · intro ps z; cases z)) d v h
theorem DtAll.ext {z : Addr} {H H' : Hp} {v : List V} {d : List PyData} (h : DtAll z H v d) (x : LamX.ExtN H H') : DtAll z H' v d := DtAll.via (fun a o e k => x a o e (by
  rcases k with ⟨⟨xs, rfl⟩, _⟩ | ⟨xs, rfl⟩
  · intro ps z; cases z
  · intro ps z; cases z)) d v h
theorem shaped_pair {tag : Str} (h : PyData.strOk tag = true) (i : Int) : SeqAt.shaped (.tuple [.str tag, .int i]) = true := by
  unfold SeqAt.shaped
  have e : PyData.canLay0 (.tuple [.str tag, .int i]) = (PyData.strOk tag && (true && true)) := rfl
  have d : (PyData.tuple [.str tag, .int i]).depth = 1 := rfl
  rw [e, h, d]
  decide
theorem eqv_tag (tag : Str) (i : Int) : PyData.eqv (.tuple [.str tag, .int i]) (.tuple [.str tag, .int i]) = true := by
  show (decide _ && (_ && true)) = true
  have e : PyData.eqv (.int i) (.int i) = true := by
    first
      | exact decide_eq_true rfl
      | exact beq_self_eq_true i
      | (unfold PyData.eqv; simp)
      | simp [PyData.eqv]
  rw [e]
  simp
theorem cT_pm (t : List Nat) : cT t 0 = t.countP pm := rfl
theorem eqd_dl {z : Addr} {H : Hp} {p : Addr} {v : V} {vs : List V} {ds : List PyData} (hp : H p = some (.lst vs)) (hvs : DtAll z H vs ds) (h : Dt z H v (.list ds)) (hd : ∀ d ∈ ds, ∃ tl bd, d = tieP tl bd ∧ tl.length ≤ 1000) (hl : ds.length ≤ 1000) : Eqd H 5 (.ref p) v := by
  match v, h with
  | _, .lst h2 _ h3 => exact eqd_ties hp h2 hvs h3 hd hl
theorem RT.wr {u : Cf} {r : List Cf} {B : FR} (h : RT u r B) : ∃ ns, Wr (textP (tieQ u r B)) (rateL (u :: r)) [60, 61] [([], B)] ns [tieP (rateL (u :: r)) B] := by
  obtain ⟨ns, h1, h2, h3, h4⟩ := h.read
  have tx := tie_tx h
  exact ⟨ns, tx.1, tx.2.1, h.parse, by rw [h1]; exact h2, h3, h4⟩
theorem ok_p_law (T : Txt K mg fa fd) {c Pt : Addr} (FL : FunC K "law" s_p_law (fa 69) (fd 69) c) (TB : LamX.TabB base mg c Pt) : FnOk P w K mg base CX0 12 (fa 69) (fd 69) ["_law_script"] (spLaw K Pt) := by
  refine FL.ok sc_p_law (fun vs H Q E h => ?_) (fun A outer s H vs Q E hr h => ?_)
  · obtain ⟨a, ns, rfl, _⟩ := h
    rfl
  · obtain ⟨s0, ns, rfl, hS, hlen, hT0, q⟩ := h
    refine ⟨_, (C8.pss_cut (ps_set (i := 1) sc_p_law.nd rfl (.inr rfl) (pe_call (ok_feed T) (hr.mono (by decide)) (by rfl) T.g_feed T.F_feed.kp T.b_feed .nil pass0 (pa_cons (pv 0) pa_nil)))
      (C8.pss_cut (ps_for PassesOwn.never rfl (pi_range1 (by rfl) T.m_range (pa_cons pe_int pa_nil)) (pg_name (i := 2) sc_p_law.nd rfl (.inl rfl)) (C8.pss_cut (ps_set (i := 3) sc_p_law.nd rfl (.inl rfl) (pe_call (ok_words T) (hr.mono (by decide)) (by rfl) T.g_words T.F_words.kp T.b_words .nil pass0 (pa_cons (pv 1) (pa_cons (pe_op op_add pe_int (pe_call (ok_draw T) (hr.mono (by decide)) (by rfl) T.g_draw T.F_draw.kp T.b_draw .nil pass0 (pa_cons (pv 1) (pa_cons pe_int pa_nil)))) pa_nil))))
      (C8.pss_cut (ps_setLc (i := 3) (own := [("_law_name", 9)]) (g := gName 9) (tt := tYes) rfl sc_p_law.nd rfl rfl (sw_true rfl rfl rfl (by decide +kernel)) (pi_list (pv 3)) (blkOk_by (own := [("_law_name", 9)]) (N := ["_law_script", "_law_feed_here", "_law_turn", "_law_words_here", "_law_due", "_law_bonds", "_law_told", "_law_tie", "_law_text", "_law_name"]) (sc := defScope s_p_law) (by decide +kernel)) (fun _ _ _ _ _ => pg_name (i := 9) sc_p_law.nd rfl (Or.inl rfl)) (fun _ _ _ _ _ => pts_nil) (fun _ _ _ _ _ => (pe_op op_add_str (pv 9) (pe_op op_mul_str pe_str (pe_call (ok_draw T) (hr.mono (by decide)) (by rfl) T.g_draw T.F_draw.kp T.b_draw .nil pass0 (pa_cons (pv 1) (pa_cons pe_int pa_nil)))))))
      (C8.pss_cut (ps_set (i := 8) sc_p_law.nd rfl (.inr rfl) (pe_call (ok_drawn_text T) (hr.mono (by decide)) (by rfl) T.g_drawn_text T.F_drawn_text.kp T.b_drawn_text .nil pass0 (pa_cons (pv 1) (pa_cons (pv 3) pa_nil))))
      (C8.pss_cut (ps_asg (pe_call (ok_ties_of T) (hr.mono (by decide)) (by rfl) T.g_ties_of T.F_ties_of.kp T.b_ties_of .nil pass0 (pa_cons (pv 8) pa_nil)) (pg_tup (by rfl) (pgs_cons (pg_name (i := 4) sc_p_law.nd rfl (.inl rfl)) (pgs_cons (pg_name (i := 5) sc_p_law.nd rfl (.inl rfl)) pgs_nil))))
      (C8.pss_cut (ps_set (i := 6) sc_p_law.nd rfl (.inl rfl) (pe_why T TB rfl (hr.mono (by decide)) (by rfl) (LamX.lamS_by (by show LamX.lamSB (defScope s_p_law) _ = true; decide +kernel)) (fun A outer s H E f c2 hr2 => pe_call (k := 8) (ok_p_read_ties T) hr2 (by rfl) T.g_p_read_ties T.F_p_read_ties.kp T.b_p_read_ties .nil (passes_call (takes_of rfl rfl rfl rfl) (fun _ _ _ _ h => h)) (pa_cons (pv 8) pa_nil))))
      (C8.pss_cut (ps_if (PW.pt (pw_or (pt_cmpR op_ne (pe_ix ix_tup (pv 6) pe_int (fun _ _ => rfl)) (pe_ix ix_tup (pv 4) pe_int (fun _ _ => rfl)) (nomark _)) (pw_or (PW.pt (pw_and (pt_cmpR op_ne (pe_ix ix_tup (pv 4) pe_int (fun _ _ => rfl)) pe_str (nomark _)) (pw_and1 (pt_cmpR (op_neD hr.units) (pv 6) (pv 4) (nomark _))))) (pw_or1 (PW.pt (pw_and (pt_cmpR op_eq (pe_ix ix_tup (pv 4) pe_int (fun _ _ => rfl)) pe_str (nomark _)) (pw_and1 (pt_not (pt_val (pe_call (ok_same T 7) (hr.mono (by decide)) (by rfl) T.g_same T.F_same.kp T.b_same .nil pass0 (pa_cons (pe_ix ix_tup (pv 6) pe_int (fun _ _ => rfl)) (pa_cons (pv 5) pa_nil)))))))))))) (pss_one (ps_ret pe_bl)) pss_nil)
      (C8.pss_cut (ps_if (pt_cmpR op_eq (pe_ix ix_tup (pv 4) pe_int (fun _ _ => rfl)) pe_str (nomark _)) (C8.pss_cut (ps_expr (pe_bm0 PySem.F.plainAttrs_list PySem.F.slot_list_clear PySem.F.type_list_clear mt_clear (pe_ix ix_tup (pv 6) pe_int (fun _ _ => rfl))))
      (pss_one (ps_if (pt_not (pt_val (pe_call (ok_same T 7) (hr.mono (by decide)) (by rfl) T.g_same T.F_same.kp T.b_same .nil pass0 (pa_cons (pe_call (ok_p_read_ties T) (hr.mono (by decide)) (by rfl) T.g_p_read_ties T.F_p_read_ties.kp T.b_p_read_ties .nil passL (pa_cons (pv 8) pa_nil)) (pa_cons (pv 5) pa_nil))))) (pss_one (ps_ret pe_bl)) pss_nil))) pss_nil)
      (pss_one (ps_for PassesOwn.never rfl (pi_list (pv 5)) (pg_name (i := 7) sc_p_law.nd rfl (.inl rfl)) (pss_one (ps_if (pt_not (pt_val (pe_call (ok_same T 7) (hr.mono (by decide)) (by rfl) T.g_same T.F_same.kp T.b_same .nil pass0 (pa_cons (pe_call (ok_p_read_ties T) (hr.mono (by decide)) (by rfl) T.g_p_read_ties T.F_p_read_ties.kp T.b_p_read_ties .nil passL (pa_cons (pe_call (ok_p_tie_text T) (hr.mono (by decide)) (by rfl) T.g_p_tie_text T.F_p_tie_text.kp T.b_p_tie_text .nil pass0 (pa_cons (pv 7) pa_nil)) pa_nil)) (pa_cons (pe_lst (pa_cons (pv 7) pa_nil)) pa_nil))))) (pss_one (ps_ret pe_bl)) pss_nil))))))))))))
      (C8.pss_cut (ps_set (i := 6) sc_p_law.nd rfl (.inl rfl) (pe_lst (pa_cons (pe_call (ok_p_read_ties T) (hr.mono (by decide)) (by rfl) T.g_p_read_ties T.F_p_read_ties.kp T.b_p_read_ties .nil passL (pa_cons pe_str pa_nil)) (pa_cons (pe_call (ok_p_read_ties T) (hr.mono (by decide)) (by rfl) T.g_p_read_ties T.F_p_read_ties.kp T.b_p_read_ties .nil passL (pa_cons pe_str pa_nil)) (pa_cons (pe_call (ok_p_read_ties T) (hr.mono (by decide)) (by rfl) T.g_p_read_ties T.F_p_read_ties.kp T.b_p_read_ties .nil passL (pa_cons pe_str pa_nil)) pa_nil)))))
      (C8.pss_cut (ps_set (i := 4) sc_p_law.nd rfl (.inl rfl) (pe_lst (pa_cons (pe_lst (pa_cons (pe_tup (pa_cons (pe_tup (pa_cons (pe_tup (pa_cons pe_str (pa_cons (pe_tup (pa_cons pe_int (pa_cons pe_int pa_nil))) pa_nil))) (pa_cons (pe_tup (pa_cons pe_str (pa_cons (pe_tup (pa_cons (pe_un un_neg pe_int) (pa_cons pe_int pa_nil))) pa_nil))) pa_nil))) (pa_cons (pe_tup (pa_cons pe_int (pa_cons pe_int pa_nil))) pa_nil))) pa_nil)) (pa_cons (pe_lst (pa_cons (pe_tup (pa_cons (pe_tup (pa_cons (pe_tup (pa_cons pe_str (pa_cons (pe_tup (pa_cons (pe_un un_neg pe_int) (pa_cons pe_int pa_nil))) pa_nil))) pa_nil)) (pa_cons (pe_tup (pa_cons (pe_un un_neg pe_int) (pa_cons pe_int pa_nil))) pa_nil))) (pa_cons (pe_tup (pa_cons (pe_tup (pa_cons (pe_tup (pa_cons pe_str (pa_cons (pe_tup (pa_cons pe_int (pa_cons pe_int pa_nil))) pa_nil))) pa_nil)) (pa_cons (pe_tup (pa_cons pe_int (pa_cons pe_int pa_nil))) pa_nil))) pa_nil))) pa_nil))))
      (pss_one (ps_ret (pe_call (ok_same T 7) (hr.mono (by decide)) (by rfl) T.g_same T.F_same.kp T.b_same .nil pass0 (pa_cons (pv 6) (pa_cons (pe_op op_cat (pv 4) (pe_lst (pa_cons (pe_lst (pa_cons (pe_tup (pa_cons (pe_tup (pa_cons (pe_tup (pa_cons pe_str (pa_cons (pe_tup (pa_cons (pe_un un_neg pe_int) (pa_cons pe_int pa_nil))) pa_nil))) pa_nil)) (pa_cons (pe_tup (pa_cons (pe_un un_neg pe_int) (pa_cons pe_int pa_nil))) pa_nil))) pa_nil)) pa_nil))) pa_nil))))))))), ?_⟩
    refine ⟨fun σ H1 => ∃ a c, σ = [some (.ref s0), some (.ref a), none, none, none, none, none, none, none, none] ∧ FeedOk H1 a c ∧ LamX.Tabs (tbs Pt) H1, ⟨_, rfl, s0, ns, rfl, hS, hlen, fun a c H1 _ _ s1 hF => ⟨a, c, rfl, hF, hT0.ext s1⟩⟩, fun σ H1 hM => ?_⟩
    obtain ⟨a, c, rfl, hF, hT1⟩ := hM
    refine ⟨fun σ H2 => FeedOk H2 a c ∧ LamX.Tabs (tbs Pt) H2 ∧ ∃ y2 y3 y4 y5 y6 y7 y8 y9, σ = [some (.ref s0), some (.ref a), y2, y3, y4, y5, y6, y7, y8, y9], ?_, fun σ H2 hM => ?_⟩
    · refine ⟨6, rfl, by decide, by decide, for_range (n := 6) (fun i σ H2 => FeedOk H2 a c ∧ LamX.Tabs (tbs Pt) H2 ∧ ∃ y2 y3 y4 y5 y6 y7 y8 y9, σ = [some (.ref s0), some (.ref a), y2, y3, y4, y5, y6, y7, y8, y9]) ⟨hF, hT1, _, _, _, _, _, _, _, _, rfl⟩ (fun i σ H2 hi hp => ?_) (fun σ H2 hp => hp)⟩
      obtain ⟨hF2, hT2, y2, y3, y4, y5, y6, y7, y8, y9, rfl⟩ := hp
      -- words
      refine ⟨fun σ H3 => FeedOk H3 a c ∧ LamX.Tabs (tbs Pt) H3 ∧ ∃ (p : Addr) (ws : List (List Nat)), p ≠ a ∧ H3 p = some (.lst (ws.map vS)) ∧ 0 < ws.length ∧ ws.length ≤ 3 ∧ (∀ x ∈ ws, LW x) ∧ ∃ y2, σ = [some (.ref s0), some (.ref a), y2, some (.ref p), y4, y5, y6, y7, y8, y9], ?_, fun σ H3 hM => ?_⟩
      · refine ⟨_, rfl, _, rfl, a, c, _, rfl, hF2, mid_of (by decide) (by decide), fun r H3 r0 r1 hF3 b3 => ?_⟩
        obtain ⟨n, rfl⟩ := Int.eq_ofNat_of_zero_le r0
        exact ⟨_, _, rfl, rfl, a, c, 1 + n, rfl, hF3, by omega, fun p ws H4 hF4 b4 npa hp hl _ hw => ⟨hF4, tabs_but hF3 b4 (tabs_but hF2 b3 hT2), p, ws, npa, hp, by omega, by omega, hw, _, rfl⟩⟩
      clear hF2 hT2 y2 y3 H2
      obtain ⟨hF3, hT3, p0, ws0, np0, hp0, hl0, hl1, hw0, y2, rfl⟩ := hM
      -- names with signs
      refine ⟨fun σ H4 => FeedOk H4 a c ∧ LamX.Tabs (tbs Pt) H4 ∧ ∃ (p : Addr) (ws : List (List Nat)), p ≠ a ∧ H4 p = some (.lst (ws.map vS)) ∧ 0 < ws.length ∧ ws.length ≤ 3 ∧ (∀ x ∈ ws, NameL x) ∧ ∃ y2, σ = [some (.ref s0), some (.ref a), y2, some (.ref p), y4, y5, y6, y7, y8, y9], ?_, fun σ H4 hM => ?_⟩
      · refine ⟨_, rfl, p0, rfl, ⟨_, SqL.of hp0⟩, fun D nD => ?_⟩
        have nDa := new_ne hF3 nD
        have nDc := new_nc hF3 nD
        have nDp : D ≠ p0 := fun z => by rw [z, hp0] at nD; cases nD
        refine lc_list (K := K) (a := p0) (xs := ws0.map vS) (fun i G => FeedOk G a c ∧ LamX.Tabs (tbs Pt) G ∧ G p0 = some (.lst (ws0.map vS)) ∧ ∃ ws : List (List Nat), ws.length = i ∧ (∀ x ∈ ws, NameL x) ∧ G D = some (.lst (ws.map vS))) ⟨hF3.new nD, hT3.ext (same_upd nD), same_upd nD _ _ hp0, [], rfl, (fun x h => by cases h), upd_same⟩ (fun i G _ hq => SqL.of hq.2.2.1) (fun i x G hx hq => ?_) (fun G hq => ?_)
        · obtain ⟨hFG, hTG, hpG, ws, wl, hw, hD⟩ := hq
          rw [List.getElem?_map] at hx
          obtain ⟨x, hxi, rfl⟩ := Option.map_eq_some_iff.mp hx
          have hxw := hw0 x (List.mem_of_getElem? hxi)
          have il := (List.getElem?_eq_some_iff.mp hxi).1
          refine ⟨rfl, _, rfl, _, rfl, a, c, _, rfl, hFG, mid_of (by decide) (by decide), fun r H4 r0 r1 hF4 b4 => ?_⟩
          have ap1 : (Str.ofString "'" : Str) = { cps := #[39] } := by decide +kernel
          refine ⟨_, _, rfl, rfl, mul_one1 (by decide +kernel) (by omega) (by omega), _, _, rfl, rfl, ?_, ?_⟩
          · rw [ap1, mul_rep 39 r, SX.S_len, SX.S_len, List.length_replicate]
            have := hxw.2.1
            exact small_line (by omega)
          rw [ap1, mul_rep 39 r, SX.S_cat]
          have hD4 := b4 _ _ nDa hD
          have hp4 := b4 _ _ np0 hpG
          have nm : NameL (x ++ List.replicate r.toNat 39) := by
            refine ⟨x, hxw, ?_⟩
            have : r = 0 ∨ r = 1 := by omega
            rcases this with rfl | rfl
            · exact .inl (List.append_nil x)
            · exact .inr rfl
          refine ⟨ws.map vS, hD4, by rw [List.length_map]; exact small1000 (by omega), hF4.put nDa nDc, tabs_lst (tabs_but hFG b4 hTG) hD4, by rw [upd_ne nDp.symm]; exact hp4, ws ++ [x ++ List.replicate r.toNat 39], by rw [List.length_append, wl]; rfl, fun y hy => ?_, by rw [upd_same, List.map_append]; rfl⟩
          rcases List.mem_append.mp hy with hy | hy
          · exact hw y hy
          · rw [List.mem_singleton.mp hy]
            exact nm
        · obtain ⟨hFG, hTG, hpG, ws, wl, hw, hD⟩ := hq
          rw [List.length_map] at wl
          exact ⟨hFG, hTG, D, ws, nDa, hD, by omega, by omega, hw, _, rfl⟩
      clear hF3 hT3 y2 hp0 hw0 hl0 hl1 np0
      obtain ⟨hF4, hT4, p, ws, npa, hp, hl0, hl1, hw, y2, rfl⟩ := hM
      -- the text
      refine ⟨fun σ H5 => FeedOk H5 a c ∧ LamX.Tabs (tbs Pt) H5 ∧ ∃ t, TxB 126 6 t ∧ RB t ∧ σ = [some (.ref s0), some (.ref a), y2, some (.ref p), y4, y5, y6, y7, some (vS t), y9], ⟨_, rfl, _, rfl, a, c, p, ws, rfl, hF4, npa, hp, List.length_pos_iff.mp hl0, by omega, hw, fun t H5 ht hrb hF5 b5 => ⟨hF5, tabs_but hF4 b5 hT4, t, ht, hrb, rfl⟩⟩, fun σ H5 hM => ?_⟩
      clear hF4 hT4 hp
      obtain ⟨hF5, hT5, t, ht, hrb, rfl⟩ := hM
      have hS : SyL (symsOf t) 700 20 := (symsOf_ok t).mono (by have := ht.1; omega) (Nat.le_trans ht.2.1 (by decide))
      -- due
      refine ⟨fun σ H6 => Same H5 H6 ∧ ∃ (pd pb : Addr) (w : V) (tag : Str) (v : PyData) (l : List PyData) (us : List V), Due t (.tuple [.tuple [.str tag, v], .list l]) ∧ H6 pd = some (.tup [.str tag, w]) ∧ Dt a H6 w v ∧ H6 pb = some (.lst us) ∧ DtAll a H6 us l ∧ pb ≠ a ∧ σ = [some (.ref s0), some (.ref a), y2, some (.ref p), some (.ref pd), some (.ref pb), y6, y7, some (vS t), y9], ?_, fun σ H6 hM => ?_⟩
      · have ha : H5 a ≠ none := by
          obtain ⟨_, _, _, _, e, _⟩ := hF5
          rw [e]
          exact fun z => by cases z
        refine ⟨_, rfl, t, a, rfl, by have := ht.1; omega, Nat.le_trans ht.2.1 (by decide), ht.2.2, ha, fun p d H6 s6 hd hp => ?_⟩
        obtain ⟨pd, pb, w, tag, v, l, us, h1, h2, h3, h4, h5, h6, h7⟩ := due_inv hd hp
        exact ⟨p, _, rfl, .inl (.inl h2), rfl, _, _, rfl, _, _, rfl, rfl, s6, pd, pb, w, tag, v, l, us, h1, h3, h4, h5, h6, h7, rfl⟩
      obtain ⟨s6, pd, pb, w, tag, v, l, us, hdue, hpd, hw6, hpb, hus, npb, rfl⟩ := hM
      have hF6 := hF5.same s6
      have hT6 := hT5.ext s6
      -- what stands in the list
      have hR : ∀ d ∈ l, ∃ u rr B, RT u rr B ∧ d = tieP (rateL (u :: rr)) B := by
        cases hdue with
        | parse j hj => exact fun d hd => by cases hd
        | many l r g h n => exact fun d hd => by cases hd
        | ties l r g h n ns hn =>
          have n2 : ns.length = 1 ∨ ns.length = 2 := by
            have h1 := hn.perm.length_eq
            have e : ∀ l r : List It, (namesLR l r).length = ((broN (keysL l) (keysL r)).filter (nz (diff (valL l) (valL r)))).length := fun _ _ => rfl
            rw [e] at n
            omega
          exact res_RT hrb hS h hn n2
      have l2 : l.length ≤ 2 := by
        cases hdue with
        | parse j hj => exact Nat.zero_le _
        | many l r g h n => exact Nat.zero_le _
        | ties l r g h n ns hn =>
          have n2 : ns.length ≤ 2 := by
            have h1 := hn.perm.length_eq
            have e : ∀ l r : List It, (namesLR l r).length = ((broN (keysL l) (keysL r)).filter (nz (diff (valL l) (valL r)))).length := fun _ _ => rfl
            rw [e] at n
            omega
          exact (res_ties _ _ _ ns n2).1
      have hties : ∀ d ∈ l, ∃ tl bd, d = tieP tl bd ∧ tl.length ≤ 1000 := fun d hd => by
        obtain ⟨u, rr, B, h1, h2⟩ := hR d hd
        exact ⟨_, _, h2, h1.len2⟩
      have hwr : tag = Str.ofString "" → ∃ l0 g r ns, Wr t l0 g r ns l := fun z => by
        cases hdue with
        | parse j hj => exact absurd z (by decide +kernel)
        | many l r g h n => exact absurd z (by decide +kernel)
        | ties l0 r g h n ns hn => exact ⟨l0, g, r, ns, by have := ht.1; omega, Nat.le_trans ht.2.1 (by decide), h, n, hn, rfl⟩
      have nt : ∀ {xs : List V}, ∀ ps, HO.tup xs ≠ .tbl ps := fun {xs} ps z => by cases z
      have nl : ∀ {xs : List V}, ∀ ps, HO.lst xs ≠ .tbl ps := fun {xs} ps z => by cases z
      -- told
      refine ⟨fun σ H7 => FeedOk H7 a c ∧ LamX.Tabs (tbs Pt) H7 ∧ H7 pd = some (.tup [.str tag, w]) ∧ H7 pb = some (.lst us) ∧ DtAll a H7 us l ∧ ∃ pt w', H7 pt = some (.tup [.str tag, w']) ∧ ((tag ≠ Str.ofString "" ∧ tag.length ≤ 20 ∧ PyData.strOk tag = true ∧ l = [] ∧ ∃ i : Int, w = .int i ∧ w' = .int i) ∨ (tag = Str.ofString "" ∧ ∃ pr us', w' = .ref pr ∧ H7 pr = some (.lst us') ∧ DtAll a H7 us' l ∧ pr ≠ a ∧ pr ≠ c ∧ pr ≠ pb)) ∧ σ = [some (.ref s0), some (.ref a), y2, some (.ref p), some (.ref pd), some (.ref pb), some (.ref pt), y7, some (vS t), y9], ?_, fun σ H7 hM => ?_⟩
      · refine ⟨hT6, fun H10 x10 hT10 H11 Q' E' s11 hQ hE => ?_⟩
        have hF11 := (hF6.ext x10).same s11
        have hT11 := hT10.ext s11
        have hpd11 := s11 _ _ (x10 _ _ hpd nt)
        have hpb11 := s11 _ _ (x10 _ _ hpb nl)
        have hus11 := (hus.ext x10).same s11
        have hw11 := (hw6.ext x10).same s11
        refine ⟨_, rfl, t, a, rfl, by have := ht.1; omega, Nat.le_trans ht.2.1 (by decide), fun i hpi => ?_, fun l0 g r hpo => ⟨fun n12 => ?_, fun n12 => ?_⟩⟩
        · intro dd H12 s12 hd12
          refine hE _ _ _ (why_parse T hd12 fun rr H13 s13 hr13 => ?_)
          have sA := s12.trans s13
          cases hdue with
          | parse j hj =>
            rw [hpi] at hj
            cases hj
            refine ⟨hF11.same sA, hT11.ext sA, sA _ _ hpd11, sA _ _ hpb11, hus11.same sA, rr, .int (i : Int), hr13, .inl ⟨by decide +kernel, by decide +kernel, by decide +kernel, rfl, i, ?_, rfl⟩, rfl⟩
            cases hw11
            rfl
          | many l r g h n =>
            rw [hpi] at h
            cases h
          | ties l r g h n ns hn =>
            rw [hpi] at h
            cases h
        · intro dd H12 s12 hd12
          refine hE _ _ _ (why_tied T hd12 fun rr H13 s13 hr13 => ?_)
          have sA := s12.trans s13
          cases hdue with
          | parse j hj =>
            rw [hpo] at hj
            cases hj
          | many l r g h n =>
            rw [hpo] at h
            cases h
            refine ⟨hF11.same sA, hT11.ext sA, sA _ _ hpd11, sA _ _ hpb11, hus11.same sA, rr, _, hr13, .inl ⟨by decide +kernel, by decide +kernel, by decide +kernel, rfl, _, ?_, rfl⟩, rfl⟩
            cases hw11
            rfl
          | ties l r g h n ns hn =>
            rw [hpo] at h
            cases h
            exact absurd n n12
        · cases hdue with
          | parse j hj =>
            rw [hpo] at hj
            cases hj
          | many l r g h n =>
            rw [hpo] at h
            cases h
            exact absurd n12 n
          | ties l r g h n ns hn =>
            rw [hpo] at h
            cases h
            intro ns' hn' p1 vs1 H12 s12 np1 hp1 hvs1
            rw [← hn.unique hn'] at hvs1
            refine hQ _ _ fun pt npt => ?_
            have sA := s12.trans (same_upd (o := .tup [V.str (Str.ofString ""), .ref p1]) npt)
            have sB := same_upd (o := .tup [V.str (Str.ofString ""), .ref p1]) npt
            have pa : p1 ≠ a := new_ne hF11 np1
            have pc : p1 ≠ c := new_nc hF11 np1
            have pbn : p1 ≠ pb := fun z => by rw [z, hpb11] at np1; cases np1
            exact ⟨hF11.same sA, hT11.ext sA, sA _ _ hpd11, sA _ _ hpb11, hus11.same sA, pt, _, upd_same, .inr ⟨rfl, p1, vs1, rfl, sB _ _ hp1, hvs1.same sB, pa, pc, pbn⟩, rfl⟩
      clear hF5 hT5 hF6 hT6 hpd hpb hus hw6 s6
      obtain ⟨hF7, hT7, hpd, hpb, hus, pt, w', hpt, hcase, rfl⟩ := hM
      -- compared
      refine ⟨fun σ H8 => FeedOk H8 a c ∧ LamX.Tabs (tbs Pt) H8 ∧ Same H7 H8 ∧ σ = [some (.ref s0), some (.ref a), y2, some (.ref p), some (.ref pd), some (.ref pb), some (.ref pt), y7, some (vS t), y9], ?_, fun σ H8 hM => ?_⟩
      · refine ⟨_, rfl, pt, _, _, _, rfl, rfl, SqT.of hpt, t0, _, rfl, pd, _, _, _, rfl, rfl, SqT.of hpd, t0, rfl, _, rfl, ?_⟩
        refine iteF' (by rw [decide_eq_true rfl]; rfl) ⟨_, rfl, pd, _, _, _, rfl, rfl, SqT.of hpd, t0, rfl, _, rfl, ?_⟩
        rcases hcase with ⟨htag, htl, hto, _, i, rfl, rfl⟩ | ⟨rfl, pr, us', rfl, hpr, hus', _⟩
        · refine iteT' (by rw [decide_eq_false (fun z => htag (V.str.inj z))]; rfl) ?_
          refine ⟨_, rfl, _, rfl, .tuple [.str tag, .int i], .tuple [.str tag, .int i], .tup (SqT.of hpt) (.cons (.str _) (.cons (.int _) .nil)), .tup (SqT.of hpd) (.cons (.str _) (.cons (.int _) .nil)), shaped_pair hto i, shaped_pair hto i, _, rfl, ?_⟩
          rw [eqv_tag]
          refine iteF ⟨_, rfl, pd, _, _, _, rfl, rfl, SqT.of hpd, t0, rfl, _, rfl, ?_⟩
          exact iteF' (decide_eq_false fun z => htag (V.str.inj z)) (iteF' rfl ⟨hF7, hT7, Same.refl _, rfl⟩)
        · refine iteF' (by rw [decide_eq_true rfl]; rfl) ⟨_, rfl, pd, _, _, _, rfl, rfl, SqT.of hpd, t0, rfl, _, rfl, ?_⟩
          refine iteT' (decide_eq_true rfl) ⟨_, rfl, pt, _, _, _, rfl, rfl, SqT.of hpt, t1, _, rfl, .ref pr, .ref pb, rfl, (eqd_ties hpr hpb hus' hus hties (by omega)).up, fun H8 s8 => ⟨_, rfl, iteF' rfl ⟨hF7.same s8, hT7.ext s8, s8, rfl⟩⟩⟩
      obtain ⟨hF8, hT8, s8, rfl⟩ := hM
      have hpd := s8 _ _ hpd
      have hpb := s8 _ _ hpb
      have hus := hus.same s8
      have hpt := s8 _ _ hpt
      -- read again
      refine ⟨fun σ H9 => FeedOk H9 a c ∧ LamX.Tabs (tbs Pt) H9 ∧ H9 pb = some (.lst us) ∧ DtAll a H9 us l ∧ σ = [some (.ref s0), some (.ref a), y2, some (.ref p), some (.ref pd), some (.ref pb), some (.ref pt), y7, some (vS t), y9], ?_, fun σ H9 hM => ?_⟩
      · refine ⟨_, rfl, pd, _, _, _, rfl, rfl, SqT.of hpd, t0, rfl, _, rfl, ?_⟩
        rcases hcase with ⟨htag, htl, hto, _, i, rfl, rfl⟩ | ⟨rfl, pr, us', rfl, hpr, hus', pa, pc, pbn⟩
        · exact iteF' (decide_eq_false fun z => htag (V.str.inj z)) ⟨hF8, hT8, hpb, hus, rfl⟩
        · have hpr := s8 _ _ hpr
          refine iteT' (decide_eq_true rfl) ⟨fun σ H9 => FeedOk H9 a c ∧ LamX.Tabs (tbs Pt) H9 ∧ H9 pb = some (.lst us) ∧ DtAll a H9 us l ∧ σ = [some (.ref s0), some (.ref a), y2, some (.ref p), some (.ref pd), some (.ref pb), some (.ref pt), y7, some (vS t), y9], ?_, fun σ H9 hM => ?_⟩
          · refine ⟨_, rfl, pt, _, _, _, rfl, rfl, SqT.of hpt, t1, .inl ⟨rfl, _, SqL.of hpr⟩, pr, us', rfl, rfl, hpr, ?_⟩
            have noT : noLs l = true := by
              have : ∀ l : List PyData, (∀ d ∈ l, ∃ tl bd, d = tieP tl bd ∧ tl.length ≤ 1000) → noLs l = true := fun l => by
                induction l with
                | nil => exact fun _ => rfl
                | cons d l ih =>
                  intro h
                  obtain ⟨tl, bd, rfl, _⟩ := h d List.mem_cons_self
                  have e := ih fun d hd => h d (List.mem_cons_of_mem _ hd)
                  show ((noLs (tl.map tmP) && true) && noLs l) = true
                  rw [noLs_tm, e]
                  rfl
              exact this l hties
            exact ⟨hF8.put pa pc, tabs_lst hT8 hpr, by rw [upd_ne pbn.symm]; exact hpb, hus.tups (TT.upd hpr) _ _ noT, rfl⟩
          obtain ⟨hF9, hT9, hpb9, hus9, rfl⟩ := hM
          obtain ⟨l0, g, r, ns, W⟩ := hwr rfl
          refine ⟨_, rfl, t, a, rfl, W.len, W.ct, fun i e => (W.noerr e).elim, fun l' g' r' e => ⟨fun n => (W.notmany e n).elim, fun _ ns' hns p2 vs2 H10 s10 np2 hp2 hvs2 => ?_⟩⟩
          rw [W.got e hns] at hvs2
          refine ⟨_, rfl, .ref p2, .ref pb, rfl, (eqd_ties hp2 (s10 _ _ hpb9) hvs2 (hus9.same s10) hties (by omega)).up, fun H11 s11 => ⟨_, rfl, iteF' rfl ?_⟩⟩
          have sA := s10.trans s11
          exact ⟨hF9.same sA, hT9.ext sA, sA _ _ hpb9, hus9.same sA, rfl⟩
      clear hF8 hT8 hpb hus hpd hpt hF7 hT7 hcase hdue s8
      obtain ⟨hF9, hT9, hpb, hus, rfl⟩ := hM
      -- each one
      refine ⟨_, rfl, pb, rfl, ⟨_, SqL.of hpb⟩, for_list (K := K) (a := pb) (xs := us) (fun i σ G => FeedOk G a c ∧ LamX.Tabs (tbs Pt) G ∧ G pb = some (.lst us) ∧ DtAll a G us l ∧ ∃ y7, σ = [some (.ref s0), some (.ref a), y2, some (.ref p), some (.ref pd), some (.ref pb), some (.ref pt), y7, some (vS t), y9]) ⟨hF9, hT9, hpb, hus, _, rfl⟩ (fun i σ G _ hq => SqL.of hq.2.2.1) (fun i x σ G hx hq => ?_) (fun σ G hq => ?_)⟩
      · obtain ⟨hFG, hTG, hpbG, husG, y7, rfl⟩ := hq
        obtain ⟨d, hd, hdt⟩ := DtAll.at i husG hx
        obtain ⟨u, rr, B, hRT, rfl⟩ := hR d (List.mem_of_getElem? hd)
        obtain ⟨ns, W⟩ := hRT.wr
        refine ⟨_, rfl, x, u, rr, B, a, rfl, hdt, hRT, fun H10 s10 => ⟨textP (tieQ u rr B), a, rfl, W.len, W.ct, fun i e => (W.noerr e).elim, fun l' g' r' e => ⟨fun n => (W.notmany e n).elim, fun _ ns' hns p2 vs2 H11 s11 np2 hp2 hvs2 => ?_⟩⟩⟩
        rw [W.got e hns] at hvs2
        refine ⟨_, rfl, small_line (by show 1 ≤ 1000; decide), fun e ne => ?_⟩
        have se := same_upd (o := .lst [x]) ne
        have sA := s10.trans (s11.trans se)
        refine ⟨.ref p2, .ref e, rfl, (eqd_ties (z := a) (se _ _ hp2) upd_same (hvs2.same se) (.cons (hdt.same sA) .nil) (fun d hd => ⟨_, _, List.mem_singleton.mp hd, hRT.len2⟩) (by show 1 ≤ 1000; decide)).up, fun H12 s12 => ⟨_, rfl, iteF' rfl ?_⟩⟩
        have sB := sA.trans s12
        exact ⟨hFG.same sB, hTG.ext sB, sB _ _ hpbG, husG.same sB, _, rfl⟩
      · obtain ⟨hFG, hTG, hpbG, husG, y7, rfl⟩ := hq
        exact ⟨hFG, hTG, _, _, _, _, _, _, _, _, rfl⟩
    obtain ⟨hF2, hT2, y2, y3, y4, y5, y6, y7, y8, y9, rfl⟩ := hM
    -- told
    refine ⟨fun σ H3 => Same H2 H3 ∧ ∃ o p1 p2 p3 v1 v2 v3, H3 o = some (.lst [.ref p1, .ref p2, .ref p3]) ∧ H3 p1 = some (.lst v1) ∧ DtAll a H3 v1 [tieP [([120], (2, 1)), ([121], (-1, 1))] (2, 1)] ∧ H3 p2 = some (.lst v2) ∧ DtAll a H3 v2 [tieP [([120], (-1, 1))] (-3, 2), tieP [([120], (1, 1))] (3, 2)] ∧ H3 p3 = some (.lst v3) ∧ DtAll a H3 v3 [tieP [([120], (-1, 1))] (-2, 1)] ∧ σ = [some (.ref s0), some (.ref a), y2, y3, y4, y5, some (.ref o), y7, y8, y9], ?_, fun σ H3 hM => ?_⟩
    · refine ⟨w1, a, by show [V.str (Str.ofString "x <= 1/2*y + 1")] = _; rw [w1_S], wr1.len, wr1.ct, fun i e => (wr1.noerr e).elim, fun l' g' r' e => ⟨fun n => (wr1.notmany e n).elim, fun _ ns' hns p1 v1 H3 s3 _ hp1 hv1 => ?_⟩⟩
      rw [wr1.got e hns] at hv1
      refine ⟨w2, a, by show [V.str (Str.ofString "3 = 2*x")] = _; rw [w2_S], wr2.len, wr2.ct, fun i e => (wr2.noerr e).elim, fun l' g' r' e => ⟨fun n => (wr2.notmany e n).elim, fun _ ns' hns p2 v2 H4 s4 _ hp2 hv2 => ?_⟩⟩
      rw [wr2.got e hns] at hv2
      refine ⟨w3, a, by show [V.str (Str.ofString " x+x >=4 ")] = _; rw [w3_S], wr3.len, wr3.ct, fun i e => (wr3.noerr e).elim, fun l' g' r' e => ⟨fun n => (wr3.notmany e n).elim, fun _ ns' hns p3 v3 H5 s5 _ hp3 hv3 => ?_⟩⟩
      rw [wr3.got e hns] at hv3
      refine ⟨small_line (by show 3 ≤ 1000; decide), fun o no => ?_⟩
      have s6 := same_upd (o := .lst [V.ref p1, .ref p2, .ref p3]) no
      exact ⟨s3.trans (s4.trans (s5.trans s6)), o, p1, p2, p3, v1, v2, v3, upd_same, (s4.trans (s5.trans s6)) _ _ hp1, hv1.same (s4.trans (s5.trans s6)), (s5.trans s6) _ _ hp2, hv2.same (s5.trans s6), s6 _ _ hp3, hv3.same s6, rfl⟩
    obtain ⟨s3, o, p1', p2', p3', v1, v2, v3, ho, hp1, hv1, hp2, hv2, hp3, hv3, rfl⟩ := hM
    have hFx := hF2.same s3
    have ex : (Str.ofString "x" : Str) = SX.S [120] := by decide +kernel
    have ey : (Str.ofString "y" : Str) = SX.S [121] := by decide +kernel
    refine ⟨fun σ H4 => Same H3 H4 ∧ ∃ u q1 q2, H4 u = some (.lst [q1, q2]) ∧ Dt a H4 q1 (.list [tieP [([120], (2, 1)), ([121], (-1, 1))] (2, 1)]) ∧ Dt a H4 q2 (.list [tieP [([120], (-1, 1))] (-3, 2), tieP [([120], (1, 1))] (3, 2)]) ∧ σ = [some (.ref s0), some (.ref a), y2, y3, some (.ref u), y5, some (.ref o), y7, y8, y9], ?_, fun σ H4 hM => ?_⟩
    · skip
      refine ⟨(small_line (by decide : 2 ≤ 1000)), fun p1 n1 => ?_⟩
      obtain ⟨s1, d1⟩ := dnewT (z := a) n1 (.cons (.int 2 (by decide +kernel)) (.cons (.int 1 (by decide +kernel)) .nil))
      refine ⟨(small_line (by decide : 2 ≤ 1000)), fun p2 n2 => ?_⟩
      obtain ⟨s2, d2⟩ := dnewT (z := a) n2 (.cons (.str (Str.ofString "x") (by decide +kernel)) (.cons d1 .nil))
      refine ⟨_, rfl, (small_line (by decide : 2 ≤ 1000)), fun p3 n3 => ?_⟩
      obtain ⟨s3, d3⟩ := dnewT (z := a) n3 (.cons (.int (-1) (by decide +kernel)) (.cons (.int 1 (by decide +kernel)) .nil))
      refine ⟨(small_line (by decide : 2 ≤ 1000)), fun p4 n4 => ?_⟩
      obtain ⟨s4, d4⟩ := dnewT (z := a) n4 (.cons (.str (Str.ofString "y") (by decide +kernel)) (.cons d3 .nil))
      refine ⟨(small_line (by decide : 2 ≤ 1000)), fun p5 n5 => ?_⟩
      obtain ⟨s5, d5⟩ := dnewT (z := a) n5 (.cons (d2.same (s3.trans s4)) (.cons d4 .nil))
      refine ⟨(small_line (by decide : 2 ≤ 1000)), fun p6 n6 => ?_⟩
      obtain ⟨s6, d6⟩ := dnewT (z := a) n6 (.cons (.int 2 (by decide +kernel)) (.cons (.int 1 (by decide +kernel)) .nil))
      refine ⟨(small_line (by decide : 2 ≤ 1000)), fun p7 n7 => ?_⟩
      obtain ⟨s7, d7⟩ := dnewT (z := a) n7 (.cons (d5.same s6) (.cons d6 .nil))
      refine ⟨(small_line (by decide : 1 ≤ 1000)), fun p8 n8 => ?_⟩
      obtain ⟨s8, d8⟩ := dnewL (z := a) n8 (new_ne (hFx.same (s1.trans (s2.trans (s3.trans (s4.trans (s5.trans (s6.trans s7))))))) n8) (.cons d7 .nil)
      refine ⟨_, rfl, (small_line (by decide : 2 ≤ 1000)), fun p9 n9 => ?_⟩
      obtain ⟨s9, d9⟩ := dnewT (z := a) n9 (.cons (.int (-1) (by decide +kernel)) (.cons (.int 1 (by decide +kernel)) .nil))
      refine ⟨(small_line (by decide : 2 ≤ 1000)), fun p10 n10 => ?_⟩
      obtain ⟨s10, d10⟩ := dnewT (z := a) n10 (.cons (.str (Str.ofString "x") (by decide +kernel)) (.cons d9 .nil))
      refine ⟨(small_line (by decide : 1 ≤ 1000)), fun p11 n11 => ?_⟩
      obtain ⟨s11, d11⟩ := dnewT (z := a) n11 (.cons d10 .nil)
      refine ⟨_, rfl, (small_line (by decide : 2 ≤ 1000)), fun p12 n12 => ?_⟩
      obtain ⟨s12, d12⟩ := dnewT (z := a) n12 (.cons (.int (-3) (by decide +kernel)) (.cons (.int 2 (by decide +kernel)) .nil))
      refine ⟨(small_line (by decide : 2 ≤ 1000)), fun p13 n13 => ?_⟩
      obtain ⟨s13, d13⟩ := dnewT (z := a) n13 (.cons (d11.same s12) (.cons d12 .nil))
      refine ⟨(small_line (by decide : 2 ≤ 1000)), fun p14 n14 => ?_⟩
      obtain ⟨s14, d14⟩ := dnewT (z := a) n14 (.cons (.int 1 (by decide +kernel)) (.cons (.int 1 (by decide +kernel)) .nil))
      refine ⟨(small_line (by decide : 2 ≤ 1000)), fun p15 n15 => ?_⟩
      obtain ⟨s15, d15⟩ := dnewT (z := a) n15 (.cons (.str (Str.ofString "x") (by decide +kernel)) (.cons d14 .nil))
      refine ⟨(small_line (by decide : 1 ≤ 1000)), fun p16 n16 => ?_⟩
      obtain ⟨s16, d16⟩ := dnewT (z := a) n16 (.cons d15 .nil)
      refine ⟨(small_line (by decide : 2 ≤ 1000)), fun p17 n17 => ?_⟩
      obtain ⟨s17, d17⟩ := dnewT (z := a) n17 (.cons (.int 3 (by decide +kernel)) (.cons (.int 2 (by decide +kernel)) .nil))
      refine ⟨(small_line (by decide : 2 ≤ 1000)), fun p18 n18 => ?_⟩
      obtain ⟨s18, d18⟩ := dnewT (z := a) n18 (.cons (d16.same s17) (.cons d17 .nil))
      refine ⟨(small_line (by decide : 2 ≤ 1000)), fun p19 n19 => ?_⟩
      obtain ⟨s19, d19⟩ := dnewL (z := a) n19 (new_ne (hFx.same (s1.trans (s2.trans (s3.trans (s4.trans (s5.trans (s6.trans (s7.trans (s8.trans (s9.trans (s10.trans (s11.trans (s12.trans (s13.trans (s14.trans (s15.trans (s16.trans (s17.trans s18)))))))))))))))))) n19) (.cons (d13.same (s14.trans (s15.trans (s16.trans (s17.trans s18))))) (.cons d18 .nil))
      refine ⟨(small_line (by decide : 2 ≤ 1000)), fun p20 n20 => ?_⟩
      obtain ⟨s20, all, hrw⟩ := drow (z := a) n20 (.cons (d8.same (s9.trans (s10.trans (s11.trans (s12.trans (s13.trans (s14.trans (s15.trans (s16.trans (s17.trans (s18.trans s19))))))))))) (.cons d19 .nil))
      rw [ex, ey] at all
      match all with
      | .cons h1 (.cons h2 .nil) => exact ⟨(s1.trans (s2.trans (s3.trans (s4.trans (s5.trans (s6.trans (s7.trans (s8.trans (s9.trans (s10.trans (s11.trans (s12.trans (s13.trans (s14.trans (s15.trans (s16.trans (s17.trans (s18.trans (s19.trans s20))))))))))))))))))), p20, _, _, hrw, h1, h2, rfl⟩
    obtain ⟨s34, u, q1, q2, hu, hq1, hq2, rfl⟩ := hM
    have hFx := hFx.same s34
    refine ⟨_, rfl, _, rfl, _, rfl, (small_line (by decide : 2 ≤ 1000)), fun p1 n1 => ?_⟩
    obtain ⟨s1, d1⟩ := dnewT (z := a) n1 (.cons (.int (-1) (by decide +kernel)) (.cons (.int 1 (by decide +kernel)) .nil))
    refine ⟨(small_line (by decide : 2 ≤ 1000)), fun p2 n2 => ?_⟩
    obtain ⟨s2, d2⟩ := dnewT (z := a) n2 (.cons (.str (Str.ofString "x") (by decide +kernel)) (.cons d1 .nil))
    refine ⟨(small_line (by decide : 1 ≤ 1000)), fun p3 n3 => ?_⟩
    obtain ⟨s3, d3⟩ := dnewT (z := a) n3 (.cons d2 .nil)
    refine ⟨_, rfl, (small_line (by decide : 2 ≤ 1000)), fun p4 n4 => ?_⟩
    obtain ⟨s4, d4⟩ := dnewT (z := a) n4 (.cons (.int (-2) (by decide +kernel)) (.cons (.int 1 (by decide +kernel)) .nil))
    refine ⟨(small_line (by decide : 2 ≤ 1000)), fun p5 n5 => ?_⟩
    obtain ⟨s5, d5⟩ := dnewT (z := a) n5 (.cons (d3.same s4) (.cons d4 .nil))
    refine ⟨(small_line (by decide : 1 ≤ 1000)), fun p6 n6 => ?_⟩
    obtain ⟨s6, d6⟩ := dnewL (z := a) n6 (new_ne (hFx.same (s1.trans (s2.trans (s3.trans (s4.trans s5))))) n6) (.cons d5 .nil)
    refine ⟨(small_line (by decide : 1 ≤ 1000)), fun p7 n7 => ?_⟩
    obtain ⟨s7, all, hrw⟩ := drow (z := a) n7 (.cons d6 .nil)
    rw [ex] at all
    have sA := (s1.trans (s2.trans (s3.trans (s4.trans (s5.trans (s6.trans s7))))))
    refine ⟨u, p7, _, _, rfl, rfl, sA _ _ hu, hrw, small_line (by show 2 + 1 ≤ 1000; decide), fun l nl => ?_⟩
    have sl := same_upd (o := .lst ([q1, q2] ++ [V.ref p6])) nl
    have sB := sA.trans sl
    have sC := s34.trans sB
    have ok : ∀ {tl : List It} {b : FR}, tl.length ≤ 2 → ∃ tl' bd, tieP tl b = tieP tl' bd ∧ tl'.length ≤ 1000 := fun {tl b} h => ⟨tl, b, rfl, by omega⟩
    have f1 := eqd_dl (sC _ _ hp1) (hv1.same sC) (hq1.same sB) (fun d hd => by rw [List.mem_singleton.mp hd]; exact ok (by decide)) (by decide)
    have f2 := eqd_dl (sC _ _ hp2) (hv2.same sC) (hq2.same sB) (fun d hd => by
      simp only [List.mem_cons, List.not_mem_nil, or_false] at hd
      rcases hd with rfl | rfl
      · exact ok (by decide)
      · exact ok (by decide)) (by decide)
    match all with
    | .cons h3 .nil =>
      have f3 := eqd_dl (ds := [tieP [([120], (-1, 1))] (-2, 1)]) (sC _ _ hp3) (hv3.same sC) (h3.same sl) (fun d hd => by rw [List.mem_singleton.mp hd]; exact ok (by decide)) (by decide)
      refine ⟨.ref o, .ref l, rfl, ?_, fun H' s' => q H'⟩
      refine .inr ⟨o, l, _, _, rfl, rfl, .inl ⟨sC _ _ ho, upd_same⟩, rfl, (by show 3 ≤ 1000; decide), fun i y z g1 g2 => ?_⟩
      match i, g1, g2 with
      | 0, g1, g2 => cases g1; cases g2; exact f1
      | 1, g1, g2 => cases g1; cases g2; exact f2
      | 2, g1, g2 => cases g1; cases g2; exact f3
end
theorem all_mk {q0 : Program} {lo : List Str} {mean : ExcName → Option Value} {mb : Str → Option Value} {l : PySem.W.OpenLaw} {w : World} {K : PySem.W.Frag} {h : Heap} {mg : Str → Option Value} {fl f12 f13 f14 f15 f16 f17 f18 f19 f20 f21 f22 f28 f29 f30 f31 f32 f33 f34 f36 f37 f38 f39 f40 f41 f42 f43 f45 f46 f47 f48 f49 f50 f51 f52 f53 f54 f55 f56 f57 f58 f59 f60 f61 f62 f63 f64 f65 f66 f67 f68 f69 f1 f2 f3 f4 f5 f1002 f1003 f1004 fZ_ZERO cc Pt : Addr} {d0 : DefRec} (TP : Top q0 lo mean mg mb h) (X : K.In h) (hfa : mg "law" = some (.ref fl)) (hr0 : (recsOf q0).find? (fun e : DefRec => e.name == ("law" : Str)) = some d0)
    {od12 an12 od13 an13 od14 an14 od15 an15 od16 an16 od17 an17 od18 an18 od19 an19 od20 an20 od21 an21 od22 an22 od28 an28 od29 an29 od30 an30 od31 an31 od32 an32 od33 an33 od34 an34 od36 an36 od37 an37 od38 an38 od39 an39 od40 an40 od41 an41 od42 an42 od43 an43 od45 an45 od46 an46 od47 an47 od48 an48 od49 an49 od50 an50 od51 an51 od52 an52 od53 an53 od54 an54 od55 an55 od56 an56 od57 an57 od58 an58 od59 an59 od60 an60 od61 an61 od62 an62 od63 an63 od64 an64 od65 an65 od66 an66 od67 an67 od68 an68 od69 an69 od1002 an1002 od1003 an1003 od1004 an1004 : Option Addr}
    {sl12 sl13 sl14 sl15 sl16 sl17 sl18 sl19 sl20 sl21 sl22 sl28 sl29 sl30 sl31 sl32 sl33 sl34 sl36 sl37 sl38 sl39 sl40 sl41 sl42 sl43 sl45 sl46 sl47 sl48 sl49 sl50 sl51 sl52 sl53 sl54 sl55 sl56 sl57 sl58 sl59 sl60 sl61 sl62 sl63 sl64 sl65 sl66 sl67 sl68 sl69 sl1002 sl1003 sl1004 : Array (Option Value)}
    {oc12 kV12 dc12 pm12 ct12 cd12 oc13 kV13 dc13 pm13 ct13 cd13 oc14 kV14 dc14 pm14 ct14 cd14 oc15 kV15 dc15 pm15 ct15 cd15 oc16 kV16 dc16 pm16 ct16 cd16 oc17 kV17 dc17 pm17 ct17 cd17 oc18 kV18 dc18 pm18 ct18 cd18 oc19 kV19 dc19 pm19 ct19 cd19 oc20 kV20 dc20 pm20 ct20 cd20 oc21 kV21 dc21 pm21 ct21 cd21 oc22 kV22 dc22 pm22 ct22 cd22 oc28 kV28 dc28 pm28 ct28 cd28 oc29 kV29 dc29 pm29 ct29 cd29 oc30 kV30 dc30 pm30 ct30 cd30 oc31 kV31 dc31 pm31 ct31 cd31 oc32 kV32 dc32 pm32 ct32 cd32 oc33 kV33 dc33 pm33 ct33 cd33 oc34 kV34 dc34 pm34 ct34 cd34 oc36 kV36 dc36 pm36 ct36 cd36 oc37 kV37 dc37 pm37 ct37 cd37 oc38 kV38 dc38 pm38 ct38 cd38 oc39 kV39 dc39 pm39 ct39 cd39 oc40 kV40 dc40 pm40 ct40 cd40 oc41 kV41 dc41 pm41 ct41 cd41 oc42 kV42 dc42 pm42 ct42 cd42 oc43 kV43 dc43 pm43 ct43 cd43 oc45 kV45 dc45 pm45 ct45 cd45 oc46 kV46 dc46 pm46 ct46 cd46 oc47 kV47 dc47 pm47 ct47 cd47 oc48 kV48 dc48 pm48 ct48 cd48 oc49 kV49 dc49 pm49 ct49 cd49 oc50 kV50 dc50 pm50 ct50 cd50 oc51 kV51 dc51 pm51 ct51 cd51 oc52 kV52 dc52 pm52 ct52 cd52 oc53 kV53 dc53 pm53 ct53 cd53 oc54 kV54 dc54 pm54 ct54 cd54 oc55 kV55 dc55 pm55 ct55 cd55 oc56 kV56 dc56 pm56 ct56 cd56 oc57 kV57 dc57 pm57 ct57 cd57 oc58 kV58 dc58 pm58 ct58 cd58 oc59 kV59 dc59 pm59 ct59 cd59 oc60 kV60 dc60 pm60 ct60 cd60 oc61 kV61 dc61 pm61 ct61 cd61 oc62 kV62 dc62 pm62 ct62 cd62 oc63 kV63 dc63 pm63 ct63 cd63 oc64 kV64 dc64 pm64 ct64 cd64 oc65 kV65 dc65 pm65 ct65 cd65 oc66 kV66 dc66 pm66 ct66 cd66 oc67 kV67 dc67 pm67 ct67 cd67 oc68 kV68 dc68 pm68 ct68 cd68 oc69 kV69 dc69 pm69 ct69 oc1002 kV1002 dc1002 pm1002 ct1002 cd1002 oc1003 kV1003 dc1003 pm1003 ct1003 cd1003 oc1004 kV1004 dc1004 pm1004 ct1004 cd1004 : Value}
    {fT14 : Addr} {ocT14 : Value} {odT14 : Option Addr} {nT14 : Nat} {slT14 : Array (Option Value)} {tk14_0 : Tok}
    {nm2 q2 : Str} {N2 : Addr} {bs2 : List Value} {sn2 : List Str} {sub2 : List Value} {ab2 : Bool} {col2 : Option Bool} {dd2 : Option Addr} {m02 m12 m22 m32 m52 : Option Value}
    {nm3 q3 : Str} {N3 : Addr} {bs3 : List Value} {sn3 : List Str} {sub3 : List Value} {ab3 : Bool} {col3 : Option Bool} {dd3 : Option Addr} {m03 m13 m23 m33 m53 : Option Value}
    {nm4 q4 : Str} {N4 : Addr} {bs4 : List Value} {sn4 : List Str} {sub4 : List Value} {ab4 : Bool} {col4 : Option Bool} {dd4 : Option Addr} {m04 m14 m24 m34 m54 : Option Value}
    {odZ_ZERO : Option Addr} {nZ_ZERO : Nat} {slZ_ZERO : Array (Option Value)} {tz_ZERO0 tz_ZERO1 : Tok}
    {tk_LONG : Tok}
    {tk_DIGITS : Tok}
    {tk_LETTERS : Tok}
    {tk_MOST_DIGITS : Tok}
    {tk_MOST_LETTERS : Tok}
    (a12 : PySem.W.nsIn K mainGlobals "shortened" = some (some (.ref f12)))
    (l12 : K.lookup f12 = some ⟨oc12, od12, .func (PySem.W.fnOf "shortened" "shortened" (defArgs s_p_shortened) (defBody s_p_shortened) (defScope s_p_shortened) .none kV12 dc12 pm12 an12 cd12 ct12), sl12⟩)
    (c12 : PySem.W.codeIn K cd12 "shortened" = true)
    (k12 : PySem.W.keepIn K (.ref f12) = true)
    (a13 : PySem.W.nsIn K mainGlobals "common_divisor" = some (some (.ref f13)))
    (l13 : K.lookup f13 = some ⟨oc13, od13, .func (PySem.W.fnOf "common_divisor" "common_divisor" (defArgs s_p_common_divisor) (defBody s_p_common_divisor) (defScope s_p_common_divisor) .none kV13 dc13 pm13 an13 cd13 ct13), sl13⟩)
    (c13 : PySem.W.codeIn K cd13 "common_divisor" = true)
    (k13 : PySem.W.keepIn K (.ref f13) = true)
    (a14 : PySem.W.nsIn K mainGlobals "ratio" = some (some (.ref f14)))
    (l14 : K.lookup f14 = some ⟨oc14, od14, .func (PySem.W.fnOf "ratio" "ratio" (defArgs s_p_ratio) (defBody s_p_ratio) (defScope s_p_ratio) (.ref fT14) kV14 dc14 pm14 an14 cd14 ct14), sl14⟩)
    (c14 : PySem.W.codeIn K cd14 "ratio" = true)
    (k14 : PySem.W.keepIn K (.ref f14) = true)
    (t14 : K.lookup fT14 = some ⟨ocT14, odT14, .seq ([Value.int 1 tk14_0] : List Value).toArray nT14, slT14⟩)
    (a15 : PySem.W.nsIn K mainGlobals "add" = some (some (.ref f15)))
    (l15 : K.lookup f15 = some ⟨oc15, od15, .func (PySem.W.fnOf "add" "add" (defArgs s_p_add) (defBody s_p_add) (defScope s_p_add) .none kV15 dc15 pm15 an15 cd15 ct15), sl15⟩)
    (c15 : PySem.W.codeIn K cd15 "add" = true)
    (k15 : PySem.W.keepIn K (.ref f15) = true)
    (a16 : PySem.W.nsIn K mainGlobals "subtract" = some (some (.ref f16)))
    (l16 : K.lookup f16 = some ⟨oc16, od16, .func (PySem.W.fnOf "subtract" "subtract" (defArgs s_p_subtract) (defBody s_p_subtract) (defScope s_p_subtract) .none kV16 dc16 pm16 an16 cd16 ct16), sl16⟩)
    (c16 : PySem.W.codeIn K cd16 "subtract" = true)
    (k16 : PySem.W.keepIn K (.ref f16) = true)
    (a17 : PySem.W.nsIn K mainGlobals "multiply" = some (some (.ref f17)))
    (l17 : K.lookup f17 = some ⟨oc17, od17, .func (PySem.W.fnOf "multiply" "multiply" (defArgs s_p_multiply) (defBody s_p_multiply) (defScope s_p_multiply) .none kV17 dc17 pm17 an17 cd17 ct17), sl17⟩)
    (c17 : PySem.W.codeIn K cd17 "multiply" = true)
    (k17 : PySem.W.keepIn K (.ref f17) = true)
    (a18 : PySem.W.nsIn K mainGlobals "is_digits" = some (some (.ref f18)))
    (l18 : K.lookup f18 = some ⟨oc18, od18, .func (PySem.W.fnOf "is_digits" "is_digits" (defArgs s_p_is_digits) (defBody s_p_is_digits) (defScope s_p_is_digits) .none kV18 dc18 pm18 an18 cd18 ct18), sl18⟩)
    (c18 : PySem.W.codeIn K cd18 "is_digits" = true)
    (k18 : PySem.W.keepIn K (.ref f18) = true)
    (a19 : PySem.W.nsIn K mainGlobals "number_text" = some (some (.ref f19)))
    (l19 : K.lookup f19 = some ⟨oc19, od19, .func (PySem.W.fnOf "number_text" "number_text" (defArgs s_p_number_text) (defBody s_p_number_text) (defScope s_p_number_text) .none kV19 dc19 pm19 an19 cd19 ct19), sl19⟩)
    (c19 : PySem.W.codeIn K cd19 "number_text" = true)
    (k19 : PySem.W.keepIn K (.ref f19) = true)
    (a20 : PySem.W.nsIn K mainGlobals "number_of" = some (some (.ref f20)))
    (l20 : K.lookup f20 = some ⟨oc20, od20, .func (PySem.W.fnOf "number_of" "number_of" (defArgs s_p_number_of) (defBody s_p_number_of) (defScope s_p_number_of) .none kV20 dc20 pm20 an20 cd20 ct20), sl20⟩)
    (c20 : PySem.W.codeIn K cd20 "number_of" = true)
    (k20 : PySem.W.keepIn K (.ref f20) = true)
    (a21 : PySem.W.nsIn K mainGlobals "ratio_text" = some (some (.ref f21)))
    (l21 : K.lookup f21 = some ⟨oc21, od21, .func (PySem.W.fnOf "ratio_text" "ratio_text" (defArgs s_p_ratio_text) (defBody s_p_ratio_text) (defScope s_p_ratio_text) .none kV21 dc21 pm21 an21 cd21 ct21), sl21⟩)
    (c21 : PySem.W.codeIn K cd21 "ratio_text" = true)
    (k21 : PySem.W.keepIn K (.ref f21) = true)
    (a22 : PySem.W.nsIn K mainGlobals "ratio_of" = some (some (.ref f22)))
    (l22 : K.lookup f22 = some ⟨oc22, od22, .func (PySem.W.fnOf "ratio_of" "ratio_of" (defArgs s_p_ratio_of) (defBody s_p_ratio_of) (defScope s_p_ratio_of) .none kV22 dc22 pm22 an22 cd22 ct22), sl22⟩)
    (c22 : PySem.W.codeIn K cd22 "ratio_of" = true)
    (k22 : PySem.W.keepIn K (.ref f22) = true)
    (a28 : PySem.W.nsIn K mainGlobals "run_end" = some (some (.ref f28)))
    (l28 : K.lookup f28 = some ⟨oc28, od28, .func (PySem.W.fnOf "run_end" "run_end" (defArgs s_p_run_end) (defBody s_p_run_end) (defScope s_p_run_end) .none kV28 dc28 pm28 an28 cd28 ct28), sl28⟩)
    (c28 : PySem.W.codeIn K cd28 "run_end" = true)
    (k28 : PySem.W.keepIn K (.ref f28) = true)
    (a29 : PySem.W.nsIn K mainGlobals "number_symbol" = some (some (.ref f29)))
    (l29 : K.lookup f29 = some ⟨oc29, od29, .func (PySem.W.fnOf "number_symbol" "number_symbol" (defArgs s_p_number_symbol) (defBody s_p_number_symbol) (defScope s_p_number_symbol) .none kV29 dc29 pm29 an29 cd29 ct29), sl29⟩)
    (c29 : PySem.W.codeIn K cd29 "number_symbol" = true)
    (k29 : PySem.W.keepIn K (.ref f29) = true)
    (a30 : PySem.W.nsIn K mainGlobals "name_symbol" = some (some (.ref f30)))
    (l30 : K.lookup f30 = some ⟨oc30, od30, .func (PySem.W.fnOf "name_symbol" "name_symbol" (defArgs s_p_name_symbol) (defBody s_p_name_symbol) (defScope s_p_name_symbol) .none kV30 dc30 pm30 an30 cd30 ct30), sl30⟩)
    (c30 : PySem.W.codeIn K cd30 "name_symbol" = true)
    (k30 : PySem.W.keepIn K (.ref f30) = true)
    (a31 : PySem.W.nsIn K mainGlobals "symbol_at" = some (some (.ref f31)))
    (l31 : K.lookup f31 = some ⟨oc31, od31, .func (PySem.W.fnOf "symbol_at" "symbol_at" (defArgs s_p_symbol_at) (defBody s_p_symbol_at) (defScope s_p_symbol_at) .none kV31 dc31 pm31 an31 cd31 ct31), sl31⟩)
    (c31 : PySem.W.codeIn K cd31 "symbol_at" = true)
    (k31 : PySem.W.keepIn K (.ref f31) = true)
    (a32 : PySem.W.nsIn K mainGlobals "symbols_of" = some (some (.ref f32)))
    (l32 : K.lookup f32 = some ⟨oc32, od32, .func (PySem.W.fnOf "symbols_of" "symbols_of" (defArgs s_p_symbols_of) (defBody s_p_symbols_of) (defScope s_p_symbols_of) .none kV32 dc32 pm32 an32 cd32 ct32), sl32⟩)
    (c32 : PySem.W.codeIn K cd32 "symbols_of" = true)
    (k32 : PySem.W.keepIn K (.ref f32) = true)
    (a33 : PySem.W.nsIn K mainGlobals "read_term" = some (some (.ref f33)))
    (l33 : K.lookup f33 = some ⟨oc33, od33, .func (PySem.W.fnOf "read_term" "read_term" (defArgs s_p_read_term) (defBody s_p_read_term) (defScope s_p_read_term) .none kV33 dc33 pm33 an33 cd33 ct33), sl33⟩)
    (c33 : PySem.W.codeIn K cd33 "read_term" = true)
    (k33 : PySem.W.keepIn K (.ref f33) = true)
    (a34 : PySem.W.nsIn K mainGlobals "read_sum" = some (some (.ref f34)))
    (l34 : K.lookup f34 = some ⟨oc34, od34, .func (PySem.W.fnOf "read_sum" "read_sum" (defArgs s_p_read_sum) (defBody s_p_read_sum) (defScope s_p_read_sum) .none kV34 dc34 pm34 an34 cd34 ct34), sl34⟩)
    (c34 : PySem.W.codeIn K cd34 "read_sum" = true)
    (k34 : PySem.W.keepIn K (.ref f34) = true)
    (a36 : PySem.W.nsIn K mainGlobals "reduced" = some (some (.ref f36)))
    (l36 : K.lookup f36 = some ⟨oc36, od36, .func (PySem.W.fnOf "reduced" "reduced" (defArgs s_p_reduced) (defBody s_p_reduced) (defScope s_p_reduced) .none kV36 dc36 pm36 an36 cd36 ct36), sl36⟩)
    (c36 : PySem.W.codeIn K cd36 "reduced" = true)
    (k36 : PySem.W.keepIn K (.ref f36) = true)
    (a37 : PySem.W.nsIn K mainGlobals "term_text" = some (some (.ref f37)))
    (l37 : K.lookup f37 = some ⟨oc37, od37, .func (PySem.W.fnOf "term_text" "term_text" (defArgs s_p_term_text) (defBody s_p_term_text) (defScope s_p_term_text) .none kV37 dc37 pm37 an37 cd37 ct37), sl37⟩)
    (c37 : PySem.W.codeIn K cd37 "term_text" = true)
    (k37 : PySem.W.keepIn K (.ref f37) = true)
    (a38 : PySem.W.nsIn K mainGlobals "terms_text" = some (some (.ref f38)))
    (l38 : K.lookup f38 = some ⟨oc38, od38, .func (PySem.W.fnOf "terms_text" "terms_text" (defArgs s_p_terms_text) (defBody s_p_terms_text) (defScope s_p_terms_text) .none kV38 dc38 pm38 an38 cd38 ct38), sl38⟩)
    (c38 : PySem.W.codeIn K cd38 "terms_text" = true)
    (k38 : PySem.W.keepIn K (.ref f38) = true)
    (a39 : PySem.W.nsIn K mainGlobals "tie_text" = some (some (.ref f39)))
    (l39 : K.lookup f39 = some ⟨oc39, od39, .func (PySem.W.fnOf "tie_text" "tie_text" (defArgs s_p_tie_text) (defBody s_p_tie_text) (defScope s_p_tie_text) .none kV39 dc39 pm39 an39 cd39 ct39), sl39⟩)
    (c39 : PySem.W.codeIn K cd39 "tie_text" = true)
    (k39 : PySem.W.keepIn K (.ref f39) = true)
    (a40 : PySem.W.nsIn K mainGlobals "ascending_names" = some (some (.ref f40)))
    (l40 : K.lookup f40 = some ⟨oc40, od40, .func (PySem.W.fnOf "ascending_names" "ascending_names" (defArgs s_p_ascending_names) (defBody s_p_ascending_names) (defScope s_p_ascending_names) .none kV40 dc40 pm40 an40 cd40 ct40), sl40⟩)
    (c40 : PySem.W.codeIn K cd40 "ascending_names" = true)
    (k40 : PySem.W.keepIn K (.ref f40) = true)
    (a41 : PySem.W.nsIn K mainGlobals "brought_together" = some (some (.ref f41)))
    (l41 : K.lookup f41 = some ⟨oc41, od41, .func (PySem.W.fnOf "brought_together" "brought_together" (defArgs s_p_brought_together) (defBody s_p_brought_together) (defScope s_p_brought_together) .none kV41 dc41 pm41 an41 cd41 ct41), sl41⟩)
    (c41 : PySem.W.codeIn K cd41 "brought_together" = true)
    (k41 : PySem.W.keepIn K (.ref f41) = true)
    (a42 : PySem.W.nsIn K mainGlobals "tie_below" = some (some (.ref f42)))
    (l42 : K.lookup f42 = some ⟨oc42, od42, .func (PySem.W.fnOf "tie_below" "tie_below" (defArgs s_p_tie_below) (defBody s_p_tie_below) (defScope s_p_tie_below) .none kV42 dc42 pm42 an42 cd42 ct42), sl42⟩)
    (c42 : PySem.W.codeIn K cd42 "tie_below" = true)
    (k42 : PySem.W.keepIn K (.ref f42) = true)
    (a43 : PySem.W.nsIn K mainGlobals "read_ties" = some (some (.ref f43)))
    (l43 : K.lookup f43 = some ⟨oc43, od43, .func (PySem.W.fnOf "read_ties" "read_ties" (defArgs s_p_read_ties) (defBody s_p_read_ties) (defScope s_p_read_ties) .none kV43 dc43 pm43 an43 cd43 ct43), sl43⟩)
    (c43 : PySem.W.codeIn K cd43 "read_ties" = true)
    (k43 : PySem.W.keepIn K (.ref f43) = true)
    (a45 : PySem.W.nsIn K mainGlobals "_law_feed" = some (some (.ref f45)))
    (l45 : K.lookup f45 = some ⟨oc45, od45, .func (PySem.W.fnOf "_law_feed" "_law_feed" (defArgs s_feed) (defBody s_feed) (defScope s_feed) .none kV45 dc45 pm45 an45 cd45 ct45), sl45⟩)
    (c45 : PySem.W.codeIn K cd45 "_law_feed" = true)
    (k45 : PySem.W.keepIn K (.ref f45) = true)
    (a46 : PySem.W.nsIn K mainGlobals "_law_draw" = some (some (.ref f46)))
    (l46 : K.lookup f46 = some ⟨oc46, od46, .func (PySem.W.fnOf "_law_draw" "_law_draw" (defArgs s_draw) (defBody s_draw) (defScope s_draw) .none kV46 dc46 pm46 an46 cd46 ct46), sl46⟩)
    (c46 : PySem.W.codeIn K cd46 "_law_draw" = true)
    (k46 : PySem.W.keepIn K (.ref f46) = true)
    (a47 : PySem.W.nsIn K mainGlobals "_law_any" = some (some (.ref f47)))
    (l47 : K.lookup f47 = some ⟨oc47, od47, .func (PySem.W.fnOf "_law_any" "_law_any" (defArgs s_any) (defBody s_any) (defScope s_any) .none kV47 dc47 pm47 an47 cd47 ct47), sl47⟩)
    (c47 : PySem.W.codeIn K cd47 "_law_any" = true)
    (k47 : PySem.W.keepIn K (.ref f47) = true)
    (a48 : PySem.W.nsIn K mainGlobals "_law_same" = some (some (.ref f48)))
    (l48 : K.lookup f48 = some ⟨oc48, od48, .func (PySem.W.fnOf "_law_same" "_law_same" (defArgs s_same) (defBody s_same) (defScope s_same) .none kV48 dc48 pm48 an48 cd48 ct48), sl48⟩)
    (c48 : PySem.W.codeIn K cd48 "_law_same" = true)
    (k48 : PySem.W.keepIn K (.ref f48) = true)
    (a49 : PySem.W.nsIn K mainGlobals "_law_field" = some (some (.ref f49)))
    (l49 : K.lookup f49 = some ⟨oc49, od49, .func (PySem.W.fnOf "_law_field" "_law_field" (defArgs s_field) (defBody s_field) (defScope s_field) .none kV49 dc49 pm49 an49 cd49 ct49), sl49⟩)
    (c49 : PySem.W.codeIn K cd49 "_law_field" = true)
    (k49 : PySem.W.keepIn K (.ref f49) = true)
    (a50 : PySem.W.nsIn K mainGlobals "_law_why" = some (some (.ref f50)))
    (l50 : K.lookup f50 = some ⟨oc50, od50, .func (PySem.W.fnOf "_law_why" "_law_why" (defArgs s_why) (defBody s_why) (defScope s_why) .none kV50 dc50 pm50 an50 cd50 ct50), sl50⟩)
    (c50 : PySem.W.codeIn K cd50 "_law_why" = true)
    (k50 : PySem.W.keepIn K (.ref f50) = true)
    (a51 : PySem.W.nsIn K mainGlobals "_law_gcd" = some (some (.ref f51)))
    (l51 : K.lookup f51 = some ⟨oc51, od51, .func (PySem.W.fnOf "_law_gcd" "_law_gcd" (defArgs s_gcd) (defBody s_gcd) (defScope s_gcd) .none kV51 dc51 pm51 an51 cd51 ct51), sl51⟩)
    (c51 : PySem.W.codeIn K cd51 "_law_gcd" = true)
    (k51 : PySem.W.keepIn K (.ref f51) = true)
    (a52 : PySem.W.nsIn K mainGlobals "_law_low" = some (some (.ref f52)))
    (l52 : K.lookup f52 = some ⟨oc52, od52, .func (PySem.W.fnOf "_law_low" "_law_low" (defArgs s_low) (defBody s_low) (defScope s_low) .none kV52 dc52 pm52 an52 cd52 ct52), sl52⟩)
    (c52 : PySem.W.codeIn K cd52 "_law_low" = true)
    (k52 : PySem.W.keepIn K (.ref f52) = true)
    (a53 : PySem.W.nsIn K mainGlobals "_law_plus" = some (some (.ref f53)))
    (l53 : K.lookup f53 = some ⟨oc53, od53, .func (PySem.W.fnOf "_law_plus" "_law_plus" (defArgs s_plus) (defBody s_plus) (defScope s_plus) .none kV53 dc53 pm53 an53 cd53 ct53), sl53⟩)
    (c53 : PySem.W.codeIn K cd53 "_law_plus" = true)
    (k53 : PySem.W.keepIn K (.ref f53) = true)
    (a54 : PySem.W.nsIn K mainGlobals "_law_minus" = some (some (.ref f54)))
    (l54 : K.lookup f54 = some ⟨oc54, od54, .func (PySem.W.fnOf "_law_minus" "_law_minus" (defArgs s_minus) (defBody s_minus) (defScope s_minus) .none kV54 dc54 pm54 an54 cd54 ct54), sl54⟩)
    (c54 : PySem.W.codeIn K cd54 "_law_minus" = true)
    (k54 : PySem.W.keepIn K (.ref f54) = true)
    (a55 : PySem.W.nsIn K mainGlobals "_law_by" = some (some (.ref f55)))
    (l55 : K.lookup f55 = some ⟨oc55, od55, .func (PySem.W.fnOf "_law_by" "_law_by" (defArgs s_by) (defBody s_by) (defScope s_by) .none kV55 dc55 pm55 an55 cd55 ct55), sl55⟩)
    (c55 : PySem.W.codeIn K cd55 "_law_by" = true)
    (k55 : PySem.W.keepIn K (.ref f55) = true)
    (a56 : PySem.W.nsIn K mainGlobals "_law_words" = some (some (.ref f56)))
    (l56 : K.lookup f56 = some ⟨oc56, od56, .func (PySem.W.fnOf "_law_words" "_law_words" (defArgs s_words) (defBody s_words) (defScope s_words) .none kV56 dc56 pm56 an56 cd56 ct56), sl56⟩)
    (c56 : PySem.W.codeIn K cd56 "_law_words" = true)
    (k56 : PySem.W.keepIn K (.ref f56) = true)
    (a57 : PySem.W.nsIn K mainGlobals "_law_brief" = some (some (.ref f57)))
    (l57 : K.lookup f57 = some ⟨oc57, od57, .func (PySem.W.fnOf "_law_brief" "_law_brief" (defArgs s_brief) (defBody s_brief) (defScope s_brief) .none kV57 dc57 pm57 an57 cd57 ct57), sl57⟩)
    (c57 : PySem.W.codeIn K cd57 "_law_brief" = true)
    (k57 : PySem.W.keepIn K (.ref f57) = true)
    (a58 : PySem.W.nsIn K mainGlobals "_law_part_text" = some (some (.ref f58)))
    (l58 : K.lookup f58 = some ⟨oc58, od58, .func (PySem.W.fnOf "_law_part_text" "_law_part_text" (defArgs s_part_text) (defBody s_part_text) (defScope s_part_text) .none kV58 dc58 pm58 an58 cd58 ct58), sl58⟩)
    (c58 : PySem.W.codeIn K cd58 "_law_part_text" = true)
    (k58 : PySem.W.keepIn K (.ref f58) = true)
    (a59 : PySem.W.nsIn K mainGlobals "_law_run_end" = some (some (.ref f59)))
    (l59 : K.lookup f59 = some ⟨oc59, od59, .func (PySem.W.fnOf "_law_run_end" "_law_run_end" (defArgs s_run_end) (defBody s_run_end) (defScope s_run_end) .none kV59 dc59 pm59 an59 cd59 ct59), sl59⟩)
    (c59 : PySem.W.codeIn K cd59 "_law_run_end" = true)
    (k59 : PySem.W.keepIn K (.ref f59) = true)
    (a60 : PySem.W.nsIn K mainGlobals "_law_is_number" = some (some (.ref f60)))
    (l60 : K.lookup f60 = some ⟨oc60, od60, .func (PySem.W.fnOf "_law_is_number" "_law_is_number" (defArgs s_is_number) (defBody s_is_number) (defScope s_is_number) .none kV60 dc60 pm60 an60 cd60 ct60), sl60⟩)
    (c60 : PySem.W.codeIn K cd60 "_law_is_number" = true)
    (k60 : PySem.W.keepIn K (.ref f60) = true)
    (a61 : PySem.W.nsIn K mainGlobals "_law_symbols" = some (some (.ref f61)))
    (l61 : K.lookup f61 = some ⟨oc61, od61, .func (PySem.W.fnOf "_law_symbols" "_law_symbols" (defArgs s_symbols) (defBody s_symbols) (defScope s_symbols) .none kV61 dc61 pm61 an61 cd61 ct61), sl61⟩)
    (c61 : PySem.W.codeIn K cd61 "_law_symbols" = true)
    (k61 : PySem.W.keepIn K (.ref f61) = true)
    (a62 : PySem.W.nsIn K mainGlobals "_law_sum_fault" = some (some (.ref f62)))
    (l62 : K.lookup f62 = some ⟨oc62, od62, .func (PySem.W.fnOf "_law_sum_fault" "_law_sum_fault" (defArgs s_sum_fault) (defBody s_sum_fault) (defScope s_sum_fault) .none kV62 dc62 pm62 an62 cd62 ct62), sl62⟩)
    (c62 : PySem.W.codeIn K cd62 "_law_sum_fault" = true)
    (k62 : PySem.W.keepIn K (.ref f62) = true)
    (a63 : PySem.W.nsIn K mainGlobals "_law_number_of" = some (some (.ref f63)))
    (l63 : K.lookup f63 = some ⟨oc63, od63, .func (PySem.W.fnOf "_law_number_of" "_law_number_of" (defArgs s_number_of) (defBody s_number_of) (defScope s_number_of) .none kV63 dc63 pm63 an63 cd63 ct63), sl63⟩)
    (c63 : PySem.W.codeIn K cd63 "_law_number_of" = true)
    (k63 : PySem.W.keepIn K (.ref f63) = true)
    (a64 : PySem.W.nsIn K mainGlobals "_law_rates_of" = some (some (.ref f64)))
    (l64 : K.lookup f64 = some ⟨oc64, od64, .func (PySem.W.fnOf "_law_rates_of" "_law_rates_of" (defArgs s_rates_of) (defBody s_rates_of) (defScope s_rates_of) .none kV64 dc64 pm64 an64 cd64 ct64), sl64⟩)
    (c64 : PySem.W.codeIn K cd64 "_law_rates_of" = true)
    (k64 : PySem.W.keepIn K (.ref f64) = true)
    (a65 : PySem.W.nsIn K mainGlobals "_law_ties_of" = some (some (.ref f65)))
    (l65 : K.lookup f65 = some ⟨oc65, od65, .func (PySem.W.fnOf "_law_ties_of" "_law_ties_of" (defArgs s_ties_of) (defBody s_ties_of) (defScope s_ties_of) .none kV65 dc65 pm65 an65 cd65 ct65), sl65⟩)
    (c65 : PySem.W.codeIn K cd65 "_law_ties_of" = true)
    (k65 : PySem.W.keepIn K (.ref f65) = true)
    (a66 : PySem.W.nsIn K mainGlobals "_law_gap" = some (some (.ref f66)))
    (l66 : K.lookup f66 = some ⟨oc66, od66, .func (PySem.W.fnOf "_law_gap" "_law_gap" (defArgs s_gap) (defBody s_gap) (defScope s_gap) .none kV66 dc66 pm66 an66 cd66 ct66), sl66⟩)
    (c66 : PySem.W.codeIn K cd66 "_law_gap" = true)
    (k66 : PySem.W.keepIn K (.ref f66) = true)
    (a67 : PySem.W.nsIn K mainGlobals "_law_drawn_sum" = some (some (.ref f67)))
    (l67 : K.lookup f67 = some ⟨oc67, od67, .func (PySem.W.fnOf "_law_drawn_sum" "_law_drawn_sum" (defArgs s_drawn_sum) (defBody s_drawn_sum) (defScope s_drawn_sum) .none kV67 dc67 pm67 an67 cd67 ct67), sl67⟩)
    (c67 : PySem.W.codeIn K cd67 "_law_drawn_sum" = true)
    (k67 : PySem.W.keepIn K (.ref f67) = true)
    (a68 : PySem.W.nsIn K mainGlobals "_law_drawn_text" = some (some (.ref f68)))
    (l68 : K.lookup f68 = some ⟨oc68, od68, .func (PySem.W.fnOf "_law_drawn_text" "_law_drawn_text" (defArgs s_drawn_text) (defBody s_drawn_text) (defScope s_drawn_text) .none kV68 dc68 pm68 an68 cd68 ct68), sl68⟩)
    (c68 : PySem.W.codeIn K cd68 "_law_drawn_text" = true)
    (k68 : PySem.W.keepIn K (.ref f68) = true)
    (a69 : PySem.W.nsIn K mainGlobals "law" = some (some (.ref f69)))
    (l69 : K.lookup f69 = some ⟨oc69, od69, .func (PySem.W.fnOf "law" "law" (defArgs s_p_law) (defBody s_p_law) (defScope s_p_law) .none kV69 dc69 pm69 an69 (.ref cc) ct69), sl69⟩)
    (c69 : PySem.W.codeIn K (.ref cc) "law" = true)
    (k69 : PySem.W.keepIn K (.ref f69) = true)
    (b1 : PySem.W.nsIn K mainGlobals "TieError" = some (some (.ref f1)))
    (be1 : PySem.W.subIn K (.ref f1) (.type "BaseException") = some true)
    (bi1 : PySem.W.isClsIn K f1 = true)
    (bt1 : PySem.W.typeIn K (.ref f1) = some (.type "type"))
    (b5 : PySem.W.nsIn K mainGlobals "Missing" = some (some (.ref f5)))
    (be5 : PySem.W.subIn K (.ref f5) (.type "BaseException") = some true)
    (bi5 : PySem.W.isClsIn K f5 = true)
    (bt5 : PySem.W.typeIn K (.ref f5) = some (.type "type"))
    (a2 : PySem.W.nsIn K mainGlobals "InvalidRatio" = some (some (.ref f2)))
    (x2 : K.lookup f2 = some (excClassObj nm2 q2 f2 N2 bs2 [.ref f1, .type "ValueError", .type "Exception", .type "BaseException", .type "object"] true sn2 sub2 ab2 col2 dd2 m02 m12 m22 m32 m52 "ValueError.__new__"))
    (sa2 : PySem.W.findIn K (.ref f2) "__setattr__" = some (some (.builtin "object.__setattr__")))
    (ga2 : PySem.W.findIn K (.ref f2) "__getattribute__" = some (some (.builtin "BaseException.__getattribute__")))
    (gg2 : PySem.W.findIn K (.ref f2) "__getattr__" = some none)
    (nt2 : PySem.W.findIn K (.ref f2) "tag" = some none)
    (ii2 : PySem.W.findIn K (.ref f2) "__init__" = some (some (.ref f1002)))
    (ti2 : PySem.W.typeIn K (.ref f1002) = some (.type "function"))
    (kC2 : PySem.W.keepIn K (.ref f2) = true)
    (eC2 : PySem.W.subIn K (.ref f2) (.type "BaseException") = some true)
    (tC2 : PySem.W.typeIn K (.ref f2) = some (.type "type"))
    (hC2 : PySem.W.hasDictIn K f2 = true)
    (sT2 : PySem.W.subIn K (.ref f2) (.ref f1) = some true)
    (sM2 : PySem.W.subIn K (.ref f2) (.ref f5) = some false)
    (n2_given : PySem.W.findIn K (.ref f2) "given" = some none)
    (l1002 : K.lookup f1002 = some ⟨oc1002, od1002, .func (PySem.W.fnOf "__init__" "InvalidRatio.__init__" (defArgs (inClass (topS 2) 0)) (defBody (inClass (topS 2) 0)) (defScope (inClass (topS 2) 0)) .none kV1002 dc1002 pm1002 an1002 cd1002 ct1002), sl1002⟩)
    (c1002 : PySem.W.codeIn K cd1002 "InvalidRatio.__init__" = true)
    (k1002 : PySem.W.keepIn K (.ref f1002) = true)
    (a3 : PySem.W.nsIn K mainGlobals "NotTied" = some (some (.ref f3)))
    (x3 : K.lookup f3 = some (excClassObj nm3 q3 f3 N3 bs3 [.ref f1, .type "ValueError", .type "Exception", .type "BaseException", .type "object"] true sn3 sub3 ab3 col3 dd3 m03 m13 m23 m33 m53 "ValueError.__new__"))
    (sa3 : PySem.W.findIn K (.ref f3) "__setattr__" = some (some (.builtin "object.__setattr__")))
    (ga3 : PySem.W.findIn K (.ref f3) "__getattribute__" = some (some (.builtin "BaseException.__getattribute__")))
    (gg3 : PySem.W.findIn K (.ref f3) "__getattr__" = some none)
    (nt3 : PySem.W.findIn K (.ref f3) "tag" = some none)
    (ii3 : PySem.W.findIn K (.ref f3) "__init__" = some (some (.ref f1003)))
    (ti3 : PySem.W.typeIn K (.ref f1003) = some (.type "function"))
    (kC3 : PySem.W.keepIn K (.ref f3) = true)
    (eC3 : PySem.W.subIn K (.ref f3) (.type "BaseException") = some true)
    (tC3 : PySem.W.typeIn K (.ref f3) = some (.type "type"))
    (hC3 : PySem.W.hasDictIn K f3 = true)
    (sT3 : PySem.W.subIn K (.ref f3) (.ref f1) = some true)
    (sM3 : PySem.W.subIn K (.ref f3) (.ref f5) = some false)
    (n3_many : PySem.W.findIn K (.ref f3) "many" = some none)
    (l1003 : K.lookup f1003 = some ⟨oc1003, od1003, .func (PySem.W.fnOf "__init__" "NotTied.__init__" (defArgs (inClass (topS 3) 0)) (defBody (inClass (topS 3) 0)) (defScope (inClass (topS 3) 0)) .none kV1003 dc1003 pm1003 an1003 cd1003 ct1003), sl1003⟩)
    (c1003 : PySem.W.codeIn K cd1003 "NotTied.__init__" = true)
    (k1003 : PySem.W.keepIn K (.ref f1003) = true)
    (a4 : PySem.W.nsIn K mainGlobals "ParseError" = some (some (.ref f4)))
    (x4 : K.lookup f4 = some (excClassObj nm4 q4 f4 N4 bs4 [.ref f1, .type "ValueError", .type "Exception", .type "BaseException", .type "object"] true sn4 sub4 ab4 col4 dd4 m04 m14 m24 m34 m54 "ValueError.__new__"))
    (sa4 : PySem.W.findIn K (.ref f4) "__setattr__" = some (some (.builtin "object.__setattr__")))
    (ga4 : PySem.W.findIn K (.ref f4) "__getattribute__" = some (some (.builtin "BaseException.__getattribute__")))
    (gg4 : PySem.W.findIn K (.ref f4) "__getattr__" = some none)
    (nt4 : PySem.W.findIn K (.ref f4) "tag" = some none)
    (ii4 : PySem.W.findIn K (.ref f4) "__init__" = some (some (.ref f1004)))
    (ti4 : PySem.W.typeIn K (.ref f1004) = some (.type "function"))
    (kC4 : PySem.W.keepIn K (.ref f4) = true)
    (eC4 : PySem.W.subIn K (.ref f4) (.type "BaseException") = some true)
    (tC4 : PySem.W.typeIn K (.ref f4) = some (.type "type"))
    (hC4 : PySem.W.hasDictIn K f4 = true)
    (sT4 : PySem.W.subIn K (.ref f4) (.ref f1) = some true)
    (sM4 : PySem.W.subIn K (.ref f4) (.ref f5) = some false)
    (n4_at : PySem.W.findIn K (.ref f4) "at" = some none)
    (l1004 : K.lookup f1004 = some ⟨oc1004, od1004, .func (PySem.W.fnOf "__init__" "ParseError.__init__" (defArgs (inClass (topS 4) 0)) (defBody (inClass (topS 4) 0)) (defScope (inClass (topS 4) 0)) .none kV1004 dc1004 pm1004 an1004 cd1004 ct1004), sl1004⟩)
    (c1004 : PySem.W.codeIn K cd1004 "ParseError.__init__" = true)
    (k1004 : PySem.W.keepIn K (.ref f1004) = true)
    (zc_ZERO : PySem.W.nsIn K mainGlobals "ZERO" = some (some (.ref fZ_ZERO)))
    (lz_ZERO : K.lookup fZ_ZERO = some ⟨.type "tuple", odZ_ZERO, .seq ([Value.int 0 tz_ZERO0, Value.int 1 tz_ZERO1] : List Value).toArray nZ_ZERO, slZ_ZERO⟩)
    (zc_LONG : PySem.W.nsIn K mainGlobals "LONG" = some (some (Value.int 4096 tk_LONG)))
    (zc_DIGITS : PySem.W.nsIn K mainGlobals "DIGITS" = some (some (Value.str (Str.ofString "0123456789") tk_DIGITS)))
    (zc_LETTERS : PySem.W.nsIn K mainGlobals "LETTERS" = some (some (Value.str (Str.ofString "abcdefghijklmnopqrstuvwxyz") tk_LETTERS)))
    (zc_MOST_DIGITS : PySem.W.nsIn K mainGlobals "MOST_DIGITS" = some (some (Value.int 30 tk_MOST_DIGITS)))
    (zc_MOST_LETTERS : PySem.W.nsIn K mainGlobals "MOST_LETTERS" = some (some (Value.int 6 tk_MOST_LETTERS)))
    (ht : PySem.W.tabIn K "law" = some (cc, Pt))
    (nT : K.lookup Pt = none)
    (z_int : PySem.W.nsIn K mainGlobals "int" = some none)
    (z_len : PySem.W.nsIn K mainGlobals "len" = some none)
    (z_abs : PySem.W.nsIn K mainGlobals "abs" = some none)
    (z_range : PySem.W.nsIn K mainGlobals "range" = some none)
    (z_zip : PySem.W.nsIn K mainGlobals "zip" = some none)
    (z_all : PySem.W.nsIn K mainGlobals "all" = some none)
    (z_isinstance : PySem.W.nsIn K mainGlobals "isinstance" = some none)
    (z_bool : PySem.W.nsIn K mainGlobals "bool" = some none)
    (z_str : PySem.W.nsIn K mainGlobals "str" = some none)
    (z_tuple : PySem.W.nsIn K mainGlobals "tuple" = some none)
    (z_list : PySem.W.nsIn K mainGlobals "list" = some none)
    (z_dict : PySem.W.nsIn K mainGlobals "dict" = some none)
    (z_sorted : PySem.W.nsIn K mainGlobals "sorted" = some none)
    (z_set : PySem.W.nsIn K mainGlobals "set" = some none)
    : LamX.LawAtS l w K CX0 12 63 "_law_script" mg fl h := by
  have G := TP.g
  have e := hfa.symm.trans (PySem.W.mg_of X G a69)
  cases e
  obtain ⟨hC, hP⟩ := PySem.W.tab_of TP X hr0 ht
  have F12 := fun_mk (st := s_p_shortened) l12 c12 k12
  have F13 := fun_mk (st := s_p_common_divisor) l13 c13 k13
  have F14 : FunD K "ratio" "ratio" (defArgs s_p_ratio) (defBody s_p_ratio) (defScope s_p_ratio) [V.int 1] [] f14 (PySem.W.fnOf "ratio" "ratio" (defArgs s_p_ratio) (defBody s_p_ratio) (defScope s_p_ratio) (.ref fT14) kV14 dc14 pm14 an14 cd14 ct14) := ⟨⟨_, _, _, _, _, _, _, _, _, _, rfl, l14, c14, .inr ⟨by simp, _, _, _, _, rfl, t14, rfl, (.cons ⟨_, rfl⟩ .nil)⟩, .inl rfl⟩, k14⟩
  have Bn14 : Binds K (PySem.W.fnOf "ratio" "ratio" (defArgs s_p_ratio) (defBody s_p_ratio) (defScope s_p_ratio) (.ref fT14) kV14 dc14 pm14 an14 cd14 ct14) ["top", "under"] [] := by
    obtain ⟨ds, v, b⟩ := F14.binds1 (ps := ["top", "under"]) 2 1 (by simp) rfl fun T kV doc pm an cdv ct us its h1 h2 => match us, its, h1, h2 with | [_, _], [_], _, _ => ⟨_, rfl, rfl⟩
    cases v
    exact b
  have Bd14 := F14.binds1 (ps := ["top", "under"]) 1 0 (by simp) rfl fun T kV doc pm an cdv ct us its h1 h2 => match us, its, h1, h2 with | [_], [_], _, _ => ⟨_, rfl, rfl⟩
  have F15 := fun_mk (st := s_p_add) l15 c15 k15
  have F16 := fun_mk (st := s_p_subtract) l16 c16 k16
  have F17 := fun_mk (st := s_p_multiply) l17 c17 k17
  have F18 := fun_mk (st := s_p_is_digits) l18 c18 k18
  have F19 := fun_mk (st := s_p_number_text) l19 c19 k19
  have F20 := fun_mk (st := s_p_number_of) l20 c20 k20
  have F21 := fun_mk (st := s_p_ratio_text) l21 c21 k21
  have F22 := fun_mk (st := s_p_ratio_of) l22 c22 k22
  have F28 := fun_mk (st := s_p_run_end) l28 c28 k28
  have F29 := fun_mk (st := s_p_number_symbol) l29 c29 k29
  have F30 := fun_mk (st := s_p_name_symbol) l30 c30 k30
  have F31 := fun_mk (st := s_p_symbol_at) l31 c31 k31
  have F32 := fun_mk (st := s_p_symbols_of) l32 c32 k32
  have F33 := fun_mk (st := s_p_read_term) l33 c33 k33
  have F34 := fun_mk (st := s_p_read_sum) l34 c34 k34
  have F36 := fun_mk (st := s_p_reduced) l36 c36 k36
  have F37 := fun_mk (st := s_p_term_text) l37 c37 k37
  have F38 := fun_mk (st := s_p_terms_text) l38 c38 k38
  have F39 := fun_mk (st := s_p_tie_text) l39 c39 k39
  have F40 := fun_mk (st := s_p_ascending_names) l40 c40 k40
  have F41 := fun_mk (st := s_p_brought_together) l41 c41 k41
  have F42 := fun_mk (st := s_p_tie_below) l42 c42 k42
  have F43 := fun_mk (st := s_p_read_ties) l43 c43 k43
  have F45 := fun_mk (st := s_feed) l45 c45 k45
  have F46 := fun_mk (st := s_draw) l46 c46 k46
  have F47 := fun_mk (st := s_any) l47 c47 k47
  have F48 := fun_mk (st := s_same) l48 c48 k48
  have F49 := fun_mk (st := s_field) l49 c49 k49
  have F50 := fun_mk (st := s_why) l50 c50 k50
  have F51 := fun_mk (st := s_gcd) l51 c51 k51
  have F52 := fun_mk (st := s_low) l52 c52 k52
  have F53 := fun_mk (st := s_plus) l53 c53 k53
  have F54 := fun_mk (st := s_minus) l54 c54 k54
  have F55 := fun_mk (st := s_by) l55 c55 k55
  have F56 := fun_mk (st := s_words) l56 c56 k56
  have F57 := fun_mk (st := s_brief) l57 c57 k57
  have F58 := fun_mk (st := s_part_text) l58 c58 k58
  have F59 := fun_mk (st := s_run_end) l59 c59 k59
  have F60 := fun_mk (st := s_is_number) l60 c60 k60
  have F61 := fun_mk (st := s_symbols) l61 c61 k61
  have F62 := fun_mk (st := s_sum_fault) l62 c62 k62
  have F63 := fun_mk (st := s_number_of) l63 c63 k63
  have F64 := fun_mk (st := s_rates_of) l64 c64 k64
  have F65 := fun_mk (st := s_ties_of) l65 c65 k65
  have F66 := fun_mk (st := s_gap) l66 c66 k66
  have F67 := fun_mk (st := s_drawn_sum) l67 c67 k67
  have F68 := fun_mk (st := s_drawn_text) l68 c68 k68
  have F69 := fun_mk (st := s_p_law) l69 c69 k69
  have FC : FunC K "law" s_p_law fl (PySem.W.fnOf "law" "law" (defArgs s_p_law) (defBody s_p_law) (defScope s_p_law) .none kV69 dc69 pm69 an69 (.ref cc) ct69) cc := ⟨_, _, _, _, _, _, _, _, rfl, l69, c69⟩
  have F1002 := fun_mk (st := inClass (topS 2) 0) l1002 c1002 k1002
  have E2 : ErrC K mg "InvalidRatio" f2 f1 f5 f1002 := ⟨⟨⟨_, _, _, _, _, _, _, _, _, _, _, _, _, _, _, x2, by first | rfl | decide⟩, sa2, eC2, tC2, kC2⟩, ⟨ga2, gg2, eC2, hC2⟩, PySem.W.mg_of X G a2, nt2, exm_any (exm_by be1 bi1 bt1 sT2) (exm_by be5 bi5 bt5 sM2), ii2, ti2⟩
  have F1003 := fun_mk (st := inClass (topS 3) 0) l1003 c1003 k1003
  have E3 : ErrC K mg "NotTied" f3 f1 f5 f1003 := ⟨⟨⟨_, _, _, _, _, _, _, _, _, _, _, _, _, _, _, x3, by first | rfl | decide⟩, sa3, eC3, tC3, kC3⟩, ⟨ga3, gg3, eC3, hC3⟩, PySem.W.mg_of X G a3, nt3, exm_any (exm_by be1 bi1 bt1 sT3) (exm_by be5 bi5 bt5 sM3), ii3, ti3⟩
  have F1004 := fun_mk (st := inClass (topS 4) 0) l1004 c1004 k1004
  have E4 : ErrC K mg "ParseError" f4 f1 f5 f1004 := ⟨⟨⟨_, _, _, _, _, _, _, _, _, _, _, _, _, _, _, x4, by first | rfl | decide⟩, sa4, eC4, tC4, kC4⟩, ⟨ga4, gg4, eC4, hC4⟩, PySem.W.mg_of X G a4, nt4, exm_any (exm_by be1 bi1 bt1 sT4) (exm_by be5 bi5 bt5 sM4), ii4, ti4⟩
  have T : Txt K mg (fun i => match i with
      | 12 => f12
      | 13 => f13
      | 14 => f14
      | 15 => f15
      | 16 => f16
      | 17 => f17
      | 18 => f18
      | 19 => f19
      | 20 => f20
      | 21 => f21
      | 22 => f22
      | 28 => f28
      | 29 => f29
      | 30 => f30
      | 31 => f31
      | 32 => f32
      | 33 => f33
      | 34 => f34
      | 36 => f36
      | 37 => f37
      | 38 => f38
      | 39 => f39
      | 40 => f40
      | 41 => f41
      | 42 => f42
      | 43 => f43
      | 45 => f45
      | 46 => f46
      | 47 => f47
      | 48 => f48
      | 49 => f49
      | 50 => f50
      | 51 => f51
      | 52 => f52
      | 53 => f53
      | 54 => f54
      | 55 => f55
      | 56 => f56
      | 57 => f57
      | 58 => f58
      | 59 => f59
      | 60 => f60
      | 61 => f61
      | 62 => f62
      | 63 => f63
      | 64 => f64
      | 65 => f65
      | 66 => f66
      | 67 => f67
      | 68 => f68
      | 69 => fl
      | 1 => f1
      | 2 => f2
      | 3 => f3
      | 4 => f4
      | 5 => f5
      | 1002 => f1002
      | 1003 => f1003
      | 1004 => f1004
      | 2000 => fZ_ZERO
      | _ => fl) (fun i => match i with
      | 12 => PySem.W.fnOf "shortened" "shortened" (defArgs s_p_shortened) (defBody s_p_shortened) (defScope s_p_shortened) .none kV12 dc12 pm12 an12 cd12 ct12
      | 13 => PySem.W.fnOf "common_divisor" "common_divisor" (defArgs s_p_common_divisor) (defBody s_p_common_divisor) (defScope s_p_common_divisor) .none kV13 dc13 pm13 an13 cd13 ct13
      | 14 => PySem.W.fnOf "ratio" "ratio" (defArgs s_p_ratio) (defBody s_p_ratio) (defScope s_p_ratio) (.ref fT14) kV14 dc14 pm14 an14 cd14 ct14
      | 15 => PySem.W.fnOf "add" "add" (defArgs s_p_add) (defBody s_p_add) (defScope s_p_add) .none kV15 dc15 pm15 an15 cd15 ct15
      | 16 => PySem.W.fnOf "subtract" "subtract" (defArgs s_p_subtract) (defBody s_p_subtract) (defScope s_p_subtract) .none kV16 dc16 pm16 an16 cd16 ct16
      | 17 => PySem.W.fnOf "multiply" "multiply" (defArgs s_p_multiply) (defBody s_p_multiply) (defScope s_p_multiply) .none kV17 dc17 pm17 an17 cd17 ct17
      | 18 => PySem.W.fnOf "is_digits" "is_digits" (defArgs s_p_is_digits) (defBody s_p_is_digits) (defScope s_p_is_digits) .none kV18 dc18 pm18 an18 cd18 ct18
      | 19 => PySem.W.fnOf "number_text" "number_text" (defArgs s_p_number_text) (defBody s_p_number_text) (defScope s_p_number_text) .none kV19 dc19 pm19 an19 cd19 ct19
      | 20 => PySem.W.fnOf "number_of" "number_of" (defArgs s_p_number_of) (defBody s_p_number_of) (defScope s_p_number_of) .none kV20 dc20 pm20 an20 cd20 ct20
      | 21 => PySem.W.fnOf "ratio_text" "ratio_text" (defArgs s_p_ratio_text) (defBody s_p_ratio_text) (defScope s_p_ratio_text) .none kV21 dc21 pm21 an21 cd21 ct21
      | 22 => PySem.W.fnOf "ratio_of" "ratio_of" (defArgs s_p_ratio_of) (defBody s_p_ratio_of) (defScope s_p_ratio_of) .none kV22 dc22 pm22 an22 cd22 ct22
      | 28 => PySem.W.fnOf "run_end" "run_end" (defArgs s_p_run_end) (defBody s_p_run_end) (defScope s_p_run_end) .none kV28 dc28 pm28 an28 cd28 ct28
      | 29 => PySem.W.fnOf "number_symbol" "number_symbol" (defArgs s_p_number_symbol) (defBody s_p_number_symbol) (defScope s_p_number_symbol) .none kV29 dc29 pm29 an29 cd29 ct29
      | 30 => PySem.W.fnOf "name_symbol" "name_symbol" (defArgs s_p_name_symbol) (defBody s_p_name_symbol) (defScope s_p_name_symbol) .none kV30 dc30 pm30 an30 cd30 ct30
      | 31 => PySem.W.fnOf "symbol_at" "symbol_at" (defArgs s_p_symbol_at) (defBody s_p_symbol_at) (defScope s_p_symbol_at) .none kV31 dc31 pm31 an31 cd31 ct31
      | 32 => PySem.W.fnOf "symbols_of" "symbols_of" (defArgs s_p_symbols_of) (defBody s_p_symbols_of) (defScope s_p_symbols_of) .none kV32 dc32 pm32 an32 cd32 ct32
      | 33 => PySem.W.fnOf "read_term" "read_term" (defArgs s_p_read_term) (defBody s_p_read_term) (defScope s_p_read_term) .none kV33 dc33 pm33 an33 cd33 ct33
      | 34 => PySem.W.fnOf "read_sum" "read_sum" (defArgs s_p_read_sum) (defBody s_p_read_sum) (defScope s_p_read_sum) .none kV34 dc34 pm34 an34 cd34 ct34
      | 36 => PySem.W.fnOf "reduced" "reduced" (defArgs s_p_reduced) (defBody s_p_reduced) (defScope s_p_reduced) .none kV36 dc36 pm36 an36 cd36 ct36
      | 37 => PySem.W.fnOf "term_text" "term_text" (defArgs s_p_term_text) (defBody s_p_term_text) (defScope s_p_term_text) .none kV37 dc37 pm37 an37 cd37 ct37
      | 38 => PySem.W.fnOf "terms_text" "terms_text" (defArgs s_p_terms_text) (defBody s_p_terms_text) (defScope s_p_terms_text) .none kV38 dc38 pm38 an38 cd38 ct38
      | 39 => PySem.W.fnOf "tie_text" "tie_text" (defArgs s_p_tie_text) (defBody s_p_tie_text) (defScope s_p_tie_text) .none kV39 dc39 pm39 an39 cd39 ct39
      | 40 => PySem.W.fnOf "ascending_names" "ascending_names" (defArgs s_p_ascending_names) (defBody s_p_ascending_names) (defScope s_p_ascending_names) .none kV40 dc40 pm40 an40 cd40 ct40
      | 41 => PySem.W.fnOf "brought_together" "brought_together" (defArgs s_p_brought_together) (defBody s_p_brought_together) (defScope s_p_brought_together) .none kV41 dc41 pm41 an41 cd41 ct41
      | 42 => PySem.W.fnOf "tie_below" "tie_below" (defArgs s_p_tie_below) (defBody s_p_tie_below) (defScope s_p_tie_below) .none kV42 dc42 pm42 an42 cd42 ct42
      | 43 => PySem.W.fnOf "read_ties" "read_ties" (defArgs s_p_read_ties) (defBody s_p_read_ties) (defScope s_p_read_ties) .none kV43 dc43 pm43 an43 cd43 ct43
      | 45 => PySem.W.fnOf "_law_feed" "_law_feed" (defArgs s_feed) (defBody s_feed) (defScope s_feed) .none kV45 dc45 pm45 an45 cd45 ct45
      | 46 => PySem.W.fnOf "_law_draw" "_law_draw" (defArgs s_draw) (defBody s_draw) (defScope s_draw) .none kV46 dc46 pm46 an46 cd46 ct46
      | 47 => PySem.W.fnOf "_law_any" "_law_any" (defArgs s_any) (defBody s_any) (defScope s_any) .none kV47 dc47 pm47 an47 cd47 ct47
      | 48 => PySem.W.fnOf "_law_same" "_law_same" (defArgs s_same) (defBody s_same) (defScope s_same) .none kV48 dc48 pm48 an48 cd48 ct48
      | 49 => PySem.W.fnOf "_law_field" "_law_field" (defArgs s_field) (defBody s_field) (defScope s_field) .none kV49 dc49 pm49 an49 cd49 ct49
      | 50 => PySem.W.fnOf "_law_why" "_law_why" (defArgs s_why) (defBody s_why) (defScope s_why) .none kV50 dc50 pm50 an50 cd50 ct50
      | 51 => PySem.W.fnOf "_law_gcd" "_law_gcd" (defArgs s_gcd) (defBody s_gcd) (defScope s_gcd) .none kV51 dc51 pm51 an51 cd51 ct51
      | 52 => PySem.W.fnOf "_law_low" "_law_low" (defArgs s_low) (defBody s_low) (defScope s_low) .none kV52 dc52 pm52 an52 cd52 ct52
      | 53 => PySem.W.fnOf "_law_plus" "_law_plus" (defArgs s_plus) (defBody s_plus) (defScope s_plus) .none kV53 dc53 pm53 an53 cd53 ct53
      | 54 => PySem.W.fnOf "_law_minus" "_law_minus" (defArgs s_minus) (defBody s_minus) (defScope s_minus) .none kV54 dc54 pm54 an54 cd54 ct54
      | 55 => PySem.W.fnOf "_law_by" "_law_by" (defArgs s_by) (defBody s_by) (defScope s_by) .none kV55 dc55 pm55 an55 cd55 ct55
      | 56 => PySem.W.fnOf "_law_words" "_law_words" (defArgs s_words) (defBody s_words) (defScope s_words) .none kV56 dc56 pm56 an56 cd56 ct56
      | 57 => PySem.W.fnOf "_law_brief" "_law_brief" (defArgs s_brief) (defBody s_brief) (defScope s_brief) .none kV57 dc57 pm57 an57 cd57 ct57
      | 58 => PySem.W.fnOf "_law_part_text" "_law_part_text" (defArgs s_part_text) (defBody s_part_text) (defScope s_part_text) .none kV58 dc58 pm58 an58 cd58 ct58
      | 59 => PySem.W.fnOf "_law_run_end" "_law_run_end" (defArgs s_run_end) (defBody s_run_end) (defScope s_run_end) .none kV59 dc59 pm59 an59 cd59 ct59
      | 60 => PySem.W.fnOf "_law_is_number" "_law_is_number" (defArgs s_is_number) (defBody s_is_number) (defScope s_is_number) .none kV60 dc60 pm60 an60 cd60 ct60
      | 61 => PySem.W.fnOf "_law_symbols" "_law_symbols" (defArgs s_symbols) (defBody s_symbols) (defScope s_symbols) .none kV61 dc61 pm61 an61 cd61 ct61
      | 62 => PySem.W.fnOf "_law_sum_fault" "_law_sum_fault" (defArgs s_sum_fault) (defBody s_sum_fault) (defScope s_sum_fault) .none kV62 dc62 pm62 an62 cd62 ct62
      | 63 => PySem.W.fnOf "_law_number_of" "_law_number_of" (defArgs s_number_of) (defBody s_number_of) (defScope s_number_of) .none kV63 dc63 pm63 an63 cd63 ct63
      | 64 => PySem.W.fnOf "_law_rates_of" "_law_rates_of" (defArgs s_rates_of) (defBody s_rates_of) (defScope s_rates_of) .none kV64 dc64 pm64 an64 cd64 ct64
      | 65 => PySem.W.fnOf "_law_ties_of" "_law_ties_of" (defArgs s_ties_of) (defBody s_ties_of) (defScope s_ties_of) .none kV65 dc65 pm65 an65 cd65 ct65
      | 66 => PySem.W.fnOf "_law_gap" "_law_gap" (defArgs s_gap) (defBody s_gap) (defScope s_gap) .none kV66 dc66 pm66 an66 cd66 ct66
      | 67 => PySem.W.fnOf "_law_drawn_sum" "_law_drawn_sum" (defArgs s_drawn_sum) (defBody s_drawn_sum) (defScope s_drawn_sum) .none kV67 dc67 pm67 an67 cd67 ct67
      | 68 => PySem.W.fnOf "_law_drawn_text" "_law_drawn_text" (defArgs s_drawn_text) (defBody s_drawn_text) (defScope s_drawn_text) .none kV68 dc68 pm68 an68 cd68 ct68
      | 69 => PySem.W.fnOf "law" "law" (defArgs s_p_law) (defBody s_p_law) (defScope s_p_law) .none kV69 dc69 pm69 an69 (.ref cc) ct69
      | 1002 => PySem.W.fnOf "__init__" "InvalidRatio.__init__" (defArgs (inClass (topS 2) 0)) (defBody (inClass (topS 2) 0)) (defScope (inClass (topS 2) 0)) .none kV1002 dc1002 pm1002 an1002 cd1002 ct1002
      | 1003 => PySem.W.fnOf "__init__" "NotTied.__init__" (defArgs (inClass (topS 3) 0)) (defBody (inClass (topS 3) 0)) (defScope (inClass (topS 3) 0)) .none kV1003 dc1003 pm1003 an1003 cd1003 ct1003
      | 1004 => PySem.W.fnOf "__init__" "ParseError.__init__" (defArgs (inClass (topS 4) 0)) (defBody (inClass (topS 4) 0)) (defScope (inClass (topS 4) 0)) .none kV1004 dc1004 pm1004 an1004 cd1004 ct1004
      | _ => PySem.W.fnOf "law" "law" (defArgs s_p_law) (defBody s_p_law) (defScope s_p_law) .none kV69 dc69 pm69 an69 (.ref cc) ct69) := {
    F_p_shortened := F12, g_p_shortened := PySem.W.mg_of X G a12
    b_p_shortened := F12.binds (ps := ["one", "other"]) fun _ _ _ _ _ _ us hl => match us, hl with | [_, _], _ => rfl
    F_p_common_divisor := F13, g_p_common_divisor := PySem.W.mg_of X G a13
    b_p_common_divisor := F13.binds (ps := ["one", "other"]) fun _ _ _ _ _ _ us hl => match us, hl with | [_, _], _ => rfl
    F_p_ratio := F14, g_p_ratio := PySem.W.mg_of X G a14
    b_p_ratio := Bn14, d_p_ratio := Bd14
    F_p_add := F15, g_p_add := PySem.W.mg_of X G a15
    b_p_add := F15.binds (ps := ["one", "other"]) fun _ _ _ _ _ _ us hl => match us, hl with | [_, _], _ => rfl
    F_p_subtract := F16, g_p_subtract := PySem.W.mg_of X G a16
    b_p_subtract := F16.binds (ps := ["one", "other"]) fun _ _ _ _ _ _ us hl => match us, hl with | [_, _], _ => rfl
    F_p_multiply := F17, g_p_multiply := PySem.W.mg_of X G a17
    b_p_multiply := F17.binds (ps := ["one", "other"]) fun _ _ _ _ _ _ us hl => match us, hl with | [_, _], _ => rfl
    F_p_is_digits := F18, g_p_is_digits := PySem.W.mg_of X G a18
    b_p_is_digits := F18.binds (ps := ["text"]) fun _ _ _ _ _ _ us hl => match us, hl with | [_], _ => rfl
    F_p_number_text := F19, g_p_number_text := PySem.W.mg_of X G a19
    b_p_number_text := F19.binds (ps := ["number"]) fun _ _ _ _ _ _ us hl => match us, hl with | [_], _ => rfl
    F_p_number_of := F20, g_p_number_of := PySem.W.mg_of X G a20
    b_p_number_of := F20.binds (ps := ["digits"]) fun _ _ _ _ _ _ us hl => match us, hl with | [_], _ => rfl
    F_p_ratio_text := F21, g_p_ratio_text := PySem.W.mg_of X G a21
    b_p_ratio_text := F21.binds (ps := ["one"]) fun _ _ _ _ _ _ us hl => match us, hl with | [_], _ => rfl
    F_p_ratio_of := F22, g_p_ratio_of := PySem.W.mg_of X G a22
    b_p_ratio_of := F22.binds (ps := ["text"]) fun _ _ _ _ _ _ us hl => match us, hl with | [_], _ => rfl
    F_p_run_end := F28, g_p_run_end := PySem.W.mg_of X G a28
    b_p_run_end := F28.binds (ps := ["text", "at", "letters"]) fun _ _ _ _ _ _ us hl => match us, hl with | [_, _, _], _ => rfl
    F_p_number_symbol := F29, g_p_number_symbol := PySem.W.mg_of X G a29
    b_p_number_symbol := F29.binds (ps := ["text", "at"]) fun _ _ _ _ _ _ us hl => match us, hl with | [_, _], _ => rfl
    F_p_name_symbol := F30, g_p_name_symbol := PySem.W.mg_of X G a30
    b_p_name_symbol := F30.binds (ps := ["text", "at"]) fun _ _ _ _ _ _ us hl => match us, hl with | [_, _], _ => rfl
    F_p_symbol_at := F31, g_p_symbol_at := PySem.W.mg_of X G a31
    b_p_symbol_at := F31.binds (ps := ["text", "at"]) fun _ _ _ _ _ _ us hl => match us, hl with | [_, _], _ => rfl
    F_p_symbols_of := F32, g_p_symbols_of := PySem.W.mg_of X G a32
    b_p_symbols_of := F32.binds (ps := ["text"]) fun _ _ _ _ _ _ us hl => match us, hl with | [_], _ => rfl
    F_p_read_term := F33, g_p_read_term := PySem.W.mg_of X G a33
    b_p_read_term := F33.binds (ps := ["symbols", "at"]) fun _ _ _ _ _ _ us hl => match us, hl with | [_, _], _ => rfl
    F_p_read_sum := F34, g_p_read_sum := PySem.W.mg_of X G a34
    b_p_read_sum := F34.binds (ps := ["symbols", "at"]) fun _ _ _ _ _ _ us hl => match us, hl with | [_, _], _ => rfl
    F_p_reduced := F36, g_p_reduced := PySem.W.mg_of X G a36
    b_p_reduced := F36.binds (ps := ["tie"]) fun _ _ _ _ _ _ us hl => match us, hl with | [_], _ => rfl
    F_p_term_text := F37, g_p_term_text := PySem.W.mg_of X G a37
    b_p_term_text := F37.binds (ps := ["name", "rate"]) fun _ _ _ _ _ _ us hl => match us, hl with | [_, _], _ => rfl
    F_p_terms_text := F38, g_p_terms_text := PySem.W.mg_of X G a38
    b_p_terms_text := F38.binds (ps := ["terms"]) fun _ _ _ _ _ _ us hl => match us, hl with | [_], _ => rfl
    F_p_tie_text := F39, g_p_tie_text := PySem.W.mg_of X G a39
    b_p_tie_text := F39.binds (ps := ["tie"]) fun _ _ _ _ _ _ us hl => match us, hl with | [_], _ => rfl
    F_p_ascending_names := F40, g_p_ascending_names := PySem.W.mg_of X G a40
    b_p_ascending_names := F40.binds (ps := ["rates"]) fun _ _ _ _ _ _ us hl => match us, hl with | [_], _ => rfl
    F_p_brought_together := F41, g_p_brought_together := PySem.W.mg_of X G a41
    b_p_brought_together := F41.binds (ps := ["left", "right"]) fun _ _ _ _ _ _ us hl => match us, hl with | [_, _], _ => rfl
    F_p_tie_below := F42, g_p_tie_below := PySem.W.mg_of X G a42
    b_p_tie_below := F42.binds (ps := ["left", "right"]) fun _ _ _ _ _ _ us hl => match us, hl with | [_, _], _ => rfl
    F_p_read_ties := F43, g_p_read_ties := PySem.W.mg_of X G a43
    b_p_read_ties := F43.binds (ps := ["text"]) fun _ _ _ _ _ _ us hl => match us, hl with | [_], _ => rfl
    F_feed := F45, g_feed := PySem.W.mg_of X G a45
    b_feed := F45.binds (ps := ["_law_script"]) fun _ _ _ _ _ _ us hl => match us, hl with | [_], _ => rfl
    F_draw := F46, g_draw := PySem.W.mg_of X G a46
    b_draw := F46.binds (ps := ["_law_feed_here", "_law_many"]) fun _ _ _ _ _ _ us hl => match us, hl with | [_, _], _ => rfl
    F_any := F47, g_any := PySem.W.mg_of X G a47
    b_any := F47.binds (ps := ["_law_feed_here", "_law_row"]) fun _ _ _ _ _ _ us hl => match us, hl with | [_, _], _ => rfl
    F_same := F48, g_same := PySem.W.mg_of X G a48
    b_same := F48.binds (ps := ["_law_found", "_law_due"]) fun _ _ _ _ _ _ us hl => match us, hl with | [_, _], _ => rfl
    F_field := F49, g_field := PySem.W.mg_of X G a49
    b_field := F49.binds (ps := ["_law_e"]) fun _ _ _ _ _ _ us hl => match us, hl with | [_], _ => rfl
    F_why := F50, g_why := PySem.W.mg_of X G a50
    b_why := F50.binds (ps := ["_law_ask"]) fun _ _ _ _ _ _ us hl => match us, hl with | [_], _ => rfl
    F_gcd := F51, g_gcd := PySem.W.mg_of X G a51
    b_gcd := F51.binds (ps := ["_law_one", "_law_two"]) fun _ _ _ _ _ _ us hl => match us, hl with | [_, _], _ => rfl
    F_low := F52, g_low := PySem.W.mg_of X G a52
    b_low := F52.binds (ps := ["_law_upper", "_law_lower"]) fun _ _ _ _ _ _ us hl => match us, hl with | [_, _], _ => rfl
    F_plus := F53, g_plus := PySem.W.mg_of X G a53
    b_plus := F53.binds (ps := ["_law_one", "_law_two"]) fun _ _ _ _ _ _ us hl => match us, hl with | [_, _], _ => rfl
    F_minus := F54, g_minus := PySem.W.mg_of X G a54
    b_minus := F54.binds (ps := ["_law_one"]) fun _ _ _ _ _ _ us hl => match us, hl with | [_], _ => rfl
    F_by := F55, g_by := PySem.W.mg_of X G a55
    b_by := F55.binds (ps := ["_law_one", "_law_two"]) fun _ _ _ _ _ _ us hl => match us, hl with | [_, _], _ => rfl
    F_words := F56, g_words := PySem.W.mg_of X G a56
    b_words := F56.binds (ps := ["_law_feed_here", "_law_many"]) fun _ _ _ _ _ _ us hl => match us, hl with | [_, _], _ => rfl
    F_brief := F57, g_brief := PySem.W.mg_of X G a57
    b_brief := F57.binds (ps := ["_law_tie"]) fun _ _ _ _ _ _ us hl => match us, hl with | [_], _ => rfl
    F_part_text := F58, g_part_text := PySem.W.mg_of X G a58
    b_part_text := F58.binds (ps := ["_law_one"]) fun _ _ _ _ _ _ us hl => match us, hl with | [_], _ => rfl
    F_run_end := F59, g_run_end := PySem.W.mg_of X G a59
    b_run_end := F59.binds (ps := ["_law_text", "_law_at", "_law_signs"]) fun _ _ _ _ _ _ us hl => match us, hl with | [_, _, _], _ => rfl
    F_is_number := F60, g_is_number := PySem.W.mg_of X G a60
    b_is_number := F60.binds (ps := ["_law_word"]) fun _ _ _ _ _ _ us hl => match us, hl with | [_], _ => rfl
    F_symbols := F61, g_symbols := PySem.W.mg_of X G a61
    b_symbols := F61.binds (ps := ["_law_text"]) fun _ _ _ _ _ _ us hl => match us, hl with | [_], _ => rfl
    F_sum_fault := F62, g_sum_fault := PySem.W.mg_of X G a62
    b_sum_fault := F62.binds (ps := ["_law_symbols_here", "_law_wants_relation"]) fun _ _ _ _ _ _ us hl => match us, hl with | [_, _], _ => rfl
    F_number_of := F63, g_number_of := PySem.W.mg_of X G a63
    b_number_of := F63.binds (ps := ["_law_word"]) fun _ _ _ _ _ _ us hl => match us, hl with | [_], _ => rfl
    F_rates_of := F64, g_rates_of := PySem.W.mg_of X G a64
    b_rates_of := F64.binds (ps := ["_law_symbols_here"]) fun _ _ _ _ _ _ us hl => match us, hl with | [_], _ => rfl
    F_ties_of := F65, g_ties_of := PySem.W.mg_of X G a65
    b_ties_of := F65.binds (ps := ["_law_text"]) fun _ _ _ _ _ _ us hl => match us, hl with | [_], _ => rfl
    F_gap := F66, g_gap := PySem.W.mg_of X G a66
    b_gap := F66.binds (ps := ["_law_feed_here"]) fun _ _ _ _ _ _ us hl => match us, hl with | [_], _ => rfl
    F_drawn_sum := F67, g_drawn_sum := PySem.W.mg_of X G a67
    b_drawn_sum := F67.binds (ps := ["_law_feed_here", "_law_words_here", "_law_many"]) fun _ _ _ _ _ _ us hl => match us, hl with | [_, _, _], _ => rfl
    F_drawn_text := F68, g_drawn_text := PySem.W.mg_of X G a68
    b_drawn_text := F68.binds (ps := ["_law_feed_here", "_law_words_here"]) fun _ _ _ _ _ _ us hl => match us, hl with | [_, _], _ => rfl
    F_p_law := F69, g_p_law := PySem.W.mg_of X G a69
    b_p_law := F69.binds (ps := ["_law_script"]) fun _ _ _ _ _ _ us hl => match us, hl with | [_], _ => rfl
    eInvalidRatio := E2, IInvalidRatio := F1002
    bIInvalidRatio := F1002.binds (ps := ["self", "given"]) fun _ _ _ _ _ _ us hl => match us, hl with | [_, _], _ => rfl
    nInvalidRatio_given := n2_given
    eNotTied := E3, INotTied := F1003
    bINotTied := F1003.binds (ps := ["self", "many"]) fun _ _ _ _ _ _ us hl => match us, hl with | [_, _], _ => rfl
    nNotTied_many := n3_many
    eParseError := E4, IParseError := F1004
    bIParseError := F1004.binds (ps := ["self", "at"]) fun _ _ _ _ _ _ us hl => match us, hl with | [_, _], _ => rfl
    nParseError_at := n4_at
    gTieError := PySem.W.mg_of X G b1, gMissing := PySem.W.mg_of X G b5
    m_int := PySem.W.mg_none_of X G z_int
    m_len := PySem.W.mg_none_of X G z_len
    m_abs := PySem.W.mg_none_of X G z_abs
    m_range := PySem.W.mg_none_of X G z_range
    m_zip := PySem.W.mg_none_of X G z_zip
    m_all := PySem.W.mg_none_of X G z_all
    m_isinstance := PySem.W.mg_none_of X G z_isinstance
    m_bool := PySem.W.mg_none_of X G z_bool
    m_str := PySem.W.mg_none_of X G z_str
    m_tuple := PySem.W.mg_none_of X G z_tuple
    m_list := PySem.W.mg_none_of X G z_list
    m_dict := PySem.W.mg_none_of X G z_dict
    m_sorted := PySem.W.mg_none_of X G z_sorted
    m_set := PySem.W.mg_none_of X G z_set
    c_LONG := ⟨_, PySem.W.mg_of X G zc_LONG, ⟨_, rfl⟩⟩
    c_ZERO := ⟨_, PySem.W.mg_of X G zc_ZERO, rfl⟩
    c_DIGITS := ⟨_, PySem.W.mg_of X G zc_DIGITS, ⟨_, rfl⟩⟩
    c_LETTERS := ⟨_, PySem.W.mg_of X G zc_LETTERS, ⟨_, rfl⟩⟩
    c_MOST_DIGITS := ⟨_, PySem.W.mg_of X G zc_MOST_DIGITS, ⟨_, rfl⟩⟩
    c_MOST_LETTERS := ⟨_, PySem.W.mg_of X G zc_MOST_LETTERS, ⟨_, rfl⟩⟩
    z_ZERO := fun H => .inr ⟨_, _, _, lz_ZERO, rfl, rfl, small_line (by show 2 ≤ 1000; decide), .cons ⟨_, rfl⟩ (.cons ⟨_, rfl⟩ .nil)⟩
  }
  refine ⟨_, [(cc, Pt)], spLaw K Pt, fun p hp => by rw [List.mem_singleton.mp hp]; exact hP, fun p hp => by rw [List.mem_singleton.mp hp]; exact nT, fun p hp => by rw [List.mem_singleton.mp hp]; exact hC, fun s v => .of_eq rfl, fun H a ns hl _ hT hS => ⟨a, ns, rfl, hS, hl, fun p hp => by rw [List.mem_singleton.mp hp]; exact LamX.TabS.nil (hT (cc, Pt) List.mem_cons_self), fun _ => rfl⟩, fun base _ _ TB => ok_p_law T FC (TB (cc, Pt) List.mem_cons_self)⟩
end T8
open PySem PySem.W PyProof.Rows
set_option maxHeartbeats 0 in
theorem PySem.Challenge.cw_tiespan_k07_tie_texts_read_holds : PySem.Challenge.rw_tiespan_k07_tie_texts_read.Holds := by
  w_on; o_law; k_head; (case hw => w_witness2)
  k_fill
  refine EK.walk_T (l := PySem.Challenge.rw_tiespan_k07_tie_texts_read) (n := 63) (k := 12) (x := "_law_script") (CX := fun _ => L2.CX0) rfl (by decide) rfl ⟨rfl, by decide, by decide⟩ (fun w h Y => by first | exact PySem.W.kIn_of Y | exact PySem.W.km_in_of Y) ?F (fun _ _ _ _ _ h => h)
  case F =>
    intro w lo mean mg mb fa h TP KX hmg
    refine' T8.all_mk (cc := 469) (Pt := 467) TP KX hmg rfl ?a12 ?l12 ?c12 ?k12 ?a13 ?l13 ?c13 ?k13 ?a14 ?l14 ?c14 ?k14 ?t14 ?a15 ?l15 ?c15 ?k15 ?a16 ?l16 ?c16 ?k16 ?a17 ?l17 ?c17 ?k17 ?a18 ?l18 ?c18 ?k18 ?a19 ?l19 ?c19 ?k19 ?a20 ?l20 ?c20 ?k20 ?a21 ?l21 ?c21 ?k21 ?a22 ?l22 ?c22 ?k22 ?a28 ?l28 ?c28 ?k28 ?a29 ?l29 ?c29 ?k29 ?a30 ?l30 ?c30 ?k30 ?a31 ?l31 ?c31 ?k31 ?a32 ?l32 ?c32 ?k32 ?a33 ?l33 ?c33 ?k33 ?a34 ?l34 ?c34 ?k34 ?a36 ?l36 ?c36 ?k36 ?a37 ?l37 ?c37 ?k37 ?a38 ?l38 ?c38 ?k38 ?a39 ?l39 ?c39 ?k39 ?a40 ?l40 ?c40 ?k40 ?a41 ?l41 ?c41 ?k41 ?a42 ?l42 ?c42 ?k42 ?a43 ?l43 ?c43 ?k43 ?a45 ?l45 ?c45 ?k45 ?a46 ?l46 ?c46 ?k46 ?a47 ?l47 ?c47 ?k47 ?a48 ?l48 ?c48 ?k48 ?a49 ?l49 ?c49 ?k49 ?a50 ?l50 ?c50 ?k50 ?a51 ?l51 ?c51 ?k51 ?a52 ?l52 ?c52 ?k52 ?a53 ?l53 ?c53 ?k53 ?a54 ?l54 ?c54 ?k54 ?a55 ?l55 ?c55 ?k55 ?a56 ?l56 ?c56 ?k56 ?a57 ?l57 ?c57 ?k57 ?a58 ?l58 ?c58 ?k58 ?a59 ?l59 ?c59 ?k59 ?a60 ?l60 ?c60 ?k60 ?a61 ?l61 ?c61 ?k61 ?a62 ?l62 ?c62 ?k62 ?a63 ?l63 ?c63 ?k63 ?a64 ?l64 ?c64 ?k64 ?a65 ?l65 ?c65 ?k65 ?a66 ?l66 ?c66 ?k66 ?a67 ?l67 ?c67 ?k67 ?a68 ?l68 ?c68 ?k68 ?a69 ?l69 ?c69 ?k69 ?b1 ?be1 ?bi1 ?bt1 ?b5 ?be5 ?bi5 ?bt5 ?a2 ?x2 ?sa2 ?ga2 ?gg2 ?nt2 ?ii2 ?ti2 ?kC2 ?eC2 ?tC2 ?hC2 ?sT2 ?sM2 ?n2_given ?l1002 ?c1002 ?k1002 ?a3 ?x3 ?sa3 ?ga3 ?gg3 ?nt3 ?ii3 ?ti3 ?kC3 ?eC3 ?tC3 ?hC3 ?sT3 ?sM3 ?n3_many ?l1003 ?c1003 ?k1003 ?a4 ?x4 ?sa4 ?ga4 ?gg4 ?nt4 ?ii4 ?ti4 ?kC4 ?eC4 ?tC4 ?hC4 ?sT4 ?sM4 ?n4_at ?l1004 ?c1004 ?k1004 ?zc_ZERO ?lz_ZERO ?zc_LONG ?zc_DIGITS ?zc_LETTERS ?zc_MOST_DIGITS ?zc_MOST_LETTERS ?ht ?nT ?z_int ?z_len ?z_abs ?z_range ?z_zip ?z_all ?z_isinstance ?z_bool ?z_str ?z_tuple ?z_list ?z_dict ?z_sorted ?z_set
    (case a12 => k_is)
    (case l12 => k_is)
    (case c12 => k_is)
    (case k12 => k_is)
    (case a13 => k_is)
    (case l13 => k_is)
    (case c13 => k_is)
    (case k13 => k_is)
    (case a14 => k_is)
    (case l14 => k_is)
    (case c14 => k_is)
    (case k14 => k_is)
    (case t14 => k_is)
    (case a15 => k_is)
    (case l15 => k_is)
    (case c15 => k_is)
    (case k15 => k_is)
    (case a16 => k_is)
    (case l16 => k_is)
    (case c16 => k_is)
    (case k16 => k_is)
    (case a17 => k_is)
    (case l17 => k_is)
    (case c17 => k_is)
    (case k17 => k_is)
    (case a18 => k_is)
    (case l18 => k_is)
    (case c18 => k_is)
    (case k18 => k_is)
    (case a19 => k_is)
    (case l19 => k_is)
    (case c19 => k_is)
    (case k19 => k_is)
    (case a20 => k_is)
    (case l20 => k_is)
    (case c20 => k_is)
    (case k20 => k_is)
    (case a21 => k_is)
    (case l21 => k_is)
    (case c21 => k_is)
    (case k21 => k_is)
    (case a22 => k_is)
    (case l22 => k_is)
    (case c22 => k_is)
    (case k22 => k_is)
    (case a28 => k_is)
    (case l28 => k_is)
    (case c28 => k_is)
    (case k28 => k_is)
    (case a29 => k_is)
    (case l29 => k_is)
    (case c29 => k_is)
    (case k29 => k_is)
    (case a30 => k_is)
    (case l30 => k_is)
    (case c30 => k_is)
    (case k30 => k_is)
    (case a31 => k_is)
    (case l31 => k_is)
    (case c31 => k_is)
    (case k31 => k_is)
    (case a32 => k_is)
    (case l32 => k_is)
    (case c32 => k_is)
    (case k32 => k_is)
    (case a33 => k_is)
    (case l33 => k_is)
    (case c33 => k_is)
    (case k33 => k_is)
    (case a34 => k_is)
    (case l34 => k_is)
    (case c34 => k_is)
    (case k34 => k_is)
    (case a36 => k_is)
    (case l36 => k_is)
    (case c36 => k_is)
    (case k36 => k_is)
    (case a37 => k_is)
    (case l37 => k_is)
    (case c37 => k_is)
    (case k37 => k_is)
    (case a38 => k_is)
    (case l38 => k_is)
    (case c38 => k_is)
    (case k38 => k_is)
    (case a39 => k_is)
    (case l39 => k_is)
    (case c39 => k_is)
    (case k39 => k_is)
    (case a40 => k_is)
    (case l40 => k_is)
    (case c40 => k_is)
    (case k40 => k_is)
    (case a41 => k_is)
    (case l41 => k_is)
    (case c41 => k_is)
    (case k41 => k_is)
    (case a42 => k_is)
    (case l42 => k_is)
    (case c42 => k_is)
    (case k42 => k_is)
    (case a43 => k_is)
    (case l43 => k_is)
    (case c43 => k_is)
    (case k43 => k_is)
    (case a45 => k_is)
    (case l45 => k_is)
    (case c45 => k_is)
    (case k45 => k_is)
    (case a46 => k_is)
    (case l46 => k_is)
    (case c46 => k_is)
    (case k46 => k_is)
    (case a47 => k_is)
    (case l47 => k_is)
    (case c47 => k_is)
    (case k47 => k_is)
    (case a48 => k_is)
    (case l48 => k_is)
    (case c48 => k_is)
    (case k48 => k_is)
    (case a49 => k_is)
    (case l49 => k_is)
    (case c49 => k_is)
    (case k49 => k_is)
    (case a50 => k_is)
    (case l50 => k_is)
    (case c50 => k_is)
    (case k50 => k_is)
    (case a51 => k_is)
    (case l51 => k_is)
    (case c51 => k_is)
    (case k51 => k_is)
    (case a52 => k_is)
    (case l52 => k_is)
    (case c52 => k_is)
    (case k52 => k_is)
    (case a53 => k_is)
    (case l53 => k_is)
    (case c53 => k_is)
    (case k53 => k_is)
    (case a54 => k_is)
    (case l54 => k_is)
    (case c54 => k_is)
    (case k54 => k_is)
    (case a55 => k_is)
    (case l55 => k_is)
    (case c55 => k_is)
    (case k55 => k_is)
    (case a56 => k_is)
    (case l56 => k_is)
    (case c56 => k_is)
    (case k56 => k_is)
    (case a57 => k_is)
    (case l57 => k_is)
    (case c57 => k_is)
    (case k57 => k_is)
    (case a58 => k_is)
    (case l58 => k_is)
    (case c58 => k_is)
    (case k58 => k_is)
    (case a59 => k_is)
    (case l59 => k_is)
    (case c59 => k_is)
    (case k59 => k_is)
    (case a60 => k_is)
    (case l60 => k_is)
    (case c60 => k_is)
    (case k60 => k_is)
    (case a61 => k_is)
    (case l61 => k_is)
    (case c61 => k_is)
    (case k61 => k_is)
    (case a62 => k_is)
    (case l62 => k_is)
    (case c62 => k_is)
    (case k62 => k_is)
    (case a63 => k_is)
    (case l63 => k_is)
    (case c63 => k_is)
    (case k63 => k_is)
    (case a64 => k_is)
    (case l64 => k_is)
    (case c64 => k_is)
    (case k64 => k_is)
    (case a65 => k_is)
    (case l65 => k_is)
    (case c65 => k_is)
    (case k65 => k_is)
    (case a66 => k_is)
    (case l66 => k_is)
    (case c66 => k_is)
    (case k66 => k_is)
    (case a67 => k_is)
    (case l67 => k_is)
    (case c67 => k_is)
    (case k67 => k_is)
    (case a68 => k_is)
    (case l68 => k_is)
    (case c68 => k_is)
    (case k68 => k_is)
    (case a69 => k_is)
    (case l69 => k_is)
    (case c69 => k_is)
    (case k69 => k_is)
    (case b1 => k_is)
    (case be1 => k_is)
    (case bi1 => k_is)
    (case bt1 => k_is)
    (case b5 => k_is)
    (case be5 => k_is)
    (case bi5 => k_is)
    (case bt5 => k_is)
    (case a2 => k_is)
    (case x2 => k_is)
    (case sa2 => k_is)
    (case ga2 => k_is)
    (case gg2 => k_is)
    (case nt2 => k_is)
    (case ii2 => k_is)
    (case ti2 => k_is)
    (case kC2 => k_is)
    (case eC2 => k_is)
    (case tC2 => k_is)
    (case hC2 => k_is)
    (case sT2 => k_is)
    (case sM2 => k_is)
    (case n2_given => k_is)
    (case l1002 => k_is)
    (case c1002 => k_is)
    (case k1002 => k_is)
    (case a3 => k_is)
    (case x3 => k_is)
    (case sa3 => k_is)
    (case ga3 => k_is)
    (case gg3 => k_is)
    (case nt3 => k_is)
    (case ii3 => k_is)
    (case ti3 => k_is)
    (case kC3 => k_is)
    (case eC3 => k_is)
    (case tC3 => k_is)
    (case hC3 => k_is)
    (case sT3 => k_is)
    (case sM3 => k_is)
    (case n3_many => k_is)
    (case l1003 => k_is)
    (case c1003 => k_is)
    (case k1003 => k_is)
    (case a4 => k_is)
    (case x4 => k_is)
    (case sa4 => k_is)
    (case ga4 => k_is)
    (case gg4 => k_is)
    (case nt4 => k_is)
    (case ii4 => k_is)
    (case ti4 => k_is)
    (case kC4 => k_is)
    (case eC4 => k_is)
    (case tC4 => k_is)
    (case hC4 => k_is)
    (case sT4 => k_is)
    (case sM4 => k_is)
    (case n4_at => k_is)
    (case l1004 => k_is)
    (case c1004 => k_is)
    (case k1004 => k_is)
    (case zc_ZERO => k_is)
    (case lz_ZERO => k_is)
    (case zc_LONG => k_is)
    (case zc_DIGITS => k_is)
    (case zc_LETTERS => k_is)
    (case zc_MOST_DIGITS => k_is)
    (case zc_MOST_LETTERS => k_is)
    (case ht => kernel_rfl)
    (case nT => kernel_rfl)
    (case z_int => k_is)
    (case z_len => k_is)
    (case z_abs => k_is)
    (case z_range => k_is)
    (case z_zip => k_is)
    (case z_all => k_is)
    (case z_isinstance => k_is)
    (case z_bool => k_is)
    (case z_str => k_is)
    (case z_tuple => k_is)
    (case z_list => k_is)
    (case z_dict => k_is)
    (case z_sorted => k_is)
    (case z_set => k_is)

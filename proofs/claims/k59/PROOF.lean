import PyProof.Rows.All
import Wide.All
import OpenK.AllK
import Wide.FinOn
import HandS.Base
import HandS.Call
import HandS.List
import HandS.Comp
import HandS.Ends
import HandS.Words
import HandS.WordsList
import HandS.Codes
import HandS.Wide
import HandS.Iter
import HandS.Zip
import HandS.Star
import HandS.More
import HandS.IsInst
import HandS.Conv
import HandS.NoneIn
import HandS.WideBits
import HandS.WordsExc
import HandS.Exc
import HandS.TryMany
import HandS.HotCalls
import HandS.ExcInit
import HandS.ExcField
import HandS.Lambda
import HandS.EndTab
import HandS.Defaults
import KE.KNest
import HandS.ExcValue
import HandS.ExcIs
import HandS.Text
import HandS.StrMore
import HandS.Defaults
import HandS.Style
import HandS.Deep
import HandS.More
import KE.KExcInit
import PySem.Challenge.RW_tiespan_k59_refusals_by_their_classes
set_option Elab.async false
set_option linter.all false
set_option maxRecDepth 100000
set_option maxHeartbeats 4000000
namespace EK
open PySem PySem.Spec PyProof.Rows L2
/-! ### try: body, except (c1, c2) as n: suite, and what stands behind it is not reached -/
theorem flyingZ_push {B h : Heap} {l : List Env} {e : Addr} {Z : Obj → Prop} (x : PySem.HandSPX.FlyingZ B l e Z h) (o : Obj) : PySem.HandSPX.FlyingZ B l e Z (h.push o) := by
  obtain ⟨h1, h2, h3, oe, vs, tb, ot, ts, a1, a2, a3, a4, a5, a6, a7, a8, a9⟩ := x
  exact ⟨fun b u q => Heap.get?_push_of_some _ (h1 b u q), h2, h3.of_keeps fun b u q _ => ⟨u, Heap.get?_push_of_some _ q, rfl⟩, oe, vs, tb, ot, ts, Heap.get?_push_of_some _ a1, a2, a3, a4, a5, a6, Heap.get?_push_of_some _ a7, a8, a9⟩
/-- the wish: the clause takes it -/
def wTup (K : PySem.W.Frag) (c1 c2 : Value) (i : Nat) (ts : Addr → Value → Option Addr → TS) (D : Ends) : WX := fun cls d σ H =>
  PySem.W.exmAny K cls [c1, c2] = some true ∧ ∀ a, H a = none → ts a cls d { nx := fun σ' H' => D.nx (σ'.set i none) H', rt := D.rt, bk := fun σ' H' => D.bk (σ'.set i none) H', ct := fun σ' H' => D.ct (σ'.set i none) H' } (σ.set i (some (.ref a))) H
theorem ps_try_tup {X : Cx} {x1 x2 n : Str} {c1 c2 : Value} {i kk : Nat} {body suite : List Stmt} {b₀ : Stmt} {np1 np2 tpos pos pos' : Pos} {tb : WX → TS} {ts : Addr → Value → Option Addr → TS} {hds : List ExceptHandler}
    (hs : X.stack = X.env :: X.outer) (hf : X.env.frame = some X.env.locals) (hN : X.N.Nodup) (hi : X.N[i]? = some n) (hln : X.env.kindOf n = some .local) (h1 : Gl X x1) (m1 : X.mg x1 = some c1) (h2 : Gl X x2) (m2 : X.mg x2 = some c2)
    (hb : ∀ (W : WX) (pn : List (Addr × Obj)) (xe : Value → Shared → Prop), Takes (X.tr pn xe) W → PassesOwn (model X.prog X.w) X.A X.env xe → PSs (X.tr pn xe) body (tb W))
    (hsu : ∀ (a : Addr) (oe : Obj) (cls : Value) (d : Option Addr) (pn : List (Addr × Obj)), Zc cls d oe → (∃ vs, oe.data = .fields vs) → PSs (X.suite a ((a, oe) :: pn)) (b₀ :: suite) (ts a cls d))
    (d1 : (x1 == ("__debug__" : Str)) = false := by decide) (d2 : (x2 == ("__debug__" : Str)) = false := by decide) :
    PS X (.Try body (.ExceptHandler (some (.Tuple [.Name x1 np1, .Name x2 np2] kk tpos)) (some n) (b₀ :: suite) pos' :: hds) [] [] pos) (fun D σ H => tb (wTup X.K c1 c2 i ts D) D σ H) := by
  refine ⟨fun pins s σ H D I h => ?_⟩
  have ok := I.ok
  have hfr : X.A.frames = some (X.env :: X.outer) := by rw [ok.frames, hs]
  have hloc : Loc X.env.scope n := .inl hln
  refine wpAny_Try_except (wpAny_mono ((hb (wTup X.K c1 c2 i ts D) (X.pn ++ pins) (fun e s₁ => wpAny (model X.prog X.w) X.A (noteFrame e X.env) (fun _ s₂ => wpAny (model X.prog X.w) X.A (setFlight e none) (fun _ s₃ =>
    wpAny (model X.prog X.w) X.A (handleBy e X.env (.ExceptHandler (some (.Tuple [.Name x1 np1, .Name x2 np2] kk tpos)) (some n) (b₀ :: suite) pos' :: hds)) (SP X pins D) X.xe s₃) X.xe s₂) X.xe s₁) (fun u s' xx => ?_) PassesOwn.looking).run [] s σ H D (I.toTry _) h) (fun f s1 hsp => ?_) (fun e s1 he => he))
  · obtain ⟨a, B, sI, pins', σ', H', cls, d, rfl, J', nb, up, sky, na, os, ag, hb1, hyes⟩ := xx
    have J : Inv X pins σ' H' sI := J'.ofTry ok
    have sky' : Sky B (X.env :: X.outer) a (Zc cls d) X.env.locals s'.heap := by rw [← hs]; exact sky
    show wpAny (model X.prog X.w) X.A (noteFrame (.ref a) X.env) _ _ _
    refine Sky.land Zc.steady hfr hf sky' fun h3 fl3 up3 => ?_
    have J3 : Inv X pins σ' H' { s' with heap := h3 } := J.landed nb fl3.1 (up.trans up3) os ag
    obtain ⟨oe3, vs3, he3, hz3, hd3⟩ := fl3.there
    have nfr : a ∉ frs (X.env :: X.outer) := fun hm => by
      obtain ⟨_, o', e', hnf⟩ := fl3.2.2.1.mem hm
      rw [he3] at e'
      cases e'
      exact hnf _ hd3
    have nL : a ≠ X.env.locals := fun z => nfr (List.mem_filterMap.mpr ⟨X.env, List.mem_cons_self, by rw [hf, z]⟩)
    have nF : a ∉ X.fs := fun hm => by
      obtain ⟨e, he, q⟩ := List.mem_filterMap.mp hm
      exact nfr (List.mem_filterMap.mpr ⟨e, List.mem_cons_of_mem _ he, q⟩)
    have S3 := J3.suite he3 hd3 na nL nF
    refine wpAny_handleBy_cons (codeAny_handlers_test ?_) (by intro q; cases q)
    refine wpAny_Tuple ?_
    refine wpAny_items_cons (ld_glob (X := X.suite a ((a, oe3) :: (X.pn ++ pins))) S3 h1 m1 ?_ d1)
    refine wpAny_items_cons (ld_glob (X := X.suite a ((a, oe3) :: (X.pn ++ pins))) S3 h2 m2 ?_ d2)
    refine wpAny_items_nil ⟨Nat.le_trans (by decide : 2 ≤ 1000) (Nat.le_of_lt (small1000 (Nat.le_refl _))), ?_⟩
    have kp : ∀ q o, h3.get? q = some o → (h3.push { cls := .type "tuple", data := .seq [c1, c2].toArray }).get? q = some o := fun _ _ z => Heap.get?_push_of_some _ z
    have LT : PySem.W.Looks (model X.prog X.w) (h3.push { cls := .type "tuple", data := .seq [c1, c2].toArray }) (typeOf (.ref a)) cls := fun A Q E s k q => wpAny_typeOf_ref (k _ _ (kp _ _ he3)) (by rw [hz3.1]; exact q)
    refine (PySem.W.exm_tup2 (M := model X.prog X.w) (J3.kIn.keeps kp) LT (Heap.get?_push_size h3 rfl) hb1).here ?_
    have up3p := (up.trans up3).trans (Heap.UpToSlots.of_keeps kp)
    have fl3p := flyingZ_push fl3 { cls := .type "tuple", data := .seq [c1, c2].toArray }
    generalize h3.push { cls := .type "tuple", data := .seq [c1, c2].toArray } = g3 at up3p fl3p
    refine codeAny_handlers_suite_as ?_
    refine PySem.HandSPX.lands_againZ fl3p fun h4 fl4 up4 => ?_
    have J4 : Inv X pins σ' H' { s' with heap := h4 } := J.landed nb fl4.1 (up3p.trans up4) os ag
    obtain ⟨oe4, vs4, he4, hz4, hd4⟩ := fl4.there
    have S4 := J4.suite he4 hd4 na nL nF
    refine store_ok (X := X.suite a ((a, oe4) :: (X.pn ++ pins))) (v := .ref a) S4 hN hi hloc rfl (fun s5 S5 => ?_) (.inr hln)
    refine wpAny_mono ((hsu a oe4 cls d (X.pn ++ pins) hz4 ⟨_, hd4⟩).run [] s5 _ H' _ S5 (hyes a na)) (fun f s6 hsp => ?_) (fun _ _ z => False.elim z)
    have end_ : ∀ {σ6 : L2.St} {H6 : Hp} {Q : Shared → Prop}, Inv (X.suite a ((a, oe4) :: (X.pn ++ pins))) [] σ6 H6 s6 → (∀ s7, Inv X pins (σ6.set i none) H6 s7 → Q s7) →
        wpAny (model X.prog X.w) X.A (do bindName X.env n .none; unbindBehindTheSuite X.env n pos') (fun _ s7 => Q s7) X.xe s6 := fun {σ6 H6 Q} S6 hq => gone_ok (S6.unsuite ok) hN hi hln hq
    cases f with
    | next =>
      obtain ⟨σ6, H6, S6, q6⟩ := hsp
      exact end_ S6 fun s7 J7 => ⟨_, _, J7, q6⟩
    | brk =>
      obtain ⟨σ6, H6, S6, q6⟩ := hsp
      exact end_ S6 fun s7 J7 => ⟨_, _, J7, q6⟩
    | cont =>
      obtain ⟨σ6, H6, S6, q6⟩ := hsp
      exact end_ S6 fun s7 J7 => ⟨_, _, J7, q6⟩
    | ret u =>
      obtain ⟨v6, σ6, H6, S6, r6, q6⟩ := hsp
      exact end_ S6 fun s7 J7 => ⟨_, _, _, J7, r6, q6⟩
  · cases f with
    | next =>
      obtain ⟨σ', H', J', q⟩ := hsp
      exact wpAny_execs_nil ⟨σ', H', J'.ofTry ok, q⟩
    | brk =>
      obtain ⟨σ', H', J', q⟩ := hsp
      exact ⟨σ', H', J'.ofTry ok, q⟩
    | cont =>
      obtain ⟨σ', H', J', q⟩ := hsp
      exact ⟨σ', H', J'.ofTry ok, q⟩
    | ret u =>
      obtain ⟨v, σ', H', J', r, q⟩ := hsp
      exact ⟨v, σ', H', J'.ofTry ok, r, q⟩
/-! ### defs that are called where an exception is handled, and read it; nothing is raised there -/
structure FnP (P : Program) (w : World) (K : PySem.W.Frag) (mg : Str → Option Value) (base : Heap) (k : Nat) (f : Addr) (fd : FuncData) (ps : List Str) (sp : Addr × Obj → Sp) : Prop where
  len : ∀ p vs H Q E, sp p vs H Q E → vs.length = ps.length
  run : ∀ (A : Around) (outer : List Env) (s : Shared) (H : Hp) (args : Args) (us : List Value) (vs : List V) (Q : VK) (p : Addr × Obj), L2H.RoomH k A → L2H.PinOk outer H s p → Env0 P w K mg base A outer s H → BindsTo s fd args (ps.zip us) → Vals vs us → sp p vs H Q E0 →
    codeAny (model P w) A (.call (.ref f) args) (CR CX0 outer P w H s Q E0) s
theorem fn_ofP {P : Program} {w : World} {K : PySem.W.Frag} {mg : Str → Option Value} {base : Heap} {k : Nat} {x : Str} {st : Stmt} {f : Addr} {fd : FuncData} {N ps : List Str} {sp : Addr × Obj → Sp} (F : Fun K x x st f fd) (S : FnScope N ps (defScope st))
    (len : ∀ p vs H Q E, sp p vs H Q E → vs.length = ps.length)
    (hbody : ∀ (cdv : Value) (A : Around) (outer : List Env) (s : Shared) (H : Hp) (vs : List V) (Q : VK) (p : Addr × Obj), L2H.RoomH k (A.deeper (envOfC x (defScope st) s.heap.objs.size f cdv)) → sp p vs H Q E0 →
      ∃ t, PSs (L2H.cxH CX0 P w K mg base N x (defScope st) f cdv A outer s H E0 p) (defBody st) t ∧ t { nx := fun _ H' => Q .non H', rt := Q } (L2.start N vs) H) : FnP P w K mg base (k + 1) f fd ps sp := by
  obtain ⟨oc, od, kV, doc, pm, an, cdv, ct, osl, rfl, lk, hcd⟩ := F.ex
  refine ⟨len, fun A outer s H args us vs Q p hr hpin e0 hb r hsp => ?_⟩
  have hl := len _ _ _ _ _ hsp
  have KX : K.In s.heap := e0.mod.kin.keeps fun b o e => (e0.bs b o e).1
  have lim : s.heap.NoLimit := e0.mod.nolimit.keeps fun b o e => (e0.bs b o e).1
  refine codeAny_call_function hr.depth (KX _ _ lk) rfl S.co S.gen rfl (PySem.W.codeRec_of KX hcd) (hb _ _ _ _ ?_)
  refine wpAny_newFunctionEnv_cells S.kind (fun ⟨n, v⟩ hy => ?_) fun env he s1 xc => ?_
  · rcases S.par n (List.of_mem_zip hy).1 with q | q
    · exact .inl q
    · exact .inr ⟨q, PySem.W.cellsFrom_some _ _ _ (.inl q)⟩
  · subst he
    refine ⟨lim.keeps xc.toInCall.keep, codeAny_func ?_⟩
    obtain ⟨t, ht, hq⟩ := hbody cdv A outer s H vs Q p (hr.deeper _) hsp
    refine wpAny_mono (ht.run [] s1 (L2.start N vs) H _ (L2H.inv_startH S hpin e0 hl r xc) hq) (fun fl s' hs => ?_) fun e s' hs => hs
    cases fl with
    | ret u =>
      obtain ⟨v, σ', H', J, rv, q⟩ := hs
      exact ⟨v, H', J.os, J.bare, J.base, J.hok, rv, q⟩
    | next =>
      obtain ⟨σ', H', J, q⟩ := hs
      exact ⟨.non, H', J.os, J.bare, J.base, J.hok, rfl, q⟩
    | brk =>
      obtain ⟨_, _, _, q⟩ := hs
      exact False.elim q
    | cont =>
      obtain ⟨_, _, _, q⟩ := hs
      exact False.elim q
theorem pe_callP {X : Cx} {k : Nat} {f : Addr} {fd : FuncData} {ps : List Str} {sp : Addr × Obj → Sp} {x : Str} {q pos : Pos} {e : Expr} {es : List Expr} {t : TA} {p : Addr × Obj} (F : FnP X.prog X.w X.K X.mg X.base k f fd ps sp) (hr : L2H.RoomH k X.A) (hp : p ∈ X.pn) (hg : Gl X x) (hm : X.mg x = some (.ref f))
    (hk : PySem.W.keepIn X.K (.ref f) = true) (hb : Binds X.K fd ps []) (ha : PA X (e :: es) t) (hdb : (x == ("__debug__" : Str)) = false := by decide) (he : starEach (e :: es) X.env = (false, eval e X.env) :: starEach es X.env := by rfl) (hpl : (backTo pos (starEach es X.env)).any (·.1) = false := by rfl) :
    PE X (.Call (.Name x q) (e :: es) [] pos) (fun σ H Q => t σ H fun vs H1 => sp p vs H1 Q E0) := by
  refine ⟨fun pins s σ H Q I h => wpAny_Call_Name_kw (ld_glob I hg hm (PySem.W.callWith_K (h₀ := X.base) I.ok.mod.kin hk (thn (ha.run pos pins s σ H _ I h) fun us s1 ⟨vs, H1, I1, r, q1⟩ => ⟨I1.kIn, ?_⟩) he hpl) hdb)⟩
  have hl : us.length = ps.length := by rw [← r.length]; exact F.len _ _ _ _ _ q1
  have b := hb s1 us I1.kIn (by rw [List.append_nil]; exact hl)
  rw [List.append_nil] at b
  have P1 := I1.pin p (List.mem_append_left _ hp)
  have hpin : L2H.PinOk X.stack H1 s1 p := ⟨P1.1, P1.2.1, fun hm => (List.mem_cons.mp (I1.stkSub p.1 hm)).elim P1.2.2.1 P1.2.2.2.1, P1.2.2.2.2⟩
  refine wpAny_call (codeAny_mono (F.run X.A X.stack s1 H1 ⟨us, []⟩ us vs Q p hr hpin I1.env0 b r q1) fun r s' hq => ?_)
  cases r with
  | error e => exact (show False from hq).elim
  | ok fl =>
    cases fl with
    | ret u => exact I1.after hq
    | next => exact False.elim hq
    | brk => exact False.elim hq
    | cont => exact False.elim hq
/-- what is told of the exception at p: its class, its own dict, the fields -/
structure Xat (K : PySem.W.Frag) (p : Addr × Obj) (C dd : Addr) : Prop where
  z : Zc (.ref C) (some dd) p.2
  fl : ∃ vs, p.2.data = .fields vs
  xf : XfC K C
def tXp (K : PySem.W.Frag) (p : Addr × Obj) (n : Str) (te : TE) : TE := fun σ H Q => te σ H fun x H1 => x = .ref p.1 ∧ ∃ (C dd : Addr) (fs : List (Str × V)) (v : V), Xat K p C dd ∧ PySem.W.findIn K (.ref C) n = some none ∧ H1 dd = some (.xd fs) ∧ fs.lookup n = some v ∧ Q v H1
theorem pe_xp {X : Cx} {p : Addr × Obj} {e : Expr} {te : TE} {pos : Pos} {n : Str} (hp : p ∈ X.pn) (he : PE X e te) (hb : attributeBase e n X.env (eval e X.env) = eval e X.env := by rfl) : PE X (.Attribute e n pos) (tXp X.K p n te) := by
  refine ⟨fun pins s σ H Q I h => attr_of hb (thn (he.run pins s σ H _ I h) fun u s1 hh => ?_)⟩
  obtain ⟨x, H1, I1, rx, ex, C, dd, fs, v, T, hno, ea, l, q⟩ := hh
  subst ex
  obtain rfl : u = Value.ref p.1 := rx
  obtain ⟨ha, _⟩ := I1.pin p (List.mem_append_left _ hp)
  obtain ⟨vs, hd⟩ := T.fl
  have hx : ObjOk X.prog X.w H1 s1.heap dd (.xd fs) := I1.hok dd _ ea
  obtain ⟨mA, hns, hr⟩ := hx
  obtain ⟨od, ho, hl⟩ := lookIn_ns hns
  obtain ⟨u, hu, ru⟩ := RelO.some_of (v := v) (o := mA n) (by rw [← l]; exact hr n)
  have J : PySem.W.InstAt s1.heap p.1 p.2 C (some od) := ⟨ha, T.z.1, by unfold PySem.W.notCls; rw [hd] <;> rfl, by rw [T.z.2]; exact ho⟩
  exact PySem.HandSPX.exc_get I1.kIn J T.xf.ga T.xf.gg T.xf.exC (PySem.W.findObj_own T.xf.hdC hno rfl (by rw [hl, hu])) (handed_of ru) ⟨v, H1, I1.tok _, ru, q⟩
/-! ### own errors: what K tells of a class, making one, what why tells of it -/
structure ErrC (K : PySem.W.Frag) (mg : Str → Option Value) (x : Str) (C Tie Miss fI : Addr) : Prop where
  oex : OexC K C
  xf : XfC K C
  gC : mg x = some (.ref C)
  tag : PySem.W.findIn K (.ref C) "tag" = some none
  any : PySem.W.exmAny K (.ref C) [.ref Tie, .ref Miss] = some true
  iC : PySem.W.findIn K (.ref C) "__init__" = some (some (.ref fI))
  tI : PySem.W.typeIn K (.ref fI) = some (.type "function")
/-- __init__(self, v): self.n = v; self.tag = x -/
def spInit1 (K : PySem.W.Frag) (n x : Str) : Sp := fun vs H Q _ => ∃ (a C : Addr) (v : V), vs = [.ref a, v] ∧ OexC K C ∧ PySem.W.findIn K (.ref C) n = some none ∧ PySem.W.findIn K (.ref C) "tag" = some none ∧ H a = some (exo a C none) ∧
  ∀ dx, H dx = none → dx ≠ a → Q .non (upd (upd (upd H dx (exd dx [(n, v)])) a (exo a C (some dx))) dx (exd dx [("tag", .str x), (n, v)]))
def spInit0 (K : PySem.W.Frag) (x : Str) : Sp := fun vs H Q _ => ∃ (a C : Addr), vs = [.ref a] ∧ OexC K C ∧ PySem.W.findIn K (.ref C) "tag" = some none ∧ H a = some (exo a C none) ∧
  ∀ dx, H dx = none → dx ≠ a → Q .non (upd (upd H dx (exd dx [("tag", .str x)])) a (exo a C (some dx)))
theorem Same.del {H H2 : Hp} {a d : Addr} {o : HO} (na : H a = none) (nd : H d = none) (h : ∀ b u, b ≠ a → H b = some u → H2 b = some u) : Same H (upd (del H2 a) d o) := fun b u e => by
  rw [upd_ne (ne_of_none e nd), del_ne (ne_of_none e na)]
  exact h b u (ne_of_none e na) e
/-! ### a def whose code object is known -/
structure FunC (K : PySem.W.Frag) (x : Str) (st : Stmt) (f : Addr) (fd : FuncData) (c : Addr) : Prop where
  ex : ∃ (oc : Value) (od : Option Addr) (kV doc pm : Value) (an : Option Addr) (ct : Value) (osl : Array (Option Value)),
    fd = PySem.W.fnOf x x (defArgs st) (defBody st) (defScope st) .none kV doc pm an (.ref c) ct ∧ K.lookup f = some ⟨oc, od, .func fd, osl⟩ ∧ PySem.W.codeIn K (.ref c) x = true
theorem FunC.ok {P : Program} {w : World} {K : PySem.W.Frag} {mg : Str → Option Value} {base : Heap} {x : Str} {st : Stmt} {f c : Addr} {fd : FuncData} {N ps : List Str} {k : Nat} {sp : Sp} (F : FunC K x st f fd c) (S : FnScope N ps (defScope st)) (len : ∀ vs H Q E, sp vs H Q E → vs.length = ps.length)
    (hbody : ∀ (A : Around) (outer : List Env) (s : Shared) (H : Hp) (vs : List V) (Q : VK) (E : XK), Room k (A.deeper (envOfC x (defScope st) s.heap.objs.size f (.ref c))) → sp vs H Q E →
      ∃ t, PSs (cxOf CX0 P w K mg base N x (defScope st) f (.ref c) A outer s H E).nox (defBody st) t ∧ t { nx := fun _ H' => Q .non H', rt := Q } (L2.start N vs) H) : FnOk P w K mg base CX0 (k + 1) f fd ps sp := by
  obtain ⟨oc, od, kV, doc, pm, an, ct, osl, rfl, lk, hcd⟩ := F.ex
  refine fn_of lk hcd S len fun A outer s H vs Q E hr hsp => ?_
  obtain ⟨t, h, q⟩ := hbody A outer s H vs Q E hr hsp
  exact ⟨t, h.nox, q⟩
theorem ExtN.same {H H' : Hp} (s : Same H H') : LamX.ExtN H H' := fun b o e _ => s b o e
/-! ### the end with tables -/
theorem walk_T {l : PySem.W.OpenLaw} {n k : Nat} {q : Program} {loose : List Str} {XP : (Str → Option Value) → Heap → Prop} {YP : World → Heap → Prop} {d : DefRec} {K : Params → PySem.W.Frag} {CX : World → CXT} {x : Str}
    (hn : l.most = some n) (hn2 : n ≤ sizeLine) (hdf : d.params.defaults = []) (hr : Room k callerA) (hY : ∀ (w : World) (h : Heap), YP w h → (K w.params).In h)
    (F : ∀ (w : World) (lo : List Str) (mean : ExcName → Option Value) (mg mb : Str → Option Value) (fa : Addr) (h : Heap), Top q lo mean mg mb h → (K w.params).In h → mg d.name = some (.ref fa) → LamX.LawAtS l w (K w.params) (CX w) k n x mg fa h)
    (hCX : ∀ (w : World) (H : Hp) (s : Shared) (e : Value) (s' : Shared), CX w [] H s (fun _ _ _ => False) e s' → False) :
    PySem.W.WalkO q loose XP YP l.row.toRowW d [] (fun f vs => PySem.call f vs) := by
  refine Att.attach_callB hn hdf fun w s₀ s₁ mg mb fa o pm cd doc a vs ns G Y ho hd hcd hmg hobj hints hlen hbits hg => ?_
  have KX := hY w _ Y
  obtain ⟨fd, cs, sp, hT, nT, C, hb, hsp, hF⟩ := F w _ _ mg mb fa _ G.T KX hmg
  exact LamX.law_callTs KX G.T.g G.T.b G.T.builtins G.T.nolimit hg hT nT C G.T.bmain hobj hints (Nat.le_trans hlen hn2) hr hF hb (fun H hH hS => hsp H a ns hlen hbits hH hS) fun H e s' => hCX w H s₁ e s'
theorem exm_by {K : PySem.W.Frag} {S : Addr} {cls : Value} {b : Bool} (h1 : PySem.W.subIn K (.ref S) (.type "BaseException") = some true) (h2 : PySem.W.isClsIn K S = true) (h3 : PySem.W.typeIn K (.ref S) = some (.type "type")) (h4 : PySem.W.subIn K cls (.ref S) = some b) :
    PySem.W.exmOne K cls (.ref S) = some b := by
  have e1 : (PySem.W.subIn K (.ref S) (.type "BaseException") == some true) = true := by rw [h1] <;> rfl
  have e2 : ((PySem.W.clsIn K S).isSome && PySem.W.typeIn K (.ref S) == some (.type "type")) = true := by
    have h2' : (PySem.W.clsIn K S).isSome = true := h2
    rw [h2', h3] <;> rfl
  unfold PySem.W.exmOne PySem.W.kitCls
  rw [if_pos e1]
  exact (if_pos e2).trans h4
theorem exm_any {K : PySem.W.Frag} {c1 c2 cls : Value} (h1 : PySem.W.exmOne K cls c1 = some true) (h2 : PySem.W.exmOne K cls c2 = some false) : PySem.W.exmAny K cls [c1, c2] = some true := by
  unfold PySem.W.exmAny PySem.W.exmAny PySem.W.exmAny
  rw [h1, h2]
  rfl
/-! ### calls with keywords alone -/
theorem pe_callN0 {X : Cx} {CX : CXT} {k : Nat} {f : Addr} {fd : FuncData} {ps ks : List Str} {sp : Sp} {E : XK} {x : Str} {p pos : Pos} {kws : List Keyword} {tk : TA} {g : List Value → List Value → List Value} {gV : List V → List V → List V}
    (F : FnOk X.prog X.w X.K X.mg X.base CX k f fd ps sp) (hr : Room k X.A) (hg : Gl X x) (hm : X.mg x = some (.ref f)) (hk : PySem.W.keepIn X.K (.ref f) = true) (hb : KBn X.K fd ps 0 ks g gV) (hx : Passes CX X E) (hkw : PK X kws tk)
    (hall : (backToKw pos (keywordEach kws X.env)).all (·.1.isSome) = true := by rfl) (hks : (backToKw pos (keywordEach kws X.env)).filterMap (·.1) = ks := by rfl) (hdb : (x == ("__debug__" : Str)) = false := by decide)
    (hpl : ((backTo pos (starEach [] X.env)).any (·.1) || (backToKw pos (keywordEach kws X.env)).any (·.1.isNone)) = false := by rfl) :
    PE X (.Call (.Name x p) [] kws pos) (fun σ H Q => tk σ H fun zs H2 => zs.length = ks.length ∧ sp (gV [] zs) H2 Q E) := by
  refine ⟨fun pins s σ H Q I h => wpAny_Call_Name_kw (ld_glob I hg hm (PySem.W.callWith_KW0 (h₀ := X.base) I.ok.mod.kin hk hall (thn (hkw.run pos pins s σ H _ I h) fun ws s2 ⟨zs, H2, I2, rz, l2, q2⟩ => ⟨I2.kIn, ?_⟩) hpl) hdb)⟩
  rw [hks]
  exact run_fnN (us := []) (vs := []) F hr hb hx I2 .nil rz rfl l2 q2
/-- two values in the other order -/
theorem swap_rel : ∀ {vs : List V} {us : List Value} {zs : List V} {ws : List Value}, Vals vs us → Vals zs ws → Vals [zs.getD 1 .non, zs.getD 0 .non] [ws.getD 1 Value.none, ws.getD 0 Value.none]
  | _, _, _, _, _, .nil => .cons rfl (.cons rfl .nil)
  | _, _, _, _, _, .cons r .nil => .cons rfl (.cons r .nil)
  | _, _, _, _, _, .cons r (.cons r2 _) => .cons r2 (.cons r .nil)
/-! ### an error as a value -/
/-- at a: an exception whose object is known -/
def ExV (oe : Obj) (a : Addr) : HO := .ext fun h => h.get? a = some oe
theorem exv_ok {P : Program} {w : World} {H : Hp} {h : Heap} {a : Addr} {oe : Obj} (e : h.get? a = some oe) : ObjOk P w H h a (ExV oe a) := ⟨e, ⟨_, e⟩, fun _ _ z k => k _ z⟩
theorem exv_at {P : Program} {w : World} {H : Hp} {h : Heap} {a : Addr} {oe : Obj} (hok : HOk P w H h) (e : H a = some (ExV oe a)) : h.get? a = some oe := by
  have x : ObjOk P w H h a (.ext fun h => h.get? a = some oe) := hok a _ e
  exact x.1
/-- C(..) of an error class, its object kept -/
theorem pe_exv {X : Cx} {e : Expr} {t : L2.St → Hp → XK → Prop} (h : PMk X e t) : PE X e (fun σ H Q => t σ H fun cls d H' => ∀ (a : Addr) (oe : Obj), Zc cls d oe → (∃ vs, oe.data = .fields vs) → H' a = none → Q (.ref a) (upd H' a (ExV oe a))) := by
  refine ⟨fun pins s σ H Q I q => wpAny_mono (h pins s σ H _ I q) (fun v s1 hm => ?_) fun _ _ z => z⟩
  obtain ⟨a, oe, vs, sI, H', cls, d, rfl, J, k, ga, ha, hz, hd, h1, na, os, ag, r, qq⟩ := hm
  have J2 := J.laidN (t' := s1.toks) (a := a) (o := ExV oe a) k ga na (exv_ok ha)
  exact ⟨.ref a, _, ⟨J2.ok, os.trans J2.os, ag, J2.base, J2.loc, J2.cell, J2.free, J2.freeC, J2.pin, J2.hok, J2.len⟩, rfl, qq a oe hz ⟨vs, hd⟩ na⟩
/-- an attribute of it -/
def tXv (K : PySem.W.Frag) (n : Str) (te : TE) : TE := fun σ H Q => te σ H fun x H1 => ∃ (a : Addr) (oe : Obj) (C dd : Addr) (fs : List (Str × V)) (v : V), x = .ref a ∧ H1 a = some (ExV oe a) ∧ Xat K (a, oe) C dd ∧ PySem.W.findIn K (.ref C) n = some none ∧ H1 dd = some (.xd fs) ∧ fs.lookup n = some v ∧ Q v H1
theorem pe_xv {X : Cx} {e : Expr} {te : TE} {pos : Pos} {n : Str} (he : PE X e te) (hb : attributeBase e n X.env (eval e X.env) = eval e X.env := by rfl) : PE X (.Attribute e n pos) (tXv X.K n te) := by
  refine ⟨fun pins s σ H Q I h => attr_of hb (thn (he.run pins s σ H _ I h) fun u s1 hh => ?_)⟩
  obtain ⟨x, H1, I1, rx, a, oe, C, dd, fs, v, ex, hv, T, hno, ea, l, q⟩ := hh
  subst ex
  obtain rfl : u = Value.ref a := rx
  have ha := exv_at I1.hok hv
  obtain ⟨vs, hd⟩ := T.fl
  have hx : ObjOk X.prog X.w H1 s1.heap dd (.xd fs) := I1.hok dd _ ea
  obtain ⟨mA, hns, hr⟩ := hx
  obtain ⟨od, ho, hl⟩ := lookIn_ns hns
  obtain ⟨u, hu, ru⟩ := RelO.some_of (v := v) (o := mA n) (by rw [← l]; exact hr n)
  have J : PySem.W.InstAt s1.heap a oe C (some od) := ⟨ha, T.z.1, by unfold PySem.W.notCls; rw [hd] <;> rfl, by rw [T.z.2]; exact ho⟩
  exact PySem.HandSPX.exc_get I1.kIn J T.xf.ga T.xf.gg T.xf.exC (PySem.W.findObj_own T.xf.hdC hno rfl (by rw [hl, hu])) (handed_of ru) ⟨v, H1, I1.tok _, ru, q⟩
/-! ### a field of an error of any base is stored -/
section
open PySem.W PySem.Calls Builtin Builtin.ObjectAttr
variable {prog : Program} {w : World} {A : Around} {R : Result → Shared → Prop} {hp : Heap} {gg : Array GenState} {dr : Drawn} {tk0 : Nat} {os : OsState}
/-- what a class's order of bases must be like -/
structure Ord (mro : List Value) : Prop where
  pass : ∀ self : Value, refuseLoop self "__setattr__" mro = pure ()
  ob : mro.contains (.type "object") = true
  ne : mro.isEmpty = false
theorem osa_to {K : W.Frag} {nm : Str} {tk : Tok} {v : Value} {x C : Addr} {dd : Option Addr} {dob : Option Obj} {fv : Array Value} {cd : ClassData} (kin : K.In hp) (hx : hp.get? x = some { cls := .ref C, dict := dd, data := .fields fv })
    (inst : W.InstAt hp x { cls := .ref C, dict := dd, data := .fields fv } C dob) (hcd : W.clsIn K C = some cd) (o : Ord cd.mro) (own : W.findIn K (.ref C) nm = some none)
    (go : wpAny (model prog w) A.in1 (storeInOwnDict (.ref x) (.ref C) (.str nm tk) nm v false) (fun f s => R (.ok (.ret .none)) s ∧ f = .done (.ret .none)) (fun e s => R (.error e) s) ⟨hp, gg, dr, tk0, os⟩) :
    codeAny (model prog w) A (.call (.builtin "object.__setattr__") ⟨[.ref x, .str nm tk, v], []⟩) R ⟨hp, gg, dr, tk0, os⟩ := by
  have so := F.store_object
  have isOb : W.Looks (model prog w) hp (isInstance (.ref x) (.type "object")) true := by
    refine inst.type.andThen (W.looks_mroIn kin ?_)
    unfold W.mroIn
    rw [hcd, Option.bind_some, o.ne, if_neg Bool.false_ne_true, o.ob]
  have order : W.Looks (model prog w) hp (mroOf (.ref C)) cd.mro := (W.looks_clsIn kin hcd).andThen .now
  have taker : W.Looks (model prog w) hp (storeTaker? none) none := .now
  refine codeAny_call_builtin so.slot.plain so.entry ?_
  refine @W.check_slot (model prog w) _ _ ⟨hp, gg, dr, tk0, os⟩ "object.__setattr__" "object" "__setattr__" (.ref x) [.str nm tk, v] [] _ so.kind so.split isOb (so.args (.ref x) (.str nm tk) v) ?_
  rw [W.osa_eq, refuse_eq]
  refine wpAny_bind (wpAny_bind (inst.type.at (wpAny_bind (order.at ?_))))
  rw [o.pass]
  refine wpAny_pure (wpAny_bind (inst.type.at (wpAny_bind ((W.looks_findIn kin own).at (wpAny_bind (taker.at ?_))))))
  refine wpAny_mono go (fun f s q => ?_) fun e s q => q
  obtain ⟨q, rfl⟩ := q
  exact q
/-- the first field -/
theorem osa_first {K : W.Frag} {nm : Str} {tk : Tok} {v : Value} {x C : Addr} {fv : Array Value} {cd : ClassData} (kin : K.In hp) (hx : hp.get? x = some { cls := .ref C, data := .fields fv })
    (hcd : W.clsIn K C = some cd) (hd : cd.hasDict = true) (o : Ord cd.mro) (own : W.findIn K (.ref C) nm = some none)
    (fin : ∀ h2 t2 dx, (∀ b u, b ≠ x → hp.get? b = some u → h2.get? b = some u) → hp.objs.size ≤ dx → dx ≠ x → h2.get? x = some { cls := .ref C, dict := some dx, data := .fields fv } → h2.Ns1 dx (fun y => if y = nm then some v else none) → R (.ok (.ret .none)) ⟨h2, gg, dr, t2, os⟩) :
    codeAny (model prog w) A (.call (.builtin "object.__setattr__") ⟨[.ref x, .str nm tk, v], []⟩) R ⟨hp, gg, dr, tk0, os⟩ := by
  refine osa_to (dob := none) kin hx ⟨hx, rfl, rfl, trivial⟩ hcd o own ?_
  have cls : W.Looks (model prog w) hp (classData C) cd := W.looks_clsIn kin hcd
  have xn : x ≠ hp.objs.size := Nat.ne_of_lt (Heap.lt_size hx)
  obtain ⟨c1, c2, c3, c4, c5, c6, c7, c8, c9, c10, c11⟩ := cd
  have hd : c6 = true := hd
  subst hd
  unfold storeInOwnDict ownDictForStores
  repeat (first | with_reducible refine HandSPX.store_in_new ?_ ?_ | with_reducible refine wpAny_loadPart_at hx ?_ | with_reducible refine cls.at ?_ | wp_step)
  · exact ⟨_, #[], _, (Heap.get?_update_ne _ _ _ _ xn.symm).trans (Heap.get?_push_at rfl rfl), rfl, fun e he => absurd he (by simp), fun _ => rfl⟩
  · intro h2 t2 hn sb
    refine ⟨fin h2 t2 hp.objs.size (fun b u nb hb => ?_) (Nat.le_refl _) xn.symm ?_ hn, rfl⟩
    · exact (sb.2 b (Nat.ne_of_lt (Heap.lt_size hb))).trans ((Heap.get?_update_ne _ _ _ _ nb).trans (Heap.get?_push_of_some _ hb))
    · exact (sb.2 x xn).trans (Heap.get?_update_self _ (Heap.get?_push_of_some _ hx) rfl)
/-- a further field -/
theorem osa_more {K : W.Frag} {nm : Str} {tk : Tok} {v : Value} {x C dx : Addr} {fv : Array Value} {cd : ClassData} {m0 : Str → Option Value} {nl : List Str} (kin : K.In hp) (hx : hp.get? x = some { cls := .ref C, dict := some dx, data := .fields fv })
    (hns : hp.Ns1 dx m0) (hw : Within m0 nl) (hz : nl.length ≤ 1000) (hcd : W.clsIn K C = some cd) (hd : cd.hasDict = true) (o : Ord cd.mro) (own : W.findIn K (.ref C) nm = some none)
    (fin : ∀ h2 t2, (∀ b u, b ≠ dx → hp.get? b = some u → h2.get? b = some u) → h2.Ns1 dx (fun y => if y = nm then some v else m0 y) → R (.ok (.ret .none)) ⟨h2, gg, dr, t2, os⟩) :
    codeAny (model prog w) A (.call (.builtin "object.__setattr__") ⟨[.ref x, .str nm tk, v], []⟩) R ⟨hp, gg, dr, tk0, os⟩ := by
  obtain ⟨od, e1, e2, hod, _, _⟩ := hns.count hw
  refine osa_to (dob := some od) kin hx ⟨hx, rfl, rfl, hod⟩ hcd o own ?_
  have cls : W.Looks (model prog w) hp (classData C) cd := W.looks_clsIn kin hcd
  obtain ⟨c1, c2, c3, c4, c5, c6, c7, c8, c9, c10, c11⟩ := cd
  have hd : c6 = true := hd
  subst hd
  unfold storeInOwnDict ownDictForStores
  repeat (first | with_reducible refine OEX.store_in_old hns hw hz ?_ | with_reducible refine wpAny_loadPart_at hx ?_ | with_reducible refine cls.at ?_ | wp_step)
  intro h2 t2 hn sb
  exact ⟨fin h2 t2 (fun b u nb hb => (sb.2 b nb).trans hb) hn, rfl⟩
end
/-! ### an own error class of any base, its __init__ walked -/
structure OexG (K : PySem.W.Frag) (nw : String) (tl : List Value) (C : Addr) : Prop where
  cls : ∃ nm q N bs bm sn sub ab col dd k0 k1 k2 k3 k5, K.lookup C = some (excClassObj nm q C N bs bm true sn sub ab col dd k0 k1 k2 k3 k5 nw) ∧ Ord (.ref C :: bm) ∧ ∀ Y : String, bm.contains (.type Y) = tl.contains (.type Y)
  sa : PySem.W.findIn K (.ref C) "__setattr__" = some (some (.builtin "object.__setattr__"))
  exC : PySem.W.subIn K (.ref C) (.type "BaseException") = some true
  tyC : PySem.W.typeIn K (.ref C) = some (.type "type")
  kC : PySem.W.keepIn K (.ref C) = true
theorem OexG.data {K : PySem.W.Frag} {nw : String} {tl : List Value} {C : Addr} (T : OexG K nw tl C) : ∃ cd : ClassData, PySem.W.clsIn K C = some cd ∧ cd.hasDict = true ∧ Ord cd.mro := by
  obtain ⟨nm, q, N, bs, bm, sn, sub, ab, col, dd, k0, k1, k2, k3, k5, hC, o, _⟩ := T.cls
  refine ⟨{ name := nm, bases := bs, mro := .ref C :: bm, ns := N, qualname := q, hasDict := true, slotNames := sn, subclasses := sub, abstract := ab, collection := col, hasDel := false }, ?_, rfl, o⟩
  unfold PySem.W.clsIn
  rw [hC] <;> rfl
section
variable {X : Cx} {pins : List (Addr × Obj)} {σ : L2.St} {H : Hp} {s : Shared} {a C dx : Addr} {f : Str} {y : V} {u : Value} {fs : List (Str × V)} {Q : Unit → Shared → Prop} {E : Value → Shared → Prop} {A : Around} {nw : String} {tl : List Value}
/-- tracked things stay where an exception's object and its new dict are written -/
theorem un_exc {hp h2 : Heap} (hn : H dx = none) (e : H a = some (exo a C none)) (dn : hp.objs.size ≤ dx) (k : ∀ b o, b ≠ a → hp.get? b = some o → h2.get? b = some o) (at2 : ∃ o, h2.get? a = some o) {o1 : Obj} (at1 : hp.get? a = some o1) :
    Un X.fs [] H (upd (upd H dx (exd dx [(f, y)])) a (exo a C (some dx))) hp h2 := by
  have old : ∀ {b : Addr} {o : Obj}, hp.get? b = some o → b ≠ dx := fun {b o} q => Nat.ne_of_lt (Nat.lt_of_lt_of_le (Heap.lt_size q) dn)
  have other : ∀ {b : Addr}, H b = none → b ≠ a := fun {b} z w => by rw [w, e] at z; cases z
  constructor
  case keep => exact fun b o q z _ _ => k b o (other z) q
  case slot => exact fun b o q z _ _ => ⟨o.slots, k b o (other z) q⟩
  case free => exact fun b o q z _ => (upd_ne (other z)).trans ((upd_ne (old q)).trans z)
  case there =>
    intro b o q _
    by_cases w : b = a
    · exact w ▸ at2
    · exact ⟨o, k b o w q⟩
  case tups => exact fun b xs q => (upd_ne (at_ne e q exo_tup)).trans ((upd_ne (ne_of_none q hn)).trans q)
  case frzs => exact fun b o v q => (upd_ne (at_ne e q exo_frz)).trans ((upd_ne (ne_of_none q hn)).trans q)
  case tbls =>
    intro b ps q
    refine ⟨#[], ?_⟩
    rw [upd_ne (at_ne e q exo_tbl), upd_ne (ne_of_none q hn), q]
    simp
theorem first_fld (T : OexG X.K nw tl C) (I : Inv X pins σ H s) (e : H a = some (exo a C none)) (hno : PySem.W.findIn X.K (.ref C) f = some none) (ry : RelV y u)
    (fin : ∀ dx s2, H dx = none → dx ≠ a → Inv X pins σ (upd (upd H dx (exd dx [(f, y)])) a (exo a C (some dx))) s2 → Q () s2) : wpAny (model X.prog X.w) A (setAttr (.ref a) f u) Q E s := by
  obtain ⟨cd, hcd, hd, o⟩ := T.data
  obtain ⟨t1, ho⟩ := exo_at I.hok e
  obtain ⟨hp, gg, dr, tk, os⟩ := s
  refine PySem.W.set_plain (ox := { cls := .ref C, dict := none, data := .fields #[.ref t1, .none, .none, .none, .bool false, .none] }) (od := none) I.kIn ⟨ho, rfl, rfl, trivial⟩ T.sa ?_
  refine osa_first I.kIn ho hcd hd o hno fun h2 t2 dx k dn dne hx hns => ?_
  have hn : H dx = none := I.hok.fresh dn
  refine fin dx _ hn dne (I.un (t' := t2) (un_exc hn e dn k ⟨_, hx⟩ ho) fun b w q => ?_)
  by_cases ba : b = a
  · subst ba
    rw [upd_same] at q
    cases q
    exact exo_ok hx
  rw [upd_ne ba] at q
  by_cases bd : b = dx
  · subst bd
    rw [upd_same] at q
    cases q
    exact exd_ok hns (relO_put (fs := []) ry fun g => True.intro)
  rw [upd_ne bd] at q
  refine (I.hok b w q).stay (fun c v hc z => k c v ?_ z) (fun c hc => ?_) fun c xs hc => ?_
  · rcases hc with rfl | hc
    · exact ba
    · exact at_ne e hc exo_own
  · exact (upd_ne (at_ne e hc exo_own)).trans ((upd_ne (ne_of_none hc hn)).trans hc)
  · exact (upd_ne (at_ne e hc exo_tup)).trans ((upd_ne (ne_of_none hc hn)).trans hc)
theorem more_fld (T : OexG X.K nw tl C) (I : Inv X pins σ H s) (e : H a = some (exo a C (some dx))) (ed : H dx = some (exd dx fs)) (hl : fs.length ≤ 900) (hno : PySem.W.findIn X.K (.ref C) f = some none) (ry : RelV y u)
    (fin : ∀ s2, Inv X pins σ (upd H dx (exd dx ((f, y) :: fs))) s2 → Q () s2) : wpAny (model X.prog X.w) A (setAttr (.ref a) f u) Q E s := by
  obtain ⟨cd, hcd, hd, o⟩ := T.data
  obtain ⟨t1, ho⟩ := exo_at I.hok e
  obtain ⟨mA, hns, rel⟩ := exd_at I.hok ed
  have wi := within_of rel
  obtain ⟨hp, gg, dr, tk, os⟩ := s
  obtain ⟨oD, _, _, hoD, _, _⟩ := hns.count wi
  refine PySem.W.set_plain (ox := { cls := .ref C, dict := some dx, data := .fields #[.ref t1, .none, .none, .none, .bool false, .none] }) (od := some oD) I.kIn ⟨ho, rfl, rfl, hoD⟩ T.sa ?_
  refine osa_more I.kIn ho hns wi (by rw [List.length_map]; omega) hcd hd o hno fun h2 t2 k hn => ?_
  have there : ∃ w, h2.get? dx = some w := by
    obtain ⟨w, _, _, e2, _⟩ := hn
    exact ⟨w, e2⟩
  exact fin _ (I.write (t' := t2) (x := dx) (e := dx) (o := exd dx ((f, y) :: fs)) (by rw [ed]; exact True.intro) (.inl rfl) k there (exd_ok hn (relO_put ry rel)))
end
/-- self.f = e -/
def tOsG (K : PySem.W.Frag) (f : Str) (to te : TE) : TS := fun D σ H => te σ H fun y H1 => to σ H1 fun x H2 => ∃ (a C : Addr) (nw : String) (tl : List Value), x = .ref a ∧ OexG K nw tl C ∧ PySem.W.findIn K (.ref C) f = some none ∧
  ((H2 a = some (exo a C none) ∧ ∀ dx, H2 dx = none → dx ≠ a → D.nx σ (upd (upd H2 dx (exd dx [(f, y)])) a (exo a C (some dx)))) ∨
    ∃ (dx : Addr) (fs : List (Str × V)), H2 a = some (exo a C (some dx)) ∧ H2 dx = some (exd dx fs) ∧ fs.length ≤ 900 ∧ D.nx σ (upd H2 dx (exd dx ((f, y) :: fs))))
theorem ps_osg {X : Cx} {o e : Expr} {to te : TE} {f : Str} {p pos : Pos} (ho : PE X o to) (he : PE X e te) (hs : swapsWith e (some (.Attribute o f p)) pos.line X.env = pure false := by rfl) : PS X (.Assign [.Attribute o f p] e pos) (tOsG X.K f to te) := by
  refine ⟨fun pins s σ H D I h => ?_⟩
  refine plainObj_wpAny_Assign_Attribute (thn (he.run pins s σ H _ I h) fun v s1 hv => ?_) hs
  obtain ⟨y, H1, I1, r1, q1⟩ := hv
  refine thn (ho.run pins s1 σ H1 _ I1 q1) fun u s2 hu => ?_
  obtain ⟨x, H2, I2, r2, a, C, nw, tl, ex, T, hno, q⟩ := hu
  subst ex
  cases (show u = Value.ref a from r2)
  rcases q with ⟨ea, q⟩ | ⟨dx, fs, ea, ed, hl, q⟩
  · exact first_fld T I2 ea hno r1 fun dx s3 n ne J => ⟨σ, _, J, q dx n ne⟩
  · exact more_fld T I2 ea ed hl hno r1 fun s3 J => ⟨σ, _, J, q⟩
/-! ### C(..) as a value -/
section
variable {X : Cx} {C fI : Addr} {k : Nat} {fd : FuncData} {ps : List Str} {sp : Sp} {nw B initId : String} {tl : List Value} {CX : CXT}
theorem call_exg {pins : List (Addr × Obj)} {σ : L2.St} {H : Hp} {s : Shared} {vs : List V} {us : List Value} {Q : VK} (F : ExcBaseFacts B nw initId tl) (T : OexG X.K nw tl C) (iC : PySem.W.findIn X.K (.ref C) "__init__" = some (some (.ref fI))) (tI : PySem.W.typeIn X.K (.ref fI) = some (.type "function"))
    (F1 : FnOk X.prog X.w X.K X.mg X.base CX k fI fd ps sp) (hr : Room (k + 1) X.A) (hb : Binds X.K fd ps []) (hx : Passes CX X (fun _ _ _ => False)) (I : Inv X pins σ H s) (rv : Vals vs us) (hz : vs.length ≤ 1000)
    (q : ∀ a, H a = none → sp (.ref a :: vs) (upd H a (exo a C none)) (fun v H2 => v = .non ∧ Q (.ref a) H2) (fun _ _ _ => False)) : wpAny (model X.prog X.w) X.A (call (.ref C) us) (EP X pins σ Q) X.xe s := by
  obtain ⟨nm, qn, N, bs, bm, sn, sub, ab, col, dd, k0, k1, k2, k3, k5, hC, o, hT⟩ := T.cls
  obtain ⟨hp, gg, dr, tk, os⟩ := s
  have later : hp.objs.size ≤ hp.objs.size + 1 := Nat.le_succ _
  have spec := q (hp.objs.size + 1) (I.hok.fresh later)
  have here : ((hp.push (PySem.W.kdv_tup us)).push (PySem.HandSPX.excO C hp.objs.size)).get? (hp.objs.size + 1) = some (PySem.HandSPX.excO C hp.objs.size) := by heap_get
  have I2 : Inv X pins σ (upd H (hp.objs.size + 1) (exo (hp.objs.size + 1) C none)) ⟨(hp.push (PySem.W.kdv_tup us)).push (PySem.HandSPX.excO C hp.objs.size), gg, dr, tk, os⟩ :=
    I.laid (t' := tk) (o := exo (hp.objs.size + 1) C none) (fun b w e => Heap.get?_push_of_some _ (Heap.get?_push_of_some _ e)) later (exo_ok here)
  have both : Vals (V.ref (hp.objs.size + 1) :: vs) (Value.ref (hp.objs.size + 1) :: us) := .cons rfl rv
  have cnt : (Value.ref (hp.objs.size + 1) :: us ++ []).length = ps.length := by
    rw [List.append_nil, ← Paired.length both]
    exact F1.len _ _ _ _ spec
  have few : us.length ≤ sizeLine := by
    rw [← Paired.length rv, sizeLine_eq]
    omega
  have bnd := hb _ (Value.ref (hp.objs.size + 1) :: us) I2.kIn cnt
  rw [List.append_nil] at bnd
  refine wpAny_call (PySem.HandSPX.call_own F hT (I.kIn _ _ hC) (PySem.W.looks_findIn I.kIn iC) (fun self => PySem.W.bind_fn I.kIn self tI) few (codeAny_mono (F1.run _ X.stack _ _ ⟨Value.ref (hp.objs.size + 1) :: us, []⟩ (Value.ref (hp.objs.size + 1) :: us) _ _ (fun _ _ _ => False) (hr.make C us []) (I2.env0.make C us []) bnd both spec) fun r s2 res => ?_))
  rcases r with er | fl
  · exact hx pins σ _ _ er s2 I2 res
  · cases fl with
    | ret u =>
      obtain ⟨v, H2, os2, bare2, un2, hok2, rr, ev, q2⟩ := res
      subst ev
      obtain ⟨h2, g2, d2, t2, os3⟩ := s2
      exact ⟨rr, .ref (hp.objs.size + 1), H2, I2.call' (ch := []) os2 un2 hok2 bare2 (fun b z => absurd z (by simp)), rfl, q2⟩
    | next => exact res.elim
    | brk => exact res.elim
    | cont => exact res.elim
def tNew (C : Addr) (sp : Sp) (ta : TA) : TE := fun σ H Q => ta σ H fun vs H1 => vs.length ≤ 1000 ∧ ∀ a, H1 a = none → sp (.ref a :: vs) (upd H1 a (exo a C none)) (fun v H2 => v = .non ∧ Q (.ref a) H2) (fun _ _ _ => False)
theorem pe_exg {x : Str} {e : Expr} {es : List Expr} {ta : TA} {p pos : Pos} (F : ExcBaseFacts B nw initId tl) (T : OexG X.K nw tl C) (iC : PySem.W.findIn X.K (.ref C) "__init__" = some (some (.ref fI))) (tI : PySem.W.typeIn X.K (.ref fI) = some (.type "function"))
    (F1 : FnOk X.prog X.w X.K X.mg X.base CX k fI fd ps sp) (hr : Room (k + 1) X.A) (hb : Binds X.K fd ps []) (hx : Passes CX X (fun _ _ _ => False)) (hg : Gl X x) (hm : X.mg x = some (.ref C)) (ha : PA X (e :: es) ta)
    (hdb : (x == ("__debug__" : Str)) = false := by decide) (he : starEach (e :: es) X.env = (false, eval e X.env) :: starEach es X.env := by rfl) (hpl : (backTo pos (starEach es X.env)).any (·.1) = false := by rfl) :
    PE X (.Call (.Name x p) (e :: es) [] pos) (tNew C sp ta) := by
  refine ⟨fun pins s σ H Q I h => wpAny_Call_Name_kw (ld_glob I hg hm ?_ hdb)⟩
  refine PySem.W.callWith_K (h₀ := X.base) I.ok.mod.kin T.kC (thn (ha.run pos pins s σ H _ I h) fun us s1 z => ?_) he hpl
  obtain ⟨vs, H1, I1, r1, hz, q1⟩ := z
  exact ⟨I1.kIn, call_exg F T iC tI F1 hr hb hx I1 r1 hz q1⟩
theorem pe_exg0 {x : Str} {p pos : Pos} (F : ExcBaseFacts B nw initId tl) (T : OexG X.K nw tl C) (iC : PySem.W.findIn X.K (.ref C) "__init__" = some (some (.ref fI))) (tI : PySem.W.typeIn X.K (.ref fI) = some (.type "function"))
    (F1 : FnOk X.prog X.w X.K X.mg X.base CX k fI fd ps sp) (hr : Room (k + 1) X.A) (hb : Binds X.K fd ps []) (hx : Passes CX X (fun _ _ _ => False)) (hg : Gl X x) (hm : X.mg x = some (.ref C)) (hdb : (x == ("__debug__" : Str)) = false := by decide) :
    PE X (.Call (.Name x p) [] [] pos) (tNew C sp tNil) := by
  refine ⟨fun pins s σ H Q I h => wpAny_Call_Name_kw (ld_glob I hg hm ?_ hdb)⟩
  exact PySem.W.callWith_K0 I.kIn T.kC (call_exg F T iC tI F1 hr hb hx I .nil (by show 0 ≤ 1000; decide) h.2)
end
/-! ### isinstance of an error that holds fields; its attributes -/
section
open PySem.W PySem.Calls
variable {prog : Program} {w : World} {A : Around} {E : Value → Shared → Prop} {s : Shared} {K : Frag} {x D : Addr} {ox : Obj} {od : Option Obj}
theorem class_found (T : ExcC K D) : findObj K D od "__class__" = some (.bind (.builtin "getset_descriptor.__get__") (.builtin "object.__class__")) := by
  obtain ⟨cd, hc, _⟩ := any_some T.hd
  unfold findObj
  rw [hc, Option.bind_some, T.ha, Option.bind_some]
  simp [T.hn, T.ht]
theorem class_asked {Q : Option Value → Shared → Prop} (T : ExcC K D) (kin : K.In s.heap) (I : InstAt s.heap x ox D od) (go : Q (some (.ref D)) { s with toks := s.toks + 1 }) : wpAny (model prog w) A (getAttr? (.ref x) "__class__") Q E s := by
  obtain ⟨hp, gg, dr, tk, os⟩ := s
  have lt := I.type (M := model prog w)
  have lg := looks_findIn (M := model prog w) kin T.hg
  have lk := looks_findIn (M := model prog w) kin T.hk
  have lf := looks_find (M := model prog w) kin I (class_found T)
  have base : Looks (model prog w) hp (isInstance (.ref x) (.type "BaseException")) true := lt.andThen (looks_subIn kin T.hs)
  have other : (Value.builtin "BaseException.__getattribute__" == Value.builtin "object.__getattribute__") = false := by decide +kernel
  have no1 : (onTheHeap (Value.ref D) && Value.builtin "BaseException.__getattribute__" == Value.builtin "object.__getattribute__") = false := by rw [other]; rfl
  have no2 : (false && onTheHeap (Value.builtin "BaseException.__getattribute__")) = false := rfl
  unfold getAttr? getAttrBy? getAttrBy
  refine wpAny_bind (wpAny_mkText (wpAny_bind (wpAny_attempt (wpAny_holding (wpAny_bind (lt.at (wpAny_bind (lg.at ?_))))))))
  show wpAny _ _ (if (onTheHeap (Value.ref D) && Value.builtin "BaseException.__getattribute__" == Value.builtin "object.__getattribute__") = true then _ else _) _ _ _
  rw [no1, if_neg Bool.false_ne_true]
  unfold getAttrByItsOwn hookBefore
  rw [if_pos (show onTheHeap (Value.ref D) = true from rfl)]
  refine wpAny_bind (lk.at (wpAny_bind (wpAny_attempt (wpAny_holding ?_))))
  unfold callGetattribute
  rw [no2, if_neg Bool.false_ne_true]
  unfold boundAndCalled
  rw [PySem.F.excAttr_ValueError.ga.bind (.ref x)]
  refine wpAny_bind (wpAny_pure ?_)
  show wpAny _ _ (call (.builtin "BaseException.__getattribute__") [.ref x, .str "__class__" tk]) _ _ _
  refine wpAny_call (codeAny_call_builtin PySem.F.excAttr_ValueError.ga.plain PySem.F.entry_bexc_ga ?_)
  refine @check_slot (model prog w) _ _ ⟨hp, gg, dr, tk + 1, os⟩ "BaseException.__getattribute__" "BaseException" "__getattribute__" (.ref x) [.str "__class__" tk] [] _ (by decide +kernel) (by decide +kernel) base (PySem.F.args_bexc_ga (.ref x) (.str "__class__" tk)) ?_
  unfold Builtin.«object.__getattribute__»
  refine wpAny_bind (wpAny_of_eq (a := ((Value.ref x : Value), [Value.str "__class__" tk])) (by first | rfl | (simp only [slotArgs]; rfl)) ?_)
  refine wpAny_bind (wpAny_pure (wpAny_bind (lt.at (wpAny_bind (lf.at ?_)))))
  show wpAny _ _ (holding [Value.builtin "object.__class__"] (call (.builtin "getset_descriptor.__get__") [.builtin "object.__class__", .ref x, .ref D]) >>= ret) _ _ _
  refine wpAny_bind (wpAny_holding (wpAny_call (class_get (s := ⟨hp, gg, dr, tk + 1, os⟩) (ox := ox) (od := od) kin I T.hm ?_)))
  refine wpAny_pure ?_
  show wpAny _ _ (handedOut (.ref D)) _ _ _
  rw [handedOut_of (v := .ref D) rfl]
  first
    | exact wpAny_pure (wpAny_pure go)
    | exact wpAny_pure go
    | exact wpAny_pure (wpAny_bind (wpAny_pure (wpAny_pure go)))
theorem kit_exd (T : ExcC K D) : KitX K (.ref x) (.ref D) (fun h => ∃ ox od, InstAt h x ox D od) := by
  obtain ⟨cd, hc, _⟩ := any_some T.hd
  unfold clsIn at hc
  split at hc
  case h_2 => cases hc
  case h_1 c1 d1 cd1 sl1 ho =>
    refine ⟨fun M h _ ⟨_, _, I⟩ => I.type, fun M h kin _ => ?_, fun h tp d2 its n sl kin e => ?_, fun kin ⟨_, _, I⟩ q => class_asked T kin I q⟩
    · intro A' Q' E' s' k q
      unfold isType loadHead
      exact wpAny_bind (wpAny_loadPart (k _ _ (kin _ _ ho)) (wpAny_pure q))
    · refine Bool.eq_false_iff.mpr fun q => ?_
      have same : D = tp := Value.ref.inj (beq_iff_eq.mp q)
      subst same
      have z := (kin _ _ ho).symm.trans e
      cases z
end
/-- isinstance(e, c), e an error that stands in the heap -/
def rIsG (K : PySem.W.Frag) : List V → Hp → VK → Prop := fun xs H Q => ∃ (a C dd : Addr) (c : V) (cv : Value) (b : Bool), xs = [.ref a, c] ∧ H a = some (exo a C (some dd)) ∧ (∃ fs, H dd = some (exd dd fs)) ∧ ExcC K C ∧ (∀ u, RelV c u → u = cv) ∧ PySem.W.kitOne K (.ref C) cv = some b ∧ Q (.bl b) H
theorem inst_exg {X : Cx} {pins : List (Addr × Obj)} {σ : L2.St} {H : Hp} {s : Shared} {a C dd : Addr} {fs : List (Str × V)} (I : Inv X pins σ H s) (e : H a = some (exo a C (some dd))) (ed : H dd = some (exd dd fs)) : ∃ (ox o : Obj) (mA : Str → Option Value), PySem.W.InstAt s.heap a ox C (some o) ∧ (∀ f, RelO (fs.lookup f) (mA f)) ∧ ∀ name, PySem.W.lookIn name o = some (mA name) := by
  obtain ⟨t1, ho⟩ := exo_at I.hok e
  obtain ⟨mA, hns, rel⟩ := exd_at I.hok ed
  obtain ⟨o, h1, h2⟩ := lookIn_ns hns
  exact ⟨_, o, mA, ⟨ho, rfl, rfl, h1⟩, rel, h2⟩
theorem call_isG {X : Cx} : CallR X (.builtin "isinstance") (rIsG X.K) := by
  intro pins s σ H xs us Q I r h
  obtain ⟨a, C, dd, c, cv, b, rfl, ha, ⟨fs, hd⟩, T, hc, e, q⟩ := h
  obtain ⟨u1, u2, rfl, r1, r2⟩ := vals2 r
  cases (show u1 = Value.ref a from r1)
  cases hc _ r2
  obtain ⟨ox, o, mA, J, _, _⟩ := inst_exg I ha hd
  exact PySem.W.kia_one (kit_exd T) I.kIn ⟨ox, _, J⟩ e (fun z => nomatch z) fun tk => ⟨.bl b, H, I.tok tk, rfl, q⟩
/-- isinstance(e, (A, B, ..)) -/
def rIsGT (K : PySem.W.Frag) : List V → Hp → VK → Prop := fun xs H Q => ∃ (a C dd tp : Addr) (cs : List V) (cv : List Value) (b : Bool), xs = [.ref a, .ref tp] ∧ H a = some (exo a C (some dd)) ∧ (∃ fs, H dd = some (exd dd fs)) ∧ ExcC K C ∧ H tp = some (.tup cs) ∧ Paired ClsV cs cv ∧ PySem.W.kitAny K (.ref C) cv = some b ∧ Q (.bl b) H
theorem call_isGT {X : Cx} : CallR X (.builtin "isinstance") (rIsGT X.K) := by
  intro pins s σ H xs us Q I r h
  obtain ⟨a, C, dd, tp, cs, cv, b, rfl, ha, ⟨fs, hd⟩, T, ht, hc, e, q⟩ := h
  obtain ⟨u1, u2, rfl, r1, r2⟩ := vals2 r
  cases (show u1 = Value.ref a from r1)
  cases (show u2 = Value.ref tp from r2)
  obtain ⟨ox, o, mA, J, _, _⟩ := inst_exg I ha hd
  obtain ⟨_, its, rv, ot, h1, h2, n, h3⟩ := (show ObjOk X.prog X.w H s.heap tp (.tup cs) from I.hok tp _ ht)
  cases ClsV.all hc rv
  obtain ⟨oc, od, dt, sl⟩ := ot
  dsimp only at h2 h3
  subst h2 h3
  exact PySem.W.kia_tup (kit_exd T) I.kIn ⟨ox, _, J⟩ h1 e (fun z => nomatch z) fun tk => ⟨.bl b, H, I.tok tk, rfl, q⟩
/-- e.n -/
def tXg (K : PySem.W.Frag) (n : Str) (te : TE) : TE := fun σ H Q => te σ H fun x H1 => ∃ (a C dd : Addr) (fs : List (Str × V)) (v : V), x = .ref a ∧ XfC K C ∧ PySem.W.findIn K (.ref C) n = some none ∧ H1 a = some (exo a C (some dd)) ∧ H1 dd = some (exd dd fs) ∧ fs.lookup n = some v ∧ Q v H1
theorem pe_xg {X : Cx} {e : Expr} {te : TE} {pos : Pos} {n : Str} (he : PE X e te) (hb : attributeBase e n X.env (eval e X.env) = eval e X.env := by rfl) : PE X (.Attribute e n pos) (tXg X.K n te) := by
  refine ⟨fun pins s σ H Q I h => attr_of hb (thn (he.run pins s σ H _ I h) fun u s1 hh => ?_)⟩
  obtain ⟨x, H1, I1, rx, a, C, dd, fs, v, ex, T, hno, ea, ed, l, q⟩ := hh
  subst ex
  cases (show u = Value.ref a from rx)
  obtain ⟨ox, o, mA, J, rel, hl⟩ := inst_exg I1 ea ed
  obtain ⟨u, hu, ru⟩ := RelO.some_of (v := v) (o := mA n) (by rw [← l]; exact rel n)
  exact PySem.HandSPX.exc_get I1.kIn J T.ga T.gg T.exC (PySem.W.findObj_own T.hdC hno rfl (by rw [hl, hu])) (handed_of ru) ⟨v, H1, I1.tok _, ru, q⟩
/-! ### what is known of an error class of any base -/
structure ErrG (K : PySem.W.Frag) (mg : Str → Option Value) (x : Str) (C fI : Addr) (nw : String) (tl : List Value) : Prop where
  g : OexG K nw tl C
  xf : XfC K C
  ex : ExcC K C
  gC : mg x = some (.ref C)
  tag : PySem.W.findIn K (.ref C) "tag" = some none
  iC : PySem.W.findIn K (.ref C) "__init__" = some (some (.ref fI))
  tI : PySem.W.typeIn K (.ref fI) = some (.type "function")
abbrev tlV : List Value := [.type "ValueError", .type "Exception", .type "BaseException", .type "object"]
abbrev tlL : List Value := [.type "LookupError", .type "Exception", .type "BaseException", .type "object"]
abbrev tlI : List Value := [.type "IndexError", .type "LookupError", .type "Exception", .type "BaseException", .type "object"]
/-- __init__(self, v): self.n = v; self.tag = x -/
def spG1 (K : PySem.W.Frag) (n x : Str) : Sp := fun vs H Q _ => ∃ (a C : Addr) (v : V) (nw : String) (tl : List Value), vs = [.ref a, v] ∧ OexG K nw tl C ∧ PySem.W.findIn K (.ref C) n = some none ∧ PySem.W.findIn K (.ref C) "tag" = some none ∧ H a = some (exo a C none) ∧
  ∀ dx, H dx = none → dx ≠ a → Q .non (upd (upd (upd H dx (exd dx [(n, v)])) a (exo a C (some dx))) dx (exd dx [("tag", .str x), (n, v)]))
def spG0 (K : PySem.W.Frag) (x : Str) : Sp := fun vs H Q _ => ∃ (a C : Addr) (nw : String) (tl : List Value), vs = [.ref a] ∧ OexG K nw tl C ∧ PySem.W.findIn K (.ref C) "tag" = some none ∧ H a = some (exo a C none) ∧
  ∀ dx, H dx = none → dx ≠ a → Q .non (upd (upd H dx (exd dx [("tag", .str x)])) a (exo a C (some dx)))
end EK
namespace T0
open PySem PySem.Spec PyProof.Rows L2 EK
def topS (i : Nat) : Stmt := PySem.Challenge.pw_tiespan_k59_refusals_by_their_classes.main.body.getD i (.Pass ⟨0, 0, 0, 0⟩)
abbrev s_feed : Stmt := topS 25
abbrev s_draw : Stmt := topS 26
abbrev s_any : Stmt := topS 27
abbrev s_same : Stmt := topS 28
abbrev s_made_errors : Stmt := topS 29
abbrev s_flags : Stmt := topS 30
abbrev s_value_of : Stmt := topS 31
abbrev s_p_law : Stmt := topS 32
theorem sc_feed : FnScope ["_law_script", "_law_cell", "_law_cells", "_law_mark"] ["_law_script"] (defScope s_feed) := ⟨rfl, rfl, rfl, by decide +kernel, rfl, by decide +kernel, by decide +kernel⟩
theorem sc_draw : FnScope ["_law_feed_here", "_law_many", "_law_cell", "_law_one", "_law_two", "_law_drawn"] ["_law_feed_here", "_law_many"] (defScope s_draw) := ⟨rfl, rfl, rfl, by decide +kernel, rfl, by decide +kernel, by decide +kernel⟩
theorem sc_any : FnScope ["_law_feed_here", "_law_row"] ["_law_feed_here", "_law_row"] (defScope s_any) := ⟨rfl, rfl, rfl, by decide +kernel, rfl, by decide +kernel, by decide +kernel⟩
theorem sc_same : FnScope ["_law_found", "_law_due", "_law_key", "_law_one", "_law_two"] ["_law_found", "_law_due"] (defScope s_same) := ⟨rfl, rfl, rfl, by decide +kernel, rfl, by decide +kernel, by decide +kernel⟩
theorem sc_made_errors : FnScope ["_law_number", "_law_word", "_law_found"] ["_law_number", "_law_word"] (defScope s_made_errors) := ⟨rfl, rfl, rfl, by decide +kernel, rfl, by decide +kernel, by decide +kernel⟩
theorem sc_flags : FnScope ["_law_e", "_law_found"] ["_law_e"] (defScope s_flags) := ⟨rfl, rfl, rfl, by decide +kernel, rfl, by decide +kernel, by decide +kernel⟩
theorem sc_value_of : FnScope ["_law_e"] ["_law_e"] (defScope s_value_of) := ⟨rfl, rfl, rfl, by decide +kernel, rfl, by decide +kernel, by decide +kernel⟩
theorem sc_p_law : FnScope ["_law_script", "_law_feed_here", "_law_number", "_law_word", "_law_tags", "_law_due", "_law_made", "_law_start", "_law_at", "_law_e", "_law_told", "_law_k"] ["_law_script"] (defScope s_p_law) := ⟨rfl, rfl, rfl, by decide +kernel, rfl, by decide +kernel, by decide +kernel⟩
def subT (i j : Nat) : Bool := decide (j ∈ (match i with
  | 1 => [1]
  | 2 => [2, 1]
  | 3 => [3, 1]
  | 4 => [4, 1]
  | 5 => [5, 1]
  | 6 => [6, 1]
  | 7 => [7, 1]
  | 8 => [8, 1]
  | 9 => [9, 1]
  | 10 => [10, 1]
  | 11 => [11, 1]
  | 12 => [12, 1]
  | 13 => [13, 1]
  | 14 => [14, 1]
  | 15 => [15, 1]
  | 16 => [16, 1]
  | 17 => [17, 1]
  | 18 => [18, 1]
  | 19 => [19, 1]
  | 20 => [20]
  | 21 => [21, 20]
  | 22 => [22, 20]
  | 23 => [23]
  | _ => ([] : List Nat)))
def subB (i j : Nat) : Bool := decide (j ∈ (match i with
  | 1 => [0]
  | 2 => [0]
  | 3 => [0]
  | 4 => [0]
  | 5 => [0]
  | 6 => [0]
  | 7 => [0]
  | 8 => [0]
  | 9 => [0]
  | 10 => [0]
  | 11 => [0]
  | 12 => [0]
  | 13 => [0]
  | 14 => [0]
  | 15 => [0]
  | 16 => [0]
  | 17 => [0]
  | 18 => [0]
  | 19 => [0]
  | 20 => [1]
  | 21 => [1]
  | 22 => [1]
  | 23 => [1, 2]
  | _ => ([] : List Nat)))
structure Txt (K : PySem.W.Frag) (mg : Str → Option Value) (fa : Nat → Addr) (fd : Nat → FuncData) : Prop where
  eTieError : ErrG K mg "TieError" (fa 1) (fa 1001) "ValueError.__new__" tlV
  ITieError : Fun K "__init__" "TieError.__init__" (inClass (topS 1) 0) (fa 1001) (fd 1001)
  bITieError : Binds K (fd 1001) ["self"] []
  eInvalidRatio : ErrG K mg "InvalidRatio" (fa 2) (fa 1002) "ValueError.__new__" tlV
  IInvalidRatio : Fun K "__init__" "InvalidRatio.__init__" (inClass (topS 2) 0) (fa 1002) (fd 1002)
  bIInvalidRatio : Binds K (fd 1002) ["self", "given"] []
  nInvalidRatio_given : PySem.W.findIn K (.ref (fa 2)) "given" = some none
  eInvalidRow : ErrG K mg "InvalidRow" (fa 3) (fa 1003) "ValueError.__new__" tlV
  IInvalidRow : Fun K "__init__" "InvalidRow.__init__" (inClass (topS 3) 0) (fa 1003) (fd 1003)
  bIInvalidRow : Binds K (fd 1003) ["self", "at"] []
  nInvalidRow_at : PySem.W.findIn K (.ref (fa 3)) "at" = some none
  eInvalidName : ErrG K mg "InvalidName" (fa 4) (fa 1004) "ValueError.__new__" tlV
  IInvalidName : Fun K "__init__" "InvalidName.__init__" (inClass (topS 4) 0) (fa 1004) (fd 1004)
  bIInvalidName : Binds K (fd 1004) ["self", "name"] []
  nInvalidName_name : PySem.W.findIn K (.ref (fa 4)) "name" = some none
  eInvalidTie : ErrG K mg "InvalidTie" (fa 5) (fa 1005) "ValueError.__new__" tlV
  IInvalidTie : Fun K "__init__" "InvalidTie.__init__" (inClass (topS 5) 0) (fa 1005) (fd 1005)
  bIInvalidTie : Binds K (fd 1005) ["self", "at"] []
  nInvalidTie_at : PySem.W.findIn K (.ref (fa 5)) "at" = some none
  eInvalidWish : ErrG K mg "InvalidWish" (fa 6) (fa 1006) "ValueError.__new__" tlV
  IInvalidWish : Fun K "__init__" "InvalidWish.__init__" (inClass (topS 6) 0) (fa 1006) (fd 1006)
  bIInvalidWish : Binds K (fd 1006) ["self", "at"] []
  nInvalidWish_at : PySem.W.findIn K (.ref (fa 6)) "at" = some none
  eInvalidTimes : ErrG K mg "InvalidTimes" (fa 7) (fa 1007) "ValueError.__new__" tlV
  IInvalidTimes : Fun K "__init__" "InvalidTimes.__init__" (inClass (topS 7) 0) (fa 1007) (fd 1007)
  bIInvalidTimes : Binds K (fd 1007) ["self", "given"] []
  nInvalidTimes_given : PySem.W.findIn K (.ref (fa 7)) "given" = some none
  eInvalidLimit : ErrG K mg "InvalidLimit" (fa 8) (fa 1008) "ValueError.__new__" tlV
  IInvalidLimit : Fun K "__init__" "InvalidLimit.__init__" (inClass (topS 8) 0) (fa 1008) (fd 1008)
  bIInvalidLimit : Binds K (fd 1008) ["self", "given"] []
  nInvalidLimit_given : PySem.W.findIn K (.ref (fa 8)) "given" = some none
  eInvalidCommand : ErrG K mg "InvalidCommand" (fa 9) (fa 1009) "ValueError.__new__" tlV
  IInvalidCommand : Fun K "__init__" "InvalidCommand.__init__" (inClass (topS 9) 0) (fa 1009) (fd 1009)
  bIInvalidCommand : Binds K (fd 1009) ["self", "first"] []
  nInvalidCommand_first : PySem.W.findIn K (.ref (fa 9)) "first" = some none
  eNotTied : ErrG K mg "NotTied" (fa 10) (fa 1010) "ValueError.__new__" tlV
  INotTied : Fun K "__init__" "NotTied.__init__" (inClass (topS 10) 0) (fa 1010) (fd 1010)
  bINotTied : Binds K (fd 1010) ["self", "many"] []
  nNotTied_many : PySem.W.findIn K (.ref (fa 10)) "many" = some none
  eSameName : ErrG K mg "SameName" (fa 11) (fa 1011) "ValueError.__new__" tlV
  ISameName : Fun K "__init__" "SameName.__init__" (inClass (topS 11) 0) (fa 1011) (fd 1011)
  bISameName : Binds K (fd 1011) ["self", "name"] []
  nSameName_name : PySem.W.findIn K (.ref (fa 11)) "name" = some none
  eNamesDiffer : ErrG K mg "NamesDiffer" (fa 12) (fa 1012) "ValueError.__new__" tlV
  INamesDiffer : Fun K "__init__" "NamesDiffer.__init__" (inClass (topS 12) 0) (fa 1012) (fd 1012)
  bINamesDiffer : Binds K (fd 1012) ["self"] []
  eEmptyFigure : ErrG K mg "EmptyFigure" (fa 13) (fa 1013) "ValueError.__new__" tlV
  IEmptyFigure : Fun K "__init__" "EmptyFigure.__init__" (inClass (topS 13) 0) (fa 1013) (fd 1013)
  bIEmptyFigure : Binds K (fd 1013) ["self"] []
  eImpossible : ErrG K mg "Impossible" (fa 14) (fa 1014) "ValueError.__new__" tlV
  IImpossible : Fun K "__init__" "Impossible.__init__" (inClass (topS 14) 0) (fa 1014) (fd 1014)
  bIImpossible : Binds K (fd 1014) ["self"] []
  ePossible : ErrG K mg "Possible" (fa 15) (fa 1015) "ValueError.__new__" tlV
  IPossible : Fun K "__init__" "Possible.__init__" (inClass (topS 15) 0) (fa 1015) (fd 1015)
  bIPossible : Binds K (fd 1015) ["self", "answer"] []
  nPossible_answer : PySem.W.findIn K (.ref (fa 15)) "answer" = some none
  eNotImplied : ErrG K mg "NotImplied" (fa 16) (fa 1016) "ValueError.__new__" tlV
  INotImplied : Fun K "__init__" "NotImplied.__init__" (inClass (topS 16) 0) (fa 1016) (fd 1016)
  bINotImplied : Binds K (fd 1016) ["self", "answer"] []
  nNotImplied_answer : PySem.W.findIn K (.ref (fa 16)) "answer" = some none
  eParseError : ErrG K mg "ParseError" (fa 17) (fa 1017) "ValueError.__new__" tlV
  IParseError : Fun K "__init__" "ParseError.__init__" (inClass (topS 17) 0) (fa 1017) (fd 1017)
  bIParseError : Binds K (fd 1017) ["self", "at"] []
  nParseError_at : PySem.W.findIn K (.ref (fa 17)) "at" = some none
  eDuplicateLabel : ErrG K mg "DuplicateLabel" (fa 18) (fa 1018) "ValueError.__new__" tlV
  IDuplicateLabel : Fun K "__init__" "DuplicateLabel.__init__" (inClass (topS 18) 0) (fa 1018) (fd 1018)
  bIDuplicateLabel : Binds K (fd 1018) ["self", "label"] []
  nDuplicateLabel_label : PySem.W.findIn K (.ref (fa 18)) "label" = some none
  eCapacityExceeded : ErrG K mg "CapacityExceeded" (fa 19) (fa 1019) "ValueError.__new__" tlV
  ICapacityExceeded : Fun K "__init__" "CapacityExceeded.__init__" (inClass (topS 19) 0) (fa 1019) (fd 1019)
  bICapacityExceeded : Binds K (fd 1019) ["self", "most"] []
  nCapacityExceeded_most : PySem.W.findIn K (.ref (fa 19)) "most" = some none
  eMissing : ErrG K mg "Missing" (fa 20) (fa 1020) "LookupError.__new__" tlL
  IMissing : Fun K "__init__" "Missing.__init__" (inClass (topS 20) 0) (fa 1020) (fd 1020)
  bIMissing : Binds K (fd 1020) ["self"] []
  eUnknownName : ErrG K mg "UnknownName" (fa 21) (fa 1021) "LookupError.__new__" tlL
  IUnknownName : Fun K "__init__" "UnknownName.__init__" (inClass (topS 21) 0) (fa 1021) (fd 1021)
  bIUnknownName : Binds K (fd 1021) ["self", "name"] []
  nUnknownName_name : PySem.W.findIn K (.ref (fa 21)) "name" = some none
  eUnknownLabel : ErrG K mg "UnknownLabel" (fa 22) (fa 1022) "LookupError.__new__" tlL
  IUnknownLabel : Fun K "__init__" "UnknownLabel.__init__" (inClass (topS 22) 0) (fa 1022) (fd 1022)
  bIUnknownLabel : Binds K (fd 1022) ["self", "label"] []
  nUnknownLabel_label : PySem.W.findIn K (.ref (fa 22)) "label" = some none
  eNothingLeft : ErrG K mg "NothingLeft" (fa 23) (fa 1023) "IndexError.__new__" tlI
  INothingLeft : Fun K "__init__" "NothingLeft.__init__" (inClass (topS 23) 0) (fa 1023) (fd 1023)
  bINothingLeft : Binds K (fd 1023) ["self"] []
  kit : ([1, 2, 3, 4, 5, 6, 7, 8, 9, 10, 11, 12, 13, 14, 15, 16, 17, 18, 19, 20, 21, 22, 23].all fun i => [1, 2, 3, 4, 5, 6, 7, 8, 9, 10, 11, 12, 13, 14, 15, 16, 17, 18, 19, 20, 21, 22, 23].all fun j => PySem.W.kitOne K (.ref (fa i)) (.ref (fa j)) == some (subT i j)) = true
  kitB : ([1, 2, 3, 4, 5, 6, 7, 8, 9, 10, 11, 12, 13, 14, 15, 16, 17, 18, 19, 20, 21, 22, 23].all fun i => PySem.W.kitOne K (.ref (fa i)) (.type "ValueError") == some (subB i 0) && PySem.W.kitOne K (.ref (fa i)) (.type "LookupError") == some (subB i 1) && PySem.W.kitOne K (.ref (fa i)) (.type "IndexError") == some (subB i 2)) = true
  F_feed : Fun K "_law_feed" "_law_feed" s_feed (fa 25) (fd 25)
  g_feed : mg "_law_feed" = some (.ref (fa 25))
  b_feed : Binds K (fd 25) ["_law_script"] []
  F_draw : Fun K "_law_draw" "_law_draw" s_draw (fa 26) (fd 26)
  g_draw : mg "_law_draw" = some (.ref (fa 26))
  b_draw : Binds K (fd 26) ["_law_feed_here", "_law_many"] []
  F_any : Fun K "_law_any" "_law_any" s_any (fa 27) (fd 27)
  g_any : mg "_law_any" = some (.ref (fa 27))
  b_any : Binds K (fd 27) ["_law_feed_here", "_law_row"] []
  F_same : Fun K "_law_same" "_law_same" s_same (fa 28) (fd 28)
  g_same : mg "_law_same" = some (.ref (fa 28))
  b_same : Binds K (fd 28) ["_law_found", "_law_due"] []
  F_made_errors : Fun K "_law_made_errors" "_law_made_errors" s_made_errors (fa 29) (fd 29)
  g_made_errors : mg "_law_made_errors" = some (.ref (fa 29))
  b_made_errors : Binds K (fd 29) ["_law_number", "_law_word"] []
  F_flags : Fun K "_law_flags" "_law_flags" s_flags (fa 30) (fd 30)
  g_flags : mg "_law_flags" = some (.ref (fa 30))
  b_flags : Binds K (fd 30) ["_law_e"] []
  F_value_of : Fun K "_law_value_of" "_law_value_of" s_value_of (fa 31) (fd 31)
  g_value_of : mg "_law_value_of" = some (.ref (fa 31))
  b_value_of : Binds K (fd 31) ["_law_e"] []
  F_p_law : Fun K "law" "law" s_p_law (fa 32) (fd 32)
  g_p_law : mg "law" = some (.ref (fa 32))
  b_p_law : Binds K (fd 32) ["_law_script"] []
  m_int : mg "int" = none
  m_len : mg "len" = none
  m_abs : mg "abs" = none
  m_range : mg "range" = none
  m_zip : mg "zip" = none
  m_all : mg "all" = none
  m_isinstance : mg "isinstance" = none
  m_bool : mg "bool" = none
  m_str : mg "str" = none
  m_tuple : mg "tuple" = none
  m_list : mg "list" = none
  m_dict : mg "dict" = none
  m_ValueError : mg "ValueError" = none
  m_LookupError : mg "LookupError" = none
  m_IndexError : mg "IndexError" = none
/-! ### the law's own words: drawing -/
def FeedOk (H : Hp) (a c : Addr) : Prop := ∃ (ns : List Int) (k big mark : Int), H a = some (.lst [.ref c, .int k, .int big, .int mark]) ∧ H c = some (.lst (ns.map V.int)) ∧ c ≠ a ∧ ns.length ≤ 63 ∧ 0 ≤ k
def But (a : Addr) (H H' : Hp) : Prop := ∀ b o, b ≠ a → H b = some o → H' b = some o
theorem But.refl (a : Addr) (H : Hp) : But a H H := fun _ _ _ h => h
theorem But.trans {a : Addr} {H H1 H2 : Hp} (p : But a H H1) (q : But a H1 H2) : But a H H2 := fun b o n h => q b o n (p b o n h)
theorem But.upd {a : Addr} {H : Hp} {o : HO} : But a H (upd H a o) := fun b _ n h => by rw [upd_ne n]; exact h
theorem But.of {a : Addr} {H H' : Hp} (s : Same H H') : But a H H' := fun b o _ h => s b o h
theorem same_upd {H : Hp} {p : Addr} {o : HO} (h : H p = none) : Same H (upd H p o) := fun b x e => by
  rw [upd_ne (ne_of_none e h)]
  exact e
theorem FeedOk.new {H : Hp} {a c p : Addr} {o : HO} (h : FeedOk H a c) (n : H p = none) : FeedOk (upd H p o) a c := by
  obtain ⟨ns, k, big, mark, h1, h2, h3⟩ := h
  exact ⟨ns, k, big, mark, same_upd n _ _ h1, same_upd n _ _ h2, h3⟩
theorem FeedOk.same {H H' : Hp} {a c : Addr} (h : FeedOk H a c) (s : Same H H') : FeedOk H' a c := by
  obtain ⟨ns, k, big, mark, h1, h2, h3⟩ := h
  exact ⟨ns, k, big, mark, s _ _ h1, s _ _ h2, h3⟩
def Mid (m : Int) : Prop := 0 < m ∧ m.natAbs.log2 < 9000
def spDraw : Sp := fun vs H Q _ => ∃ (a c : Addr) (m : Int), vs = [.ref a, .int m] ∧ FeedOk H a c ∧ Mid m ∧ ∀ r H', 0 ≤ r → r < m → FeedOk H' a c → But a H H' → Q (.int r) H'
section
variable {P : Program} {w : World} {K : PySem.W.Frag} {mg : Str → Option Value} {base : Heap} {fa : Nat → Addr} {fd : Nat → FuncData}
theorem ok_draw (T : Txt K mg fa fd) : FnOk P w K mg base CX0 1 (fa 26) (fd 26) ["_law_feed_here", "_law_many"] spDraw := by
  refine T.F_draw.ok sc_draw (fun vs H Q E h => ?_) (fun cdv A outer s H vs Q E hr h => ?_)
  · obtain ⟨a, c, m, rfl, _⟩ := h
    rfl
  · obtain ⟨a, c, m, rfl, ⟨ns, k, big, mark, ha, hc, nca, hlen, hk⟩, ⟨hm, hm9⟩, q⟩ := h
    refine ⟨_, (C8.pss_cut (ps_if (pt_cmpR op_lt (pe_ix ix_list (pv 0) pe_int (fun _ _ => rfl)) pe_int (nomark _)) (C8.pss_cut (ps_asg (pe_op op_add (pe_ix ix_list (pv 0) pe_int (fun _ _ => rfl)) pe_int) (pg_sub (pv 0) pe_int set_list))
      (pss_cons (ps_set (i := 2) sc_draw.nd rfl (.inl rfl) (pe_op op_add (pe_ix ix_list (pv 0) pe_int (fun _ _ => rfl)) (pe_op op_mul (pe_ix ix_list (pv 0) pe_int (fun _ _ => rfl)) pe_int)))
      (C8.pss_cut (ps_if (pt_cmpR op_le (pe_ix ix_list (pv 0) pe_int (fun _ _ => rfl)) (pe_callB call_len_seq (by rfl) T.m_len PySem.boot_len (pa_cons (pe_ix ix_list (pv 0) pe_int (fun _ _ => rfl)) pa_nil)) (nomark _)) (pss_one (ps_set (i := 2) sc_draw.nd rfl (.inl rfl) (pe_ix ix_list (pe_ix ix_list (pv 0) pe_int (fun _ _ => rfl)) (pe_op op_sub (pe_ix ix_list (pv 0) pe_int (fun _ _ => rfl)) pe_int) (fun _ _ => rfl)))) pss_nil)
      (pss_cons (ps_if (PW.pt (pw_or (pt_cmpR op_gt (pe_ix ix_list (pv 0) pe_int (fun _ _ => rfl)) (pe_callB call_len_seq (by rfl) T.m_len PySem.boot_len (pa_cons (pe_ix ix_list (pv 0) pe_int (fun _ _ => rfl)) pa_nil)) (nomark _)) (pw_or1 (pt_cmpR op_lt (pv 2) (pe_op op_pow pe_int pe_int) (nomark _))))) (pss_cons (ps_set (i := 3) sc_draw.nd rfl (.inl rfl) (pe_op op_mod (pe_callTy call_int1 (by rfl) T.m_int PySem.Pv.boot_int (pa_cons (pe_op op_add (pe_op op_add (pe_op op_mul (pv 2) pe_int) (pe_op op_mul (pe_ix ix_list (pv 0) pe_int (fun _ _ => rfl)) pe_int)) (pe_ix ix_list (pv 0) pe_int (fun _ _ => rfl))) pa_nil)) pe_int))
      (pss_cons (ps_set (i := 4) sc_draw.nd rfl (.inl rfl) (pe_op op_mod (pe_callTy call_int1 (by rfl) T.m_int PySem.Pv.boot_int (pa_cons (pe_op op_add (pe_op op_mul (pv 3) (pv 3)) (pe_op op_mul (pe_ix ix_list (pv 0) pe_int (fun _ _ => rfl)) pe_int)) pa_nil)) pe_int))
      (pss_one (ps_ret (pe_op op_mod (pe_op op_fdiv (pe_op op_mod (pe_callTy call_int1 (by rfl) T.m_int PySem.Pv.boot_int (pa_cons (pe_op op_add (pe_op op_mul (pv 4) pe_int) (pv 3)) pa_nil)) pe_int) pe_int) (pv 1)))))) pss_nil)
      (pss_one (ps_asg (pv 2) (pg_sub (pv 0) pe_int set_list))))))) pss_nil)
      (pss_cons (ps_set (i := 5) sc_draw.nd rfl (.inl rfl) (pe_op op_mod (pe_callTy call_int1 (by rfl) T.m_int PySem.Pv.boot_int (pa_cons (pe_ix ix_list (pv 0) pe_int (fun _ _ => rfl)) pa_nil)) (pv 1)))
      (pss_cons (ps_asg (pe_op op_fdivW (pe_callTy call_int1 (by rfl) T.m_int PySem.Pv.boot_int (pa_cons (pe_ix ix_list (pv 0) pe_int (fun _ _ => rfl)) pa_nil)) (pv 1)) (pg_sub (pv 0) pe_int set_list))
      (pss_one (ps_ret (pv 5)))))), ?_⟩
    have i0 : ∀ (x y z u : V), atI [x, y, z, u] 0 = some x := fun _ _ _ _ => rfl
    have i1 : ∀ (x y z u : V), atI [x, y, z, u] 1 = some y := fun _ _ _ _ => rfl
    have i2 : ∀ (x y z u : V), atI [x, y, z, u] 2 = some z := fun _ _ _ _ => rfl
    have i3 : ∀ (x y z u : V), atI [x, y, z, u] 3 = some u := fun _ _ _ _ => rfl
    refine ⟨fun σ H1 => FeedOk H1 a c ∧ But a H H1 ∧ ∃ y2 y3 y4 y5, σ = [some (.ref a), some (.int m), y2, y3, y4, y5], ?_, fun σ H1 hM => ?_⟩
    · refine ⟨.ref a, rfl, a, _, _, _, rfl, rfl, SqL.of ha, i2 _ _ _ _, _, _, rfl, rfl, _, rfl, ite2 (fun e => ?_) (fun e => ?_)⟩
      · -- feed[1] = feed[1] + 1
        refine ⟨fun σ H1 => σ = [some (.ref a), some (.int m), none, none, none, none] ∧ H1 a = some (.lst [.ref c, .int (k + 1), .int big, .int mark]) ∧ H1 c = some (.lst (ns.map V.int)) ∧ But a H H1,
          ⟨.ref a, rfl, a, _, _, _, rfl, rfl, SqL.of ha, i1 _ _ _ _, _, _, rfl, rfl, .ref a, rfl, a, _, _, 1, rfl, rfl, ha, rfl, rfl, upd_same, by rw [upd_ne nca]; exact hc, But.upd⟩, fun σ H1 hM => ?_⟩
        obtain ⟨rfl, ha1, hc1, b1⟩ := hM
        refine ⟨.ref a, rfl, a, _, _, _, rfl, rfl, SqL.of ha1, i3 _ _ _ _, .ref a, rfl, a, _, _, _, rfl, rfl, SqL.of ha1, i1 _ _ _ _, _, _, rfl, rfl, .inr (by decide), _, _, rfl, rfl, ?_⟩
        refine ⟨fun σ H2 => H2 = H1 ∧ ∃ z : Int, σ = [some (.ref a), some (.int m), some (.int z), none, none, none], ?_, fun σ H2 hM => ?_⟩
        · refine ⟨.ref a, rfl, a, _, _, _, rfl, rfl, SqL.of ha1, i1 _ _ _ _, .ref a, rfl, a, _, _, _, rfl, rfl, SqL.of ha1, i0 _ _ _ _, c, _, rfl, .inl (SqL.of hc1), _, _, rfl, rfl, _, rfl, ite2 (fun e1 => ?_) (fun e1 => ?_)⟩
          · have h1 : k + 1 ≤ ((ns.map V.int).length : Int) := of_decide_eq_true e1
            rw [List.length_map] at h1
            have h2 : k.toNat < ns.length := by omega
            have g : (ns.map V.int)[k.toNat]? = some (.int ns[k.toNat]) := by rw [List.getElem?_map, List.getElem?_eq_getElem h2]; rfl
            exact ⟨.ref a, rfl, a, _, _, _, rfl, rfl, SqL.of ha1, i0 _ _ _ _, .ref a, rfl, a, _, _, _, rfl, rfl, SqL.of ha1, i1 _ _ _ _, _, _, rfl, rfl, c, _, _, _, rfl, rfl, SqL.of hc1, at_of (j := k.toNat) (by omega) g, rfl, _, rfl⟩
          · exact ⟨rfl, _, rfl⟩
        · obtain ⟨rfl, z, rfl⟩ := hM
          have tail : FeedOk (upd H2 a (.lst ([V.ref c, .int (k + 1), .int big, .int mark].set 2 (.int z)))) a c ∧ But a H (upd H2 a (.lst ([V.ref c, .int (k + 1), .int big, .int mark].set 2 (.int z)))) ∧ ∃ y2 y3 y4 y5, [some (V.ref a), some (.int m), some (.int z), none, none, none] = [some (V.ref a), some (.int m), y2, y3, y4, y5] :=
            ⟨⟨ns, k + 1, z, mark, upd_same, by rw [upd_ne nca]; exact hc1, nca, hlen, by omega⟩, b1.trans But.upd, _, _, _, _, rfl⟩
          have pos : ∀ x y : Int, 0 ≤ x % 2147483647 ∧ x % 2147483647 < 2147483647 := fun x _ => ⟨Int.emod_nonneg _ (by decide), Int.emod_lt_of_pos _ (by decide)⟩
          have done : ∀ x : Int, Q (.int (x % m)) H2 := fun x => q _ _ (Int.emod_nonneg _ (by omega)) (Int.emod_lt_of_pos _ hm) ⟨ns, k + 1, big, mark, ha1, hc1, nca, hlen, by omega⟩ b1
          refine ⟨.ref a, rfl, a, _, _, _, rfl, rfl, SqL.of ha1, i1 _ _ _ _, .ref a, rfl, a, _, _, _, rfl, rfl, SqL.of ha1, i0 _ _ _ _, c, _, rfl, .inl (SqL.of hc1), _, _, rfl, rfl, _, rfl, ite2 (fun e1 => ?_) (fun e1 => ?_)⟩
          · exact ⟨_, rfl, _, _, rfl, rfl, .inr (by decide), _, rfl, a, _, _, _, rfl, rfl, SqL.of ha1, i1 _ _ _ _, _, _, rfl, rfl, .inr (by decide), _, _, rfl, rfl, _, rfl, a, _, _, _, rfl, rfl, SqL.of ha1, i3 _ _ _ _, _, _, rfl, rfl, .inl ⟨_, rfl, _, _, rfl, rfl, (by show (0 : Int) < _; decide), _, rfl, _, rfl, _, _, rfl, rfl, .inl (by have p := pos (z * 48271 + (k + 1) * 69621 + mark) 0; exact ⟨by omega, by omega⟩), _, rfl, a, _, _, _, rfl, rfl, SqL.of ha1, i1 _ _ _ _, _, _, rfl, rfl, .inr (by decide), _, _, rfl, rfl, .inl ⟨_, rfl, _, _, rfl, rfl, (by show (0 : Int) < _; decide), _, rfl, _, _, rfl, rfl, .inr (by decide), _, rfl, _, _, rfl, rfl, .inl ⟨_, rfl, _, _, rfl, rfl, (by show (0 : Int) < _; decide), _, _, rfl, rfl, ⟨by decide, by decide⟩, _, rfl, _, _, rfl, rfl, hm, done _⟩⟩⟩⟩
          · refine ⟨_, rfl, _, _, rfl, rfl, ⟨by decide, by decide, by decide⟩, _, _, rfl, rfl, _, rfl, ite2 (fun e2 => ?_) (fun e2 => ?_)⟩
            · exact ⟨_, rfl, _, _, rfl, rfl, .inr (by decide), _, rfl, a, _, _, _, rfl, rfl, SqL.of ha1, i1 _ _ _ _, _, _, rfl, rfl, .inr (by decide), _, _, rfl, rfl, _, rfl, a, _, _, _, rfl, rfl, SqL.of ha1, i3 _ _ _ _, _, _, rfl, rfl, .inl ⟨_, rfl, _, _, rfl, rfl, (by show (0 : Int) < _; decide), _, rfl, _, rfl, _, _, rfl, rfl, .inl (by have p := pos (z * 48271 + (k + 1) * 69621 + mark) 0; exact ⟨by omega, by omega⟩), _, rfl, a, _, _, _, rfl, rfl, SqL.of ha1, i1 _ _ _ _, _, _, rfl, rfl, .inr (by decide), _, _, rfl, rfl, .inl ⟨_, rfl, _, _, rfl, rfl, (by show (0 : Int) < _; decide), _, rfl, _, _, rfl, rfl, .inr (by decide), _, rfl, _, _, rfl, rfl, .inl ⟨_, rfl, _, _, rfl, rfl, (by show (0 : Int) < _; decide), _, _, rfl, rfl, ⟨by decide, by decide⟩, _, rfl, _, _, rfl, rfl, hm, done _⟩⟩⟩⟩
            · exact ⟨_, rfl, .ref a, rfl, a, _, _, 2, rfl, rfl, ha1, rfl, tail⟩
      · exact ⟨⟨ns, k, big, mark, ha, hc, nca, hlen, hk⟩, But.refl _ _, none, none, none, none, rfl⟩
    · obtain ⟨⟨ns1, k1, big1, mark1, ha1, hc1, nca1, hlen1, hk1⟩, b1, y2, y3, y4, y5, rfl⟩ := hM
      refine ⟨.ref a, rfl, a, _, _, _, rfl, rfl, SqL.of ha1, i2 _ _ _ _, .inl ⟨_, rfl, _, rfl, _, _, rfl, rfl, hm, ?_⟩⟩
      refine ⟨.ref a, rfl, a, _, _, _, rfl, rfl, SqL.of ha1, i2 _ _ _ _, .inl ⟨_, rfl, _, rfl, _, _, rfl, rfl, ⟨hm, hm9⟩, ?_⟩⟩
      refine ⟨.ref a, rfl, a, _, _, 2, rfl, rfl, ha1, rfl, ?_⟩
      refine ⟨_, rfl, q _ _ (Int.emod_nonneg _ (by omega)) (Int.emod_lt_of_pos _ hm) ⟨ns1, k1, big1 / m, mark1, upd_same, ?_, nca1, hlen1, hk1⟩ (b1.trans But.upd)⟩
      rw [upd_ne nca1]
      exact hc1
theorem cut63 (xs : List V) (h : xs.length ≤ 63) : cutV xs none (some 63) = xs := by
  unfold cutV
  rw [show HT.sIx xs.length xs.length (some 63) = min 63 xs.length from HT.sIx_nat xs.length xs.length 63, HT.sIx_none]
  rw [Nat.min_eq_right h]
  exact List.take_length
def spFeed (K : PySem.W.Frag) : Sp := fun vs H Q _ => ∃ (a : Addr) (ns : List Int), vs = [.ref a] ∧ SqL K H a (ns.map V.int) ∧ ns.length ≤ 63 ∧ ∀ p c H', H p = none → H c = none → Same H H' → FeedOk H' p c → Q (.ref p) H'
theorem ok_feed (T : Txt K mg fa fd) : FnOk P w K mg base CX0 1 (fa 25) (fd 25) ["_law_script"] (spFeed K) := by
  refine T.F_feed.ok sc_feed (fun vs H Q E h => ?_) (fun cdv A outer s H vs Q E hr h => ?_)
  · obtain ⟨a, ns, rfl, _⟩ := h
    rfl
  · obtain ⟨a, ns, rfl, hS, hlen, q⟩ := h
    refine ⟨_, (C8.pss_cut (ps_setLc (i := 2) (own := [("_law_cell", 1)]) (g := gName 1) (tt := tYes) rfl sc_feed.nd rfl rfl (sw_true rfl rfl rfl (by decide +kernel)) (pi_list (pe_slice sl_list (pv 0) po_none (po_some pe_int))) (blkOk_by (own := [("_law_cell", 1)]) (N := ["_law_script", "_law_cell", "_law_cells", "_law_mark"]) (sc := defScope s_feed) (by decide +kernel)) (fun _ _ _ _ _ => pg_name (i := 1) sc_feed.nd rfl (Or.inl rfl)) (fun _ _ _ _ _ => pts_nil) (fun _ _ _ _ _ => (pe_callTy call_int1 (by rfl) T.m_int PySem.Pv.boot_int (pa_cons (pv 1) pa_nil))))
      (pss_cons (ps_set (i := 3) sc_feed.nd rfl (.inl rfl) (pe_op op_add pe_int (pe_op op_mul pe_int (pe_callB call_len_seq (by rfl) T.m_len PySem.boot_len (pa_cons (pv 2) pa_nil)))))
      (pss_cons (ps_for PassesOwn.never rfl (pi_list (pv 2)) (pg_name (i := 1) sc_feed.nd rfl (.inl rfl)) (pss_one (ps_set (i := 3) sc_feed.nd rfl (.inl rfl) (pe_op op_mod (pe_callTy call_int1 (by rfl) T.m_int PySem.Pv.boot_int (pa_cons (pe_op op_add (pe_op op_mul (pv 3) pe_int) (pv 1)) pa_nil)) pe_int))))
      (pss_one (ps_ret (pe_lst (pa_cons (pv 2) (pa_cons pe_int (pa_cons pe_int (pa_cons (pv 3) pa_nil)))))))))), ?_⟩
    refine ⟨fun σ H1 => ∃ c, σ = [some (.ref a), none, some (.ref c), none] ∧ H c = none ∧ Same H H1 ∧ H1 c = some (.lst (ns.map V.int)), ?_, fun σ H1 hM => ?_⟩
    · refine ⟨.ref a, rfl, 63, rfl, a, _, rfl, hS, fun p np => ?_⟩
      rw [cut63 _ (by rw [List.length_map]; exact hlen)]
      have s1 : Same H (upd H p (.lst (ns.map V.int))) := same_upd np
      refine ⟨p, rfl, ⟨_, SqL.of upd_same⟩, fun D nD => ?_⟩
      have nD0 : H D = none := s1.free nD
      have npD : p ≠ D := ne_of_none upd_same nD
      refine lc_list (K := K) (a := p) (xs := ns.map V.int) (fun i H2 => Same (upd H p (.lst (ns.map V.int))) H2 ∧ H2 D = some (.lst ((ns.take i).map V.int))) ⟨same_upd nD, upd_same⟩ (fun i H2 _ hp => SqL.of (hp.1 _ _ upd_same)) (fun i x H2 hx hp => ?_) (fun H2 hp => ?_)
      · rw [List.getElem?_map] at hx
        obtain ⟨z, hz, rfl⟩ := Option.map_eq_some_iff.mp hx
        refine ⟨rfl, _, rfl, .inl ⟨_, rfl, _, hp.2, ?_, ?_, ?_⟩⟩
        · rw [List.length_map, List.length_take]
          exact Nat.lt_of_le_of_lt (Nat.min_le_left _ _) (small1000 (by
            have := (List.getElem?_eq_some_iff.mp hz).1
            omega))
        · exact fun b o e => by
            rw [upd_ne (ne_of_none e nD)]
            exact hp.1 b o e
        · rw [upd_same, List.take_add_one, hz, List.map_append]
          rfl
      · rw [List.length_map] at hp
        refine ⟨D, rfl, nD0, s1.trans hp.1, ?_⟩
        rw [hp.2, List.take_length]
    · obtain ⟨c, rfl, nc, s1, hc⟩ := hM
      refine ⟨_, rfl, c, _, rfl, .inl (SqL.of hc), _, _, rfl, rfl, .inl (by decide), _, _, rfl, rfl, ?_⟩
      refine ⟨_, rfl, c, rfl, ⟨_, SqL.of hc⟩, for_list (K := K) (a := c) (xs := ns.map V.int) (fun i σ H2 => H2 = H1 ∧ ∃ (y1 : Option V) (m : Int), σ = [some (.ref a), y1, some (.ref c), some (.int m)] ∧ 0 ≤ m ∧ m < 1000000000000) ?_ (fun i σ H2 _ hp => by rw [hp.1]; exact SqL.of hc) (fun i x σ H2 hx hp => ?_) (fun σ H2 hp => ?_)⟩
      · refine ⟨rfl, _, _, rfl, ?_⟩
        rw [List.length_map]
        omega
      · obtain ⟨rfl, y1, m, rfl, h0, h1⟩ := hp
        rw [List.getElem?_map] at hx
        obtain ⟨z, hz, rfl⟩ := Option.map_eq_some_iff.mp hx
        exact ⟨_, rfl, _, _, rfl, rfl, .inr (by decide), _, rfl, _, _, rfl, rfl, .inl ⟨_, rfl, _, _, rfl, rfl, (by show (0 : Int) < _; decide), rfl, _, _, rfl, Int.emod_nonneg _ (by decide), Int.lt_trans (Int.emod_lt_of_pos _ (by decide)) (by decide)⟩⟩
      · obtain ⟨rfl, y1, m, rfl, h0, h1⟩ := hp
        refine ⟨_, rfl, _, rfl, Nat.le_trans (by decide : 4 ≤ 1000) (Nat.le_of_lt (small1000 (Nat.le_refl _))), fun p np => ?_⟩
        refine q p c _ (s1.free np) nc (s1.trans (same_upd np)) ⟨ns, 0, 0, m, upd_same, ?_, ne_of_none hc np, hlen, Int.le_refl _⟩
        rw [upd_ne (ne_of_none hc np)]
        exact hc
/-! ### the row's own draw -/
def spAny : Sp := fun vs H Q _ => ∃ (a c r : Addr) (xs : List V), vs = [.ref a, .ref r] ∧ FeedOk H a c ∧ H r = some (.lst xs) ∧ r ≠ a ∧ 0 < xs.length ∧ xs.length ≤ 1000 ∧ ∀ v H', v ∈ xs → FeedOk H' a c → But a H H' → Q v H'
theorem mid_small {n : Nat} (h0 : 0 < n) (h : n ≤ 1000) : Mid (n : Int) := ⟨by omega, by
  rw [Int.natAbs_natCast]
  exact Nat.lt_of_le_of_lt (Nat.log2_le_self n) (by omega)⟩
theorem ok_any (T : Txt K mg fa fd) : FnOk P w K mg base CX0 2 (fa 27) (fd 27) ["_law_feed_here", "_law_row"] spAny := by
  refine T.F_any.ok sc_any (fun vs H Q E h => ?_) (fun cdv A outer s H vs Q E hr h => ?_)
  · obtain ⟨a, c, m, xs, rfl, _⟩ := h
    rfl
  · obtain ⟨a, c, r, xs, rfl, hF, hx, nra, h0, h1, q⟩ := h
    refine ⟨_, (pss_one (ps_ret (pe_ix ix_list (pv 1) (pe_call (ok_draw T) (hr.mono (by decide)) (by rfl) T.g_draw T.F_draw.kp T.b_draw .nil pass0 (pa_cons (pv 0) (pa_cons (pe_callB call_len_seq (by rfl) T.m_len PySem.boot_len (pa_cons (pv 1) pa_nil)) pa_nil))) (fun _ _ => rfl)))), ?_⟩
    refine ⟨_, rfl, _, rfl, _, rfl, r, _, rfl, .inl (SqL.of hx), a, c, _, rfl, hF, mid_small h0 h1, fun z H' z0 z1 hF' b => ?_⟩
    have hz : z.toNat < xs.length := by omega
    exact ⟨r, xs, z, xs[z.toNat], rfl, rfl, SqL.of (b _ _ nra hx), at_of (j := z.toNat) (by omega) (List.getElem?_eq_getElem hz), q _ _ (List.getElem_mem hz) hF' b⟩
theorem log2_mono {a b k : Nat} (h : a ≤ b) (hb : b.log2 < k) : a.log2 < k := by
  by_cases h0 : a = 0
  · subst h0
    rw [Nat.log2_zero]
    omega
  · have hb0 : b ≠ 0 := by omega
    exact (Nat.log2_lt h0).mpr (Nat.lt_of_le_of_lt h ((Nat.log2_lt hb0).mp hb))
theorem two_line : 2 ≤ sizeLine := Nat.le_trans (by decide : 2 ≤ 1000) (Nat.le_of_lt (small1000 (Nat.le_refl _)))
/-! ### sameness of data -/
def Leaf (v w : V) : Prop := v = w ∧ (v = .non ∨ (∃ b, v = .bl b) ∨ (∃ i, v = .int i) ∨ ∃ x, v = .str x)
def Eqd (H : Hp) : Nat → V → V → Prop
  | 0, v, w => Leaf v w
  | n + 1, v, w => Leaf v w ∨ ∃ (a b : Addr) (xs ys : List V), v = .ref a ∧ w = .ref b ∧ ((H a = some (.lst xs) ∧ H b = some (.lst ys)) ∨ (H a = some (.tup xs) ∧ H b = some (.tup ys))) ∧ xs.length = ys.length ∧ xs.length ≤ 1000 ∧
      ∀ (i : Nat) (x y : V), xs[i]? = some x → ys[i]? = some y → Eqd H n x y
theorem Eqd.leaf {H : Hp} {n : Nat} {v w : V} (h : Leaf v w) : Eqd H n v w := by
  cases n with
  | zero => exact h
  | succ n => exact .inl h
theorem Eqd.mono {H H' : Hp} (s : Same H H') : ∀ (n : Nat) {v w : V}, Eqd H n v w → Eqd H' n v w
  | 0, _, _, h => h
  | n + 1, _, _, h => by
    rcases h with h | ⟨a, b, xs, ys, e1, e2, h, l1, l2, r⟩
    · exact .inl h
    · refine .inr ⟨a, b, xs, ys, e1, e2, ?_, l1, l2, fun i x y h1 h2 => Eqd.mono s n (r i x y h1 h2)⟩
      rcases h with ⟨h1, h2⟩ | ⟨h1, h2⟩
      · exact .inl ⟨s _ _ h1, s _ _ h2⟩
      · exact .inr ⟨s _ _ h1, s _ _ h2⟩
def spSame (n : Nat) : Sp := fun vs H Q _ => ∃ v w : V, vs = [v, w] ∧ Eqd H n v w ∧ ∀ H', Same H H' → Q (.bl true) H'
def spS : Nat → Sp
  | 0 => fun _ _ _ _ => False
  | n + 1 => spSame n
theorem none_of_false {K : PySem.W.Frag} {f : Addr} {fd : FuncData} {st : Stmt} {x : Str} {N ps : List Str} (F : Fun K x x st f fd) (S : FnScope N ps (defScope st)) : FnOk P w K mg base CX0 1 f fd ps (fun _ _ _ _ => False) :=
  F.ok S (fun _ _ _ _ h => h.elim) fun _ _ _ _ _ _ _ _ _ h => h.elim
theorem kit2 {K : PySem.W.Frag} {a b c : String} {r1 r2 : Bool} (h1 : kitB a b = some r1) (h2 : kitB a c = some r2) : PySem.W.kitAny K (.type a) [.type b, .type c] = some (r1 || r2) := by
  cases r1 with
  | true => exact kitAny_cons (kit_ty h1) (fun h => nomatch h) fun _ => rfl
  | false =>
    refine kitAny_cons (kit_ty h1) (fun _ => ?_) fun h => nomatch h
    cases r2 with
    | true => exact kitAny_cons (kit_ty h2) (fun h => nomatch h) fun _ => rfl
    | false => exact kitAny_cons (kit_ty h2) (fun _ => kitAny_nil) fun h => nomatch h
theorem same_step (T : Txt K mg fa fd) (n : Nat) (G : FnOk P w K mg base CX0 (n + 1) (fa 28) (fd 28) ["_law_found", "_law_due"] (spS n)) : FnOk P w K mg base CX0 (n + 2) (fa 28) (fd 28) ["_law_found", "_law_due"] (spSame n) := by
  refine T.F_same.ok sc_same (fun vs H Q E h => ?_) (fun cdv A outer s H vs Q E hr h => ?_)
  · obtain ⟨x, y, rfl, _⟩ := h
    rfl
  · obtain ⟨x, y, rfl, hE, q⟩ := h
    refine ⟨_, (pss_cons (ps_if (pt_cmpR op_isN (pv 1) pe_non (nomark _)) (pss_one (ps_ret (pe_cmpR op_isN (pv 0) pe_non (nomark _)))) pss_nil)
      (pss_cons (ps_if (PW.pt (pw_or (pt_val (pe_callB call_isi (by rfl) T.m_isinstance PyProof.Rows.boot_isinstance (pa_cons (pv 1) (pa_cons (pe_bltn (v := .ty "bool") (by rfl) T.m_bool (by decide +kernel) rfl) pa_nil)))) (pw_or1 (pt_val (pe_callB call_isi (by rfl) T.m_isinstance PyProof.Rows.boot_isinstance (pa_cons (pv 0) (pa_cons (pe_bltn (v := .ty "bool") (by rfl) T.m_bool (by decide +kernel) rfl) pa_nil))))))) (pss_one (ps_ret (pe_and (pe_callB call_isi (by rfl) T.m_isinstance PyProof.Rows.boot_isinstance (pa_cons (pv 1) (pa_cons (pe_bltn (v := .ty "bool") (by rfl) T.m_bool (by decide +kernel) rfl) pa_nil))) (pe_and (pe_callB call_isi (by rfl) T.m_isinstance PyProof.Rows.boot_isinstance (pa_cons (pv 0) (pa_cons (pe_bltn (v := .ty "bool") (by rfl) T.m_bool (by decide +kernel) rfl) pa_nil))) (pe_one (pe_cmpR op_eq (pv 0) (pv 1) (nomark _))))))) pss_nil)
      (pss_cons (ps_if (pt_val (pe_callB call_isiT (by rfl) T.m_isinstance PyProof.Rows.boot_isinstance (pa_cons (pv 1) (pa_cons (pe_tup (pa_cons (pe_bltn (v := .ty "int") (by rfl) T.m_int (by decide +kernel) rfl) (pa_cons (pe_bltn (v := .ty "str") (by rfl) T.m_str (by decide +kernel) rfl) pa_nil))) pa_nil)))) (pss_one (ps_ret (pe_and (pe_callB call_isiT (by rfl) T.m_isinstance PyProof.Rows.boot_isinstance (pa_cons (pv 0) (pa_cons (pe_tup (pa_cons (pe_bltn (v := .ty "int") (by rfl) T.m_int (by decide +kernel) rfl) (pa_cons (pe_bltn (v := .ty "str") (by rfl) T.m_str (by decide +kernel) rfl) pa_nil))) pa_nil))) (pe_and (pe_cmpR op_eq (pe_callB call_isi (by rfl) T.m_isinstance PyProof.Rows.boot_isinstance (pa_cons (pv 0) (pa_cons (pe_bltn (v := .ty "int") (by rfl) T.m_int (by decide +kernel) rfl) pa_nil))) (pe_callB call_isi (by rfl) T.m_isinstance PyProof.Rows.boot_isinstance (pa_cons (pv 1) (pa_cons (pe_bltn (v := .ty "int") (by rfl) T.m_int (by decide +kernel) rfl) pa_nil))) (nomark _)) (pe_one (pe_cmpR op_eq (pv 0) (pv 1) (nomark _))))))) pss_nil)
      (pss_cons (ps_if (pt_val (pe_callB call_isi (by rfl) T.m_isinstance PyProof.Rows.boot_isinstance (pa_cons (pv 1) (pa_cons (pe_bltn (v := .ty "dict") (by rfl) T.m_dict (by decide +kernel) rfl) pa_nil)))) (pss_cons ps_never
      (pss_one ps_never)) pss_nil)
      (pss_cons (ps_if (PW.pt (pw_or (pt_cmpR op_ne (pe_callB call_isi (by rfl) T.m_isinstance PyProof.Rows.boot_isinstance (pa_cons (pv 1) (pa_cons (pe_bltn (v := .ty "list") (by rfl) T.m_list (by decide +kernel) rfl) pa_nil))) (pe_callB call_isi (by rfl) T.m_isinstance PyProof.Rows.boot_isinstance (pa_cons (pv 0) (pa_cons (pe_bltn (v := .ty "list") (by rfl) T.m_list (by decide +kernel) rfl) pa_nil))) (nomark _)) (pw_or1 (pt_cmpR op_ne (pe_callB call_isi (by rfl) T.m_isinstance PyProof.Rows.boot_isinstance (pa_cons (pv 1) (pa_cons (pe_bltn (v := .ty "tuple") (by rfl) T.m_tuple (by decide +kernel) rfl) pa_nil))) (pe_callB call_isi (by rfl) T.m_isinstance PyProof.Rows.boot_isinstance (pa_cons (pv 0) (pa_cons (pe_bltn (v := .ty "tuple") (by rfl) T.m_tuple (by decide +kernel) rfl) pa_nil))) (nomark _))))) (pss_one (ps_ret pe_bl)) pss_nil)
      (pss_one (ps_ret (pe_and (pe_cmpR op_eq (pe_callB call_len_seq (by rfl) T.m_len PySem.boot_len (pa_cons (pv 0) pa_nil)) (pe_callB call_len_seq (by rfl) T.m_len PySem.boot_len (pa_cons (pv 1) pa_nil)) (nomark _)) (pe_one (pe_callB (cr_all rfl) (by rfl) T.m_all PyProof.Rows.boot_all (pa_cons (pe_lc (own := [("_law_one", 3), ("_law_two", 4)]) (g := gTup K 2 (gCons (gName 3) (gCons (gName 4) gNil))) (tt := tYes) rfl sc_same.nd (RZ.pi_zipA (by rfl) T.m_zip (pa_cons (pv 0) (pa_cons (pv 1) pa_nil))) (blkOk_by (own := [("_law_one", 3), ("_law_two", 4)]) (N := ["_law_found", "_law_due", "_law_key", "_law_one", "_law_two"]) (sc := defScope s_same) (by decide +kernel)) (fun _ _ _ _ _ => pg_tup rfl (pgs_cons (pg_name (i := 3) sc_same.nd rfl (Or.inl rfl)) (pgs_cons (pg_name (i := 4) sc_same.nd rfl (Or.inl rfl)) pgs_nil))) (fun _ _ _ _ _ => pts_nil) (fun _ _ _ _ _ => (pe_call G (hr.mono (by omega)) (by rfl) T.g_same T.F_same.kp T.b_same .nil pass0 (pa_cons (pv 3) (pa_cons (pv 4) pa_nil))))) pa_nil))))))))))), ?_⟩
    have leafy : Leaf x y ∨ ∃ (n' : Nat) (a b : Addr) (xs ys : List V), n = n' + 1 ∧ x = .ref a ∧ y = .ref b ∧ ((H a = some (.lst xs) ∧ H b = some (.lst ys)) ∨ (H a = some (.tup xs) ∧ H b = some (.tup ys))) ∧ xs.length = ys.length ∧ xs.length ≤ 1000 ∧
        ∀ (i : Nat) (x y : V), xs[i]? = some x → ys[i]? = some y → Eqd H n' x y := by
      cases n with
      | zero => exact .inl hE
      | succ n' =>
        rcases hE with h | ⟨a, b, xs, ys, h⟩
        · exact .inl h
        · exact .inr ⟨n', a, b, xs, ys, rfl, h⟩
    rcases leafy with ⟨rfl, hl⟩ | ⟨n', a, b, xs, ys, rfl, rfl, rfl, hab, hlen, h1000, hsub⟩
    · refine ⟨_, rfl, rfl, _, rfl, ite2 (fun e => ?_) (fun e => ?_)⟩
      · have ex := of_decide_eq_true e
        subst ex
        exact ⟨_, rfl, rfl, q _ (Same.refl _)⟩
      · rcases hl with rfl | ⟨bb, rfl⟩ | ⟨i, rfl⟩ | ⟨z, rfl⟩
        · exact absurd (decide_eq_true rfl) e
        · refine ⟨_, rfl, _, _, _, _, _, rfl, .ty _, .base (.bl _), kit_ty (r := true) (by decide +kernel), _, rfl, iteT (iteT ?_)⟩
          refine ⟨_, rfl, _, _, _, _, _, rfl, .ty _, .base (.bl _), kit_ty (r := true) (by decide +kernel), _, rfl, iteT ?_⟩
          refine ⟨_, rfl, _, _, _, _, _, rfl, .ty _, .base (.bl _), kit_ty (r := true) (by decide +kernel), _, rfl, iteT ?_⟩
          refine ⟨_, rfl, _, rfl, rfl, ?_⟩
          rw [decide_eq_true rfl]
          exact q _ (Same.refl _)
        · refine ⟨_, rfl, _, _, _, _, _, rfl, .ty _, .base (.int _), kit_ty (r := false) (by decide +kernel), _, rfl, iteF ?_⟩
          refine ⟨_, rfl, _, _, _, _, _, rfl, .ty _, .base (.int _), kit_ty (r := false) (by decide +kernel), _, rfl, iteF ?_⟩
          refine ⟨_, rfl, two_line, fun p np => ?_⟩
          refine ⟨_, p, _, _, _, _, rfl, upd_same, .cons (.ty _) (.cons (.ty _) .nil), .base (.int _), kit2 (r1 := true) (r2 := false) (by decide +kernel) (by decide +kernel), _, rfl, iteT ?_⟩
          refine ⟨_, rfl, two_line, fun p2 np2 => ?_⟩
          refine ⟨_, p2, _, _, _, _, rfl, upd_same, .cons (.ty _) (.cons (.ty _) .nil), .base (.int _), kit2 (r1 := true) (r2 := false) (by decide +kernel) (by decide +kernel), _, rfl, iteT ?_⟩
          refine ⟨_, rfl, _, _, _, _, _, rfl, .ty _, .base (.int _), kit_ty (r := true) (by decide +kernel), ?_⟩
          refine ⟨_, rfl, _, _, _, _, _, rfl, .ty _, .base (.int _), kit_ty (r := true) (by decide +kernel), rfl, _, rfl, iteT ?_⟩
          refine ⟨_, rfl, _, rfl, rfl, ?_⟩
          rw [decide_eq_true rfl]
          exact q _ ((same_upd np).trans (same_upd np2))
        · refine ⟨_, rfl, _, _, _, _, _, rfl, .ty _, .base (.str _), kit_ty (r := false) (by decide +kernel), _, rfl, iteF ?_⟩
          refine ⟨_, rfl, _, _, _, _, _, rfl, .ty _, .base (.str _), kit_ty (r := false) (by decide +kernel), _, rfl, iteF ?_⟩
          refine ⟨_, rfl, two_line, fun p np => ?_⟩
          refine ⟨_, p, _, _, _, _, rfl, upd_same, .cons (.ty _) (.cons (.ty _) .nil), .base (.str _), kit2 (r1 := false) (r2 := true) (by decide +kernel) (by decide +kernel), _, rfl, iteT ?_⟩
          refine ⟨_, rfl, two_line, fun p2 np2 => ?_⟩
          refine ⟨_, p2, _, _, _, _, rfl, upd_same, .cons (.ty _) (.cons (.ty _) .nil), .base (.str _), kit2 (r1 := false) (r2 := true) (by decide +kernel) (by decide +kernel), _, rfl, iteT ?_⟩
          refine ⟨_, rfl, _, _, _, _, _, rfl, .ty _, .base (.str _), kit_ty (r := false) (by decide +kernel), ?_⟩
          refine ⟨_, rfl, _, _, _, _, _, rfl, .ty _, .base (.str _), kit_ty (r := false) (by decide +kernel), rfl, _, rfl, iteT ?_⟩
          refine ⟨_, rfl, _, rfl, rfl, ?_⟩
          rw [decide_eq_true rfl]
          exact q _ ((same_upd np).trans (same_upd np2))
    · refine ⟨_, rfl, rfl, _, rfl, ite2 (fun e => absurd (of_decide_eq_true e) (by intro z; cases z)) (fun e => ?_)⟩
      rcases hab with ⟨ha, hb⟩ | ⟨ha, hb⟩
      · refine ⟨_, rfl, _, _, _, _, _, rfl, .ty _, .base (.lst hb), kit_ty (r := false) (by decide +kernel), _, rfl, iteF ⟨_, rfl, _, _, _, _, _, rfl, .ty _, .base (.lst ha), kit_ty (r := false) (by decide +kernel), _, rfl, iteF ⟨_, rfl, two_line, fun p np => ?_⟩⟩⟩
        have s1 := same_upd (o := .tup [V.ty "int", V.ty "str"]) np
        refine ⟨_, p, _, _, _, _, rfl, upd_same, .cons (.ty _) (.cons (.ty _) .nil), .base (.lst (s1 _ _ hb)), kit2 (r1 := false) (r2 := false) (by decide +kernel) (by decide +kernel), _, rfl, iteF ?_⟩
        generalize upd H p (.tup [V.ty "int", V.ty "str"]) = H2 at s1
        have ha2 := s1 _ _ ha
        have hb2 := s1 _ _ hb
        refine ⟨_, rfl, _, _, _, _, _, rfl, .ty _, .base (.lst hb2), kit_ty (r := false) (by decide +kernel), _, rfl, iteF ?_⟩
        refine ⟨_, rfl, _, _, _, _, _, rfl, .ty _, .base (.lst hb2), kit_ty (r := true) (by decide +kernel), _, rfl, _, _, _, _, _, rfl, .ty _, .base (.lst ha2), kit_ty (r := true) (by decide +kernel), rfl, _, rfl, iteF ?_⟩
        refine ⟨_, rfl, _, _, _, _, _, rfl, .ty _, .base (.lst hb2), kit_ty (r := false) (by decide +kernel), _, rfl, _, _, _, _, _, rfl, .ty _, .base (.lst ha2), kit_ty (r := false) (by decide +kernel), rfl, _, rfl, iteF ?_⟩
        refine ⟨_, rfl, a, _, rfl, .inl (SqL.of ha2), _, rfl, b, _, rfl, .inl (SqL.of hb2), rfl, _, rfl, ?_⟩
        rw [hlen, decide_eq_true rfl]
        refine iteT ⟨_, rfl, _, rfl, a, b, xs, ys, rfl, .inl ⟨SqL.of ha2, SqL.of hb2, fun D nD => ?_⟩⟩
        refine ⟨fun i m H' => i + m = xs.length ∧ Same H2 H' ∧ H' D = some (.lst ((List.replicate i true).map V.bl)), ⟨xs.length, by omega, same_upd nD, upd_same⟩, fun i m H' hW => ?_⟩
        obtain ⟨hm, s2, hD⟩ := hW
        by_cases hi : i < xs.length
        · have hx : xs[i]? = some xs[i] := List.getElem?_eq_getElem hi
          have hy : ys[i]? = some ys[i] := List.getElem?_eq_getElem (by omega)
          refine .inr ⟨⟨_, _, _, _, SqL.of (s2 _ _ ha2), SqL.of (s2 _ _ hb2), hx, hy⟩, fun H'' => Same H2 H'' ∧ H'' D = some (.lst ((List.replicate (i + 1) true).map V.bl)), fun H'' h => ⟨m - 1, by omega, by omega, h⟩, fun v H'' hv => ?_⟩
          obtain ⟨T', x1, y1, rfl, nT, rfl, f1, f2⟩ := hv
          have ex : x1 = xs[i] := Option.some.inj ((f1 _ (SqL.of (s2 _ _ ha2))).symm.trans hx)
          have ey : y1 = ys[i] := Option.some.inj ((f2 _ (SqL.of (s2 _ _ hb2))).symm.trans hy)
          have s3 : Same H' (upd H' T' (.tup [x1, y1])) := same_upd nT
          refine ⟨T', [x1, y1], rfl, .inl (.inl upd_same), rfl, x1, [y1], rfl, y1, [], rfl, rfl, rfl, ?_⟩
          refine ⟨_, rfl, _, rfl, x1, y1, rfl, ?_, fun H4 s4 => ⟨_, s4 _ _ (s3 _ _ hD), ?_, ?_, ?_⟩⟩
          · subst ex ey
            exact Eqd.mono (s1.trans (s2.trans s3)) n' (hsub i _ _ hx hy)
          · rw [List.length_map, List.length_replicate]
            exact small1000 (by omega)
          · intro c o e
            rw [upd_ne (ne_of_none e nD)]
            exact s4 _ _ (s3 _ _ (s2 _ _ e))
          · rw [upd_same, List.replicate_succ', List.map_append]
            rfl
        · have ei : i = xs.length := by omega
          subst ei
          refine .inl ⟨⟨xs, ys, SqL.of (s2 _ _ ha2), SqL.of (s2 _ _ hb2), .inl (Nat.le_refl _)⟩, ?_⟩
          refine ⟨D, _, rfl, .inl (.inl hD), ?_⟩
          have all : ∀ k : Nat, (List.replicate k true).all id = true := fun k => by
            rw [List.all_replicate]
            split <;> rfl
          rw [all]
          exact q _ (s1.trans s2)
      · refine ⟨_, rfl, _, _, _, _, _, rfl, .ty _, .base (.tup hb), kit_ty (r := false) (by decide +kernel), _, rfl, iteF ⟨_, rfl, _, _, _, _, _, rfl, .ty _, .base (.tup ha), kit_ty (r := false) (by decide +kernel), _, rfl, iteF ⟨_, rfl, two_line, fun p np => ?_⟩⟩⟩
        have s1 := same_upd (o := .tup [V.ty "int", V.ty "str"]) np
        refine ⟨_, p, _, _, _, _, rfl, upd_same, .cons (.ty _) (.cons (.ty _) .nil), .base (.tup (s1 _ _ hb)), kit2 (r1 := false) (r2 := false) (by decide +kernel) (by decide +kernel), _, rfl, iteF ?_⟩
        generalize upd H p (.tup [V.ty "int", V.ty "str"]) = H2 at s1
        have ha2 := s1 _ _ ha
        have hb2 := s1 _ _ hb
        refine ⟨_, rfl, _, _, _, _, _, rfl, .ty _, .base (.tup hb2), kit_ty (r := false) (by decide +kernel), _, rfl, iteF ?_⟩
        refine ⟨_, rfl, _, _, _, _, _, rfl, .ty _, .base (.tup hb2), kit_ty (r := false) (by decide +kernel), _, rfl, _, _, _, _, _, rfl, .ty _, .base (.tup ha2), kit_ty (r := false) (by decide +kernel), rfl, _, rfl, iteF ?_⟩
        refine ⟨_, rfl, _, _, _, _, _, rfl, .ty _, .base (.tup hb2), kit_ty (r := true) (by decide +kernel), _, rfl, _, _, _, _, _, rfl, .ty _, .base (.tup ha2), kit_ty (r := true) (by decide +kernel), rfl, _, rfl, iteF ?_⟩
        refine ⟨_, rfl, a, _, rfl, .inr (SqT.of ha2), _, rfl, b, _, rfl, .inr (SqT.of hb2), rfl, _, rfl, ?_⟩
        rw [hlen, decide_eq_true rfl]
        refine iteT ⟨_, rfl, _, rfl, a, b, xs, ys, rfl, .inr ⟨SqT.of ha2, SqT.of hb2, fun D nD => ?_⟩⟩
        refine ⟨fun i m H' => i + m = xs.length ∧ Same H2 H' ∧ H' D = some (.lst ((List.replicate i true).map V.bl)), ⟨xs.length, by omega, same_upd nD, upd_same⟩, fun i m H' hW => ?_⟩
        obtain ⟨hm, s2, hD⟩ := hW
        by_cases hi : i < xs.length
        · have hx : xs[i]? = some xs[i] := List.getElem?_eq_getElem hi
          have hy : ys[i]? = some ys[i] := List.getElem?_eq_getElem (by omega)
          refine .inr ⟨⟨_, _, _, _, SqT.of (s2 _ _ ha2), SqT.of (s2 _ _ hb2), hx, hy⟩, fun H'' => Same H2 H'' ∧ H'' D = some (.lst ((List.replicate (i + 1) true).map V.bl)), fun H'' h => ⟨m - 1, by omega, by omega, h⟩, fun v H'' hv => ?_⟩
          obtain ⟨T', x1, y1, rfl, nT, rfl, f1, f2⟩ := hv
          have ex : x1 = xs[i] := Option.some.inj ((f1 _ (SqT.of (s2 _ _ ha2))).symm.trans hx)
          have ey : y1 = ys[i] := Option.some.inj ((f2 _ (SqT.of (s2 _ _ hb2))).symm.trans hy)
          have s3 : Same H' (upd H' T' (.tup [x1, y1])) := same_upd nT
          refine ⟨T', [x1, y1], rfl, .inl (.inl upd_same), rfl, x1, [y1], rfl, y1, [], rfl, rfl, rfl, ?_⟩
          refine ⟨_, rfl, _, rfl, x1, y1, rfl, ?_, fun H4 s4 => ⟨_, s4 _ _ (s3 _ _ hD), ?_, ?_, ?_⟩⟩
          · subst ex ey
            exact Eqd.mono (s1.trans (s2.trans s3)) n' (hsub i _ _ hx hy)
          · rw [List.length_map, List.length_replicate]
            exact small1000 (by omega)
          · intro c o e
            rw [upd_ne (ne_of_none e nD)]
            exact s4 _ _ (s3 _ _ (s2 _ _ e))
          · rw [upd_same, List.replicate_succ', List.map_append]
            rfl
        · have ei : i = xs.length := by omega
          subst ei
          refine .inl ⟨⟨xs, ys, SqT.of (s2 _ _ ha2), SqT.of (s2 _ _ hb2), .inl (Nat.le_refl _)⟩, ?_⟩
          refine ⟨D, _, rfl, .inl (.inl hD), ?_⟩
          have all : ∀ k : Nat, (List.replicate k true).all id = true := fun k => by
            rw [List.all_replicate]
            split <;> rfl
          rw [all]
          exact q _ (s1.trans s2)
theorem ok_same (T : Txt K mg fa fd) : ∀ n : Nat, FnOk P w K mg base CX0 (n + 1) (fa 28) (fd 28) ["_law_found", "_law_due"] (spS n)
  | 0 => none_of_false T.F_same sc_same
  | n + 1 => same_step T n (ok_same T n)
end
section
variable {P : Program} {w : World} {K : PySem.W.Frag} {mg : Str → Option Value} {base : Heap} {fa : Nat → Addr} {fd : Nat → FuncData}
theorem scITieError : FnScope ["self"] ["self"] (defScope (inClass (topS 1) 0)) := ⟨rfl, rfl, rfl, by decide +kernel, rfl, by decide +kernel, by decide +kernel⟩
theorem ok_TieError (T : Txt K mg fa fd) : FnOk P w K mg base CX0 1 (fa 1001) (fd 1001) ["self"] (spG0 K "TieError") := by
  refine T.ITieError.ok scITieError (fun vs H Q E h => ?_) (fun cdv A outer s H vs Q E hr h => ?_)
  · obtain ⟨a, C, nw, tl, rfl, _⟩ := h
    rfl
  · obtain ⟨a, C, nw, tl, rfl, hC, h2, ha, q⟩ := h
    refine ⟨_, pss_one (ps_osg (pv 0) pe_str), ?_⟩
    exact ⟨_, rfl, a, C, nw, tl, rfl, hC, h2, .inl ⟨ha, fun dx nd ne => q dx nd ne⟩⟩
theorem scIInvalidRatio : FnScope ["self", "given"] ["self", "given"] (defScope (inClass (topS 2) 0)) := ⟨rfl, rfl, rfl, by decide +kernel, rfl, by decide +kernel, by decide +kernel⟩
theorem ok_InvalidRatio (T : Txt K mg fa fd) : FnOk P w K mg base CX0 1 (fa 1002) (fd 1002) ["self", "given"] (spG1 K "given" "InvalidRatio") := by
  refine T.IInvalidRatio.ok scIInvalidRatio (fun vs H Q E h => ?_) (fun cdv A outer s H vs Q E hr h => ?_)
  · obtain ⟨a, C, v, nw, tl, rfl, _⟩ := h
    rfl
  · obtain ⟨a, C, v, nw, tl, rfl, hC, h1, h2, ha, q⟩ := h
    refine ⟨_, pss_cons (ps_osg (pv 0) (pv 1)) (pss_one (ps_osg (pv 0) pe_str)), ?_⟩
    refine ⟨_, rfl, _, rfl, a, C, nw, tl, rfl, hC, h1, .inl ⟨ha, fun dx nd ne => ?_⟩⟩
    refine ⟨_, rfl, a, C, nw, tl, rfl, hC, h2, .inr ⟨dx, _, upd_same, ?_, by show 1 ≤ 900; decide, q dx nd ne⟩⟩
    rw [upd_ne ne, upd_same]
theorem scIInvalidRow : FnScope ["self", "at"] ["self", "at"] (defScope (inClass (topS 3) 0)) := ⟨rfl, rfl, rfl, by decide +kernel, rfl, by decide +kernel, by decide +kernel⟩
theorem ok_InvalidRow (T : Txt K mg fa fd) : FnOk P w K mg base CX0 1 (fa 1003) (fd 1003) ["self", "at"] (spG1 K "at" "InvalidRow") := by
  refine T.IInvalidRow.ok scIInvalidRow (fun vs H Q E h => ?_) (fun cdv A outer s H vs Q E hr h => ?_)
  · obtain ⟨a, C, v, nw, tl, rfl, _⟩ := h
    rfl
  · obtain ⟨a, C, v, nw, tl, rfl, hC, h1, h2, ha, q⟩ := h
    refine ⟨_, pss_cons (ps_osg (pv 0) (pv 1)) (pss_one (ps_osg (pv 0) pe_str)), ?_⟩
    refine ⟨_, rfl, _, rfl, a, C, nw, tl, rfl, hC, h1, .inl ⟨ha, fun dx nd ne => ?_⟩⟩
    refine ⟨_, rfl, a, C, nw, tl, rfl, hC, h2, .inr ⟨dx, _, upd_same, ?_, by show 1 ≤ 900; decide, q dx nd ne⟩⟩
    rw [upd_ne ne, upd_same]
theorem scIInvalidName : FnScope ["self", "name"] ["self", "name"] (defScope (inClass (topS 4) 0)) := ⟨rfl, rfl, rfl, by decide +kernel, rfl, by decide +kernel, by decide +kernel⟩
theorem ok_InvalidName (T : Txt K mg fa fd) : FnOk P w K mg base CX0 1 (fa 1004) (fd 1004) ["self", "name"] (spG1 K "name" "InvalidName") := by
  refine T.IInvalidName.ok scIInvalidName (fun vs H Q E h => ?_) (fun cdv A outer s H vs Q E hr h => ?_)
  · obtain ⟨a, C, v, nw, tl, rfl, _⟩ := h
    rfl
  · obtain ⟨a, C, v, nw, tl, rfl, hC, h1, h2, ha, q⟩ := h
    refine ⟨_, pss_cons (ps_osg (pv 0) (pv 1)) (pss_one (ps_osg (pv 0) pe_str)), ?_⟩
    refine ⟨_, rfl, _, rfl, a, C, nw, tl, rfl, hC, h1, .inl ⟨ha, fun dx nd ne => ?_⟩⟩
    refine ⟨_, rfl, a, C, nw, tl, rfl, hC, h2, .inr ⟨dx, _, upd_same, ?_, by show 1 ≤ 900; decide, q dx nd ne⟩⟩
    rw [upd_ne ne, upd_same]
theorem scIInvalidTie : FnScope ["self", "at"] ["self", "at"] (defScope (inClass (topS 5) 0)) := ⟨rfl, rfl, rfl, by decide +kernel, rfl, by decide +kernel, by decide +kernel⟩
theorem ok_InvalidTie (T : Txt K mg fa fd) : FnOk P w K mg base CX0 1 (fa 1005) (fd 1005) ["self", "at"] (spG1 K "at" "InvalidTie") := by
  refine T.IInvalidTie.ok scIInvalidTie (fun vs H Q E h => ?_) (fun cdv A outer s H vs Q E hr h => ?_)
  · obtain ⟨a, C, v, nw, tl, rfl, _⟩ := h
    rfl
  · obtain ⟨a, C, v, nw, tl, rfl, hC, h1, h2, ha, q⟩ := h
    refine ⟨_, pss_cons (ps_osg (pv 0) (pv 1)) (pss_one (ps_osg (pv 0) pe_str)), ?_⟩
    refine ⟨_, rfl, _, rfl, a, C, nw, tl, rfl, hC, h1, .inl ⟨ha, fun dx nd ne => ?_⟩⟩
    refine ⟨_, rfl, a, C, nw, tl, rfl, hC, h2, .inr ⟨dx, _, upd_same, ?_, by show 1 ≤ 900; decide, q dx nd ne⟩⟩
    rw [upd_ne ne, upd_same]
theorem scIInvalidWish : FnScope ["self", "at"] ["self", "at"] (defScope (inClass (topS 6) 0)) := ⟨rfl, rfl, rfl, by decide +kernel, rfl, by decide +kernel, by decide +kernel⟩
theorem ok_InvalidWish (T : Txt K mg fa fd) : FnOk P w K mg base CX0 1 (fa 1006) (fd 1006) ["self", "at"] (spG1 K "at" "InvalidWish") := by
  refine T.IInvalidWish.ok scIInvalidWish (fun vs H Q E h => ?_) (fun cdv A outer s H vs Q E hr h => ?_)
  · obtain ⟨a, C, v, nw, tl, rfl, _⟩ := h
    rfl
  · obtain ⟨a, C, v, nw, tl, rfl, hC, h1, h2, ha, q⟩ := h
    refine ⟨_, pss_cons (ps_osg (pv 0) (pv 1)) (pss_one (ps_osg (pv 0) pe_str)), ?_⟩
    refine ⟨_, rfl, _, rfl, a, C, nw, tl, rfl, hC, h1, .inl ⟨ha, fun dx nd ne => ?_⟩⟩
    refine ⟨_, rfl, a, C, nw, tl, rfl, hC, h2, .inr ⟨dx, _, upd_same, ?_, by show 1 ≤ 900; decide, q dx nd ne⟩⟩
    rw [upd_ne ne, upd_same]
theorem scIInvalidTimes : FnScope ["self", "given"] ["self", "given"] (defScope (inClass (topS 7) 0)) := ⟨rfl, rfl, rfl, by decide +kernel, rfl, by decide +kernel, by decide +kernel⟩
theorem ok_InvalidTimes (T : Txt K mg fa fd) : FnOk P w K mg base CX0 1 (fa 1007) (fd 1007) ["self", "given"] (spG1 K "given" "InvalidTimes") := by
  refine T.IInvalidTimes.ok scIInvalidTimes (fun vs H Q E h => ?_) (fun cdv A outer s H vs Q E hr h => ?_)
  · obtain ⟨a, C, v, nw, tl, rfl, _⟩ := h
    rfl
  · obtain ⟨a, C, v, nw, tl, rfl, hC, h1, h2, ha, q⟩ := h
    refine ⟨_, pss_cons (ps_osg (pv 0) (pv 1)) (pss_one (ps_osg (pv 0) pe_str)), ?_⟩
    refine ⟨_, rfl, _, rfl, a, C, nw, tl, rfl, hC, h1, .inl ⟨ha, fun dx nd ne => ?_⟩⟩
    refine ⟨_, rfl, a, C, nw, tl, rfl, hC, h2, .inr ⟨dx, _, upd_same, ?_, by show 1 ≤ 900; decide, q dx nd ne⟩⟩
    rw [upd_ne ne, upd_same]
theorem scIInvalidLimit : FnScope ["self", "given"] ["self", "given"] (defScope (inClass (topS 8) 0)) := ⟨rfl, rfl, rfl, by decide +kernel, rfl, by decide +kernel, by decide +kernel⟩
theorem ok_InvalidLimit (T : Txt K mg fa fd) : FnOk P w K mg base CX0 1 (fa 1008) (fd 1008) ["self", "given"] (spG1 K "given" "InvalidLimit") := by
  refine T.IInvalidLimit.ok scIInvalidLimit (fun vs H Q E h => ?_) (fun cdv A outer s H vs Q E hr h => ?_)
  · obtain ⟨a, C, v, nw, tl, rfl, _⟩ := h
    rfl
  · obtain ⟨a, C, v, nw, tl, rfl, hC, h1, h2, ha, q⟩ := h
    refine ⟨_, pss_cons (ps_osg (pv 0) (pv 1)) (pss_one (ps_osg (pv 0) pe_str)), ?_⟩
    refine ⟨_, rfl, _, rfl, a, C, nw, tl, rfl, hC, h1, .inl ⟨ha, fun dx nd ne => ?_⟩⟩
    refine ⟨_, rfl, a, C, nw, tl, rfl, hC, h2, .inr ⟨dx, _, upd_same, ?_, by show 1 ≤ 900; decide, q dx nd ne⟩⟩
    rw [upd_ne ne, upd_same]
theorem scIInvalidCommand : FnScope ["self", "first"] ["self", "first"] (defScope (inClass (topS 9) 0)) := ⟨rfl, rfl, rfl, by decide +kernel, rfl, by decide +kernel, by decide +kernel⟩
theorem ok_InvalidCommand (T : Txt K mg fa fd) : FnOk P w K mg base CX0 1 (fa 1009) (fd 1009) ["self", "first"] (spG1 K "first" "InvalidCommand") := by
  refine T.IInvalidCommand.ok scIInvalidCommand (fun vs H Q E h => ?_) (fun cdv A outer s H vs Q E hr h => ?_)
  · obtain ⟨a, C, v, nw, tl, rfl, _⟩ := h
    rfl
  · obtain ⟨a, C, v, nw, tl, rfl, hC, h1, h2, ha, q⟩ := h
    refine ⟨_, pss_cons (ps_osg (pv 0) (pv 1)) (pss_one (ps_osg (pv 0) pe_str)), ?_⟩
    refine ⟨_, rfl, _, rfl, a, C, nw, tl, rfl, hC, h1, .inl ⟨ha, fun dx nd ne => ?_⟩⟩
    refine ⟨_, rfl, a, C, nw, tl, rfl, hC, h2, .inr ⟨dx, _, upd_same, ?_, by show 1 ≤ 900; decide, q dx nd ne⟩⟩
    rw [upd_ne ne, upd_same]
theorem scINotTied : FnScope ["self", "many"] ["self", "many"] (defScope (inClass (topS 10) 0)) := ⟨rfl, rfl, rfl, by decide +kernel, rfl, by decide +kernel, by decide +kernel⟩
theorem ok_NotTied (T : Txt K mg fa fd) : FnOk P w K mg base CX0 1 (fa 1010) (fd 1010) ["self", "many"] (spG1 K "many" "NotTied") := by
  refine T.INotTied.ok scINotTied (fun vs H Q E h => ?_) (fun cdv A outer s H vs Q E hr h => ?_)
  · obtain ⟨a, C, v, nw, tl, rfl, _⟩ := h
    rfl
  · obtain ⟨a, C, v, nw, tl, rfl, hC, h1, h2, ha, q⟩ := h
    refine ⟨_, pss_cons (ps_osg (pv 0) (pv 1)) (pss_one (ps_osg (pv 0) pe_str)), ?_⟩
    refine ⟨_, rfl, _, rfl, a, C, nw, tl, rfl, hC, h1, .inl ⟨ha, fun dx nd ne => ?_⟩⟩
    refine ⟨_, rfl, a, C, nw, tl, rfl, hC, h2, .inr ⟨dx, _, upd_same, ?_, by show 1 ≤ 900; decide, q dx nd ne⟩⟩
    rw [upd_ne ne, upd_same]
theorem scISameName : FnScope ["self", "name"] ["self", "name"] (defScope (inClass (topS 11) 0)) := ⟨rfl, rfl, rfl, by decide +kernel, rfl, by decide +kernel, by decide +kernel⟩
theorem ok_SameName (T : Txt K mg fa fd) : FnOk P w K mg base CX0 1 (fa 1011) (fd 1011) ["self", "name"] (spG1 K "name" "SameName") := by
  refine T.ISameName.ok scISameName (fun vs H Q E h => ?_) (fun cdv A outer s H vs Q E hr h => ?_)
  · obtain ⟨a, C, v, nw, tl, rfl, _⟩ := h
    rfl
  · obtain ⟨a, C, v, nw, tl, rfl, hC, h1, h2, ha, q⟩ := h
    refine ⟨_, pss_cons (ps_osg (pv 0) (pv 1)) (pss_one (ps_osg (pv 0) pe_str)), ?_⟩
    refine ⟨_, rfl, _, rfl, a, C, nw, tl, rfl, hC, h1, .inl ⟨ha, fun dx nd ne => ?_⟩⟩
    refine ⟨_, rfl, a, C, nw, tl, rfl, hC, h2, .inr ⟨dx, _, upd_same, ?_, by show 1 ≤ 900; decide, q dx nd ne⟩⟩
    rw [upd_ne ne, upd_same]
theorem scINamesDiffer : FnScope ["self"] ["self"] (defScope (inClass (topS 12) 0)) := ⟨rfl, rfl, rfl, by decide +kernel, rfl, by decide +kernel, by decide +kernel⟩
theorem ok_NamesDiffer (T : Txt K mg fa fd) : FnOk P w K mg base CX0 1 (fa 1012) (fd 1012) ["self"] (spG0 K "NamesDiffer") := by
  refine T.INamesDiffer.ok scINamesDiffer (fun vs H Q E h => ?_) (fun cdv A outer s H vs Q E hr h => ?_)
  · obtain ⟨a, C, nw, tl, rfl, _⟩ := h
    rfl
  · obtain ⟨a, C, nw, tl, rfl, hC, h2, ha, q⟩ := h
    refine ⟨_, pss_one (ps_osg (pv 0) pe_str), ?_⟩
    exact ⟨_, rfl, a, C, nw, tl, rfl, hC, h2, .inl ⟨ha, fun dx nd ne => q dx nd ne⟩⟩
theorem scIEmptyFigure : FnScope ["self"] ["self"] (defScope (inClass (topS 13) 0)) := ⟨rfl, rfl, rfl, by decide +kernel, rfl, by decide +kernel, by decide +kernel⟩
theorem ok_EmptyFigure (T : Txt K mg fa fd) : FnOk P w K mg base CX0 1 (fa 1013) (fd 1013) ["self"] (spG0 K "EmptyFigure") := by
  refine T.IEmptyFigure.ok scIEmptyFigure (fun vs H Q E h => ?_) (fun cdv A outer s H vs Q E hr h => ?_)
  · obtain ⟨a, C, nw, tl, rfl, _⟩ := h
    rfl
  · obtain ⟨a, C, nw, tl, rfl, hC, h2, ha, q⟩ := h
    refine ⟨_, pss_one (ps_osg (pv 0) pe_str), ?_⟩
    exact ⟨_, rfl, a, C, nw, tl, rfl, hC, h2, .inl ⟨ha, fun dx nd ne => q dx nd ne⟩⟩
theorem scIImpossible : FnScope ["self"] ["self"] (defScope (inClass (topS 14) 0)) := ⟨rfl, rfl, rfl, by decide +kernel, rfl, by decide +kernel, by decide +kernel⟩
theorem ok_Impossible (T : Txt K mg fa fd) : FnOk P w K mg base CX0 1 (fa 1014) (fd 1014) ["self"] (spG0 K "Impossible") := by
  refine T.IImpossible.ok scIImpossible (fun vs H Q E h => ?_) (fun cdv A outer s H vs Q E hr h => ?_)
  · obtain ⟨a, C, nw, tl, rfl, _⟩ := h
    rfl
  · obtain ⟨a, C, nw, tl, rfl, hC, h2, ha, q⟩ := h
    refine ⟨_, pss_one (ps_osg (pv 0) pe_str), ?_⟩
    exact ⟨_, rfl, a, C, nw, tl, rfl, hC, h2, .inl ⟨ha, fun dx nd ne => q dx nd ne⟩⟩
theorem scIPossible : FnScope ["self", "answer"] ["self", "answer"] (defScope (inClass (topS 15) 0)) := ⟨rfl, rfl, rfl, by decide +kernel, rfl, by decide +kernel, by decide +kernel⟩
theorem ok_Possible (T : Txt K mg fa fd) : FnOk P w K mg base CX0 1 (fa 1015) (fd 1015) ["self", "answer"] (spG1 K "answer" "Possible") := by
  refine T.IPossible.ok scIPossible (fun vs H Q E h => ?_) (fun cdv A outer s H vs Q E hr h => ?_)
  · obtain ⟨a, C, v, nw, tl, rfl, _⟩ := h
    rfl
  · obtain ⟨a, C, v, nw, tl, rfl, hC, h1, h2, ha, q⟩ := h
    refine ⟨_, pss_cons (ps_osg (pv 0) (pv 1)) (pss_one (ps_osg (pv 0) pe_str)), ?_⟩
    refine ⟨_, rfl, _, rfl, a, C, nw, tl, rfl, hC, h1, .inl ⟨ha, fun dx nd ne => ?_⟩⟩
    refine ⟨_, rfl, a, C, nw, tl, rfl, hC, h2, .inr ⟨dx, _, upd_same, ?_, by show 1 ≤ 900; decide, q dx nd ne⟩⟩
    rw [upd_ne ne, upd_same]
theorem scINotImplied : FnScope ["self", "answer"] ["self", "answer"] (defScope (inClass (topS 16) 0)) := ⟨rfl, rfl, rfl, by decide +kernel, rfl, by decide +kernel, by decide +kernel⟩
theorem ok_NotImplied (T : Txt K mg fa fd) : FnOk P w K mg base CX0 1 (fa 1016) (fd 1016) ["self", "answer"] (spG1 K "answer" "NotImplied") := by
  refine T.INotImplied.ok scINotImplied (fun vs H Q E h => ?_) (fun cdv A outer s H vs Q E hr h => ?_)
  · obtain ⟨a, C, v, nw, tl, rfl, _⟩ := h
    rfl
  · obtain ⟨a, C, v, nw, tl, rfl, hC, h1, h2, ha, q⟩ := h
    refine ⟨_, pss_cons (ps_osg (pv 0) (pv 1)) (pss_one (ps_osg (pv 0) pe_str)), ?_⟩
    refine ⟨_, rfl, _, rfl, a, C, nw, tl, rfl, hC, h1, .inl ⟨ha, fun dx nd ne => ?_⟩⟩
    refine ⟨_, rfl, a, C, nw, tl, rfl, hC, h2, .inr ⟨dx, _, upd_same, ?_, by show 1 ≤ 900; decide, q dx nd ne⟩⟩
    rw [upd_ne ne, upd_same]
theorem scIParseError : FnScope ["self", "at"] ["self", "at"] (defScope (inClass (topS 17) 0)) := ⟨rfl, rfl, rfl, by decide +kernel, rfl, by decide +kernel, by decide +kernel⟩
theorem ok_ParseError (T : Txt K mg fa fd) : FnOk P w K mg base CX0 1 (fa 1017) (fd 1017) ["self", "at"] (spG1 K "at" "ParseError") := by
  refine T.IParseError.ok scIParseError (fun vs H Q E h => ?_) (fun cdv A outer s H vs Q E hr h => ?_)
  · obtain ⟨a, C, v, nw, tl, rfl, _⟩ := h
    rfl
  · obtain ⟨a, C, v, nw, tl, rfl, hC, h1, h2, ha, q⟩ := h
    refine ⟨_, pss_cons (ps_osg (pv 0) (pv 1)) (pss_one (ps_osg (pv 0) pe_str)), ?_⟩
    refine ⟨_, rfl, _, rfl, a, C, nw, tl, rfl, hC, h1, .inl ⟨ha, fun dx nd ne => ?_⟩⟩
    refine ⟨_, rfl, a, C, nw, tl, rfl, hC, h2, .inr ⟨dx, _, upd_same, ?_, by show 1 ≤ 900; decide, q dx nd ne⟩⟩
    rw [upd_ne ne, upd_same]
theorem scIDuplicateLabel : FnScope ["self", "label"] ["self", "label"] (defScope (inClass (topS 18) 0)) := ⟨rfl, rfl, rfl, by decide +kernel, rfl, by decide +kernel, by decide +kernel⟩
theorem ok_DuplicateLabel (T : Txt K mg fa fd) : FnOk P w K mg base CX0 1 (fa 1018) (fd 1018) ["self", "label"] (spG1 K "label" "DuplicateLabel") := by
  refine T.IDuplicateLabel.ok scIDuplicateLabel (fun vs H Q E h => ?_) (fun cdv A outer s H vs Q E hr h => ?_)
  · obtain ⟨a, C, v, nw, tl, rfl, _⟩ := h
    rfl
  · obtain ⟨a, C, v, nw, tl, rfl, hC, h1, h2, ha, q⟩ := h
    refine ⟨_, pss_cons (ps_osg (pv 0) (pv 1)) (pss_one (ps_osg (pv 0) pe_str)), ?_⟩
    refine ⟨_, rfl, _, rfl, a, C, nw, tl, rfl, hC, h1, .inl ⟨ha, fun dx nd ne => ?_⟩⟩
    refine ⟨_, rfl, a, C, nw, tl, rfl, hC, h2, .inr ⟨dx, _, upd_same, ?_, by show 1 ≤ 900; decide, q dx nd ne⟩⟩
    rw [upd_ne ne, upd_same]
theorem scICapacityExceeded : FnScope ["self", "most"] ["self", "most"] (defScope (inClass (topS 19) 0)) := ⟨rfl, rfl, rfl, by decide +kernel, rfl, by decide +kernel, by decide +kernel⟩
theorem ok_CapacityExceeded (T : Txt K mg fa fd) : FnOk P w K mg base CX0 1 (fa 1019) (fd 1019) ["self", "most"] (spG1 K "most" "CapacityExceeded") := by
  refine T.ICapacityExceeded.ok scICapacityExceeded (fun vs H Q E h => ?_) (fun cdv A outer s H vs Q E hr h => ?_)
  · obtain ⟨a, C, v, nw, tl, rfl, _⟩ := h
    rfl
  · obtain ⟨a, C, v, nw, tl, rfl, hC, h1, h2, ha, q⟩ := h
    refine ⟨_, pss_cons (ps_osg (pv 0) (pv 1)) (pss_one (ps_osg (pv 0) pe_str)), ?_⟩
    refine ⟨_, rfl, _, rfl, a, C, nw, tl, rfl, hC, h1, .inl ⟨ha, fun dx nd ne => ?_⟩⟩
    refine ⟨_, rfl, a, C, nw, tl, rfl, hC, h2, .inr ⟨dx, _, upd_same, ?_, by show 1 ≤ 900; decide, q dx nd ne⟩⟩
    rw [upd_ne ne, upd_same]
theorem scIMissing : FnScope ["self"] ["self"] (defScope (inClass (topS 20) 0)) := ⟨rfl, rfl, rfl, by decide +kernel, rfl, by decide +kernel, by decide +kernel⟩
theorem ok_Missing (T : Txt K mg fa fd) : FnOk P w K mg base CX0 1 (fa 1020) (fd 1020) ["self"] (spG0 K "Missing") := by
  refine T.IMissing.ok scIMissing (fun vs H Q E h => ?_) (fun cdv A outer s H vs Q E hr h => ?_)
  · obtain ⟨a, C, nw, tl, rfl, _⟩ := h
    rfl
  · obtain ⟨a, C, nw, tl, rfl, hC, h2, ha, q⟩ := h
    refine ⟨_, pss_one (ps_osg (pv 0) pe_str), ?_⟩
    exact ⟨_, rfl, a, C, nw, tl, rfl, hC, h2, .inl ⟨ha, fun dx nd ne => q dx nd ne⟩⟩
theorem scIUnknownName : FnScope ["self", "name"] ["self", "name"] (defScope (inClass (topS 21) 0)) := ⟨rfl, rfl, rfl, by decide +kernel, rfl, by decide +kernel, by decide +kernel⟩
theorem ok_UnknownName (T : Txt K mg fa fd) : FnOk P w K mg base CX0 1 (fa 1021) (fd 1021) ["self", "name"] (spG1 K "name" "UnknownName") := by
  refine T.IUnknownName.ok scIUnknownName (fun vs H Q E h => ?_) (fun cdv A outer s H vs Q E hr h => ?_)
  · obtain ⟨a, C, v, nw, tl, rfl, _⟩ := h
    rfl
  · obtain ⟨a, C, v, nw, tl, rfl, hC, h1, h2, ha, q⟩ := h
    refine ⟨_, pss_cons (ps_osg (pv 0) (pv 1)) (pss_one (ps_osg (pv 0) pe_str)), ?_⟩
    refine ⟨_, rfl, _, rfl, a, C, nw, tl, rfl, hC, h1, .inl ⟨ha, fun dx nd ne => ?_⟩⟩
    refine ⟨_, rfl, a, C, nw, tl, rfl, hC, h2, .inr ⟨dx, _, upd_same, ?_, by show 1 ≤ 900; decide, q dx nd ne⟩⟩
    rw [upd_ne ne, upd_same]
theorem scIUnknownLabel : FnScope ["self", "label"] ["self", "label"] (defScope (inClass (topS 22) 0)) := ⟨rfl, rfl, rfl, by decide +kernel, rfl, by decide +kernel, by decide +kernel⟩
theorem ok_UnknownLabel (T : Txt K mg fa fd) : FnOk P w K mg base CX0 1 (fa 1022) (fd 1022) ["self", "label"] (spG1 K "label" "UnknownLabel") := by
  refine T.IUnknownLabel.ok scIUnknownLabel (fun vs H Q E h => ?_) (fun cdv A outer s H vs Q E hr h => ?_)
  · obtain ⟨a, C, v, nw, tl, rfl, _⟩ := h
    rfl
  · obtain ⟨a, C, v, nw, tl, rfl, hC, h1, h2, ha, q⟩ := h
    refine ⟨_, pss_cons (ps_osg (pv 0) (pv 1)) (pss_one (ps_osg (pv 0) pe_str)), ?_⟩
    refine ⟨_, rfl, _, rfl, a, C, nw, tl, rfl, hC, h1, .inl ⟨ha, fun dx nd ne => ?_⟩⟩
    refine ⟨_, rfl, a, C, nw, tl, rfl, hC, h2, .inr ⟨dx, _, upd_same, ?_, by show 1 ≤ 900; decide, q dx nd ne⟩⟩
    rw [upd_ne ne, upd_same]
theorem scINothingLeft : FnScope ["self"] ["self"] (defScope (inClass (topS 23) 0)) := ⟨rfl, rfl, rfl, by decide +kernel, rfl, by decide +kernel, by decide +kernel⟩
theorem ok_NothingLeft (T : Txt K mg fa fd) : FnOk P w K mg base CX0 1 (fa 1023) (fd 1023) ["self"] (spG0 K "NothingLeft") := by
  refine T.INothingLeft.ok scINothingLeft (fun vs H Q E h => ?_) (fun cdv A outer s H vs Q E hr h => ?_)
  · obtain ⟨a, C, nw, tl, rfl, _⟩ := h
    rfl
  · obtain ⟨a, C, nw, tl, rfl, hC, h2, ha, q⟩ := h
    refine ⟨_, pss_one (ps_osg (pv 0) pe_str), ?_⟩
    exact ⟨_, rfl, a, C, nw, tl, rfl, hC, h2, .inl ⟨ha, fun dx nd ne => q dx nd ne⟩⟩
end
def tabE (n : Int) (w0 : Str) : List (Nat × List (Str × V)) := [(2, [("tag", .str (Str.ofString "InvalidRatio")), ("given", (.int n))]), (3, [("tag", .str (Str.ofString "InvalidRow")), ("at", (.int n))]), (4, [("tag", .str (Str.ofString "InvalidName")), ("name", (.str w0))]), (5, [("tag", .str (Str.ofString "InvalidTie")), ("at", (.int n))]), (6, [("tag", .str (Str.ofString "InvalidWish")), ("at", (.int n))]), (7, [("tag", .str (Str.ofString "InvalidTimes")), ("given", (.int n))]), (8, [("tag", .str (Str.ofString "InvalidLimit")), ("given", (.int n))]), (9, [("tag", .str (Str.ofString "InvalidCommand")), ("first", (.str w0))]), (10, [("tag", .str (Str.ofString "NotTied")), ("many", (.int n))]), (11, [("tag", .str (Str.ofString "SameName")), ("name", (.str w0))]), (12, [("tag", .str (Str.ofString "NamesDiffer"))]), (13, [("tag", .str (Str.ofString "EmptyFigure"))]), (14, [("tag", .str (Str.ofString "Impossible"))]), (15, [("tag", .str (Str.ofString "Possible")), ("answer", (.str w0))]), (16, [("tag", .str (Str.ofString "NotImplied")), ("answer", (.str w0))]), (17, [("tag", .str (Str.ofString "ParseError")), ("at", (.int n))]), (18, [("tag", .str (Str.ofString "DuplicateLabel")), ("label", (.str w0))]), (19, [("tag", .str (Str.ofString "CapacityExceeded")), ("most", (.int n))]), (21, [("tag", .str (Str.ofString "UnknownName")), ("name", (.str w0))]), (22, [("tag", .str (Str.ofString "UnknownLabel")), ("label", (.str w0))]), (23, [("tag", .str (Str.ofString "NothingLeft"))])]

theorem small_line {n : Nat} (h : n ≤ 1000) : n ≤ sizeLine := Nat.le_trans h (Nat.le_of_lt (small1000 (Nat.le_refl _)))
theorem mk_one {H : Hp} {a dx C : Addr} {f tag : Str} {y : V} (na : H a = none) (nd : (upd H a (exo a C none)) dx = none) (ne : dx ≠ a) :
    Same H (upd (upd (upd (upd H a (exo a C none)) dx (exd dx [(f, y)])) a (exo a C (some dx))) dx (exd dx [("tag", .str tag), (f, y)])) ∧
    (upd (upd (upd (upd H a (exo a C none)) dx (exd dx [(f, y)])) a (exo a C (some dx))) dx (exd dx [("tag", .str tag), (f, y)])) a = some (exo a C (some dx)) ∧
    (upd (upd (upd (upd H a (exo a C none)) dx (exd dx [(f, y)])) a (exo a C (some dx))) dx (exd dx [("tag", .str tag), (f, y)])) dx = some (exd dx [("tag", .str tag), (f, y)]) := by
  refine ⟨fun b o e => ?_, by rw [upd_ne ne.symm, upd_same], upd_same⟩
  have hd : H dx = none := by
    rw [upd_ne ne] at nd
    exact nd
  have h1 : b ≠ a := ne_of_none e na
  have h2 : b ≠ dx := ne_of_none e hd
  rw [upd_ne h2, upd_ne h1, upd_ne h2, upd_ne h1]
  exact e
theorem mk_none {H : Hp} {a dx C : Addr} {tag : Str} (na : H a = none) (nd : (upd H a (exo a C none)) dx = none) (ne : dx ≠ a) :
    Same H (upd (upd (upd H a (exo a C none)) dx (exd dx [("tag", .str tag)])) a (exo a C (some dx))) ∧
    (upd (upd (upd H a (exo a C none)) dx (exd dx [("tag", .str tag)])) a (exo a C (some dx))) a = some (exo a C (some dx)) ∧
    (upd (upd (upd H a (exo a C none)) dx (exd dx [("tag", .str tag)])) a (exo a C (some dx))) dx = some (exd dx [("tag", .str tag)]) := by
  refine ⟨fun b o e => ?_, upd_same, by rw [upd_ne ne, upd_same]⟩
  have hd : H dx = none := by
    rw [upd_ne ne] at nd
    exact nd
  have h1 : b ≠ a := ne_of_none e na
  have h2 : b ≠ dx := ne_of_none e hd
  rw [upd_ne h1, upd_ne h2, upd_ne h1]
  exact e
section
variable {P : Program} {w : World} {K : PySem.W.Frag} {mg : Str → Option Value} {base : Heap} {fa : Nat → Addr} {fd : Nat → FuncData}
theorem paired_mono {α β : Type} {R S : α → β → Prop} (h : ∀ a b, R a b → S a b) : ∀ {xs : List α} {ys : List β}, Paired R xs ys → Paired S xs ys
  | _, _, .nil => .nil
  | _, _, .cons r t => .cons (h _ _ r) (paired_mono h t)
theorem paired_append {α β : Type} {R : α → β → Prop} : ∀ {xs xs2 : List α} {ys ys2 : List β}, Paired R xs ys → Paired R xs2 ys2 → Paired R (xs ++ xs2) (ys ++ ys2)
  | _, _, _, _, .nil, k => k
  | _, _, _, _, .cons h t, k => .cons h (paired_append t k)
def Ev (fa : Nat → Addr) (H : Hp) (u : V) (t : Nat × List (Str × V)) : Prop := ∃ a dd, u = .ref a ∧ H a = some (exo a (fa t.1) (some dd)) ∧ H dd = some (exd dd t.2)
theorem Ev.same {H H' : Hp} {u : V} {t : Nat × List (Str × V)} (h : Ev fa H u t) (s : Same H H') : Ev fa H' u t := by
  obtain ⟨a, dd, e, h1, h2⟩ := h
  exact ⟨a, dd, e, s _ _ h1, s _ _ h2⟩
def spMade (fa : Nat → Addr) : Sp := fun vs H Q _ => ∃ (n : Int) (w0 : Str), vs = [.int n, .str w0] ∧ ∀ L us H', Same H H' → H' L = some (.lst us) → Paired (Ev fa H') us (tabE n w0) → Q (.ref L) H'
theorem ok_made (T : Txt K mg fa fd) : FnOk P w K mg base CX0 4 (fa 29) (fd 29) ["_law_number", "_law_word"] (spMade fa) := by
  refine T.F_made_errors.ok sc_made_errors (fun vs H Q E h => ?_) (fun cdv A outer s H vs Q E hr h => ?_)
  · obtain ⟨n, w0, rfl, _⟩ := h
    rfl
  · obtain ⟨n, w0, rfl, q⟩ := h
    refine ⟨_, (C8.pss_cut (ps_set (i := 2) sc_made_errors.nd rfl (.inl rfl) (pe_lst (pa_cons (pe_exg PySem.F.excBase_ValueError T.eInvalidRatio.g T.eInvalidRatio.iC T.eInvalidRatio.tI (ok_InvalidRatio T) (hr.mono (by decide)) T.bIInvalidRatio pass0 (by rfl) T.eInvalidRatio.gC (pa_cons (pv 0) pa_nil)) (pa_cons (pe_exg PySem.F.excBase_ValueError T.eInvalidRow.g T.eInvalidRow.iC T.eInvalidRow.tI (ok_InvalidRow T) (hr.mono (by decide)) T.bIInvalidRow pass0 (by rfl) T.eInvalidRow.gC (pa_cons (pv 0) pa_nil)) (pa_cons (pe_exg PySem.F.excBase_ValueError T.eInvalidName.g T.eInvalidName.iC T.eInvalidName.tI (ok_InvalidName T) (hr.mono (by decide)) T.bIInvalidName pass0 (by rfl) T.eInvalidName.gC (pa_cons (pv 1) pa_nil)) (pa_cons (pe_exg PySem.F.excBase_ValueError T.eInvalidTie.g T.eInvalidTie.iC T.eInvalidTie.tI (ok_InvalidTie T) (hr.mono (by decide)) T.bIInvalidTie pass0 (by rfl) T.eInvalidTie.gC (pa_cons (pv 0) pa_nil)) (pa_cons (pe_exg PySem.F.excBase_ValueError T.eInvalidWish.g T.eInvalidWish.iC T.eInvalidWish.tI (ok_InvalidWish T) (hr.mono (by decide)) T.bIInvalidWish pass0 (by rfl) T.eInvalidWish.gC (pa_cons (pv 0) pa_nil)) (pa_cons (pe_exg PySem.F.excBase_ValueError T.eInvalidTimes.g T.eInvalidTimes.iC T.eInvalidTimes.tI (ok_InvalidTimes T) (hr.mono (by decide)) T.bIInvalidTimes pass0 (by rfl) T.eInvalidTimes.gC (pa_cons (pv 0) pa_nil)) pa_nil))))))))
      (C8.pss_cut (ps_set (i := 2) sc_made_errors.nd rfl (.inl rfl) (pe_op op_cat (pv 2) (pe_lst (pa_cons (pe_exg PySem.F.excBase_ValueError T.eInvalidLimit.g T.eInvalidLimit.iC T.eInvalidLimit.tI (ok_InvalidLimit T) (hr.mono (by decide)) T.bIInvalidLimit pass0 (by rfl) T.eInvalidLimit.gC (pa_cons (pv 0) pa_nil)) (pa_cons (pe_exg PySem.F.excBase_ValueError T.eInvalidCommand.g T.eInvalidCommand.iC T.eInvalidCommand.tI (ok_InvalidCommand T) (hr.mono (by decide)) T.bIInvalidCommand pass0 (by rfl) T.eInvalidCommand.gC (pa_cons (pv 1) pa_nil)) (pa_cons (pe_exg PySem.F.excBase_ValueError T.eNotTied.g T.eNotTied.iC T.eNotTied.tI (ok_NotTied T) (hr.mono (by decide)) T.bINotTied pass0 (by rfl) T.eNotTied.gC (pa_cons (pv 0) pa_nil)) (pa_cons (pe_exg PySem.F.excBase_ValueError T.eSameName.g T.eSameName.iC T.eSameName.tI (ok_SameName T) (hr.mono (by decide)) T.bISameName pass0 (by rfl) T.eSameName.gC (pa_cons (pv 1) pa_nil)) (pa_cons (pe_exg0 PySem.F.excBase_ValueError T.eNamesDiffer.g T.eNamesDiffer.iC T.eNamesDiffer.tI (ok_NamesDiffer T) (hr.mono (by decide)) T.bINamesDiffer pass0 (by rfl) T.eNamesDiffer.gC) (pa_cons (pe_exg0 PySem.F.excBase_ValueError T.eEmptyFigure.g T.eEmptyFigure.iC T.eEmptyFigure.tI (ok_EmptyFigure T) (hr.mono (by decide)) T.bIEmptyFigure pass0 (by rfl) T.eEmptyFigure.gC) (pa_cons (pe_exg0 PySem.F.excBase_ValueError T.eImpossible.g T.eImpossible.iC T.eImpossible.tI (ok_Impossible T) (hr.mono (by decide)) T.bIImpossible pass0 (by rfl) T.eImpossible.gC) pa_nil))))))))))
      (C8.pss_cut (ps_set (i := 2) sc_made_errors.nd rfl (.inl rfl) (pe_op op_cat (pv 2) (pe_lst (pa_cons (pe_exg PySem.F.excBase_ValueError T.ePossible.g T.ePossible.iC T.ePossible.tI (ok_Possible T) (hr.mono (by decide)) T.bIPossible pass0 (by rfl) T.ePossible.gC (pa_cons (pv 1) pa_nil)) (pa_cons (pe_exg PySem.F.excBase_ValueError T.eNotImplied.g T.eNotImplied.iC T.eNotImplied.tI (ok_NotImplied T) (hr.mono (by decide)) T.bINotImplied pass0 (by rfl) T.eNotImplied.gC (pa_cons (pv 1) pa_nil)) (pa_cons (pe_exg PySem.F.excBase_ValueError T.eParseError.g T.eParseError.iC T.eParseError.tI (ok_ParseError T) (hr.mono (by decide)) T.bIParseError pass0 (by rfl) T.eParseError.gC (pa_cons (pv 0) pa_nil)) (pa_cons (pe_exg PySem.F.excBase_ValueError T.eDuplicateLabel.g T.eDuplicateLabel.iC T.eDuplicateLabel.tI (ok_DuplicateLabel T) (hr.mono (by decide)) T.bIDuplicateLabel pass0 (by rfl) T.eDuplicateLabel.gC (pa_cons (pv 1) pa_nil)) (pa_cons (pe_exg PySem.F.excBase_ValueError T.eCapacityExceeded.g T.eCapacityExceeded.iC T.eCapacityExceeded.tI (ok_CapacityExceeded T) (hr.mono (by decide)) T.bICapacityExceeded pass0 (by rfl) T.eCapacityExceeded.gC (pa_cons (pv 0) pa_nil)) pa_nil))))))))
      (pss_one (ps_ret (pe_op op_cat (pv 2) (pe_lst (pa_cons (pe_exg PySem.F.excBase_LookupError T.eUnknownName.g T.eUnknownName.iC T.eUnknownName.tI (ok_UnknownName T) (hr.mono (by decide)) T.bIUnknownName pass0 (by rfl) T.eUnknownName.gC (pa_cons (pv 1) pa_nil)) (pa_cons (pe_exg PySem.F.excBase_LookupError T.eUnknownLabel.g T.eUnknownLabel.iC T.eUnknownLabel.tI (ok_UnknownLabel T) (hr.mono (by decide)) T.bIUnknownLabel pass0 (by rfl) T.eUnknownLabel.gC (pa_cons (pv 1) pa_nil)) (pa_cons (pe_exg0 PySem.F.excBase_IndexError T.eNothingLeft.g T.eNothingLeft.iC T.eNothingLeft.tI (ok_NothingLeft T) (hr.mono (by decide)) T.bINothingLeft pass0 (by rfl) T.eNothingLeft.gC) pa_nil)))))))))), ?_⟩
    refine ⟨fun σ G => Same H G ∧ ∃ L us, G L = some (.lst us) ∧ Paired (Ev fa G) us ((tabE n w0).take 6) ∧ σ = [some (.int n), some (.str w0), some (.ref L)], ?_, fun σ G hM => ?_⟩
    · skip
      refine ⟨_, rfl, by show 1 ≤ 1000; decide, fun a0 na0 => ⟨a0, _, _, _, _, rfl, T.eInvalidRatio.g, T.nInvalidRatio_given, T.eInvalidRatio.tag, upd_same, fun d0 nd0 ne0 => ⟨rfl, ?_⟩⟩⟩
      obtain ⟨s0, e0, f0⟩ := mk_one (f := "given") (y := (V.int n)) (tag := Str.ofString "InvalidRatio") (C := fa 2) na0 nd0 ne0
      generalize (upd _ _ _ : Hp) = H0 at s0 e0 f0 ⊢
      refine ⟨_, rfl, by show 1 ≤ 1000; decide, fun a1 na1 => ⟨a1, _, _, _, _, rfl, T.eInvalidRow.g, T.nInvalidRow_at, T.eInvalidRow.tag, upd_same, fun d1 nd1 ne1 => ⟨rfl, ?_⟩⟩⟩
      obtain ⟨s1, e1, f1⟩ := mk_one (f := "at") (y := (V.int n)) (tag := Str.ofString "InvalidRow") (C := fa 3) na1 nd1 ne1
      generalize (upd _ _ _ : Hp) = H1 at s1 e1 f1 ⊢
      refine ⟨_, rfl, by show 1 ≤ 1000; decide, fun a2 na2 => ⟨a2, _, _, _, _, rfl, T.eInvalidName.g, T.nInvalidName_name, T.eInvalidName.tag, upd_same, fun d2 nd2 ne2 => ⟨rfl, ?_⟩⟩⟩
      obtain ⟨s2, e2, f2⟩ := mk_one (f := "name") (y := (V.str w0)) (tag := Str.ofString "InvalidName") (C := fa 4) na2 nd2 ne2
      generalize (upd _ _ _ : Hp) = H2 at s2 e2 f2 ⊢
      refine ⟨_, rfl, by show 1 ≤ 1000; decide, fun a3 na3 => ⟨a3, _, _, _, _, rfl, T.eInvalidTie.g, T.nInvalidTie_at, T.eInvalidTie.tag, upd_same, fun d3 nd3 ne3 => ⟨rfl, ?_⟩⟩⟩
      obtain ⟨s3, e3, f3⟩ := mk_one (f := "at") (y := (V.int n)) (tag := Str.ofString "InvalidTie") (C := fa 5) na3 nd3 ne3
      generalize (upd _ _ _ : Hp) = H3 at s3 e3 f3 ⊢
      refine ⟨_, rfl, by show 1 ≤ 1000; decide, fun a4 na4 => ⟨a4, _, _, _, _, rfl, T.eInvalidWish.g, T.nInvalidWish_at, T.eInvalidWish.tag, upd_same, fun d4 nd4 ne4 => ⟨rfl, ?_⟩⟩⟩
      obtain ⟨s4, e4, f4⟩ := mk_one (f := "at") (y := (V.int n)) (tag := Str.ofString "InvalidWish") (C := fa 6) na4 nd4 ne4
      generalize (upd _ _ _ : Hp) = H4 at s4 e4 f4 ⊢
      refine ⟨_, rfl, by show 1 ≤ 1000; decide, fun a5 na5 => ⟨a5, _, _, _, _, rfl, T.eInvalidTimes.g, T.nInvalidTimes_given, T.eInvalidTimes.tag, upd_same, fun d5 nd5 ne5 => ⟨rfl, ?_⟩⟩⟩
      obtain ⟨s5, e5, f5⟩ := mk_one (f := "given") (y := (V.int n)) (tag := Str.ofString "InvalidTimes") (C := fa 7) na5 nd5 ne5
      generalize (upd _ _ _ : Hp) = H5 at s5 e5 f5 ⊢
      refine ⟨small_line (by show 6 ≤ 1000; decide), fun L nL => ?_⟩
      have sL := same_upd (o := HO.lst [V.ref a0, .ref a1, .ref a2, .ref a3, .ref a4, .ref a5]) nL
      exact ⟨(s0.trans (s1.trans (s2.trans (s3.trans (s4.trans (s5.trans sL)))))), L, _, upd_same, (.cons ⟨a0, d0, rfl, (s1.trans (s2.trans (s3.trans (s4.trans (s5.trans sL))))) _ _ e0, (s1.trans (s2.trans (s3.trans (s4.trans (s5.trans sL))))) _ _ f0⟩ (.cons ⟨a1, d1, rfl, (s2.trans (s3.trans (s4.trans (s5.trans sL)))) _ _ e1, (s2.trans (s3.trans (s4.trans (s5.trans sL)))) _ _ f1⟩ (.cons ⟨a2, d2, rfl, (s3.trans (s4.trans (s5.trans sL))) _ _ e2, (s3.trans (s4.trans (s5.trans sL))) _ _ f2⟩ (.cons ⟨a3, d3, rfl, (s4.trans (s5.trans sL)) _ _ e3, (s4.trans (s5.trans sL)) _ _ f3⟩ (.cons ⟨a4, d4, rfl, (s5.trans sL) _ _ e4, (s5.trans sL) _ _ f4⟩ (.cons ⟨a5, d5, rfl, sL _ _ e5, sL _ _ f5⟩ .nil)))))), rfl⟩
    obtain ⟨sG, L, us, hL, hus, rfl⟩ := hM
    refine ⟨fun σ G2 => Same H G2 ∧ ∃ L us, G2 L = some (.lst us) ∧ Paired (Ev fa G2) us ((tabE n w0).take 13) ∧ σ = [some (.int n), some (.str w0), some (.ref L)], ?_, fun σ G2 hM => ?_⟩
    · refine ⟨_, rfl, ?_⟩
      refine ⟨_, rfl, by show 1 ≤ 1000; decide, fun a6 na6 => ⟨a6, _, _, _, _, rfl, T.eInvalidLimit.g, T.nInvalidLimit_given, T.eInvalidLimit.tag, upd_same, fun d6 nd6 ne6 => ⟨rfl, ?_⟩⟩⟩
      obtain ⟨s6, e6, f6⟩ := mk_one (f := "given") (y := (V.int n)) (tag := Str.ofString "InvalidLimit") (C := fa 8) na6 nd6 ne6
      generalize (upd _ _ _ : Hp) = H6 at s6 e6 f6 ⊢
      refine ⟨_, rfl, by show 1 ≤ 1000; decide, fun a7 na7 => ⟨a7, _, _, _, _, rfl, T.eInvalidCommand.g, T.nInvalidCommand_first, T.eInvalidCommand.tag, upd_same, fun d7 nd7 ne7 => ⟨rfl, ?_⟩⟩⟩
      obtain ⟨s7, e7, f7⟩ := mk_one (f := "first") (y := (V.str w0)) (tag := Str.ofString "InvalidCommand") (C := fa 9) na7 nd7 ne7
      generalize (upd _ _ _ : Hp) = H7 at s7 e7 f7 ⊢
      refine ⟨_, rfl, by show 1 ≤ 1000; decide, fun a8 na8 => ⟨a8, _, _, _, _, rfl, T.eNotTied.g, T.nNotTied_many, T.eNotTied.tag, upd_same, fun d8 nd8 ne8 => ⟨rfl, ?_⟩⟩⟩
      obtain ⟨s8, e8, f8⟩ := mk_one (f := "many") (y := (V.int n)) (tag := Str.ofString "NotTied") (C := fa 10) na8 nd8 ne8
      generalize (upd _ _ _ : Hp) = H8 at s8 e8 f8 ⊢
      refine ⟨_, rfl, by show 1 ≤ 1000; decide, fun a9 na9 => ⟨a9, _, _, _, _, rfl, T.eSameName.g, T.nSameName_name, T.eSameName.tag, upd_same, fun d9 nd9 ne9 => ⟨rfl, ?_⟩⟩⟩
      obtain ⟨s9, e9, f9⟩ := mk_one (f := "name") (y := (V.str w0)) (tag := Str.ofString "SameName") (C := fa 11) na9 nd9 ne9
      generalize (upd _ _ _ : Hp) = H9 at s9 e9 f9 ⊢
      refine ⟨by show 0 ≤ 1000; decide, fun a10 na10 => ⟨a10, _, _, _, rfl, T.eNamesDiffer.g, T.eNamesDiffer.tag, upd_same, fun d10 nd10 ne10 => ⟨rfl, ?_⟩⟩⟩
      obtain ⟨s10, e10, f10⟩ := mk_none (tag := Str.ofString "NamesDiffer") (C := fa 12) na10 nd10 ne10
      generalize (upd _ _ _ : Hp) = H10 at s10 e10 f10 ⊢
      refine ⟨by show 0 ≤ 1000; decide, fun a11 na11 => ⟨a11, _, _, _, rfl, T.eEmptyFigure.g, T.eEmptyFigure.tag, upd_same, fun d11 nd11 ne11 => ⟨rfl, ?_⟩⟩⟩
      obtain ⟨s11, e11, f11⟩ := mk_none (tag := Str.ofString "EmptyFigure") (C := fa 13) na11 nd11 ne11
      generalize (upd _ _ _ : Hp) = H11 at s11 e11 f11 ⊢
      refine ⟨by show 0 ≤ 1000; decide, fun a12 na12 => ⟨a12, _, _, _, rfl, T.eImpossible.g, T.eImpossible.tag, upd_same, fun d12 nd12 ne12 => ⟨rfl, ?_⟩⟩⟩
      obtain ⟨s12, e12, f12⟩ := mk_none (tag := Str.ofString "Impossible") (C := fa 14) na12 nd12 ne12
      generalize (upd _ _ _ : Hp) = H12 at s12 e12 f12 ⊢
      refine ⟨small_line (by show 7 ≤ 1000; decide), fun M nM => ?_⟩
      have sM := same_upd (o := HO.lst [V.ref a6, .ref a7, .ref a8, .ref a9, .ref a10, .ref a11, .ref a12]) nM
      have ul := Paired.length hus
      have ul : us.length = 6 := ul
      refine ⟨L, M, us, _, rfl, rfl, (s6.trans (s7.trans (s8.trans (s9.trans (s10.trans (s11.trans (s12.trans sM))))))) _ _ hL, upd_same, small_line (by show us.length + 7 ≤ 1000; omega), fun p np => ?_⟩
      have sp := same_upd (o := HO.lst (us ++ [V.ref a6, .ref a7, .ref a8, .ref a9, .ref a10, .ref a11, .ref a12])) np
      have sA := (s6.trans (s7.trans (s8.trans (s9.trans (s10.trans (s11.trans (s12.trans sM))))))).trans sp
      have sMp := sM.trans sp
      have new : Paired (Ev fa (upd (upd H12 M (HO.lst [V.ref a6, .ref a7, .ref a8, .ref a9, .ref a10, .ref a11, .ref a12])) p (HO.lst (us ++ [V.ref a6, .ref a7, .ref a8, .ref a9, .ref a10, .ref a11, .ref a12])))) [V.ref a6, .ref a7, .ref a8, .ref a9, .ref a10, .ref a11, .ref a12] (((tabE n w0).drop 6).take 7) := (.cons ⟨a6, d6, rfl, (s7.trans (s8.trans (s9.trans (s10.trans (s11.trans (s12.trans sMp)))))) _ _ e6, (s7.trans (s8.trans (s9.trans (s10.trans (s11.trans (s12.trans sMp)))))) _ _ f6⟩ (.cons ⟨a7, d7, rfl, (s8.trans (s9.trans (s10.trans (s11.trans (s12.trans sMp))))) _ _ e7, (s8.trans (s9.trans (s10.trans (s11.trans (s12.trans sMp))))) _ _ f7⟩ (.cons ⟨a8, d8, rfl, (s9.trans (s10.trans (s11.trans (s12.trans sMp)))) _ _ e8, (s9.trans (s10.trans (s11.trans (s12.trans sMp)))) _ _ f8⟩ (.cons ⟨a9, d9, rfl, (s10.trans (s11.trans (s12.trans sMp))) _ _ e9, (s10.trans (s11.trans (s12.trans sMp))) _ _ f9⟩ (.cons ⟨a10, d10, rfl, (s11.trans (s12.trans sMp)) _ _ e10, (s11.trans (s12.trans sMp)) _ _ f10⟩ (.cons ⟨a11, d11, rfl, (s12.trans sMp) _ _ e11, (s12.trans sMp) _ _ f11⟩ (.cons ⟨a12, d12, rfl, sMp _ _ e12, sMp _ _ f12⟩ .nil)))))))
      have all := paired_append (paired_mono (fun _ _ h => Ev.same h sA) hus) new
      exact ⟨sG.trans sA, p, _, upd_same, all, rfl⟩
    obtain ⟨sG, L, us, hL, hus, rfl⟩ := hM
    refine ⟨fun σ G3 => Same H G3 ∧ ∃ L us, G3 L = some (.lst us) ∧ Paired (Ev fa G3) us ((tabE n w0).take 18) ∧ σ = [some (.int n), some (.str w0), some (.ref L)], ?_, fun σ G3 hM => ?_⟩
    · refine ⟨_, rfl, ?_⟩
      refine ⟨_, rfl, by show 1 ≤ 1000; decide, fun a13 na13 => ⟨a13, _, _, _, _, rfl, T.ePossible.g, T.nPossible_answer, T.ePossible.tag, upd_same, fun d13 nd13 ne13 => ⟨rfl, ?_⟩⟩⟩
      obtain ⟨s13, e13, f13⟩ := mk_one (f := "answer") (y := (V.str w0)) (tag := Str.ofString "Possible") (C := fa 15) na13 nd13 ne13
      generalize (upd _ _ _ : Hp) = H13 at s13 e13 f13 ⊢
      refine ⟨_, rfl, by show 1 ≤ 1000; decide, fun a14 na14 => ⟨a14, _, _, _, _, rfl, T.eNotImplied.g, T.nNotImplied_answer, T.eNotImplied.tag, upd_same, fun d14 nd14 ne14 => ⟨rfl, ?_⟩⟩⟩
      obtain ⟨s14, e14, f14⟩ := mk_one (f := "answer") (y := (V.str w0)) (tag := Str.ofString "NotImplied") (C := fa 16) na14 nd14 ne14
      generalize (upd _ _ _ : Hp) = H14 at s14 e14 f14 ⊢
      refine ⟨_, rfl, by show 1 ≤ 1000; decide, fun a15 na15 => ⟨a15, _, _, _, _, rfl, T.eParseError.g, T.nParseError_at, T.eParseError.tag, upd_same, fun d15 nd15 ne15 => ⟨rfl, ?_⟩⟩⟩
      obtain ⟨s15, e15, f15⟩ := mk_one (f := "at") (y := (V.int n)) (tag := Str.ofString "ParseError") (C := fa 17) na15 nd15 ne15
      generalize (upd _ _ _ : Hp) = H15 at s15 e15 f15 ⊢
      refine ⟨_, rfl, by show 1 ≤ 1000; decide, fun a16 na16 => ⟨a16, _, _, _, _, rfl, T.eDuplicateLabel.g, T.nDuplicateLabel_label, T.eDuplicateLabel.tag, upd_same, fun d16 nd16 ne16 => ⟨rfl, ?_⟩⟩⟩
      obtain ⟨s16, e16, f16⟩ := mk_one (f := "label") (y := (V.str w0)) (tag := Str.ofString "DuplicateLabel") (C := fa 18) na16 nd16 ne16
      generalize (upd _ _ _ : Hp) = H16 at s16 e16 f16 ⊢
      refine ⟨_, rfl, by show 1 ≤ 1000; decide, fun a17 na17 => ⟨a17, _, _, _, _, rfl, T.eCapacityExceeded.g, T.nCapacityExceeded_most, T.eCapacityExceeded.tag, upd_same, fun d17 nd17 ne17 => ⟨rfl, ?_⟩⟩⟩
      obtain ⟨s17, e17, f17⟩ := mk_one (f := "most") (y := (V.int n)) (tag := Str.ofString "CapacityExceeded") (C := fa 19) na17 nd17 ne17
      generalize (upd _ _ _ : Hp) = H17 at s17 e17 f17 ⊢
      refine ⟨small_line (by show 5 ≤ 1000; decide), fun M nM => ?_⟩
      have sM := same_upd (o := HO.lst [V.ref a13, .ref a14, .ref a15, .ref a16, .ref a17]) nM
      have ul := Paired.length hus
      have ul : us.length = 13 := ul
      refine ⟨L, M, us, _, rfl, rfl, (s13.trans (s14.trans (s15.trans (s16.trans (s17.trans sM))))) _ _ hL, upd_same, small_line (by show us.length + 5 ≤ 1000; omega), fun p np => ?_⟩
      have sp := same_upd (o := HO.lst (us ++ [V.ref a13, .ref a14, .ref a15, .ref a16, .ref a17])) np
      have sA := (s13.trans (s14.trans (s15.trans (s16.trans (s17.trans sM))))).trans sp
      have sMp := sM.trans sp
      have new : Paired (Ev fa (upd (upd H17 M (HO.lst [V.ref a13, .ref a14, .ref a15, .ref a16, .ref a17])) p (HO.lst (us ++ [V.ref a13, .ref a14, .ref a15, .ref a16, .ref a17])))) [V.ref a13, .ref a14, .ref a15, .ref a16, .ref a17] (((tabE n w0).drop 13).take 5) := (.cons ⟨a13, d13, rfl, (s14.trans (s15.trans (s16.trans (s17.trans sMp)))) _ _ e13, (s14.trans (s15.trans (s16.trans (s17.trans sMp)))) _ _ f13⟩ (.cons ⟨a14, d14, rfl, (s15.trans (s16.trans (s17.trans sMp))) _ _ e14, (s15.trans (s16.trans (s17.trans sMp))) _ _ f14⟩ (.cons ⟨a15, d15, rfl, (s16.trans (s17.trans sMp)) _ _ e15, (s16.trans (s17.trans sMp)) _ _ f15⟩ (.cons ⟨a16, d16, rfl, (s17.trans sMp) _ _ e16, (s17.trans sMp) _ _ f16⟩ (.cons ⟨a17, d17, rfl, sMp _ _ e17, sMp _ _ f17⟩ .nil)))))
      have all := paired_append (paired_mono (fun _ _ h => Ev.same h sA) hus) new
      exact ⟨sG.trans sA, p, _, upd_same, all, rfl⟩
    obtain ⟨sG, L, us, hL, hus, rfl⟩ := hM
    refine ⟨_, rfl, ?_⟩
    refine ⟨_, rfl, by show 1 ≤ 1000; decide, fun a18 na18 => ⟨a18, _, _, _, _, rfl, T.eUnknownName.g, T.nUnknownName_name, T.eUnknownName.tag, upd_same, fun d18 nd18 ne18 => ⟨rfl, ?_⟩⟩⟩
    obtain ⟨s18, e18, f18⟩ := mk_one (f := "name") (y := (V.str w0)) (tag := Str.ofString "UnknownName") (C := fa 21) na18 nd18 ne18
    generalize (upd _ _ _ : Hp) = H18 at s18 e18 f18 ⊢
    refine ⟨_, rfl, by show 1 ≤ 1000; decide, fun a19 na19 => ⟨a19, _, _, _, _, rfl, T.eUnknownLabel.g, T.nUnknownLabel_label, T.eUnknownLabel.tag, upd_same, fun d19 nd19 ne19 => ⟨rfl, ?_⟩⟩⟩
    obtain ⟨s19, e19, f19⟩ := mk_one (f := "label") (y := (V.str w0)) (tag := Str.ofString "UnknownLabel") (C := fa 22) na19 nd19 ne19
    generalize (upd _ _ _ : Hp) = H19 at s19 e19 f19 ⊢
    refine ⟨by show 0 ≤ 1000; decide, fun a20 na20 => ⟨a20, _, _, _, rfl, T.eNothingLeft.g, T.eNothingLeft.tag, upd_same, fun d20 nd20 ne20 => ⟨rfl, ?_⟩⟩⟩
    obtain ⟨s20, e20, f20⟩ := mk_none (tag := Str.ofString "NothingLeft") (C := fa 23) na20 nd20 ne20
    generalize (upd _ _ _ : Hp) = H20 at s20 e20 f20 ⊢
    refine ⟨small_line (by show 3 ≤ 1000; decide), fun M nM => ?_⟩
    have sM := same_upd (o := HO.lst [V.ref a18, .ref a19, .ref a20]) nM
    have ul := Paired.length hus
    have ul : us.length = 18 := ul
    refine ⟨L, M, us, _, rfl, rfl, (s18.trans (s19.trans (s20.trans sM))) _ _ hL, upd_same, small_line (by show us.length + 3 ≤ 1000; omega), fun p np => ?_⟩
    have sp := same_upd (o := HO.lst (us ++ [V.ref a18, .ref a19, .ref a20])) np
    have sA := (s18.trans (s19.trans (s20.trans sM))).trans sp
    have sMp := sM.trans sp
    have new : Paired (Ev fa (upd (upd H20 M (HO.lst [V.ref a18, .ref a19, .ref a20])) p (HO.lst (us ++ [V.ref a18, .ref a19, .ref a20])))) [V.ref a18, .ref a19, .ref a20] (((tabE n w0).drop 18).take 3) := (.cons ⟨a18, d18, rfl, (s19.trans (s20.trans sMp)) _ _ e18, (s19.trans (s20.trans sMp)) _ _ f18⟩ (.cons ⟨a19, d19, rfl, (s20.trans sMp) _ _ e19, (s20.trans sMp) _ _ f19⟩ (.cons ⟨a20, d20, rfl, sMp _ _ e20, sMp _ _ f20⟩ .nil)))
    have all := paired_append (paired_mono (fun _ _ h => Ev.same h sA) hus) new
    exact q p _ _ (sG.trans sA) upd_same all
end
def ids21 : List Nat := [2, 3, 4, 5, 6, 7, 8, 9, 10, 11, 12, 13, 14, 15, 16, 17, 18, 19, 21, 22, 23]
theorem exc_of {K : PySem.W.Frag} {mg : Str → Option Value} {fa : Nat → Addr} {fd : Nat → FuncData} (T : Txt K mg fa fd) : ∀ c ∈ ids21, ExcC K (fa c) := by
  have h := T
  intro c hc
  simp only [ids21, List.mem_cons, List.not_mem_nil, or_false] at hc
  rcases hc with rfl | rfl | rfl | rfl | rfl | rfl | rfl | rfl | rfl | rfl | rfl | rfl | rfl | rfl | rfl | rfl | rfl | rfl | rfl | rfl | rfl
  · exact h.eInvalidRatio.ex
  · exact h.eInvalidRow.ex
  · exact h.eInvalidName.ex
  · exact h.eInvalidTie.ex
  · exact h.eInvalidWish.ex
  · exact h.eInvalidTimes.ex
  · exact h.eInvalidLimit.ex
  · exact h.eInvalidCommand.ex
  · exact h.eNotTied.ex
  · exact h.eSameName.ex
  · exact h.eNamesDiffer.ex
  · exact h.eEmptyFigure.ex
  · exact h.eImpossible.ex
  · exact h.ePossible.ex
  · exact h.eNotImplied.ex
  · exact h.eParseError.ex
  · exact h.eDuplicateLabel.ex
  · exact h.eCapacityExceeded.ex
  · exact h.eUnknownName.ex
  · exact h.eUnknownLabel.ex
  · exact h.eNothingLeft.ex
theorem kit_of2 {K : PySem.W.Frag} {mg : Str → Option Value} {fa : Nat → Addr} {fd : Nat → FuncData} (T : Txt K mg fa fd) {c j : Nat} (hc : c ∈ [1, 2, 3, 4, 5, 6, 7, 8, 9, 10, 11, 12, 13, 14, 15, 16, 17, 18, 19, 20, 21, 22, 23]) (hj : j ∈ [1, 2, 3, 4, 5, 6, 7, 8, 9, 10, 11, 12, 13, 14, 15, 16, 17, 18, 19, 20, 21, 22, 23]) : PySem.W.kitOne K (.ref (fa c)) (.ref (fa j)) = some (subT c j) := by
  have h := List.all_eq_true.mp (List.all_eq_true.mp T.kit c hc) j hj
  exact beq_iff_eq.mp h
section
variable {P : Program} {w : World} {K : PySem.W.Frag} {mg : Str → Option Value} {base : Heap} {fa : Nat → Addr} {fd : Nat → FuncData}
def spFlags (fa : Nat → Addr) : Sp := fun vs H Q _ => ∃ (u : V) (c : Nat) (fs : List (Str × V)), vs = [u] ∧ Ev fa H u (c, fs) ∧ c ∈ ids21 ∧ ∀ L H', Same H H' → H' L = some (.lst (ids21.map fun j => V.bl (subT c j))) → Q (.ref L) H'
theorem ok_flags (T : Txt K mg fa fd) : FnOk P w K mg base CX0 3 (fa 30) (fd 30) ["_law_e"] (spFlags fa) := by
  refine T.F_flags.ok sc_flags (fun vs H Q E h => ?_) (fun cdv A outer s H vs Q E hr h => ?_)
  · obtain ⟨u, c, fs, rfl, _⟩ := h
    rfl
  · obtain ⟨u, c, fs, rfl, ⟨a, dd, rfl, ha0, hd0⟩, hc, q⟩ := h
    refine ⟨_, (C8.pss_cut (ps_set (i := 1) sc_flags.nd rfl (.inl rfl) (pe_lst (pa_cons (pe_callB call_isG (by rfl) T.m_isinstance PyProof.Rows.boot_isinstance (pa_cons (pv 0) (pa_cons (pe_glob (v := .ref (fa 2)) (by rfl) T.eInvalidRatio.gC rfl) pa_nil))) (pa_cons (pe_callB call_isG (by rfl) T.m_isinstance PyProof.Rows.boot_isinstance (pa_cons (pv 0) (pa_cons (pe_glob (v := .ref (fa 3)) (by rfl) T.eInvalidRow.gC rfl) pa_nil))) (pa_cons (pe_callB call_isG (by rfl) T.m_isinstance PyProof.Rows.boot_isinstance (pa_cons (pv 0) (pa_cons (pe_glob (v := .ref (fa 4)) (by rfl) T.eInvalidName.gC rfl) pa_nil))) (pa_cons (pe_callB call_isG (by rfl) T.m_isinstance PyProof.Rows.boot_isinstance (pa_cons (pv 0) (pa_cons (pe_glob (v := .ref (fa 5)) (by rfl) T.eInvalidTie.gC rfl) pa_nil))) pa_nil))))))
      (C8.pss_cut (ps_set (i := 1) sc_flags.nd rfl (.inl rfl) (pe_op op_cat (pv 1) (pe_lst (pa_cons (pe_callB call_isG (by rfl) T.m_isinstance PyProof.Rows.boot_isinstance (pa_cons (pv 0) (pa_cons (pe_glob (v := .ref (fa 6)) (by rfl) T.eInvalidWish.gC rfl) pa_nil))) (pa_cons (pe_callB call_isG (by rfl) T.m_isinstance PyProof.Rows.boot_isinstance (pa_cons (pv 0) (pa_cons (pe_glob (v := .ref (fa 7)) (by rfl) T.eInvalidTimes.gC rfl) pa_nil))) (pa_cons (pe_callB call_isG (by rfl) T.m_isinstance PyProof.Rows.boot_isinstance (pa_cons (pv 0) (pa_cons (pe_glob (v := .ref (fa 8)) (by rfl) T.eInvalidLimit.gC rfl) pa_nil))) (pa_cons (pe_callB call_isG (by rfl) T.m_isinstance PyProof.Rows.boot_isinstance (pa_cons (pv 0) (pa_cons (pe_glob (v := .ref (fa 9)) (by rfl) T.eInvalidCommand.gC rfl) pa_nil))) pa_nil)))))))
      (C8.pss_cut (ps_set (i := 1) sc_flags.nd rfl (.inl rfl) (pe_op op_cat (pv 1) (pe_lst (pa_cons (pe_callB call_isG (by rfl) T.m_isinstance PyProof.Rows.boot_isinstance (pa_cons (pv 0) (pa_cons (pe_glob (v := .ref (fa 10)) (by rfl) T.eNotTied.gC rfl) pa_nil))) (pa_cons (pe_callB call_isG (by rfl) T.m_isinstance PyProof.Rows.boot_isinstance (pa_cons (pv 0) (pa_cons (pe_glob (v := .ref (fa 11)) (by rfl) T.eSameName.gC rfl) pa_nil))) (pa_cons (pe_callB call_isG (by rfl) T.m_isinstance PyProof.Rows.boot_isinstance (pa_cons (pv 0) (pa_cons (pe_glob (v := .ref (fa 12)) (by rfl) T.eNamesDiffer.gC rfl) pa_nil))) (pa_cons (pe_callB call_isG (by rfl) T.m_isinstance PyProof.Rows.boot_isinstance (pa_cons (pv 0) (pa_cons (pe_glob (v := .ref (fa 13)) (by rfl) T.eEmptyFigure.gC rfl) pa_nil))) pa_nil)))))))
      (C8.pss_cut (ps_set (i := 1) sc_flags.nd rfl (.inl rfl) (pe_op op_cat (pv 1) (pe_lst (pa_cons (pe_callB call_isG (by rfl) T.m_isinstance PyProof.Rows.boot_isinstance (pa_cons (pv 0) (pa_cons (pe_glob (v := .ref (fa 14)) (by rfl) T.eImpossible.gC rfl) pa_nil))) (pa_cons (pe_callB call_isG (by rfl) T.m_isinstance PyProof.Rows.boot_isinstance (pa_cons (pv 0) (pa_cons (pe_glob (v := .ref (fa 15)) (by rfl) T.ePossible.gC rfl) pa_nil))) (pa_cons (pe_callB call_isG (by rfl) T.m_isinstance PyProof.Rows.boot_isinstance (pa_cons (pv 0) (pa_cons (pe_glob (v := .ref (fa 16)) (by rfl) T.eNotImplied.gC rfl) pa_nil))) (pa_cons (pe_callB call_isG (by rfl) T.m_isinstance PyProof.Rows.boot_isinstance (pa_cons (pv 0) (pa_cons (pe_glob (v := .ref (fa 17)) (by rfl) T.eParseError.gC rfl) pa_nil))) pa_nil)))))))
      (C8.pss_cut (ps_set (i := 1) sc_flags.nd rfl (.inl rfl) (pe_op op_cat (pv 1) (pe_lst (pa_cons (pe_callB call_isG (by rfl) T.m_isinstance PyProof.Rows.boot_isinstance (pa_cons (pv 0) (pa_cons (pe_glob (v := .ref (fa 18)) (by rfl) T.eDuplicateLabel.gC rfl) pa_nil))) (pa_cons (pe_callB call_isG (by rfl) T.m_isinstance PyProof.Rows.boot_isinstance (pa_cons (pv 0) (pa_cons (pe_glob (v := .ref (fa 19)) (by rfl) T.eCapacityExceeded.gC rfl) pa_nil))) (pa_cons (pe_callB call_isG (by rfl) T.m_isinstance PyProof.Rows.boot_isinstance (pa_cons (pv 0) (pa_cons (pe_glob (v := .ref (fa 21)) (by rfl) T.eUnknownName.gC rfl) pa_nil))) pa_nil))))))
      (pss_one (ps_ret (pe_op op_cat (pv 1) (pe_lst (pa_cons (pe_callB call_isG (by rfl) T.m_isinstance PyProof.Rows.boot_isinstance (pa_cons (pv 0) (pa_cons (pe_glob (v := .ref (fa 22)) (by rfl) T.eUnknownLabel.gC rfl) pa_nil))) (pa_cons (pe_callB call_isG (by rfl) T.m_isinstance PyProof.Rows.boot_isinstance (pa_cons (pv 0) (pa_cons (pe_glob (v := .ref (fa 23)) (by rfl) T.eNothingLeft.gC rfl) pa_nil))) pa_nil))))))))))), ?_⟩
    have hx := exc_of T c hc
    have hin : c ∈ [1, 2, 3, 4, 5, 6, 7, 8, 9, 10, 11, 12, 13, 14, 15, 16, 17, 18, 19, 20, 21, 22, 23] := by
      revert hc
      generalize c = x
      revert x
      decide
    have hk : ∀ j, j ∈ [1, 2, 3, 4, 5, 6, 7, 8, 9, 10, 11, 12, 13, 14, 15, 16, 17, 18, 19, 20, 21, 22, 23] → PySem.W.kitOne K (.ref (fa c)) (.ref (fa j)) = some (subT c j) := fun j hj => kit_of2 T hin hj
    refine ⟨fun σ G0 => Same H G0 ∧ ∃ L, G0 L = some (.lst ((ids21.take 4).map fun j => V.bl (subT c j))) ∧ σ = [some (.ref a), some (.ref L)], ?_, fun σ G0 hM => ?_⟩
    · have ha := ha0
      have hd := hd0
      refine ⟨_, rfl, a, fa c, dd, _, _, subT c 2, rfl, ha, ⟨_, hd⟩, hx, (fun z hz => (show z = Value.ref (fa 2) from hz)), hk 2 (by decide), _, rfl, a, fa c, dd, _, _, subT c 3, rfl, ha, ⟨_, hd⟩, hx, (fun z hz => (show z = Value.ref (fa 3) from hz)), hk 3 (by decide), _, rfl, a, fa c, dd, _, _, subT c 4, rfl, ha, ⟨_, hd⟩, hx, (fun z hz => (show z = Value.ref (fa 4) from hz)), hk 4 (by decide), _, rfl, a, fa c, dd, _, _, subT c 5, rfl, ha, ⟨_, hd⟩, hx, (fun z hz => (show z = Value.ref (fa 5) from hz)), hk 5 (by decide), small_line (by show 4 ≤ 1000; decide), fun M nM => ?_⟩
      have sM := same_upd (o := HO.lst [V.bl (subT c 2), .bl (subT c 3), .bl (subT c 4), .bl (subT c 5)]) nM
      exact ⟨sM, M, upd_same, rfl⟩
    obtain ⟨sG, L, hL, rfl⟩ := hM
    refine ⟨fun σ G1 => Same H G1 ∧ ∃ L, G1 L = some (.lst ((ids21.take 8).map fun j => V.bl (subT c j))) ∧ σ = [some (.ref a), some (.ref L)], ?_, fun σ G1 hM => ?_⟩
    · have ha := sG _ _ ha0
      have hd := sG _ _ hd0
      refine ⟨_, rfl, _, rfl, a, fa c, dd, _, _, subT c 6, rfl, ha, ⟨_, hd⟩, hx, (fun z hz => (show z = Value.ref (fa 6) from hz)), hk 6 (by decide), _, rfl, a, fa c, dd, _, _, subT c 7, rfl, ha, ⟨_, hd⟩, hx, (fun z hz => (show z = Value.ref (fa 7) from hz)), hk 7 (by decide), _, rfl, a, fa c, dd, _, _, subT c 8, rfl, ha, ⟨_, hd⟩, hx, (fun z hz => (show z = Value.ref (fa 8) from hz)), hk 8 (by decide), _, rfl, a, fa c, dd, _, _, subT c 9, rfl, ha, ⟨_, hd⟩, hx, (fun z hz => (show z = Value.ref (fa 9) from hz)), hk 9 (by decide), small_line (by show 4 ≤ 1000; decide), fun M nM => ?_⟩
      have sM := same_upd (o := HO.lst [V.bl (subT c 6), .bl (subT c 7), .bl (subT c 8), .bl (subT c 9)]) nM
      refine ⟨L, M, _, [V.bl (subT c 6), .bl (subT c 7), .bl (subT c 8), .bl (subT c 9)], rfl, rfl, sM _ _ hL, upd_same, small_line (by show 8 ≤ 1000; decide), fun p np => ?_⟩
      have sp := sG.trans (sM.trans (same_upd (o := HO.lst (((ids21.take 4).map fun j => V.bl (subT c j)) ++ [V.bl (subT c 6), .bl (subT c 7), .bl (subT c 8), .bl (subT c 9)])) np))
      exact ⟨sp, p, upd_same, rfl⟩
    obtain ⟨sG, L, hL, rfl⟩ := hM
    refine ⟨fun σ G2 => Same H G2 ∧ ∃ L, G2 L = some (.lst ((ids21.take 12).map fun j => V.bl (subT c j))) ∧ σ = [some (.ref a), some (.ref L)], ?_, fun σ G2 hM => ?_⟩
    · have ha := sG _ _ ha0
      have hd := sG _ _ hd0
      refine ⟨_, rfl, _, rfl, a, fa c, dd, _, _, subT c 10, rfl, ha, ⟨_, hd⟩, hx, (fun z hz => (show z = Value.ref (fa 10) from hz)), hk 10 (by decide), _, rfl, a, fa c, dd, _, _, subT c 11, rfl, ha, ⟨_, hd⟩, hx, (fun z hz => (show z = Value.ref (fa 11) from hz)), hk 11 (by decide), _, rfl, a, fa c, dd, _, _, subT c 12, rfl, ha, ⟨_, hd⟩, hx, (fun z hz => (show z = Value.ref (fa 12) from hz)), hk 12 (by decide), _, rfl, a, fa c, dd, _, _, subT c 13, rfl, ha, ⟨_, hd⟩, hx, (fun z hz => (show z = Value.ref (fa 13) from hz)), hk 13 (by decide), small_line (by show 4 ≤ 1000; decide), fun M nM => ?_⟩
      have sM := same_upd (o := HO.lst [V.bl (subT c 10), .bl (subT c 11), .bl (subT c 12), .bl (subT c 13)]) nM
      refine ⟨L, M, _, [V.bl (subT c 10), .bl (subT c 11), .bl (subT c 12), .bl (subT c 13)], rfl, rfl, sM _ _ hL, upd_same, small_line (by show 12 ≤ 1000; decide), fun p np => ?_⟩
      have sp := sG.trans (sM.trans (same_upd (o := HO.lst (((ids21.take 8).map fun j => V.bl (subT c j)) ++ [V.bl (subT c 10), .bl (subT c 11), .bl (subT c 12), .bl (subT c 13)])) np))
      exact ⟨sp, p, upd_same, rfl⟩
    obtain ⟨sG, L, hL, rfl⟩ := hM
    refine ⟨fun σ G3 => Same H G3 ∧ ∃ L, G3 L = some (.lst ((ids21.take 16).map fun j => V.bl (subT c j))) ∧ σ = [some (.ref a), some (.ref L)], ?_, fun σ G3 hM => ?_⟩
    · have ha := sG _ _ ha0
      have hd := sG _ _ hd0
      refine ⟨_, rfl, _, rfl, a, fa c, dd, _, _, subT c 14, rfl, ha, ⟨_, hd⟩, hx, (fun z hz => (show z = Value.ref (fa 14) from hz)), hk 14 (by decide), _, rfl, a, fa c, dd, _, _, subT c 15, rfl, ha, ⟨_, hd⟩, hx, (fun z hz => (show z = Value.ref (fa 15) from hz)), hk 15 (by decide), _, rfl, a, fa c, dd, _, _, subT c 16, rfl, ha, ⟨_, hd⟩, hx, (fun z hz => (show z = Value.ref (fa 16) from hz)), hk 16 (by decide), _, rfl, a, fa c, dd, _, _, subT c 17, rfl, ha, ⟨_, hd⟩, hx, (fun z hz => (show z = Value.ref (fa 17) from hz)), hk 17 (by decide), small_line (by show 4 ≤ 1000; decide), fun M nM => ?_⟩
      have sM := same_upd (o := HO.lst [V.bl (subT c 14), .bl (subT c 15), .bl (subT c 16), .bl (subT c 17)]) nM
      refine ⟨L, M, _, [V.bl (subT c 14), .bl (subT c 15), .bl (subT c 16), .bl (subT c 17)], rfl, rfl, sM _ _ hL, upd_same, small_line (by show 16 ≤ 1000; decide), fun p np => ?_⟩
      have sp := sG.trans (sM.trans (same_upd (o := HO.lst (((ids21.take 12).map fun j => V.bl (subT c j)) ++ [V.bl (subT c 14), .bl (subT c 15), .bl (subT c 16), .bl (subT c 17)])) np))
      exact ⟨sp, p, upd_same, rfl⟩
    obtain ⟨sG, L, hL, rfl⟩ := hM
    refine ⟨fun σ G4 => Same H G4 ∧ ∃ L, G4 L = some (.lst ((ids21.take 19).map fun j => V.bl (subT c j))) ∧ σ = [some (.ref a), some (.ref L)], ?_, fun σ G4 hM => ?_⟩
    · have ha := sG _ _ ha0
      have hd := sG _ _ hd0
      refine ⟨_, rfl, _, rfl, a, fa c, dd, _, _, subT c 18, rfl, ha, ⟨_, hd⟩, hx, (fun z hz => (show z = Value.ref (fa 18) from hz)), hk 18 (by decide), _, rfl, a, fa c, dd, _, _, subT c 19, rfl, ha, ⟨_, hd⟩, hx, (fun z hz => (show z = Value.ref (fa 19) from hz)), hk 19 (by decide), _, rfl, a, fa c, dd, _, _, subT c 21, rfl, ha, ⟨_, hd⟩, hx, (fun z hz => (show z = Value.ref (fa 21) from hz)), hk 21 (by decide), small_line (by show 3 ≤ 1000; decide), fun M nM => ?_⟩
      have sM := same_upd (o := HO.lst [V.bl (subT c 18), .bl (subT c 19), .bl (subT c 21)]) nM
      refine ⟨L, M, _, [V.bl (subT c 18), .bl (subT c 19), .bl (subT c 21)], rfl, rfl, sM _ _ hL, upd_same, small_line (by show 19 ≤ 1000; decide), fun p np => ?_⟩
      have sp := sG.trans (sM.trans (same_upd (o := HO.lst (((ids21.take 16).map fun j => V.bl (subT c j)) ++ [V.bl (subT c 18), .bl (subT c 19), .bl (subT c 21)])) np))
      exact ⟨sp, p, upd_same, rfl⟩
    obtain ⟨sG, L, hL, rfl⟩ := hM
    have ha := sG _ _ ha0
    have hd := sG _ _ hd0
    refine ⟨_, rfl, _, rfl, a, fa c, dd, _, _, subT c 22, rfl, ha, ⟨_, hd⟩, hx, (fun z hz => (show z = Value.ref (fa 22) from hz)), hk 22 (by decide), _, rfl, a, fa c, dd, _, _, subT c 23, rfl, ha, ⟨_, hd⟩, hx, (fun z hz => (show z = Value.ref (fa 23) from hz)), hk 23 (by decide), small_line (by show 2 ≤ 1000; decide), fun M nM => ?_⟩
    have sM := same_upd (o := HO.lst [V.bl (subT c 22), .bl (subT c 23)]) nM
    refine ⟨L, M, _, [V.bl (subT c 22), .bl (subT c 23)], rfl, rfl, sM _ _ hL, upd_same, small_line (by show 21 ≤ 1000; decide), fun p np => ?_⟩
    have sp := sG.trans (sM.trans (same_upd (o := HO.lst (((ids21.take 19).map fun j => V.bl (subT c j)) ++ [V.bl (subT c 22), .bl (subT c 23)])) np))
    exact q p _ sp upd_same
end
theorem kit_any {K : PySem.W.Frag} {mg : Str → Option Value} {fa : Nat → Addr} {fd : Nat → FuncData} (T : Txt K mg fa fd) {c : Nat} (hc : c ∈ [1, 2, 3, 4, 5, 6, 7, 8, 9, 10, 11, 12, 13, 14, 15, 16, 17, 18, 19, 20, 21, 22, 23]) : ∀ js : List Nat, (∀ j ∈ js, j ∈ [1, 2, 3, 4, 5, 6, 7, 8, 9, 10, 11, 12, 13, 14, 15, 16, 17, 18, 19, 20, 21, 22, 23]) → PySem.W.kitAny K (.ref (fa c)) (js.map fun j => Value.ref (fa j)) = some (js.any (subT c))
  | [], _ => kitAny_nil
  | j :: js, h => by
    refine kitAny_cons (kit_of2 T hc (h j List.mem_cons_self)) (fun e => ?_) fun e => ?_
    · rw [List.any_cons, e, Bool.false_or]
      exact kit_any T hc js fun i hi => h i (List.mem_cons_of_mem _ hi)
    · rw [List.any_cons, e, Bool.true_or]
theorem cls_all {fa : Nat → Addr} : ∀ js : List Nat, Paired ClsV (js.map fun j => V.ref (fa j)) (js.map fun j => Value.ref (fa j))
  | [] => .nil
  | j :: js => .cons (.own _) (cls_all js)
def valT (t : Nat × List (Str × V)) : V := match t.2 with
  | [_, (_, v)] => v
  | _ => .non
section
variable {P : Program} {w : World} {K : PySem.W.Frag} {mg : Str → Option Value} {base : Heap} {fa : Nat → Addr} {fd : Nat → FuncData}
theorem at_given (T : Txt K mg fa fd) {n : Int} {w0 : Str} {t : Nat × List (Str × V)} (ht : t ∈ tabE n w0) (e : ([2, 7, 8] : List Nat).any (subT t.1) = true) : PySem.W.findIn K (.ref (fa t.1)) "given" = some none ∧ t.2.lookup ("given" : Str) = some (valT t) := by
  simp only [tabE, List.mem_cons, List.not_mem_nil, or_false] at ht
  rcases ht with rfl | rfl | rfl | rfl | rfl | rfl | rfl | rfl | rfl | rfl | rfl | rfl | rfl | rfl | rfl | rfl | rfl | rfl | rfl | rfl | rfl
  · exact ⟨T.nInvalidRatio_given, by rw [lookup_put, if_neg (by decide +kernel), lookup_put, if_pos rfl]; rfl⟩
  · exact absurd e (show ¬ ([2, 7, 8] : List Nat).any (subT 3) = true by decide)
  · exact absurd e (show ¬ ([2, 7, 8] : List Nat).any (subT 4) = true by decide)
  · exact absurd e (show ¬ ([2, 7, 8] : List Nat).any (subT 5) = true by decide)
  · exact absurd e (show ¬ ([2, 7, 8] : List Nat).any (subT 6) = true by decide)
  · exact ⟨T.nInvalidTimes_given, by rw [lookup_put, if_neg (by decide +kernel), lookup_put, if_pos rfl]; rfl⟩
  · exact ⟨T.nInvalidLimit_given, by rw [lookup_put, if_neg (by decide +kernel), lookup_put, if_pos rfl]; rfl⟩
  · exact absurd e (show ¬ ([2, 7, 8] : List Nat).any (subT 9) = true by decide)
  · exact absurd e (show ¬ ([2, 7, 8] : List Nat).any (subT 10) = true by decide)
  · exact absurd e (show ¬ ([2, 7, 8] : List Nat).any (subT 11) = true by decide)
  · exact absurd e (show ¬ ([2, 7, 8] : List Nat).any (subT 12) = true by decide)
  · exact absurd e (show ¬ ([2, 7, 8] : List Nat).any (subT 13) = true by decide)
  · exact absurd e (show ¬ ([2, 7, 8] : List Nat).any (subT 14) = true by decide)
  · exact absurd e (show ¬ ([2, 7, 8] : List Nat).any (subT 15) = true by decide)
  · exact absurd e (show ¬ ([2, 7, 8] : List Nat).any (subT 16) = true by decide)
  · exact absurd e (show ¬ ([2, 7, 8] : List Nat).any (subT 17) = true by decide)
  · exact absurd e (show ¬ ([2, 7, 8] : List Nat).any (subT 18) = true by decide)
  · exact absurd e (show ¬ ([2, 7, 8] : List Nat).any (subT 19) = true by decide)
  · exact absurd e (show ¬ ([2, 7, 8] : List Nat).any (subT 21) = true by decide)
  · exact absurd e (show ¬ ([2, 7, 8] : List Nat).any (subT 22) = true by decide)
  · exact absurd e (show ¬ ([2, 7, 8] : List Nat).any (subT 23) = true by decide)
theorem at_at (T : Txt K mg fa fd) {n : Int} {w0 : Str} {t : Nat × List (Str × V)} (ht : t ∈ tabE n w0) (e : ([3, 5, 6, 17] : List Nat).any (subT t.1) = true) : PySem.W.findIn K (.ref (fa t.1)) "at" = some none ∧ t.2.lookup ("at" : Str) = some (valT t) := by
  simp only [tabE, List.mem_cons, List.not_mem_nil, or_false] at ht
  rcases ht with rfl | rfl | rfl | rfl | rfl | rfl | rfl | rfl | rfl | rfl | rfl | rfl | rfl | rfl | rfl | rfl | rfl | rfl | rfl | rfl | rfl
  · exact absurd e (show ¬ ([3, 5, 6, 17] : List Nat).any (subT 2) = true by decide)
  · exact ⟨T.nInvalidRow_at, by rw [lookup_put, if_neg (by decide +kernel), lookup_put, if_pos rfl]; rfl⟩
  · exact absurd e (show ¬ ([3, 5, 6, 17] : List Nat).any (subT 4) = true by decide)
  · exact ⟨T.nInvalidTie_at, by rw [lookup_put, if_neg (by decide +kernel), lookup_put, if_pos rfl]; rfl⟩
  · exact ⟨T.nInvalidWish_at, by rw [lookup_put, if_neg (by decide +kernel), lookup_put, if_pos rfl]; rfl⟩
  · exact absurd e (show ¬ ([3, 5, 6, 17] : List Nat).any (subT 7) = true by decide)
  · exact absurd e (show ¬ ([3, 5, 6, 17] : List Nat).any (subT 8) = true by decide)
  · exact absurd e (show ¬ ([3, 5, 6, 17] : List Nat).any (subT 9) = true by decide)
  · exact absurd e (show ¬ ([3, 5, 6, 17] : List Nat).any (subT 10) = true by decide)
  · exact absurd e (show ¬ ([3, 5, 6, 17] : List Nat).any (subT 11) = true by decide)
  · exact absurd e (show ¬ ([3, 5, 6, 17] : List Nat).any (subT 12) = true by decide)
  · exact absurd e (show ¬ ([3, 5, 6, 17] : List Nat).any (subT 13) = true by decide)
  · exact absurd e (show ¬ ([3, 5, 6, 17] : List Nat).any (subT 14) = true by decide)
  · exact absurd e (show ¬ ([3, 5, 6, 17] : List Nat).any (subT 15) = true by decide)
  · exact absurd e (show ¬ ([3, 5, 6, 17] : List Nat).any (subT 16) = true by decide)
  · exact ⟨T.nParseError_at, by rw [lookup_put, if_neg (by decide +kernel), lookup_put, if_pos rfl]; rfl⟩
  · exact absurd e (show ¬ ([3, 5, 6, 17] : List Nat).any (subT 18) = true by decide)
  · exact absurd e (show ¬ ([3, 5, 6, 17] : List Nat).any (subT 19) = true by decide)
  · exact absurd e (show ¬ ([3, 5, 6, 17] : List Nat).any (subT 21) = true by decide)
  · exact absurd e (show ¬ ([3, 5, 6, 17] : List Nat).any (subT 22) = true by decide)
  · exact absurd e (show ¬ ([3, 5, 6, 17] : List Nat).any (subT 23) = true by decide)
theorem at_name (T : Txt K mg fa fd) {n : Int} {w0 : Str} {t : Nat × List (Str × V)} (ht : t ∈ tabE n w0) (e : ([4, 11, 21] : List Nat).any (subT t.1) = true) : PySem.W.findIn K (.ref (fa t.1)) "name" = some none ∧ t.2.lookup ("name" : Str) = some (valT t) := by
  simp only [tabE, List.mem_cons, List.not_mem_nil, or_false] at ht
  rcases ht with rfl | rfl | rfl | rfl | rfl | rfl | rfl | rfl | rfl | rfl | rfl | rfl | rfl | rfl | rfl | rfl | rfl | rfl | rfl | rfl | rfl
  · exact absurd e (show ¬ ([4, 11, 21] : List Nat).any (subT 2) = true by decide)
  · exact absurd e (show ¬ ([4, 11, 21] : List Nat).any (subT 3) = true by decide)
  · exact ⟨T.nInvalidName_name, by rw [lookup_put, if_neg (by decide +kernel), lookup_put, if_pos rfl]; rfl⟩
  · exact absurd e (show ¬ ([4, 11, 21] : List Nat).any (subT 5) = true by decide)
  · exact absurd e (show ¬ ([4, 11, 21] : List Nat).any (subT 6) = true by decide)
  · exact absurd e (show ¬ ([4, 11, 21] : List Nat).any (subT 7) = true by decide)
  · exact absurd e (show ¬ ([4, 11, 21] : List Nat).any (subT 8) = true by decide)
  · exact absurd e (show ¬ ([4, 11, 21] : List Nat).any (subT 9) = true by decide)
  · exact absurd e (show ¬ ([4, 11, 21] : List Nat).any (subT 10) = true by decide)
  · exact ⟨T.nSameName_name, by rw [lookup_put, if_neg (by decide +kernel), lookup_put, if_pos rfl]; rfl⟩
  · exact absurd e (show ¬ ([4, 11, 21] : List Nat).any (subT 12) = true by decide)
  · exact absurd e (show ¬ ([4, 11, 21] : List Nat).any (subT 13) = true by decide)
  · exact absurd e (show ¬ ([4, 11, 21] : List Nat).any (subT 14) = true by decide)
  · exact absurd e (show ¬ ([4, 11, 21] : List Nat).any (subT 15) = true by decide)
  · exact absurd e (show ¬ ([4, 11, 21] : List Nat).any (subT 16) = true by decide)
  · exact absurd e (show ¬ ([4, 11, 21] : List Nat).any (subT 17) = true by decide)
  · exact absurd e (show ¬ ([4, 11, 21] : List Nat).any (subT 18) = true by decide)
  · exact absurd e (show ¬ ([4, 11, 21] : List Nat).any (subT 19) = true by decide)
  · exact ⟨T.nUnknownName_name, by rw [lookup_put, if_neg (by decide +kernel), lookup_put, if_pos rfl]; rfl⟩
  · exact absurd e (show ¬ ([4, 11, 21] : List Nat).any (subT 22) = true by decide)
  · exact absurd e (show ¬ ([4, 11, 21] : List Nat).any (subT 23) = true by decide)
theorem at_label (T : Txt K mg fa fd) {n : Int} {w0 : Str} {t : Nat × List (Str × V)} (ht : t ∈ tabE n w0) (e : ([18, 22] : List Nat).any (subT t.1) = true) : PySem.W.findIn K (.ref (fa t.1)) "label" = some none ∧ t.2.lookup ("label" : Str) = some (valT t) := by
  simp only [tabE, List.mem_cons, List.not_mem_nil, or_false] at ht
  rcases ht with rfl | rfl | rfl | rfl | rfl | rfl | rfl | rfl | rfl | rfl | rfl | rfl | rfl | rfl | rfl | rfl | rfl | rfl | rfl | rfl | rfl
  · exact absurd e (show ¬ ([18, 22] : List Nat).any (subT 2) = true by decide)
  · exact absurd e (show ¬ ([18, 22] : List Nat).any (subT 3) = true by decide)
  · exact absurd e (show ¬ ([18, 22] : List Nat).any (subT 4) = true by decide)
  · exact absurd e (show ¬ ([18, 22] : List Nat).any (subT 5) = true by decide)
  · exact absurd e (show ¬ ([18, 22] : List Nat).any (subT 6) = true by decide)
  · exact absurd e (show ¬ ([18, 22] : List Nat).any (subT 7) = true by decide)
  · exact absurd e (show ¬ ([18, 22] : List Nat).any (subT 8) = true by decide)
  · exact absurd e (show ¬ ([18, 22] : List Nat).any (subT 9) = true by decide)
  · exact absurd e (show ¬ ([18, 22] : List Nat).any (subT 10) = true by decide)
  · exact absurd e (show ¬ ([18, 22] : List Nat).any (subT 11) = true by decide)
  · exact absurd e (show ¬ ([18, 22] : List Nat).any (subT 12) = true by decide)
  · exact absurd e (show ¬ ([18, 22] : List Nat).any (subT 13) = true by decide)
  · exact absurd e (show ¬ ([18, 22] : List Nat).any (subT 14) = true by decide)
  · exact absurd e (show ¬ ([18, 22] : List Nat).any (subT 15) = true by decide)
  · exact absurd e (show ¬ ([18, 22] : List Nat).any (subT 16) = true by decide)
  · exact absurd e (show ¬ ([18, 22] : List Nat).any (subT 17) = true by decide)
  · exact ⟨T.nDuplicateLabel_label, by rw [lookup_put, if_neg (by decide +kernel), lookup_put, if_pos rfl]; rfl⟩
  · exact absurd e (show ¬ ([18, 22] : List Nat).any (subT 19) = true by decide)
  · exact absurd e (show ¬ ([18, 22] : List Nat).any (subT 21) = true by decide)
  · exact ⟨T.nUnknownLabel_label, by rw [lookup_put, if_neg (by decide +kernel), lookup_put, if_pos rfl]; rfl⟩
  · exact absurd e (show ¬ ([18, 22] : List Nat).any (subT 23) = true by decide)
theorem at_answer (T : Txt K mg fa fd) {n : Int} {w0 : Str} {t : Nat × List (Str × V)} (ht : t ∈ tabE n w0) (e : ([15, 16] : List Nat).any (subT t.1) = true) : PySem.W.findIn K (.ref (fa t.1)) "answer" = some none ∧ t.2.lookup ("answer" : Str) = some (valT t) := by
  simp only [tabE, List.mem_cons, List.not_mem_nil, or_false] at ht
  rcases ht with rfl | rfl | rfl | rfl | rfl | rfl | rfl | rfl | rfl | rfl | rfl | rfl | rfl | rfl | rfl | rfl | rfl | rfl | rfl | rfl | rfl
  · exact absurd e (show ¬ ([15, 16] : List Nat).any (subT 2) = true by decide)
  · exact absurd e (show ¬ ([15, 16] : List Nat).any (subT 3) = true by decide)
  · exact absurd e (show ¬ ([15, 16] : List Nat).any (subT 4) = true by decide)
  · exact absurd e (show ¬ ([15, 16] : List Nat).any (subT 5) = true by decide)
  · exact absurd e (show ¬ ([15, 16] : List Nat).any (subT 6) = true by decide)
  · exact absurd e (show ¬ ([15, 16] : List Nat).any (subT 7) = true by decide)
  · exact absurd e (show ¬ ([15, 16] : List Nat).any (subT 8) = true by decide)
  · exact absurd e (show ¬ ([15, 16] : List Nat).any (subT 9) = true by decide)
  · exact absurd e (show ¬ ([15, 16] : List Nat).any (subT 10) = true by decide)
  · exact absurd e (show ¬ ([15, 16] : List Nat).any (subT 11) = true by decide)
  · exact absurd e (show ¬ ([15, 16] : List Nat).any (subT 12) = true by decide)
  · exact absurd e (show ¬ ([15, 16] : List Nat).any (subT 13) = true by decide)
  · exact absurd e (show ¬ ([15, 16] : List Nat).any (subT 14) = true by decide)
  · exact ⟨T.nPossible_answer, by rw [lookup_put, if_neg (by decide +kernel), lookup_put, if_pos rfl]; rfl⟩
  · exact ⟨T.nNotImplied_answer, by rw [lookup_put, if_neg (by decide +kernel), lookup_put, if_pos rfl]; rfl⟩
  · exact absurd e (show ¬ ([15, 16] : List Nat).any (subT 17) = true by decide)
  · exact absurd e (show ¬ ([15, 16] : List Nat).any (subT 18) = true by decide)
  · exact absurd e (show ¬ ([15, 16] : List Nat).any (subT 19) = true by decide)
  · exact absurd e (show ¬ ([15, 16] : List Nat).any (subT 21) = true by decide)
  · exact absurd e (show ¬ ([15, 16] : List Nat).any (subT 22) = true by decide)
  · exact absurd e (show ¬ ([15, 16] : List Nat).any (subT 23) = true by decide)
theorem at_many (T : Txt K mg fa fd) {n : Int} {w0 : Str} {t : Nat × List (Str × V)} (ht : t ∈ tabE n w0) (e : ([10] : List Nat).any (subT t.1) = true) : PySem.W.findIn K (.ref (fa t.1)) "many" = some none ∧ t.2.lookup ("many" : Str) = some (valT t) := by
  simp only [tabE, List.mem_cons, List.not_mem_nil, or_false] at ht
  rcases ht with rfl | rfl | rfl | rfl | rfl | rfl | rfl | rfl | rfl | rfl | rfl | rfl | rfl | rfl | rfl | rfl | rfl | rfl | rfl | rfl | rfl
  · exact absurd e (show ¬ ([10] : List Nat).any (subT 2) = true by decide)
  · exact absurd e (show ¬ ([10] : List Nat).any (subT 3) = true by decide)
  · exact absurd e (show ¬ ([10] : List Nat).any (subT 4) = true by decide)
  · exact absurd e (show ¬ ([10] : List Nat).any (subT 5) = true by decide)
  · exact absurd e (show ¬ ([10] : List Nat).any (subT 6) = true by decide)
  · exact absurd e (show ¬ ([10] : List Nat).any (subT 7) = true by decide)
  · exact absurd e (show ¬ ([10] : List Nat).any (subT 8) = true by decide)
  · exact absurd e (show ¬ ([10] : List Nat).any (subT 9) = true by decide)
  · exact ⟨T.nNotTied_many, by rw [lookup_put, if_neg (by decide +kernel), lookup_put, if_pos rfl]; rfl⟩
  · exact absurd e (show ¬ ([10] : List Nat).any (subT 11) = true by decide)
  · exact absurd e (show ¬ ([10] : List Nat).any (subT 12) = true by decide)
  · exact absurd e (show ¬ ([10] : List Nat).any (subT 13) = true by decide)
  · exact absurd e (show ¬ ([10] : List Nat).any (subT 14) = true by decide)
  · exact absurd e (show ¬ ([10] : List Nat).any (subT 15) = true by decide)
  · exact absurd e (show ¬ ([10] : List Nat).any (subT 16) = true by decide)
  · exact absurd e (show ¬ ([10] : List Nat).any (subT 17) = true by decide)
  · exact absurd e (show ¬ ([10] : List Nat).any (subT 18) = true by decide)
  · exact absurd e (show ¬ ([10] : List Nat).any (subT 19) = true by decide)
  · exact absurd e (show ¬ ([10] : List Nat).any (subT 21) = true by decide)
  · exact absurd e (show ¬ ([10] : List Nat).any (subT 22) = true by decide)
  · exact absurd e (show ¬ ([10] : List Nat).any (subT 23) = true by decide)
theorem at_most (T : Txt K mg fa fd) {n : Int} {w0 : Str} {t : Nat × List (Str × V)} (ht : t ∈ tabE n w0) (e : ([19] : List Nat).any (subT t.1) = true) : PySem.W.findIn K (.ref (fa t.1)) "most" = some none ∧ t.2.lookup ("most" : Str) = some (valT t) := by
  simp only [tabE, List.mem_cons, List.not_mem_nil, or_false] at ht
  rcases ht with rfl | rfl | rfl | rfl | rfl | rfl | rfl | rfl | rfl | rfl | rfl | rfl | rfl | rfl | rfl | rfl | rfl | rfl | rfl | rfl | rfl
  · exact absurd e (show ¬ ([19] : List Nat).any (subT 2) = true by decide)
  · exact absurd e (show ¬ ([19] : List Nat).any (subT 3) = true by decide)
  · exact absurd e (show ¬ ([19] : List Nat).any (subT 4) = true by decide)
  · exact absurd e (show ¬ ([19] : List Nat).any (subT 5) = true by decide)
  · exact absurd e (show ¬ ([19] : List Nat).any (subT 6) = true by decide)
  · exact absurd e (show ¬ ([19] : List Nat).any (subT 7) = true by decide)
  · exact absurd e (show ¬ ([19] : List Nat).any (subT 8) = true by decide)
  · exact absurd e (show ¬ ([19] : List Nat).any (subT 9) = true by decide)
  · exact absurd e (show ¬ ([19] : List Nat).any (subT 10) = true by decide)
  · exact absurd e (show ¬ ([19] : List Nat).any (subT 11) = true by decide)
  · exact absurd e (show ¬ ([19] : List Nat).any (subT 12) = true by decide)
  · exact absurd e (show ¬ ([19] : List Nat).any (subT 13) = true by decide)
  · exact absurd e (show ¬ ([19] : List Nat).any (subT 14) = true by decide)
  · exact absurd e (show ¬ ([19] : List Nat).any (subT 15) = true by decide)
  · exact absurd e (show ¬ ([19] : List Nat).any (subT 16) = true by decide)
  · exact absurd e (show ¬ ([19] : List Nat).any (subT 17) = true by decide)
  · exact absurd e (show ¬ ([19] : List Nat).any (subT 18) = true by decide)
  · exact ⟨T.nCapacityExceeded_most, by rw [lookup_put, if_neg (by decide +kernel), lookup_put, if_pos rfl]; rfl⟩
  · exact absurd e (show ¬ ([19] : List Nat).any (subT 21) = true by decide)
  · exact absurd e (show ¬ ([19] : List Nat).any (subT 22) = true by decide)
  · exact absurd e (show ¬ ([19] : List Nat).any (subT 23) = true by decide)
theorem at_first (T : Txt K mg fa fd) {n : Int} {w0 : Str} {t : Nat × List (Str × V)} (ht : t ∈ tabE n w0) (e : ([9] : List Nat).any (subT t.1) = true) : PySem.W.findIn K (.ref (fa t.1)) "first" = some none ∧ t.2.lookup ("first" : Str) = some (valT t) := by
  simp only [tabE, List.mem_cons, List.not_mem_nil, or_false] at ht
  rcases ht with rfl | rfl | rfl | rfl | rfl | rfl | rfl | rfl | rfl | rfl | rfl | rfl | rfl | rfl | rfl | rfl | rfl | rfl | rfl | rfl | rfl
  · exact absurd e (show ¬ ([9] : List Nat).any (subT 2) = true by decide)
  · exact absurd e (show ¬ ([9] : List Nat).any (subT 3) = true by decide)
  · exact absurd e (show ¬ ([9] : List Nat).any (subT 4) = true by decide)
  · exact absurd e (show ¬ ([9] : List Nat).any (subT 5) = true by decide)
  · exact absurd e (show ¬ ([9] : List Nat).any (subT 6) = true by decide)
  · exact absurd e (show ¬ ([9] : List Nat).any (subT 7) = true by decide)
  · exact absurd e (show ¬ ([9] : List Nat).any (subT 8) = true by decide)
  · exact ⟨T.nInvalidCommand_first, by rw [lookup_put, if_neg (by decide +kernel), lookup_put, if_pos rfl]; rfl⟩
  · exact absurd e (show ¬ ([9] : List Nat).any (subT 10) = true by decide)
  · exact absurd e (show ¬ ([9] : List Nat).any (subT 11) = true by decide)
  · exact absurd e (show ¬ ([9] : List Nat).any (subT 12) = true by decide)
  · exact absurd e (show ¬ ([9] : List Nat).any (subT 13) = true by decide)
  · exact absurd e (show ¬ ([9] : List Nat).any (subT 14) = true by decide)
  · exact absurd e (show ¬ ([9] : List Nat).any (subT 15) = true by decide)
  · exact absurd e (show ¬ ([9] : List Nat).any (subT 16) = true by decide)
  · exact absurd e (show ¬ ([9] : List Nat).any (subT 17) = true by decide)
  · exact absurd e (show ¬ ([9] : List Nat).any (subT 18) = true by decide)
  · exact absurd e (show ¬ ([9] : List Nat).any (subT 19) = true by decide)
  · exact absurd e (show ¬ ([9] : List Nat).any (subT 21) = true by decide)
  · exact absurd e (show ¬ ([9] : List Nat).any (subT 22) = true by decide)
  · exact absurd e (show ¬ ([9] : List Nat).any (subT 23) = true by decide)
theorem val_none {n : Int} {w0 : Str} {t : Nat × List (Str × V)} (ht : t ∈ tabE n w0) (n0 : ([2, 7, 8] : List Nat).any (subT t.1) = false) (n1 : ([3, 5, 6, 17] : List Nat).any (subT t.1) = false) (n2 : ([4, 11, 21] : List Nat).any (subT t.1) = false) (n3 : ([18, 22] : List Nat).any (subT t.1) = false) (n4 : ([15, 16] : List Nat).any (subT t.1) = false) (n5 : ([10, 19] : List Nat).any (subT t.1) = false) (e : subT t.1 9 = false) : valT t = .non := by
  simp only [tabE, List.mem_cons, List.not_mem_nil, or_false] at ht
  rcases ht with rfl | rfl | rfl | rfl | rfl | rfl | rfl | rfl | rfl | rfl | rfl | rfl | rfl | rfl | rfl | rfl | rfl | rfl | rfl | rfl | rfl
  · exact absurd n0 (show ¬ ([2, 7, 8] : List Nat).any (subT 2) = false by decide)
  · exact absurd n1 (show ¬ ([3, 5, 6, 17] : List Nat).any (subT 3) = false by decide)
  · exact absurd n2 (show ¬ ([4, 11, 21] : List Nat).any (subT 4) = false by decide)
  · exact absurd n1 (show ¬ ([3, 5, 6, 17] : List Nat).any (subT 5) = false by decide)
  · exact absurd n1 (show ¬ ([3, 5, 6, 17] : List Nat).any (subT 6) = false by decide)
  · exact absurd n0 (show ¬ ([2, 7, 8] : List Nat).any (subT 7) = false by decide)
  · exact absurd n0 (show ¬ ([2, 7, 8] : List Nat).any (subT 8) = false by decide)
  · exact absurd e (show ¬ subT 9 9 = false by decide)
  · exact absurd n5 (show ¬ ([10, 19] : List Nat).any (subT 10) = false by decide)
  · exact absurd n2 (show ¬ ([4, 11, 21] : List Nat).any (subT 11) = false by decide)
  · rfl
  · rfl
  · rfl
  · exact absurd n4 (show ¬ ([15, 16] : List Nat).any (subT 15) = false by decide)
  · exact absurd n4 (show ¬ ([15, 16] : List Nat).any (subT 16) = false by decide)
  · exact absurd n1 (show ¬ ([3, 5, 6, 17] : List Nat).any (subT 17) = false by decide)
  · exact absurd n3 (show ¬ ([18, 22] : List Nat).any (subT 18) = false by decide)
  · exact absurd n5 (show ¬ ([10, 19] : List Nat).any (subT 19) = false by decide)
  · exact absurd n2 (show ¬ ([4, 11, 21] : List Nat).any (subT 21) = false by decide)
  · exact absurd n3 (show ¬ ([18, 22] : List Nat).any (subT 22) = false by decide)
  · rfl
theorem iteT' {c : Bool} {A B : Prop} (h : c = true) (a : A) : ite (c = true) A B := by rw [h]; exact a
theorem iteF' {c : Bool} {A B : Prop} (h : c = false) (a : B) : ite (c = true) A B := by rw [h]; exact a
theorem xf_of {K : PySem.W.Frag} {mg : Str → Option Value} {fa : Nat → Addr} {fd : Nat → FuncData} (T : Txt K mg fa fd) : ∀ c ∈ ids21, XfC K (fa c) := by
  have h := T
  intro c hc
  simp only [ids21, List.mem_cons, List.not_mem_nil, or_false] at hc
  rcases hc with rfl | rfl | rfl | rfl | rfl | rfl | rfl | rfl | rfl | rfl | rfl | rfl | rfl | rfl | rfl | rfl | rfl | rfl | rfl | rfl | rfl
  · exact h.eInvalidRatio.xf
  · exact h.eInvalidRow.xf
  · exact h.eInvalidName.xf
  · exact h.eInvalidTie.xf
  · exact h.eInvalidWish.xf
  · exact h.eInvalidTimes.xf
  · exact h.eInvalidLimit.xf
  · exact h.eInvalidCommand.xf
  · exact h.eNotTied.xf
  · exact h.eSameName.xf
  · exact h.eNamesDiffer.xf
  · exact h.eEmptyFigure.xf
  · exact h.eImpossible.xf
  · exact h.ePossible.xf
  · exact h.eNotImplied.xf
  · exact h.eParseError.xf
  · exact h.eDuplicateLabel.xf
  · exact h.eCapacityExceeded.xf
  · exact h.eUnknownName.xf
  · exact h.eUnknownLabel.xf
  · exact h.eNothingLeft.xf
def spVal (fa : Nat → Addr) : Sp := fun vs H Q _ => ∃ (u : V) (t : Nat × List (Str × V)) (n : Int) (w0 : Str), vs = [u] ∧ Ev fa H u t ∧ t ∈ tabE n w0 ∧ ∀ H', Same H H' → Q (valT t) H'
theorem ok_value_of (T : Txt K mg fa fd) : FnOk P w K mg base CX0 3 (fa 31) (fd 31) ["_law_e"] (spVal fa) := by
  refine T.F_value_of.ok sc_value_of (fun vs H Q E h => ?_) (fun cdv A outer s H vs Q E hr h => ?_)
  · obtain ⟨u, t, n, w0, rfl, _⟩ := h
    rfl
  · obtain ⟨u, t, n, w0, rfl, ⟨a, dd, rfl, ha, hd⟩, ht, q⟩ := h
    refine ⟨_, (C8.pss_cut (ps_if (pt_val (pe_callB call_isGT (by rfl) T.m_isinstance PyProof.Rows.boot_isinstance (pa_cons (pv 0) (pa_cons (pe_tup (pa_cons (pe_glob (v := .ref (fa 2)) (by rfl) T.eInvalidRatio.gC rfl) (pa_cons (pe_glob (v := .ref (fa 7)) (by rfl) T.eInvalidTimes.gC rfl) (pa_cons (pe_glob (v := .ref (fa 8)) (by rfl) T.eInvalidLimit.gC rfl) pa_nil)))) pa_nil)))) (pss_one (ps_ret (pe_xg (pv 0)))) pss_nil)
      (C8.pss_cut (ps_if (pt_val (pe_callB call_isGT (by rfl) T.m_isinstance PyProof.Rows.boot_isinstance (pa_cons (pv 0) (pa_cons (pe_tup (pa_cons (pe_glob (v := .ref (fa 3)) (by rfl) T.eInvalidRow.gC rfl) (pa_cons (pe_glob (v := .ref (fa 5)) (by rfl) T.eInvalidTie.gC rfl) (pa_cons (pe_glob (v := .ref (fa 6)) (by rfl) T.eInvalidWish.gC rfl) (pa_cons (pe_glob (v := .ref (fa 17)) (by rfl) T.eParseError.gC rfl) pa_nil))))) pa_nil)))) (pss_one (ps_ret (pe_xg (pv 0)))) pss_nil)
      (C8.pss_cut (ps_if (pt_val (pe_callB call_isGT (by rfl) T.m_isinstance PyProof.Rows.boot_isinstance (pa_cons (pv 0) (pa_cons (pe_tup (pa_cons (pe_glob (v := .ref (fa 4)) (by rfl) T.eInvalidName.gC rfl) (pa_cons (pe_glob (v := .ref (fa 11)) (by rfl) T.eSameName.gC rfl) (pa_cons (pe_glob (v := .ref (fa 21)) (by rfl) T.eUnknownName.gC rfl) pa_nil)))) pa_nil)))) (pss_one (ps_ret (pe_xg (pv 0)))) pss_nil)
      (C8.pss_cut (ps_if (pt_val (pe_callB call_isGT (by rfl) T.m_isinstance PyProof.Rows.boot_isinstance (pa_cons (pv 0) (pa_cons (pe_tup (pa_cons (pe_glob (v := .ref (fa 18)) (by rfl) T.eDuplicateLabel.gC rfl) (pa_cons (pe_glob (v := .ref (fa 22)) (by rfl) T.eUnknownLabel.gC rfl) pa_nil))) pa_nil)))) (pss_one (ps_ret (pe_xg (pv 0)))) pss_nil)
      (C8.pss_cut (ps_if (pt_val (pe_callB call_isGT (by rfl) T.m_isinstance PyProof.Rows.boot_isinstance (pa_cons (pv 0) (pa_cons (pe_tup (pa_cons (pe_glob (v := .ref (fa 15)) (by rfl) T.ePossible.gC rfl) (pa_cons (pe_glob (v := .ref (fa 16)) (by rfl) T.eNotImplied.gC rfl) pa_nil))) pa_nil)))) (pss_one (ps_ret (pe_xg (pv 0)))) pss_nil)
      (C8.pss_cut (ps_if (pt_val (pe_callB call_isGT (by rfl) T.m_isinstance PyProof.Rows.boot_isinstance (pa_cons (pv 0) (pa_cons (pe_tup (pa_cons (pe_glob (v := .ref (fa 10)) (by rfl) T.eNotTied.gC rfl) (pa_cons (pe_glob (v := .ref (fa 19)) (by rfl) T.eCapacityExceeded.gC rfl) pa_nil))) pa_nil)))) (pss_one (ps_ret (pe_ifExp (pt_val (pe_callB call_isG (by rfl) T.m_isinstance PyProof.Rows.boot_isinstance (pa_cons (pv 0) (pa_cons (pe_glob (v := .ref (fa 10)) (by rfl) T.eNotTied.gC rfl) pa_nil)))) (pe_xg (pv 0)) (pe_xg (pv 0))))) pss_nil)
      (pss_one (ps_ret (pe_ifExp (pt_val (pe_callB call_isG (by rfl) T.m_isinstance PyProof.Rows.boot_isinstance (pa_cons (pv 0) (pa_cons (pe_glob (v := .ref (fa 9)) (by rfl) T.eInvalidCommand.gC rfl) pa_nil)))) (pe_xg (pv 0)) pe_non))))))))), ?_⟩
    have hc21 : t.1 ∈ ids21 := by
      have h := ht
      simp only [tabE, List.mem_cons, List.not_mem_nil, or_false] at h
      rcases h with rfl | rfl | rfl | rfl | rfl | rfl | rfl | rfl | rfl | rfl | rfl | rfl | rfl | rfl | rfl | rfl | rfl | rfl | rfl | rfl | rfl <;> (dsimp only; decide)
    have hx := exc_of T t.1 hc21
    have hxf := xf_of T t.1 hc21
    have hin : t.1 ∈ [1, 2, 3, 4, 5, 6, 7, 8, 9, 10, 11, 12, 13, 14, 15, 16, 17, 18, 19, 20, 21, 22, 23] := by
      revert hc21
      generalize t.1 = x
      revert x
      decide
    refine ⟨fun σ G0 => Same H G0 ∧ ([2, 7, 8] : List Nat).any (subT t.1) = false ∧ σ = [some (.ref a)], ?_, fun σ G0 hM => ?_⟩
    · refine ⟨_, rfl, small_line (by show 3 ≤ 1000; decide), fun p np => ?_⟩
      have sp := (Same.refl H).trans (same_upd (o := HO.tup (([2, 7, 8] : List Nat).map fun j => V.ref (fa j))) np)
      refine ⟨a, fa t.1, dd, p, _, _, _, rfl, sp _ _ ha, ⟨_, sp _ _ hd⟩, hx, upd_same, cls_all [2, 7, 8], kit_any T hin [2, 7, 8] (by decide), _, rfl, ?_⟩
      by_cases e : ([2, 7, 8] : List Nat).any (subT t.1) = true
      · obtain ⟨h1, h2⟩ := at_given T ht e
        exact iteT' e ⟨_, rfl, a, fa t.1, dd, t.2, valT t, rfl, hxf, h1, sp _ _ ha, sp _ _ hd, h2, q _ sp⟩
      · exact iteF' (Bool.eq_false_iff.mpr e) ⟨sp, Bool.eq_false_iff.mpr e, rfl⟩
    obtain ⟨s0, n0, rfl⟩ := hM
    refine ⟨fun σ G1 => Same H G1 ∧ ([3, 5, 6, 17] : List Nat).any (subT t.1) = false ∧ σ = [some (.ref a)], ?_, fun σ G1 hM => ?_⟩
    · refine ⟨_, rfl, small_line (by show 4 ≤ 1000; decide), fun p np => ?_⟩
      have sp := s0.trans (same_upd (o := HO.tup (([3, 5, 6, 17] : List Nat).map fun j => V.ref (fa j))) np)
      refine ⟨a, fa t.1, dd, p, _, _, _, rfl, sp _ _ ha, ⟨_, sp _ _ hd⟩, hx, upd_same, cls_all [3, 5, 6, 17], kit_any T hin [3, 5, 6, 17] (by decide), _, rfl, ?_⟩
      by_cases e : ([3, 5, 6, 17] : List Nat).any (subT t.1) = true
      · obtain ⟨h1, h2⟩ := at_at T ht e
        exact iteT' e ⟨_, rfl, a, fa t.1, dd, t.2, valT t, rfl, hxf, h1, sp _ _ ha, sp _ _ hd, h2, q _ sp⟩
      · exact iteF' (Bool.eq_false_iff.mpr e) ⟨sp, Bool.eq_false_iff.mpr e, rfl⟩
    obtain ⟨s1, n1, rfl⟩ := hM
    refine ⟨fun σ G2 => Same H G2 ∧ ([4, 11, 21] : List Nat).any (subT t.1) = false ∧ σ = [some (.ref a)], ?_, fun σ G2 hM => ?_⟩
    · refine ⟨_, rfl, small_line (by show 3 ≤ 1000; decide), fun p np => ?_⟩
      have sp := s1.trans (same_upd (o := HO.tup (([4, 11, 21] : List Nat).map fun j => V.ref (fa j))) np)
      refine ⟨a, fa t.1, dd, p, _, _, _, rfl, sp _ _ ha, ⟨_, sp _ _ hd⟩, hx, upd_same, cls_all [4, 11, 21], kit_any T hin [4, 11, 21] (by decide), _, rfl, ?_⟩
      by_cases e : ([4, 11, 21] : List Nat).any (subT t.1) = true
      · obtain ⟨h1, h2⟩ := at_name T ht e
        exact iteT' e ⟨_, rfl, a, fa t.1, dd, t.2, valT t, rfl, hxf, h1, sp _ _ ha, sp _ _ hd, h2, q _ sp⟩
      · exact iteF' (Bool.eq_false_iff.mpr e) ⟨sp, Bool.eq_false_iff.mpr e, rfl⟩
    obtain ⟨s2, n2, rfl⟩ := hM
    refine ⟨fun σ G3 => Same H G3 ∧ ([18, 22] : List Nat).any (subT t.1) = false ∧ σ = [some (.ref a)], ?_, fun σ G3 hM => ?_⟩
    · refine ⟨_, rfl, small_line (by show 2 ≤ 1000; decide), fun p np => ?_⟩
      have sp := s2.trans (same_upd (o := HO.tup (([18, 22] : List Nat).map fun j => V.ref (fa j))) np)
      refine ⟨a, fa t.1, dd, p, _, _, _, rfl, sp _ _ ha, ⟨_, sp _ _ hd⟩, hx, upd_same, cls_all [18, 22], kit_any T hin [18, 22] (by decide), _, rfl, ?_⟩
      by_cases e : ([18, 22] : List Nat).any (subT t.1) = true
      · obtain ⟨h1, h2⟩ := at_label T ht e
        exact iteT' e ⟨_, rfl, a, fa t.1, dd, t.2, valT t, rfl, hxf, h1, sp _ _ ha, sp _ _ hd, h2, q _ sp⟩
      · exact iteF' (Bool.eq_false_iff.mpr e) ⟨sp, Bool.eq_false_iff.mpr e, rfl⟩
    obtain ⟨s3, n3, rfl⟩ := hM
    refine ⟨fun σ G4 => Same H G4 ∧ ([15, 16] : List Nat).any (subT t.1) = false ∧ σ = [some (.ref a)], ?_, fun σ G4 hM => ?_⟩
    · refine ⟨_, rfl, small_line (by show 2 ≤ 1000; decide), fun p np => ?_⟩
      have sp := s3.trans (same_upd (o := HO.tup (([15, 16] : List Nat).map fun j => V.ref (fa j))) np)
      refine ⟨a, fa t.1, dd, p, _, _, _, rfl, sp _ _ ha, ⟨_, sp _ _ hd⟩, hx, upd_same, cls_all [15, 16], kit_any T hin [15, 16] (by decide), _, rfl, ?_⟩
      by_cases e : ([15, 16] : List Nat).any (subT t.1) = true
      · obtain ⟨h1, h2⟩ := at_answer T ht e
        exact iteT' e ⟨_, rfl, a, fa t.1, dd, t.2, valT t, rfl, hxf, h1, sp _ _ ha, sp _ _ hd, h2, q _ sp⟩
      · exact iteF' (Bool.eq_false_iff.mpr e) ⟨sp, Bool.eq_false_iff.mpr e, rfl⟩
    obtain ⟨s4, n4, rfl⟩ := hM
    refine ⟨fun σ G5 => Same H G5 ∧ ([10, 19] : List Nat).any (subT t.1) = false ∧ σ = [some (.ref a)], ?_, fun σ G5 hM => ?_⟩
    · refine ⟨_, rfl, small_line (by show 2 ≤ 1000; decide), fun p np => ?_⟩
      have sp := s4.trans (same_upd (o := HO.tup (([10, 19] : List Nat).map fun j => V.ref (fa j))) np)
      refine ⟨a, fa t.1, dd, p, _, _, _, rfl, sp _ _ ha, ⟨_, sp _ _ hd⟩, hx, upd_same, cls_all [10, 19], kit_any T hin [10, 19] (by decide), _, rfl, ?_⟩
      by_cases e : ([10, 19] : List Nat).any (subT t.1) = true
      · refine iteT' e ⟨_, rfl, a, fa t.1, dd, _, _, subT t.1 10, rfl, sp _ _ ha, ⟨_, sp _ _ hd⟩, hx, (fun z hz => (show z = Value.ref (fa 10) from hz)), kit_of2 T hin (by decide), _, rfl, ?_⟩
        by_cases e2 : subT t.1 10 = true
        · obtain ⟨h1, h2⟩ := at_many T ht (by rw [List.any_cons, e2]; rfl)
          exact iteT' e2 ⟨_, rfl, a, fa t.1, dd, t.2, valT t, rfl, hxf, h1, sp _ _ ha, sp _ _ hd, h2, q _ sp⟩
        · have e3 : subT t.1 19 = true := by
            rw [List.any_cons, List.any_cons, List.any_nil, Bool.or_false, Bool.eq_false_iff.mpr e2, Bool.false_or] at e
            exact e
          obtain ⟨h1, h2⟩ := at_most T ht (by rw [List.any_cons, e3]; rfl)
          exact iteF' (Bool.eq_false_iff.mpr e2) ⟨_, rfl, a, fa t.1, dd, t.2, valT t, rfl, hxf, h1, sp _ _ ha, sp _ _ hd, h2, q _ sp⟩
      · exact iteF' (Bool.eq_false_iff.mpr e) ⟨sp, Bool.eq_false_iff.mpr e, rfl⟩
    obtain ⟨s5, n5, rfl⟩ := hM
    refine ⟨_, rfl, a, fa t.1, dd, _, _, subT t.1 9, rfl, s5 _ _ ha, ⟨_, s5 _ _ hd⟩, hx, (fun z hz => (show z = Value.ref (fa 9) from hz)), kit_of2 T hin (by decide), _, rfl, ?_⟩
    by_cases e2 : subT t.1 9 = true
    · obtain ⟨h1, h2⟩ := at_first T ht (by rw [List.any_cons, e2]; rfl)
      exact iteT' e2 ⟨_, rfl, a, fa t.1, dd, t.2, valT t, rfl, hxf, h1, s5 _ _ ha, s5 _ _ hd, h2, q _ s5⟩
    · refine iteF' (Bool.eq_false_iff.mpr e2) ?_
      have := q _ s5
      rw [val_none ht n0 n1 n2 n3 n4 n5 (Bool.eq_false_iff.mpr e2)] at this
      exact this
end
def tag18 : List Str := [Str.ofString "InvalidRatio", Str.ofString "InvalidRow", Str.ofString "InvalidName", Str.ofString "InvalidTie", Str.ofString "InvalidWish", Str.ofString "InvalidTimes", Str.ofString "InvalidLimit", Str.ofString "InvalidCommand", Str.ofString "NotTied", Str.ofString "SameName", Str.ofString "NamesDiffer", Str.ofString "EmptyFigure", Str.ofString "Impossible", Str.ofString "Possible", Str.ofString "NotImplied", Str.ofString "ParseError", Str.ofString "DuplicateLabel", Str.ofString "CapacityExceeded"]
def tag21 : List Str := tag18 ++ [Str.ofString "UnknownName", Str.ofString "UnknownLabel", Str.ofString "NothingLeft"]
theorem tags_split : Txt.split (Str.ofString "InvalidRatio InvalidRow InvalidName InvalidTie InvalidWish InvalidTimes InvalidLimit InvalidCommand" ++ Str.ofString " NotTied SameName NamesDiffer EmptyFigure Impossible Possible NotImplied ParseError" ++ Str.ofString " DuplicateLabel CapacityExceeded") (Str.ofString " ") = tag18 := by decide +kernel
theorem paired_at {α β : Type} {R : α → β → Prop} : ∀ {xs : List α} {ys : List β} {i : Nat}, Paired R xs ys → i < ys.length → ∃ x y, xs[i]? = some x ∧ ys[i]? = some y ∧ R x y
  | _, _, i, .nil, h => absurd h (Nat.not_lt_zero i)
  | x :: _, y :: _, 0, .cons r _, _ => ⟨x, y, rfl, rfl, r⟩
  | _ :: _, _ :: _, i + 1, .cons _ t, h => paired_at (i := i) t (Nat.lt_of_succ_lt_succ h)
theorem eqv_bools : ∀ bs : List Bool, PyData.eqvAll (bs.map PyData.bool) (bs.map PyData.bool) = true
  | [] => rfl
  | b :: bs => by
    show (b == b && PyData.eqvAll (bs.map PyData.bool) (bs.map PyData.bool)) = true
    rw [eqv_bools bs, beq_self_eq_true]
    rfl
theorem dp_bools {K : PySem.W.Frag} {H : Hp} : ∀ bs : List Bool, DpAll K H (bs.map V.bl) (bs.map PyData.bool)
  | [] => .nil
  | b :: bs => .cons (.bl b) (dp_bools bs)
theorem neq_bools {K : PySem.W.Frag} {G : Hp} {a b : Addr} {bs : List Bool} {Q : VK} (ha : G a = some (.lst (bs.map V.bl))) (hb : G b = some (.lst (bs.map V.bl))) (hs : SeqAt.shaped (.list (bs.map PyData.bool)) = true) (q : Q (.bl false) G) : rNeD K (.ref a) (.ref b) G Q := by
  refine ⟨_, _, .lst (SqL.of ha) (dp_bools bs), .lst (SqL.of hb) (dp_bools bs), hs, hs, ?_⟩
  have e : PyData.eqv (.list (bs.map PyData.bool)) (.list (bs.map PyData.bool)) = true := eqv_bools bs
  rw [e]
  exact q
theorem flag_row : ∀ k : Fin 21, ids21.map (fun j => V.bl (subT (ids21.getD k.val 0) j)) = ((List.range 21).map fun j => decide (j = k.val)).map V.bl := by
  intro k
  have e : ∀ k : Fin 21, ids21.map (fun j => subT (ids21.getD k.val 0) j) = (List.range 21).map fun j => decide (j = k.val) := by decide +kernel
  rw [← e k, List.map_map]
  rfl
theorem shaped_row : ∀ k : Fin 21, SeqAt.shaped (.list (((List.range 21).map fun j => decide (j = k.val)).map PyData.bool)) = true := by decide +kernel
def toldB (at' : Nat) : List Bool := [decide (at' < 18), decide (18 ≤ at' ∧ at' < 20), decide (at' < 18), decide (17 < at'), decide (at' = 20)]
theorem told_row : ∀ k : Fin 21, [subT (ids21.getD k.val 0) 1, subT (ids21.getD k.val 0) 20, subB (ids21.getD k.val 0) 0, subB (ids21.getD k.val 0) 1, subB (ids21.getD k.val 0) 2] = toldB k.val := by decide +kernel
theorem shaped_told : ∀ k : Fin 21, SeqAt.shaped (.list ((toldB k.val).map PyData.bool)) = true := by decide +kernel
theorem ids_in : ∀ k : Fin 21, ids21.getD k.val 0 ∈ ids21 ∧ ids21.getD k.val 0 ∈ [1, 2, 3, 4, 5, 6, 7, 8, 9, 10, 11, 12, 13, 14, 15, 16, 17, 18, 19, 20, 21, 22, 23] := by decide +kernel
def tagV (t : Nat × List (Str × V)) : V := match t.2 with
  | (_, v) :: _ => v
  | _ => .non
theorem tab_ids (n : Int) (w0 : Str) : (tabE n w0).map (fun t => t.1) = ids21 := rfl
theorem tab_tags (n : Int) (w0 : Str) : (tabE n w0).map tagV = tag21.map V.str := rfl
theorem tab_tag {n : Int} {w0 : Str} {t : Nat × List (Str × V)} (ht : t ∈ tabE n w0) : t.2.lookup ("tag" : Str) = some (tagV t) := by
  simp only [tabE, List.mem_cons, List.not_mem_nil, or_false] at ht
  rcases ht with rfl | rfl | rfl | rfl | rfl | rfl | rfl | rfl | rfl | rfl | rfl | rfl | rfl | rfl | rfl | rfl | rfl | rfl | rfl | rfl | rfl <;> (rw [lookup_put, if_pos rfl]; rfl)
theorem tab_leaf {n : Int} {w0 : Str} {t : Nat × List (Str × V)} (ht : t ∈ tabE n w0) : Leaf (valT t) (valT t) := by
  refine ⟨rfl, ?_⟩
  simp only [tabE, List.mem_cons, List.not_mem_nil, or_false] at ht
  rcases ht with rfl | rfl | rfl | rfl | rfl | rfl | rfl | rfl | rfl | rfl | rfl | rfl | rfl | rfl | rfl | rfl | rfl | rfl | rfl | rfl | rfl <;> first | exact .inl rfl | exact .inr (.inr (.inl ⟨_, rfl⟩)) | exact .inr (.inr (.inr ⟨_, rfl⟩))
theorem tag_none {K : PySem.W.Frag} {mg : Str → Option Value} {fa : Nat → Addr} {fd : Nat → FuncData} (T : Txt K mg fa fd) : ∀ c ∈ ids21, PySem.W.findIn K (.ref (fa c)) "tag" = some none := by
  have h := T
  intro c hc
  simp only [ids21, List.mem_cons, List.not_mem_nil, or_false] at hc
  rcases hc with rfl | rfl | rfl | rfl | rfl | rfl | rfl | rfl | rfl | rfl | rfl | rfl | rfl | rfl | rfl | rfl | rfl | rfl | rfl | rfl | rfl
  · exact h.eInvalidRatio.tag
  · exact h.eInvalidRow.tag
  · exact h.eInvalidName.tag
  · exact h.eInvalidTie.tag
  · exact h.eInvalidWish.tag
  · exact h.eInvalidTimes.tag
  · exact h.eInvalidLimit.tag
  · exact h.eInvalidCommand.tag
  · exact h.eNotTied.tag
  · exact h.eSameName.tag
  · exact h.eNamesDiffer.tag
  · exact h.eEmptyFigure.tag
  · exact h.eImpossible.tag
  · exact h.ePossible.tag
  · exact h.eNotImplied.tag
  · exact h.eParseError.tag
  · exact h.eDuplicateLabel.tag
  · exact h.eCapacityExceeded.tag
  · exact h.eUnknownName.tag
  · exact h.eUnknownLabel.tag
  · exact h.eNothingLeft.tag
theorem kit_b {K : PySem.W.Frag} {mg : Str → Option Value} {fa : Nat → Addr} {fd : Nat → FuncData} (T : Txt K mg fa fd) {c : Nat} (hc : c ∈ [1, 2, 3, 4, 5, 6, 7, 8, 9, 10, 11, 12, 13, 14, 15, 16, 17, 18, 19, 20, 21, 22, 23]) : PySem.W.kitOne K (.ref (fa c)) (.type "ValueError") = some (subB c 0) ∧ PySem.W.kitOne K (.ref (fa c)) (.type "LookupError") = some (subB c 1) ∧ PySem.W.kitOne K (.ref (fa c)) (.type "IndexError") = some (subB c 2) := by
  have h := List.all_eq_true.mp T.kitB c hc
  rw [Bool.and_eq_true, Bool.and_eq_true] at h
  exact ⟨beq_iff_eq.mp h.1.1, beq_iff_eq.mp h.1.2, beq_iff_eq.mp h.2⟩
/-- row at' of the table, and the error made for it -/
theorem row_at {fa : Nat → Addr} {G : Hp} {us : List V} {n : Int} {w0 : Str} (h : Paired (Ev fa G) us (tabE n w0)) {at' : Nat} (hlt : at' < 21) : ∃ u t, us[at']? = some u ∧ (tabE n w0)[at']? = some t ∧ Ev fa G u t ∧ t ∈ tabE n w0 ∧ t.1 = ids21.getD at' 0 ∧ (tag21.map V.str)[at']? = some (tagV t) ∧ ((tabE n w0).map valT)[at']? = some (valT t) := by
  obtain ⟨u, t, hu, ht, he⟩ := paired_at (i := at') h hlt
  refine ⟨u, t, hu, ht, he, List.mem_of_getElem? ht, ?_, ?_, by rw [List.getElem?_map, ht]; rfl⟩
  · rw [← tab_ids n w0, List.getD_eq_getElem?_getD, List.getElem?_map, ht]
    rfl
  · rw [← tab_tags n w0, List.getElem?_map, ht]
    rfl
theorem new_ne {H : Hp} {a c p : Addr} (h : FeedOk H a c) (n : H p = none) : p ≠ a := by
  obtain ⟨_, _, _, _, ha, _⟩ := h
  exact (ne_of_none ha n).symm
theorem but_other {H H' : Hp} {a c x : Addr} {o : HO} (hF : FeedOk H a c) (b : But a H H') (e : H x = some o) (n : ∀ xs, o ≠ .lst xs) : H' x = some o := by
  obtain ⟨_, _, _, _, ha, _⟩ := hF
  refine b x o (fun z => ?_) e
  rw [z, ha] at e
  exact n _ (Option.some.inj e).symm
theorem exo_lst {e C : Addr} {d : Option Addr} : ∀ xs, exo e C d ≠ .lst xs := fun xs z => by
  have z' : HO.ext _ = HO.lst xs := z
  cases z'
theorem exd_lst {e : Addr} {fs : List (Str × V)} : ∀ xs, exd e fs ≠ .lst xs := fun xs z => by
  have z' : HO.ext _ = HO.lst xs := z
  cases z'
theorem Ev.but {fa : Nat → Addr} {H H' : Hp} {a c : Addr} {u : V} {t : Nat × List (Str × V)} (h : Ev fa H u t) (hF : FeedOk H a c) (b : But a H H') : Ev fa H' u t := by
  obtain ⟨x, dd, e, h1, h2⟩ := h
  exact ⟨x, dd, e, but_other hF b h1 exo_lst, but_other hF b h2 exd_lst⟩
section
variable {P : Program} {w : World} {K : PySem.W.Frag} {mg : Str → Option Value} {base : Heap} {fa : Nat → Addr} {fd : Nat → FuncData}
def spLaw (K : PySem.W.Frag) : Sp := fun vs H Q _ => ∃ (a : Addr) (ns : List Int), vs = [.ref a] ∧ SqL K H a (ns.map V.int) ∧ ns.length ≤ 63 ∧ ∀ H', Q (.bl true) H'
theorem ok_p_law (T : Txt K mg fa fd) : FnOk P w K mg base CX0 8 (fa 32) (fd 32) ["_law_script"] (spLaw K) := by
  refine T.F_p_law.ok sc_p_law (fun vs H Q E h => ?_) (fun cdv A outer s H vs Q E hr h => ?_)
  · obtain ⟨a, ns, rfl, _⟩ := h
    rfl
  · obtain ⟨s0, ns, rfl, hS, hlen, q⟩ := h
    refine ⟨_, (C8.pss_cut (ps_set (i := 1) sc_p_law.nd rfl (.inl rfl) (pe_call (ok_feed T) (hr.mono (by decide)) (by rfl) T.g_feed T.F_feed.kp T.b_feed .nil pass0 (pa_cons (pv 0) pa_nil)))
      (C8.pss_cut (ps_par (i := 2) (j := 3) (by rfl) sc_p_law.nd rfl rfl (by decide) rfl rfl (pa_cons (pe_call (ok_draw T) (hr.mono (by decide)) (by rfl) T.g_draw T.F_draw.kp T.b_draw .nil pass0 (pa_cons (pv 1) (pa_cons (pe_op op_pow pe_int pe_int) pa_nil))) (pa_cons (pe_call (ok_any T) (hr.mono (by decide)) (by rfl) T.g_any T.F_any.kp T.b_any .nil pass0 (pa_cons (pv 1) (pa_cons (pe_lst (pa_cons pe_str (pa_cons pe_str (pa_cons pe_str pa_nil)))) pa_nil))) pa_nil)) (by rfl))
      (C8.pss_cut (ps_set (i := 4) sc_p_law.nd rfl (.inl rfl) pe_str)
      (C8.pss_cut (ps_set (i := 4) sc_p_law.nd rfl (.inl rfl) (pe_op op_add_str (pv 4) pe_str))
      (C8.pss_cut (ps_set (i := 4) sc_p_law.nd rfl (.inl rfl) (pe_m1 PySem.F.slot_str_split PySem.F.type_str_split mt_split (pe_op op_add_str (pv 4) pe_str) pe_str (by rfl) (by rfl) (by rfl)))
      (C8.pss_cut (ps_set (i := 4) sc_p_law.nd rfl (.inl rfl) (pe_op op_cat (pv 4) (pe_lst (pa_cons pe_str (pa_cons pe_str (pa_cons pe_str pa_nil))))))
      (C8.pss_cut (ps_set (i := 5) sc_p_law.nd rfl (.inl rfl) (pe_lst (pa_cons (pv 2) (pa_cons (pv 2) (pa_cons (pv 3) (pa_cons (pv 2) (pa_cons (pv 2) (pa_cons (pv 2) (pa_cons (pv 2) (pa_cons (pv 3) (pa_cons (pv 2) (pa_cons (pv 3) (pa_cons pe_non (pa_cons pe_non (pa_cons pe_non (pa_cons (pv 3) (pa_cons (pv 3) (pa_cons (pv 2) (pa_cons (pv 3) (pa_cons (pv 2) (pa_cons (pv 3) (pa_cons (pv 3) (pa_cons pe_non pa_nil)))))))))))))))))))))))
      (C8.pss_cut (ps_asg (pe_tup (pa_cons (pe_call (ok_made T) (hr.mono (by decide)) (by rfl) T.g_made_errors T.F_made_errors.kp T.b_made_errors .nil pass0 (pa_cons (pv 2) (pa_cons (pv 3) pa_nil))) (pa_cons (pe_call (ok_draw T) (hr.mono (by decide)) (by rfl) T.g_draw T.F_draw.kp T.b_draw .nil pass0 (pa_cons (pv 1) (pa_cons pe_int pa_nil))) pa_nil))) (pg_tup (by rfl) (pgs_cons (pg_name (i := 6) sc_p_law.nd rfl (.inl rfl)) (pgs_cons (pg_name (i := 7) sc_p_law.nd rfl (.inr rfl)) pgs_nil))))
      (C8.pss_cut (ps_for PassesOwn.never rfl (pi_list (pe_lc (own := [("_law_k", 11)]) (g := gName 11) (tt := tYes) rfl sc_p_law.nd (pi_range1 (by rfl) T.m_range (pa_cons pe_int pa_nil)) (blkOk_by (own := [("_law_k", 11)]) (N := ["_law_script", "_law_feed_here", "_law_number", "_law_word", "_law_tags", "_law_due", "_law_made", "_law_start", "_law_at", "_law_e", "_law_told", "_law_k"]) (sc := defScope s_p_law) (by decide +kernel)) (fun _ _ _ _ _ => pg_name (i := 11) sc_p_law.nd rfl (Or.inl rfl)) (fun _ _ _ _ _ => pts_nil) (fun _ _ _ _ _ => (pe_op op_mod (pe_callTy call_int1 (by rfl) T.m_int PySem.Pv.boot_int (pa_cons (pe_op op_add (pv 7) (pv 11)) pa_nil)) pe_int)))) (pg_name (i := 8) sc_p_law.nd rfl (.inr rfl)) (C8.pss_cut (ps_set (i := 9) sc_p_law.nd rfl (.inl rfl) (pe_ix ix_list (pv 6) (pv 8) (fun _ _ => rfl)))
      (C8.pss_cut (ps_if (PW.pt (pw_or (pt_cmpR (op_neD hr.units) (pe_call (ok_flags T) (hr.mono (by decide)) (by rfl) T.g_flags T.F_flags.kp T.b_flags .nil pass0 (pa_cons (pv 9) pa_nil)) (pe_lc (own := [("_law_k", 11)]) (g := gName 11) (tt := tYes) rfl sc_p_law.nd (pi_range1 (by rfl) T.m_range (pa_cons pe_int pa_nil)) (blkOk_by (own := [("_law_k", 11)]) (N := ["_law_script", "_law_feed_here", "_law_number", "_law_word", "_law_tags", "_law_due", "_law_made", "_law_start", "_law_at", "_law_e", "_law_told", "_law_k"]) (sc := defScope s_p_law) (by decide +kernel)) (fun _ _ _ _ _ => pg_name (i := 11) sc_p_law.nd rfl (Or.inl rfl)) (fun _ _ _ _ _ => pts_nil) (fun _ _ _ _ _ => (pe_cmpR op_eq (pv 11) (pv 8) (nomark _)))) (nomark _)) (pw_or (pt_cmpR op_ne (pe_xg (pv 9)) (pe_ix ix_list (pv 4) (pv 8) (fun _ _ => rfl)) (nomark _)) (pw_or1 (pt_not (pt_val (pe_call (ok_same T 1) (hr.mono (by decide)) (by rfl) T.g_same T.F_same.kp T.b_same .nil pass0 (pa_cons (pe_call (ok_value_of T) (hr.mono (by decide)) (by rfl) T.g_value_of T.F_value_of.kp T.b_value_of .nil pass0 (pa_cons (pv 9) pa_nil)) (pa_cons (pe_ix ix_list (pv 5) (pv 8) (fun _ _ => rfl)) pa_nil))))))))) (pss_one (ps_ret pe_bl)) pss_nil)
      (C8.pss_cut (ps_set (i := 10) sc_p_law.nd rfl (.inl rfl) (pe_lst (pa_cons (pe_callB call_isG (by rfl) T.m_isinstance PyProof.Rows.boot_isinstance (pa_cons (pv 9) (pa_cons (pe_glob (v := .ref (fa 1)) (by rfl) T.eTieError.gC rfl) pa_nil))) (pa_cons (pe_callB call_isG (by rfl) T.m_isinstance PyProof.Rows.boot_isinstance (pa_cons (pv 9) (pa_cons (pe_glob (v := .ref (fa 20)) (by rfl) T.eMissing.gC rfl) pa_nil))) (pa_cons (pe_callB call_isG (by rfl) T.m_isinstance PyProof.Rows.boot_isinstance (pa_cons (pv 9) (pa_cons (pe_bltn (v := .ty "ValueError") (by rfl) T.m_ValueError (by decide +kernel) rfl) pa_nil))) (pa_cons (pe_callB call_isG (by rfl) T.m_isinstance PyProof.Rows.boot_isinstance (pa_cons (pv 9) (pa_cons (pe_bltn (v := .ty "LookupError") (by rfl) T.m_LookupError (by decide +kernel) rfl) pa_nil))) (pa_cons (pe_callB call_isG (by rfl) T.m_isinstance PyProof.Rows.boot_isinstance (pa_cons (pv 9) (pa_cons (pe_bltn (v := .ty "IndexError") (by rfl) T.m_IndexError (by decide +kernel) rfl) pa_nil))) pa_nil)))))))
      (pss_one (ps_if (pt_cmpR (op_neD hr.units) (pv 10) (pe_lst (pa_cons (pe_cmpR op_lt (pv 8) pe_int (nomark _)) (pa_cons (pe_chain op_le op_lt pe_int (pv 8) pe_int) (pa_cons (pe_cmpR op_lt (pv 8) pe_int (nomark _)) (pa_cons (pe_cmpR op_gt (pv 8) pe_int (nomark _)) (pa_cons (pe_cmpR op_eq (pv 8) pe_int (nomark _)) pa_nil)))))) (nomark _)) (pss_one (ps_ret pe_bl)) pss_nil))))))
      (pss_one (ps_ret (pe_cmpR op_eq (pe_callB call_len_seq (by rfl) T.m_len PySem.boot_len (pa_cons (pv 6) pa_nil)) pe_int (nomark _))))))))))))), ?_⟩
    refine ⟨fun σ H1 => ∃ a c, σ = [some (.ref s0), some (.ref a), none, none, none, none, none, none, none, none, none, none] ∧ FeedOk H1 a c, ⟨_, rfl, s0, ns, rfl, hS, hlen, fun a c H1 _ _ s1 hF => ⟨a, c, rfl, hF⟩⟩, fun σ H1 hM => ?_⟩
    obtain ⟨a, c, rfl, hF⟩ := hM
    refine ⟨fun σ H2 => FeedOk H2 a c ∧ ∃ (n : Nat) (w0 : Str), n < 1000000 ∧ w0.length ≤ 3 ∧ σ = [some (.ref s0), some (.ref a), some (.int (n : Int)), some (.str w0), none, none, none, none, none, none, none, none], ?_, fun σ H2 hM => ?_⟩
    · refine ⟨_, rfl, _, _, rfl, rfl, ⟨by decide, by decide, by decide⟩, ?_⟩
      refine ⟨a, c, _, rfl, hF, ⟨by decide +kernel, by decide +kernel⟩, fun r G1 r0 r1 hF1 b1 => ?_⟩
      obtain ⟨n, rfl⟩ := Int.eq_ofNat_of_zero_le r0
      refine ⟨_, rfl, small_line (by show 3 ≤ 1000; decide), fun p np => ?_⟩
      have sp := same_upd (o := HO.lst [V.str (Str.ofString "b"), .str (Str.ofString "oak"), .str (Str.ofString "elm")]) np
      refine ⟨a, c, p, _, rfl, hF1.same sp, upd_same, new_ne hF1 np, by show 0 < 3; decide, by show 3 ≤ 1000; decide, fun v G2 hv hF2 b2 => ?_⟩
      have hw : ∃ w0 : Str, v = .str w0 ∧ w0.length ≤ 3 := by
        simp only [List.mem_cons, List.not_mem_nil, or_false] at hv
        rcases hv with rfl | rfl | rfl
        · exact ⟨_, rfl, by decide +kernel⟩
        · exact ⟨_, rfl, by decide +kernel⟩
        · exact ⟨_, rfl, by decide +kernel⟩
      obtain ⟨w0, rfl, hw⟩ := hw
      refine ⟨_, _, rfl, hF2, n, w0, ?_, hw, rfl⟩
      have r1 : (n : Int) < 10 ^ 6 := r1
      omega
    obtain ⟨hF2, n, w0, hn, hw0, rfl⟩ := hM
    refine ⟨fun σ G => G = H2 ∧ σ = [some (.ref s0), some (.ref a), some (.int (n : Int)), some (.str w0), some (.str (Str.ofString "InvalidRatio InvalidRow InvalidName InvalidTie InvalidWish InvalidTimes InvalidLimit InvalidCommand")), none, none, none, none, none, none, none], ⟨rfl, rfl⟩, fun σ G hM => ?_⟩
    obtain ⟨rfl, rfl⟩ := hM
    refine ⟨fun σ G1 => G1 = G ∧ σ = [some (.ref s0), some (.ref a), some (.int (n : Int)), some (.str w0), some (.str (Str.ofString "InvalidRatio InvalidRow InvalidName InvalidTie InvalidWish InvalidTimes InvalidLimit InvalidCommand" ++ Str.ofString " NotTied SameName NamesDiffer EmptyFigure Impossible Possible NotImplied ParseError")), none, none, none, none, none, none, none], ?_, fun σ G1 hM => ?_⟩
    · exact ⟨_, rfl, _, _, rfl, rfl, by decide +kernel, rfl, rfl⟩
    obtain ⟨rfl, rfl⟩ := hM
    refine ⟨fun σ G2 => Same G1 G2 ∧ ∃ tp, G2 tp = some (.lst (tag18.map V.str)) ∧ σ = [some (.ref s0), some (.ref a), some (.int (n : Int)), some (.str w0), some (.ref tp), none, none, none, none, none, none, none], ?_, fun σ G2 hM => ?_⟩
    · refine ⟨_, rfl, _, _, rfl, rfl, by decide +kernel, ⟨_, rfl⟩, _, _, rfl, rfl, by decide +kernel, by decide +kernel, fun p np => ⟨same_upd np, p, ?_, rfl⟩⟩
      rw [tags_split]
      exact upd_same
    obtain ⟨s2, tp, htp, rfl⟩ := hM
    refine ⟨fun σ G3 => Same G1 G3 ∧ ∃ tp, tp ≠ a ∧ G3 tp = some (.lst (tag21.map V.str)) ∧ σ = [some (.ref s0), some (.ref a), some (.int (n : Int)), some (.str w0), some (.ref tp), none, none, none, none, none, none, none], ?_, fun σ G3 hM => ?_⟩
    · refine ⟨_, rfl, small_line (by show 3 ≤ 1000; decide), fun p np => ?_⟩
      have sp := same_upd (o := HO.lst [V.str (Str.ofString "UnknownName"), .str (Str.ofString "UnknownLabel"), .str (Str.ofString "NothingLeft")]) np
      exact ⟨tp, p, _, _, rfl, rfl, sp _ _ htp, upd_same, small_line (by decide), fun p2 np2 => ⟨s2.trans (sp.trans (same_upd np2)), p2, new_ne ((hF2.same s2).same sp) np2, upd_same, rfl⟩⟩
    obtain ⟨s3, tp, ntp, htp, rfl⟩ := hM
    refine ⟨fun σ G4 => Same G1 G4 ∧ G4 tp = some (.lst (tag21.map V.str)) ∧ ∃ dp, dp ≠ a ∧ G4 dp = some (.lst ((tabE (n : Int) w0).map valT)) ∧ σ = [some (.ref s0), some (.ref a), some (.int (n : Int)), some (.str w0), some (.ref tp), some (.ref dp), none, none, none, none, none, none], ?_, fun σ G4 hM => ?_⟩
    · refine ⟨_, rfl, _, rfl, _, rfl, _, rfl, _, rfl, _, rfl, _, rfl, _, rfl, _, rfl, _, rfl, _, rfl, _, rfl, _, rfl, _, rfl, _, rfl, _, rfl, _, rfl, small_line (by show 21 ≤ 1000; decide), fun dp nd => ?_⟩
      have sd := same_upd (o := HO.lst ((tabE (n : Int) w0).map valT)) nd
      exact ⟨s3.trans sd, sd _ _ htp, dp, new_ne (hF2.same s3) nd, upd_same, rfl⟩
    obtain ⟨s4, htp, dp, ndp, hdp, rfl⟩ := hM
    refine ⟨fun σ G5 => G5 tp = some (.lst (tag21.map V.str)) ∧ G5 dp = some (.lst ((tabE (n : Int) w0).map valT)) ∧ ∃ (L : Addr) (us : List V) (st : Nat), G5 L = some (.lst us) ∧ Paired (Ev fa G5) us (tabE (n : Int) w0) ∧ st < 21 ∧ σ = [some (.ref s0), some (.ref a), some (.int (n : Int)), some (.str w0), some (.ref tp), some (.ref dp), some (.ref L), some (.int (st : Int)), none, none, none, none], ?_, fun σ G5 hM => ?_⟩
    · refine ⟨_, rfl, _, rfl, (n : Int), w0, rfl, fun L us H5 s5 hL hus => ?_⟩
      have hF5 := (hF2.same s4).same s5
      have nLa : L ≠ a := fun z => by
        obtain ⟨_, _, _, _, ha, _⟩ := hF5
        rw [z, ha] at hL
        have e := congrArg List.length (HO.lst.inj (Option.some.inj hL))
        have e2 : us.length = 21 := Paired.length hus
        rw [e2] at e
        exact absurd e (show ¬ (4 : Nat) = 21 by decide)
      refine ⟨_, rfl, a, c, _, rfl, hF5, ⟨by decide, by decide⟩, fun r H6 r0 r1 hF6 b6 => ?_⟩
      obtain ⟨st, rfl⟩ := Int.eq_ofNat_of_zero_le r0
      refine ⟨two_line, fun o no => ?_⟩
      have so := same_upd (o := HO.tup [V.ref L, .int (st : Int)]) no
      exact ⟨o, _, rfl, SqT.of upd_same, rfl, _, _, rfl, _, _, rfl, rfl, so _ _ (b6 _ _ ntp (s5 _ _ htp)), so _ _ (b6 _ _ ndp (s5 _ _ hdp)), L, us, st, so _ _ (b6 _ _ nLa hL), paired_mono (fun _ _ h => (h.but hF5 b6).same so) hus, by omega, rfl⟩
    obtain ⟨htp, hdp, L, us, st, hL, hus, hst, rfl⟩ := hM
    refine ⟨fun σ G6 => G6 L = some (.lst us) ∧ ∃ y8 y9 y10, σ = [some (.ref s0), some (.ref a), some (.int (n : Int)), some (.str w0), some (.ref tp), some (.ref dp), some (.ref L), some (.int (st : Int)), y8, y9, y10, none], ?_, fun σ G6 hM => ?_⟩
    · refine ⟨21, rfl, by decide, by decide, fun D nD => ?_⟩
      have sD := same_upd (o := HO.lst []) nD
      refine lc_range (n := 21) (fun i G => (∀ b o, b ≠ D → G5 b = some o → G b = some o) ∧ G D = some (.lst ((List.range i).map fun k => V.int (((st + k) % 21 : Nat) : Int)))) ⟨fun b o nb e => (upd_ne nb).trans e, upd_same⟩ (fun i G hi hq => ?_) (fun G hq => ?_)
      · obtain ⟨oth, hD⟩ := hq
        refine ⟨rfl, _, rfl, _, rfl, _, _, rfl, rfl, .inl ⟨_, rfl, _, _, rfl, rfl, by show (0 : Int) < 21; decide, _, hD, small1000 (by rw [List.length_map, List.length_range]; omega), fun b o nb e => (upd_ne nb).trans (oth b o nb e), ?_⟩⟩
        rw [upd_same, List.range_succ, List.map_append]
        have e : ((st : Int) + (0 + (i : Int))) % 21 = (((st + i) % 21 : Nat) : Int) := by omega
        show some (HO.lst (_ ++ [V.int (((st : Int) + (0 + (i : Int))) % 21)])) = _
        rw [e]
        rfl
      · obtain ⟨oth, hD⟩ := hq
        have sG : Same G5 G := fun b o e => oth b o (ne_of_none e nD) e
        refine ⟨D, rfl, ⟨_, SqL.of hD⟩, for_list (K := K) (a := D) (xs := (List.range 21).map fun k => V.int (((st + k) % 21 : Nat) : Int)) (fun i σ G2 => Same G G2 ∧ ∃ y8 y9 y10, σ = [some (.ref s0), some (.ref a), some (.int (n : Int)), some (.str w0), some (.ref tp), some (.ref dp), some (.ref L), some (.int (st : Int)), y8, y9, y10, none]) ⟨Same.refl _, _, _, _, rfl⟩ (fun i σ G2 _ hp => SqL.of (hp.1 _ _ hD)) (fun i x σ G2 hx hp => ?_) (fun σ G2 hp => ?_)⟩
        · obtain ⟨s2, y8, y9, y10, rfl⟩ := hp
          have s : Same G5 G2 := sG.trans s2
          have hx' : ∃ at' : Nat, at' < 21 ∧ x = V.int (at' : Int) := by
            rw [List.getElem?_map] at hx
            cases hr : (List.range 21)[i]? with
            | none => rw [hr] at hx; cases hx
            | some k => rw [hr] at hx; exact ⟨(st + k) % 21, Nat.mod_lt _ (by decide), (Option.some.inj hx).symm⟩
          obtain ⟨at', hlt, rfl⟩ := hx'
          obtain ⟨u, t, hu, ht, hev, hmem, hid, htag, hval⟩ := row_at hus hlt
          have hev2 := hev.same s
          have hin := ids_in ⟨at', hlt⟩
          have hin1 : t.1 ∈ ids21 := hid ▸ hin.1
          have hin2 : t.1 ∈ [1, 2, 3, 4, 5, 6, 7, 8, 9, 10, 11, 12, 13, 14, 15, 16, 17, 18, 19, 20, 21, 22, 23] := hid ▸ hin.2
          refine ⟨fun σ G3 => Same G2 G3 ∧ σ = [some (.ref s0), some (.ref a), some (.int (n : Int)), some (.str w0), some (.ref tp), some (.ref dp), some (.ref L), some (.int (st : Int)), some (.int (at' : Int)), some u, y10, none], ?_, fun σ G3 hM => ?_⟩
          · exact ⟨_, rfl, _, rfl, L, us, _, u, rfl, rfl, SqL.of (s _ _ hL), at_of (j := at') rfl hu, Same.refl _, rfl⟩
          obtain ⟨s3, rfl⟩ := hM
          refine ⟨fun σ G4 => Same G3 G4 ∧ σ = [some (.ref s0), some (.ref a), some (.int (n : Int)), some (.str w0), some (.ref tp), some (.ref dp), some (.ref L), some (.int (st : Int)), some (.int (at' : Int)), some u, y10, none], ?_, fun σ G4 hM => ?_⟩
          · refine ⟨_, rfl, u, t.1, t.2, rfl, hev2.same s3, hin1, fun M G4 s4 hM => ?_⟩
            refine ⟨21, rfl, by decide, by decide, fun D2 nD2 => ?_⟩
            refine lc_range (n := 21) (fun i G5' => (∀ b o, b ≠ D2 → G4 b = some o → G5' b = some o) ∧ G5' D2 = some (.lst ((List.range i).map fun k => V.bl (decide (k = at'))))) ⟨fun b o nb e => (upd_ne nb).trans e, upd_same⟩ (fun i G5' hi hq => ?_) (fun G5' hq => ?_)
            · obtain ⟨oth2, hD2⟩ := hq
              refine ⟨rfl, _, rfl, _, rfl, rfl, _, hD2, small1000 (by rw [List.length_map, List.length_range]; omega), fun b o nb e => (upd_ne nb).trans (oth2 b o nb e), ?_⟩
              rw [upd_same, List.range_succ, List.map_append]
              have e : decide (V.int (0 + (i : Int)) = V.int (at' : Int)) = decide (i = at') := decide_eq_decide.mpr ⟨fun z => by have z' := V.int.inj z; omega, fun z => by rw [z, Int.zero_add]⟩
              show some (HO.lst (_ ++ [V.bl (decide (V.int (0 + (i : Int)) = V.int (at' : Int)))])) = _
              rw [e]
              rfl
            obtain ⟨oth2, hD2⟩ := hq
            have s5 : Same G4 G5' := fun b o e => oth2 b o (ne_of_none e nD2) e
            have fr := flag_row ⟨at', hlt⟩
            rw [← hid] at fr
            have hM5 := s5 _ _ hM
            rw [fr] at hM5
            have hD2' : G5' D2 = some (.lst (((List.range 21).map fun j => decide (j = at')).map V.bl)) := by
              rw [hD2, List.map_map]
              rfl
            refine neq_bools hM5 hD2' (shaped_row ⟨at', hlt⟩) ⟨_, rfl, ?_⟩
            have s6 : Same G2 G5' := s3.trans (s4.trans s5)
            have hev6 := hev2.same s6
            obtain ⟨ea, ed, rfl, hea, hed⟩ := hev6
            refine iteF' rfl ⟨_, rfl, ea, _, ed, t.2, _, rfl, xf_of T _ hin1, tag_none T _ hin1, hea, hed, tab_tag hmem, _, rfl, _, rfl, tp, _, _, _, rfl, rfl, SqL.of ((s.trans s6) _ _ htp), at_of (j := at') rfl htag, ?_⟩
            have htg : ∃ y, tagV t = .str y := by
              rw [List.getElem?_map] at htag
              cases hr : tag21[at']? with
              | none => rw [hr] at htag; cases htag
              | some y => rw [hr] at htag; exact ⟨y, (Option.some.inj htag).symm⟩
            obtain ⟨y, hy⟩ := htg
            rw [hy]
            refine ⟨rfl, _, rfl, iteF' (by rw [decide_eq_true rfl]; rfl) ?_⟩
            refine ⟨_, rfl, .ref ea, t, (n : Int), w0, rfl, ⟨ea, ed, rfl, hea, hed⟩, hmem, fun G7 s7 => ?_⟩
            refine ⟨_, rfl, _, rfl, dp, _, _, _, rfl, rfl, SqL.of ((s.trans (s6.trans s7)) _ _ hdp), at_of (j := at') rfl hval, ?_⟩
            refine ⟨_, _, rfl, Eqd.leaf (tab_leaf hmem), fun G8 s8 => ⟨_, rfl, ?_⟩⟩
            exact ⟨s4.trans (s5.trans (s7.trans s8)), rfl⟩
          obtain ⟨s4, rfl⟩ := hM
          obtain ⟨ea, ed, rfl, hea, hed⟩ := (hev2.same s3).same s4
          have hx := exc_of T t.1 hin1
          obtain ⟨kv, kl, ki⟩ := kit_b T hin2
          refine ⟨fun σ G6 => Same G4 G6 ∧ ∃ R, G6 R = some (.lst ((toldB at').map V.bl)) ∧ σ = [some (.ref s0), some (.ref a), some (.int (n : Int)), some (.str w0), some (.ref tp), some (.ref dp), some (.ref L), some (.int (st : Int)), some (.int (at' : Int)), some (.ref ea), some (.ref R), none], ?_, fun σ G6 hM => ?_⟩
          · refine ⟨_, rfl, ea, fa t.1, ed, _, _, _, rfl, hea, ⟨_, hed⟩, hx, (fun z hz => (show z = Value.ref (fa 1) from hz)), kit_of2 T hin2 (by decide), ?_⟩
            refine ⟨_, rfl, ea, fa t.1, ed, _, _, _, rfl, hea, ⟨_, hed⟩, hx, (fun z hz => (show z = Value.ref (fa 20) from hz)), kit_of2 T hin2 (by decide), ?_⟩
            refine ⟨_, rfl, ea, fa t.1, ed, _, _, _, rfl, hea, ⟨_, hed⟩, hx, (fun z hz => (show z = Value.type "ValueError" from hz)), kv, ?_⟩
            refine ⟨_, rfl, ea, fa t.1, ed, _, _, _, rfl, hea, ⟨_, hed⟩, hx, (fun z hz => (show z = Value.type "LookupError" from hz)), kl, ?_⟩
            refine ⟨_, rfl, ea, fa t.1, ed, _, _, _, rfl, hea, ⟨_, hed⟩, hx, (fun z hz => (show z = Value.type "IndexError" from hz)), ki, ?_⟩
            refine ⟨small_line (by show 5 ≤ 1000; decide), fun R nR => ⟨same_upd nR, R, ?_, rfl⟩⟩
            rw [upd_same, ← told_row ⟨at', hlt⟩, ← hid]
            rfl
          obtain ⟨s6, R, hR, rfl⟩ := hM
          refine ⟨_, rfl, _, rfl, _, _, rfl, rfl, ?_⟩
          refine ⟨_, rfl, _, _, rfl, rfl, _, rfl, ?_⟩
          by_cases h18 : (18 : Int) ≤ (at' : Int)
          · refine iteT' (decide_eq_true h18) ⟨_, _, rfl, rfl, ?_⟩
            refine ⟨_, rfl, _, _, rfl, rfl, _, rfl, _, _, rfl, rfl, _, rfl, rfl, small_line (by show 5 ≤ 1000; decide), fun R2 nR2 => ?_⟩
            have eR : (upd G6 R2 (HO.lst [V.bl (decide ((at' : Int) < 18)), .bl (decide ((at' : Int) < 20)), .bl (decide ((at' : Int) < 18)), .bl (decide ((17 : Int) < (at' : Int))), .bl (decide (V.int (at' : Int) = V.int 20))])) R2 = some (.lst ((toldB at').map V.bl)) := by
              rw [upd_same]
              have e1 : decide ((at' : Int) < 18) = decide (at' < 18) := decide_eq_decide.mpr ⟨fun z => by omega, fun z => by omega⟩
              have e2 : (decide ((at' : Int) < 20)) = decide (18 ≤ at' ∧ at' < 20) := decide_eq_decide.mpr ⟨fun z => by omega, fun z => by omega⟩
              have e3 : decide ((17 : Int) < (at' : Int)) = decide (17 < at') := decide_eq_decide.mpr ⟨fun z => by omega, fun z => by omega⟩
              have e4 : decide (V.int (at' : Int) = V.int 20) = decide (at' = 20) := decide_eq_decide.mpr ⟨fun z => by have z' := V.int.inj z; omega, fun z => by rw [z]; rfl⟩
              rw [e1, e2, e3, e4]
              rfl
            have sR := same_upd (o := HO.lst [V.bl (decide ((at' : Int) < 18)), .bl (decide ((at' : Int) < 20)), .bl (decide ((at' : Int) < 18)), .bl (decide ((17 : Int) < (at' : Int))), .bl (decide (V.int (at' : Int) = V.int 20))]) nR2
            refine neq_bools (sR _ _ hR) eR (shaped_told ⟨at', hlt⟩) ⟨_, rfl, iteF' rfl ?_⟩
            exact ⟨s2.trans (s3.trans (s4.trans (s6.trans sR))), _, _, _, rfl⟩
          · refine iteF' (decide_eq_false h18) ?_
            refine ⟨_, rfl, _, _, rfl, rfl, _, rfl, _, _, rfl, rfl, _, rfl, rfl, small_line (by show 5 ≤ 1000; decide), fun R2 nR2 => ?_⟩
            have eR : (upd G6 R2 (HO.lst [V.bl (decide ((at' : Int) < 18)), .bl false, .bl (decide ((at' : Int) < 18)), .bl (decide ((17 : Int) < (at' : Int))), .bl (decide (V.int (at' : Int) = V.int 20))])) R2 = some (.lst ((toldB at').map V.bl)) := by
              rw [upd_same]
              have e1 : decide ((at' : Int) < 18) = decide (at' < 18) := decide_eq_decide.mpr ⟨fun z => by omega, fun z => by omega⟩
              have e2 : false = decide (18 ≤ at' ∧ at' < 20) := (decide_eq_false fun z => h18 (by omega)).symm
              have e3 : decide ((17 : Int) < (at' : Int)) = decide (17 < at') := decide_eq_decide.mpr ⟨fun z => by omega, fun z => by omega⟩
              have e4 : decide (V.int (at' : Int) = V.int 20) = decide (at' = 20) := decide_eq_decide.mpr ⟨fun z => by have z' := V.int.inj z; omega, fun z => by rw [z]; rfl⟩
              rw [e1, e2, e3, e4]
              rfl
            have sR := same_upd (o := HO.lst [V.bl (decide ((at' : Int) < 18)), .bl false, .bl (decide ((at' : Int) < 18)), .bl (decide ((17 : Int) < (at' : Int))), .bl (decide (V.int (at' : Int) = V.int 20))]) nR2
            refine neq_bools (sR _ _ hR) eR (shaped_told ⟨at', hlt⟩) ⟨_, rfl, iteF' rfl ?_⟩
            exact ⟨s2.trans (s3.trans (s4.trans (s6.trans sR))), _, _, _, rfl⟩
        · obtain ⟨s2, y8, y9, y10, rfl⟩ := hp
          exact ⟨s2 _ _ (sG _ _ hL), _, _, _, rfl⟩
    obtain ⟨hL6, y8, y9, y10, rfl⟩ := hM
    refine ⟨_, rfl, L, _, rfl, .inl (SqL.of hL6), rfl, ?_⟩
    have e2 : us.length = 21 := Paired.length hus
    rw [e2]
    exact q _
end
theorem all_mk {l : PySem.W.OpenLaw} {w : World} {K : PySem.W.Frag} {h : Heap} {mg : Str → Option Value} {fl f25 f26 f27 f28 f29 f30 f31 f32 f1 f1001 f2 f1002 f3 f1003 f4 f1004 f5 f1005 f6 f1006 f7 f1007 f8 f1008 f9 f1009 f10 f1010 f11 f1011 f12 f1012 f13 f1013 f14 f1014 f15 f1015 f16 f1016 f17 f1017 f18 f1018 f19 f1019 f20 f1020 f21 f1021 f22 f1022 f23 f1023 : Addr} (X : K.In h) (G : h.Ns mainGlobals mg) (hfa : mg "law" = some (.ref fl))
    {od25 an25 od26 an26 od27 an27 od28 an28 od29 an29 od30 an30 od31 an31 od32 an32 : Option Addr}
    {sl25 sl26 sl27 sl28 sl29 sl30 sl31 sl32 : Array (Option Value)}
    {oc25 kV25 dc25 pm25 cd25 ct25 oc26 kV26 dc26 pm26 cd26 ct26 oc27 kV27 dc27 pm27 cd27 ct27 oc28 kV28 dc28 pm28 cd28 ct28 oc29 kV29 dc29 pm29 cd29 ct29 oc30 kV30 dc30 pm30 cd30 ct30 oc31 kV31 dc31 pm31 cd31 ct31 oc32 kV32 dc32 pm32 cd32 ct32 : Value}
    (a25 : PySem.W.nsIn K mainGlobals "_law_feed" = some (some (.ref f25))) (l25 : K.lookup f25 = some ⟨oc25, od25, .func (PySem.W.fnOf "_law_feed" "_law_feed" (defArgs s_feed) (defBody s_feed) (defScope s_feed) .none kV25 dc25 pm25 an25 cd25 ct25), sl25⟩) (c25 : PySem.W.codeIn K cd25 "_law_feed" = true) (k25 : PySem.W.keepIn K (.ref f25) = true)
    (a26 : PySem.W.nsIn K mainGlobals "_law_draw" = some (some (.ref f26))) (l26 : K.lookup f26 = some ⟨oc26, od26, .func (PySem.W.fnOf "_law_draw" "_law_draw" (defArgs s_draw) (defBody s_draw) (defScope s_draw) .none kV26 dc26 pm26 an26 cd26 ct26), sl26⟩) (c26 : PySem.W.codeIn K cd26 "_law_draw" = true) (k26 : PySem.W.keepIn K (.ref f26) = true)
    (a27 : PySem.W.nsIn K mainGlobals "_law_any" = some (some (.ref f27))) (l27 : K.lookup f27 = some ⟨oc27, od27, .func (PySem.W.fnOf "_law_any" "_law_any" (defArgs s_any) (defBody s_any) (defScope s_any) .none kV27 dc27 pm27 an27 cd27 ct27), sl27⟩) (c27 : PySem.W.codeIn K cd27 "_law_any" = true) (k27 : PySem.W.keepIn K (.ref f27) = true)
    (a28 : PySem.W.nsIn K mainGlobals "_law_same" = some (some (.ref f28))) (l28 : K.lookup f28 = some ⟨oc28, od28, .func (PySem.W.fnOf "_law_same" "_law_same" (defArgs s_same) (defBody s_same) (defScope s_same) .none kV28 dc28 pm28 an28 cd28 ct28), sl28⟩) (c28 : PySem.W.codeIn K cd28 "_law_same" = true) (k28 : PySem.W.keepIn K (.ref f28) = true)
    (a29 : PySem.W.nsIn K mainGlobals "_law_made_errors" = some (some (.ref f29))) (l29 : K.lookup f29 = some ⟨oc29, od29, .func (PySem.W.fnOf "_law_made_errors" "_law_made_errors" (defArgs s_made_errors) (defBody s_made_errors) (defScope s_made_errors) .none kV29 dc29 pm29 an29 cd29 ct29), sl29⟩) (c29 : PySem.W.codeIn K cd29 "_law_made_errors" = true) (k29 : PySem.W.keepIn K (.ref f29) = true)
    (a30 : PySem.W.nsIn K mainGlobals "_law_flags" = some (some (.ref f30))) (l30 : K.lookup f30 = some ⟨oc30, od30, .func (PySem.W.fnOf "_law_flags" "_law_flags" (defArgs s_flags) (defBody s_flags) (defScope s_flags) .none kV30 dc30 pm30 an30 cd30 ct30), sl30⟩) (c30 : PySem.W.codeIn K cd30 "_law_flags" = true) (k30 : PySem.W.keepIn K (.ref f30) = true)
    (a31 : PySem.W.nsIn K mainGlobals "_law_value_of" = some (some (.ref f31))) (l31 : K.lookup f31 = some ⟨oc31, od31, .func (PySem.W.fnOf "_law_value_of" "_law_value_of" (defArgs s_value_of) (defBody s_value_of) (defScope s_value_of) .none kV31 dc31 pm31 an31 cd31 ct31), sl31⟩) (c31 : PySem.W.codeIn K cd31 "_law_value_of" = true) (k31 : PySem.W.keepIn K (.ref f31) = true)
    (a32 : PySem.W.nsIn K mainGlobals "law" = some (some (.ref f32))) (l32 : K.lookup f32 = some ⟨oc32, od32, .func (PySem.W.fnOf "law" "law" (defArgs s_p_law) (defBody s_p_law) (defScope s_p_law) .none kV32 dc32 pm32 an32 cd32 ct32), sl32⟩) (c32 : PySem.W.codeIn K cd32 "law" = true) (k32 : PySem.W.keepIn K (.ref f32) = true)
    (z_int : PySem.W.nsIn K mainGlobals "int" = some none)
    (z_len : PySem.W.nsIn K mainGlobals "len" = some none)
    (z_abs : PySem.W.nsIn K mainGlobals "abs" = some none)
    (z_range : PySem.W.nsIn K mainGlobals "range" = some none)
    (z_zip : PySem.W.nsIn K mainGlobals "zip" = some none)
    (z_all : PySem.W.nsIn K mainGlobals "all" = some none)
    (z_isinstance : PySem.W.nsIn K mainGlobals "isinstance" = some none)
    (z_bool : PySem.W.nsIn K mainGlobals "bool" = some none)
    (z_str : PySem.W.nsIn K mainGlobals "str" = some none)
    (z_tuple : PySem.W.nsIn K mainGlobals "tuple" = some none)
    (z_list : PySem.W.nsIn K mainGlobals "list" = some none)
    (z_dict : PySem.W.nsIn K mainGlobals "dict" = some none)
    (z_ValueError : PySem.W.nsIn K mainGlobals "ValueError" = some none)
    (z_LookupError : PySem.W.nsIn K mainGlobals "LookupError" = some none)
    (z_IndexError : PySem.W.nsIn K mainGlobals "IndexError" = some none)
    {oc1001 kV1001 dc1001 pm1001 cd1001 ct1001 : Value} {od1001 an1001 : Option Addr} {sl1001 : Array (Option Value)}
    {nm1 q1 : Str} {N1 : Addr} {bs1 : List Value} {sn1 : List Str} {sub1 : List Value} {ab1 : Bool} {col1 : Option Bool} {dd1 : Option Addr} {m01 m11 m21 m31 m51 : Option Value}
    {oc1002 kV1002 dc1002 pm1002 cd1002 ct1002 : Value} {od1002 an1002 : Option Addr} {sl1002 : Array (Option Value)}
    {nm2 q2 : Str} {N2 : Addr} {bs2 : List Value} {sn2 : List Str} {sub2 : List Value} {ab2 : Bool} {col2 : Option Bool} {dd2 : Option Addr} {m02 m12 m22 m32 m52 : Option Value}
    {oc1003 kV1003 dc1003 pm1003 cd1003 ct1003 : Value} {od1003 an1003 : Option Addr} {sl1003 : Array (Option Value)}
    {nm3 q3 : Str} {N3 : Addr} {bs3 : List Value} {sn3 : List Str} {sub3 : List Value} {ab3 : Bool} {col3 : Option Bool} {dd3 : Option Addr} {m03 m13 m23 m33 m53 : Option Value}
    {oc1004 kV1004 dc1004 pm1004 cd1004 ct1004 : Value} {od1004 an1004 : Option Addr} {sl1004 : Array (Option Value)}
    {nm4 q4 : Str} {N4 : Addr} {bs4 : List Value} {sn4 : List Str} {sub4 : List Value} {ab4 : Bool} {col4 : Option Bool} {dd4 : Option Addr} {m04 m14 m24 m34 m54 : Option Value}
    {oc1005 kV1005 dc1005 pm1005 cd1005 ct1005 : Value} {od1005 an1005 : Option Addr} {sl1005 : Array (Option Value)}
    {nm5 q5 : Str} {N5 : Addr} {bs5 : List Value} {sn5 : List Str} {sub5 : List Value} {ab5 : Bool} {col5 : Option Bool} {dd5 : Option Addr} {m05 m15 m25 m35 m55 : Option Value}
    {oc1006 kV1006 dc1006 pm1006 cd1006 ct1006 : Value} {od1006 an1006 : Option Addr} {sl1006 : Array (Option Value)}
    {nm6 q6 : Str} {N6 : Addr} {bs6 : List Value} {sn6 : List Str} {sub6 : List Value} {ab6 : Bool} {col6 : Option Bool} {dd6 : Option Addr} {m06 m16 m26 m36 m56 : Option Value}
    {oc1007 kV1007 dc1007 pm1007 cd1007 ct1007 : Value} {od1007 an1007 : Option Addr} {sl1007 : Array (Option Value)}
    {nm7 q7 : Str} {N7 : Addr} {bs7 : List Value} {sn7 : List Str} {sub7 : List Value} {ab7 : Bool} {col7 : Option Bool} {dd7 : Option Addr} {m07 m17 m27 m37 m57 : Option Value}
    {oc1008 kV1008 dc1008 pm1008 cd1008 ct1008 : Value} {od1008 an1008 : Option Addr} {sl1008 : Array (Option Value)}
    {nm8 q8 : Str} {N8 : Addr} {bs8 : List Value} {sn8 : List Str} {sub8 : List Value} {ab8 : Bool} {col8 : Option Bool} {dd8 : Option Addr} {m08 m18 m28 m38 m58 : Option Value}
    {oc1009 kV1009 dc1009 pm1009 cd1009 ct1009 : Value} {od1009 an1009 : Option Addr} {sl1009 : Array (Option Value)}
    {nm9 q9 : Str} {N9 : Addr} {bs9 : List Value} {sn9 : List Str} {sub9 : List Value} {ab9 : Bool} {col9 : Option Bool} {dd9 : Option Addr} {m09 m19 m29 m39 m59 : Option Value}
    {oc1010 kV1010 dc1010 pm1010 cd1010 ct1010 : Value} {od1010 an1010 : Option Addr} {sl1010 : Array (Option Value)}
    {nm10 q10 : Str} {N10 : Addr} {bs10 : List Value} {sn10 : List Str} {sub10 : List Value} {ab10 : Bool} {col10 : Option Bool} {dd10 : Option Addr} {m010 m110 m210 m310 m510 : Option Value}
    {oc1011 kV1011 dc1011 pm1011 cd1011 ct1011 : Value} {od1011 an1011 : Option Addr} {sl1011 : Array (Option Value)}
    {nm11 q11 : Str} {N11 : Addr} {bs11 : List Value} {sn11 : List Str} {sub11 : List Value} {ab11 : Bool} {col11 : Option Bool} {dd11 : Option Addr} {m011 m111 m211 m311 m511 : Option Value}
    {oc1012 kV1012 dc1012 pm1012 cd1012 ct1012 : Value} {od1012 an1012 : Option Addr} {sl1012 : Array (Option Value)}
    {nm12 q12 : Str} {N12 : Addr} {bs12 : List Value} {sn12 : List Str} {sub12 : List Value} {ab12 : Bool} {col12 : Option Bool} {dd12 : Option Addr} {m012 m112 m212 m312 m512 : Option Value}
    {oc1013 kV1013 dc1013 pm1013 cd1013 ct1013 : Value} {od1013 an1013 : Option Addr} {sl1013 : Array (Option Value)}
    {nm13 q13 : Str} {N13 : Addr} {bs13 : List Value} {sn13 : List Str} {sub13 : List Value} {ab13 : Bool} {col13 : Option Bool} {dd13 : Option Addr} {m013 m113 m213 m313 m513 : Option Value}
    {oc1014 kV1014 dc1014 pm1014 cd1014 ct1014 : Value} {od1014 an1014 : Option Addr} {sl1014 : Array (Option Value)}
    {nm14 q14 : Str} {N14 : Addr} {bs14 : List Value} {sn14 : List Str} {sub14 : List Value} {ab14 : Bool} {col14 : Option Bool} {dd14 : Option Addr} {m014 m114 m214 m314 m514 : Option Value}
    {oc1015 kV1015 dc1015 pm1015 cd1015 ct1015 : Value} {od1015 an1015 : Option Addr} {sl1015 : Array (Option Value)}
    {nm15 q15 : Str} {N15 : Addr} {bs15 : List Value} {sn15 : List Str} {sub15 : List Value} {ab15 : Bool} {col15 : Option Bool} {dd15 : Option Addr} {m015 m115 m215 m315 m515 : Option Value}
    {oc1016 kV1016 dc1016 pm1016 cd1016 ct1016 : Value} {od1016 an1016 : Option Addr} {sl1016 : Array (Option Value)}
    {nm16 q16 : Str} {N16 : Addr} {bs16 : List Value} {sn16 : List Str} {sub16 : List Value} {ab16 : Bool} {col16 : Option Bool} {dd16 : Option Addr} {m016 m116 m216 m316 m516 : Option Value}
    {oc1017 kV1017 dc1017 pm1017 cd1017 ct1017 : Value} {od1017 an1017 : Option Addr} {sl1017 : Array (Option Value)}
    {nm17 q17 : Str} {N17 : Addr} {bs17 : List Value} {sn17 : List Str} {sub17 : List Value} {ab17 : Bool} {col17 : Option Bool} {dd17 : Option Addr} {m017 m117 m217 m317 m517 : Option Value}
    {oc1018 kV1018 dc1018 pm1018 cd1018 ct1018 : Value} {od1018 an1018 : Option Addr} {sl1018 : Array (Option Value)}
    {nm18 q18 : Str} {N18 : Addr} {bs18 : List Value} {sn18 : List Str} {sub18 : List Value} {ab18 : Bool} {col18 : Option Bool} {dd18 : Option Addr} {m018 m118 m218 m318 m518 : Option Value}
    {oc1019 kV1019 dc1019 pm1019 cd1019 ct1019 : Value} {od1019 an1019 : Option Addr} {sl1019 : Array (Option Value)}
    {nm19 q19 : Str} {N19 : Addr} {bs19 : List Value} {sn19 : List Str} {sub19 : List Value} {ab19 : Bool} {col19 : Option Bool} {dd19 : Option Addr} {m019 m119 m219 m319 m519 : Option Value}
    {oc1020 kV1020 dc1020 pm1020 cd1020 ct1020 : Value} {od1020 an1020 : Option Addr} {sl1020 : Array (Option Value)}
    {nm20 q20 : Str} {N20 : Addr} {bs20 : List Value} {sn20 : List Str} {sub20 : List Value} {ab20 : Bool} {col20 : Option Bool} {dd20 : Option Addr} {m020 m120 m220 m320 m520 : Option Value}
    {oc1021 kV1021 dc1021 pm1021 cd1021 ct1021 : Value} {od1021 an1021 : Option Addr} {sl1021 : Array (Option Value)}
    {nm21 q21 : Str} {N21 : Addr} {bs21 : List Value} {sn21 : List Str} {sub21 : List Value} {ab21 : Bool} {col21 : Option Bool} {dd21 : Option Addr} {m021 m121 m221 m321 m521 : Option Value}
    {oc1022 kV1022 dc1022 pm1022 cd1022 ct1022 : Value} {od1022 an1022 : Option Addr} {sl1022 : Array (Option Value)}
    {nm22 q22 : Str} {N22 : Addr} {bs22 : List Value} {sn22 : List Str} {sub22 : List Value} {ab22 : Bool} {col22 : Option Bool} {dd22 : Option Addr} {m022 m122 m222 m322 m522 : Option Value}
    {oc1023 kV1023 dc1023 pm1023 cd1023 ct1023 : Value} {od1023 an1023 : Option Addr} {sl1023 : Array (Option Value)}
    {nm23 q23 : Str} {N23 : Addr} {bs23 : List Value} {sn23 : List Str} {sub23 : List Value} {ab23 : Bool} {col23 : Option Bool} {dd23 : Option Addr} {m023 m123 m223 m323 m523 : Option Value}
    (a1 : PySem.W.nsIn K mainGlobals "TieError" = some (some (.ref f1)))
    (x1 : K.lookup f1 = some (excClassObj nm1 q1 f1 N1 bs1 [.type "ValueError", .type "Exception", .type "BaseException", .type "object"] true sn1 sub1 ab1 col1 dd1 m01 m11 m21 m31 m51 "ValueError.__new__"))
    (sa1 : PySem.W.findIn K (.ref f1) "__setattr__" = some (some (.builtin "object.__setattr__")))
    (ga1 : PySem.W.findIn K (.ref f1) "__getattribute__" = some (some (.builtin "BaseException.__getattribute__")))
    (gg1 : PySem.W.findIn K (.ref f1) "__getattr__" = some none)
    (nt1 : PySem.W.findIn K (.ref f1) "tag" = some none)
    (ii1 : PySem.W.findIn K (.ref f1) "__init__" = some (some (.ref f1001)))
    (ti1 : PySem.W.typeIn K (.ref f1001) = some (.type "function"))
    (kC1 : PySem.W.keepIn K (.ref f1) = true)
    (eC1 : PySem.W.subIn K (.ref f1) (.type "BaseException") = some true)
    (tC1 : PySem.W.typeIn K (.ref f1) = some (.type "type"))
    (hC1 : PySem.W.hasDictIn K f1 = true)
    (oc_1 : PySem.W.findIn K (.ref f1) "__class__" = some (some (.builtin "object.__class__")))
    (hm1 : PySem.W.mroIn K f1 (.type "object") = some true)
    (l1001 : K.lookup f1001 = some ⟨oc1001, od1001, .func (PySem.W.fnOf "__init__" "TieError.__init__" (defArgs (inClass (topS 1) 0)) (defBody (inClass (topS 1) 0)) (defScope (inClass (topS 1) 0)) .none kV1001 dc1001 pm1001 an1001 cd1001 ct1001), sl1001⟩)
    (c1001 : PySem.W.codeIn K cd1001 "TieError.__init__" = true)
    (k1001 : PySem.W.keepIn K (.ref f1001) = true)
    (a2 : PySem.W.nsIn K mainGlobals "InvalidRatio" = some (some (.ref f2)))
    (x2 : K.lookup f2 = some (excClassObj nm2 q2 f2 N2 bs2 [.ref f1, .type "ValueError", .type "Exception", .type "BaseException", .type "object"] true sn2 sub2 ab2 col2 dd2 m02 m12 m22 m32 m52 "ValueError.__new__"))
    (sa2 : PySem.W.findIn K (.ref f2) "__setattr__" = some (some (.builtin "object.__setattr__")))
    (ga2 : PySem.W.findIn K (.ref f2) "__getattribute__" = some (some (.builtin "BaseException.__getattribute__")))
    (gg2 : PySem.W.findIn K (.ref f2) "__getattr__" = some none)
    (nt2 : PySem.W.findIn K (.ref f2) "tag" = some none)
    (ii2 : PySem.W.findIn K (.ref f2) "__init__" = some (some (.ref f1002)))
    (ti2 : PySem.W.typeIn K (.ref f1002) = some (.type "function"))
    (kC2 : PySem.W.keepIn K (.ref f2) = true)
    (eC2 : PySem.W.subIn K (.ref f2) (.type "BaseException") = some true)
    (tC2 : PySem.W.typeIn K (.ref f2) = some (.type "type"))
    (hC2 : PySem.W.hasDictIn K f2 = true)
    (oc_2 : PySem.W.findIn K (.ref f2) "__class__" = some (some (.builtin "object.__class__")))
    (hm2 : PySem.W.mroIn K f2 (.type "object") = some true)
    (n2_given : PySem.W.findIn K (.ref f2) "given" = some none)
    (l1002 : K.lookup f1002 = some ⟨oc1002, od1002, .func (PySem.W.fnOf "__init__" "InvalidRatio.__init__" (defArgs (inClass (topS 2) 0)) (defBody (inClass (topS 2) 0)) (defScope (inClass (topS 2) 0)) .none kV1002 dc1002 pm1002 an1002 cd1002 ct1002), sl1002⟩)
    (c1002 : PySem.W.codeIn K cd1002 "InvalidRatio.__init__" = true)
    (k1002 : PySem.W.keepIn K (.ref f1002) = true)
    (a3 : PySem.W.nsIn K mainGlobals "InvalidRow" = some (some (.ref f3)))
    (x3 : K.lookup f3 = some (excClassObj nm3 q3 f3 N3 bs3 [.ref f1, .type "ValueError", .type "Exception", .type "BaseException", .type "object"] true sn3 sub3 ab3 col3 dd3 m03 m13 m23 m33 m53 "ValueError.__new__"))
    (sa3 : PySem.W.findIn K (.ref f3) "__setattr__" = some (some (.builtin "object.__setattr__")))
    (ga3 : PySem.W.findIn K (.ref f3) "__getattribute__" = some (some (.builtin "BaseException.__getattribute__")))
    (gg3 : PySem.W.findIn K (.ref f3) "__getattr__" = some none)
    (nt3 : PySem.W.findIn K (.ref f3) "tag" = some none)
    (ii3 : PySem.W.findIn K (.ref f3) "__init__" = some (some (.ref f1003)))
    (ti3 : PySem.W.typeIn K (.ref f1003) = some (.type "function"))
    (kC3 : PySem.W.keepIn K (.ref f3) = true)
    (eC3 : PySem.W.subIn K (.ref f3) (.type "BaseException") = some true)
    (tC3 : PySem.W.typeIn K (.ref f3) = some (.type "type"))
    (hC3 : PySem.W.hasDictIn K f3 = true)
    (oc_3 : PySem.W.findIn K (.ref f3) "__class__" = some (some (.builtin "object.__class__")))
    (hm3 : PySem.W.mroIn K f3 (.type "object") = some true)
    (n3_at : PySem.W.findIn K (.ref f3) "at" = some none)
    (l1003 : K.lookup f1003 = some ⟨oc1003, od1003, .func (PySem.W.fnOf "__init__" "InvalidRow.__init__" (defArgs (inClass (topS 3) 0)) (defBody (inClass (topS 3) 0)) (defScope (inClass (topS 3) 0)) .none kV1003 dc1003 pm1003 an1003 cd1003 ct1003), sl1003⟩)
    (c1003 : PySem.W.codeIn K cd1003 "InvalidRow.__init__" = true)
    (k1003 : PySem.W.keepIn K (.ref f1003) = true)
    (a4 : PySem.W.nsIn K mainGlobals "InvalidName" = some (some (.ref f4)))
    (x4 : K.lookup f4 = some (excClassObj nm4 q4 f4 N4 bs4 [.ref f1, .type "ValueError", .type "Exception", .type "BaseException", .type "object"] true sn4 sub4 ab4 col4 dd4 m04 m14 m24 m34 m54 "ValueError.__new__"))
    (sa4 : PySem.W.findIn K (.ref f4) "__setattr__" = some (some (.builtin "object.__setattr__")))
    (ga4 : PySem.W.findIn K (.ref f4) "__getattribute__" = some (some (.builtin "BaseException.__getattribute__")))
    (gg4 : PySem.W.findIn K (.ref f4) "__getattr__" = some none)
    (nt4 : PySem.W.findIn K (.ref f4) "tag" = some none)
    (ii4 : PySem.W.findIn K (.ref f4) "__init__" = some (some (.ref f1004)))
    (ti4 : PySem.W.typeIn K (.ref f1004) = some (.type "function"))
    (kC4 : PySem.W.keepIn K (.ref f4) = true)
    (eC4 : PySem.W.subIn K (.ref f4) (.type "BaseException") = some true)
    (tC4 : PySem.W.typeIn K (.ref f4) = some (.type "type"))
    (hC4 : PySem.W.hasDictIn K f4 = true)
    (oc_4 : PySem.W.findIn K (.ref f4) "__class__" = some (some (.builtin "object.__class__")))
    (hm4 : PySem.W.mroIn K f4 (.type "object") = some true)
    (n4_name : PySem.W.findIn K (.ref f4) "name" = some none)
    (l1004 : K.lookup f1004 = some ⟨oc1004, od1004, .func (PySem.W.fnOf "__init__" "InvalidName.__init__" (defArgs (inClass (topS 4) 0)) (defBody (inClass (topS 4) 0)) (defScope (inClass (topS 4) 0)) .none kV1004 dc1004 pm1004 an1004 cd1004 ct1004), sl1004⟩)
    (c1004 : PySem.W.codeIn K cd1004 "InvalidName.__init__" = true)
    (k1004 : PySem.W.keepIn K (.ref f1004) = true)
    (a5 : PySem.W.nsIn K mainGlobals "InvalidTie" = some (some (.ref f5)))
    (x5 : K.lookup f5 = some (excClassObj nm5 q5 f5 N5 bs5 [.ref f1, .type "ValueError", .type "Exception", .type "BaseException", .type "object"] true sn5 sub5 ab5 col5 dd5 m05 m15 m25 m35 m55 "ValueError.__new__"))
    (sa5 : PySem.W.findIn K (.ref f5) "__setattr__" = some (some (.builtin "object.__setattr__")))
    (ga5 : PySem.W.findIn K (.ref f5) "__getattribute__" = some (some (.builtin "BaseException.__getattribute__")))
    (gg5 : PySem.W.findIn K (.ref f5) "__getattr__" = some none)
    (nt5 : PySem.W.findIn K (.ref f5) "tag" = some none)
    (ii5 : PySem.W.findIn K (.ref f5) "__init__" = some (some (.ref f1005)))
    (ti5 : PySem.W.typeIn K (.ref f1005) = some (.type "function"))
    (kC5 : PySem.W.keepIn K (.ref f5) = true)
    (eC5 : PySem.W.subIn K (.ref f5) (.type "BaseException") = some true)
    (tC5 : PySem.W.typeIn K (.ref f5) = some (.type "type"))
    (hC5 : PySem.W.hasDictIn K f5 = true)
    (oc_5 : PySem.W.findIn K (.ref f5) "__class__" = some (some (.builtin "object.__class__")))
    (hm5 : PySem.W.mroIn K f5 (.type "object") = some true)
    (n5_at : PySem.W.findIn K (.ref f5) "at" = some none)
    (l1005 : K.lookup f1005 = some ⟨oc1005, od1005, .func (PySem.W.fnOf "__init__" "InvalidTie.__init__" (defArgs (inClass (topS 5) 0)) (defBody (inClass (topS 5) 0)) (defScope (inClass (topS 5) 0)) .none kV1005 dc1005 pm1005 an1005 cd1005 ct1005), sl1005⟩)
    (c1005 : PySem.W.codeIn K cd1005 "InvalidTie.__init__" = true)
    (k1005 : PySem.W.keepIn K (.ref f1005) = true)
    (a6 : PySem.W.nsIn K mainGlobals "InvalidWish" = some (some (.ref f6)))
    (x6 : K.lookup f6 = some (excClassObj nm6 q6 f6 N6 bs6 [.ref f1, .type "ValueError", .type "Exception", .type "BaseException", .type "object"] true sn6 sub6 ab6 col6 dd6 m06 m16 m26 m36 m56 "ValueError.__new__"))
    (sa6 : PySem.W.findIn K (.ref f6) "__setattr__" = some (some (.builtin "object.__setattr__")))
    (ga6 : PySem.W.findIn K (.ref f6) "__getattribute__" = some (some (.builtin "BaseException.__getattribute__")))
    (gg6 : PySem.W.findIn K (.ref f6) "__getattr__" = some none)
    (nt6 : PySem.W.findIn K (.ref f6) "tag" = some none)
    (ii6 : PySem.W.findIn K (.ref f6) "__init__" = some (some (.ref f1006)))
    (ti6 : PySem.W.typeIn K (.ref f1006) = some (.type "function"))
    (kC6 : PySem.W.keepIn K (.ref f6) = true)
    (eC6 : PySem.W.subIn K (.ref f6) (.type "BaseException") = some true)
    (tC6 : PySem.W.typeIn K (.ref f6) = some (.type "type"))
    (hC6 : PySem.W.hasDictIn K f6 = true)
    (oc_6 : PySem.W.findIn K (.ref f6) "__class__" = some (some (.builtin "object.__class__")))
    (hm6 : PySem.W.mroIn K f6 (.type "object") = some true)
    (n6_at : PySem.W.findIn K (.ref f6) "at" = some none)
    (l1006 : K.lookup f1006 = some ⟨oc1006, od1006, .func (PySem.W.fnOf "__init__" "InvalidWish.__init__" (defArgs (inClass (topS 6) 0)) (defBody (inClass (topS 6) 0)) (defScope (inClass (topS 6) 0)) .none kV1006 dc1006 pm1006 an1006 cd1006 ct1006), sl1006⟩)
    (c1006 : PySem.W.codeIn K cd1006 "InvalidWish.__init__" = true)
    (k1006 : PySem.W.keepIn K (.ref f1006) = true)
    (a7 : PySem.W.nsIn K mainGlobals "InvalidTimes" = some (some (.ref f7)))
    (x7 : K.lookup f7 = some (excClassObj nm7 q7 f7 N7 bs7 [.ref f1, .type "ValueError", .type "Exception", .type "BaseException", .type "object"] true sn7 sub7 ab7 col7 dd7 m07 m17 m27 m37 m57 "ValueError.__new__"))
    (sa7 : PySem.W.findIn K (.ref f7) "__setattr__" = some (some (.builtin "object.__setattr__")))
    (ga7 : PySem.W.findIn K (.ref f7) "__getattribute__" = some (some (.builtin "BaseException.__getattribute__")))
    (gg7 : PySem.W.findIn K (.ref f7) "__getattr__" = some none)
    (nt7 : PySem.W.findIn K (.ref f7) "tag" = some none)
    (ii7 : PySem.W.findIn K (.ref f7) "__init__" = some (some (.ref f1007)))
    (ti7 : PySem.W.typeIn K (.ref f1007) = some (.type "function"))
    (kC7 : PySem.W.keepIn K (.ref f7) = true)
    (eC7 : PySem.W.subIn K (.ref f7) (.type "BaseException") = some true)
    (tC7 : PySem.W.typeIn K (.ref f7) = some (.type "type"))
    (hC7 : PySem.W.hasDictIn K f7 = true)
    (oc_7 : PySem.W.findIn K (.ref f7) "__class__" = some (some (.builtin "object.__class__")))
    (hm7 : PySem.W.mroIn K f7 (.type "object") = some true)
    (n7_given : PySem.W.findIn K (.ref f7) "given" = some none)
    (l1007 : K.lookup f1007 = some ⟨oc1007, od1007, .func (PySem.W.fnOf "__init__" "InvalidTimes.__init__" (defArgs (inClass (topS 7) 0)) (defBody (inClass (topS 7) 0)) (defScope (inClass (topS 7) 0)) .none kV1007 dc1007 pm1007 an1007 cd1007 ct1007), sl1007⟩)
    (c1007 : PySem.W.codeIn K cd1007 "InvalidTimes.__init__" = true)
    (k1007 : PySem.W.keepIn K (.ref f1007) = true)
    (a8 : PySem.W.nsIn K mainGlobals "InvalidLimit" = some (some (.ref f8)))
    (x8 : K.lookup f8 = some (excClassObj nm8 q8 f8 N8 bs8 [.ref f1, .type "ValueError", .type "Exception", .type "BaseException", .type "object"] true sn8 sub8 ab8 col8 dd8 m08 m18 m28 m38 m58 "ValueError.__new__"))
    (sa8 : PySem.W.findIn K (.ref f8) "__setattr__" = some (some (.builtin "object.__setattr__")))
    (ga8 : PySem.W.findIn K (.ref f8) "__getattribute__" = some (some (.builtin "BaseException.__getattribute__")))
    (gg8 : PySem.W.findIn K (.ref f8) "__getattr__" = some none)
    (nt8 : PySem.W.findIn K (.ref f8) "tag" = some none)
    (ii8 : PySem.W.findIn K (.ref f8) "__init__" = some (some (.ref f1008)))
    (ti8 : PySem.W.typeIn K (.ref f1008) = some (.type "function"))
    (kC8 : PySem.W.keepIn K (.ref f8) = true)
    (eC8 : PySem.W.subIn K (.ref f8) (.type "BaseException") = some true)
    (tC8 : PySem.W.typeIn K (.ref f8) = some (.type "type"))
    (hC8 : PySem.W.hasDictIn K f8 = true)
    (oc_8 : PySem.W.findIn K (.ref f8) "__class__" = some (some (.builtin "object.__class__")))
    (hm8 : PySem.W.mroIn K f8 (.type "object") = some true)
    (n8_given : PySem.W.findIn K (.ref f8) "given" = some none)
    (l1008 : K.lookup f1008 = some ⟨oc1008, od1008, .func (PySem.W.fnOf "__init__" "InvalidLimit.__init__" (defArgs (inClass (topS 8) 0)) (defBody (inClass (topS 8) 0)) (defScope (inClass (topS 8) 0)) .none kV1008 dc1008 pm1008 an1008 cd1008 ct1008), sl1008⟩)
    (c1008 : PySem.W.codeIn K cd1008 "InvalidLimit.__init__" = true)
    (k1008 : PySem.W.keepIn K (.ref f1008) = true)
    (a9 : PySem.W.nsIn K mainGlobals "InvalidCommand" = some (some (.ref f9)))
    (x9 : K.lookup f9 = some (excClassObj nm9 q9 f9 N9 bs9 [.ref f1, .type "ValueError", .type "Exception", .type "BaseException", .type "object"] true sn9 sub9 ab9 col9 dd9 m09 m19 m29 m39 m59 "ValueError.__new__"))
    (sa9 : PySem.W.findIn K (.ref f9) "__setattr__" = some (some (.builtin "object.__setattr__")))
    (ga9 : PySem.W.findIn K (.ref f9) "__getattribute__" = some (some (.builtin "BaseException.__getattribute__")))
    (gg9 : PySem.W.findIn K (.ref f9) "__getattr__" = some none)
    (nt9 : PySem.W.findIn K (.ref f9) "tag" = some none)
    (ii9 : PySem.W.findIn K (.ref f9) "__init__" = some (some (.ref f1009)))
    (ti9 : PySem.W.typeIn K (.ref f1009) = some (.type "function"))
    (kC9 : PySem.W.keepIn K (.ref f9) = true)
    (eC9 : PySem.W.subIn K (.ref f9) (.type "BaseException") = some true)
    (tC9 : PySem.W.typeIn K (.ref f9) = some (.type "type"))
    (hC9 : PySem.W.hasDictIn K f9 = true)
    (oc_9 : PySem.W.findIn K (.ref f9) "__class__" = some (some (.builtin "object.__class__")))
    (hm9 : PySem.W.mroIn K f9 (.type "object") = some true)
    (n9_first : PySem.W.findIn K (.ref f9) "first" = some none)
    (l1009 : K.lookup f1009 = some ⟨oc1009, od1009, .func (PySem.W.fnOf "__init__" "InvalidCommand.__init__" (defArgs (inClass (topS 9) 0)) (defBody (inClass (topS 9) 0)) (defScope (inClass (topS 9) 0)) .none kV1009 dc1009 pm1009 an1009 cd1009 ct1009), sl1009⟩)
    (c1009 : PySem.W.codeIn K cd1009 "InvalidCommand.__init__" = true)
    (k1009 : PySem.W.keepIn K (.ref f1009) = true)
    (a10 : PySem.W.nsIn K mainGlobals "NotTied" = some (some (.ref f10)))
    (x10 : K.lookup f10 = some (excClassObj nm10 q10 f10 N10 bs10 [.ref f1, .type "ValueError", .type "Exception", .type "BaseException", .type "object"] true sn10 sub10 ab10 col10 dd10 m010 m110 m210 m310 m510 "ValueError.__new__"))
    (sa10 : PySem.W.findIn K (.ref f10) "__setattr__" = some (some (.builtin "object.__setattr__")))
    (ga10 : PySem.W.findIn K (.ref f10) "__getattribute__" = some (some (.builtin "BaseException.__getattribute__")))
    (gg10 : PySem.W.findIn K (.ref f10) "__getattr__" = some none)
    (nt10 : PySem.W.findIn K (.ref f10) "tag" = some none)
    (ii10 : PySem.W.findIn K (.ref f10) "__init__" = some (some (.ref f1010)))
    (ti10 : PySem.W.typeIn K (.ref f1010) = some (.type "function"))
    (kC10 : PySem.W.keepIn K (.ref f10) = true)
    (eC10 : PySem.W.subIn K (.ref f10) (.type "BaseException") = some true)
    (tC10 : PySem.W.typeIn K (.ref f10) = some (.type "type"))
    (hC10 : PySem.W.hasDictIn K f10 = true)
    (oc_10 : PySem.W.findIn K (.ref f10) "__class__" = some (some (.builtin "object.__class__")))
    (hm10 : PySem.W.mroIn K f10 (.type "object") = some true)
    (n10_many : PySem.W.findIn K (.ref f10) "many" = some none)
    (l1010 : K.lookup f1010 = some ⟨oc1010, od1010, .func (PySem.W.fnOf "__init__" "NotTied.__init__" (defArgs (inClass (topS 10) 0)) (defBody (inClass (topS 10) 0)) (defScope (inClass (topS 10) 0)) .none kV1010 dc1010 pm1010 an1010 cd1010 ct1010), sl1010⟩)
    (c1010 : PySem.W.codeIn K cd1010 "NotTied.__init__" = true)
    (k1010 : PySem.W.keepIn K (.ref f1010) = true)
    (a11 : PySem.W.nsIn K mainGlobals "SameName" = some (some (.ref f11)))
    (x11 : K.lookup f11 = some (excClassObj nm11 q11 f11 N11 bs11 [.ref f1, .type "ValueError", .type "Exception", .type "BaseException", .type "object"] true sn11 sub11 ab11 col11 dd11 m011 m111 m211 m311 m511 "ValueError.__new__"))
    (sa11 : PySem.W.findIn K (.ref f11) "__setattr__" = some (some (.builtin "object.__setattr__")))
    (ga11 : PySem.W.findIn K (.ref f11) "__getattribute__" = some (some (.builtin "BaseException.__getattribute__")))
    (gg11 : PySem.W.findIn K (.ref f11) "__getattr__" = some none)
    (nt11 : PySem.W.findIn K (.ref f11) "tag" = some none)
    (ii11 : PySem.W.findIn K (.ref f11) "__init__" = some (some (.ref f1011)))
    (ti11 : PySem.W.typeIn K (.ref f1011) = some (.type "function"))
    (kC11 : PySem.W.keepIn K (.ref f11) = true)
    (eC11 : PySem.W.subIn K (.ref f11) (.type "BaseException") = some true)
    (tC11 : PySem.W.typeIn K (.ref f11) = some (.type "type"))
    (hC11 : PySem.W.hasDictIn K f11 = true)
    (oc_11 : PySem.W.findIn K (.ref f11) "__class__" = some (some (.builtin "object.__class__")))
    (hm11 : PySem.W.mroIn K f11 (.type "object") = some true)
    (n11_name : PySem.W.findIn K (.ref f11) "name" = some none)
    (l1011 : K.lookup f1011 = some ⟨oc1011, od1011, .func (PySem.W.fnOf "__init__" "SameName.__init__" (defArgs (inClass (topS 11) 0)) (defBody (inClass (topS 11) 0)) (defScope (inClass (topS 11) 0)) .none kV1011 dc1011 pm1011 an1011 cd1011 ct1011), sl1011⟩)
    (c1011 : PySem.W.codeIn K cd1011 "SameName.__init__" = true)
    (k1011 : PySem.W.keepIn K (.ref f1011) = true)
    (a12 : PySem.W.nsIn K mainGlobals "NamesDiffer" = some (some (.ref f12)))
    (x12 : K.lookup f12 = some (excClassObj nm12 q12 f12 N12 bs12 [.ref f1, .type "ValueError", .type "Exception", .type "BaseException", .type "object"] true sn12 sub12 ab12 col12 dd12 m012 m112 m212 m312 m512 "ValueError.__new__"))
    (sa12 : PySem.W.findIn K (.ref f12) "__setattr__" = some (some (.builtin "object.__setattr__")))
    (ga12 : PySem.W.findIn K (.ref f12) "__getattribute__" = some (some (.builtin "BaseException.__getattribute__")))
    (gg12 : PySem.W.findIn K (.ref f12) "__getattr__" = some none)
    (nt12 : PySem.W.findIn K (.ref f12) "tag" = some none)
    (ii12 : PySem.W.findIn K (.ref f12) "__init__" = some (some (.ref f1012)))
    (ti12 : PySem.W.typeIn K (.ref f1012) = some (.type "function"))
    (kC12 : PySem.W.keepIn K (.ref f12) = true)
    (eC12 : PySem.W.subIn K (.ref f12) (.type "BaseException") = some true)
    (tC12 : PySem.W.typeIn K (.ref f12) = some (.type "type"))
    (hC12 : PySem.W.hasDictIn K f12 = true)
    (oc_12 : PySem.W.findIn K (.ref f12) "__class__" = some (some (.builtin "object.__class__")))
    (hm12 : PySem.W.mroIn K f12 (.type "object") = some true)
    (l1012 : K.lookup f1012 = some ⟨oc1012, od1012, .func (PySem.W.fnOf "__init__" "NamesDiffer.__init__" (defArgs (inClass (topS 12) 0)) (defBody (inClass (topS 12) 0)) (defScope (inClass (topS 12) 0)) .none kV1012 dc1012 pm1012 an1012 cd1012 ct1012), sl1012⟩)
    (c1012 : PySem.W.codeIn K cd1012 "NamesDiffer.__init__" = true)
    (k1012 : PySem.W.keepIn K (.ref f1012) = true)
    (a13 : PySem.W.nsIn K mainGlobals "EmptyFigure" = some (some (.ref f13)))
    (x13 : K.lookup f13 = some (excClassObj nm13 q13 f13 N13 bs13 [.ref f1, .type "ValueError", .type "Exception", .type "BaseException", .type "object"] true sn13 sub13 ab13 col13 dd13 m013 m113 m213 m313 m513 "ValueError.__new__"))
    (sa13 : PySem.W.findIn K (.ref f13) "__setattr__" = some (some (.builtin "object.__setattr__")))
    (ga13 : PySem.W.findIn K (.ref f13) "__getattribute__" = some (some (.builtin "BaseException.__getattribute__")))
    (gg13 : PySem.W.findIn K (.ref f13) "__getattr__" = some none)
    (nt13 : PySem.W.findIn K (.ref f13) "tag" = some none)
    (ii13 : PySem.W.findIn K (.ref f13) "__init__" = some (some (.ref f1013)))
    (ti13 : PySem.W.typeIn K (.ref f1013) = some (.type "function"))
    (kC13 : PySem.W.keepIn K (.ref f13) = true)
    (eC13 : PySem.W.subIn K (.ref f13) (.type "BaseException") = some true)
    (tC13 : PySem.W.typeIn K (.ref f13) = some (.type "type"))
    (hC13 : PySem.W.hasDictIn K f13 = true)
    (oc_13 : PySem.W.findIn K (.ref f13) "__class__" = some (some (.builtin "object.__class__")))
    (hm13 : PySem.W.mroIn K f13 (.type "object") = some true)
    (l1013 : K.lookup f1013 = some ⟨oc1013, od1013, .func (PySem.W.fnOf "__init__" "EmptyFigure.__init__" (defArgs (inClass (topS 13) 0)) (defBody (inClass (topS 13) 0)) (defScope (inClass (topS 13) 0)) .none kV1013 dc1013 pm1013 an1013 cd1013 ct1013), sl1013⟩)
    (c1013 : PySem.W.codeIn K cd1013 "EmptyFigure.__init__" = true)
    (k1013 : PySem.W.keepIn K (.ref f1013) = true)
    (a14 : PySem.W.nsIn K mainGlobals "Impossible" = some (some (.ref f14)))
    (x14 : K.lookup f14 = some (excClassObj nm14 q14 f14 N14 bs14 [.ref f1, .type "ValueError", .type "Exception", .type "BaseException", .type "object"] true sn14 sub14 ab14 col14 dd14 m014 m114 m214 m314 m514 "ValueError.__new__"))
    (sa14 : PySem.W.findIn K (.ref f14) "__setattr__" = some (some (.builtin "object.__setattr__")))
    (ga14 : PySem.W.findIn K (.ref f14) "__getattribute__" = some (some (.builtin "BaseException.__getattribute__")))
    (gg14 : PySem.W.findIn K (.ref f14) "__getattr__" = some none)
    (nt14 : PySem.W.findIn K (.ref f14) "tag" = some none)
    (ii14 : PySem.W.findIn K (.ref f14) "__init__" = some (some (.ref f1014)))
    (ti14 : PySem.W.typeIn K (.ref f1014) = some (.type "function"))
    (kC14 : PySem.W.keepIn K (.ref f14) = true)
    (eC14 : PySem.W.subIn K (.ref f14) (.type "BaseException") = some true)
    (tC14 : PySem.W.typeIn K (.ref f14) = some (.type "type"))
    (hC14 : PySem.W.hasDictIn K f14 = true)
    (oc_14 : PySem.W.findIn K (.ref f14) "__class__" = some (some (.builtin "object.__class__")))
    (hm14 : PySem.W.mroIn K f14 (.type "object") = some true)
    (l1014 : K.lookup f1014 = some ⟨oc1014, od1014, .func (PySem.W.fnOf "__init__" "Impossible.__init__" (defArgs (inClass (topS 14) 0)) (defBody (inClass (topS 14) 0)) (defScope (inClass (topS 14) 0)) .none kV1014 dc1014 pm1014 an1014 cd1014 ct1014), sl1014⟩)
    (c1014 : PySem.W.codeIn K cd1014 "Impossible.__init__" = true)
    (k1014 : PySem.W.keepIn K (.ref f1014) = true)
    (a15 : PySem.W.nsIn K mainGlobals "Possible" = some (some (.ref f15)))
    (x15 : K.lookup f15 = some (excClassObj nm15 q15 f15 N15 bs15 [.ref f1, .type "ValueError", .type "Exception", .type "BaseException", .type "object"] true sn15 sub15 ab15 col15 dd15 m015 m115 m215 m315 m515 "ValueError.__new__"))
    (sa15 : PySem.W.findIn K (.ref f15) "__setattr__" = some (some (.builtin "object.__setattr__")))
    (ga15 : PySem.W.findIn K (.ref f15) "__getattribute__" = some (some (.builtin "BaseException.__getattribute__")))
    (gg15 : PySem.W.findIn K (.ref f15) "__getattr__" = some none)
    (nt15 : PySem.W.findIn K (.ref f15) "tag" = some none)
    (ii15 : PySem.W.findIn K (.ref f15) "__init__" = some (some (.ref f1015)))
    (ti15 : PySem.W.typeIn K (.ref f1015) = some (.type "function"))
    (kC15 : PySem.W.keepIn K (.ref f15) = true)
    (eC15 : PySem.W.subIn K (.ref f15) (.type "BaseException") = some true)
    (tC15 : PySem.W.typeIn K (.ref f15) = some (.type "type"))
    (hC15 : PySem.W.hasDictIn K f15 = true)
    (oc_15 : PySem.W.findIn K (.ref f15) "__class__" = some (some (.builtin "object.__class__")))
    (hm15 : PySem.W.mroIn K f15 (.type "object") = some true)
    (n15_answer : PySem.W.findIn K (.ref f15) "answer" = some none)
    (l1015 : K.lookup f1015 = some ⟨oc1015, od1015, .func (PySem.W.fnOf "__init__" "Possible.__init__" (defArgs (inClass (topS 15) 0)) (defBody (inClass (topS 15) 0)) (defScope (inClass (topS 15) 0)) .none kV1015 dc1015 pm1015 an1015 cd1015 ct1015), sl1015⟩)
    (c1015 : PySem.W.codeIn K cd1015 "Possible.__init__" = true)
    (k1015 : PySem.W.keepIn K (.ref f1015) = true)
    (a16 : PySem.W.nsIn K mainGlobals "NotImplied" = some (some (.ref f16)))
    (x16 : K.lookup f16 = some (excClassObj nm16 q16 f16 N16 bs16 [.ref f1, .type "ValueError", .type "Exception", .type "BaseException", .type "object"] true sn16 sub16 ab16 col16 dd16 m016 m116 m216 m316 m516 "ValueError.__new__"))
    (sa16 : PySem.W.findIn K (.ref f16) "__setattr__" = some (some (.builtin "object.__setattr__")))
    (ga16 : PySem.W.findIn K (.ref f16) "__getattribute__" = some (some (.builtin "BaseException.__getattribute__")))
    (gg16 : PySem.W.findIn K (.ref f16) "__getattr__" = some none)
    (nt16 : PySem.W.findIn K (.ref f16) "tag" = some none)
    (ii16 : PySem.W.findIn K (.ref f16) "__init__" = some (some (.ref f1016)))
    (ti16 : PySem.W.typeIn K (.ref f1016) = some (.type "function"))
    (kC16 : PySem.W.keepIn K (.ref f16) = true)
    (eC16 : PySem.W.subIn K (.ref f16) (.type "BaseException") = some true)
    (tC16 : PySem.W.typeIn K (.ref f16) = some (.type "type"))
    (hC16 : PySem.W.hasDictIn K f16 = true)
    (oc_16 : PySem.W.findIn K (.ref f16) "__class__" = some (some (.builtin "object.__class__")))
    (hm16 : PySem.W.mroIn K f16 (.type "object") = some true)
    (n16_answer : PySem.W.findIn K (.ref f16) "answer" = some none)
    (l1016 : K.lookup f1016 = some ⟨oc1016, od1016, .func (PySem.W.fnOf "__init__" "NotImplied.__init__" (defArgs (inClass (topS 16) 0)) (defBody (inClass (topS 16) 0)) (defScope (inClass (topS 16) 0)) .none kV1016 dc1016 pm1016 an1016 cd1016 ct1016), sl1016⟩)
    (c1016 : PySem.W.codeIn K cd1016 "NotImplied.__init__" = true)
    (k1016 : PySem.W.keepIn K (.ref f1016) = true)
    (a17 : PySem.W.nsIn K mainGlobals "ParseError" = some (some (.ref f17)))
    (x17 : K.lookup f17 = some (excClassObj nm17 q17 f17 N17 bs17 [.ref f1, .type "ValueError", .type "Exception", .type "BaseException", .type "object"] true sn17 sub17 ab17 col17 dd17 m017 m117 m217 m317 m517 "ValueError.__new__"))
    (sa17 : PySem.W.findIn K (.ref f17) "__setattr__" = some (some (.builtin "object.__setattr__")))
    (ga17 : PySem.W.findIn K (.ref f17) "__getattribute__" = some (some (.builtin "BaseException.__getattribute__")))
    (gg17 : PySem.W.findIn K (.ref f17) "__getattr__" = some none)
    (nt17 : PySem.W.findIn K (.ref f17) "tag" = some none)
    (ii17 : PySem.W.findIn K (.ref f17) "__init__" = some (some (.ref f1017)))
    (ti17 : PySem.W.typeIn K (.ref f1017) = some (.type "function"))
    (kC17 : PySem.W.keepIn K (.ref f17) = true)
    (eC17 : PySem.W.subIn K (.ref f17) (.type "BaseException") = some true)
    (tC17 : PySem.W.typeIn K (.ref f17) = some (.type "type"))
    (hC17 : PySem.W.hasDictIn K f17 = true)
    (oc_17 : PySem.W.findIn K (.ref f17) "__class__" = some (some (.builtin "object.__class__")))
    (hm17 : PySem.W.mroIn K f17 (.type "object") = some true)
    (n17_at : PySem.W.findIn K (.ref f17) "at" = some none)
    (l1017 : K.lookup f1017 = some ⟨oc1017, od1017, .func (PySem.W.fnOf "__init__" "ParseError.__init__" (defArgs (inClass (topS 17) 0)) (defBody (inClass (topS 17) 0)) (defScope (inClass (topS 17) 0)) .none kV1017 dc1017 pm1017 an1017 cd1017 ct1017), sl1017⟩)
    (c1017 : PySem.W.codeIn K cd1017 "ParseError.__init__" = true)
    (k1017 : PySem.W.keepIn K (.ref f1017) = true)
    (a18 : PySem.W.nsIn K mainGlobals "DuplicateLabel" = some (some (.ref f18)))
    (x18 : K.lookup f18 = some (excClassObj nm18 q18 f18 N18 bs18 [.ref f1, .type "ValueError", .type "Exception", .type "BaseException", .type "object"] true sn18 sub18 ab18 col18 dd18 m018 m118 m218 m318 m518 "ValueError.__new__"))
    (sa18 : PySem.W.findIn K (.ref f18) "__setattr__" = some (some (.builtin "object.__setattr__")))
    (ga18 : PySem.W.findIn K (.ref f18) "__getattribute__" = some (some (.builtin "BaseException.__getattribute__")))
    (gg18 : PySem.W.findIn K (.ref f18) "__getattr__" = some none)
    (nt18 : PySem.W.findIn K (.ref f18) "tag" = some none)
    (ii18 : PySem.W.findIn K (.ref f18) "__init__" = some (some (.ref f1018)))
    (ti18 : PySem.W.typeIn K (.ref f1018) = some (.type "function"))
    (kC18 : PySem.W.keepIn K (.ref f18) = true)
    (eC18 : PySem.W.subIn K (.ref f18) (.type "BaseException") = some true)
    (tC18 : PySem.W.typeIn K (.ref f18) = some (.type "type"))
    (hC18 : PySem.W.hasDictIn K f18 = true)
    (oc_18 : PySem.W.findIn K (.ref f18) "__class__" = some (some (.builtin "object.__class__")))
    (hm18 : PySem.W.mroIn K f18 (.type "object") = some true)
    (n18_label : PySem.W.findIn K (.ref f18) "label" = some none)
    (l1018 : K.lookup f1018 = some ⟨oc1018, od1018, .func (PySem.W.fnOf "__init__" "DuplicateLabel.__init__" (defArgs (inClass (topS 18) 0)) (defBody (inClass (topS 18) 0)) (defScope (inClass (topS 18) 0)) .none kV1018 dc1018 pm1018 an1018 cd1018 ct1018), sl1018⟩)
    (c1018 : PySem.W.codeIn K cd1018 "DuplicateLabel.__init__" = true)
    (k1018 : PySem.W.keepIn K (.ref f1018) = true)
    (a19 : PySem.W.nsIn K mainGlobals "CapacityExceeded" = some (some (.ref f19)))
    (x19 : K.lookup f19 = some (excClassObj nm19 q19 f19 N19 bs19 [.ref f1, .type "ValueError", .type "Exception", .type "BaseException", .type "object"] true sn19 sub19 ab19 col19 dd19 m019 m119 m219 m319 m519 "ValueError.__new__"))
    (sa19 : PySem.W.findIn K (.ref f19) "__setattr__" = some (some (.builtin "object.__setattr__")))
    (ga19 : PySem.W.findIn K (.ref f19) "__getattribute__" = some (some (.builtin "BaseException.__getattribute__")))
    (gg19 : PySem.W.findIn K (.ref f19) "__getattr__" = some none)
    (nt19 : PySem.W.findIn K (.ref f19) "tag" = some none)
    (ii19 : PySem.W.findIn K (.ref f19) "__init__" = some (some (.ref f1019)))
    (ti19 : PySem.W.typeIn K (.ref f1019) = some (.type "function"))
    (kC19 : PySem.W.keepIn K (.ref f19) = true)
    (eC19 : PySem.W.subIn K (.ref f19) (.type "BaseException") = some true)
    (tC19 : PySem.W.typeIn K (.ref f19) = some (.type "type"))
    (hC19 : PySem.W.hasDictIn K f19 = true)
    (oc_19 : PySem.W.findIn K (.ref f19) "__class__" = some (some (.builtin "object.__class__")))
    (hm19 : PySem.W.mroIn K f19 (.type "object") = some true)
    (n19_most : PySem.W.findIn K (.ref f19) "most" = some none)
    (l1019 : K.lookup f1019 = some ⟨oc1019, od1019, .func (PySem.W.fnOf "__init__" "CapacityExceeded.__init__" (defArgs (inClass (topS 19) 0)) (defBody (inClass (topS 19) 0)) (defScope (inClass (topS 19) 0)) .none kV1019 dc1019 pm1019 an1019 cd1019 ct1019), sl1019⟩)
    (c1019 : PySem.W.codeIn K cd1019 "CapacityExceeded.__init__" = true)
    (k1019 : PySem.W.keepIn K (.ref f1019) = true)
    (a20 : PySem.W.nsIn K mainGlobals "Missing" = some (some (.ref f20)))
    (x20 : K.lookup f20 = some (excClassObj nm20 q20 f20 N20 bs20 [.type "LookupError", .type "Exception", .type "BaseException", .type "object"] true sn20 sub20 ab20 col20 dd20 m020 m120 m220 m320 m520 "LookupError.__new__"))
    (sa20 : PySem.W.findIn K (.ref f20) "__setattr__" = some (some (.builtin "object.__setattr__")))
    (ga20 : PySem.W.findIn K (.ref f20) "__getattribute__" = some (some (.builtin "BaseException.__getattribute__")))
    (gg20 : PySem.W.findIn K (.ref f20) "__getattr__" = some none)
    (nt20 : PySem.W.findIn K (.ref f20) "tag" = some none)
    (ii20 : PySem.W.findIn K (.ref f20) "__init__" = some (some (.ref f1020)))
    (ti20 : PySem.W.typeIn K (.ref f1020) = some (.type "function"))
    (kC20 : PySem.W.keepIn K (.ref f20) = true)
    (eC20 : PySem.W.subIn K (.ref f20) (.type "BaseException") = some true)
    (tC20 : PySem.W.typeIn K (.ref f20) = some (.type "type"))
    (hC20 : PySem.W.hasDictIn K f20 = true)
    (oc_20 : PySem.W.findIn K (.ref f20) "__class__" = some (some (.builtin "object.__class__")))
    (hm20 : PySem.W.mroIn K f20 (.type "object") = some true)
    (l1020 : K.lookup f1020 = some ⟨oc1020, od1020, .func (PySem.W.fnOf "__init__" "Missing.__init__" (defArgs (inClass (topS 20) 0)) (defBody (inClass (topS 20) 0)) (defScope (inClass (topS 20) 0)) .none kV1020 dc1020 pm1020 an1020 cd1020 ct1020), sl1020⟩)
    (c1020 : PySem.W.codeIn K cd1020 "Missing.__init__" = true)
    (k1020 : PySem.W.keepIn K (.ref f1020) = true)
    (a21 : PySem.W.nsIn K mainGlobals "UnknownName" = some (some (.ref f21)))
    (x21 : K.lookup f21 = some (excClassObj nm21 q21 f21 N21 bs21 [.ref f20, .type "LookupError", .type "Exception", .type "BaseException", .type "object"] true sn21 sub21 ab21 col21 dd21 m021 m121 m221 m321 m521 "LookupError.__new__"))
    (sa21 : PySem.W.findIn K (.ref f21) "__setattr__" = some (some (.builtin "object.__setattr__")))
    (ga21 : PySem.W.findIn K (.ref f21) "__getattribute__" = some (some (.builtin "BaseException.__getattribute__")))
    (gg21 : PySem.W.findIn K (.ref f21) "__getattr__" = some none)
    (nt21 : PySem.W.findIn K (.ref f21) "tag" = some none)
    (ii21 : PySem.W.findIn K (.ref f21) "__init__" = some (some (.ref f1021)))
    (ti21 : PySem.W.typeIn K (.ref f1021) = some (.type "function"))
    (kC21 : PySem.W.keepIn K (.ref f21) = true)
    (eC21 : PySem.W.subIn K (.ref f21) (.type "BaseException") = some true)
    (tC21 : PySem.W.typeIn K (.ref f21) = some (.type "type"))
    (hC21 : PySem.W.hasDictIn K f21 = true)
    (oc_21 : PySem.W.findIn K (.ref f21) "__class__" = some (some (.builtin "object.__class__")))
    (hm21 : PySem.W.mroIn K f21 (.type "object") = some true)
    (n21_name : PySem.W.findIn K (.ref f21) "name" = some none)
    (l1021 : K.lookup f1021 = some ⟨oc1021, od1021, .func (PySem.W.fnOf "__init__" "UnknownName.__init__" (defArgs (inClass (topS 21) 0)) (defBody (inClass (topS 21) 0)) (defScope (inClass (topS 21) 0)) .none kV1021 dc1021 pm1021 an1021 cd1021 ct1021), sl1021⟩)
    (c1021 : PySem.W.codeIn K cd1021 "UnknownName.__init__" = true)
    (k1021 : PySem.W.keepIn K (.ref f1021) = true)
    (a22 : PySem.W.nsIn K mainGlobals "UnknownLabel" = some (some (.ref f22)))
    (x22 : K.lookup f22 = some (excClassObj nm22 q22 f22 N22 bs22 [.ref f20, .type "LookupError", .type "Exception", .type "BaseException", .type "object"] true sn22 sub22 ab22 col22 dd22 m022 m122 m222 m322 m522 "LookupError.__new__"))
    (sa22 : PySem.W.findIn K (.ref f22) "__setattr__" = some (some (.builtin "object.__setattr__")))
    (ga22 : PySem.W.findIn K (.ref f22) "__getattribute__" = some (some (.builtin "BaseException.__getattribute__")))
    (gg22 : PySem.W.findIn K (.ref f22) "__getattr__" = some none)
    (nt22 : PySem.W.findIn K (.ref f22) "tag" = some none)
    (ii22 : PySem.W.findIn K (.ref f22) "__init__" = some (some (.ref f1022)))
    (ti22 : PySem.W.typeIn K (.ref f1022) = some (.type "function"))
    (kC22 : PySem.W.keepIn K (.ref f22) = true)
    (eC22 : PySem.W.subIn K (.ref f22) (.type "BaseException") = some true)
    (tC22 : PySem.W.typeIn K (.ref f22) = some (.type "type"))
    (hC22 : PySem.W.hasDictIn K f22 = true)
    (oc_22 : PySem.W.findIn K (.ref f22) "__class__" = some (some (.builtin "object.__class__")))
    (hm22 : PySem.W.mroIn K f22 (.type "object") = some true)
    (n22_label : PySem.W.findIn K (.ref f22) "label" = some none)
    (l1022 : K.lookup f1022 = some ⟨oc1022, od1022, .func (PySem.W.fnOf "__init__" "UnknownLabel.__init__" (defArgs (inClass (topS 22) 0)) (defBody (inClass (topS 22) 0)) (defScope (inClass (topS 22) 0)) .none kV1022 dc1022 pm1022 an1022 cd1022 ct1022), sl1022⟩)
    (c1022 : PySem.W.codeIn K cd1022 "UnknownLabel.__init__" = true)
    (k1022 : PySem.W.keepIn K (.ref f1022) = true)
    (a23 : PySem.W.nsIn K mainGlobals "NothingLeft" = some (some (.ref f23)))
    (x23 : K.lookup f23 = some (excClassObj nm23 q23 f23 N23 bs23 [.type "IndexError", .type "LookupError", .type "Exception", .type "BaseException", .type "object"] true sn23 sub23 ab23 col23 dd23 m023 m123 m223 m323 m523 "IndexError.__new__"))
    (sa23 : PySem.W.findIn K (.ref f23) "__setattr__" = some (some (.builtin "object.__setattr__")))
    (ga23 : PySem.W.findIn K (.ref f23) "__getattribute__" = some (some (.builtin "BaseException.__getattribute__")))
    (gg23 : PySem.W.findIn K (.ref f23) "__getattr__" = some none)
    (nt23 : PySem.W.findIn K (.ref f23) "tag" = some none)
    (ii23 : PySem.W.findIn K (.ref f23) "__init__" = some (some (.ref f1023)))
    (ti23 : PySem.W.typeIn K (.ref f1023) = some (.type "function"))
    (kC23 : PySem.W.keepIn K (.ref f23) = true)
    (eC23 : PySem.W.subIn K (.ref f23) (.type "BaseException") = some true)
    (tC23 : PySem.W.typeIn K (.ref f23) = some (.type "type"))
    (hC23 : PySem.W.hasDictIn K f23 = true)
    (oc_23 : PySem.W.findIn K (.ref f23) "__class__" = some (some (.builtin "object.__class__")))
    (hm23 : PySem.W.mroIn K f23 (.type "object") = some true)
    (l1023 : K.lookup f1023 = some ⟨oc1023, od1023, .func (PySem.W.fnOf "__init__" "NothingLeft.__init__" (defArgs (inClass (topS 23) 0)) (defBody (inClass (topS 23) 0)) (defScope (inClass (topS 23) 0)) .none kV1023 dc1023 pm1023 an1023 cd1023 ct1023), sl1023⟩)
    (c1023 : PySem.W.codeIn K cd1023 "NothingLeft.__init__" = true)
    (k1023 : PySem.W.keepIn K (.ref f1023) = true)
    (gh : PySem.W.specialIn K (.builtin "object.__class__") "__get__" = some (some (.builtin "getset_descriptor.__get__")))
    (gt : PySem.W.takesIn K (.builtin "object.__class__") = some true)
    (hkit : (([(1, f1), (2, f2), (3, f3), (4, f4), (5, f5), (6, f6), (7, f7), (8, f8), (9, f9), (10, f10), (11, f11), (12, f12), (13, f13), (14, f14), (15, f15), (16, f16), (17, f17), (18, f18), (19, f19), (20, f20), (21, f21), (22, f22), (23, f23)] : List (Nat × Addr)).all fun p => ([(1, f1), (2, f2), (3, f3), (4, f4), (5, f5), (6, f6), (7, f7), (8, f8), (9, f9), (10, f10), (11, f11), (12, f12), (13, f13), (14, f14), (15, f15), (16, f16), (17, f17), (18, f18), (19, f19), (20, f20), (21, f21), (22, f22), (23, f23)] : List (Nat × Addr)).all fun q => PySem.W.kitOne K (.ref p.2) (.ref q.2) == some (subT p.1 q.1)) = true)
    (hkitB : (([(1, f1), (2, f2), (3, f3), (4, f4), (5, f5), (6, f6), (7, f7), (8, f8), (9, f9), (10, f10), (11, f11), (12, f12), (13, f13), (14, f14), (15, f15), (16, f16), (17, f17), (18, f18), (19, f19), (20, f20), (21, f21), (22, f22), (23, f23)] : List (Nat × Addr)).all fun p => PySem.W.kitOne K (.ref p.2) (.type "ValueError") == some (subB p.1 0) && PySem.W.kitOne K (.ref p.2) (.type "LookupError") == some (subB p.1 1) && PySem.W.kitOne K (.ref p.2) (.type "IndexError") == some (subB p.1 2)) = true)
    : ∃ fd : FuncData, (∀ (s : Shared) (v : Value), BindsTo s fd ⟨[v], []⟩ [("_law_script", v)]) ∧ ∀ base : Heap, K.In base → base.Ns mainGlobals mg → FnOk l.prog w K mg base CX0 8 fl fd ["_law_script"] (spLaw K) := by
  have e := hfa.symm.trans (PySem.W.mg_of X G a32)
  cases e
  have F25 := fun_mk (st := s_feed) l25 c25 k25
  have F26 := fun_mk (st := s_draw) l26 c26 k26
  have F27 := fun_mk (st := s_any) l27 c27 k27
  have F28 := fun_mk (st := s_same) l28 c28 k28
  have F29 := fun_mk (st := s_made_errors) l29 c29 k29
  have F30 := fun_mk (st := s_flags) l30 c30 k30
  have F31 := fun_mk (st := s_value_of) l31 c31 k31
  have F32 := fun_mk (st := s_p_law) l32 c32 k32
  have F1001 := fun_mk (st := inClass (topS 1) 0) l1001 c1001 k1001
  have E1 : ErrG K mg "TieError" f1 f1001 "ValueError.__new__" tlV := ⟨⟨⟨_, _, _, _, _, _, _, _, _, _, _, _, _, _, _, x1, ⟨fun self => by rw [PySem.refuseLoop_ref]; exact PySem.F.store_ValueError.passes self, by rfl, by rfl⟩, fun _ => rfl⟩, sa1, eC1, tC1, kC1⟩, ⟨ga1, gg1, eC1, hC1⟩, ⟨ga1, gg1, eC1, hC1, oc_1, gh, gt, hm1⟩, PySem.W.mg_of X G a1, nt1, ii1, ti1⟩
  have F1002 := fun_mk (st := inClass (topS 2) 0) l1002 c1002 k1002
  have E2 : ErrG K mg "InvalidRatio" f2 f1002 "ValueError.__new__" tlV := ⟨⟨⟨_, _, _, _, _, _, _, _, _, _, _, _, _, _, _, x2, ⟨fun self => by rw [PySem.refuseLoop_ref]; rw [PySem.refuseLoop_ref]; exact PySem.F.store_ValueError.passes self, by rfl, by rfl⟩, fun _ => rfl⟩, sa2, eC2, tC2, kC2⟩, ⟨ga2, gg2, eC2, hC2⟩, ⟨ga2, gg2, eC2, hC2, oc_2, gh, gt, hm2⟩, PySem.W.mg_of X G a2, nt2, ii2, ti2⟩
  have F1003 := fun_mk (st := inClass (topS 3) 0) l1003 c1003 k1003
  have E3 : ErrG K mg "InvalidRow" f3 f1003 "ValueError.__new__" tlV := ⟨⟨⟨_, _, _, _, _, _, _, _, _, _, _, _, _, _, _, x3, ⟨fun self => by rw [PySem.refuseLoop_ref]; rw [PySem.refuseLoop_ref]; exact PySem.F.store_ValueError.passes self, by rfl, by rfl⟩, fun _ => rfl⟩, sa3, eC3, tC3, kC3⟩, ⟨ga3, gg3, eC3, hC3⟩, ⟨ga3, gg3, eC3, hC3, oc_3, gh, gt, hm3⟩, PySem.W.mg_of X G a3, nt3, ii3, ti3⟩
  have F1004 := fun_mk (st := inClass (topS 4) 0) l1004 c1004 k1004
  have E4 : ErrG K mg "InvalidName" f4 f1004 "ValueError.__new__" tlV := ⟨⟨⟨_, _, _, _, _, _, _, _, _, _, _, _, _, _, _, x4, ⟨fun self => by rw [PySem.refuseLoop_ref]; rw [PySem.refuseLoop_ref]; exact PySem.F.store_ValueError.passes self, by rfl, by rfl⟩, fun _ => rfl⟩, sa4, eC4, tC4, kC4⟩, ⟨ga4, gg4, eC4, hC4⟩, ⟨ga4, gg4, eC4, hC4, oc_4, gh, gt, hm4⟩, PySem.W.mg_of X G a4, nt4, ii4, ti4⟩
  have F1005 := fun_mk (st := inClass (topS 5) 0) l1005 c1005 k1005
  have E5 : ErrG K mg "InvalidTie" f5 f1005 "ValueError.__new__" tlV := ⟨⟨⟨_, _, _, _, _, _, _, _, _, _, _, _, _, _, _, x5, ⟨fun self => by rw [PySem.refuseLoop_ref]; rw [PySem.refuseLoop_ref]; exact PySem.F.store_ValueError.passes self, by rfl, by rfl⟩, fun _ => rfl⟩, sa5, eC5, tC5, kC5⟩, ⟨ga5, gg5, eC5, hC5⟩, ⟨ga5, gg5, eC5, hC5, oc_5, gh, gt, hm5⟩, PySem.W.mg_of X G a5, nt5, ii5, ti5⟩
  have F1006 := fun_mk (st := inClass (topS 6) 0) l1006 c1006 k1006
  have E6 : ErrG K mg "InvalidWish" f6 f1006 "ValueError.__new__" tlV := ⟨⟨⟨_, _, _, _, _, _, _, _, _, _, _, _, _, _, _, x6, ⟨fun self => by rw [PySem.refuseLoop_ref]; rw [PySem.refuseLoop_ref]; exact PySem.F.store_ValueError.passes self, by rfl, by rfl⟩, fun _ => rfl⟩, sa6, eC6, tC6, kC6⟩, ⟨ga6, gg6, eC6, hC6⟩, ⟨ga6, gg6, eC6, hC6, oc_6, gh, gt, hm6⟩, PySem.W.mg_of X G a6, nt6, ii6, ti6⟩
  have F1007 := fun_mk (st := inClass (topS 7) 0) l1007 c1007 k1007
  have E7 : ErrG K mg "InvalidTimes" f7 f1007 "ValueError.__new__" tlV := ⟨⟨⟨_, _, _, _, _, _, _, _, _, _, _, _, _, _, _, x7, ⟨fun self => by rw [PySem.refuseLoop_ref]; rw [PySem.refuseLoop_ref]; exact PySem.F.store_ValueError.passes self, by rfl, by rfl⟩, fun _ => rfl⟩, sa7, eC7, tC7, kC7⟩, ⟨ga7, gg7, eC7, hC7⟩, ⟨ga7, gg7, eC7, hC7, oc_7, gh, gt, hm7⟩, PySem.W.mg_of X G a7, nt7, ii7, ti7⟩
  have F1008 := fun_mk (st := inClass (topS 8) 0) l1008 c1008 k1008
  have E8 : ErrG K mg "InvalidLimit" f8 f1008 "ValueError.__new__" tlV := ⟨⟨⟨_, _, _, _, _, _, _, _, _, _, _, _, _, _, _, x8, ⟨fun self => by rw [PySem.refuseLoop_ref]; rw [PySem.refuseLoop_ref]; exact PySem.F.store_ValueError.passes self, by rfl, by rfl⟩, fun _ => rfl⟩, sa8, eC8, tC8, kC8⟩, ⟨ga8, gg8, eC8, hC8⟩, ⟨ga8, gg8, eC8, hC8, oc_8, gh, gt, hm8⟩, PySem.W.mg_of X G a8, nt8, ii8, ti8⟩
  have F1009 := fun_mk (st := inClass (topS 9) 0) l1009 c1009 k1009
  have E9 : ErrG K mg "InvalidCommand" f9 f1009 "ValueError.__new__" tlV := ⟨⟨⟨_, _, _, _, _, _, _, _, _, _, _, _, _, _, _, x9, ⟨fun self => by rw [PySem.refuseLoop_ref]; rw [PySem.refuseLoop_ref]; exact PySem.F.store_ValueError.passes self, by rfl, by rfl⟩, fun _ => rfl⟩, sa9, eC9, tC9, kC9⟩, ⟨ga9, gg9, eC9, hC9⟩, ⟨ga9, gg9, eC9, hC9, oc_9, gh, gt, hm9⟩, PySem.W.mg_of X G a9, nt9, ii9, ti9⟩
  have F1010 := fun_mk (st := inClass (topS 10) 0) l1010 c1010 k1010
  have E10 : ErrG K mg "NotTied" f10 f1010 "ValueError.__new__" tlV := ⟨⟨⟨_, _, _, _, _, _, _, _, _, _, _, _, _, _, _, x10, ⟨fun self => by rw [PySem.refuseLoop_ref]; rw [PySem.refuseLoop_ref]; exact PySem.F.store_ValueError.passes self, by rfl, by rfl⟩, fun _ => rfl⟩, sa10, eC10, tC10, kC10⟩, ⟨ga10, gg10, eC10, hC10⟩, ⟨ga10, gg10, eC10, hC10, oc_10, gh, gt, hm10⟩, PySem.W.mg_of X G a10, nt10, ii10, ti10⟩
  have F1011 := fun_mk (st := inClass (topS 11) 0) l1011 c1011 k1011
  have E11 : ErrG K mg "SameName" f11 f1011 "ValueError.__new__" tlV := ⟨⟨⟨_, _, _, _, _, _, _, _, _, _, _, _, _, _, _, x11, ⟨fun self => by rw [PySem.refuseLoop_ref]; rw [PySem.refuseLoop_ref]; exact PySem.F.store_ValueError.passes self, by rfl, by rfl⟩, fun _ => rfl⟩, sa11, eC11, tC11, kC11⟩, ⟨ga11, gg11, eC11, hC11⟩, ⟨ga11, gg11, eC11, hC11, oc_11, gh, gt, hm11⟩, PySem.W.mg_of X G a11, nt11, ii11, ti11⟩
  have F1012 := fun_mk (st := inClass (topS 12) 0) l1012 c1012 k1012
  have E12 : ErrG K mg "NamesDiffer" f12 f1012 "ValueError.__new__" tlV := ⟨⟨⟨_, _, _, _, _, _, _, _, _, _, _, _, _, _, _, x12, ⟨fun self => by rw [PySem.refuseLoop_ref]; rw [PySem.refuseLoop_ref]; exact PySem.F.store_ValueError.passes self, by rfl, by rfl⟩, fun _ => rfl⟩, sa12, eC12, tC12, kC12⟩, ⟨ga12, gg12, eC12, hC12⟩, ⟨ga12, gg12, eC12, hC12, oc_12, gh, gt, hm12⟩, PySem.W.mg_of X G a12, nt12, ii12, ti12⟩
  have F1013 := fun_mk (st := inClass (topS 13) 0) l1013 c1013 k1013
  have E13 : ErrG K mg "EmptyFigure" f13 f1013 "ValueError.__new__" tlV := ⟨⟨⟨_, _, _, _, _, _, _, _, _, _, _, _, _, _, _, x13, ⟨fun self => by rw [PySem.refuseLoop_ref]; rw [PySem.refuseLoop_ref]; exact PySem.F.store_ValueError.passes self, by rfl, by rfl⟩, fun _ => rfl⟩, sa13, eC13, tC13, kC13⟩, ⟨ga13, gg13, eC13, hC13⟩, ⟨ga13, gg13, eC13, hC13, oc_13, gh, gt, hm13⟩, PySem.W.mg_of X G a13, nt13, ii13, ti13⟩
  have F1014 := fun_mk (st := inClass (topS 14) 0) l1014 c1014 k1014
  have E14 : ErrG K mg "Impossible" f14 f1014 "ValueError.__new__" tlV := ⟨⟨⟨_, _, _, _, _, _, _, _, _, _, _, _, _, _, _, x14, ⟨fun self => by rw [PySem.refuseLoop_ref]; rw [PySem.refuseLoop_ref]; exact PySem.F.store_ValueError.passes self, by rfl, by rfl⟩, fun _ => rfl⟩, sa14, eC14, tC14, kC14⟩, ⟨ga14, gg14, eC14, hC14⟩, ⟨ga14, gg14, eC14, hC14, oc_14, gh, gt, hm14⟩, PySem.W.mg_of X G a14, nt14, ii14, ti14⟩
  have F1015 := fun_mk (st := inClass (topS 15) 0) l1015 c1015 k1015
  have E15 : ErrG K mg "Possible" f15 f1015 "ValueError.__new__" tlV := ⟨⟨⟨_, _, _, _, _, _, _, _, _, _, _, _, _, _, _, x15, ⟨fun self => by rw [PySem.refuseLoop_ref]; rw [PySem.refuseLoop_ref]; exact PySem.F.store_ValueError.passes self, by rfl, by rfl⟩, fun _ => rfl⟩, sa15, eC15, tC15, kC15⟩, ⟨ga15, gg15, eC15, hC15⟩, ⟨ga15, gg15, eC15, hC15, oc_15, gh, gt, hm15⟩, PySem.W.mg_of X G a15, nt15, ii15, ti15⟩
  have F1016 := fun_mk (st := inClass (topS 16) 0) l1016 c1016 k1016
  have E16 : ErrG K mg "NotImplied" f16 f1016 "ValueError.__new__" tlV := ⟨⟨⟨_, _, _, _, _, _, _, _, _, _, _, _, _, _, _, x16, ⟨fun self => by rw [PySem.refuseLoop_ref]; rw [PySem.refuseLoop_ref]; exact PySem.F.store_ValueError.passes self, by rfl, by rfl⟩, fun _ => rfl⟩, sa16, eC16, tC16, kC16⟩, ⟨ga16, gg16, eC16, hC16⟩, ⟨ga16, gg16, eC16, hC16, oc_16, gh, gt, hm16⟩, PySem.W.mg_of X G a16, nt16, ii16, ti16⟩
  have F1017 := fun_mk (st := inClass (topS 17) 0) l1017 c1017 k1017
  have E17 : ErrG K mg "ParseError" f17 f1017 "ValueError.__new__" tlV := ⟨⟨⟨_, _, _, _, _, _, _, _, _, _, _, _, _, _, _, x17, ⟨fun self => by rw [PySem.refuseLoop_ref]; rw [PySem.refuseLoop_ref]; exact PySem.F.store_ValueError.passes self, by rfl, by rfl⟩, fun _ => rfl⟩, sa17, eC17, tC17, kC17⟩, ⟨ga17, gg17, eC17, hC17⟩, ⟨ga17, gg17, eC17, hC17, oc_17, gh, gt, hm17⟩, PySem.W.mg_of X G a17, nt17, ii17, ti17⟩
  have F1018 := fun_mk (st := inClass (topS 18) 0) l1018 c1018 k1018
  have E18 : ErrG K mg "DuplicateLabel" f18 f1018 "ValueError.__new__" tlV := ⟨⟨⟨_, _, _, _, _, _, _, _, _, _, _, _, _, _, _, x18, ⟨fun self => by rw [PySem.refuseLoop_ref]; rw [PySem.refuseLoop_ref]; exact PySem.F.store_ValueError.passes self, by rfl, by rfl⟩, fun _ => rfl⟩, sa18, eC18, tC18, kC18⟩, ⟨ga18, gg18, eC18, hC18⟩, ⟨ga18, gg18, eC18, hC18, oc_18, gh, gt, hm18⟩, PySem.W.mg_of X G a18, nt18, ii18, ti18⟩
  have F1019 := fun_mk (st := inClass (topS 19) 0) l1019 c1019 k1019
  have E19 : ErrG K mg "CapacityExceeded" f19 f1019 "ValueError.__new__" tlV := ⟨⟨⟨_, _, _, _, _, _, _, _, _, _, _, _, _, _, _, x19, ⟨fun self => by rw [PySem.refuseLoop_ref]; rw [PySem.refuseLoop_ref]; exact PySem.F.store_ValueError.passes self, by rfl, by rfl⟩, fun _ => rfl⟩, sa19, eC19, tC19, kC19⟩, ⟨ga19, gg19, eC19, hC19⟩, ⟨ga19, gg19, eC19, hC19, oc_19, gh, gt, hm19⟩, PySem.W.mg_of X G a19, nt19, ii19, ti19⟩
  have F1020 := fun_mk (st := inClass (topS 20) 0) l1020 c1020 k1020
  have E20 : ErrG K mg "Missing" f20 f1020 "LookupError.__new__" tlL := ⟨⟨⟨_, _, _, _, _, _, _, _, _, _, _, _, _, _, _, x20, ⟨fun self => by rw [PySem.refuseLoop_ref]; exact PySem.F.store_LookupError.passes self, by rfl, by rfl⟩, fun _ => rfl⟩, sa20, eC20, tC20, kC20⟩, ⟨ga20, gg20, eC20, hC20⟩, ⟨ga20, gg20, eC20, hC20, oc_20, gh, gt, hm20⟩, PySem.W.mg_of X G a20, nt20, ii20, ti20⟩
  have F1021 := fun_mk (st := inClass (topS 21) 0) l1021 c1021 k1021
  have E21 : ErrG K mg "UnknownName" f21 f1021 "LookupError.__new__" tlL := ⟨⟨⟨_, _, _, _, _, _, _, _, _, _, _, _, _, _, _, x21, ⟨fun self => by rw [PySem.refuseLoop_ref]; rw [PySem.refuseLoop_ref]; exact PySem.F.store_LookupError.passes self, by rfl, by rfl⟩, fun _ => rfl⟩, sa21, eC21, tC21, kC21⟩, ⟨ga21, gg21, eC21, hC21⟩, ⟨ga21, gg21, eC21, hC21, oc_21, gh, gt, hm21⟩, PySem.W.mg_of X G a21, nt21, ii21, ti21⟩
  have F1022 := fun_mk (st := inClass (topS 22) 0) l1022 c1022 k1022
  have E22 : ErrG K mg "UnknownLabel" f22 f1022 "LookupError.__new__" tlL := ⟨⟨⟨_, _, _, _, _, _, _, _, _, _, _, _, _, _, _, x22, ⟨fun self => by rw [PySem.refuseLoop_ref]; rw [PySem.refuseLoop_ref]; exact PySem.F.store_LookupError.passes self, by rfl, by rfl⟩, fun _ => rfl⟩, sa22, eC22, tC22, kC22⟩, ⟨ga22, gg22, eC22, hC22⟩, ⟨ga22, gg22, eC22, hC22, oc_22, gh, gt, hm22⟩, PySem.W.mg_of X G a22, nt22, ii22, ti22⟩
  have F1023 := fun_mk (st := inClass (topS 23) 0) l1023 c1023 k1023
  have E23 : ErrG K mg "NothingLeft" f23 f1023 "IndexError.__new__" tlI := ⟨⟨⟨_, _, _, _, _, _, _, _, _, _, _, _, _, _, _, x23, ⟨fun self => by rw [PySem.refuseLoop_ref]; exact PySem.F.store_IndexError.passes self, by rfl, by rfl⟩, fun _ => rfl⟩, sa23, eC23, tC23, kC23⟩, ⟨ga23, gg23, eC23, hC23⟩, ⟨ga23, gg23, eC23, hC23, oc_23, gh, gt, hm23⟩, PySem.W.mg_of X G a23, nt23, ii23, ti23⟩
  have T : Txt K mg (fun i => match i with
      | 25 => f25
      | 26 => f26
      | 27 => f27
      | 28 => f28
      | 29 => f29
      | 30 => f30
      | 31 => f31
      | 32 => fl
      | 1 => f1
      | 1001 => f1001
      | 2 => f2
      | 1002 => f1002
      | 3 => f3
      | 1003 => f1003
      | 4 => f4
      | 1004 => f1004
      | 5 => f5
      | 1005 => f1005
      | 6 => f6
      | 1006 => f1006
      | 7 => f7
      | 1007 => f1007
      | 8 => f8
      | 1008 => f1008
      | 9 => f9
      | 1009 => f1009
      | 10 => f10
      | 1010 => f1010
      | 11 => f11
      | 1011 => f1011
      | 12 => f12
      | 1012 => f1012
      | 13 => f13
      | 1013 => f1013
      | 14 => f14
      | 1014 => f1014
      | 15 => f15
      | 1015 => f1015
      | 16 => f16
      | 1016 => f1016
      | 17 => f17
      | 1017 => f1017
      | 18 => f18
      | 1018 => f1018
      | 19 => f19
      | 1019 => f1019
      | 20 => f20
      | 1020 => f1020
      | 21 => f21
      | 1021 => f1021
      | 22 => f22
      | 1022 => f1022
      | 23 => f23
      | 1023 => f1023
      | _ => fl) (fun i => match i with
      | 1001 => PySem.W.fnOf "__init__" "TieError.__init__" (defArgs (inClass (topS 1) 0)) (defBody (inClass (topS 1) 0)) (defScope (inClass (topS 1) 0)) .none kV1001 dc1001 pm1001 an1001 cd1001 ct1001
      | 1002 => PySem.W.fnOf "__init__" "InvalidRatio.__init__" (defArgs (inClass (topS 2) 0)) (defBody (inClass (topS 2) 0)) (defScope (inClass (topS 2) 0)) .none kV1002 dc1002 pm1002 an1002 cd1002 ct1002
      | 1003 => PySem.W.fnOf "__init__" "InvalidRow.__init__" (defArgs (inClass (topS 3) 0)) (defBody (inClass (topS 3) 0)) (defScope (inClass (topS 3) 0)) .none kV1003 dc1003 pm1003 an1003 cd1003 ct1003
      | 1004 => PySem.W.fnOf "__init__" "InvalidName.__init__" (defArgs (inClass (topS 4) 0)) (defBody (inClass (topS 4) 0)) (defScope (inClass (topS 4) 0)) .none kV1004 dc1004 pm1004 an1004 cd1004 ct1004
      | 1005 => PySem.W.fnOf "__init__" "InvalidTie.__init__" (defArgs (inClass (topS 5) 0)) (defBody (inClass (topS 5) 0)) (defScope (inClass (topS 5) 0)) .none kV1005 dc1005 pm1005 an1005 cd1005 ct1005
      | 1006 => PySem.W.fnOf "__init__" "InvalidWish.__init__" (defArgs (inClass (topS 6) 0)) (defBody (inClass (topS 6) 0)) (defScope (inClass (topS 6) 0)) .none kV1006 dc1006 pm1006 an1006 cd1006 ct1006
      | 1007 => PySem.W.fnOf "__init__" "InvalidTimes.__init__" (defArgs (inClass (topS 7) 0)) (defBody (inClass (topS 7) 0)) (defScope (inClass (topS 7) 0)) .none kV1007 dc1007 pm1007 an1007 cd1007 ct1007
      | 1008 => PySem.W.fnOf "__init__" "InvalidLimit.__init__" (defArgs (inClass (topS 8) 0)) (defBody (inClass (topS 8) 0)) (defScope (inClass (topS 8) 0)) .none kV1008 dc1008 pm1008 an1008 cd1008 ct1008
      | 1009 => PySem.W.fnOf "__init__" "InvalidCommand.__init__" (defArgs (inClass (topS 9) 0)) (defBody (inClass (topS 9) 0)) (defScope (inClass (topS 9) 0)) .none kV1009 dc1009 pm1009 an1009 cd1009 ct1009
      | 1010 => PySem.W.fnOf "__init__" "NotTied.__init__" (defArgs (inClass (topS 10) 0)) (defBody (inClass (topS 10) 0)) (defScope (inClass (topS 10) 0)) .none kV1010 dc1010 pm1010 an1010 cd1010 ct1010
      | 1011 => PySem.W.fnOf "__init__" "SameName.__init__" (defArgs (inClass (topS 11) 0)) (defBody (inClass (topS 11) 0)) (defScope (inClass (topS 11) 0)) .none kV1011 dc1011 pm1011 an1011 cd1011 ct1011
      | 1012 => PySem.W.fnOf "__init__" "NamesDiffer.__init__" (defArgs (inClass (topS 12) 0)) (defBody (inClass (topS 12) 0)) (defScope (inClass (topS 12) 0)) .none kV1012 dc1012 pm1012 an1012 cd1012 ct1012
      | 1013 => PySem.W.fnOf "__init__" "EmptyFigure.__init__" (defArgs (inClass (topS 13) 0)) (defBody (inClass (topS 13) 0)) (defScope (inClass (topS 13) 0)) .none kV1013 dc1013 pm1013 an1013 cd1013 ct1013
      | 1014 => PySem.W.fnOf "__init__" "Impossible.__init__" (defArgs (inClass (topS 14) 0)) (defBody (inClass (topS 14) 0)) (defScope (inClass (topS 14) 0)) .none kV1014 dc1014 pm1014 an1014 cd1014 ct1014
      | 1015 => PySem.W.fnOf "__init__" "Possible.__init__" (defArgs (inClass (topS 15) 0)) (defBody (inClass (topS 15) 0)) (defScope (inClass (topS 15) 0)) .none kV1015 dc1015 pm1015 an1015 cd1015 ct1015
      | 1016 => PySem.W.fnOf "__init__" "NotImplied.__init__" (defArgs (inClass (topS 16) 0)) (defBody (inClass (topS 16) 0)) (defScope (inClass (topS 16) 0)) .none kV1016 dc1016 pm1016 an1016 cd1016 ct1016
      | 1017 => PySem.W.fnOf "__init__" "ParseError.__init__" (defArgs (inClass (topS 17) 0)) (defBody (inClass (topS 17) 0)) (defScope (inClass (topS 17) 0)) .none kV1017 dc1017 pm1017 an1017 cd1017 ct1017
      | 1018 => PySem.W.fnOf "__init__" "DuplicateLabel.__init__" (defArgs (inClass (topS 18) 0)) (defBody (inClass (topS 18) 0)) (defScope (inClass (topS 18) 0)) .none kV1018 dc1018 pm1018 an1018 cd1018 ct1018
      | 1019 => PySem.W.fnOf "__init__" "CapacityExceeded.__init__" (defArgs (inClass (topS 19) 0)) (defBody (inClass (topS 19) 0)) (defScope (inClass (topS 19) 0)) .none kV1019 dc1019 pm1019 an1019 cd1019 ct1019
      | 1020 => PySem.W.fnOf "__init__" "Missing.__init__" (defArgs (inClass (topS 20) 0)) (defBody (inClass (topS 20) 0)) (defScope (inClass (topS 20) 0)) .none kV1020 dc1020 pm1020 an1020 cd1020 ct1020
      | 1021 => PySem.W.fnOf "__init__" "UnknownName.__init__" (defArgs (inClass (topS 21) 0)) (defBody (inClass (topS 21) 0)) (defScope (inClass (topS 21) 0)) .none kV1021 dc1021 pm1021 an1021 cd1021 ct1021
      | 1022 => PySem.W.fnOf "__init__" "UnknownLabel.__init__" (defArgs (inClass (topS 22) 0)) (defBody (inClass (topS 22) 0)) (defScope (inClass (topS 22) 0)) .none kV1022 dc1022 pm1022 an1022 cd1022 ct1022
      | 1023 => PySem.W.fnOf "__init__" "NothingLeft.__init__" (defArgs (inClass (topS 23) 0)) (defBody (inClass (topS 23) 0)) (defScope (inClass (topS 23) 0)) .none kV1023 dc1023 pm1023 an1023 cd1023 ct1023
      | 25 => (PySem.W.fnOf "_law_feed" "_law_feed" (defArgs s_feed) (defBody s_feed) (defScope s_feed) .none kV25 dc25 pm25 an25 cd25 ct25)
      | 26 => (PySem.W.fnOf "_law_draw" "_law_draw" (defArgs s_draw) (defBody s_draw) (defScope s_draw) .none kV26 dc26 pm26 an26 cd26 ct26)
      | 27 => (PySem.W.fnOf "_law_any" "_law_any" (defArgs s_any) (defBody s_any) (defScope s_any) .none kV27 dc27 pm27 an27 cd27 ct27)
      | 28 => (PySem.W.fnOf "_law_same" "_law_same" (defArgs s_same) (defBody s_same) (defScope s_same) .none kV28 dc28 pm28 an28 cd28 ct28)
      | 29 => (PySem.W.fnOf "_law_made_errors" "_law_made_errors" (defArgs s_made_errors) (defBody s_made_errors) (defScope s_made_errors) .none kV29 dc29 pm29 an29 cd29 ct29)
      | 30 => (PySem.W.fnOf "_law_flags" "_law_flags" (defArgs s_flags) (defBody s_flags) (defScope s_flags) .none kV30 dc30 pm30 an30 cd30 ct30)
      | 31 => (PySem.W.fnOf "_law_value_of" "_law_value_of" (defArgs s_value_of) (defBody s_value_of) (defScope s_value_of) .none kV31 dc31 pm31 an31 cd31 ct31)
      | 32 => (PySem.W.fnOf "law" "law" (defArgs s_p_law) (defBody s_p_law) (defScope s_p_law) .none kV32 dc32 pm32 an32 cd32 ct32)
      | _ => (PySem.W.fnOf "_law_feed" "_law_feed" (defArgs s_feed) (defBody s_feed) (defScope s_feed) .none kV25 dc25 pm25 an25 cd25 ct25)) := {
    F_feed := F25, g_feed := PySem.W.mg_of X G a25
    b_feed := F25.binds (ps := ["_law_script"]) fun _ _ _ _ _ _ us hl => match us, hl with | [_], _ => rfl
    F_draw := F26, g_draw := PySem.W.mg_of X G a26
    b_draw := F26.binds (ps := ["_law_feed_here", "_law_many"]) fun _ _ _ _ _ _ us hl => match us, hl with | [_, _], _ => rfl
    F_any := F27, g_any := PySem.W.mg_of X G a27
    b_any := F27.binds (ps := ["_law_feed_here", "_law_row"]) fun _ _ _ _ _ _ us hl => match us, hl with | [_, _], _ => rfl
    F_same := F28, g_same := PySem.W.mg_of X G a28
    b_same := F28.binds (ps := ["_law_found", "_law_due"]) fun _ _ _ _ _ _ us hl => match us, hl with | [_, _], _ => rfl
    F_made_errors := F29, g_made_errors := PySem.W.mg_of X G a29
    b_made_errors := F29.binds (ps := ["_law_number", "_law_word"]) fun _ _ _ _ _ _ us hl => match us, hl with | [_, _], _ => rfl
    F_flags := F30, g_flags := PySem.W.mg_of X G a30
    b_flags := F30.binds (ps := ["_law_e"]) fun _ _ _ _ _ _ us hl => match us, hl with | [_], _ => rfl
    F_value_of := F31, g_value_of := PySem.W.mg_of X G a31
    b_value_of := F31.binds (ps := ["_law_e"]) fun _ _ _ _ _ _ us hl => match us, hl with | [_], _ => rfl
    F_p_law := F32, g_p_law := PySem.W.mg_of X G a32
    b_p_law := F32.binds (ps := ["_law_script"]) fun _ _ _ _ _ _ us hl => match us, hl with | [_], _ => rfl
    eTieError := E1, ITieError := F1001
    bITieError := F1001.binds (ps := ["self"]) fun _ _ _ _ _ _ us hl => match us, hl with | [_], _ => rfl
    eInvalidRatio := E2, IInvalidRatio := F1002
    bIInvalidRatio := F1002.binds (ps := ["self", "given"]) fun _ _ _ _ _ _ us hl => match us, hl with | [_, _], _ => rfl
    nInvalidRatio_given := n2_given
    eInvalidRow := E3, IInvalidRow := F1003
    bIInvalidRow := F1003.binds (ps := ["self", "at"]) fun _ _ _ _ _ _ us hl => match us, hl with | [_, _], _ => rfl
    nInvalidRow_at := n3_at
    eInvalidName := E4, IInvalidName := F1004
    bIInvalidName := F1004.binds (ps := ["self", "name"]) fun _ _ _ _ _ _ us hl => match us, hl with | [_, _], _ => rfl
    nInvalidName_name := n4_name
    eInvalidTie := E5, IInvalidTie := F1005
    bIInvalidTie := F1005.binds (ps := ["self", "at"]) fun _ _ _ _ _ _ us hl => match us, hl with | [_, _], _ => rfl
    nInvalidTie_at := n5_at
    eInvalidWish := E6, IInvalidWish := F1006
    bIInvalidWish := F1006.binds (ps := ["self", "at"]) fun _ _ _ _ _ _ us hl => match us, hl with | [_, _], _ => rfl
    nInvalidWish_at := n6_at
    eInvalidTimes := E7, IInvalidTimes := F1007
    bIInvalidTimes := F1007.binds (ps := ["self", "given"]) fun _ _ _ _ _ _ us hl => match us, hl with | [_, _], _ => rfl
    nInvalidTimes_given := n7_given
    eInvalidLimit := E8, IInvalidLimit := F1008
    bIInvalidLimit := F1008.binds (ps := ["self", "given"]) fun _ _ _ _ _ _ us hl => match us, hl with | [_, _], _ => rfl
    nInvalidLimit_given := n8_given
    eInvalidCommand := E9, IInvalidCommand := F1009
    bIInvalidCommand := F1009.binds (ps := ["self", "first"]) fun _ _ _ _ _ _ us hl => match us, hl with | [_, _], _ => rfl
    nInvalidCommand_first := n9_first
    eNotTied := E10, INotTied := F1010
    bINotTied := F1010.binds (ps := ["self", "many"]) fun _ _ _ _ _ _ us hl => match us, hl with | [_, _], _ => rfl
    nNotTied_many := n10_many
    eSameName := E11, ISameName := F1011
    bISameName := F1011.binds (ps := ["self", "name"]) fun _ _ _ _ _ _ us hl => match us, hl with | [_, _], _ => rfl
    nSameName_name := n11_name
    eNamesDiffer := E12, INamesDiffer := F1012
    bINamesDiffer := F1012.binds (ps := ["self"]) fun _ _ _ _ _ _ us hl => match us, hl with | [_], _ => rfl
    eEmptyFigure := E13, IEmptyFigure := F1013
    bIEmptyFigure := F1013.binds (ps := ["self"]) fun _ _ _ _ _ _ us hl => match us, hl with | [_], _ => rfl
    eImpossible := E14, IImpossible := F1014
    bIImpossible := F1014.binds (ps := ["self"]) fun _ _ _ _ _ _ us hl => match us, hl with | [_], _ => rfl
    ePossible := E15, IPossible := F1015
    bIPossible := F1015.binds (ps := ["self", "answer"]) fun _ _ _ _ _ _ us hl => match us, hl with | [_, _], _ => rfl
    nPossible_answer := n15_answer
    eNotImplied := E16, INotImplied := F1016
    bINotImplied := F1016.binds (ps := ["self", "answer"]) fun _ _ _ _ _ _ us hl => match us, hl with | [_, _], _ => rfl
    nNotImplied_answer := n16_answer
    eParseError := E17, IParseError := F1017
    bIParseError := F1017.binds (ps := ["self", "at"]) fun _ _ _ _ _ _ us hl => match us, hl with | [_, _], _ => rfl
    nParseError_at := n17_at
    eDuplicateLabel := E18, IDuplicateLabel := F1018
    bIDuplicateLabel := F1018.binds (ps := ["self", "label"]) fun _ _ _ _ _ _ us hl => match us, hl with | [_, _], _ => rfl
    nDuplicateLabel_label := n18_label
    eCapacityExceeded := E19, ICapacityExceeded := F1019
    bICapacityExceeded := F1019.binds (ps := ["self", "most"]) fun _ _ _ _ _ _ us hl => match us, hl with | [_, _], _ => rfl
    nCapacityExceeded_most := n19_most
    eMissing := E20, IMissing := F1020
    bIMissing := F1020.binds (ps := ["self"]) fun _ _ _ _ _ _ us hl => match us, hl with | [_], _ => rfl
    eUnknownName := E21, IUnknownName := F1021
    bIUnknownName := F1021.binds (ps := ["self", "name"]) fun _ _ _ _ _ _ us hl => match us, hl with | [_, _], _ => rfl
    nUnknownName_name := n21_name
    eUnknownLabel := E22, IUnknownLabel := F1022
    bIUnknownLabel := F1022.binds (ps := ["self", "label"]) fun _ _ _ _ _ _ us hl => match us, hl with | [_, _], _ => rfl
    nUnknownLabel_label := n22_label
    eNothingLeft := E23, INothingLeft := F1023
    bINothingLeft := F1023.binds (ps := ["self"]) fun _ _ _ _ _ _ us hl => match us, hl with | [_], _ => rfl
    kit := hkit, kitB := hkitB
    m_int := PySem.W.mg_none_of X G z_int
    m_len := PySem.W.mg_none_of X G z_len
    m_abs := PySem.W.mg_none_of X G z_abs
    m_range := PySem.W.mg_none_of X G z_range
    m_zip := PySem.W.mg_none_of X G z_zip
    m_all := PySem.W.mg_none_of X G z_all
    m_isinstance := PySem.W.mg_none_of X G z_isinstance
    m_bool := PySem.W.mg_none_of X G z_bool
    m_str := PySem.W.mg_none_of X G z_str
    m_tuple := PySem.W.mg_none_of X G z_tuple
    m_list := PySem.W.mg_none_of X G z_list
    m_dict := PySem.W.mg_none_of X G z_dict
    m_ValueError := PySem.W.mg_none_of X G z_ValueError
    m_LookupError := PySem.W.mg_none_of X G z_LookupError
    m_IndexError := PySem.W.mg_none_of X G z_IndexError
  }
  exact ⟨_, fun s v => .of_eq rfl, fun base _ _ => ok_p_law T⟩
end T0
open PySem PySem.W PyProof.Rows
set_option maxHeartbeats 0 in
theorem PySem.Challenge.cw_tiespan_k59_refusals_by_their_classes_holds : PySem.Challenge.rw_tiespan_k59_refusals_by_their_classes.Holds := by
  w_on; o_law; k_head; (case hw => w_witness2)
  k_fill
  refine L2.walk_of (l := PySem.Challenge.rw_tiespan_k59_refusals_by_their_classes) (n := 63) (k := 8) (x := "_law_script") (CX := fun _ => L2.CX0) (sp := fun w => T0.spLaw _) rfl (by decide) rfl ⟨rfl, by decide, by decide⟩ (fun w h Y => PySem.W.kIn_of Y) ?F (fun _ _ a ns hl _ hS => ⟨a, ns, rfl, hS, hl, fun _ => rfl⟩) (fun _ _ _ _ _ h => h)
  case F =>
    intro w mg fa h KX G hmg
    refine' T0.all_mk KX G hmg  ?a25 ?l25 ?c25 ?k25 ?a26 ?l26 ?c26 ?k26 ?a27 ?l27 ?c27 ?k27 ?a28 ?l28 ?c28 ?k28 ?a29 ?l29 ?c29 ?k29 ?a30 ?l30 ?c30 ?k30 ?a31 ?l31 ?c31 ?k31 ?a32 ?l32 ?c32 ?k32 ?z_int ?z_len ?z_abs ?z_range ?z_zip ?z_all ?z_isinstance ?z_bool ?z_str ?z_tuple ?z_list ?z_dict ?z_ValueError ?z_LookupError ?z_IndexError ?a1 ?x1 ?sa1 ?ga1 ?gg1 ?nt1 ?ii1 ?ti1 ?kC1 ?eC1 ?tC1 ?hC1 ?oc_1 ?hm1 ?l1001 ?c1001 ?k1001 ?a2 ?x2 ?sa2 ?ga2 ?gg2 ?nt2 ?ii2 ?ti2 ?kC2 ?eC2 ?tC2 ?hC2 ?oc_2 ?hm2 ?n2_given ?l1002 ?c1002 ?k1002 ?a3 ?x3 ?sa3 ?ga3 ?gg3 ?nt3 ?ii3 ?ti3 ?kC3 ?eC3 ?tC3 ?hC3 ?oc_3 ?hm3 ?n3_at ?l1003 ?c1003 ?k1003 ?a4 ?x4 ?sa4 ?ga4 ?gg4 ?nt4 ?ii4 ?ti4 ?kC4 ?eC4 ?tC4 ?hC4 ?oc_4 ?hm4 ?n4_name ?l1004 ?c1004 ?k1004 ?a5 ?x5 ?sa5 ?ga5 ?gg5 ?nt5 ?ii5 ?ti5 ?kC5 ?eC5 ?tC5 ?hC5 ?oc_5 ?hm5 ?n5_at ?l1005 ?c1005 ?k1005 ?a6 ?x6 ?sa6 ?ga6 ?gg6 ?nt6 ?ii6 ?ti6 ?kC6 ?eC6 ?tC6 ?hC6 ?oc_6 ?hm6 ?n6_at ?l1006 ?c1006 ?k1006 ?a7 ?x7 ?sa7 ?ga7 ?gg7 ?nt7 ?ii7 ?ti7 ?kC7 ?eC7 ?tC7 ?hC7 ?oc_7 ?hm7 ?n7_given ?l1007 ?c1007 ?k1007 ?a8 ?x8 ?sa8 ?ga8 ?gg8 ?nt8 ?ii8 ?ti8 ?kC8 ?eC8 ?tC8 ?hC8 ?oc_8 ?hm8 ?n8_given ?l1008 ?c1008 ?k1008 ?a9 ?x9 ?sa9 ?ga9 ?gg9 ?nt9 ?ii9 ?ti9 ?kC9 ?eC9 ?tC9 ?hC9 ?oc_9 ?hm9 ?n9_first ?l1009 ?c1009 ?k1009 ?a10 ?x10 ?sa10 ?ga10 ?gg10 ?nt10 ?ii10 ?ti10 ?kC10 ?eC10 ?tC10 ?hC10 ?oc_10 ?hm10 ?n10_many ?l1010 ?c1010 ?k1010 ?a11 ?x11 ?sa11 ?ga11 ?gg11 ?nt11 ?ii11 ?ti11 ?kC11 ?eC11 ?tC11 ?hC11 ?oc_11 ?hm11 ?n11_name ?l1011 ?c1011 ?k1011 ?a12 ?x12 ?sa12 ?ga12 ?gg12 ?nt12 ?ii12 ?ti12 ?kC12 ?eC12 ?tC12 ?hC12 ?oc_12 ?hm12 ?l1012 ?c1012 ?k1012 ?a13 ?x13 ?sa13 ?ga13 ?gg13 ?nt13 ?ii13 ?ti13 ?kC13 ?eC13 ?tC13 ?hC13 ?oc_13 ?hm13 ?l1013 ?c1013 ?k1013 ?a14 ?x14 ?sa14 ?ga14 ?gg14 ?nt14 ?ii14 ?ti14 ?kC14 ?eC14 ?tC14 ?hC14 ?oc_14 ?hm14 ?l1014 ?c1014 ?k1014 ?a15 ?x15 ?sa15 ?ga15 ?gg15 ?nt15 ?ii15 ?ti15 ?kC15 ?eC15 ?tC15 ?hC15 ?oc_15 ?hm15 ?n15_answer ?l1015 ?c1015 ?k1015 ?a16 ?x16 ?sa16 ?ga16 ?gg16 ?nt16 ?ii16 ?ti16 ?kC16 ?eC16 ?tC16 ?hC16 ?oc_16 ?hm16 ?n16_answer ?l1016 ?c1016 ?k1016 ?a17 ?x17 ?sa17 ?ga17 ?gg17 ?nt17 ?ii17 ?ti17 ?kC17 ?eC17 ?tC17 ?hC17 ?oc_17 ?hm17 ?n17_at ?l1017 ?c1017 ?k1017 ?a18 ?x18 ?sa18 ?ga18 ?gg18 ?nt18 ?ii18 ?ti18 ?kC18 ?eC18 ?tC18 ?hC18 ?oc_18 ?hm18 ?n18_label ?l1018 ?c1018 ?k1018 ?a19 ?x19 ?sa19 ?ga19 ?gg19 ?nt19 ?ii19 ?ti19 ?kC19 ?eC19 ?tC19 ?hC19 ?oc_19 ?hm19 ?n19_most ?l1019 ?c1019 ?k1019 ?a20 ?x20 ?sa20 ?ga20 ?gg20 ?nt20 ?ii20 ?ti20 ?kC20 ?eC20 ?tC20 ?hC20 ?oc_20 ?hm20 ?l1020 ?c1020 ?k1020 ?a21 ?x21 ?sa21 ?ga21 ?gg21 ?nt21 ?ii21 ?ti21 ?kC21 ?eC21 ?tC21 ?hC21 ?oc_21 ?hm21 ?n21_name ?l1021 ?c1021 ?k1021 ?a22 ?x22 ?sa22 ?ga22 ?gg22 ?nt22 ?ii22 ?ti22 ?kC22 ?eC22 ?tC22 ?hC22 ?oc_22 ?hm22 ?n22_label ?l1022 ?c1022 ?k1022 ?a23 ?x23 ?sa23 ?ga23 ?gg23 ?nt23 ?ii23 ?ti23 ?kC23 ?eC23 ?tC23 ?hC23 ?oc_23 ?hm23 ?l1023 ?c1023 ?k1023 ?gh ?gt ?hkit ?hkitB
    (case a25 => k_is); (case l25 => k_is); (case c25 => k_is); (case k25 => k_is)
    (case a26 => k_is); (case l26 => k_is); (case c26 => k_is); (case k26 => k_is)
    (case a27 => k_is); (case l27 => k_is); (case c27 => k_is); (case k27 => k_is)
    (case a28 => k_is); (case l28 => k_is); (case c28 => k_is); (case k28 => k_is)
    (case a29 => k_is); (case l29 => k_is); (case c29 => k_is); (case k29 => k_is)
    (case a30 => k_is); (case l30 => k_is); (case c30 => k_is); (case k30 => k_is)
    (case a31 => k_is); (case l31 => k_is); (case c31 => k_is); (case k31 => k_is)
    (case a32 => k_is); (case l32 => k_is); (case c32 => k_is); (case k32 => k_is)
    (case z_int => k_is)
    (case z_len => k_is)
    (case z_abs => k_is)
    (case z_range => k_is)
    (case z_zip => k_is)
    (case z_all => k_is)
    (case z_isinstance => k_is)
    (case z_bool => k_is)
    (case z_str => k_is)
    (case z_tuple => k_is)
    (case z_list => k_is)
    (case z_dict => k_is)
    (case z_ValueError => k_is)
    (case z_LookupError => k_is)
    (case z_IndexError => k_is)
    (case a1 => k_is)
    (case x1 => k_is)
    (case sa1 => k_is)
    (case ga1 => k_is)
    (case gg1 => k_is)
    (case nt1 => k_is)
    (case ii1 => k_is)
    (case ti1 => k_is)
    (case kC1 => k_is)
    (case eC1 => k_is)
    (case tC1 => k_is)
    (case hC1 => k_is)
    (case oc_1 => k_is)
    (case hm1 => k_is)
    (case l1001 => k_is)
    (case c1001 => k_is)
    (case k1001 => k_is)
    (case a2 => k_is)
    (case x2 => k_is)
    (case sa2 => k_is)
    (case ga2 => k_is)
    (case gg2 => k_is)
    (case nt2 => k_is)
    (case ii2 => k_is)
    (case ti2 => k_is)
    (case kC2 => k_is)
    (case eC2 => k_is)
    (case tC2 => k_is)
    (case hC2 => k_is)
    (case oc_2 => k_is)
    (case hm2 => k_is)
    (case n2_given => k_is)
    (case l1002 => k_is)
    (case c1002 => k_is)
    (case k1002 => k_is)
    (case a3 => k_is)
    (case x3 => k_is)
    (case sa3 => k_is)
    (case ga3 => k_is)
    (case gg3 => k_is)
    (case nt3 => k_is)
    (case ii3 => k_is)
    (case ti3 => k_is)
    (case kC3 => k_is)
    (case eC3 => k_is)
    (case tC3 => k_is)
    (case hC3 => k_is)
    (case oc_3 => k_is)
    (case hm3 => k_is)
    (case n3_at => k_is)
    (case l1003 => k_is)
    (case c1003 => k_is)
    (case k1003 => k_is)
    (case a4 => k_is)
    (case x4 => k_is)
    (case sa4 => k_is)
    (case ga4 => k_is)
    (case gg4 => k_is)
    (case nt4 => k_is)
    (case ii4 => k_is)
    (case ti4 => k_is)
    (case kC4 => k_is)
    (case eC4 => k_is)
    (case tC4 => k_is)
    (case hC4 => k_is)
    (case oc_4 => k_is)
    (case hm4 => k_is)
    (case n4_name => k_is)
    (case l1004 => k_is)
    (case c1004 => k_is)
    (case k1004 => k_is)
    (case a5 => k_is)
    (case x5 => k_is)
    (case sa5 => k_is)
    (case ga5 => k_is)
    (case gg5 => k_is)
    (case nt5 => k_is)
    (case ii5 => k_is)
    (case ti5 => k_is)
    (case kC5 => k_is)
    (case eC5 => k_is)
    (case tC5 => k_is)
    (case hC5 => k_is)
    (case oc_5 => k_is)
    (case hm5 => k_is)
    (case n5_at => k_is)
    (case l1005 => k_is)
    (case c1005 => k_is)
    (case k1005 => k_is)
    (case a6 => k_is)
    (case x6 => k_is)
    (case sa6 => k_is)
    (case ga6 => k_is)
    (case gg6 => k_is)
    (case nt6 => k_is)
    (case ii6 => k_is)
    (case ti6 => k_is)
    (case kC6 => k_is)
    (case eC6 => k_is)
    (case tC6 => k_is)
    (case hC6 => k_is)
    (case oc_6 => k_is)
    (case hm6 => k_is)
    (case n6_at => k_is)
    (case l1006 => k_is)
    (case c1006 => k_is)
    (case k1006 => k_is)
    (case a7 => k_is)
    (case x7 => k_is)
    (case sa7 => k_is)
    (case ga7 => k_is)
    (case gg7 => k_is)
    (case nt7 => k_is)
    (case ii7 => k_is)
    (case ti7 => k_is)
    (case kC7 => k_is)
    (case eC7 => k_is)
    (case tC7 => k_is)
    (case hC7 => k_is)
    (case oc_7 => k_is)
    (case hm7 => k_is)
    (case n7_given => k_is)
    (case l1007 => k_is)
    (case c1007 => k_is)
    (case k1007 => k_is)
    (case a8 => k_is)
    (case x8 => k_is)
    (case sa8 => k_is)
    (case ga8 => k_is)
    (case gg8 => k_is)
    (case nt8 => k_is)
    (case ii8 => k_is)
    (case ti8 => k_is)
    (case kC8 => k_is)
    (case eC8 => k_is)
    (case tC8 => k_is)
    (case hC8 => k_is)
    (case oc_8 => k_is)
    (case hm8 => k_is)
    (case n8_given => k_is)
    (case l1008 => k_is)
    (case c1008 => k_is)
    (case k1008 => k_is)
    (case a9 => k_is)
    (case x9 => k_is)
    (case sa9 => k_is)
    (case ga9 => k_is)
    (case gg9 => k_is)
    (case nt9 => k_is)
    (case ii9 => k_is)
    (case ti9 => k_is)
    (case kC9 => k_is)
    (case eC9 => k_is)
    (case tC9 => k_is)
    (case hC9 => k_is)
    (case oc_9 => k_is)
    (case hm9 => k_is)
    (case n9_first => k_is)
    (case l1009 => k_is)
    (case c1009 => k_is)
    (case k1009 => k_is)
    (case a10 => k_is)
    (case x10 => k_is)
    (case sa10 => k_is)
    (case ga10 => k_is)
    (case gg10 => k_is)
    (case nt10 => k_is)
    (case ii10 => k_is)
    (case ti10 => k_is)
    (case kC10 => k_is)
    (case eC10 => k_is)
    (case tC10 => k_is)
    (case hC10 => k_is)
    (case oc_10 => k_is)
    (case hm10 => k_is)
    (case n10_many => k_is)
    (case l1010 => k_is)
    (case c1010 => k_is)
    (case k1010 => k_is)
    (case a11 => k_is)
    (case x11 => k_is)
    (case sa11 => k_is)
    (case ga11 => k_is)
    (case gg11 => k_is)
    (case nt11 => k_is)
    (case ii11 => k_is)
    (case ti11 => k_is)
    (case kC11 => k_is)
    (case eC11 => k_is)
    (case tC11 => k_is)
    (case hC11 => k_is)
    (case oc_11 => k_is)
    (case hm11 => k_is)
    (case n11_name => k_is)
    (case l1011 => k_is)
    (case c1011 => k_is)
    (case k1011 => k_is)
    (case a12 => k_is)
    (case x12 => k_is)
    (case sa12 => k_is)
    (case ga12 => k_is)
    (case gg12 => k_is)
    (case nt12 => k_is)
    (case ii12 => k_is)
    (case ti12 => k_is)
    (case kC12 => k_is)
    (case eC12 => k_is)
    (case tC12 => k_is)
    (case hC12 => k_is)
    (case oc_12 => k_is)
    (case hm12 => k_is)
    (case l1012 => k_is)
    (case c1012 => k_is)
    (case k1012 => k_is)
    (case a13 => k_is)
    (case x13 => k_is)
    (case sa13 => k_is)
    (case ga13 => k_is)
    (case gg13 => k_is)
    (case nt13 => k_is)
    (case ii13 => k_is)
    (case ti13 => k_is)
    (case kC13 => k_is)
    (case eC13 => k_is)
    (case tC13 => k_is)
    (case hC13 => k_is)
    (case oc_13 => k_is)
    (case hm13 => k_is)
    (case l1013 => k_is)
    (case c1013 => k_is)
    (case k1013 => k_is)
    (case a14 => k_is)
    (case x14 => k_is)
    (case sa14 => k_is)
    (case ga14 => k_is)
    (case gg14 => k_is)
    (case nt14 => k_is)
    (case ii14 => k_is)
    (case ti14 => k_is)
    (case kC14 => k_is)
    (case eC14 => k_is)
    (case tC14 => k_is)
    (case hC14 => k_is)
    (case oc_14 => k_is)
    (case hm14 => k_is)
    (case l1014 => k_is)
    (case c1014 => k_is)
    (case k1014 => k_is)
    (case a15 => k_is)
    (case x15 => k_is)
    (case sa15 => k_is)
    (case ga15 => k_is)
    (case gg15 => k_is)
    (case nt15 => k_is)
    (case ii15 => k_is)
    (case ti15 => k_is)
    (case kC15 => k_is)
    (case eC15 => k_is)
    (case tC15 => k_is)
    (case hC15 => k_is)
    (case oc_15 => k_is)
    (case hm15 => k_is)
    (case n15_answer => k_is)
    (case l1015 => k_is)
    (case c1015 => k_is)
    (case k1015 => k_is)
    (case a16 => k_is)
    (case x16 => k_is)
    (case sa16 => k_is)
    (case ga16 => k_is)
    (case gg16 => k_is)
    (case nt16 => k_is)
    (case ii16 => k_is)
    (case ti16 => k_is)
    (case kC16 => k_is)
    (case eC16 => k_is)
    (case tC16 => k_is)
    (case hC16 => k_is)
    (case oc_16 => k_is)
    (case hm16 => k_is)
    (case n16_answer => k_is)
    (case l1016 => k_is)
    (case c1016 => k_is)
    (case k1016 => k_is)
    (case a17 => k_is)
    (case x17 => k_is)
    (case sa17 => k_is)
    (case ga17 => k_is)
    (case gg17 => k_is)
    (case nt17 => k_is)
    (case ii17 => k_is)
    (case ti17 => k_is)
    (case kC17 => k_is)
    (case eC17 => k_is)
    (case tC17 => k_is)
    (case hC17 => k_is)
    (case oc_17 => k_is)
    (case hm17 => k_is)
    (case n17_at => k_is)
    (case l1017 => k_is)
    (case c1017 => k_is)
    (case k1017 => k_is)
    (case a18 => k_is)
    (case x18 => k_is)
    (case sa18 => k_is)
    (case ga18 => k_is)
    (case gg18 => k_is)
    (case nt18 => k_is)
    (case ii18 => k_is)
    (case ti18 => k_is)
    (case kC18 => k_is)
    (case eC18 => k_is)
    (case tC18 => k_is)
    (case hC18 => k_is)
    (case oc_18 => k_is)
    (case hm18 => k_is)
    (case n18_label => k_is)
    (case l1018 => k_is)
    (case c1018 => k_is)
    (case k1018 => k_is)
    (case a19 => k_is)
    (case x19 => k_is)
    (case sa19 => k_is)
    (case ga19 => k_is)
    (case gg19 => k_is)
    (case nt19 => k_is)
    (case ii19 => k_is)
    (case ti19 => k_is)
    (case kC19 => k_is)
    (case eC19 => k_is)
    (case tC19 => k_is)
    (case hC19 => k_is)
    (case oc_19 => k_is)
    (case hm19 => k_is)
    (case n19_most => k_is)
    (case l1019 => k_is)
    (case c1019 => k_is)
    (case k1019 => k_is)
    (case a20 => k_is)
    (case x20 => k_is)
    (case sa20 => k_is)
    (case ga20 => k_is)
    (case gg20 => k_is)
    (case nt20 => k_is)
    (case ii20 => k_is)
    (case ti20 => k_is)
    (case kC20 => k_is)
    (case eC20 => k_is)
    (case tC20 => k_is)
    (case hC20 => k_is)
    (case oc_20 => k_is)
    (case hm20 => k_is)
    (case l1020 => k_is)
    (case c1020 => k_is)
    (case k1020 => k_is)
    (case a21 => k_is)
    (case x21 => k_is)
    (case sa21 => k_is)
    (case ga21 => k_is)
    (case gg21 => k_is)
    (case nt21 => k_is)
    (case ii21 => k_is)
    (case ti21 => k_is)
    (case kC21 => k_is)
    (case eC21 => k_is)
    (case tC21 => k_is)
    (case hC21 => k_is)
    (case oc_21 => k_is)
    (case hm21 => k_is)
    (case n21_name => k_is)
    (case l1021 => k_is)
    (case c1021 => k_is)
    (case k1021 => k_is)
    (case a22 => k_is)
    (case x22 => k_is)
    (case sa22 => k_is)
    (case ga22 => k_is)
    (case gg22 => k_is)
    (case nt22 => k_is)
    (case ii22 => k_is)
    (case ti22 => k_is)
    (case kC22 => k_is)
    (case eC22 => k_is)
    (case tC22 => k_is)
    (case hC22 => k_is)
    (case oc_22 => k_is)
    (case hm22 => k_is)
    (case n22_label => k_is)
    (case l1022 => k_is)
    (case c1022 => k_is)
    (case k1022 => k_is)
    (case a23 => k_is)
    (case x23 => k_is)
    (case sa23 => k_is)
    (case ga23 => k_is)
    (case gg23 => k_is)
    (case nt23 => k_is)
    (case ii23 => k_is)
    (case ti23 => k_is)
    (case kC23 => k_is)
    (case eC23 => k_is)
    (case tC23 => k_is)
    (case hC23 => k_is)
    (case oc_23 => k_is)
    (case hm23 => k_is)
    (case l1023 => k_is)
    (case c1023 => k_is)
    (case k1023 => k_is)
    (case gh => k_is)
    (case gt => k_is)
    (case hkit => kernel_rfl)
    (case hkitB => kernel_rfl)

import PyProof.Rows.All
import Wide.All
import OpenK.AllK
import Wide.FinOn
import HandS.Base
import HandS.Call
import HandS.List
import HandS.Comp
import HandS.Ends
import HandS.Words
import HandS.WordsList
import HandS.Codes
import HandS.Wide
import HandS.Iter
import HandS.Zip
import HandS.Star
import HandS.More
import HandS.IsInst
import HandS.Conv
import HandS.NoneIn
import HandS.WideBits
import HandS.WordsExc
import HandS.Exc
import HandS.TryMany
import HandS.HotCalls
import HandS.ExcInit
import HandS.ExcField
import HandS.Lambda
import HandS.EndTab
import HandS.Defaults
import KE.KNest
import HandS.Text
import HandS.StrMore
import KE.IntTextText
import HandS.Style
import PyProof.ListStr
import PyProof.StrBlock2
import HandS.More
import PySem.Challenge.RW_tiespan_k04_texts_of_fractions
set_option Elab.async false
set_option linter.all false
set_option maxRecDepth 100000
set_option maxHeartbeats 4000000
namespace EK
open PySem PySem.Spec PyProof.Rows L2
/-! ### try: body, except (c1, c2) as n: suite, and what stands behind it is not reached -/
theorem flyingZ_push {B h : Heap} {l : List Env} {e : Addr} {Z : Obj → Prop} (x : PySem.HandSPX.FlyingZ B l e Z h) (o : Obj) : PySem.HandSPX.FlyingZ B l e Z (h.push o) := by
  obtain ⟨h1, h2, h3, oe, vs, tb, ot, ts, a1, a2, a3, a4, a5, a6, a7, a8, a9⟩ := x
  exact ⟨fun b u q => Heap.get?_push_of_some _ (h1 b u q), h2, h3.of_keeps fun b u q _ => ⟨u, Heap.get?_push_of_some _ q, rfl⟩, oe, vs, tb, ot, ts, Heap.get?_push_of_some _ a1, a2, a3, a4, a5, a6, Heap.get?_push_of_some _ a7, a8, a9⟩
/-- the wish: the clause takes it -/
def wTup (K : PySem.W.Frag) (c1 c2 : Value) (i : Nat) (ts : Addr → Value → Option Addr → TS) (D : Ends) : WX := fun cls d σ H =>
  PySem.W.exmAny K cls [c1, c2] = some true ∧ ∀ a, H a = none → ts a cls d { nx := fun σ' H' => D.nx (σ'.set i none) H', rt := D.rt, bk := fun σ' H' => D.bk (σ'.set i none) H', ct := fun σ' H' => D.ct (σ'.set i none) H' } (σ.set i (some (.ref a))) H
theorem ps_try_tup {X : Cx} {x1 x2 n : Str} {c1 c2 : Value} {i kk : Nat} {body suite : List Stmt} {b₀ : Stmt} {np1 np2 tpos pos pos' : Pos} {tb : WX → TS} {ts : Addr → Value → Option Addr → TS} {hds : List ExceptHandler}
    (hs : X.stack = X.env :: X.outer) (hf : X.env.frame = some X.env.locals) (hN : X.N.Nodup) (hi : X.N[i]? = some n) (hln : X.env.kindOf n = some .local) (h1 : Gl X x1) (m1 : X.mg x1 = some c1) (h2 : Gl X x2) (m2 : X.mg x2 = some c2)
    (hb : ∀ (W : WX) (pn : List (Addr × Obj)) (xe : Value → Shared → Prop), Takes (X.tr pn xe) W → PassesOwn (model X.prog X.w) X.A X.env xe → PSs (X.tr pn xe) body (tb W))
    (hsu : ∀ (a : Addr) (oe : Obj) (cls : Value) (d : Option Addr) (pn : List (Addr × Obj)), Zc cls d oe → (∃ vs, oe.data = .fields vs) → PSs (X.suite a ((a, oe) :: pn)) (b₀ :: suite) (ts a cls d))
    (d1 : (x1 == ("__debug__" : Str)) = false := by decide) (d2 : (x2 == ("__debug__" : Str)) = false := by decide) :
    PS X (.Try body (.ExceptHandler (some (.Tuple [.Name x1 np1, .Name x2 np2] kk tpos)) (some n) (b₀ :: suite) pos' :: hds) [] [] pos) (fun D σ H => tb (wTup X.K c1 c2 i ts D) D σ H) := by
  refine ⟨fun pins s σ H D I h => ?_⟩
  have ok := I.ok
  have hfr : X.A.frames = some (X.env :: X.outer) := by rw [ok.frames, hs]
  have hloc : Loc X.env.scope n := .inl hln
  refine wpAny_Try_except (wpAny_mono ((hb (wTup X.K c1 c2 i ts D) (X.pn ++ pins) (fun e s₁ => wpAny (model X.prog X.w) X.A (noteFrame e X.env) (fun _ s₂ => wpAny (model X.prog X.w) X.A (setFlight e none) (fun _ s₃ =>
    wpAny (model X.prog X.w) X.A (handleBy e X.env (.ExceptHandler (some (.Tuple [.Name x1 np1, .Name x2 np2] kk tpos)) (some n) (b₀ :: suite) pos' :: hds)) (SP X pins D) X.xe s₃) X.xe s₂) X.xe s₁) (fun u s' xx => ?_) PassesOwn.looking).run [] s σ H D (I.toTry _) h) (fun f s1 hsp => ?_) (fun e s1 he => he))
  · obtain ⟨a, B, sI, pins', σ', H', cls, d, rfl, J', nb, up, sky, na, os, ag, hb1, hyes⟩ := xx
    have J : Inv X pins σ' H' sI := J'.ofTry ok
    have sky' : Sky B (X.env :: X.outer) a (Zc cls d) X.env.locals s'.heap := by rw [← hs]; exact sky
    show wpAny (model X.prog X.w) X.A (noteFrame (.ref a) X.env) _ _ _
    refine Sky.land Zc.steady hfr hf sky' fun h3 fl3 up3 => ?_
    have J3 : Inv X pins σ' H' { s' with heap := h3 } := J.landed nb fl3.1 (up.trans up3) os ag
    obtain ⟨oe3, vs3, he3, hz3, hd3⟩ := fl3.there
    have nfr : a ∉ frs (X.env :: X.outer) := fun hm => by
      obtain ⟨_, o', e', hnf⟩ := fl3.2.2.1.mem hm
      rw [he3] at e'
      cases e'
      exact hnf _ hd3
    have nL : a ≠ X.env.locals := fun z => nfr (List.mem_filterMap.mpr ⟨X.env, List.mem_cons_self, by rw [hf, z]⟩)
    have nF : a ∉ X.fs := fun hm => by
      obtain ⟨e, he, q⟩ := List.mem_filterMap.mp hm
      exact nfr (List.mem_filterMap.mpr ⟨e, List.mem_cons_of_mem _ he, q⟩)
    have S3 := J3.suite he3 hd3 na nL nF
    refine wpAny_handleBy_cons (codeAny_handlers_test ?_) (by intro q; cases q)
    refine wpAny_Tuple ?_
    refine wpAny_items_cons (ld_glob (X := X.suite a ((a, oe3) :: (X.pn ++ pins))) S3 h1 m1 ?_ d1)
    refine wpAny_items_cons (ld_glob (X := X.suite a ((a, oe3) :: (X.pn ++ pins))) S3 h2 m2 ?_ d2)
    refine wpAny_items_nil ⟨Nat.le_trans (by decide : 2 ≤ 1000) (Nat.le_of_lt (small1000 (Nat.le_refl _))), ?_⟩
    have kp : ∀ q o, h3.get? q = some o → (h3.push { cls := .type "tuple", data := .seq [c1, c2].toArray }).get? q = some o := fun _ _ z => Heap.get?_push_of_some _ z
    have LT : PySem.W.Looks (model X.prog X.w) (h3.push { cls := .type "tuple", data := .seq [c1, c2].toArray }) (typeOf (.ref a)) cls := fun A Q E s k q => wpAny_typeOf_ref (k _ _ (kp _ _ he3)) (by rw [hz3.1]; exact q)
    refine (PySem.W.exm_tup2 (M := model X.prog X.w) (J3.kIn.keeps kp) LT (Heap.get?_push_size h3 rfl) hb1).here ?_
    have up3p := (up.trans up3).trans (Heap.UpToSlots.of_keeps kp)
    have fl3p := flyingZ_push fl3 { cls := .type "tuple", data := .seq [c1, c2].toArray }
    generalize h3.push { cls := .type "tuple", data := .seq [c1, c2].toArray } = g3 at up3p fl3p
    refine codeAny_handlers_suite_as ?_
    refine PySem.HandSPX.lands_againZ fl3p fun h4 fl4 up4 => ?_
    have J4 : Inv X pins σ' H' { s' with heap := h4 } := J.landed nb fl4.1 (up3p.trans up4) os ag
    obtain ⟨oe4, vs4, he4, hz4, hd4⟩ := fl4.there
    have S4 := J4.suite he4 hd4 na nL nF
    refine store_ok (X := X.suite a ((a, oe4) :: (X.pn ++ pins))) (v := .ref a) S4 hN hi hloc rfl (fun s5 S5 => ?_) (.inr hln)
    refine wpAny_mono ((hsu a oe4 cls d (X.pn ++ pins) hz4 ⟨_, hd4⟩).run [] s5 _ H' _ S5 (hyes a na)) (fun f s6 hsp => ?_) (fun _ _ z => False.elim z)
    have end_ : ∀ {σ6 : L2.St} {H6 : Hp} {Q : Shared → Prop}, Inv (X.suite a ((a, oe4) :: (X.pn ++ pins))) [] σ6 H6 s6 → (∀ s7, Inv X pins (σ6.set i none) H6 s7 → Q s7) →
        wpAny (model X.prog X.w) X.A (do bindName X.env n .none; unbindBehindTheSuite X.env n pos') (fun _ s7 => Q s7) X.xe s6 := fun {σ6 H6 Q} S6 hq => gone_ok (S6.unsuite ok) hN hi hln hq
    cases f with
    | next =>
      obtain ⟨σ6, H6, S6, q6⟩ := hsp
      exact end_ S6 fun s7 J7 => ⟨_, _, J7, q6⟩
    | brk =>
      obtain ⟨σ6, H6, S6, q6⟩ := hsp
      exact end_ S6 fun s7 J7 => ⟨_, _, J7, q6⟩
    | cont =>
      obtain ⟨σ6, H6, S6, q6⟩ := hsp
      exact end_ S6 fun s7 J7 => ⟨_, _, J7, q6⟩
    | ret u =>
      obtain ⟨v6, σ6, H6, S6, r6, q6⟩ := hsp
      exact end_ S6 fun s7 J7 => ⟨_, _, _, J7, r6, q6⟩
  · cases f with
    | next =>
      obtain ⟨σ', H', J', q⟩ := hsp
      exact wpAny_execs_nil ⟨σ', H', J'.ofTry ok, q⟩
    | brk =>
      obtain ⟨σ', H', J', q⟩ := hsp
      exact ⟨σ', H', J'.ofTry ok, q⟩
    | cont =>
      obtain ⟨σ', H', J', q⟩ := hsp
      exact ⟨σ', H', J'.ofTry ok, q⟩
    | ret u =>
      obtain ⟨v, σ', H', J', r, q⟩ := hsp
      exact ⟨v, σ', H', J'.ofTry ok, r, q⟩
/-! ### defs that are called where an exception is handled, and read it; nothing is raised there -/
structure FnP (P : Program) (w : World) (K : PySem.W.Frag) (mg : Str → Option Value) (base : Heap) (k : Nat) (f : Addr) (fd : FuncData) (ps : List Str) (sp : Addr × Obj → Sp) : Prop where
  len : ∀ p vs H Q E, sp p vs H Q E → vs.length = ps.length
  run : ∀ (A : Around) (outer : List Env) (s : Shared) (H : Hp) (args : Args) (us : List Value) (vs : List V) (Q : VK) (p : Addr × Obj), L2H.RoomH k A → L2H.PinOk outer H s p → Env0 P w K mg base A outer s H → BindsTo s fd args (ps.zip us) → Vals vs us → sp p vs H Q E0 →
    codeAny (model P w) A (.call (.ref f) args) (CR CX0 outer P w H s Q E0) s
theorem fn_ofP {P : Program} {w : World} {K : PySem.W.Frag} {mg : Str → Option Value} {base : Heap} {k : Nat} {x : Str} {st : Stmt} {f : Addr} {fd : FuncData} {N ps : List Str} {sp : Addr × Obj → Sp} (F : Fun K x x st f fd) (S : FnScope N ps (defScope st))
    (len : ∀ p vs H Q E, sp p vs H Q E → vs.length = ps.length)
    (hbody : ∀ (cdv : Value) (A : Around) (outer : List Env) (s : Shared) (H : Hp) (vs : List V) (Q : VK) (p : Addr × Obj), L2H.RoomH k (A.deeper (envOfC x (defScope st) s.heap.objs.size f cdv)) → sp p vs H Q E0 →
      ∃ t, PSs (L2H.cxH CX0 P w K mg base N x (defScope st) f cdv A outer s H E0 p) (defBody st) t ∧ t { nx := fun _ H' => Q .non H', rt := Q } (L2.start N vs) H) : FnP P w K mg base (k + 1) f fd ps sp := by
  obtain ⟨oc, od, kV, doc, pm, an, cdv, ct, osl, rfl, lk, hcd⟩ := F.ex
  refine ⟨len, fun A outer s H args us vs Q p hr hpin e0 hb r hsp => ?_⟩
  have hl := len _ _ _ _ _ hsp
  have KX : K.In s.heap := e0.mod.kin.keeps fun b o e => (e0.bs b o e).1
  have lim : s.heap.NoLimit := e0.mod.nolimit.keeps fun b o e => (e0.bs b o e).1
  refine codeAny_call_function hr.depth (KX _ _ lk) rfl S.co S.gen rfl (PySem.W.codeRec_of KX hcd) (hb _ _ _ _ ?_)
  refine wpAny_newFunctionEnv_cells S.kind (fun ⟨n, v⟩ hy => ?_) fun env he s1 xc => ?_
  · rcases S.par n (List.of_mem_zip hy).1 with q | q
    · exact .inl q
    · exact .inr ⟨q, PySem.W.cellsFrom_some _ _ _ (.inl q)⟩
  · subst he
    refine ⟨lim.keeps xc.toInCall.keep, codeAny_func ?_⟩
    obtain ⟨t, ht, hq⟩ := hbody cdv A outer s H vs Q p (hr.deeper _) hsp
    refine wpAny_mono (ht.run [] s1 (L2.start N vs) H _ (L2H.inv_startH S hpin e0 hl r xc) hq) (fun fl s' hs => ?_) fun e s' hs => hs
    cases fl with
    | ret u =>
      obtain ⟨v, σ', H', J, rv, q⟩ := hs
      exact ⟨v, H', J.os, J.bare, J.base, J.hok, rv, q⟩
    | next =>
      obtain ⟨σ', H', J, q⟩ := hs
      exact ⟨.non, H', J.os, J.bare, J.base, J.hok, rfl, q⟩
    | brk =>
      obtain ⟨_, _, _, q⟩ := hs
      exact False.elim q
    | cont =>
      obtain ⟨_, _, _, q⟩ := hs
      exact False.elim q
theorem pe_callP {X : Cx} {k : Nat} {f : Addr} {fd : FuncData} {ps : List Str} {sp : Addr × Obj → Sp} {x : Str} {q pos : Pos} {e : Expr} {es : List Expr} {t : TA} {p : Addr × Obj} (F : FnP X.prog X.w X.K X.mg X.base k f fd ps sp) (hr : L2H.RoomH k X.A) (hp : p ∈ X.pn) (hg : Gl X x) (hm : X.mg x = some (.ref f))
    (hk : PySem.W.keepIn X.K (.ref f) = true) (hb : Binds X.K fd ps []) (ha : PA X (e :: es) t) (hdb : (x == ("__debug__" : Str)) = false := by decide) (he : starEach (e :: es) X.env = (false, eval e X.env) :: starEach es X.env := by rfl) (hpl : (backTo pos (starEach es X.env)).any (·.1) = false := by rfl) :
    PE X (.Call (.Name x q) (e :: es) [] pos) (fun σ H Q => t σ H fun vs H1 => sp p vs H1 Q E0) := by
  refine ⟨fun pins s σ H Q I h => wpAny_Call_Name_kw (ld_glob I hg hm (PySem.W.callWith_K (h₀ := X.base) I.ok.mod.kin hk (thn (ha.run pos pins s σ H _ I h) fun us s1 ⟨vs, H1, I1, r, q1⟩ => ⟨I1.kIn, ?_⟩) he hpl) hdb)⟩
  have hl : us.length = ps.length := by rw [← r.length]; exact F.len _ _ _ _ _ q1
  have b := hb s1 us I1.kIn (by rw [List.append_nil]; exact hl)
  rw [List.append_nil] at b
  have P1 := I1.pin p (List.mem_append_left _ hp)
  have hpin : L2H.PinOk X.stack H1 s1 p := ⟨P1.1, P1.2.1, fun hm => (List.mem_cons.mp (I1.stkSub p.1 hm)).elim P1.2.2.1 P1.2.2.2.1, P1.2.2.2.2⟩
  refine wpAny_call (codeAny_mono (F.run X.A X.stack s1 H1 ⟨us, []⟩ us vs Q p hr hpin I1.env0 b r q1) fun r s' hq => ?_)
  cases r with
  | error e => exact (show False from hq).elim
  | ok fl =>
    cases fl with
    | ret u => exact I1.after hq
    | next => exact False.elim hq
    | brk => exact False.elim hq
    | cont => exact False.elim hq
/-- what is told of the exception at p: its class, its own dict, the fields -/
structure Xat (K : PySem.W.Frag) (p : Addr × Obj) (C dd : Addr) : Prop where
  z : Zc (.ref C) (some dd) p.2
  fl : ∃ vs, p.2.data = .fields vs
  xf : XfC K C
def tXp (K : PySem.W.Frag) (p : Addr × Obj) (n : Str) (te : TE) : TE := fun σ H Q => te σ H fun x H1 => x = .ref p.1 ∧ ∃ (C dd : Addr) (fs : List (Str × V)) (v : V), Xat K p C dd ∧ PySem.W.findIn K (.ref C) n = some none ∧ H1 dd = some (.xd fs) ∧ fs.lookup n = some v ∧ Q v H1
theorem pe_xp {X : Cx} {p : Addr × Obj} {e : Expr} {te : TE} {pos : Pos} {n : Str} (hp : p ∈ X.pn) (he : PE X e te) (hb : attributeBase e n X.env (eval e X.env) = eval e X.env := by rfl) : PE X (.Attribute e n pos) (tXp X.K p n te) := by
  refine ⟨fun pins s σ H Q I h => attr_of hb (thn (he.run pins s σ H _ I h) fun u s1 hh => ?_)⟩
  obtain ⟨x, H1, I1, rx, ex, C, dd, fs, v, T, hno, ea, l, q⟩ := hh
  subst ex
  obtain rfl : u = Value.ref p.1 := rx
  obtain ⟨ha, _⟩ := I1.pin p (List.mem_append_left _ hp)
  obtain ⟨vs, hd⟩ := T.fl
  have hx : ObjOk X.prog X.w H1 s1.heap dd (.xd fs) := I1.hok dd _ ea
  obtain ⟨mA, hns, hr⟩ := hx
  obtain ⟨od, ho, hl⟩ := lookIn_ns hns
  obtain ⟨u, hu, ru⟩ := RelO.some_of (v := v) (o := mA n) (by rw [← l]; exact hr n)
  have J : PySem.W.InstAt s1.heap p.1 p.2 C (some od) := ⟨ha, T.z.1, by unfold PySem.W.notCls; rw [hd] <;> rfl, by rw [T.z.2]; exact ho⟩
  exact PySem.HandSPX.exc_get I1.kIn J T.xf.ga T.xf.gg T.xf.exC (PySem.W.findObj_own T.xf.hdC hno rfl (by rw [hl, hu])) (handed_of ru) ⟨v, H1, I1.tok _, ru, q⟩
/-! ### own errors: what K tells of a class, making one, what why tells of it -/
structure ErrC (K : PySem.W.Frag) (mg : Str → Option Value) (x : Str) (C Tie Miss fI : Addr) : Prop where
  oex : OexC K C
  xf : XfC K C
  gC : mg x = some (.ref C)
  tag : PySem.W.findIn K (.ref C) "tag" = some none
  any : PySem.W.exmAny K (.ref C) [.ref Tie, .ref Miss] = some true
  iC : PySem.W.findIn K (.ref C) "__init__" = some (some (.ref fI))
  tI : PySem.W.typeIn K (.ref fI) = some (.type "function")
/-- __init__(self, v): self.n = v; self.tag = x -/
def spInit1 (K : PySem.W.Frag) (n x : Str) : Sp := fun vs H Q _ => ∃ (a C : Addr) (v : V), vs = [.ref a, v] ∧ OexC K C ∧ PySem.W.findIn K (.ref C) n = some none ∧ PySem.W.findIn K (.ref C) "tag" = some none ∧ H a = some (exo a C none) ∧
  ∀ dx, H dx = none → dx ≠ a → Q .non (upd (upd (upd H dx (exd dx [(n, v)])) a (exo a C (some dx))) dx (exd dx [("tag", .str x), (n, v)]))
def spInit0 (K : PySem.W.Frag) (x : Str) : Sp := fun vs H Q _ => ∃ (a C : Addr), vs = [.ref a] ∧ OexC K C ∧ PySem.W.findIn K (.ref C) "tag" = some none ∧ H a = some (exo a C none) ∧
  ∀ dx, H dx = none → dx ≠ a → Q .non (upd (upd H dx (exd dx [("tag", .str x)])) a (exo a C (some dx)))
theorem Same.del {H H2 : Hp} {a d : Addr} {o : HO} (na : H a = none) (nd : H d = none) (h : ∀ b u, b ≠ a → H b = some u → H2 b = some u) : Same H (upd (del H2 a) d o) := fun b u e => by
  rw [upd_ne (ne_of_none e nd), del_ne (ne_of_none e na)]
  exact h b u (ne_of_none e na) e
/-! ### a def whose code object is known -/
structure FunC (K : PySem.W.Frag) (x : Str) (st : Stmt) (f : Addr) (fd : FuncData) (c : Addr) : Prop where
  ex : ∃ (oc : Value) (od : Option Addr) (kV doc pm : Value) (an : Option Addr) (ct : Value) (osl : Array (Option Value)),
    fd = PySem.W.fnOf x x (defArgs st) (defBody st) (defScope st) .none kV doc pm an (.ref c) ct ∧ K.lookup f = some ⟨oc, od, .func fd, osl⟩ ∧ PySem.W.codeIn K (.ref c) x = true
theorem FunC.ok {P : Program} {w : World} {K : PySem.W.Frag} {mg : Str → Option Value} {base : Heap} {x : Str} {st : Stmt} {f c : Addr} {fd : FuncData} {N ps : List Str} {k : Nat} {sp : Sp} (F : FunC K x st f fd c) (S : FnScope N ps (defScope st)) (len : ∀ vs H Q E, sp vs H Q E → vs.length = ps.length)
    (hbody : ∀ (A : Around) (outer : List Env) (s : Shared) (H : Hp) (vs : List V) (Q : VK) (E : XK), Room k (A.deeper (envOfC x (defScope st) s.heap.objs.size f (.ref c))) → sp vs H Q E →
      ∃ t, PSs (cxOf CX0 P w K mg base N x (defScope st) f (.ref c) A outer s H E).nox (defBody st) t ∧ t { nx := fun _ H' => Q .non H', rt := Q } (L2.start N vs) H) : FnOk P w K mg base CX0 (k + 1) f fd ps sp := by
  obtain ⟨oc, od, kV, doc, pm, an, ct, osl, rfl, lk, hcd⟩ := F.ex
  refine fn_of lk hcd S len fun A outer s H vs Q E hr hsp => ?_
  obtain ⟨t, h, q⟩ := hbody A outer s H vs Q E hr hsp
  exact ⟨t, h.nox, q⟩
theorem ExtN.same {H H' : Hp} (s : Same H H') : LamX.ExtN H H' := fun b o e _ => s b o e
/-! ### the end with tables -/
theorem walk_T {l : PySem.W.OpenLaw} {n k : Nat} {q : Program} {loose : List Str} {XP : (Str → Option Value) → Heap → Prop} {YP : World → Heap → Prop} {d : DefRec} {K : Params → PySem.W.Frag} {CX : World → CXT} {x : Str}
    (hn : l.most = some n) (hn2 : n ≤ sizeLine) (hdf : d.params.defaults = []) (hr : Room k callerA) (hY : ∀ (w : World) (h : Heap), YP w h → (K w.params).In h)
    (F : ∀ (w : World) (lo : List Str) (mean : ExcName → Option Value) (mg mb : Str → Option Value) (fa : Addr) (h : Heap), Top q lo mean mg mb h → (K w.params).In h → mg d.name = some (.ref fa) → LamX.LawAtS l w (K w.params) (CX w) k n x mg fa h)
    (hCX : ∀ (w : World) (H : Hp) (s : Shared) (e : Value) (s' : Shared), CX w [] H s (fun _ _ _ => False) e s' → False) :
    PySem.W.WalkO q loose XP YP l.row.toRowW d [] (fun f vs => PySem.call f vs) := by
  refine Att.attach_callB hn hdf fun w s₀ s₁ mg mb fa o pm cd doc a vs ns G Y ho hd hcd hmg hobj hints hlen hbits hg => ?_
  have KX := hY w _ Y
  obtain ⟨fd, cs, sp, hT, nT, C, hb, hsp, hF⟩ := F w _ _ mg mb fa _ G.T KX hmg
  exact LamX.law_callTs KX G.T.g G.T.b G.T.builtins G.T.nolimit hg hT nT C G.T.bmain hobj hints (Nat.le_trans hlen hn2) hr hF hb (fun H hH hS => hsp H a ns hlen hbits hH hS) fun H e s' => hCX w H s₁ e s'
theorem exm_by {K : PySem.W.Frag} {S : Addr} {cls : Value} {b : Bool} (h1 : PySem.W.subIn K (.ref S) (.type "BaseException") = some true) (h2 : PySem.W.isClsIn K S = true) (h3 : PySem.W.typeIn K (.ref S) = some (.type "type")) (h4 : PySem.W.subIn K cls (.ref S) = some b) :
    PySem.W.exmOne K cls (.ref S) = some b := by
  have e1 : (PySem.W.subIn K (.ref S) (.type "BaseException") == some true) = true := by rw [h1] <;> rfl
  have e2 : ((PySem.W.clsIn K S).isSome && PySem.W.typeIn K (.ref S) == some (.type "type")) = true := by
    have h2' : (PySem.W.clsIn K S).isSome = true := h2
    rw [h2', h3] <;> rfl
  unfold PySem.W.exmOne PySem.W.kitCls
  rw [if_pos e1]
  exact (if_pos e2).trans h4
theorem exm_any {K : PySem.W.Frag} {c1 c2 cls : Value} (h1 : PySem.W.exmOne K cls c1 = some true) (h2 : PySem.W.exmOne K cls c2 = some false) : PySem.W.exmAny K cls [c1, c2] = some true := by
  unfold PySem.W.exmAny PySem.W.exmAny PySem.W.exmAny
  rw [h1, h2]
  rfl
/-! ### calls with keywords alone -/
theorem pe_callN0 {X : Cx} {CX : CXT} {k : Nat} {f : Addr} {fd : FuncData} {ps ks : List Str} {sp : Sp} {E : XK} {x : Str} {p pos : Pos} {kws : List Keyword} {tk : TA} {g : List Value → List Value → List Value} {gV : List V → List V → List V}
    (F : FnOk X.prog X.w X.K X.mg X.base CX k f fd ps sp) (hr : Room k X.A) (hg : Gl X x) (hm : X.mg x = some (.ref f)) (hk : PySem.W.keepIn X.K (.ref f) = true) (hb : KBn X.K fd ps 0 ks g gV) (hx : Passes CX X E) (hkw : PK X kws tk)
    (hall : (backToKw pos (keywordEach kws X.env)).all (·.1.isSome) = true := by rfl) (hks : (backToKw pos (keywordEach kws X.env)).filterMap (·.1) = ks := by rfl) (hdb : (x == ("__debug__" : Str)) = false := by decide)
    (hpl : ((backTo pos (starEach [] X.env)).any (·.1) || (backToKw pos (keywordEach kws X.env)).any (·.1.isNone)) = false := by rfl) :
    PE X (.Call (.Name x p) [] kws pos) (fun σ H Q => tk σ H fun zs H2 => zs.length = ks.length ∧ sp (gV [] zs) H2 Q E) := by
  refine ⟨fun pins s σ H Q I h => wpAny_Call_Name_kw (ld_glob I hg hm (PySem.W.callWith_KW0 (h₀ := X.base) I.ok.mod.kin hk hall (thn (hkw.run pos pins s σ H _ I h) fun ws s2 ⟨zs, H2, I2, rz, l2, q2⟩ => ⟨I2.kIn, ?_⟩) hpl) hdb)⟩
  rw [hks]
  exact run_fnN (us := []) (vs := []) F hr hb hx I2 .nil rz rfl l2 q2
/-- two values in the other order -/
theorem swap_rel : ∀ {vs : List V} {us : List Value} {zs : List V} {ws : List Value}, Vals vs us → Vals zs ws → Vals [zs.getD 1 .non, zs.getD 0 .non] [ws.getD 1 Value.none, ws.getD 0 Value.none]
  | _, _, _, _, _, .nil => .cons rfl (.cons rfl .nil)
  | _, _, _, _, _, .cons r .nil => .cons rfl (.cons r .nil)
  | _, _, _, _, _, .cons r (.cons r2 _) => .cons r2 (.cons r .nil)
/-! ### list(text); text * number -/
theorem call_list_text {X : Cx} (hc : X.calm = true) : CallR X (.type "list") (fun xs H Q => ∃ z : Str, xs = [.str z] ∧ z.length ≤ sizeLine ∧ ∀ p, H p = none → Q (.ref p) (upd H p (.lst (z.cps.toList.map fun c => V.str ⟨#[c]⟩)))) := by
  intro pn s σ H xs us Q I r h
  obtain ⟨z, e, hz, q⟩ := h
  subst e
  obtain ⟨u, eu, rx⟩ := vals1 r
  subst eu
  obtain ⟨t, rfl⟩ := rx
  refine call_list_str (I.ok.hd hc) z t (fun h' tk acc' c' hkeep hS hacc => ?_) hz
  refine ⟨.ref s.heap.objs.size, upd H s.heap.objs.size (.lst (z.cps.toList.map fun c => V.str ⟨#[c]⟩)), I.laid hkeep (Nat.le_refl _) (show ObjOk X.prog X.w _ _ _ (.lst (z.cps.toList.map fun c => V.str ⟨#[c]⟩)) from ⟨?_, acc'.toList, c', ?_, ?_⟩), rfl, q _ (I.hok.fresh (Nat.le_refl _))⟩
  · rw [List.length_map]
    exact hz
  · refine vals_of_idx _ _ (by rw [List.length_map, Array.length_toList, Array.length_toList, hacc.1]) fun j v hj => ?_
    obtain ⟨c, u, hc2, rfl⟩ := hacc.2 j v (by rw [← Array.getElem?_toList]; exact hj)
    refine ⟨.str ⟨#[c]⟩, ?_, ⟨_, rfl⟩⟩
    rw [List.getElem?_map, Array.getElem?_toList, hc2]
    rfl
  · exact hS
theorem op_mul_str {X : Cx} : OpR X (binaryOp .Mult) (fun x y H Q => ∃ (z : Str) (n : Int), x = .str z ∧ y = .int n ∧ MulOk z n ∧ Q (.str (Txt.mul z n)) H) := by
  intro pn s σ H x y v u Q I rx ry h
  obtain ⟨z, n, rfl, rfl, hz, q⟩ := h
  obtain ⟨t, rfl⟩ := rx
  obtain ⟨t', rfl⟩ := ry
  exact PySem.SB.mul hz fun t' tk => ⟨.str (Txt.mul z n), H, I.tok _, ⟨_, rfl⟩, q⟩
end EK
namespace T4
open PySem PySem.Spec PyProof.Rows L2 EK
def topS (i : Nat) : Stmt := PySem.Challenge.pw_tiespan_k04_texts_of_fractions.main.body.getD i (.Pass ⟨0, 0, 0, 0⟩)
abbrev s_p_shortened : Stmt := topS 10
abbrev s_p_common_divisor : Stmt := topS 11
abbrev s_p_ratio : Stmt := topS 12
abbrev s_p_is_digits : Stmt := topS 13
abbrev s_p_number_text : Stmt := topS 14
abbrev s_p_number_of : Stmt := topS 15
abbrev s_p_ratio_text : Stmt := topS 16
abbrev s_p_ratio_of : Stmt := topS 17
abbrev s_p_read_ratio : Stmt := topS 18
abbrev s_feed : Stmt := topS 20
abbrev s_draw : Stmt := topS 21
abbrev s_any : Stmt := topS 22
abbrev s_same : Stmt := topS 23
abbrev s_field : Stmt := topS 24
abbrev s_why : Stmt := topS 25
abbrev s_gcd : Stmt := topS 26
abbrev s_low : Stmt := topS 27
abbrev s_part_text : Stmt := topS 28
abbrev s_part_of : Stmt := topS 29
abbrev s_p_law : Stmt := topS 30
theorem sc_p_shortened : FnScope ["one", "other", "shift", "high", "low", "a", "b", "c", "d", "times", "rest", "first", "second"] ["one", "other"] (defScope s_p_shortened) := ⟨rfl, rfl, rfl, by decide +kernel, rfl, by decide +kernel, by decide +kernel⟩
theorem sc_p_common_divisor : FnScope ["one", "other"] ["one", "other"] (defScope s_p_common_divisor) := ⟨rfl, rfl, rfl, by decide +kernel, rfl, by decide +kernel, by decide +kernel⟩
theorem sc_p_ratio : FnScope ["top", "under", "shared"] ["top", "under"] (defScope s_p_ratio) := ⟨rfl, rfl, rfl, by decide +kernel, rfl, by decide +kernel, by decide +kernel⟩
theorem sc_p_is_digits : FnScope ["text"] ["text"] (defScope s_p_is_digits) := ⟨rfl, rfl, rfl, by decide +kernel, rfl, by decide +kernel, by decide +kernel⟩
theorem sc_p_number_text : FnScope ["number", "rest", "blocks", "block"] ["number"] (defScope s_p_number_text) := ⟨rfl, rfl, rfl, by decide +kernel, rfl, by decide +kernel, by decide +kernel⟩
theorem sc_p_number_of : FnScope ["digits", "start", "number", "at"] ["digits"] (defScope s_p_number_of) := ⟨rfl, rfl, rfl, by decide +kernel, rfl, by decide +kernel, by decide +kernel⟩
theorem sc_p_ratio_text : FnScope ["one"] ["one"] (defScope s_p_ratio_text) := ⟨rfl, rfl, rfl, by decide +kernel, rfl, by decide +kernel, by decide +kernel⟩
theorem sc_p_ratio_of : FnScope ["text", "top", "slash", "under", "number", "divisor", "found"] ["text"] (defScope s_p_ratio_of) := ⟨rfl, rfl, rfl, by decide +kernel, rfl, by decide +kernel, by decide +kernel⟩
theorem sc_p_read_ratio : FnScope ["text", "found"] ["text"] (defScope s_p_read_ratio) := ⟨rfl, rfl, rfl, by decide +kernel, rfl, by decide +kernel, by decide +kernel⟩
theorem sc_feed : FnScope ["_law_script", "_law_cell", "_law_cells", "_law_mark"] ["_law_script"] (defScope s_feed) := ⟨rfl, rfl, rfl, by decide +kernel, rfl, by decide +kernel, by decide +kernel⟩
theorem sc_draw : FnScope ["_law_feed_here", "_law_many", "_law_cell", "_law_one", "_law_two", "_law_drawn"] ["_law_feed_here", "_law_many"] (defScope s_draw) := ⟨rfl, rfl, rfl, by decide +kernel, rfl, by decide +kernel, by decide +kernel⟩
theorem sc_any : FnScope ["_law_feed_here", "_law_row"] ["_law_feed_here", "_law_row"] (defScope s_any) := ⟨rfl, rfl, rfl, by decide +kernel, rfl, by decide +kernel, by decide +kernel⟩
theorem sc_same : FnScope ["_law_found", "_law_due", "_law_key", "_law_one", "_law_two"] ["_law_found", "_law_due"] (defScope s_same) := ⟨rfl, rfl, rfl, by decide +kernel, rfl, by decide +kernel, by decide +kernel⟩
theorem sc_field : FnScope ["_law_e"] ["_law_e"] (defScope s_field) := ⟨rfl, rfl, rfl, by decide +kernel, rfl, by decide +kernel, by decide +kernel⟩
theorem sc_why : FnScope ["_law_ask", "_law_told", "_law_e"] ["_law_ask"] (defScope s_why) := ⟨rfl, rfl, rfl, by decide +kernel, rfl, by decide +kernel, by decide +kernel⟩
theorem sc_gcd : FnScope ["_law_one", "_law_two"] ["_law_one", "_law_two"] (defScope s_gcd) := ⟨rfl, rfl, rfl, by decide +kernel, rfl, by decide +kernel, by decide +kernel⟩
theorem sc_low : FnScope ["_law_upper", "_law_lower", "_law_part"] ["_law_upper", "_law_lower"] (defScope s_low) := ⟨rfl, rfl, rfl, by decide +kernel, rfl, by decide +kernel, by decide +kernel⟩
theorem sc_part_text : FnScope ["_law_one"] ["_law_one"] (defScope s_part_text) := ⟨rfl, rfl, rfl, by decide +kernel, rfl, by decide +kernel, by decide +kernel⟩
theorem sc_part_of : FnScope ["_law_text", "_law_body", "_law_first", "_law_stroke", "_law_second", "_law_word", "_law_low_here", "_law_sign"] ["_law_text"] (defScope s_part_of) := ⟨rfl, rfl, rfl, by decide +kernel, rfl, by decide +kernel, by decide +kernel⟩
theorem sc_p_law : FnScope ["_law_script", "_law_feed_here", "_law_turn", "_law_size", "_law_one", "_law_at", "_law_sign", "_law_due", "_law_odd", "_law_text", "_law_asks", "_law_long", "_law_bent"] ["_law_script"] (defScope s_p_law) := ⟨rfl, rfl, rfl, by decide +kernel, rfl, by decide +kernel, by decide +kernel⟩
structure Txt (K : PySem.W.Frag) (mg : Str → Option Value) (fa : Nat → Addr) (fd : Nat → FuncData) : Prop where
  F_p_shortened : Fun K "shortened" "shortened" s_p_shortened (fa 10) (fd 10)
  g_p_shortened : mg "shortened" = some (.ref (fa 10))
  b_p_shortened : Binds K (fd 10) ["one", "other"] []
  F_p_common_divisor : Fun K "common_divisor" "common_divisor" s_p_common_divisor (fa 11) (fd 11)
  g_p_common_divisor : mg "common_divisor" = some (.ref (fa 11))
  b_p_common_divisor : Binds K (fd 11) ["one", "other"] []
  F_p_ratio : FunD K "ratio" "ratio" (defArgs s_p_ratio) (defBody s_p_ratio) (defScope s_p_ratio) [V.int 1] [] (fa 12) (fd 12)
  g_p_ratio : mg "ratio" = some (.ref (fa 12))
  b_p_ratio : Binds K (fd 12) ["top", "under"] []
  d_p_ratio : ∃ ds, Vals [V.int 1] ds ∧ Binds K (fd 12) ["top", "under"] ds
  F_p_is_digits : Fun K "is_digits" "is_digits" s_p_is_digits (fa 13) (fd 13)
  g_p_is_digits : mg "is_digits" = some (.ref (fa 13))
  b_p_is_digits : Binds K (fd 13) ["text"] []
  F_p_number_text : Fun K "number_text" "number_text" s_p_number_text (fa 14) (fd 14)
  g_p_number_text : mg "number_text" = some (.ref (fa 14))
  b_p_number_text : Binds K (fd 14) ["number"] []
  F_p_number_of : Fun K "number_of" "number_of" s_p_number_of (fa 15) (fd 15)
  g_p_number_of : mg "number_of" = some (.ref (fa 15))
  b_p_number_of : Binds K (fd 15) ["digits"] []
  F_p_ratio_text : Fun K "ratio_text" "ratio_text" s_p_ratio_text (fa 16) (fd 16)
  g_p_ratio_text : mg "ratio_text" = some (.ref (fa 16))
  b_p_ratio_text : Binds K (fd 16) ["one"] []
  F_p_ratio_of : Fun K "ratio_of" "ratio_of" s_p_ratio_of (fa 17) (fd 17)
  g_p_ratio_of : mg "ratio_of" = some (.ref (fa 17))
  b_p_ratio_of : Binds K (fd 17) ["text"] []
  F_p_read_ratio : Fun K "read_ratio" "read_ratio" s_p_read_ratio (fa 18) (fd 18)
  g_p_read_ratio : mg "read_ratio" = some (.ref (fa 18))
  b_p_read_ratio : Binds K (fd 18) ["text"] []
  F_feed : Fun K "_law_feed" "_law_feed" s_feed (fa 20) (fd 20)
  g_feed : mg "_law_feed" = some (.ref (fa 20))
  b_feed : Binds K (fd 20) ["_law_script"] []
  F_draw : Fun K "_law_draw" "_law_draw" s_draw (fa 21) (fd 21)
  g_draw : mg "_law_draw" = some (.ref (fa 21))
  b_draw : Binds K (fd 21) ["_law_feed_here", "_law_many"] []
  F_any : Fun K "_law_any" "_law_any" s_any (fa 22) (fd 22)
  g_any : mg "_law_any" = some (.ref (fa 22))
  b_any : Binds K (fd 22) ["_law_feed_here", "_law_row"] []
  F_same : Fun K "_law_same" "_law_same" s_same (fa 23) (fd 23)
  g_same : mg "_law_same" = some (.ref (fa 23))
  b_same : Binds K (fd 23) ["_law_found", "_law_due"] []
  F_field : Fun K "_law_field" "_law_field" s_field (fa 24) (fd 24)
  g_field : mg "_law_field" = some (.ref (fa 24))
  b_field : Binds K (fd 24) ["_law_e"] []
  F_why : Fun K "_law_why" "_law_why" s_why (fa 25) (fd 25)
  g_why : mg "_law_why" = some (.ref (fa 25))
  b_why : Binds K (fd 25) ["_law_ask"] []
  F_gcd : Fun K "_law_gcd" "_law_gcd" s_gcd (fa 26) (fd 26)
  g_gcd : mg "_law_gcd" = some (.ref (fa 26))
  b_gcd : Binds K (fd 26) ["_law_one", "_law_two"] []
  F_low : Fun K "_law_low" "_law_low" s_low (fa 27) (fd 27)
  g_low : mg "_law_low" = some (.ref (fa 27))
  b_low : Binds K (fd 27) ["_law_upper", "_law_lower"] []
  F_part_text : Fun K "_law_part_text" "_law_part_text" s_part_text (fa 28) (fd 28)
  g_part_text : mg "_law_part_text" = some (.ref (fa 28))
  b_part_text : Binds K (fd 28) ["_law_one"] []
  F_part_of : Fun K "_law_part_of" "_law_part_of" s_part_of (fa 29) (fd 29)
  g_part_of : mg "_law_part_of" = some (.ref (fa 29))
  b_part_of : Binds K (fd 29) ["_law_text"] []
  F_p_law : Fun K "law" "law" s_p_law (fa 30) (fd 30)
  g_p_law : mg "law" = some (.ref (fa 30))
  b_p_law : Binds K (fd 30) ["_law_script"] []
  eInvalidRatio : ErrC K mg "InvalidRatio" (fa 2) (fa 1) (fa 4) (fa 1002)
  IInvalidRatio : Fun K "__init__" "InvalidRatio.__init__" (inClass (topS 2) 0) (fa 1002) (fd 1002)
  bIInvalidRatio : Binds K (fd 1002) ["self", "given"] []
  nInvalidRatio_given : PySem.W.findIn K (.ref (fa 2)) "given" = some none
  eParseError : ErrC K mg "ParseError" (fa 3) (fa 1) (fa 4) (fa 1003)
  IParseError : Fun K "__init__" "ParseError.__init__" (inClass (topS 3) 0) (fa 1003) (fd 1003)
  bIParseError : Binds K (fd 1003) ["self", "at"] []
  nParseError_at : PySem.W.findIn K (.ref (fa 3)) "at" = some none
  gTieError : mg "TieError" = some (.ref (fa 1))
  gMissing : mg "Missing" = some (.ref (fa 4))
  c_LONG : ∃ u, mg "LONG" = some u ∧ RelV (.int 4096) u
  m_int : mg "int" = none
  m_len : mg "len" = none
  m_abs : mg "abs" = none
  m_range : mg "range" = none
  m_zip : mg "zip" = none
  m_all : mg "all" = none
  m_isinstance : mg "isinstance" = none
  m_bool : mg "bool" = none
  m_str : mg "str" = none
  m_tuple : mg "tuple" = none
  m_list : mg "list" = none
  m_dict : mg "dict" = none
/-! ### the law's own words: drawing -/
def FeedOk (H : Hp) (a c : Addr) : Prop := ∃ (ns : List Int) (k big mark : Int), H a = some (.lst [.ref c, .int k, .int big, .int mark]) ∧ H c = some (.lst (ns.map V.int)) ∧ c ≠ a ∧ ns.length ≤ 63 ∧ 0 ≤ k
def But (a : Addr) (H H' : Hp) : Prop := ∀ b o, b ≠ a → H b = some o → H' b = some o
theorem But.refl (a : Addr) (H : Hp) : But a H H := fun _ _ _ h => h
theorem But.trans {a : Addr} {H H1 H2 : Hp} (p : But a H H1) (q : But a H1 H2) : But a H H2 := fun b o n h => q b o n (p b o n h)
theorem But.upd {a : Addr} {H : Hp} {o : HO} : But a H (upd H a o) := fun b _ n h => by rw [upd_ne n]; exact h
theorem But.of {a : Addr} {H H' : Hp} (s : Same H H') : But a H H' := fun b o _ h => s b o h
theorem same_upd {H : Hp} {p : Addr} {o : HO} (h : H p = none) : Same H (upd H p o) := fun b x e => by
  rw [upd_ne (ne_of_none e h)]
  exact e
theorem FeedOk.new {H : Hp} {a c p : Addr} {o : HO} (h : FeedOk H a c) (n : H p = none) : FeedOk (upd H p o) a c := by
  obtain ⟨ns, k, big, mark, h1, h2, h3⟩ := h
  exact ⟨ns, k, big, mark, same_upd n _ _ h1, same_upd n _ _ h2, h3⟩
theorem FeedOk.same {H H' : Hp} {a c : Addr} (h : FeedOk H a c) (s : Same H H') : FeedOk H' a c := by
  obtain ⟨ns, k, big, mark, h1, h2, h3⟩ := h
  exact ⟨ns, k, big, mark, s _ _ h1, s _ _ h2, h3⟩
def Mid (m : Int) : Prop := 0 < m ∧ m.natAbs.log2 < 9000
def spDraw : Sp := fun vs H Q _ => ∃ (a c : Addr) (m : Int), vs = [.ref a, .int m] ∧ FeedOk H a c ∧ Mid m ∧ ∀ r H', 0 ≤ r → r < m → FeedOk H' a c → But a H H' → Q (.int r) H'
section
variable {P : Program} {w : World} {K : PySem.W.Frag} {mg : Str → Option Value} {base : Heap} {fa : Nat → Addr} {fd : Nat → FuncData}
theorem ok_draw (T : Txt K mg fa fd) : FnOk P w K mg base CX0 1 (fa 21) (fd 21) ["_law_feed_here", "_law_many"] spDraw := by
  refine T.F_draw.ok sc_draw (fun vs H Q E h => ?_) (fun cdv A outer s H vs Q E hr h => ?_)
  · obtain ⟨a, c, m, rfl, _⟩ := h
    rfl
  · obtain ⟨a, c, m, rfl, ⟨ns, k, big, mark, ha, hc, nca, hlen, hk⟩, ⟨hm, hm9⟩, q⟩ := h
    refine ⟨_, (C8.pss_cut (ps_if (pt_cmpR op_lt (pe_ix ix_list (pv 0) pe_int (fun _ _ => rfl)) pe_int (nomark _)) (C8.pss_cut (ps_asg (pe_op op_add (pe_ix ix_list (pv 0) pe_int (fun _ _ => rfl)) pe_int) (pg_sub (pv 0) pe_int set_list))
      (pss_cons (ps_set (i := 2) sc_draw.nd rfl (.inl rfl) (pe_op op_add (pe_ix ix_list (pv 0) pe_int (fun _ _ => rfl)) (pe_op op_mul (pe_ix ix_list (pv 0) pe_int (fun _ _ => rfl)) pe_int)))
      (C8.pss_cut (ps_if (pt_cmpR op_le (pe_ix ix_list (pv 0) pe_int (fun _ _ => rfl)) (pe_callB call_len_seq (by rfl) T.m_len PySem.boot_len (pa_cons (pe_ix ix_list (pv 0) pe_int (fun _ _ => rfl)) pa_nil)) (nomark _)) (pss_one (ps_set (i := 2) sc_draw.nd rfl (.inl rfl) (pe_ix ix_list (pe_ix ix_list (pv 0) pe_int (fun _ _ => rfl)) (pe_op op_sub (pe_ix ix_list (pv 0) pe_int (fun _ _ => rfl)) pe_int) (fun _ _ => rfl)))) pss_nil)
      (pss_cons (ps_if (PW.pt (pw_or (pt_cmpR op_gt (pe_ix ix_list (pv 0) pe_int (fun _ _ => rfl)) (pe_callB call_len_seq (by rfl) T.m_len PySem.boot_len (pa_cons (pe_ix ix_list (pv 0) pe_int (fun _ _ => rfl)) pa_nil)) (nomark _)) (pw_or1 (pt_cmpR op_lt (pv 2) (pe_op op_pow pe_int pe_int) (nomark _))))) (pss_cons (ps_set (i := 3) sc_draw.nd rfl (.inl rfl) (pe_op op_mod (pe_callTy call_int1 (by rfl) T.m_int PySem.Pv.boot_int (pa_cons (pe_op op_add (pe_op op_add (pe_op op_mul (pv 2) pe_int) (pe_op op_mul (pe_ix ix_list (pv 0) pe_int (fun _ _ => rfl)) pe_int)) (pe_ix ix_list (pv 0) pe_int (fun _ _ => rfl))) pa_nil)) pe_int))
      (pss_cons (ps_set (i := 4) sc_draw.nd rfl (.inl rfl) (pe_op op_mod (pe_callTy call_int1 (by rfl) T.m_int PySem.Pv.boot_int (pa_cons (pe_op op_add (pe_op op_mul (pv 3) (pv 3)) (pe_op op_mul (pe_ix ix_list (pv 0) pe_int (fun _ _ => rfl)) pe_int)) pa_nil)) pe_int))
      (pss_one (ps_ret (pe_op op_mod (pe_op op_fdiv (pe_op op_mod (pe_callTy call_int1 (by rfl) T.m_int PySem.Pv.boot_int (pa_cons (pe_op op_add (pe_op op_mul (pv 4) pe_int) (pv 3)) pa_nil)) pe_int) pe_int) (pv 1)))))) pss_nil)
      (pss_one (ps_asg (pv 2) (pg_sub (pv 0) pe_int set_list))))))) pss_nil)
      (pss_cons (ps_set (i := 5) sc_draw.nd rfl (.inl rfl) (pe_op op_mod (pe_callTy call_int1 (by rfl) T.m_int PySem.Pv.boot_int (pa_cons (pe_ix ix_list (pv 0) pe_int (fun _ _ => rfl)) pa_nil)) (pv 1)))
      (pss_cons (ps_asg (pe_op op_fdivW (pe_callTy call_int1 (by rfl) T.m_int PySem.Pv.boot_int (pa_cons (pe_ix ix_list (pv 0) pe_int (fun _ _ => rfl)) pa_nil)) (pv 1)) (pg_sub (pv 0) pe_int set_list))
      (pss_one (ps_ret (pv 5)))))), ?_⟩
    have i0 : ∀ (x y z u : V), atI [x, y, z, u] 0 = some x := fun _ _ _ _ => rfl
    have i1 : ∀ (x y z u : V), atI [x, y, z, u] 1 = some y := fun _ _ _ _ => rfl
    have i2 : ∀ (x y z u : V), atI [x, y, z, u] 2 = some z := fun _ _ _ _ => rfl
    have i3 : ∀ (x y z u : V), atI [x, y, z, u] 3 = some u := fun _ _ _ _ => rfl
    refine ⟨fun σ H1 => FeedOk H1 a c ∧ But a H H1 ∧ ∃ y2 y3 y4 y5, σ = [some (.ref a), some (.int m), y2, y3, y4, y5], ?_, fun σ H1 hM => ?_⟩
    · refine ⟨.ref a, rfl, a, _, _, _, rfl, rfl, SqL.of ha, i2 _ _ _ _, _, _, rfl, rfl, _, rfl, ite2 (fun e => ?_) (fun e => ?_)⟩
      · -- feed[1] = feed[1] + 1
        refine ⟨fun σ H1 => σ = [some (.ref a), some (.int m), none, none, none, none] ∧ H1 a = some (.lst [.ref c, .int (k + 1), .int big, .int mark]) ∧ H1 c = some (.lst (ns.map V.int)) ∧ But a H H1,
          ⟨.ref a, rfl, a, _, _, _, rfl, rfl, SqL.of ha, i1 _ _ _ _, _, _, rfl, rfl, .ref a, rfl, a, _, _, 1, rfl, rfl, ha, rfl, rfl, upd_same, by rw [upd_ne nca]; exact hc, But.upd⟩, fun σ H1 hM => ?_⟩
        obtain ⟨rfl, ha1, hc1, b1⟩ := hM
        refine ⟨.ref a, rfl, a, _, _, _, rfl, rfl, SqL.of ha1, i3 _ _ _ _, .ref a, rfl, a, _, _, _, rfl, rfl, SqL.of ha1, i1 _ _ _ _, _, _, rfl, rfl, .inr (by decide), _, _, rfl, rfl, ?_⟩
        refine ⟨fun σ H2 => H2 = H1 ∧ ∃ z : Int, σ = [some (.ref a), some (.int m), some (.int z), none, none, none], ?_, fun σ H2 hM => ?_⟩
        · refine ⟨.ref a, rfl, a, _, _, _, rfl, rfl, SqL.of ha1, i1 _ _ _ _, .ref a, rfl, a, _, _, _, rfl, rfl, SqL.of ha1, i0 _ _ _ _, c, _, rfl, .inl (SqL.of hc1), _, _, rfl, rfl, _, rfl, ite2 (fun e1 => ?_) (fun e1 => ?_)⟩
          · have h1 : k + 1 ≤ ((ns.map V.int).length : Int) := of_decide_eq_true e1
            rw [List.length_map] at h1
            have h2 : k.toNat < ns.length := by omega
            have g : (ns.map V.int)[k.toNat]? = some (.int ns[k.toNat]) := by rw [List.getElem?_map, List.getElem?_eq_getElem h2]; rfl
            exact ⟨.ref a, rfl, a, _, _, _, rfl, rfl, SqL.of ha1, i0 _ _ _ _, .ref a, rfl, a, _, _, _, rfl, rfl, SqL.of ha1, i1 _ _ _ _, _, _, rfl, rfl, c, _, _, _, rfl, rfl, SqL.of hc1, at_of (j := k.toNat) (by omega) g, rfl, _, rfl⟩
          · exact ⟨rfl, _, rfl⟩
        · obtain ⟨rfl, z, rfl⟩ := hM
          have tail : FeedOk (upd H2 a (.lst ([V.ref c, .int (k + 1), .int big, .int mark].set 2 (.int z)))) a c ∧ But a H (upd H2 a (.lst ([V.ref c, .int (k + 1), .int big, .int mark].set 2 (.int z)))) ∧ ∃ y2 y3 y4 y5, [some (V.ref a), some (.int m), some (.int z), none, none, none] = [some (V.ref a), some (.int m), y2, y3, y4, y5] :=
            ⟨⟨ns, k + 1, z, mark, upd_same, by rw [upd_ne nca]; exact hc1, nca, hlen, by omega⟩, b1.trans But.upd, _, _, _, _, rfl⟩
          have pos : ∀ x y : Int, 0 ≤ x % 2147483647 ∧ x % 2147483647 < 2147483647 := fun x _ => ⟨Int.emod_nonneg _ (by decide), Int.emod_lt_of_pos _ (by decide)⟩
          have done : ∀ x : Int, Q (.int (x % m)) H2 := fun x => q _ _ (Int.emod_nonneg _ (by omega)) (Int.emod_lt_of_pos _ hm) ⟨ns, k + 1, big, mark, ha1, hc1, nca, hlen, by omega⟩ b1
          refine ⟨.ref a, rfl, a, _, _, _, rfl, rfl, SqL.of ha1, i1 _ _ _ _, .ref a, rfl, a, _, _, _, rfl, rfl, SqL.of ha1, i0 _ _ _ _, c, _, rfl, .inl (SqL.of hc1), _, _, rfl, rfl, _, rfl, ite2 (fun e1 => ?_) (fun e1 => ?_)⟩
          · exact ⟨_, rfl, _, _, rfl, rfl, .inr (by decide), _, rfl, a, _, _, _, rfl, rfl, SqL.of ha1, i1 _ _ _ _, _, _, rfl, rfl, .inr (by decide), _, _, rfl, rfl, _, rfl, a, _, _, _, rfl, rfl, SqL.of ha1, i3 _ _ _ _, _, _, rfl, rfl, .inl ⟨_, rfl, _, _, rfl, rfl, (by show (0 : Int) < _; decide), _, rfl, _, rfl, _, _, rfl, rfl, .inl (by have p := pos (z * 48271 + (k + 1) * 69621 + mark) 0; exact ⟨by omega, by omega⟩), _, rfl, a, _, _, _, rfl, rfl, SqL.of ha1, i1 _ _ _ _, _, _, rfl, rfl, .inr (by decide), _, _, rfl, rfl, .inl ⟨_, rfl, _, _, rfl, rfl, (by show (0 : Int) < _; decide), _, rfl, _, _, rfl, rfl, .inr (by decide), _, rfl, _, _, rfl, rfl, .inl ⟨_, rfl, _, _, rfl, rfl, (by show (0 : Int) < _; decide), _, _, rfl, rfl, ⟨by decide, by decide⟩, _, rfl, _, _, rfl, rfl, hm, done _⟩⟩⟩⟩
          · refine ⟨_, rfl, _, _, rfl, rfl, ⟨by decide, by decide, by decide⟩, _, _, rfl, rfl, _, rfl, ite2 (fun e2 => ?_) (fun e2 => ?_)⟩
            · exact ⟨_, rfl, _, _, rfl, rfl, .inr (by decide), _, rfl, a, _, _, _, rfl, rfl, SqL.of ha1, i1 _ _ _ _, _, _, rfl, rfl, .inr (by decide), _, _, rfl, rfl, _, rfl, a, _, _, _, rfl, rfl, SqL.of ha1, i3 _ _ _ _, _, _, rfl, rfl, .inl ⟨_, rfl, _, _, rfl, rfl, (by show (0 : Int) < _; decide), _, rfl, _, rfl, _, _, rfl, rfl, .inl (by have p := pos (z * 48271 + (k + 1) * 69621 + mark) 0; exact ⟨by omega, by omega⟩), _, rfl, a, _, _, _, rfl, rfl, SqL.of ha1, i1 _ _ _ _, _, _, rfl, rfl, .inr (by decide), _, _, rfl, rfl, .inl ⟨_, rfl, _, _, rfl, rfl, (by show (0 : Int) < _; decide), _, rfl, _, _, rfl, rfl, .inr (by decide), _, rfl, _, _, rfl, rfl, .inl ⟨_, rfl, _, _, rfl, rfl, (by show (0 : Int) < _; decide), _, _, rfl, rfl, ⟨by decide, by decide⟩, _, rfl, _, _, rfl, rfl, hm, done _⟩⟩⟩⟩
            · exact ⟨_, rfl, .ref a, rfl, a, _, _, 2, rfl, rfl, ha1, rfl, tail⟩
      · exact ⟨⟨ns, k, big, mark, ha, hc, nca, hlen, hk⟩, But.refl _ _, none, none, none, none, rfl⟩
    · obtain ⟨⟨ns1, k1, big1, mark1, ha1, hc1, nca1, hlen1, hk1⟩, b1, y2, y3, y4, y5, rfl⟩ := hM
      refine ⟨.ref a, rfl, a, _, _, _, rfl, rfl, SqL.of ha1, i2 _ _ _ _, .inl ⟨_, rfl, _, rfl, _, _, rfl, rfl, hm, ?_⟩⟩
      refine ⟨.ref a, rfl, a, _, _, _, rfl, rfl, SqL.of ha1, i2 _ _ _ _, .inl ⟨_, rfl, _, rfl, _, _, rfl, rfl, ⟨hm, hm9⟩, ?_⟩⟩
      refine ⟨.ref a, rfl, a, _, _, 2, rfl, rfl, ha1, rfl, ?_⟩
      refine ⟨_, rfl, q _ _ (Int.emod_nonneg _ (by omega)) (Int.emod_lt_of_pos _ hm) ⟨ns1, k1, big1 / m, mark1, upd_same, ?_, nca1, hlen1, hk1⟩ (b1.trans But.upd)⟩
      rw [upd_ne nca1]
      exact hc1
theorem cut63 (xs : List V) (h : xs.length ≤ 63) : cutV xs none (some 63) = xs := by
  unfold cutV
  rw [show HT.sIx xs.length xs.length (some 63) = min 63 xs.length from HT.sIx_nat xs.length xs.length 63, HT.sIx_none]
  rw [Nat.min_eq_right h]
  exact List.take_length
def spFeed (K : PySem.W.Frag) : Sp := fun vs H Q _ => ∃ (a : Addr) (ns : List Int), vs = [.ref a] ∧ SqL K H a (ns.map V.int) ∧ ns.length ≤ 63 ∧ ∀ p c H', H p = none → H c = none → Same H H' → FeedOk H' p c → Q (.ref p) H'
theorem ok_feed (T : Txt K mg fa fd) : FnOk P w K mg base CX0 1 (fa 20) (fd 20) ["_law_script"] (spFeed K) := by
  refine T.F_feed.ok sc_feed (fun vs H Q E h => ?_) (fun cdv A outer s H vs Q E hr h => ?_)
  · obtain ⟨a, ns, rfl, _⟩ := h
    rfl
  · obtain ⟨a, ns, rfl, hS, hlen, q⟩ := h
    refine ⟨_, (C8.pss_cut (ps_setLc (i := 2) (own := [("_law_cell", 1)]) (g := gName 1) (tt := tYes) rfl sc_feed.nd rfl rfl (sw_true rfl rfl rfl (by decide +kernel)) (pi_list (pe_slice sl_list (pv 0) po_none (po_some pe_int))) (blkOk_by (own := [("_law_cell", 1)]) (N := ["_law_script", "_law_cell", "_law_cells", "_law_mark"]) (sc := defScope s_feed) (by decide +kernel)) (fun _ _ _ _ _ => pg_name (i := 1) sc_feed.nd rfl (Or.inl rfl)) (fun _ _ _ _ _ => pts_nil) (fun _ _ _ _ _ => (pe_callTy call_int1 (by rfl) T.m_int PySem.Pv.boot_int (pa_cons (pv 1) pa_nil))))
      (pss_cons (ps_set (i := 3) sc_feed.nd rfl (.inl rfl) (pe_op op_add pe_int (pe_op op_mul pe_int (pe_callB call_len_seq (by rfl) T.m_len PySem.boot_len (pa_cons (pv 2) pa_nil)))))
      (pss_cons (ps_for PassesOwn.never rfl (pi_list (pv 2)) (pg_name (i := 1) sc_feed.nd rfl (.inl rfl)) (pss_one (ps_set (i := 3) sc_feed.nd rfl (.inl rfl) (pe_op op_mod (pe_callTy call_int1 (by rfl) T.m_int PySem.Pv.boot_int (pa_cons (pe_op op_add (pe_op op_mul (pv 3) pe_int) (pv 1)) pa_nil)) pe_int))))
      (pss_one (ps_ret (pe_lst (pa_cons (pv 2) (pa_cons pe_int (pa_cons pe_int (pa_cons (pv 3) pa_nil)))))))))), ?_⟩
    refine ⟨fun σ H1 => ∃ c, σ = [some (.ref a), none, some (.ref c), none] ∧ H c = none ∧ Same H H1 ∧ H1 c = some (.lst (ns.map V.int)), ?_, fun σ H1 hM => ?_⟩
    · refine ⟨.ref a, rfl, 63, rfl, a, _, rfl, hS, fun p np => ?_⟩
      rw [cut63 _ (by rw [List.length_map]; exact hlen)]
      have s1 : Same H (upd H p (.lst (ns.map V.int))) := same_upd np
      refine ⟨p, rfl, ⟨_, SqL.of upd_same⟩, fun D nD => ?_⟩
      have nD0 : H D = none := s1.free nD
      have npD : p ≠ D := ne_of_none upd_same nD
      refine lc_list (K := K) (a := p) (xs := ns.map V.int) (fun i H2 => Same (upd H p (.lst (ns.map V.int))) H2 ∧ H2 D = some (.lst ((ns.take i).map V.int))) ⟨same_upd nD, upd_same⟩ (fun i H2 _ hp => SqL.of (hp.1 _ _ upd_same)) (fun i x H2 hx hp => ?_) (fun H2 hp => ?_)
      · rw [List.getElem?_map] at hx
        obtain ⟨z, hz, rfl⟩ := Option.map_eq_some_iff.mp hx
        refine ⟨rfl, _, rfl, .inl ⟨_, rfl, _, hp.2, ?_, ?_, ?_⟩⟩
        · rw [List.length_map, List.length_take]
          exact Nat.lt_of_le_of_lt (Nat.min_le_left _ _) (small1000 (by
            have := (List.getElem?_eq_some_iff.mp hz).1
            omega))
        · exact fun b o e => by
            rw [upd_ne (ne_of_none e nD)]
            exact hp.1 b o e
        · rw [upd_same, List.take_add_one, hz, List.map_append]
          rfl
      · rw [List.length_map] at hp
        refine ⟨D, rfl, nD0, s1.trans hp.1, ?_⟩
        rw [hp.2, List.take_length]
    · obtain ⟨c, rfl, nc, s1, hc⟩ := hM
      refine ⟨_, rfl, c, _, rfl, .inl (SqL.of hc), _, _, rfl, rfl, .inl (by decide), _, _, rfl, rfl, ?_⟩
      refine ⟨_, rfl, c, rfl, ⟨_, SqL.of hc⟩, for_list (K := K) (a := c) (xs := ns.map V.int) (fun i σ H2 => H2 = H1 ∧ ∃ (y1 : Option V) (m : Int), σ = [some (.ref a), y1, some (.ref c), some (.int m)] ∧ 0 ≤ m ∧ m < 1000000000000) ?_ (fun i σ H2 _ hp => by rw [hp.1]; exact SqL.of hc) (fun i x σ H2 hx hp => ?_) (fun σ H2 hp => ?_)⟩
      · refine ⟨rfl, _, _, rfl, ?_⟩
        rw [List.length_map]
        omega
      · obtain ⟨rfl, y1, m, rfl, h0, h1⟩ := hp
        rw [List.getElem?_map] at hx
        obtain ⟨z, hz, rfl⟩ := Option.map_eq_some_iff.mp hx
        exact ⟨_, rfl, _, _, rfl, rfl, .inr (by decide), _, rfl, _, _, rfl, rfl, .inl ⟨_, rfl, _, _, rfl, rfl, (by show (0 : Int) < _; decide), rfl, _, _, rfl, Int.emod_nonneg _ (by decide), Int.lt_trans (Int.emod_lt_of_pos _ (by decide)) (by decide)⟩⟩
      · obtain ⟨rfl, y1, m, rfl, h0, h1⟩ := hp
        refine ⟨_, rfl, _, rfl, Nat.le_trans (by decide : 4 ≤ 1000) (Nat.le_of_lt (small1000 (Nat.le_refl _))), fun p np => ?_⟩
        refine q p c _ (s1.free np) nc (s1.trans (same_upd np)) ⟨ns, 0, 0, m, upd_same, ?_, ne_of_none hc np, hlen, Int.le_refl _⟩
        rw [upd_ne (ne_of_none hc np)]
        exact hc
/-! ### the row's own draw -/
def spAny : Sp := fun vs H Q _ => ∃ (a c r : Addr) (xs : List V), vs = [.ref a, .ref r] ∧ FeedOk H a c ∧ H r = some (.lst xs) ∧ r ≠ a ∧ 0 < xs.length ∧ xs.length ≤ 1000 ∧ ∀ v H', v ∈ xs → FeedOk H' a c → But a H H' → Q v H'
theorem mid_small {n : Nat} (h0 : 0 < n) (h : n ≤ 1000) : Mid (n : Int) := ⟨by omega, by
  rw [Int.natAbs_natCast]
  exact Nat.lt_of_le_of_lt (Nat.log2_le_self n) (by omega)⟩
theorem ok_any (T : Txt K mg fa fd) : FnOk P w K mg base CX0 2 (fa 22) (fd 22) ["_law_feed_here", "_law_row"] spAny := by
  refine T.F_any.ok sc_any (fun vs H Q E h => ?_) (fun cdv A outer s H vs Q E hr h => ?_)
  · obtain ⟨a, c, m, xs, rfl, _⟩ := h
    rfl
  · obtain ⟨a, c, r, xs, rfl, hF, hx, nra, h0, h1, q⟩ := h
    refine ⟨_, (pss_one (ps_ret (pe_ix ix_list (pv 1) (pe_call (ok_draw T) (hr.mono (by decide)) (by rfl) T.g_draw T.F_draw.kp T.b_draw .nil pass0 (pa_cons (pv 0) (pa_cons (pe_callB call_len_seq (by rfl) T.m_len PySem.boot_len (pa_cons (pv 1) pa_nil)) pa_nil))) (fun _ _ => rfl)))), ?_⟩
    refine ⟨_, rfl, _, rfl, _, rfl, r, _, rfl, .inl (SqL.of hx), a, c, _, rfl, hF, mid_small h0 h1, fun z H' z0 z1 hF' b => ?_⟩
    have hz : z.toNat < xs.length := by omega
    exact ⟨r, xs, z, xs[z.toNat], rfl, rfl, SqL.of (b _ _ nra hx), at_of (j := z.toNat) (by omega) (List.getElem?_eq_getElem hz), q _ _ (List.getElem_mem hz) hF' b⟩
/-! ### the greatest common divisor -/
def spGcd : Sp := fun vs H Q _ => ∃ x y : Int, vs = [.int x, .int y] ∧ Q (.int (Int.gcd x y : Nat)) H
theorem ok_gcd (T : Txt K mg fa fd) : FnOk P w K mg base CX0 1 (fa 26) (fd 26) ["_law_one", "_law_two"] spGcd := by
  refine T.F_gcd.ok sc_gcd (fun vs H Q E h => ?_) (fun cdv A outer s H vs Q E hr h => ?_)
  · obtain ⟨x, y, rfl, _⟩ := h
    rfl
  · obtain ⟨x, y, rfl, q⟩ := h
    refine ⟨_, (pss_cons (ps_par (i := 0) (j := 1) (by rfl) sc_gcd.nd rfl rfl (by decide) rfl rfl (pa_cons (pe_callB call_abs (by rfl) T.m_abs PyProof.Rows.boot_abs (pa_cons (pv 0) pa_nil)) (pa_cons (pe_callB call_abs (by rfl) T.m_abs PyProof.Rows.boot_abs (pa_cons (pv 1) pa_nil)) pa_nil)) (by rfl))
      (pss_cons (ps_while PassesOwn.never (pt_cmpR op_ne (pv 1) pe_int (nomark _)) (pss_one (ps_par (i := 0) (j := 1) (by rfl) sc_gcd.nd rfl rfl (by decide) rfl rfl (pa_cons (pv 1) (pa_cons (pe_op op_mod (pe_callTy call_int1 (by rfl) T.m_int PySem.Pv.boot_int (pa_cons (pv 0) pa_nil)) (pv 1)) pa_nil)) (by rfl))))
      (pss_one (ps_ret (pv 0))))), ?_⟩
    refine ⟨_, rfl, _, rfl, _, rfl, _, rfl, _, _, rfl, ?_⟩
    have ab : ∀ z : Int, (if z < 0 then -z else z) = (z.natAbs : Int) := fun z => by split <;> omega
    rw [ab, ab]
    refine ⟨fun m σ H1 => ∃ u v : Nat, m = v ∧ σ = [some (.int (u : Int)), some (.int (v : Int))] ∧ H1 = H ∧ Nat.gcd u v = Int.gcd x y, ⟨_, x.natAbs, y.natAbs, rfl, rfl, rfl, rfl⟩, fun m σ H1 hW => ?_⟩
    obtain ⟨u, v, rfl, rfl, rfl, hg⟩ := hW
    refine ⟨_, rfl, rfl, _, rfl, ?_⟩
    by_cases hv : m = 0
    · subst hv
      rw [decide_eq_true (show V.int ((0 : Nat) : Int) = V.int 0 from rfl)]
      refine ⟨_, rfl, ?_⟩
      rw [Nat.gcd_zero_right] at hg
      rw [hg]
      exact q
    · rw [decide_eq_false (fun e => hv (by have := V.int.inj e; omega))]
      refine ⟨fun σ' H' => ∃ m', m' < m ∧ ∃ u v : Nat, m' = v ∧ σ' = [some (.int (u : Int)), some (.int (v : Int))] ∧ H' = H1 ∧ Nat.gcd u v = Int.gcd x y, fun σ' H' h => h, ?_⟩
      refine ⟨_, rfl, _, rfl, .inl ⟨_, rfl, _, rfl, _, _, rfl, rfl, (by show (0 : Int) < _; omega), ?_⟩⟩
      refine ⟨_, _, rfl, u % m, Nat.mod_lt _ (by omega), m, u % m, rfl, rfl, rfl, ?_⟩
      rw [← hg, Nat.gcd_comm m, ← Nat.gcd_rec, Nat.gcd_comm]
/-! ### lowest terms -/
def CDivG (_ j : Int) : Prop := j ≠ 0 ∧ j.natAbs.log2 < 9000
theorem op_fdivG {X : Cx} : OpR X (binaryOp .FloorDiv) (rI CDivG fun i j => .int (i.fdiv j)) := opI fun _ _ _ _ _ _ _ hc q => floordiv_int hc.1 q (.inl (PyProof.noPylong_of_log2 hc.2))
def lowG (u v : Int) : Int := if v < 0 then -(Int.gcd u v : Nat) else (Int.gcd u v : Nat)
def lowT (u v : Int) : Int := u.fdiv (lowG u v)
def lowD (u v : Int) : Int := v.fdiv (lowG u v)
theorem gcd_pos {u v : Int} (h : v ≠ 0) : 0 < Int.gcd u v := Nat.pos_of_ne_zero fun e => h (Int.gcd_eq_zero_iff.mp e).2
theorem gcd_le {u v : Int} (h : v ≠ 0) : Int.gcd u v ≤ v.natAbs := Nat.le_of_dvd (by omega) (Nat.gcd_dvd_right _ _)
theorem log2_mono {a b k : Nat} (h : a ≤ b) (hb : b.log2 < k) : a.log2 < k := by
  by_cases h0 : a = 0
  · subst h0
    rw [Nat.log2_zero]
    omega
  · have hb0 : b ≠ 0 := by omega
    exact (Nat.log2_lt h0).mpr (Nat.lt_of_le_of_lt h ((Nat.log2_lt hb0).mp hb))
theorem lowG_ok {u v : Int} (h : v ≠ 0) (h9 : v.natAbs.log2 < 4096) : CDivG u (lowG u v) := by
  have h1 := gcd_pos (u := u) h
  have h2 := gcd_le (u := u) h
  unfold lowG
  split
  · exact ⟨by omega, by rw [Int.natAbs_neg, Int.natAbs_natCast]; exact Nat.lt_trans (log2_mono h2 h9) (by decide)⟩
  · exact ⟨by omega, by rw [Int.natAbs_natCast]; exact Nat.lt_trans (log2_mono h2 h9) (by decide)⟩
def spLow : Sp := fun vs H Q _ => ∃ u v : Int, vs = [.int u, .int v] ∧ v ≠ 0 ∧ v.natAbs.log2 < 4096 ∧ ∀ p, H p = none → Q (.ref p) (upd H p (.tup [.int (lowT u v), .int (lowD u v)]))
theorem two_line : 2 ≤ sizeLine := Nat.le_trans (by decide : 2 ≤ 1000) (Nat.le_of_lt (small1000 (Nat.le_refl _)))
theorem ok_low (T : Txt K mg fa fd) : FnOk P w K mg base CX0 2 (fa 27) (fd 27) ["_law_upper", "_law_lower"] spLow := by
  refine T.F_low.ok sc_low (fun vs H Q E h => ?_) (fun cdv A outer s H vs Q E hr h => ?_)
  · obtain ⟨x, y, rfl, _⟩ := h
    rfl
  · obtain ⟨u, v, rfl, h0, h9, q⟩ := h
    refine ⟨_, (pss_cons (ps_set (i := 2) sc_low.nd rfl (.inl rfl) (pe_call (ok_gcd T) (hr.mono (by decide)) (by rfl) T.g_gcd T.F_gcd.kp T.b_gcd .nil pass0 (pa_cons (pv 0) (pa_cons (pv 1) pa_nil))))
      (C8.pss_cut (ps_if (pt_cmpR op_lt (pv 1) pe_int (nomark _)) (pss_one (ps_set (i := 2) sc_low.nd rfl (.inl rfl) (pe_un un_neg (pv 2)))) pss_nil)
      (pss_one (ps_ret (pe_tup (pa_cons (pe_op op_fdivG (pv 0) (pv 2)) (pa_cons (pe_op op_fdivG (pv 1) (pv 2)) pa_nil))))))), ?_⟩
    refine ⟨_, rfl, _, rfl, u, v, rfl, ?_⟩
    refine ⟨fun σ H1 => H1 = H ∧ σ = [some (.int u), some (.int v), some (.int (lowG u v))], ?_, fun σ H1 hM => ?_⟩
    · refine ⟨_, rfl, _, _, rfl, rfl, _, rfl, ite2 (fun e => ?_) (fun e => ?_)⟩
      · refine ⟨_, rfl, _, rfl, rfl, ?_⟩
        unfold lowG
        rw [if_pos (of_decide_eq_true e)]
        rfl
      · refine ⟨rfl, ?_⟩
        unfold lowG
        rw [if_neg (fun z => e (decide_eq_true z))]
        rfl
    · obtain ⟨rfl, rfl⟩ := hM
      have hG := lowG_ok (u := u) h0 h9
      exact ⟨_, rfl, _, rfl, _, _, rfl, rfl, hG, _, rfl, _, rfl, _, _, rfl, rfl, hG, two_line, q⟩
/-! ### sameness of data -/
def Leaf (v w : V) : Prop := v = w ∧ (v = .non ∨ (∃ b, v = .bl b) ∨ (∃ i, v = .int i) ∨ ∃ x, v = .str x)
def Eqd (H : Hp) : Nat → V → V → Prop
  | 0, v, w => Leaf v w
  | n + 1, v, w => Leaf v w ∨ ∃ (a b : Addr) (xs ys : List V), v = .ref a ∧ w = .ref b ∧ ((H a = some (.lst xs) ∧ H b = some (.lst ys)) ∨ (H a = some (.tup xs) ∧ H b = some (.tup ys))) ∧ xs.length = ys.length ∧ xs.length ≤ 1000 ∧
      ∀ (i : Nat) (x y : V), xs[i]? = some x → ys[i]? = some y → Eqd H n x y
theorem Eqd.leaf {H : Hp} {n : Nat} {v w : V} (h : Leaf v w) : Eqd H n v w := by
  cases n with
  | zero => exact h
  | succ n => exact .inl h
theorem Eqd.mono {H H' : Hp} (s : Same H H') : ∀ (n : Nat) {v w : V}, Eqd H n v w → Eqd H' n v w
  | 0, _, _, h => h
  | n + 1, _, _, h => by
    rcases h with h | ⟨a, b, xs, ys, e1, e2, h, l1, l2, r⟩
    · exact .inl h
    · refine .inr ⟨a, b, xs, ys, e1, e2, ?_, l1, l2, fun i x y h1 h2 => Eqd.mono s n (r i x y h1 h2)⟩
      rcases h with ⟨h1, h2⟩ | ⟨h1, h2⟩
      · exact .inl ⟨s _ _ h1, s _ _ h2⟩
      · exact .inr ⟨s _ _ h1, s _ _ h2⟩
def spSame (n : Nat) : Sp := fun vs H Q _ => ∃ v w : V, vs = [v, w] ∧ Eqd H n v w ∧ ∀ H', Same H H' → Q (.bl true) H'
def spS : Nat → Sp
  | 0 => fun _ _ _ _ => False
  | n + 1 => spSame n
theorem none_of_false {K : PySem.W.Frag} {f : Addr} {fd : FuncData} {st : Stmt} {x : Str} {N ps : List Str} (F : Fun K x x st f fd) (S : FnScope N ps (defScope st)) : FnOk P w K mg base CX0 1 f fd ps (fun _ _ _ _ => False) :=
  F.ok S (fun _ _ _ _ h => h.elim) fun _ _ _ _ _ _ _ _ _ h => h.elim
theorem kit2 {K : PySem.W.Frag} {a b c : String} {r1 r2 : Bool} (h1 : kitB a b = some r1) (h2 : kitB a c = some r2) : PySem.W.kitAny K (.type a) [.type b, .type c] = some (r1 || r2) := by
  cases r1 with
  | true => exact kitAny_cons (kit_ty h1) (fun h => nomatch h) fun _ => rfl
  | false =>
    refine kitAny_cons (kit_ty h1) (fun _ => ?_) fun h => nomatch h
    cases r2 with
    | true => exact kitAny_cons (kit_ty h2) (fun h => nomatch h) fun _ => rfl
    | false => exact kitAny_cons (kit_ty h2) (fun _ => kitAny_nil) fun h => nomatch h
theorem same_step (T : Txt K mg fa fd) (n : Nat) (G : FnOk P w K mg base CX0 (n + 1) (fa 23) (fd 23) ["_law_found", "_law_due"] (spS n)) : FnOk P w K mg base CX0 (n + 2) (fa 23) (fd 23) ["_law_found", "_law_due"] (spSame n) := by
  refine T.F_same.ok sc_same (fun vs H Q E h => ?_) (fun cdv A outer s H vs Q E hr h => ?_)
  · obtain ⟨x, y, rfl, _⟩ := h
    rfl
  · obtain ⟨x, y, rfl, hE, q⟩ := h
    refine ⟨_, (pss_cons (ps_if (pt_cmpR op_isN (pv 1) pe_non (nomark _)) (pss_one (ps_ret (pe_cmpR op_isN (pv 0) pe_non (nomark _)))) pss_nil)
      (pss_cons (ps_if (PW.pt (pw_or (pt_val (pe_callB call_isi (by rfl) T.m_isinstance PyProof.Rows.boot_isinstance (pa_cons (pv 1) (pa_cons (pe_bltn (v := .ty "bool") (by rfl) T.m_bool (by decide +kernel) rfl) pa_nil)))) (pw_or1 (pt_val (pe_callB call_isi (by rfl) T.m_isinstance PyProof.Rows.boot_isinstance (pa_cons (pv 0) (pa_cons (pe_bltn (v := .ty "bool") (by rfl) T.m_bool (by decide +kernel) rfl) pa_nil))))))) (pss_one (ps_ret (pe_and (pe_callB call_isi (by rfl) T.m_isinstance PyProof.Rows.boot_isinstance (pa_cons (pv 1) (pa_cons (pe_bltn (v := .ty "bool") (by rfl) T.m_bool (by decide +kernel) rfl) pa_nil))) (pe_and (pe_callB call_isi (by rfl) T.m_isinstance PyProof.Rows.boot_isinstance (pa_cons (pv 0) (pa_cons (pe_bltn (v := .ty "bool") (by rfl) T.m_bool (by decide +kernel) rfl) pa_nil))) (pe_one (pe_cmpR op_eq (pv 0) (pv 1) (nomark _))))))) pss_nil)
      (pss_cons (ps_if (pt_val (pe_callB call_isiT (by rfl) T.m_isinstance PyProof.Rows.boot_isinstance (pa_cons (pv 1) (pa_cons (pe_tup (pa_cons (pe_bltn (v := .ty "int") (by rfl) T.m_int (by decide +kernel) rfl) (pa_cons (pe_bltn (v := .ty "str") (by rfl) T.m_str (by decide +kernel) rfl) pa_nil))) pa_nil)))) (pss_one (ps_ret (pe_and (pe_callB call_isiT (by rfl) T.m_isinstance PyProof.Rows.boot_isinstance (pa_cons (pv 0) (pa_cons (pe_tup (pa_cons (pe_bltn (v := .ty "int") (by rfl) T.m_int (by decide +kernel) rfl) (pa_cons (pe_bltn (v := .ty "str") (by rfl) T.m_str (by decide +kernel) rfl) pa_nil))) pa_nil))) (pe_and (pe_cmpR op_eq (pe_callB call_isi (by rfl) T.m_isinstance PyProof.Rows.boot_isinstance (pa_cons (pv 0) (pa_cons (pe_bltn (v := .ty "int") (by rfl) T.m_int (by decide +kernel) rfl) pa_nil))) (pe_callB call_isi (by rfl) T.m_isinstance PyProof.Rows.boot_isinstance (pa_cons (pv 1) (pa_cons (pe_bltn (v := .ty "int") (by rfl) T.m_int (by decide +kernel) rfl) pa_nil))) (nomark _)) (pe_one (pe_cmpR op_eq (pv 0) (pv 1) (nomark _))))))) pss_nil)
      (pss_cons (ps_if (pt_val (pe_callB call_isi (by rfl) T.m_isinstance PyProof.Rows.boot_isinstance (pa_cons (pv 1) (pa_cons (pe_bltn (v := .ty "dict") (by rfl) T.m_dict (by decide +kernel) rfl) pa_nil)))) (pss_cons ps_never
      (pss_one ps_never)) pss_nil)
      (pss_cons (ps_if (PW.pt (pw_or (pt_cmpR op_ne (pe_callB call_isi (by rfl) T.m_isinstance PyProof.Rows.boot_isinstance (pa_cons (pv 1) (pa_cons (pe_bltn (v := .ty "list") (by rfl) T.m_list (by decide +kernel) rfl) pa_nil))) (pe_callB call_isi (by rfl) T.m_isinstance PyProof.Rows.boot_isinstance (pa_cons (pv 0) (pa_cons (pe_bltn (v := .ty "list") (by rfl) T.m_list (by decide +kernel) rfl) pa_nil))) (nomark _)) (pw_or1 (pt_cmpR op_ne (pe_callB call_isi (by rfl) T.m_isinstance PyProof.Rows.boot_isinstance (pa_cons (pv 1) (pa_cons (pe_bltn (v := .ty "tuple") (by rfl) T.m_tuple (by decide +kernel) rfl) pa_nil))) (pe_callB call_isi (by rfl) T.m_isinstance PyProof.Rows.boot_isinstance (pa_cons (pv 0) (pa_cons (pe_bltn (v := .ty "tuple") (by rfl) T.m_tuple (by decide +kernel) rfl) pa_nil))) (nomark _))))) (pss_one (ps_ret pe_bl)) pss_nil)
      (pss_one (ps_ret (pe_and (pe_cmpR op_eq (pe_callB call_len_seq (by rfl) T.m_len PySem.boot_len (pa_cons (pv 0) pa_nil)) (pe_callB call_len_seq (by rfl) T.m_len PySem.boot_len (pa_cons (pv 1) pa_nil)) (nomark _)) (pe_one (pe_callB (cr_all rfl) (by rfl) T.m_all PyProof.Rows.boot_all (pa_cons (pe_lc (own := [("_law_one", 3), ("_law_two", 4)]) (g := gTup K 2 (gCons (gName 3) (gCons (gName 4) gNil))) (tt := tYes) rfl sc_same.nd (RZ.pi_zipA (by rfl) T.m_zip (pa_cons (pv 0) (pa_cons (pv 1) pa_nil))) (blkOk_by (own := [("_law_one", 3), ("_law_two", 4)]) (N := ["_law_found", "_law_due", "_law_key", "_law_one", "_law_two"]) (sc := defScope s_same) (by decide +kernel)) (fun _ _ _ _ _ => pg_tup rfl (pgs_cons (pg_name (i := 3) sc_same.nd rfl (Or.inl rfl)) (pgs_cons (pg_name (i := 4) sc_same.nd rfl (Or.inl rfl)) pgs_nil))) (fun _ _ _ _ _ => pts_nil) (fun _ _ _ _ _ => (pe_call G (hr.mono (by omega)) (by rfl) T.g_same T.F_same.kp T.b_same .nil pass0 (pa_cons (pv 3) (pa_cons (pv 4) pa_nil))))) pa_nil))))))))))), ?_⟩
    have leafy : Leaf x y ∨ ∃ (n' : Nat) (a b : Addr) (xs ys : List V), n = n' + 1 ∧ x = .ref a ∧ y = .ref b ∧ ((H a = some (.lst xs) ∧ H b = some (.lst ys)) ∨ (H a = some (.tup xs) ∧ H b = some (.tup ys))) ∧ xs.length = ys.length ∧ xs.length ≤ 1000 ∧
        ∀ (i : Nat) (x y : V), xs[i]? = some x → ys[i]? = some y → Eqd H n' x y := by
      cases n with
      | zero => exact .inl hE
      | succ n' =>
        rcases hE with h | ⟨a, b, xs, ys, h⟩
        · exact .inl h
        · exact .inr ⟨n', a, b, xs, ys, rfl, h⟩
    rcases leafy with ⟨rfl, hl⟩ | ⟨n', a, b, xs, ys, rfl, rfl, rfl, hab, hlen, h1000, hsub⟩
    · refine ⟨_, rfl, rfl, _, rfl, ite2 (fun e => ?_) (fun e => ?_)⟩
      · have ex := of_decide_eq_true e
        subst ex
        exact ⟨_, rfl, rfl, q _ (Same.refl _)⟩
      · rcases hl with rfl | ⟨bb, rfl⟩ | ⟨i, rfl⟩ | ⟨z, rfl⟩
        · exact absurd (decide_eq_true rfl) e
        · refine ⟨_, rfl, _, _, _, _, _, rfl, .ty _, .base (.bl _), kit_ty (r := true) (by decide +kernel), _, rfl, iteT (iteT ?_)⟩
          refine ⟨_, rfl, _, _, _, _, _, rfl, .ty _, .base (.bl _), kit_ty (r := true) (by decide +kernel), _, rfl, iteT ?_⟩
          refine ⟨_, rfl, _, _, _, _, _, rfl, .ty _, .base (.bl _), kit_ty (r := true) (by decide +kernel), _, rfl, iteT ?_⟩
          refine ⟨_, rfl, _, rfl, rfl, ?_⟩
          rw [decide_eq_true rfl]
          exact q _ (Same.refl _)
        · refine ⟨_, rfl, _, _, _, _, _, rfl, .ty _, .base (.int _), kit_ty (r := false) (by decide +kernel), _, rfl, iteF ?_⟩
          refine ⟨_, rfl, _, _, _, _, _, rfl, .ty _, .base (.int _), kit_ty (r := false) (by decide +kernel), _, rfl, iteF ?_⟩
          refine ⟨_, rfl, two_line, fun p np => ?_⟩
          refine ⟨_, p, _, _, _, _, rfl, upd_same, .cons (.ty _) (.cons (.ty _) .nil), .base (.int _), kit2 (r1 := true) (r2 := false) (by decide +kernel) (by decide +kernel), _, rfl, iteT ?_⟩
          refine ⟨_, rfl, two_line, fun p2 np2 => ?_⟩
          refine ⟨_, p2, _, _, _, _, rfl, upd_same, .cons (.ty _) (.cons (.ty _) .nil), .base (.int _), kit2 (r1 := true) (r2 := false) (by decide +kernel) (by decide +kernel), _, rfl, iteT ?_⟩
          refine ⟨_, rfl, _, _, _, _, _, rfl, .ty _, .base (.int _), kit_ty (r := true) (by decide +kernel), ?_⟩
          refine ⟨_, rfl, _, _, _, _, _, rfl, .ty _, .base (.int _), kit_ty (r := true) (by decide +kernel), rfl, _, rfl, iteT ?_⟩
          refine ⟨_, rfl, _, rfl, rfl, ?_⟩
          rw [decide_eq_true rfl]
          exact q _ ((same_upd np).trans (same_upd np2))
        · refine ⟨_, rfl, _, _, _, _, _, rfl, .ty _, .base (.str _), kit_ty (r := false) (by decide +kernel), _, rfl, iteF ?_⟩
          refine ⟨_, rfl, _, _, _, _, _, rfl, .ty _, .base (.str _), kit_ty (r := false) (by decide +kernel), _, rfl, iteF ?_⟩
          refine ⟨_, rfl, two_line, fun p np => ?_⟩
          refine ⟨_, p, _, _, _, _, rfl, upd_same, .cons (.ty _) (.cons (.ty _) .nil), .base (.str _), kit2 (r1 := false) (r2 := true) (by decide +kernel) (by decide +kernel), _, rfl, iteT ?_⟩
          refine ⟨_, rfl, two_line, fun p2 np2 => ?_⟩
          refine ⟨_, p2, _, _, _, _, rfl, upd_same, .cons (.ty _) (.cons (.ty _) .nil), .base (.str _), kit2 (r1 := false) (r2 := true) (by decide +kernel) (by decide +kernel), _, rfl, iteT ?_⟩
          refine ⟨_, rfl, _, _, _, _, _, rfl, .ty _, .base (.str _), kit_ty (r := false) (by decide +kernel), ?_⟩
          refine ⟨_, rfl, _, _, _, _, _, rfl, .ty _, .base (.str _), kit_ty (r := false) (by decide +kernel), rfl, _, rfl, iteT ?_⟩
          refine ⟨_, rfl, _, rfl, rfl, ?_⟩
          rw [decide_eq_true rfl]
          exact q _ ((same_upd np).trans (same_upd np2))
    · refine ⟨_, rfl, rfl, _, rfl, ite2 (fun e => absurd (of_decide_eq_true e) (by intro z; cases z)) (fun e => ?_)⟩
      rcases hab with ⟨ha, hb⟩ | ⟨ha, hb⟩
      · refine ⟨_, rfl, _, _, _, _, _, rfl, .ty _, .base (.lst hb), kit_ty (r := false) (by decide +kernel), _, rfl, iteF ⟨_, rfl, _, _, _, _, _, rfl, .ty _, .base (.lst ha), kit_ty (r := false) (by decide +kernel), _, rfl, iteF ⟨_, rfl, two_line, fun p np => ?_⟩⟩⟩
        have s1 := same_upd (o := .tup [V.ty "int", V.ty "str"]) np
        refine ⟨_, p, _, _, _, _, rfl, upd_same, .cons (.ty _) (.cons (.ty _) .nil), .base (.lst (s1 _ _ hb)), kit2 (r1 := false) (r2 := false) (by decide +kernel) (by decide +kernel), _, rfl, iteF ?_⟩
        generalize upd H p (.tup [V.ty "int", V.ty "str"]) = H2 at s1
        have ha2 := s1 _ _ ha
        have hb2 := s1 _ _ hb
        refine ⟨_, rfl, _, _, _, _, _, rfl, .ty _, .base (.lst hb2), kit_ty (r := false) (by decide +kernel), _, rfl, iteF ?_⟩
        refine ⟨_, rfl, _, _, _, _, _, rfl, .ty _, .base (.lst hb2), kit_ty (r := true) (by decide +kernel), _, rfl, _, _, _, _, _, rfl, .ty _, .base (.lst ha2), kit_ty (r := true) (by decide +kernel), rfl, _, rfl, iteF ?_⟩
        refine ⟨_, rfl, _, _, _, _, _, rfl, .ty _, .base (.lst hb2), kit_ty (r := false) (by decide +kernel), _, rfl, _, _, _, _, _, rfl, .ty _, .base (.lst ha2), kit_ty (r := false) (by decide +kernel), rfl, _, rfl, iteF ?_⟩
        refine ⟨_, rfl, a, _, rfl, .inl (SqL.of ha2), _, rfl, b, _, rfl, .inl (SqL.of hb2), rfl, _, rfl, ?_⟩
        rw [hlen, decide_eq_true rfl]
        refine iteT ⟨_, rfl, _, rfl, a, b, xs, ys, rfl, .inl ⟨SqL.of ha2, SqL.of hb2, fun D nD => ?_⟩⟩
        refine ⟨fun i m H' => i + m = xs.length ∧ Same H2 H' ∧ H' D = some (.lst ((List.replicate i true).map V.bl)), ⟨xs.length, by omega, same_upd nD, upd_same⟩, fun i m H' hW => ?_⟩
        obtain ⟨hm, s2, hD⟩ := hW
        by_cases hi : i < xs.length
        · have hx : xs[i]? = some xs[i] := List.getElem?_eq_getElem hi
          have hy : ys[i]? = some ys[i] := List.getElem?_eq_getElem (by omega)
          refine .inr ⟨⟨_, _, _, _, SqL.of (s2 _ _ ha2), SqL.of (s2 _ _ hb2), hx, hy⟩, fun H'' => Same H2 H'' ∧ H'' D = some (.lst ((List.replicate (i + 1) true).map V.bl)), fun H'' h => ⟨m - 1, by omega, by omega, h⟩, fun v H'' hv => ?_⟩
          obtain ⟨T', x1, y1, rfl, nT, rfl, f1, f2⟩ := hv
          have ex : x1 = xs[i] := Option.some.inj ((f1 _ (SqL.of (s2 _ _ ha2))).symm.trans hx)
          have ey : y1 = ys[i] := Option.some.inj ((f2 _ (SqL.of (s2 _ _ hb2))).symm.trans hy)
          have s3 : Same H' (upd H' T' (.tup [x1, y1])) := same_upd nT
          refine ⟨T', [x1, y1], rfl, .inl (.inl upd_same), rfl, x1, [y1], rfl, y1, [], rfl, rfl, rfl, ?_⟩
          refine ⟨_, rfl, _, rfl, x1, y1, rfl, ?_, fun H4 s4 => ⟨_, s4 _ _ (s3 _ _ hD), ?_, ?_, ?_⟩⟩
          · subst ex ey
            exact Eqd.mono (s1.trans (s2.trans s3)) n' (hsub i _ _ hx hy)
          · rw [List.length_map, List.length_replicate]
            exact small1000 (by omega)
          · intro c o e
            rw [upd_ne (ne_of_none e nD)]
            exact s4 _ _ (s3 _ _ (s2 _ _ e))
          · rw [upd_same, List.replicate_succ', List.map_append]
            rfl
        · have ei : i = xs.length := by omega
          subst ei
          refine .inl ⟨⟨xs, ys, SqL.of (s2 _ _ ha2), SqL.of (s2 _ _ hb2), .inl (Nat.le_refl _)⟩, ?_⟩
          refine ⟨D, _, rfl, .inl (.inl hD), ?_⟩
          have all : ∀ k : Nat, (List.replicate k true).all id = true := fun k => by
            rw [List.all_replicate]
            split <;> rfl
          rw [all]
          exact q _ (s1.trans s2)
      · refine ⟨_, rfl, _, _, _, _, _, rfl, .ty _, .base (.tup hb), kit_ty (r := false) (by decide +kernel), _, rfl, iteF ⟨_, rfl, _, _, _, _, _, rfl, .ty _, .base (.tup ha), kit_ty (r := false) (by decide +kernel), _, rfl, iteF ⟨_, rfl, two_line, fun p np => ?_⟩⟩⟩
        have s1 := same_upd (o := .tup [V.ty "int", V.ty "str"]) np
        refine ⟨_, p, _, _, _, _, rfl, upd_same, .cons (.ty _) (.cons (.ty _) .nil), .base (.tup (s1 _ _ hb)), kit2 (r1 := false) (r2 := false) (by decide +kernel) (by decide +kernel), _, rfl, iteF ?_⟩
        generalize upd H p (.tup [V.ty "int", V.ty "str"]) = H2 at s1
        have ha2 := s1 _ _ ha
        have hb2 := s1 _ _ hb
        refine ⟨_, rfl, _, _, _, _, _, rfl, .ty _, .base (.tup hb2), kit_ty (r := false) (by decide +kernel), _, rfl, iteF ?_⟩
        refine ⟨_, rfl, _, _, _, _, _, rfl, .ty _, .base (.tup hb2), kit_ty (r := false) (by decide +kernel), _, rfl, _, _, _, _, _, rfl, .ty _, .base (.tup ha2), kit_ty (r := false) (by decide +kernel), rfl, _, rfl, iteF ?_⟩
        refine ⟨_, rfl, _, _, _, _, _, rfl, .ty _, .base (.tup hb2), kit_ty (r := true) (by decide +kernel), _, rfl, _, _, _, _, _, rfl, .ty _, .base (.tup ha2), kit_ty (r := true) (by decide +kernel), rfl, _, rfl, iteF ?_⟩
        refine ⟨_, rfl, a, _, rfl, .inr (SqT.of ha2), _, rfl, b, _, rfl, .inr (SqT.of hb2), rfl, _, rfl, ?_⟩
        rw [hlen, decide_eq_true rfl]
        refine iteT ⟨_, rfl, _, rfl, a, b, xs, ys, rfl, .inr ⟨SqT.of ha2, SqT.of hb2, fun D nD => ?_⟩⟩
        refine ⟨fun i m H' => i + m = xs.length ∧ Same H2 H' ∧ H' D = some (.lst ((List.replicate i true).map V.bl)), ⟨xs.length, by omega, same_upd nD, upd_same⟩, fun i m H' hW => ?_⟩
        obtain ⟨hm, s2, hD⟩ := hW
        by_cases hi : i < xs.length
        · have hx : xs[i]? = some xs[i] := List.getElem?_eq_getElem hi
          have hy : ys[i]? = some ys[i] := List.getElem?_eq_getElem (by omega)
          refine .inr ⟨⟨_, _, _, _, SqT.of (s2 _ _ ha2), SqT.of (s2 _ _ hb2), hx, hy⟩, fun H'' => Same H2 H'' ∧ H'' D = some (.lst ((List.replicate (i + 1) true).map V.bl)), fun H'' h => ⟨m - 1, by omega, by omega, h⟩, fun v H'' hv => ?_⟩
          obtain ⟨T', x1, y1, rfl, nT, rfl, f1, f2⟩ := hv
          have ex : x1 = xs[i] := Option.some.inj ((f1 _ (SqT.of (s2 _ _ ha2))).symm.trans hx)
          have ey : y1 = ys[i] := Option.some.inj ((f2 _ (SqT.of (s2 _ _ hb2))).symm.trans hy)
          have s3 : Same H' (upd H' T' (.tup [x1, y1])) := same_upd nT
          refine ⟨T', [x1, y1], rfl, .inl (.inl upd_same), rfl, x1, [y1], rfl, y1, [], rfl, rfl, rfl, ?_⟩
          refine ⟨_, rfl, _, rfl, x1, y1, rfl, ?_, fun H4 s4 => ⟨_, s4 _ _ (s3 _ _ hD), ?_, ?_, ?_⟩⟩
          · subst ex ey
            exact Eqd.mono (s1.trans (s2.trans s3)) n' (hsub i _ _ hx hy)
          · rw [List.length_map, List.length_replicate]
            exact small1000 (by omega)
          · intro c o e
            rw [upd_ne (ne_of_none e nD)]
            exact s4 _ _ (s3 _ _ (s2 _ _ e))
          · rw [upd_same, List.replicate_succ', List.map_append]
            rfl
        · have ei : i = xs.length := by omega
          subst ei
          refine .inl ⟨⟨xs, ys, SqT.of (s2 _ _ ha2), SqT.of (s2 _ _ hb2), .inl (Nat.le_refl _)⟩, ?_⟩
          refine ⟨D, _, rfl, .inl (.inl hD), ?_⟩
          have all : ∀ k : Nat, (List.replicate k true).all id = true := fun k => by
            rw [List.all_replicate]
            split <;> rfl
          rw [all]
          exact q _ (s1.trans s2)
theorem ok_same (T : Txt K mg fa fd) : ∀ n : Nat, FnOk P w K mg base CX0 (n + 1) (fa 23) (fd 23) ["_law_found", "_law_due"] (spS n)
  | 0 => none_of_false T.F_same sc_same
  | n + 1 => same_step T n (ok_same T n)
end
/-! ### more of lowest terms -/
theorem lowG_ne {u v : Int} (h : v ≠ 0) : lowG u v ≠ 0 := by
  have h1 := gcd_pos (u := u) h
  unfold lowG
  split <;> omega
theorem lowG_dvd_left (u v : Int) : lowG u v ∣ u := by
  unfold lowG
  split
  · exact Int.neg_dvd.mpr (Int.gcd_dvd_left _ _)
  · exact (Int.gcd_dvd_left _ _)
theorem lowG_dvd_right (u v : Int) : lowG u v ∣ v := by
  unfold lowG
  split
  · exact Int.neg_dvd.mpr (Int.gcd_dvd_right _ _)
  · exact (Int.gcd_dvd_right _ _)
theorem lowT_mul {u v : Int} (h : v ≠ 0) : u = lowG u v * lowT u v := by
  obtain ⟨t, ht⟩ := lowG_dvd_left u v
  unfold lowT
  generalize lowG u v = g at ht ⊢
  have hg : g ≠ 0 ∨ g = 0 := by omega
  rcases hg with hg | hg
  · rw [ht, Int.mul_fdiv_cancel_left _ hg]
  · rw [ht, hg, Int.zero_mul, Int.zero_mul]
theorem lowT_abs {u v : Int} (h : v ≠ 0) : (lowT u v).natAbs ≤ u.natAbs := by
  have e := lowT_mul (u := u) h
  have h2 : u.natAbs = (lowG u v).natAbs * (lowT u v).natAbs := by
    rw [← Int.natAbs_mul, ← e]
  have h3 : 1 ≤ (lowG u v).natAbs := by
    have := lowG_ne (u := u) h
    omega
  calc (lowT u v).natAbs = 1 * (lowT u v).natAbs := (Nat.one_mul _).symm
    _ ≤ (lowG u v).natAbs * (lowT u v).natAbs := Nat.mul_le_mul_right _ h3
    _ = u.natAbs := h2.symm
theorem lowD_mul {u v : Int} (h : v ≠ 0) : v = lowG u v * lowD u v := by
  obtain ⟨t, ht⟩ := lowG_dvd_right u v
  have hg := lowG_ne (u := u) h
  unfold lowD
  generalize lowG u v = g at ht hg ⊢
  rw [ht, Int.mul_fdiv_cancel_left _ hg]
theorem lowD_abs {u v : Int} (h : v ≠ 0) : (lowD u v).natAbs ≤ v.natAbs := by
  have e := lowD_mul (u := u) h
  have h2 : v.natAbs = (lowG u v).natAbs * (lowD u v).natAbs := by
    rw [← Int.natAbs_mul, ← e]
  have h3 : 1 ≤ (lowG u v).natAbs := by
    have := lowG_ne (u := u) h
    omega
  calc (lowD u v).natAbs = 1 * (lowD u v).natAbs := (Nat.one_mul _).symm
    _ ≤ (lowG u v).natAbs * (lowD u v).natAbs := Nat.mul_le_mul_right _ h3
    _ = v.natAbs := h2.symm
theorem lowD_pos {u v : Int} (h : v ≠ 0) : 0 < lowD u v := by
  have e := lowD_mul (u := u) h
  have h1 := gcd_pos (u := u) h
  have key : ∀ g d : Int, v = g * d → (0 < g ∧ 0 < v) ∨ (g < 0 ∧ v < 0) → 0 < d := fun g d ev hh => by
    rcases Int.lt_trichotomy d 0 with hd | hd | hd
    · rcases hh with ⟨h1, h2⟩ | ⟨h1, h2⟩
      · have := Int.mul_neg_of_pos_of_neg h1 hd
        omega
      · have := Int.mul_pos_of_neg_of_neg h1 hd
        omega
    · rw [hd, Int.mul_zero] at ev
      omega
    · exact hd
  refine key _ _ e ?_
  unfold lowG
  split
  · exact .inr ⟨by omega, by assumption⟩
  · exact .inl ⟨by omega, by omega⟩
/-! ### texts of fractions: the plain mathematics -/
abbrev dig (c : Nat) : Bool := decide (48 ≤ c) && decide (c ≤ 57)
def isD (a : List Nat) : Bool := !a.isEmpty && a.all dig
def bodyM : List Nat → Bool
  | 45 :: _ => true
  | _ => false
def bodyL : List Nat → List Nat
  | 45 :: r => r
  | a => a
def cutL (a : List Nat) : List Nat × Bool × List Nat := match TL.par [47] [] a with
  | some (p, q) => (p, true, q)
  | none => (a, false, [])
def txtL (n d : Int) : List Nat := (if n < 0 then [45] else []) ++ (TL.numL n.natAbs ++ (if d = 1 then [] else 47 :: TL.numL d.natAbs))
def progN (t : List Nat) : Int := if bodyM t then -((NumText.digitsVal (cutL (bodyL t)).1 : Nat) : Int) else (NumText.digitsVal (cutL (bodyL t)).1 : Nat)
def progD (t : List Nat) : Int := if (cutL (bodyL t)).2.1 then ((NumText.digitsVal (cutL (bodyL t)).2.2 : Nat) : Int) else 1
def progR (t : List Nat) : Option (Int × Int) :=
  if !isD (cutL (bodyL t)).1 || ((cutL (bodyL t)).2.1 && !isD (cutL (bodyL t)).2.2) then none
  else if progD t = 0 then none
  else if txtL (lowT (progN t) (progD t)) (lowD (progN t) (progD t)) = t then some (lowT (progN t) (progD t), lowD (progN t) (progD t)) else none
def goodW (p : List Nat) : Bool := isD p && !(decide (1 < p.length) && p.head? == some 48)
def lawR (t : List Nat) : Option (Int × Int) :=
  if !goodW (cutL (bodyL t)).1 || ((cutL (bodyL t)).2.1 && !goodW (cutL (bodyL t)).2.2) then none
  else if ((cutL (bodyL t)).2.1 = true ∧ progD t < 2 ∨ Int.gcd (progN t) (progD t) ≠ 1) ∨ bodyM t = true ∧ progN t = 0 then none
  else some (progN t, progD t)
theorem gcd_low {u v : Int} (h : v ≠ 0) : Int.gcd (lowT u v) (lowD u v) = 1 := by
  have e1 := lowT_mul (u := u) h
  have e2 := lowD_mul (u := u) h
  have g0 := gcd_pos (u := u) h
  have e : Int.gcd u v = (lowG u v).natAbs * Int.gcd (lowT u v) (lowD u v) := by
    rw [← Int.gcd_mul_left, ← e1, ← e2]
  have hg : (lowG u v).natAbs = Int.gcd u v := by
    unfold lowG
    split <;> omega
  rw [hg] at e
  generalize Int.gcd (lowT u v) (lowD u v) = m at e
  generalize Int.gcd u v = g at e g0
  have : g * 1 = g * m := by rw [Nat.mul_one]; exact e
  exact (Nat.eq_of_mul_eq_mul_left g0 this).symm
theorem low_one {u v : Int} (h : 0 < v) (g : Int.gcd u v = 1) : lowT u v = u ∧ lowD u v = v := by
  have hG : lowG u v = 1 := by
    unfold lowG
    rw [if_neg (by omega), g]
    rfl
  unfold lowT lowD
  rw [hG]
  exact ⟨Int.fdiv_one u, Int.fdiv_one v⟩
theorem all_dig {a : List Nat} : a.all dig = true ↔ NumText.AllDigits a := by
  rw [List.all_eq_true]
  constructor
  · intro h c hc
    have z := h c hc
    unfold dig at z
    rw [Bool.and_eq_true, decide_eq_true_eq, decide_eq_true_eq] at z
    exact z
  · intro h c hc
    have z := h c hc
    unfold dig
    rw [Bool.and_eq_true, decide_eq_true_eq, decide_eq_true_eq]
    exact z
theorem isD_num (n : Nat) : isD (TL.numL n) = true := by
  unfold isD
  rw [Bool.and_eq_true]
  refine ⟨?_, all_dig.mpr (TL.numL_digits n)⟩
  have h := TL.numL_ne n
  cases e : TL.numL n with
  | nil => exact absurd e h
  | cons c r => rfl
theorem isD_iff {a : List Nat} : isD a = true ↔ a ≠ [] ∧ NumText.AllDigits a := by
  unfold isD
  rw [Bool.and_eq_true, all_dig]
  cases a with
  | nil => simp
  | cons c r => simp
theorem nat_char {c : Nat} (h : 48 ≤ c ∧ c ≤ 57) : (Char.ofNat c).toNat = c := by
  have : ∀ c : Nat, c ≤ 57 → 48 ≤ c → (Char.ofNat c).toNat = c := by decide
  exact this c h.2 h.1
theorem num_good {p : List Nat} (h : goodW p = true) : TL.numL (NumText.digitsVal p) = p := by
  unfold goodW at h
  rw [Bool.and_eq_true, isD_iff] at h
  obtain ⟨⟨h1, h2⟩, h3⟩ := h
  have back : ∀ l : List Nat, NumText.AllDigits l → (l.map Char.ofNat).map Char.toNat = l := fun l hl => by
    rw [List.map_map]
    conv => rhs; rw [← List.map_id l]
    exact List.map_congr_left fun c hc => nat_char (hl c hc)
  unfold TL.numL
  rw [NumText.toDigits_all p h2]
  cases p with
  | nil => exact absurd rfl h1
  | cons c r =>
    by_cases e : c = 48
    · subst e
      cases r with
      | nil => rfl
      | cons d r =>
        simp at h3
    · rw [List.dropWhile_cons, if_neg (by rw [beq_iff_eq]; exact e)]
      exact back (c :: r) h2
theorem numL_zero : TL.numL 0 = [48] := TL.numL_lt (by decide)
theorem numL_head {n : Nat} (h : 0 < n) : ∀ c r, TL.numL n = c :: r → 49 ≤ c := by
  induction n using Nat.strongRecOn with
  | _ n ih =>
    intro c r e
    by_cases hn : n < 10
    · rw [TL.numL_lt hn] at e
      injection e with e1 e2
      omega
    · rw [TL.numL_step (by omega)] at e
      cases e2 : TL.numL (n / 10) with
      | nil => exact absurd e2 (TL.numL_ne _)
      | cons c' r' =>
        rw [e2, List.cons_append] at e
        injection e with e3 e4
        have := ih (n / 10) (by omega) (by omega) c' r' e2
        omega
theorem good_num (n : Nat) : goodW (TL.numL n) = true := by
  unfold goodW
  rw [Bool.and_eq_true]
  refine ⟨isD_num n, ?_⟩
  by_cases h : n = 0
  · subst h
    rw [numL_zero]
    rfl
  · cases e : TL.numL n with
    | nil => exact absurd e (TL.numL_ne n)
    | cons c r =>
      have := numL_head (Nat.pos_of_ne_zero h) c r e
      have : (List.head? (c :: r) == some 48) = false := by
        show (some c == some 48) = false
        rw [beq_eq_false_iff_ne]
        intro z
        injection z with z
        omega
      rw [this]
      simp
theorem body_at (t : List Nat) : t = (if bodyM t then [45] else []) ++ bodyL t := by
  unfold bodyM bodyL
  split <;> simp_all
theorem body_minus (b : List Nat) : bodyM (45 :: b) = true ∧ bodyL (45 :: b) = b := ⟨rfl, rfl⟩
theorem body_num (n : Nat) (r : List Nat) : bodyM (TL.numL n ++ r) = false ∧ bodyL (TL.numL n ++ r) = TL.numL n ++ r := by
  cases e : TL.numL n with
  | nil => exact absurd e (TL.numL_ne n)
  | cons c l =>
    have hc : c ≠ 45 := by
      intro z
      have := TL.numL_free (n := n) (s := 45) (.inl (by decide))
      rw [e, z] at this
      exact this List.mem_cons_self
    rw [List.cons_append]
    unfold bodyM bodyL
    constructor
    · split
      · rename_i h
        injection h with h1 h2
        exact absurd h1 hc
      · rfl
    · split
      · rename_i h
        injection h with h1 h2
        exact absurd h1 hc
      · rfl
theorem cut_at (a : List Nat) : a = (cutL a).1 ++ (if (cutL a).2.1 then 47 :: (cutL a).2.2 else []) := by
  by_cases h : 47 ∈ a
  · obtain ⟨p, q, e, hp⟩ := List.eq_append_cons_of_mem h
    subst e
    have := SX.par_head (sep := []) q hp
    unfold cutL
    rw [show p ++ 47 :: q = p ++ (47 :: [] ++ q) from rfl, this]
    rfl
  · have := SX.par_head_none (c := 47) (sep := []) h
    unfold cutL
    rw [this]
    simp
theorem cut_num (n : Nat) : cutL (TL.numL n) = (TL.numL n, false, []) := by
  have := SX.par_head_none (c := 47) (sep := []) (p := TL.numL n) (TL.numL_free (.inl (by decide)))
  unfold cutL
  rw [this]
theorem cut_num2 (n : Nat) (q : List Nat) : cutL (TL.numL n ++ 47 :: q) = (TL.numL n, true, q) := by
  have := SX.par_head (c := 47) (sep := []) (p := TL.numL n) q (TL.numL_free (.inl (by decide)))
  unfold cutL
  rw [show TL.numL n ++ 47 :: q = TL.numL n ++ (47 :: [] ++ q) from rfl, this]
theorem parse_txt (n d : Int) (hd : 0 < d) : bodyM (txtL n d) = decide (n < 0) ∧ (cutL (bodyL (txtL n d))).1 = TL.numL n.natAbs ∧ (cutL (bodyL (txtL n d))).2.1 = decide (d ≠ 1) ∧ (d ≠ 1 → (cutL (bodyL (txtL n d))).2.2 = TL.numL d.natAbs) := by
  have hb : bodyM (txtL n d) = decide (n < 0) ∧ bodyL (txtL n d) = TL.numL n.natAbs ++ (if d = 1 then [] else 47 :: TL.numL d.natAbs) := by
    unfold txtL
    by_cases h : n < 0
    · rw [if_pos h, decide_eq_true h]
      exact body_minus _
    · rw [if_neg h, decide_eq_false h, List.nil_append]
      exact body_num _ _
  rw [hb.2]
  refine ⟨hb.1, ?_⟩
  by_cases h : d = 1
  · rw [if_pos h, List.append_nil, cut_num]
    exact ⟨rfl, (decide_eq_false (fun z => z h)).symm, fun z => absurd h z⟩
  · rw [if_neg h, cut_num2]
    exact ⟨rfl, (decide_eq_true h).symm, fun _ => rfl⟩
/-- the text's parts are those of the fraction -/
theorem parse_val (n d : Int) (hd : 0 < d) : progN (txtL n d) = n ∧ progD (txtL n d) = d := by
  obtain ⟨h1, h2, h3, h4⟩ := parse_txt n d hd
  unfold progN progD
  rw [h1, h2, h3, TL.numL_val]
  constructor
  · by_cases h : n < 0
    · rw [decide_eq_true h, if_pos rfl]
      omega
    · rw [decide_eq_false h, if_neg (by decide)]
      omega
  · by_cases h : d = 1
    · rw [decide_eq_false (fun z => z h), if_neg (by decide), h]
    · rw [decide_eq_true h, if_pos rfl, h4 h, TL.numL_val]
      omega
theorem law_txt (n d : Int) (hd : 0 < d) (g : Int.gcd n d = 1) : lawR (txtL n d) = some (n, d) := by
  obtain ⟨h1, h2, h3, h4⟩ := parse_txt n d hd
  obtain ⟨e1, e2⟩ := parse_val n d hd
  unfold lawR
  rw [e1, e2, h1, h2, h3, good_num]
  have c1 : ((!true) || (decide (d ≠ 1) && !goodW (cutL (bodyL (txtL n d))).2.2)) = false := by
    by_cases h : d = 1
    · rw [decide_eq_false (fun z => z h)]
      rfl
    · rw [h4 h, good_num]
      simp
  rw [c1, if_neg (by decide), if_neg ?_]
  rintro ((⟨z1, z2⟩ | z) | ⟨z1, z2⟩)
  · have := of_decide_eq_true z1
    omega
  · exact z g
  · have := of_decide_eq_true z1
    omega
theorem prog_txt (n d : Int) (hd : 0 < d) (g : Int.gcd n d = 1) : progR (txtL n d) = some (n, d) := by
  obtain ⟨h1, h2, h3, h4⟩ := parse_txt n d hd
  obtain ⟨e1, e2⟩ := parse_val n d hd
  obtain ⟨l1, l2⟩ := low_one hd g
  unfold progR
  rw [e1, e2, h2, h3, isD_num, l1, l2]
  have c1 : ((!true) || (decide (d ≠ 1) && !isD (cutL (bodyL (txtL n d))).2.2)) = false := by
    by_cases h : d = 1
    · rw [decide_eq_false (fun z => z h)]
      rfl
    · rw [h4 h, isD_num]
      simp
  rw [c1, if_neg (by decide), if_neg (by omega), if_pos rfl]
theorem prog_some {t : List Nat} {f : Int × Int} (h : progR t = some f) : t = txtL f.1 f.2 ∧ 0 < f.2 ∧ Int.gcd f.1 f.2 = 1 := by
  unfold progR at h
  split at h
  · cases h
  · split at h
    · cases h
    · rename_i h0
      split at h
      · rename_i e
        cases h
        exact ⟨e.symm, lowD_pos h0, gcd_low h0⟩
      · cases h
theorem law_some {t : List Nat} {f : Int × Int} (h : lawR t = some f) : t = txtL f.1 f.2 ∧ 0 < f.2 ∧ Int.gcd f.1 f.2 = 1 := by
  unfold lawR at h
  split at h
  · cases h
  · rename_i h1
    split at h
    · cases h
    · rename_i h2
      cases h
      have k1 : goodW (cutL (bodyL t)).1 = true := by
        cases e : goodW (cutL (bodyL t)).1
        · rw [e] at h1
          exact absurd rfl h1
        · rfl
      have k2 : (cutL (bodyL t)).2.1 = true → goodW (cutL (bodyL t)).2.2 = true := fun z => by
        cases e : goodW (cutL (bodyL t)).2.2
        · rw [e, z, k1] at h1
          exact absurd rfl h1
        · rfl
      have g1 : Int.gcd (progN t) (progD t) = 1 := by
        by_cases z : Int.gcd (progN t) (progD t) = 1
        · exact z
        · exact absurd (.inl (.inr z)) h2
      have d2 : (cutL (bodyL t)).2.1 = true → 2 ≤ progD t := fun z => by
        have : ¬ progD t < 2 := fun y => h2 (.inl (.inl ⟨z, y⟩))
        omega
      have m2 : bodyM t = true → progN t ≠ 0 := fun z y => h2 (.inr ⟨z, y⟩)
      have hd : 0 < progD t := by
        cases e : (cutL (bodyL t)).2.1
        · unfold progD
          rw [e, if_neg (by decide)]
          omega
        · have := d2 e
          omega
      refine ⟨?_, hd, g1⟩
      have p1 := num_good k1
      show t = txtL (progN t) (progD t)
      have sg : (if progN t < 0 then [45] else []) = (if bodyM t then [45] else ([] : List Nat)) := by
        cases e : bodyM t
        · have : ¬ progN t < 0 := by
            unfold progN
            rw [e]
            simp
          rw [if_neg this]
          rfl
        · have y := m2 e
          have : progN t < 0 := by
            unfold progN at y ⊢
            rw [e, if_pos rfl] at y ⊢
            omega
          rw [if_pos this]
          rfl
      have an : (progN t).natAbs = NumText.digitsVal (cutL (bodyL t)).1 := by
        unfold progN
        split <;> omega
      have sd : (if progD t = 1 then [] else 47 :: TL.numL (progD t).natAbs) = (if (cutL (bodyL t)).2.1 then 47 :: (cutL (bodyL t)).2.2 else []) := by
        cases e : (cutL (bodyL t)).2.1
        · have : progD t = 1 := by
            unfold progD
            rw [e]
            rfl
          rw [if_pos this]
          rfl
        · have y := d2 e
          have z : (progD t).natAbs = NumText.digitsVal (cutL (bodyL t)).2.2 := by
            unfold progD
            rw [e, if_pos rfl]
            omega
          rw [if_neg (by omega), z, num_good (k2 e)]
          rfl
      unfold txtL
      rw [sg, an, p1, sd, ← cut_at, ← body_at]
theorem prog_law (t : List Nat) : progR t = lawR t := by
  cases h : progR t with
  | some f =>
    obtain ⟨e, hd, g⟩ := prog_some h
    rw [e, law_txt f.1 f.2 hd g]
  | none =>
    cases h2 : lawR t with
    | none => rfl
    | some f =>
      obtain ⟨e, hd, g⟩ := law_some h2
      rw [e, prog_txt f.1 f.2 hd g] at h
      cases h
/-! ### the texts' own words on lists of signs -/
theorem dash : (Str.ofString "-" : Str) = SX.S [45] := by decide +kernel
theorem stroke : (Str.ofString "/" : Str) = SX.S [47] := by decide +kernel
theorem nought : (Str.ofString "0" : Str) = SX.S [48] := by decide +kernel
theorem emptyS : (Str.ofString "" : Str) = SX.S [] := by decide +kernel
theorem uni_dig : ∀ c : Nat, c < 128 → Unicode.isDigit c = dig c := by decide +kernel
theorem ascii_dig (a : List Nat) : (Txt.isascii (SX.S a) && Txt.isdigit (SX.S a)) = isD a := by
  have e1 : Txt.isascii (SX.S a) = a.all (fun c => decide (c < 128)) := by
    unfold Txt.isascii
    rw [← Array.all_toList]
  have e2 : Txt.isdigit (SX.S a) = (!a.isEmpty && a.all Unicode.isDigit) := by
    unfold Txt.isdigit
    rw [← Array.all_toList, SX.S_len]
    cases a <;> rfl
  rw [e1, e2]
  unfold isD
  cases h : a.all (fun c => decide (c < 128))
  · cases h2 : a.all dig
    · simp
    · exfalso
      have h3 := all_dig.mp h2
      have : a.all (fun c => decide (c < 128)) = true := List.all_eq_true.mpr fun c hc => decide_eq_true (by have := h3 c hc; omega)
      rw [h] at this
      cases this
  · have h3 := List.all_eq_true.mp h
    have : a.all Unicode.isDigit = a.all dig := by
      rw [Bool.eq_iff_iff, List.all_eq_true, List.all_eq_true]
      exact ⟨fun q c hc => by rw [← uni_dig c (of_decide_eq_true (h3 c hc))]; exact q c hc, fun q c hc => by rw [uni_dig c (of_decide_eq_true (h3 c hc))]; exact q c hc⟩
    rw [this]
    rfl
theorem sub_one (c : Nat) (r : List Nat) : PySem.Builtin.Str.subAt (SX.S (c :: r)) (SX.S [45]) 0 = decide (c = 45) := by
  have e : (SX.S (c :: r)).cps.extract 0 (0 + (SX.S [45]).length) = [c].toArray := by
    rw [SX.S_len]
    simp [List.extract]
  show ((SX.S (c :: r)).cps.extract 0 (0 + (SX.S [45]).length) == (SX.S [45]).cps) = _
  rw [e]
  by_cases h : c = 45
  · subst h
    rfl
  · rw [decide_eq_false h, beq_eq_false_iff_ne]
    intro z
    exact h (List.cons.inj (congrArg Array.toList z)).1
theorem starts_minus (a : List Nat) : Txt.startswith (SX.S a) (SX.S [45]) = bodyM a := by
  cases a with
  | nil => rfl
  | cons c r =>
    unfold Txt.startswith
    rw [sub_one, SX.S_len, SX.S_len]
    have : decide (0 + [45].length ≤ (c :: r).length) = true := decide_eq_true (by simp)
    rw [this, Bool.true_and]
    unfold bodyM
    split
    · rename_i h
      injection h with h1 h2
      rw [h1]
      rfl
    · rename_i h
      exact decide_eq_false fun z => h r (by rw [z])
theorem rem_minus (a : List Nat) : Txt.removeprefix (SX.S a) (SX.S [45]) = SX.S (bodyL a) := by
  have e := eq_of_beq (PyProof.Rows.removeprefix_closes (SX.S a) (SX.S [45]))
  have e2 := starts_minus a
  unfold Txt.startswith at e2
  rw [e2] at e
  rw [e, SX.S_len, SX.S_len]
  cases a with
  | nil => rfl
  | cons c r =>
    cases h : bodyM (c :: r)
    · rw [if_neg (by decide)]
      unfold bodyM at h
      unfold bodyL
      split at h
      · cases h
      · rfl
    · rw [if_pos rfl]
      unfold bodyM at h
      split at h
      · rename_i h1
        injection h1 with h1 h2
        subst h1 h2
        unfold bodyL
        refine TL.ext_tl ?_
        show (((45 :: r).drop ((([45] : List Nat).length : Nat) : Int).toNat).take ((((45 :: r).length : Nat) : Int) - ((([45] : List Nat).length : Nat) : Int)).toNat) = r
        have : ((([45] : List Nat).length : Nat) : Int).toNat = 1 := rfl
        rw [this, List.drop_one, List.tail_cons]
        exact List.take_of_length_le (by simp only [List.length_cons, List.length_nil]; omega)
      · cases h
theorem cut_S (a : List Nat) : Txt.partition (SX.S a) (SX.S [47]) = (SX.S (cutL a).1, SX.S (if (cutL a).2.1 then [47] else []), SX.S (cutL a).2.2) := by
  unfold cutL
  cases h : TL.par [47] [] a with
  | none => exact SX.partition_none (by simp) h
  | some pq =>
    obtain ⟨p, q⟩ := pq
    exact SX.partition_some (by simp) h
section
variable {P : Program} {w : World} {K : PySem.W.Frag} {mg : Str → Option Value} {base : Heap} {fa : Nat → Addr} {fd : Nat → FuncData}
/-! ### ParseError; texts of numbers -/
theorem scPE : FnScope ["self", "at"] ["self", "at"] (defScope (inClass (topS 3) 0)) := ⟨rfl, rfl, rfl, by decide +kernel, rfl, by decide +kernel, by decide +kernel⟩
theorem ok_ParseError (T : Txt K mg fa fd) : FnOk P w K mg base CX0 1 (fa 1003) (fd 1003) ["self", "at"] (spInit1 K "at" "ParseError") := by
  refine T.IParseError.ok scPE (fun vs H Q E h => ?_) (fun cdv A outer s H vs Q E hr h => ?_)
  · obtain ⟨a, C, v, rfl, _⟩ := h
    rfl
  · obtain ⟨a, C, v, rfl, hC, h1, h2, ha, q⟩ := h
    refine ⟨_, pss_cons (ps_ost (pv 0) (pv 1)) (pss_one (ps_ost (pv 0) pe_str)), ?_⟩
    refine ⟨_, rfl, _, rfl, a, C, rfl, hC, h1, .inl ⟨ha, fun dx nd ne => ?_⟩⟩
    refine ⟨_, rfl, a, C, rfl, hC, h2, .inr ⟨dx, _, upd_same, ?_, by show 1 ≤ 900; decide, q dx nd ne⟩⟩
    rw [upd_ne ne, upd_same]
theorem small_line {n : Nat} (h : n ≤ 1000) : n ≤ sizeLine := Nat.le_trans h (Nat.le_of_lt (small1000 (Nat.le_refl _)))
def spIsD : Sp := fun vs H Q _ => ∃ a : List Nat, vs = [.str (SX.S a)] ∧ Q (.bl (isD a)) H
theorem ok_p_is_digits (T : Txt K mg fa fd) : FnOk P w K mg base CX0 1 (fa 13) (fd 13) ["text"] spIsD := by
  refine T.F_p_is_digits.ok sc_p_is_digits (fun vs H Q E h => ?_) (fun cdv A outer s H vs Q E hr h => ?_)
  · obtain ⟨a, rfl, _⟩ := h
    rfl
  · obtain ⟨a, rfl, q⟩ := h
    refine ⟨_, (pss_one (ps_ret (pe_and (pe_m0 PySem.F.slot_str_isascii PySem.F.type_str_isascii mt_isascii (pv 0) (by rfl) (by rfl)) (pe_one (pe_m0 PySem.F.slot_str_isdigit PySem.F.type_str_isdigit mt_isdigit (pv 0) (by rfl) (by rfl)))))), ?_⟩
    rw [← ascii_dig] at q
    refine ⟨_, rfl, ⟨_, rfl⟩, _, rfl, rfl, trivial, ?_⟩
    cases h : Txt.isascii (SX.S a)
    · rw [h] at q
      exact ⟨_, rfl, q⟩
    · rw [h] at q
      exact ⟨_, rfl, _, rfl, ⟨_, rfl⟩, _, rfl, rfl, trivial, q⟩
def intL (n : Int) : List Nat := (if n < 0 then [45] else []) ++ TL.numL n.natAbs
theorem abs_nat (z : Int) : (if z < 0 then -z else z) = (z.natAbs : Int) := by split <;> omega
theorem log_of {n : Nat} (h : n < 10 ^ 62) : n.log2 < 1920 := by
  by_cases h0 : n = 0
  · subst h0
    decide
  · rw [Nat.log2_lt h0]
    exact Nat.lt_trans h (by decide +kernel)
def spNumT : Sp := fun vs H Q _ => ∃ n : Int, vs = [.int n] ∧ n.natAbs < 10 ^ 62 ∧ ∀ H', Same H H' → Q (.str (SX.S (intL n))) H'
theorem ok_p_number_text (T : Txt K mg fa fd) : FnOk P w K mg base CX0 1 (fa 14) (fd 14) ["number"] spNumT := by
  refine T.F_p_number_text.ok sc_p_number_text (fun vs H Q E h => ?_) (fun cdv A outer s H vs Q E hr h => ?_)
  · obtain ⟨a, rfl, _⟩ := h
    rfl
  · obtain ⟨n, rfl, hn, q⟩ := h
    refine ⟨_, (pss_cons (ps_set (i := 1) sc_p_number_text.nd rfl (.inl rfl) (pe_callB call_abs (by rfl) T.m_abs PyProof.Rows.boot_abs (pa_cons (pv 0) pa_nil)))
      (pss_cons (ps_set (i := 2) sc_p_number_text.nd rfl (.inl rfl) (pe_lst pa_nil))
      (pss_cons (ps_while PassesOwn.never (pt_cmpR op_ge (pv 1) (pe_op op_pow pe_int pe_int) (nomark _)) (pss_cons ps_never
      (pss_one ps_never)))
      (pss_cons (ps_expr (pe_bm PySem.F.plainAttrs_list PySem.F.slot_list_append PySem.F.type_list_append mt_append (pv 2) (pa_cons (pe_callTy call_str_int (by rfl) T.m_str (by decide +kernel) (pa_cons (pv 1) pa_nil)) pa_nil)))
      (pss_cons (ps_if (pt_cmpR op_lt (pv 0) pe_int (nomark _)) (pss_one (ps_expr (pe_bm PySem.F.plainAttrs_list PySem.F.slot_list_append PySem.F.type_list_append mt_append (pv 2) (pa_cons pe_str pa_nil)))) pss_nil)
      (pss_one (ps_ret (pe_m1 PySem.F.slot_str_join PySem.F.type_str_join mt_join pe_str (pe_revL (pv 2)) (by rfl) (by rfl) (by rfl))))))))), ?_⟩
    refine ⟨_, rfl, _, rfl, Nat.zero_le _, fun p hp => ?_⟩
    refine ⟨fun m σ H1 => σ = [some (.int n), some (.int (n.natAbs : Int)), some (.ref p), none] ∧ H1 = upd H p (.lst []), ⟨0, by rw [← abs_nat]; rfl, rfl⟩, fun m σ H1 hW => ?_⟩
    obtain ⟨rfl, rfl⟩ := hW
    refine ⟨_, rfl, _, _, rfl, rfl, ⟨by decide, by decide, by decide⟩, _, _, rfl, rfl, _, rfl, ite2 (fun e => ?_) (fun e => ?_)⟩
    · exfalso
      have h1 : (10 : Int) ^ 64 ≤ n.natAbs := of_decide_eq_true e
      have h2 : (n.natAbs : Int) < (10 : Int) ^ 62 := by exact_mod_cast hn
      exact absurd (Int.lt_of_lt_of_le h2 (by decide +kernel : (10 : Int) ^ 62 ≤ 10 ^ 64)) (Int.not_lt.mpr h1)
    · refine ⟨_, rfl, .inl ⟨rfl, _, SqL.of upd_same⟩, _, rfl, _, rfl, log_of hn, p, _, _, rfl, rfl, upd_same, small_line (by show 1 ≤ 1000; decide), ?_⟩
      have sm : ∀ {H1 : Hp} (ys : List V), Same H H1 → Same H (upd H1 p (.lst ys)) := fun ys h1 b u e => by
        rw [upd_ne (ne_of_none e hp)]
        exact h1 b u e
      have sn : ∀ {H1 : Hp} {p2 : Addr} {o : HO}, Same H H1 → H1 p2 = none → Same H (upd H1 p2 o) := fun {H1 p2 o} h1 h2 b u e => by
        rw [upd_ne (ne_of_none (h1 b u e) h2)]
        exact h1 b u e
      have s0 : Same H H := fun b u e => e
      have num : ∀ k : Nat, Str.ofString (toString ((k : Nat) : Int)) = SX.S (TL.numL k) := SX.num_S
      have l63 : (TL.numL n.natAbs).length ≤ 62 := TL.numL_len (by decide) hn
      refine ⟨_, rfl, _, _, rfl, rfl, _, rfl, ite2 (fun e => ?_) (fun e => ?_)⟩
      · refine ⟨_, rfl, .inl ⟨rfl, _, SqL.of upd_same⟩, p, _, _, rfl, rfl, upd_same, small_line (by show 2 ≤ 1000; decide), ?_⟩
        refine ⟨⟨_, rfl⟩, _, rfl, p, _, rfl, SqL.of upd_same, fun p2 hp2 => ⟨_, p2, [Str.ofString "-", Str.ofString (toString (n.natAbs : Int))], rfl, rfl, .inl (SqL.of upd_same), ?_, ?_⟩⟩
        · rw [num, dash, emptyS]
          show (SX.S [45]).length + ((SX.S (TL.numL n.natAbs)).length + 0) + 2 * (SX.S []).length ≤ 16777216
          rw [SX.S_len, SX.S_len, SX.S_len]
          show 1 + _ + 2 * 0 ≤ _
          omega
        · have j : Txt.join (Str.ofString "") [Str.ofString "-", Str.ofString (toString (n.natAbs : Int))] = SX.S (intL n) := by
            rw [num, dash, emptyS]
            have := SX.join_S [] [[45], TL.numL n.natAbs]
            refine this.trans ?_
            unfold intL
            rw [if_pos (of_decide_eq_true e)]
            rfl
          have z := q _ (sn (o := .lst [V.str (Str.ofString "-"), V.str (Str.ofString (toString (n.natAbs : Int)))]) (sm ([] ++ [V.str (Str.ofString (toString (n.natAbs : Int)))] ++ [V.str (Str.ofString "-")]) (sm ([] ++ [V.str (Str.ofString (toString (n.natAbs : Int)))]) (sm [] s0))) hp2)
          rw [← j] at z
          exact z
      · refine ⟨⟨_, rfl⟩, _, rfl, p, _, rfl, SqL.of upd_same, fun p2 hp2 => ⟨_, p2, [Str.ofString (toString (n.natAbs : Int))], rfl, rfl, .inl (SqL.of upd_same), ?_, ?_⟩⟩
        · rw [num, emptyS]
          show ((SX.S (TL.numL n.natAbs)).length + 0) + 1 * (SX.S []).length ≤ 16777216
          rw [SX.S_len, SX.S_len]
          show _ + 1 * 0 ≤ _
          omega
        · have j : Txt.join (Str.ofString "") [Str.ofString (toString (n.natAbs : Int))] = SX.S (intL n) := by
            rw [num, emptyS]
            have := SX.join_S [] [TL.numL n.natAbs]
            refine this.trans ?_
            unfold intL
            rw [if_neg (fun y => e (decide_eq_true y))]
            rfl
          have z := q _ (sn (o := .lst [V.str (Str.ofString (toString (n.natAbs : Int)))]) (sm ([] ++ [V.str (Str.ofString (toString (n.natAbs : Int)))]) (sm [] s0)) hp2)
          rw [← j] at z
          exact z
end
section
variable {P : Program} {w : World} {K : PySem.W.Frag} {mg : Str → Option Value} {base : Heap} {fa : Nat → Addr} {fd : Nat → FuncData}
/-! ### InvalidRatio's making; common_divisor; ratio -/
theorem scI : FnScope ["self", "given"] ["self", "given"] (defScope (inClass (topS 2) 0)) := ⟨rfl, rfl, rfl, by decide +kernel, rfl, by decide +kernel, by decide +kernel⟩
theorem ok_InvalidRatio (T : Txt K mg fa fd) : FnOk P w K mg base CX0 1 (fa 1002) (fd 1002) ["self", "given"] (spInit1 K "given" "InvalidRatio") := by
  refine T.IInvalidRatio.ok scI (fun vs H Q E h => ?_) (fun cdv A outer s H vs Q E hr h => ?_)
  · obtain ⟨a, C, v, rfl, _⟩ := h
    rfl
  · obtain ⟨a, C, v, rfl, hC, h1, h2, ha, q⟩ := h
    refine ⟨_, pss_cons (ps_ost (pv 0) (pv 1)) (pss_one (ps_ost (pv 0) pe_str)), ?_⟩
    refine ⟨_, rfl, _, rfl, a, C, rfl, hC, h1, .inl ⟨ha, fun dx nd ne => ?_⟩⟩
    refine ⟨_, rfl, a, C, rfl, hC, h2, .inr ⟨dx, _, upd_same, ?_, by show 1 ≤ 900; decide, q dx nd ne⟩⟩
    rw [upd_ne ne, upd_same]
abbrev Bd (t : Int) : Prop := t.natAbs.log2 < 4096
theorem bits_bd {v : Nat} (h : v.log2 < 4096) : ¬ ((4096 : Int) < ((Builtin.Int.intBits (v : Int) : Nat) : Int)) := by
  unfold Builtin.Int.intBits
  rw [Int.natAbs_natCast]
  split <;> omega
def spDiv : Sp := fun vs H Q _ => ∃ x y : Int, vs = [.int x, .int y] ∧ (Bd x ∨ Bd y) ∧ Q (.int (Int.gcd x y : Nat)) H
theorem ok_p_common_divisor (T : Txt K mg fa fd) : FnOk P w K mg base CX0 1 (fa 11) (fd 11) ["one", "other"] spDiv := by
  refine T.F_p_common_divisor.ok sc_p_common_divisor (fun vs H Q E h => ?_) (fun cdv A outer s H vs Q E hr h => ?_)
  · obtain ⟨x, y, rfl, _⟩ := h
    rfl
  · obtain ⟨x, y, rfl, hb, q⟩ := h
    refine ⟨_, (pss_cons (ps_set (i := 0) sc_p_common_divisor.nd rfl (.inl rfl) (pe_callB call_abs (by rfl) T.m_abs PyProof.Rows.boot_abs (pa_cons (pv 0) pa_nil)))
      (pss_cons (ps_set (i := 1) sc_p_common_divisor.nd rfl (.inl rfl) (pe_callB call_abs (by rfl) T.m_abs PyProof.Rows.boot_abs (pa_cons (pv 1) pa_nil)))
      (C8.pss_cut (ps_if (pt_cmpR op_lt (pv 0) (pv 1) (nomark _)) (pss_one (ps_par (i := 0) (j := 1) (by rfl) sc_p_common_divisor.nd rfl rfl (by decide) rfl rfl (pa_cons (pv 1) (pa_cons (pv 0) pa_nil)) (by rfl))) pss_nil)
      (pss_cons (ps_while PassesOwn.never (pt_cmpR op_gt (pe_bits (pv 1)) (C8.pe_gc (by rfl) T.c_LONG) (nomark _)) (pss_one ps_never))
      (pss_cons (ps_while PassesOwn.never (pt_cmpR op_gt (pv 1) pe_int (nomark _)) (pss_one (ps_par (i := 0) (j := 1) (by rfl) sc_p_common_divisor.nd rfl rfl (by decide) rfl rfl (pa_cons (pv 1) (pa_cons (pe_op op_mod (pv 0) (pv 1)) pa_nil)) (by rfl))))
      (pss_one (ps_ret (pv 0)))))))), ?_⟩
    refine ⟨_, rfl, _, rfl, _, rfl, _, rfl, ?_⟩
    have ab : ∀ z : Int, (if z < 0 then -z else z) = (z.natAbs : Int) := fun z => by split <;> omega
    rw [ab, ab]
    refine ⟨fun σ H1 => H1 = H ∧ ∃ u v : Nat, σ = [some (.int (u : Int)), some (.int (v : Int))] ∧ v.log2 < 4096 ∧ Nat.gcd u v = Int.gcd x y, ?_, fun σ H1 hM => ?_⟩
    · refine ⟨_, rfl, _, rfl, _, _, rfl, rfl, _, rfl, ite2 (fun e => ?_) (fun e => ?_)⟩
      · have lt : (x.natAbs : Int) < (y.natAbs : Int) := of_decide_eq_true e
        refine ⟨_, rfl, _, rfl, _, _, rfl, rfl, y.natAbs, x.natAbs, rfl, ?_, Nat.gcd_comm _ _⟩
        rcases hb with hb | hb
        · exact hb
        · exact log2_mono (by omega) hb
      · have ge : ¬ (x.natAbs : Int) < (y.natAbs : Int) := fun z => e (decide_eq_true z)
        refine ⟨rfl, x.natAbs, y.natAbs, rfl, ?_, rfl⟩
        rcases hb with hb | hb
        · exact log2_mono (by omega) hb
        · exact hb
    obtain ⟨rfl, u0, v0, rfl, hv0, hg0⟩ := hM
    refine ⟨fun m σ H2 => σ = [some (.int (u0 : Int)), some (.int (v0 : Int))] ∧ H2 = H1, ⟨0, rfl, rfl⟩, fun m σ H2 hW => ?_⟩
    obtain ⟨rfl, rfl⟩ := hW
    refine ⟨_, rfl, _, rfl, _, _, rfl, rfl, _, rfl, ite2 (fun e => absurd (of_decide_eq_true e) (bits_bd hv0)) (fun _ => ?_)⟩
    refine ⟨fun m σ H1 => ∃ u v : Nat, m = v ∧ σ = [some (.int (u : Int)), some (.int (v : Int))] ∧ H1 = H2 ∧ Nat.gcd u v = Int.gcd x y, ⟨_, u0, v0, rfl, rfl, rfl, hg0⟩, fun m σ H1 hW => ?_⟩
    obtain ⟨u, v, rfl, rfl, rfl, hg⟩ := hW
    refine ⟨_, rfl, _, _, rfl, rfl, _, rfl, ite2 (fun e => ?_) (fun e => ?_)⟩
    · have hv : 0 < (m : Int) := of_decide_eq_true e
      refine ⟨fun σ' H' => ∃ m', m' < m ∧ ∃ u v : Nat, m' = v ∧ σ' = [some (.int (u : Int)), some (.int (v : Int))] ∧ H' = H1 ∧ Nat.gcd u v = Int.gcd x y, fun σ' H' h => h, ?_⟩
      refine ⟨_, rfl, _, rfl, _, rfl, _, _, rfl, rfl, hv, ?_⟩
      refine ⟨_, _, rfl, u % m, Nat.mod_lt _ (by omega), m, u % m, rfl, rfl, rfl, ?_⟩
      rw [← hg, Nat.gcd_comm m, ← Nat.gcd_rec, Nat.gcd_comm]
    · have hv : m = 0 := by
        have : ¬ 0 < (m : Int) := fun z => e (decide_eq_true z)
        omega
      subst hv
      refine ⟨_, rfl, ?_⟩
      rw [Nat.gcd_zero_right] at hg
      rw [hg]
      exact q
def spRatio (C : Addr) : Sp := fun vs H Q E => ∃ u v : Int, vs = [.int u, .int v] ∧ (v ≠ 0 → v.natAbs.log2 < 4096 ∧ ∀ p, H p = none → Q (.ref p) (upd H p (.tup [.int (lowT u v), .int (lowD u v)]))) ∧
  (v = 0 → ∀ d H', H d = none → Same H H' → H' d = some (.xd [("tag", .str "InvalidRatio"), ("given", .int 0)]) → E (.ref C) (some d) H')
theorem ok_p_ratio (T : Txt K mg fa fd) : FnOk P w K mg base (L2.CX P w) 3 (fa 12) (fd 12) ["top", "under"] (spRatio (fa 2)) := by
  refine T.F_p_ratio.ok sc_p_ratio (fun vs H Q E h => ?_) (fun cdv A outer s H vs Q E hr h => ?_)
  · obtain ⟨x, y, rfl, _⟩ := h
    rfl
  · obtain ⟨u, v, rfl, h1, h0⟩ := h
    refine ⟨_, (pss_cons (ps_if (pt_cmpR op_eq (pv 1) pe_int (nomark _)) (pss_one (ps_raise rfl (takes_of rfl rfl rfl rfl) (pmk_oex T.eInvalidRatio.oex T.eInvalidRatio.iC T.eInvalidRatio.tI (ok_InvalidRatio T) (hr.mono (by decide)) T.bIInvalidRatio .nil pass0 (by rfl) T.eInvalidRatio.gC (pa_cons pe_int pa_nil)))) pss_nil)
      (pss_cons (ps_set (i := 2) sc_p_ratio.nd rfl (.inl rfl) (pe_call (ok_p_common_divisor T) (hr.mono (by decide)) (by rfl) T.g_p_common_divisor T.F_p_common_divisor.kp T.b_p_common_divisor .nil pass0 (pa_cons (pv 0) (pa_cons (pv 1) pa_nil))))
      (C8.pss_cut (ps_if (pt_cmpR op_lt (pv 1) pe_int (nomark _)) (pss_one (ps_set (i := 2) sc_p_ratio.nd rfl (.inl rfl) (pe_un un_neg (pv 2)))) pss_nil)
      (pss_one (ps_ret (pe_tup (pa_cons (pe_op op_fdivG (pv 0) (pv 2)) (pa_cons (pe_op op_fdivG (pv 1) (pv 2)) pa_nil)))))))), ?_⟩
    refine ⟨_, rfl, rfl, _, rfl, ite2 (fun e => ?_) (fun e => ?_)⟩
    · have ev : v = 0 := V.int.inj (of_decide_eq_true e)
      refine ⟨by show 1 ≤ 1000; decide, fun a na => ⟨a, _, .int 0, rfl, T.eInvalidRatio.oex, T.nInvalidRatio_given, T.eInvalidRatio.tag, upd_same, fun dx nd ne => ⟨rfl, dx, _, ?_, upd_same, ?_, ?_⟩⟩⟩
      · rw [upd_ne ne.symm, upd_same]
      · rw [upd_ne ne] at nd
        exact nd
      · have nd' : H dx = none := by
          rw [upd_ne ne] at nd
          exact nd
        refine h0 ev dx _ nd' (Same.del na nd' fun b o hb q => ?_) upd_same
        rw [upd_ne (ne_of_none q nd'), upd_ne hb, upd_ne (ne_of_none q nd'), upd_ne hb]
        exact q
    · have ev : v ≠ 0 := fun z => e (decide_eq_true (by rw [z]))
      obtain ⟨h9, q⟩ := h1 ev
      refine ⟨_, rfl, _, rfl, u, v, rfl, .inr h9, ?_⟩
      refine ⟨fun σ H1 => H1 = H ∧ σ = [some (.int u), some (.int v), some (.int (lowG u v))], ?_, fun σ H1 hM => ?_⟩
      · refine ⟨_, rfl, _, _, rfl, rfl, _, rfl, ite2 (fun e => ?_) (fun e => ?_)⟩
        · refine ⟨_, rfl, _, rfl, rfl, ?_⟩
          unfold lowG
          rw [if_pos (of_decide_eq_true e)]
          rfl
        · refine ⟨rfl, ?_⟩
          unfold lowG
          rw [if_neg (fun z => e (decide_eq_true z))]
          rfl
      · obtain ⟨rfl, rfl⟩ := hM
        have hG := lowG_ok (u := u) ev h9
        exact ⟨_, rfl, _, rfl, _, _, rfl, rfl, hG, _, rfl, _, rfl, _, _, rfl, rfl, hG, two_line, q⟩
end
/-! ### slices of lists of signs -/
theorem cut_to (a : List Nat) (k : Nat) : L2.cutS (SX.S a) none (some (k : Int)) = SX.S (a.take k) := by
  unfold L2.cutS
  rw [HT.sIx_none, HT.sIx_nat, SX.S_len, Nat.sub_zero]
  refine TL.ext_tl ?_
  show (a.drop 0).take (min k a.length) = a.take k
  rw [List.drop_zero]
  by_cases h : k ≤ a.length
  · rw [Nat.min_eq_left h]
  · rw [Nat.min_eq_right (by omega), List.take_of_length_le (Nat.le_refl _), List.take_of_length_le (by omega)]
theorem cut_from (a : List Nat) (k : Nat) : L2.cutS (SX.S a) (some (k : Int)) none = SX.S (a.drop k) := by
  unfold L2.cutS
  rw [HT.sIx_none, HT.sIx_nat, SX.S_len]
  refine TL.ext_tl ?_
  show (a.drop (min k a.length)).take (a.length - min k a.length) = a.drop k
  by_cases h : k ≤ a.length
  · rw [Nat.min_eq_left h, List.take_of_length_le (by rw [List.length_drop]; exact Nat.le_refl _)]
  · rw [Nat.min_eq_right (by omega), List.drop_of_length_le (Nat.le_refl _), List.drop_of_length_le (by omega), List.take_nil]
section
variable {P : Program} {w : World} {K : PySem.W.Frag} {mg : Str → Option Value} {base : Heap} {fa : Nat → Addr} {fd : Nat → FuncData}
def spNumOf : Sp := fun vs H Q _ => ∃ a : List Nat, vs = [.str (SX.S a)] ∧ isD a = true ∧ a.length ≤ 62 ∧ Q (.int ((NumText.digitsVal a : Nat) : Int)) H
theorem ok_p_number_of (T : Txt K mg fa fd) : FnOk P w K mg base CX0 1 (fa 15) (fd 15) ["digits"] spNumOf := by
  refine T.F_p_number_of.ok sc_p_number_of (fun vs H Q E h => ?_) (fun cdv A outer s H vs Q E hr h => ?_)
  · obtain ⟨a, rfl, _⟩ := h
    rfl
  · obtain ⟨a, rfl, hd, hl, q⟩ := h
    have line : (SX.S a).length ≤ sizeLine := by
      rw [SX.S_len]
      exact small_line (by omega)
    have len : (((SX.S a).length : Nat) : Int) % 64 = (a.length : Nat) := by
      rw [SX.S_len]
      omega
    have cut : L2.cutS (SX.S a) none (some ((((SX.S a).length : Nat) : Int) % 64)) = SX.S a := by
      rw [len, cut_to, List.take_length]
    have cat : (Str.ofString "0" : Str) ++ L2.cutS (SX.S a) none (some ((((SX.S a).length : Nat) : Int) % 64)) = SX.S (48 :: a) := by
      rw [cut, nought, SX.S_cat]
      rfl
    have hd2 := (isD_iff.mp hd).2
    have val : intText? ((Str.ofString "0" : Str) ++ L2.cutS (SX.S a) none (some ((((SX.S a).length : Nat) : Int) % 64))) = some ((NumText.digitsVal a : Nat) : Int) := by
      rw [cat]
      have := intText_digits (x := SX.S (48 :: a)) (fun c hc => by
        rcases List.mem_cons.mp hc with e | e
        · omega
        · exact hd2 c e) (by simp) (by rw [SX.S_len]; simp only [List.length_cons]; omega)
      rw [this]
      rfl
    refine ⟨_, (pss_cons (ps_set (i := 1) sc_p_number_of.nd rfl (.inl rfl) (pe_op op_mod (pe_callB call_len_str (by rfl) T.m_len PySem.boot_len (pa_cons (pv 0) pa_nil)) pe_int))
      (pss_cons (ps_set (i := 2) sc_p_number_of.nd rfl (.inl rfl) (pe_callTy call_int_str (by rfl) T.m_int PySem.Pv.boot_int (pa_cons (pe_op op_add_str pe_str (pe_slice sl_str (pv 0) po_none (po_some (pv 1)))) pa_nil)))
      (pss_cons (ps_for PassesOwn.never rfl (pi_range3 (by rfl) T.m_range (pa_cons (pv 1) (pa_cons (pe_callB call_len_str (by rfl) T.m_len PySem.boot_len (pa_cons (pv 0) pa_nil)) (pa_cons pe_int pa_nil)))) (pg_name (i := 3) sc_p_number_of.nd rfl (.inl rfl)) (pss_one ps_never))
      (pss_one (ps_ret (pv 2)))))), ?_⟩
    refine ⟨_, rfl, _, rfl, line, _, _, rfl, rfl, (by decide : (0 : Int) < 64), _, rfl, _, rfl, _, rfl, _, rfl, line, _, _, rfl, rfl, ?_, _, _, rfl, val, ?_, ?_⟩
    · rw [nought, cut, SX.S_len, SX.S_len]
      exact small_line (by show 1 + _ ≤ 1000; omega)
    · rw [cat, SX.S_len]
      simp only [List.length_cons]
      omega
    · refine ⟨_, rfl, _, rfl, _, rfl, line, _, _, _, 0, rfl, ?_, for_rangeC (fun i σ H1 => H1 = H ∧ σ = [some (.str (SX.S a)), some (.int ((((SX.S a).length : Nat) : Int) % 64)), some (.int ((NumText.digitsVal a : Nat) : Int)), none]) ⟨rfl, rfl⟩ (fun i σ H1 hi => absurd hi (Nat.not_lt_zero _)) (fun σ H1 h => ?_)⟩
      · have z : Builtin.Range.rangeSize ((((SX.S a).length : Nat) : Int) % 64) (((SX.S a).length : Nat) : Int) 64 = 0 := by
          unfold Builtin.Range.rangeSize
          rw [if_pos (by decide), if_neg (by rw [len, SX.S_len]; omega)]
        refine ⟨by decide, by decide, ?_, z⟩
        have e : Builtin.Range.small ((a.length : Nat) : Int) ((a.length : Nat) : Int) 64 = true := by
          have : ∀ n : Nat, n ≤ 62 → Builtin.Range.small (n : Int) (n : Int) 64 = true := by decide +kernel
          exact this _ hl
        rw [len, SX.S_len]
        exact e
      · obtain ⟨rfl, rfl⟩ := h
        exact ⟨_, rfl, q⟩
end
theorem val_lt {a : List Nat} (h : NumText.AllDigits a) : NumText.digitsVal a < 10 ^ a.length := by
  have key : ∀ (l : List Nat) (acc : Nat), NumText.AllDigits l → l.foldl (fun acc c => acc * 10 + (c - 48)) acc < (acc + 1) * 10 ^ l.length := by
    intro l
    induction l with
    | nil => intro acc _; show acc < (acc + 1) * 1; omega
    | cons c l ih =>
      intro acc hl
      have hc := hl.head
      have i := ih (acc * 10 + (c - 48)) hl.tail
      refine Nat.lt_of_lt_of_le i ?_
      rw [List.length_cons, Nat.pow_succ, Nat.mul_comm (10 ^ l.length) 10, ← Nat.mul_assoc]
      exact Nat.mul_le_mul_right _ (by omega)
  have := key a 0 h
  rw [Nat.zero_add, Nat.one_mul] at this
  exact this
theorem val_lt62 {a : List Nat} (h : NumText.AllDigits a) (hl : a.length ≤ 61) : NumText.digitsVal a < 10 ^ 62 := Nat.lt_of_lt_of_le (val_lt h) (Nat.pow_le_pow_right (by decide) (by omega))
theorem body_len (t : List Nat) : (bodyL t).length ≤ t.length := by
  have e := congrArg List.length (body_at t)
  rw [List.length_append] at e
  omega
theorem cut_len (a : List Nat) : (cutL a).1.length ≤ a.length ∧ (cutL a).2.2.length ≤ a.length := by
  have e := congrArg List.length (cut_at a)
  rw [List.length_append] at e
  refine ⟨by omega, ?_⟩
  cases h : (cutL a).2.1
  · unfold cutL at h ⊢
    split at h
    · cases h
    · simp
  · rw [h, if_pos rfl, List.length_cons] at e
    omega
theorem intL_len {n : Int} (h : n.natAbs < 10 ^ 62) : (intL n).length ≤ 63 := by
  have := TL.numL_len (n := n.natAbs) (k := 62) (by decide) h
  unfold intL
  rw [List.length_append]
  split
  · show 1 + _ ≤ _
    omega
  · show 0 + _ ≤ _
    omega
theorem txt_int (n d : Int) (hd : 0 < d) : txtL n d = if d = 1 then intL n else intL n ++ (47 :: intL d) := by
  unfold txtL intL
  have : ¬ d < 0 := by omega
  rw [if_neg this, List.nil_append]
  by_cases h : d = 1
  · rw [if_pos h, if_pos h, List.append_nil]
  · rw [if_neg h, if_neg h, List.append_assoc]
section
variable {P : Program} {w : World} {K : PySem.W.Frag} {mg : Str → Option Value} {base : Heap} {fa : Nat → Addr} {fd : Nat → FuncData}
theorem Same.trans {A B C : Hp} (h1 : Same A B) (h2 : Same B C) : Same A C := fun b u e => h2 b u (h1 b u e)
theorem Same.new {A : Hp} {p : Addr} {o : HO} (h : A p = none) : Same A (upd A p o) := fun b u e => by
  rw [upd_ne (ne_of_none e h)]
  exact e
def spRatT : Sp := fun vs H Q _ => ∃ (p : Addr) (n d : Int), vs = [.ref p] ∧ H p = some (.tup [.int n, .int d]) ∧ 0 < d ∧ n.natAbs < 10 ^ 62 ∧ d.natAbs < 10 ^ 62 ∧ ∀ H', Same H H' → Q (.str (SX.S (txtL n d))) H'
theorem ok_p_ratio_text (T : Txt K mg fa fd) : FnOk P w K mg base CX0 2 (fa 16) (fd 16) ["one"] spRatT := by
  refine T.F_p_ratio_text.ok sc_p_ratio_text (fun vs H Q E h => ?_) (fun cdv A outer s H vs Q E hr h => ?_)
  · obtain ⟨p, n, d, rfl, _⟩ := h
    rfl
  · obtain ⟨p, n, d, rfl, hp, hd, hn, hd2, q⟩ := h
    refine ⟨_, (pss_cons (ps_if (pt_cmpR op_eq (pe_ix ix_tup (pv 0) pe_int (fun _ _ => rfl)) pe_int (nomark _)) (pss_one (ps_ret (pe_call (ok_p_number_text T) (hr.mono (by decide)) (by rfl) T.g_p_number_text T.F_p_number_text.kp T.b_p_number_text .nil pass0 (pa_cons (pe_ix ix_tup (pv 0) pe_int (fun _ _ => rfl)) pa_nil)))) pss_nil)
      (pss_one (ps_ret (pe_op op_add_str (pe_op op_add_str (pe_call (ok_p_number_text T) (hr.mono (by decide)) (by rfl) T.g_p_number_text T.F_p_number_text.kp T.b_p_number_text .nil pass0 (pa_cons (pe_ix ix_tup (pv 0) pe_int (fun _ _ => rfl)) pa_nil)) pe_str) (pe_call (ok_p_number_text T) (hr.mono (by decide)) (by rfl) T.g_p_number_text T.F_p_number_text.kp T.b_p_number_text .nil pass0 (pa_cons (pe_ix ix_tup (pv 0) pe_int (fun _ _ => rfl)) pa_nil)))))), ?_⟩
    refine ⟨_, rfl, p, _, 1, _, rfl, rfl, SqT.of hp, rfl, rfl, _, rfl, ite2 (fun e => ?_) (fun e => ?_)⟩
    · have e1 : d = 1 := V.int.inj (of_decide_eq_true e)
      refine ⟨_, rfl, p, _, 0, _, rfl, rfl, SqT.of hp, rfl, n, rfl, hn, fun H1 s1 => ?_⟩
      have := q H1 s1
      rw [txt_int n d hd, if_pos e1] at this
      exact this
    · have e1 : d ≠ 1 := fun z => e (decide_eq_true (by rw [z]))
      refine ⟨_, rfl, p, _, 0, _, rfl, rfl, SqT.of hp, rfl, n, rfl, hn, fun H1 s1 => ⟨_, _, rfl, rfl, ?_, _, rfl, p, _, 1, _, rfl, rfl, SqT.of (s1 _ _ hp), rfl, d, rfl, hd2, fun H2 s2 => ⟨_, _, rfl, rfl, ?_, ?_⟩⟩⟩
      · rw [stroke, SX.S_len, SX.S_len]
        exact small_line (by have := intL_len hn; show _ + 1 ≤ 1000; omega)
      · rw [stroke, SX.S_cat, SX.S_len, SX.S_len, List.length_append]
        exact small_line (by have := intL_len hn; have := intL_len hd2; show _ + 1 + _ ≤ 1000; omega)
      · have := q H2 (Same.trans s1 s2)
        rw [txt_int n d hd, if_neg e1] at this
        rw [stroke, SX.S_cat, SX.S_cat, List.append_assoc]
        exact this
end
theorem sl_eq (b : Bool) : decide (V.str (SX.S (if b then [47] else [])) = V.str (Str.ofString "")) = !b := by
  rw [emptyS]
  cases b
  · exact decide_eq_true rfl
  · refine decide_eq_false fun z => ?_
    exact absurd (SX.S_inj (V.str.inj z)) (by decide)
theorem progR_bad {t : List Nat} (h : (!isD (cutL (bodyL t)).1 || ((cutL (bodyL t)).2.1 && !isD (cutL (bodyL t)).2.2)) = true) : progR t = none := by
  unfold progR
  rw [if_pos h]
theorem progR_zero {t : List Nat} (h : progD t = 0) : progR t = none := by
  unfold progR
  rw [if_pos h]
  split <;> rfl
theorem progR_ne {t : List Nat} (h0 : progD t ≠ 0) (h : txtL (lowT (progN t) (progD t)) (lowD (progN t) (progD t)) ≠ t) : progR t = none := by
  unfold progR
  rw [if_neg h0, if_neg h]
  split <;> rfl
theorem progR_eq {t : List Nat} (hb : (!isD (cutL (bodyL t)).1 || ((cutL (bodyL t)).2.1 && !isD (cutL (bodyL t)).2.2)) = false) (h0 : progD t ≠ 0) (h : txtL (lowT (progN t) (progD t)) (lowD (progN t) (progD t)) = t) :
    progR t = some (lowT (progN t) (progD t), lowD (progN t) (progD t)) := by
  unfold progR
  rw [hb, if_neg (by decide), if_neg h0, if_pos h]
section
variable {P : Program} {w : World} {K : PySem.W.Frag} {mg : Str → Option Value} {base : Heap} {fa : Nat → Addr} {fd : Nat → FuncData}
def spRatOf : Sp := fun vs H Q _ => ∃ t : List Nat, vs = [.str (SX.S t)] ∧ t.length ≤ 61 ∧ (progR t = none → ∀ H', Same H H' → Q .non H') ∧ (∀ f, progR t = some f → ∀ p H', Same H H' → H' p = some (.tup [.int f.1, .int f.2]) → Q (.ref p) H')
theorem ok_p_ratio_of (T : Txt K mg fa fd) : FnOk P w K mg base (L2.CX P w) 4 (fa 17) (fd 17) ["text"] spRatOf := by
  refine T.F_p_ratio_of.okX sc_p_ratio_of (fun vs H Q E h => ?_) (fun cdv A outer s H vs Q E hr h => ?_)
  · obtain ⟨p, rfl, _⟩ := h
    rfl
  · obtain ⟨t, rfl, hl, qn, qs⟩ := h
    have b1 := body_len t
    obtain ⟨c1, c2⟩ := cut_len (bodyL t)
    have line : (SX.S t).length ≤ sizeLine := by
      rw [SX.S_len]
      exact small_line (by omega)
    have rm : Txt.removeprefix (SX.S t) (Str.ofString "-") = SX.S (bodyL t) := by rw [dash, rem_minus]
    have line2 : (Txt.removeprefix (SX.S t) (Str.ofString "-")).length ≤ sizeLine := by
      rw [rm, SX.S_len]
      exact small_line (by omega)
    have pt := cut_S (bodyL t)
    refine ⟨_, (pss_cons (ps_asg (pe_m1 PySem.F.slot_str_partition PySem.F.type_str_partition mt_partition (pe_m1 PySem.F.slot_str_removeprefix PySem.F.type_str_removeprefix mt_removeprefix (pv 0) pe_str (by rfl) (by rfl) (by rfl)) pe_str (by rfl) (by rfl) (by rfl)) (pg_tup (by rfl) (pgs_cons (pg_name (i := 1) sc_p_ratio_of.nd rfl (.inl rfl)) (pgs_cons (pg_name (i := 2) sc_p_ratio_of.nd rfl (.inl rfl)) (pgs_cons (pg_name (i := 3) sc_p_ratio_of.nd rfl (.inl rfl)) pgs_nil)))))
      (C8.pss_cut (ps_if (PW.pt (pw_or (pt_not (pt_val (pe_call (ok_p_is_digits T) (hr.mono (by decide)) (by rfl) T.g_p_is_digits T.F_p_is_digits.kp T.b_p_is_digits .nil pass0 (pa_cons (pv 1) pa_nil)))) (pw_or1 (PW.pt (pw_and (pt_cmpR op_ne (pv 2) pe_str (nomark _)) (pw_and1 (pt_not (pt_val (pe_call (ok_p_is_digits T) (hr.mono (by decide)) (by rfl) T.g_p_is_digits T.F_p_is_digits.kp T.b_p_is_digits .nil pass0 (pa_cons (pv 3) pa_nil)))))))))) (pss_one (ps_ret pe_non)) pss_nil)
      (C8.pss_cut (ps_set (i := 4) sc_p_ratio_of.nd rfl (.inl rfl) (pe_ifExp (pt_val (pe_m1 PySem.F.slot_str_startswith PySem.F.type_str_startswith mt_startswith (pv 0) pe_str (by rfl) (by rfl) (by rfl))) (pe_un un_neg (pe_call (ok_p_number_of T) (hr.mono (by decide)) (by rfl) T.g_p_number_of T.F_p_number_of.kp T.b_p_number_of .nil pass0 (pa_cons (pv 1) pa_nil))) (pe_call (ok_p_number_of T) (hr.mono (by decide)) (by rfl) T.g_p_number_of T.F_p_number_of.kp T.b_p_number_of .nil pass0 (pa_cons (pv 1) pa_nil))))
      (C8.pss_cut (ps_set (i := 5) sc_p_ratio_of.nd rfl (.inl rfl) (pe_ifExp (pt_cmpR op_eq (pv 2) pe_str (nomark _)) pe_int (pe_call (ok_p_number_of T) (hr.mono (by decide)) (by rfl) T.g_p_number_of T.F_p_number_of.kp T.b_p_number_of .nil pass0 (pa_cons (pv 3) pa_nil))))
      (pss_cons (ps_if (pt_cmpR op_eq (pv 5) pe_int (nomark _)) (pss_one (ps_ret pe_non)) pss_nil)
      (pss_cons (ps_set (i := 6) sc_p_ratio_of.nd rfl (.inl rfl) (pe_call (ok_p_ratio T) (hr.mono (by decide)) (by rfl) T.g_p_ratio T.F_p_ratio.kp T.b_p_ratio .nil (passes_call (takes_of rfl rfl rfl rfl) (fun _ _ _ _ h => h)) (pa_cons (pv 4) (pa_cons (pv 5) pa_nil))))
      (pss_one (ps_ret (pe_ifExp (pt_cmpR op_eq (pe_call (ok_p_ratio_text T) (hr.mono (by decide)) (by rfl) T.g_p_ratio_text T.F_p_ratio_text.kp T.b_p_ratio_text .nil pass0 (pa_cons (pv 6) pa_nil)) (pv 0) (nomark _)) (pv 6) pe_non))))))))), ?_⟩
    refine ⟨_, rfl, ⟨_, rfl⟩, _, _, rfl, rfl, line, ⟨_, rfl⟩, _, _, rfl, rfl, by decide +kernel, line2, fun p hp => ?_⟩
    rw [rm, stroke, pt]
    have sp : Same H (upd H p (.tup [.str (SX.S (cutL (bodyL t)).1), .str (SX.S (if (cutL (bodyL t)).2.1 then [47] else [])), .str (SX.S (cutL (bodyL t)).2.2)])) := Same.new hp
    generalize hH : upd H p (.tup [.str (SX.S (cutL (bodyL t)).1), .str (SX.S (if (cutL (bodyL t)).2.1 then [47] else [])), .str (SX.S (cutL (bodyL t)).2.2)]) = H1 at sp
    have hp1 : H1 p = some (.tup [.str (SX.S (cutL (bodyL t)).1), .str (SX.S (if (cutL (bodyL t)).2.1 then [47] else [])), .str (SX.S (cutL (bodyL t)).2.2)]) := by rw [← hH, upd_same]
    have kd : (!isD (cutL (bodyL t)).1 || ((cutL (bodyL t)).2.1 && !isD (cutL (bodyL t)).2.2)) = false → isD (cutL (bodyL t)).1 = true ∧ ((cutL (bodyL t)).2.1 = true → isD (cutL (bodyL t)).2.2 = true) := fun z => by
      cases e1 : isD (cutL (bodyL t)).1 <;> cases e2 : (cutL (bodyL t)).2.1 <;> cases e3 : isD (cutL (bodyL t)).2.2 <;> rw [e1, e2, e3] at z <;> simp_all
    let S1 : L2.St := [some (.str (SX.S t)), some (.str (SX.S (cutL (bodyL t)).1)), some (.str (SX.S (if (cutL (bodyL t)).2.1 then [47] else []))), some (.str (SX.S (cutL (bodyL t)).2.2))]
    refine ⟨p, _, rfl, SqT.of hp1, rfl, _, _, rfl, _, _, rfl, _, _, rfl, rfl, ?_⟩
    refine ⟨fun σ H2 => H2 = H1 ∧ σ = S1 ++ [none, none, none] ∧ (!isD (cutL (bodyL t)).1 || ((cutL (bodyL t)).2.1 && !isD (cutL (bodyL t)).2.2)) = false, ?_, fun σ H2 hM => ?_⟩
    · refine ⟨_, rfl, _, rfl, _, rfl, ite2 (fun e => ?_) (fun e => ?_)⟩
      · refine qn (progR_bad ?_) H1 sp
        rw [e]
        rfl
      · refine ⟨_, rfl, rfl, _, rfl, ?_⟩
        rw [sl_eq]
        have e1 : (!isD (cutL (bodyL t)).1) = false := by
          cases h : isD (cutL (bodyL t)).1
          · rw [h] at e
            exact absurd rfl e
          · rfl
        refine ite2 (fun e2 => ?_) (fun e2 => ?_)
        · refine ⟨_, rfl, _, rfl, _, rfl, ite2 (fun e3 => ?_) (fun e3 => ?_)⟩
          · refine qn (progR_bad ?_) H1 sp
            rw [e1, e3]
            rw [Bool.not_not] at e2
            rw [e2]
            rfl
          · refine ⟨rfl, rfl, ?_⟩
            rw [e1, Bool.false_or]
            rw [Bool.not_not] at e2
            rw [e2, Bool.true_and]
            exact Bool.eq_false_iff.mpr e3
        · refine ⟨rfl, rfl, ?_⟩
          rw [e1, Bool.false_or]
          rw [Bool.not_not] at e2
          rw [Bool.eq_false_iff.mpr e2, Bool.false_and]
    · obtain ⟨h2, h3, hb⟩ := hM
      rw [h2, h3]
      obtain ⟨d1, d2⟩ := kd hb
      have a1 := (isD_iff.mp d1).2
      have v1 := val_lt62 a1 (by omega)
      have n1 : (progN t).natAbs < 10 ^ 62 := by
        have : (progN t).natAbs = NumText.digitsVal (cutL (bodyL t)).1 := by
          unfold progN
          split <;> omega
        rw [this]
        exact v1
      have n2 : (progD t).natAbs < 10 ^ 62 := by
        unfold progD
        split
        · rename_i e
          have := val_lt62 (isD_iff.mp (d2 e)).2 (by omega)
          rw [Int.natAbs_natCast]
          exact this
        · decide +kernel
      refine ⟨fun σ H3 => H3 = H1 ∧ σ = S1 ++ [some (.int (progN t)), none, none], ?_, fun σ H3 hM => ?_⟩
      · refine ⟨_, rfl, ⟨_, rfl⟩, _, _, rfl, rfl, _, rfl, ?_⟩
        rw [dash, starts_minus]
        refine ite2 (fun e => ?_) (fun e => ?_)
        · refine ⟨_, rfl, _, rfl, d1, by omega, _, rfl, rfl, ?_⟩
          unfold progN
          rw [if_pos e]
          rfl
        · refine ⟨_, rfl, _, rfl, d1, by omega, rfl, ?_⟩
          unfold progN
          rw [if_neg e]
          rfl
      · obtain ⟨h2, h3⟩ := hM
        rw [h2, h3]
        refine ⟨fun σ H3 => H3 = H1 ∧ σ = S1 ++ [some (.int (progN t)), some (.int (progD t)), none], ?_, fun σ H3 hM => ?_⟩
        · refine ⟨_, rfl, rfl, _, rfl, ?_⟩
          rw [sl_eq]
          refine ite2 (fun e => ?_) (fun e => ?_)
          · refine ⟨rfl, ?_⟩
            have e' : (cutL (bodyL t)).2.1 = false := by
              cases h : (cutL (bodyL t)).2.1
              · rfl
              · rw [h] at e
                cases e
            unfold progD
            rw [e']
            rfl
          · have e' : (cutL (bodyL t)).2.1 = true := by
              cases h : (cutL (bodyL t)).2.1
              · rw [h] at e
                exact absurd rfl e
              · rfl
            refine ⟨_, rfl, _, rfl, d2 e', by omega, rfl, ?_⟩
            unfold progD
            rw [if_pos e']
            rfl
        · obtain ⟨h2, h3⟩ := hM
          rw [h2, h3]
          refine ⟨_, rfl, rfl, _, rfl, ite2 (fun e => ?_) (fun e => ?_)⟩
          · exact qn (progR_zero (V.int.inj (of_decide_eq_true e))) H1 sp
          · have h0 : progD t ≠ 0 := fun z => e (decide_eq_true (by rw [z]))
            refine ⟨_, rfl, _, rfl, _, _, rfl, fun hv => ⟨Nat.lt_trans (log_of n2) (by decide), fun p2 hp2 => ?_⟩, fun hv => absurd hv h0⟩
            refine ⟨_, rfl, p2, _, _, rfl, upd_same, lowD_pos h0, Nat.lt_of_le_of_lt (lowT_abs h0) n1, Nat.lt_of_le_of_lt (lowD_abs h0) n2, fun H5 s5 => ⟨_, rfl, rfl, _, rfl, ite2 (fun e => ?_) (fun e => ?_)⟩⟩
            · have e2 : txtL (lowT (progN t) (progD t)) (lowD (progN t) (progD t)) = t := SX.S_inj (V.str.inj (of_decide_eq_true e))
              exact ⟨_, rfl, qs _ (progR_eq hb h0 e2) p2 H5 (Same.trans sp (Same.trans (Same.new hp2) s5)) (s5 _ _ upd_same)⟩
            · exact qn (progR_ne h0 fun z => e (decide_eq_true (by rw [z]))) H5 (Same.trans sp (Same.trans (Same.new hp2) s5))
end
section
variable {P : Program} {w : World} {K : PySem.W.Frag} {mg : Str → Option Value} {base : Heap} {fa : Nat → Addr} {fd : Nat → FuncData}
def spReadR (C : Addr) : Sp := fun vs H Q E => ∃ t : List Nat, vs = [.str (SX.S t)] ∧ t.length ≤ 61 ∧ (progR t = none → ∀ d H', Same H H' → H' d = some (.xd [("tag", .str "ParseError"), ("at", .int 0)]) → E (.ref C) (some d) H') ∧
  (∀ f, progR t = some f → ∀ p H', Same H H' → H' p = some (.tup [.int f.1, .int f.2]) → Q (.ref p) H')
theorem ok_p_read_ratio (T : Txt K mg fa fd) : FnOk P w K mg base (L2.CX P w) 5 (fa 18) (fd 18) ["text"] (spReadR (fa 3)) := by
  refine T.F_p_read_ratio.okX sc_p_read_ratio (fun vs H Q E h => ?_) (fun cdv A outer s H vs Q E hr h => ?_)
  · obtain ⟨p, rfl, _⟩ := h
    rfl
  · obtain ⟨t, rfl, hl, qe, qs⟩ := h
    refine ⟨_, (pss_cons (ps_set (i := 1) sc_p_read_ratio.nd rfl (.inl rfl) (pe_call (ok_p_ratio_of T) (hr.mono (by decide)) (by rfl) T.g_p_ratio_of T.F_p_ratio_of.kp T.b_p_ratio_of .nil (passes_call (takes_of rfl rfl rfl rfl) (fun _ _ _ _ h => h)) (pa_cons (pv 0) pa_nil)))
      (pss_cons (ps_if (pt_cmpR op_isN (pv 1) pe_non (nomark _)) (pss_one (ps_raise rfl (takes_of rfl rfl rfl rfl) (pmk_oex T.eParseError.oex T.eParseError.iC T.eParseError.tI (ok_ParseError T) (hr.mono (by decide)) T.bIParseError .nil pass0 (by rfl) T.eParseError.gC (pa_cons pe_int pa_nil)))) pss_nil)
      (pss_one (ps_ret (pv 1))))), ?_⟩
    refine ⟨_, rfl, t, rfl, hl, fun hn H1 s1 => ?_, fun f hf p H1 s1 hp => ?_⟩
    · refine ⟨_, rfl, rfl, _, rfl, ite2 (fun e => ?_) (fun e => absurd (decide_eq_true rfl) e)⟩
      refine ⟨by show 1 ≤ 1000; decide, fun a na => ⟨a, _, .int 0, rfl, T.eParseError.oex, T.nParseError_at, T.eParseError.tag, upd_same, fun dx nd ne => ⟨rfl, dx, _, ?_, upd_same, ?_, ?_⟩⟩⟩
      · rw [upd_ne ne.symm, upd_same]
      · rw [upd_ne ne] at nd
        exact nd
      · have nd' : H1 dx = none := by
          rw [upd_ne ne] at nd
          exact nd
        refine qe hn dx _ (Same.trans s1 (Same.del na nd' fun b o hb q => ?_)) upd_same
        rw [upd_ne (ne_of_none q nd'), upd_ne hb, upd_ne (ne_of_none q nd'), upd_ne hb]
        exact q
    · refine ⟨_, rfl, rfl, _, rfl, ite2 (fun e => ?_) (fun e => ⟨_, rfl, qs f hf p H1 s1 hp⟩)⟩
      exact absurd (of_decide_eq_true e) (by intro z; cases z)
end
theorem neg_S (m : Nat) : Str.ofString (toString (Int.negSucc m)) = SX.S (45 :: TL.numL (m + 1)) := by
  refine TL.ext_tl ?_
  have h : toString (Int.negSucc m) = "-" ++ toString ((m + 1 : Nat) : Int) := rfl
  rw [h, TL.tl_ofString, String.toList_append, List.map_append, ← TL.tl_ofString, ← TL.tl_ofString, TL.tl_num]
  rfl
theorem str_int (n : Int) : Str.ofString (toString n) = SX.S (intL n) := by
  unfold intL
  match n with
  | .ofNat k =>
    have h : ¬ Int.ofNat k < 0 := by
      show ¬ (k : Int) < 0
      omega
    rw [if_neg h]
    exact SX.num_S k
  | .negSucc k =>
    rw [if_pos (Int.negSucc_lt_zero k)]
    exact neg_S k
section
variable {P : Program} {w : World} {K : PySem.W.Frag} {mg : Str → Option Value} {base : Heap} {fa : Nat → Addr} {fd : Nat → FuncData}
theorem ok_part_text (T : Txt K mg fa fd) : FnOk P w K mg base CX0 2 (fa 28) (fd 28) ["_law_one"] spRatT := by
  refine T.F_part_text.ok sc_part_text (fun vs H Q E h => ?_) (fun cdv A outer s H vs Q E hr h => ?_)
  · obtain ⟨p, n, d, rfl, _⟩ := h
    rfl
  · obtain ⟨p, n, d, rfl, hp, hd, hn, hd2, q⟩ := h
    refine ⟨_, (pss_one (ps_ret (pe_ifExp (pt_cmpR op_eq (pe_ix ix_tup (pv 0) pe_int (fun _ _ => rfl)) pe_int (nomark _)) (pe_callTy call_str_int (by rfl) T.m_str (by decide +kernel) (pa_cons (pe_ix ix_tup (pv 0) pe_int (fun _ _ => rfl)) pa_nil)) (pe_op op_add_str (pe_op op_add_str (pe_callTy call_str_int (by rfl) T.m_str (by decide +kernel) (pa_cons (pe_ix ix_tup (pv 0) pe_int (fun _ _ => rfl)) pa_nil)) pe_str) (pe_callTy call_str_int (by rfl) T.m_str (by decide +kernel) (pa_cons (pe_ix ix_tup (pv 0) pe_int (fun _ _ => rfl)) pa_nil)))))), ?_⟩
    refine ⟨_, rfl, p, _, 1, _, rfl, rfl, SqT.of hp, rfl, rfl, _, rfl, ite2 (fun e => ?_) (fun e => ?_)⟩
    · have e1 : d = 1 := V.int.inj (of_decide_eq_true e)
      refine ⟨_, rfl, p, _, 0, _, rfl, rfl, SqT.of hp, rfl, n, rfl, log_of hn, ?_⟩
      have := q H fun b u e => e
      rw [txt_int n d hd, if_pos e1] at this
      rw [str_int]
      exact this
    · have e1 : d ≠ 1 := fun z => e (decide_eq_true (by rw [z]))
      refine ⟨_, rfl, p, _, 0, _, rfl, rfl, SqT.of hp, rfl, n, rfl, log_of hn, _, _, rfl, rfl, ?_, _, rfl, p, _, 1, _, rfl, rfl, SqT.of hp, rfl, d, rfl, log_of hd2, _, _, rfl, rfl, ?_, ?_⟩
      · rw [str_int, stroke, SX.S_len, SX.S_len]
        exact small_line (by have := intL_len hn; show _ + 1 ≤ 1000; omega)
      · rw [str_int, str_int, stroke, SX.S_cat, SX.S_len, SX.S_len, List.length_append]
        exact small_line (by have := intL_len hn; have := intL_len hd2; show _ + 1 + _ ≤ 1000; omega)
      · have := q H fun b u e => e
        rw [txt_int n d hd, if_neg e1] at this
        rw [str_int, str_int, stroke, SX.S_cat, SX.S_cat, List.append_assoc]
        exact this
end
theorem lc_str {x : Str} {g : TG} {tt : TT} {te : TE} {vs : List Nat} {σ : L2.St} {H1 : Hp} {D : Addr} {Qd : Hp → Prop} (Pv : Nat → Hp → Prop) (h0 : Pv 0 (upd H1 D (.lst [])))
    (hs : ∀ i c H, x.cps[i]? = some c → Pv i H → g (.str ⟨#[c]⟩) (wipe σ vs) H fun σ2 H2 => wipe σ2 vs = wipe σ vs ∧ tt σ2 H2 fun b H3 =>
      if b = true then te σ2 H3 fun y H4 => ∃ acc, H4 D = some (.lst acc) ∧ acc.length < sizeLine ∧ Pv (i + 1) (upd H4 D (.lst (acc ++ [y]))) else Pv (i + 1) H3) (hd : ∀ H, Pv x.cps.size H → Qd H) :
    ∃ W : Nat → Nat → Hp → Prop, (∃ m, W 0 m (upd H1 D (.lst []))) ∧ ∀ i m H, W i m H →
      ((Its x).stop i H ∧ Qd H) ∨ ((Its x).go i H ∧ ∃ Nx : Hp → Prop, (∀ H', Nx H' → ∃ m', m' < m ∧ W (i + 1) m' H') ∧ ∀ y H', (Its x).yld i H y H' → g y (wipe σ vs) H' fun σ2 H2 => wipe σ2 vs = wipe σ vs ∧ tt σ2 H2 fun b H3 =>
        if b = true then te σ2 H3 fun y H4 => ∃ acc, H4 D = some (.lst acc) ∧ acc.length < sizeLine ∧ Nx (upd H4 D (.lst (acc ++ [y]))) else Nx H3) := by
  refine ⟨fun i m H => m = x.cps.size - i ∧ i ≤ x.cps.size ∧ Pv i H, ⟨x.cps.size, by simp, Nat.zero_le _, h0⟩, ?_⟩
  rintro i m H ⟨rfl, hi, p⟩
  by_cases hlt : i < x.cps.size
  · refine .inr ⟨hlt, Pv (i + 1), fun H' p' => ⟨x.cps.size - (i + 1), by omega, rfl, hlt, p'⟩, fun y H' q => ?_⟩
    obtain ⟨e, c, hc, ev⟩ := q
    subst e ev
    exact hs i c _ hc p
  · have e : i = x.cps.size := by omega
    subst e
    exact .inl ⟨Nat.le_refl _, hd H p⟩
theorem ten : (Str.ofString "0123456789").cps.toList = [48, 49, 50, 51, 52, 53, 54, 55, 56, 57] := by decide +kernel
theorem in_ten (c : Nat) : decide (c ∈ (Str.ofString "0123456789").cps.toList) = dig c := by
  rw [ten]
  unfold dig
  rw [Bool.eq_iff_iff, decide_eq_true_eq, Bool.and_eq_true, decide_eq_true_eq, decide_eq_true_eq]
  simp only [List.mem_cons, List.not_mem_nil, or_false]
  omega
theorem str_nil (a : List Nat) : decide (V.str (SX.S a) = V.str (Str.ofString "")) = a.isEmpty := by
  rw [emptyS]
  cases a with
  | nil => exact decide_eq_true rfl
  | cons c r =>
    refine decide_eq_false fun z => ?_
    exact absurd (SX.S_inj (V.str.inj z)) (by simp)
/-- the text without its minus, as the law takes it -/
theorem head_cut (t : List Nat) : decide (V.str (L2.cutS (SX.S t) none (some 1)) = V.str (Str.ofString "-")) = bodyM t := by
  rw [show (1 : Int) = ((1 : Nat) : Int) from rfl, cut_to, dash]
  cases t with
  | nil =>
    refine decide_eq_false fun z => ?_
    exact absurd (SX.S_inj (V.str.inj z)) (by simp)
  | cons c r =>
    by_cases h : c = 45
    · subst h
      exact decide_eq_true rfl
    · rw [show (c :: r).take 1 = [c] from rfl, decide_eq_false fun z => h (List.cons.inj (SX.S_inj (V.str.inj z))).1]
      unfold bodyM
      split
      · rename_i e
        injection e with e1 e2
        exact absurd e1 h
      · rfl
theorem body_drop {t : List Nat} (h : bodyM t = true) : t.drop 1 = bodyL t := by
  unfold bodyM at h
  unfold bodyL
  split at h
  · rfl
  · cases h
theorem body_same {t : List Nat} (h : bodyM t = false) : bodyL t = t := by
  have e := body_at t
  rw [h] at e
  exact e.symm
theorem body_ne (t : List Nat) : decide (V.str (SX.S (bodyL t)) = V.str (SX.S t)) = !bodyM t := by
  cases h : bodyM t
  · rw [body_same h]
    exact decide_eq_true rfl
  · refine decide_eq_false fun z => ?_
    have e := congrArg List.length (SX.S_inj (V.str.inj z))
    have e2 := congrArg List.length (body_at t)
    rw [h, List.length_append] at e2
    have : (if true = true then [45] else ([] : List Nat)).length = 1 := rfl
    omega
theorem good_eq (a : List Nat) : goodW a = !(a.isEmpty || (!a.all dig || (decide (1 < a.length) && a.head? == some 48))) := by
  unfold goodW isD
  cases a.isEmpty <;> cases a.all dig <;> simp
theorem str_zero (c : Nat) : decide (V.str ⟨#[c]⟩ = V.str (Str.ofString "0")) = decide (c = 48) := by
  rw [nought]
  by_cases h : c = 48
  · subst h
    exact decide_eq_true rfl
  · rw [decide_eq_false h]
    refine decide_eq_false fun z => ?_
    exact h (List.cons.inj (congrArg (fun x : Str => x.cps.toList) (V.str.inj z))).1
theorem lawR_bad {t : List Nat} (h : (!goodW (cutL (bodyL t)).1 || ((cutL (bodyL t)).2.1 && !goodW (cutL (bodyL t)).2.2)) = true) : lawR t = none := by
  unfold lawR
  rw [if_pos h]
theorem lawR_no {t : List Nat} (h : ((cutL (bodyL t)).2.1 = true ∧ progD t < 2 ∨ Int.gcd (progN t) (progD t) ≠ 1) ∨ bodyM t = true ∧ progN t = 0) : lawR t = none := by
  unfold lawR
  rw [if_pos h]
  split <;> rfl
theorem lawR_yes {t : List Nat} (hb : (!goodW (cutL (bodyL t)).1 || ((cutL (bodyL t)).2.1 && !goodW (cutL (bodyL t)).2.2)) = false)
    (h : ¬ (((cutL (bodyL t)).2.1 = true ∧ progD t < 2 ∨ Int.gcd (progN t) (progD t) ≠ 1) ∨ bodyM t = true ∧ progN t = 0)) : lawR t = some (progN t, progD t) := by
  unfold lawR
  rw [hb, if_neg (by decide), if_neg h]
theorem good_isD {a : List Nat} (h : goodW a = true) : isD a = true := by
  unfold goodW at h
  rw [Bool.and_eq_true] at h
  exact h.1
theorem int_dig {a : List Nat} (h : isD a = true) (hl : a.length ≤ 61) : intText? (SX.S a) = some ((NumText.digitsVal a : Nat) : Int) ∧ (SX.S a).length ≤ 640 := by
  obtain ⟨h1, h2⟩ := isD_iff.mp h
  refine ⟨intText_digits (x := SX.S a) h2 h1 (by rw [SX.S_len]; omega), ?_⟩
  rw [SX.S_len]
  omega
theorem gcd_n (t : List Nat) (d : Int) : Int.gcd ((NumText.digitsVal (cutL (bodyL t)).1 : Nat) : Int) d = Int.gcd (progN t) d := by
  unfold progN
  split
  · rw [Int.neg_gcd]
  · rfl
section
variable {P : Program} {w : World} {K : PySem.W.Frag} {mg : Str → Option Value} {base : Heap} {fa : Nat → Addr} {fd : Nat → FuncData}
def spPartOf : Sp := fun vs H Q _ => ∃ t : List Nat, vs = [.str (SX.S t)] ∧ t.length ≤ 61 ∧ (lawR t = none → ∀ H', Same H H' → Q .non H') ∧ (∀ f, lawR t = some f → ∀ p H', Same H H' → H' p = some (.tup [.int f.1, .int f.2]) → Q (.ref p) H')
theorem ok_part_of (T : Txt K mg fa fd) : FnOk P w K mg base CX0 3 (fa 29) (fd 29) ["_law_text"] spPartOf := by
  refine T.F_part_of.ok sc_part_of (fun vs H Q E h => ?_) (fun cdv A outer s H vs Q E hr h => ?_)
  · obtain ⟨t, rfl, _⟩ := h
    rfl
  · obtain ⟨t, rfl, hl, qn, qs⟩ := h
    have b1 := body_len t
    obtain ⟨c1, c2⟩ := cut_len (bodyL t)
    have line : ∀ {a : List Nat}, a.length ≤ 61 → (SX.S a).length ≤ sizeLine := fun {a} h => by
      rw [SX.S_len]
      exact small_line (by omega)
    have pt := cut_S (bodyL t)
    refine ⟨_, (C8.pss_cut (ps_set (i := 1) sc_part_of.nd rfl (.inl rfl) (pe_ifExp (pt_cmpR op_eq (pe_slice sl_str (pv 0) po_none (po_some pe_int)) pe_str (nomark _)) (pe_slice sl_str (pv 0) (po_some pe_int) po_none) (pv 0)))
      (C8.pss_cut (ps_asg (pe_m1 PySem.F.slot_str_partition PySem.F.type_str_partition mt_partition (pv 1) pe_str (by rfl) (by rfl) (by rfl)) (pg_tup (by rfl) (pgs_cons (pg_name (i := 2) sc_part_of.nd rfl (.inl rfl)) (pgs_cons (pg_name (i := 3) sc_part_of.nd rfl (.inl rfl)) (pgs_cons (pg_name (i := 4) sc_part_of.nd rfl (.inl rfl)) pgs_nil)))))
      (C8.pss_cut (ps_for PassesOwn.never rfl (pi_list (pe_ifExp (pt_cmpR op_ne (pv 3) pe_str (nomark _)) (pe_lst (pa_cons (pv 2) (pa_cons (pv 4) pa_nil))) (pe_lst (pa_cons (pv 2) pa_nil)))) (pg_name (i := 5) sc_part_of.nd rfl (.inl rfl)) (pss_one (ps_if (PW.pt (pw_or (pt_cmpR op_eq (pv 5) pe_str (nomark _)) (pw_or (pt_not (pt_val (pe_callB (cr_all rfl) (by rfl) T.m_all PyProof.Rows.boot_all (pa_cons (pe_lc (own := [("_law_sign", 7)]) (g := gName 7) (tt := tYes) rfl sc_part_of.nd (pi_str (pv 5)) (blkOk_by (own := [("_law_sign", 7)]) (N := ["_law_text", "_law_body", "_law_first", "_law_stroke", "_law_second", "_law_word", "_law_low_here", "_law_sign"]) (sc := defScope s_part_of) (by decide +kernel)) (fun _ _ _ _ _ => pg_name (i := 7) sc_part_of.nd rfl (Or.inl rfl)) (fun _ _ _ _ _ => pts_nil) (fun _ _ _ _ _ => (pe_cmpR op_in_sign (pv 7) pe_str (by rfl)))) pa_nil)))) (pw_or1 (PW.pt (pw_and (pt_cmpR op_gt (pe_callB call_len_str (by rfl) T.m_len PySem.boot_len (pa_cons (pv 5) pa_nil)) pe_int (nomark _)) (pw_and1 (pt_cmpR op_eq (pe_ix ix_str (pv 5) pe_int (fun _ _ => rfl)) pe_str (nomark _))))))))) (pss_one (ps_ret pe_non)) pss_nil)))
      (C8.pss_cut (ps_set (i := 6) sc_part_of.nd rfl (.inl rfl) (pe_ifExp (pt_cmpR op_ne (pv 3) pe_str (nomark _)) (pe_callTy call_int_str (by rfl) T.m_int PySem.Pv.boot_int (pa_cons (pv 4) pa_nil)) pe_int))
      (pss_cons (ps_if (PW.pt (pw_or (PW.pt (pw_and (pt_cmpR op_ne (pv 3) pe_str (nomark _)) (pw_and1 (pt_cmpR op_lt (pv 6) pe_int (nomark _))))) (pw_or (pt_cmpR op_ne (pe_call (ok_gcd T) (hr.mono (by decide)) (by rfl) T.g_gcd T.F_gcd.kp T.b_gcd .nil pass0 (pa_cons (pe_callTy call_int_str (by rfl) T.m_int PySem.Pv.boot_int (pa_cons (pv 2) pa_nil)) (pa_cons (pv 6) pa_nil))) pe_int (nomark _)) (pw_or1 (PW.pt (pw_and (pt_cmpR op_ne (pv 1) (pv 0) (nomark _)) (pw_and1 (pt_cmpR op_eq (pe_callTy call_int_str (by rfl) T.m_int PySem.Pv.boot_int (pa_cons (pv 2) pa_nil)) pe_int (nomark _))))))))) (pss_one (ps_ret pe_non)) pss_nil)
      (pss_one (ps_ret (pe_tup (pa_cons (pe_ifExp (pt_cmpR op_eq (pv 1) (pv 0) (nomark _)) (pe_callTy call_int_str (by rfl) T.m_int PySem.Pv.boot_int (pa_cons (pv 2) pa_nil)) (pe_un un_neg (pe_callTy call_int_str (by rfl) T.m_int PySem.Pv.boot_int (pa_cons (pv 2) pa_nil)))) (pa_cons (pv 6) pa_nil)))))))))), ?_⟩
    refine ⟨fun σ H1 => H1 = H ∧ σ = [some (.str (SX.S t)), some (.str (SX.S (bodyL t))), none, none, none, none, none, none], ?_, fun σ H1 hM => ?_⟩
    · refine ⟨_, rfl, _, rfl, _, rfl, line hl, rfl, _, rfl, ?_⟩
      rw [head_cut]
      refine ite2 (fun e => ?_) (fun e => ?_)
      · refine ⟨_, rfl, _, rfl, _, rfl, line hl, rfl, ?_⟩
        rw [show (1 : Int) = ((1 : Nat) : Int) from rfl, cut_from, body_drop e]
        rfl
      · refine ⟨_, rfl, rfl, ?_⟩
        rw [body_same (Bool.eq_false_iff.mpr e)]
        rfl
    · obtain ⟨h2, h3⟩ := hM
      rw [h2, h3]
      refine ⟨fun σ H1 => Same H H1 ∧ σ = [some (.str (SX.S t)), some (.str (SX.S (bodyL t))), some (.str (SX.S (cutL (bodyL t)).1)), some (.str (SX.S (if (cutL (bodyL t)).2.1 then [47] else []))), some (.str (SX.S (cutL (bodyL t)).2.2)), none, none, none], ?_, fun σ H1 hM => ?_⟩
      · refine ⟨_, rfl, ⟨_, rfl⟩, _, _, rfl, rfl, by decide +kernel, line (by omega), fun p hp => ?_⟩
        rw [stroke, pt]
        exact ⟨p, _, rfl, SqT.of upd_same, rfl, _, _, rfl, _, _, rfl, _, _, rfl, rfl, Same.new hp, rfl⟩
      · obtain ⟨s1, h3⟩ := hM
        rw [h3]
        refine ⟨fun σ H2 => Same H H2 ∧ (∃ w5, σ = [some (.str (SX.S t)), some (.str (SX.S (bodyL t))), some (.str (SX.S (cutL (bodyL t)).1)), some (.str (SX.S (if (cutL (bodyL t)).2.1 then [47] else []))), some (.str (SX.S (cutL (bodyL t)).2.2)), w5, none, none]) ∧ (!goodW (cutL (bodyL t)).1 || ((cutL (bodyL t)).2.1 && !goodW (cutL (bodyL t)).2.2)) = false, ?_, fun σ H2 hM => ?_⟩
        · obtain ⟨ws, hw⟩ : ∃ ws : List (List Nat), ws = if (cutL (bodyL t)).2.1 then [(cutL (bodyL t)).1, (cutL (bodyL t)).2.2] else [(cutL (bodyL t)).1] := ⟨_, rfl⟩
          have w61 : ∀ a ∈ ws, a.length ≤ 61 := fun a ha => by
            rw [hw] at ha
            split at ha <;> simp at ha
            · rcases ha with e | e <;> rw [e] <;> omega
            · rw [ha]
              omega
          have wbad : ∀ i a, ws[i]? = some a → goodW a = false → lawR t = none := fun i a ha hg => by
            refine lawR_bad ?_
            rw [hw] at ha
            have hm := List.mem_of_getElem? ha
            split at hm
            · rename_i e
              rw [e]
              simp at hm
              rcases hm with e2 | e2
              · rw [← e2, hg]
                rfl
              · rw [← e2, hg]
                cases goodW (cutL (bodyL t)).1 <;> rfl
            · simp at hm
              rw [← hm, hg]
              rfl
          have wall : (∀ j a, j < ws.length → ws[j]? = some a → goodW a = true) → (!goodW (cutL (bodyL t)).1 || ((cutL (bodyL t)).2.1 && !goodW (cutL (bodyL t)).2.2)) = false := fun h => by
            rw [hw] at h
            cases e : (cutL (bodyL t)).2.1
            · rw [e, if_neg (by decide)] at h
              rw [h 0 _ (by simp) rfl]
              rfl
            · rw [e, if_pos rfl] at h
              rw [h 0 _ (by simp) rfl, h 1 _ (by simp) rfl]
              rfl
          refine ⟨_, rfl, rfl, _, rfl, ?_⟩
          rw [sl_eq, Bool.not_not]
          refine ite2 (fun e => ?_) (fun e => ?_)
          · refine ⟨_, rfl, _, rfl, two_line, fun l nl => ⟨l, rfl, ⟨_, SqL.of upd_same⟩, ?_⟩⟩
            have hl2 : upd H1 l (.lst [V.str (SX.S (cutL (bodyL t)).1), V.str (SX.S (cutL (bodyL t)).2.2)]) l = some (.lst (ws.map fun a => V.str (SX.S a))) := by
              rw [upd_same, hw, if_pos e]
              rfl
            have s2 : Same H (upd H1 l (.lst [V.str (SX.S (cutL (bodyL t)).1), V.str (SX.S (cutL (bodyL t)).2.2)])) := Same.trans s1 (Same.new nl)
            generalize upd H1 l (.lst [V.str (SX.S (cutL (bodyL t)).1), V.str (SX.S (cutL (bodyL t)).2.2)]) = H2 at hl2 s2 ⊢
            refine for_list (K := K) (a := l) (xs := ws.map fun a => V.str (SX.S a)) (fun i σ H3 => Same H2 H3 ∧ (∃ w5, σ = [some (.str (SX.S t)), some (.str (SX.S (bodyL t))), some (.str (SX.S (cutL (bodyL t)).1)), some (.str (SX.S (if (cutL (bodyL t)).2.1 then [47] else []))), some (.str (SX.S (cutL (bodyL t)).2.2)), w5, none, none]) ∧ ∀ j a, j < i → ws[j]? = some a → goodW a = true)
              ⟨fun b u e => e, ⟨_, rfl⟩, fun j a h => absurd h (Nat.not_lt_zero _)⟩ (fun i σ H3 _ hp => SqL.of (hp.1 _ _ hl2)) (fun i0 x σ H3 hx hp => ?_) (fun σ H3 hp => ?_)
            · rw [List.getElem?_map] at hx
              obtain ⟨a, ha, rfl⟩ := Option.map_eq_some_iff.mp hx
              obtain ⟨s3, ⟨w5, rfl⟩, hg⟩ := hp
              have h61 := w61 a (List.mem_of_getElem? ha)
              have bad : goodW a = false → Q .non H3 := fun h => qn (wbad i0 a ha h) H3 (Same.trans s2 s3)
              refine ⟨_, rfl, rfl, _, rfl, ?_⟩
              rw [str_nil]
              refine ite2 (fun e1 => ?_) (fun e1 => ?_)
              · refine bad ?_
                rw [good_eq, e1]
                rfl
              · refine ⟨_, rfl, _, rfl, fun D nD => ?_⟩
                refine lc_str (x := SX.S a) (fun i H4 => Same H3 H4 ∧ H4 D = some (.lst ((a.take i).map fun c => V.bl (dig c)))) ⟨Same.new nD, upd_same⟩ (fun i c H4 hc hp4 => ?_) (fun H4 hp4 => ?_)
                · have hc2 : a[i]? = some c := by
                    rw [← List.getElem?_toArray]
                    exact hc
                  refine ⟨rfl, _, rfl, c, _, rfl, rfl, _, hp4.2, ?_, ?_, ?_⟩
                  · rw [List.length_map, List.length_take]
                    exact Nat.lt_of_le_of_lt (Nat.min_le_right _ _) (small1000 (by omega))
                  · exact fun b o e => by
                      rw [upd_ne (ne_of_none e nD)]
                      exact hp4.1 b o e
                  · rw [upd_same, List.take_add_one, hc2, List.map_append, in_ten]
                    rfl
                · have hD : H4 D = some (.lst ((a.map dig).map V.bl)) := by
                    have := hp4.2
                    rw [show (SX.S a).cps.size = a.length from by simp, List.take_length] at this
                    rw [this, List.map_map]
                    rfl
                  have bad4 : goodW a = false → Q .non H4 := fun h => qn (wbad _ a ha h) H4 (Same.trans s2 (Same.trans s3 hp4.1))
                  have stay : goodW a = true → Same H2 H4 ∧ (∃ w6, ([some (.str (SX.S t)), some (.str (SX.S (bodyL t))), some (.str (SX.S (cutL (bodyL t)).1)), some (.str (SX.S (if (cutL (bodyL t)).2.1 then [47] else []))), some (.str (SX.S (cutL (bodyL t)).2.2)), w5, none, none] : L2.St).set 5 (some (.str (SX.S a))) = [some (.str (SX.S t)), some (.str (SX.S (bodyL t))), some (.str (SX.S (cutL (bodyL t)).1)), some (.str (SX.S (if (cutL (bodyL t)).2.1 then [47] else []))), some (.str (SX.S (cutL (bodyL t)).2.2)), w6, none, none]) ∧ ∀ j b, j < i0 + 1 → ws[j]? = some b → goodW b = true := fun h => by
                    refine ⟨Same.trans s3 hp4.1, ⟨_, rfl⟩, fun j b hj hb => ?_⟩
                    by_cases hji : j < i0
                    · exact hg j b hji hb
                    · have : j = i0 := by omega
                      subst this
                      rw [ha] at hb
                      cases hb
                      exact h
                  refine ⟨D, _, rfl, SqL.of hD, _, rfl, ?_⟩
                  rw [List.all_map, show (id ∘ dig) = dig from rfl]
                  refine ite2 (fun e2 => ?_) (fun e2 => ?_)
                  · refine bad4 ?_
                    rw [good_eq, e2]
                    cases a.isEmpty <;> rfl
                  · have n1 : a.isEmpty = false := Bool.eq_false_iff.mpr e1
                    have n2 : (!a.all dig) = false := Bool.eq_false_iff.mpr e2
                    refine ⟨_, rfl, _, rfl, line (by omega), _, _, rfl, rfl, _, rfl, ite2 (fun e3 => ?_) (fun e3 => ?_)⟩
                    · have e4 : decide (1 < a.length) = true := by
                        have := of_decide_eq_true e3
                        rw [SX.S_len] at this
                        exact decide_eq_true (by omega)
                      obtain ⟨c, r, hcr⟩ : ∃ c r, a = c :: r := by
                        cases a with
                        | nil => cases n1
                        | cons c r => exact ⟨c, r, rfl⟩
                      have hat : atI (SX.S a).cps.toList 0 = some c := by
                        rw [hcr]
                        exact atI_nat (xs := c :: r) (j := 0) rfl
                      refine ⟨_, rfl, _, _, c, rfl, rfl, line (by omega), hat, rfl, _, rfl, ?_⟩
                      rw [str_zero]
                      have hh : (a.head? == some 48) = decide (c = 48) := by
                        rw [hcr]
                        show (some c == some 48) = _
                        by_cases h : c = 48
                        · subst h
                          rfl
                        · rw [decide_eq_false h, beq_eq_false_iff_ne]
                          intro z
                          exact h (Option.some.inj z)
                      refine ite2 (fun e5 => ?_) (fun e5 => ?_)
                      · refine bad4 ?_
                        rw [good_eq, n1, n2, e4, hh, e5]
                        rfl
                      · refine stay ?_
                        rw [good_eq, n1, n2, e4, hh, Bool.eq_false_iff.mpr e5]
                        rfl
                    · refine stay ?_
                      have e4 : decide (1 < a.length) = false := by
                        refine decide_eq_false fun h => e3 (decide_eq_true ?_)
                        rw [SX.S_len]
                        omega
                      rw [good_eq, n1, n2, e4]
                      rfl
            · rw [List.length_map] at hp
              exact ⟨Same.trans s2 hp.1, hp.2.1, wall hp.2.2⟩
          · refine ⟨_, rfl, small_line (by show 1 ≤ 1000; decide), fun l nl => ⟨l, rfl, ⟨_, SqL.of upd_same⟩, ?_⟩⟩
            have hl2 : upd H1 l (.lst [V.str (SX.S (cutL (bodyL t)).1)]) l = some (.lst (ws.map fun a => V.str (SX.S a))) := by
              rw [upd_same, hw, if_neg e]
              rfl
            have s2 : Same H (upd H1 l (.lst [V.str (SX.S (cutL (bodyL t)).1)])) := Same.trans s1 (Same.new nl)
            generalize upd H1 l (.lst [V.str (SX.S (cutL (bodyL t)).1)]) = H2 at hl2 s2 ⊢
            refine for_list (K := K) (a := l) (xs := ws.map fun a => V.str (SX.S a)) (fun i σ H3 => Same H2 H3 ∧ (∃ w5, σ = [some (.str (SX.S t)), some (.str (SX.S (bodyL t))), some (.str (SX.S (cutL (bodyL t)).1)), some (.str (SX.S (if (cutL (bodyL t)).2.1 then [47] else []))), some (.str (SX.S (cutL (bodyL t)).2.2)), w5, none, none]) ∧ ∀ j a, j < i → ws[j]? = some a → goodW a = true)
              ⟨fun b u e => e, ⟨_, rfl⟩, fun j a h => absurd h (Nat.not_lt_zero _)⟩ (fun i σ H3 _ hp => SqL.of (hp.1 _ _ hl2)) (fun i0 x σ H3 hx hp => ?_) (fun σ H3 hp => ?_)
            · rw [List.getElem?_map] at hx
              obtain ⟨a, ha, rfl⟩ := Option.map_eq_some_iff.mp hx
              obtain ⟨s3, ⟨w5, rfl⟩, hg⟩ := hp
              have h61 := w61 a (List.mem_of_getElem? ha)
              have bad : goodW a = false → Q .non H3 := fun h => qn (wbad i0 a ha h) H3 (Same.trans s2 s3)
              refine ⟨_, rfl, rfl, _, rfl, ?_⟩
              rw [str_nil]
              refine ite2 (fun e1 => ?_) (fun e1 => ?_)
              · refine bad ?_
                rw [good_eq, e1]
                rfl
              · refine ⟨_, rfl, _, rfl, fun D nD => ?_⟩
                refine lc_str (x := SX.S a) (fun i H4 => Same H3 H4 ∧ H4 D = some (.lst ((a.take i).map fun c => V.bl (dig c)))) ⟨Same.new nD, upd_same⟩ (fun i c H4 hc hp4 => ?_) (fun H4 hp4 => ?_)
                · have hc2 : a[i]? = some c := by
                    rw [← List.getElem?_toArray]
                    exact hc
                  refine ⟨rfl, _, rfl, c, _, rfl, rfl, _, hp4.2, ?_, ?_, ?_⟩
                  · rw [List.length_map, List.length_take]
                    exact Nat.lt_of_le_of_lt (Nat.min_le_right _ _) (small1000 (by omega))
                  · exact fun b o e => by
                      rw [upd_ne (ne_of_none e nD)]
                      exact hp4.1 b o e
                  · rw [upd_same, List.take_add_one, hc2, List.map_append, in_ten]
                    rfl
                · have hD : H4 D = some (.lst ((a.map dig).map V.bl)) := by
                    have := hp4.2
                    rw [show (SX.S a).cps.size = a.length from by simp, List.take_length] at this
                    rw [this, List.map_map]
                    rfl
                  have bad4 : goodW a = false → Q .non H4 := fun h => qn (wbad _ a ha h) H4 (Same.trans s2 (Same.trans s3 hp4.1))
                  have stay : goodW a = true → Same H2 H4 ∧ (∃ w6, ([some (.str (SX.S t)), some (.str (SX.S (bodyL t))), some (.str (SX.S (cutL (bodyL t)).1)), some (.str (SX.S (if (cutL (bodyL t)).2.1 then [47] else []))), some (.str (SX.S (cutL (bodyL t)).2.2)), w5, none, none] : L2.St).set 5 (some (.str (SX.S a))) = [some (.str (SX.S t)), some (.str (SX.S (bodyL t))), some (.str (SX.S (cutL (bodyL t)).1)), some (.str (SX.S (if (cutL (bodyL t)).2.1 then [47] else []))), some (.str (SX.S (cutL (bodyL t)).2.2)), w6, none, none]) ∧ ∀ j b, j < i0 + 1 → ws[j]? = some b → goodW b = true := fun h => by
                    refine ⟨Same.trans s3 hp4.1, ⟨_, rfl⟩, fun j b hj hb => ?_⟩
                    by_cases hji : j < i0
                    · exact hg j b hji hb
                    · have : j = i0 := by omega
                      subst this
                      rw [ha] at hb
                      cases hb
                      exact h
                  refine ⟨D, _, rfl, SqL.of hD, _, rfl, ?_⟩
                  rw [List.all_map, show (id ∘ dig) = dig from rfl]
                  refine ite2 (fun e2 => ?_) (fun e2 => ?_)
                  · refine bad4 ?_
                    rw [good_eq, e2]
                    cases a.isEmpty <;> rfl
                  · have n1 : a.isEmpty = false := Bool.eq_false_iff.mpr e1
                    have n2 : (!a.all dig) = false := Bool.eq_false_iff.mpr e2
                    refine ⟨_, rfl, _, rfl, line (by omega), _, _, rfl, rfl, _, rfl, ite2 (fun e3 => ?_) (fun e3 => ?_)⟩
                    · have e4 : decide (1 < a.length) = true := by
                        have := of_decide_eq_true e3
                        rw [SX.S_len] at this
                        exact decide_eq_true (by omega)
                      obtain ⟨c, r, hcr⟩ : ∃ c r, a = c :: r := by
                        cases a with
                        | nil => cases n1
                        | cons c r => exact ⟨c, r, rfl⟩
                      have hat : atI (SX.S a).cps.toList 0 = some c := by
                        rw [hcr]
                        exact atI_nat (xs := c :: r) (j := 0) rfl
                      refine ⟨_, rfl, _, _, c, rfl, rfl, line (by omega), hat, rfl, _, rfl, ?_⟩
                      rw [str_zero]
                      have hh : (a.head? == some 48) = decide (c = 48) := by
                        rw [hcr]
                        show (some c == some 48) = _
                        by_cases h : c = 48
                        · subst h
                          rfl
                        · rw [decide_eq_false h, beq_eq_false_iff_ne]
                          intro z
                          exact h (Option.some.inj z)
                      refine ite2 (fun e5 => ?_) (fun e5 => ?_)
                      · refine bad4 ?_
                        rw [good_eq, n1, n2, e4, hh, e5]
                        rfl
                      · refine stay ?_
                        rw [good_eq, n1, n2, e4, hh, Bool.eq_false_iff.mpr e5]
                        rfl
                    · refine stay ?_
                      have e4 : decide (1 < a.length) = false := by
                        refine decide_eq_false fun h => e3 (decide_eq_true ?_)
                        rw [SX.S_len]
                        omega
                      rw [good_eq, n1, n2, e4]
                      rfl
            · rw [List.length_map] at hp
              exact ⟨Same.trans s2 hp.1, hp.2.1, wall hp.2.2⟩
        · obtain ⟨s2, ⟨w5, h3⟩, hg⟩ := hM
          rw [h3]
          have g1 : goodW (cutL (bodyL t)).1 = true := by
            cases h : goodW (cutL (bodyL t)).1
            · rw [h] at hg
              cases hg
            · rfl
          have g2 : (cutL (bodyL t)).2.1 = true → goodW (cutL (bodyL t)).2.2 = true := fun z => by
            cases h : goodW (cutL (bodyL t)).2.2
            · rw [h, z, g1] at hg
              cases hg
            · rfl
          obtain ⟨val1, len1⟩ := int_dig (good_isD g1) (by omega)
          refine ⟨fun σ H3 => H3 = H2 ∧ σ = [some (.str (SX.S t)), some (.str (SX.S (bodyL t))), some (.str (SX.S (cutL (bodyL t)).1)), some (.str (SX.S (if (cutL (bodyL t)).2.1 then [47] else []))), some (.str (SX.S (cutL (bodyL t)).2.2)), w5, some (.int (progD t)), none], ?_, fun σ H3 hM => ?_⟩
          · refine ⟨_, rfl, rfl, _, rfl, ?_⟩
            rw [sl_eq, Bool.not_not]
            refine ite2 (fun e => ?_) (fun e => ?_)
            · obtain ⟨val2, len2⟩ := int_dig (good_isD (g2 e)) (by omega)
              have pd : progD t = ((NumText.digitsVal (cutL (bodyL t)).2.2 : Nat) : Int) := by
                unfold progD
                rw [if_pos e]
              refine ⟨_, rfl, _, _, rfl, val2, len2, rfl, ?_⟩
              rw [pd]
              rfl
            · have pd : progD t = 1 := by
                unfold progD
                rw [if_neg e]
              refine ⟨rfl, ?_⟩
              rw [pd]
              rfl
          · obtain ⟨h4, h5⟩ := hM
            rw [h4, h5]
            refine ⟨_, rfl, rfl, _, rfl, ?_⟩
            rw [sl_eq, Bool.not_not]
            refine ite2 (fun e1 => ?_) (fun e1 => ?_)
            · refine ⟨_, rfl, _, _, rfl, rfl, _, rfl, ite2 (fun e2 => ?_) (fun e2 => ?_)⟩
              · exact qn (lawR_no (.inl (.inl ⟨e1, of_decide_eq_true e2⟩))) H2 s2
              · refine ⟨_, rfl, _, _, rfl, val1, len1, _, rfl, _, _, rfl, rfl, _, rfl, ite2 (fun e3 => ?_) (fun e3 => ?_)⟩
                · refine qn (lawR_no (.inl (.inr fun z => ?_))) H2 s2
                  rw [gcd_n, z] at e3
                  cases e3
                · have gg : Int.gcd (progN t) (progD t) = 1 := by
                    rw [gcd_n] at e3
                    by_cases z : Int.gcd (progN t) (progD t) = 1
                    · exact z
                    · refine absurd ?_ e3
                      rw [Bool.not_eq_true', decide_eq_false_iff_not]
                      intro y
                      have := V.int.inj y
                      exact z (by omega)
                  refine ⟨_, rfl, _, rfl, rfl, _, rfl, ?_⟩
                  rw [body_ne, Bool.not_not]
                  refine ite2 (fun e4 => ?_) (fun e4 => ?_)
                  · refine ⟨_, rfl, _, _, rfl, val1, len1, rfl, _, rfl, ite2 (fun e5 => ?_) (fun e5 => ?_)⟩
                    · refine qn (lawR_no (.inr ⟨e4, ?_⟩)) H2 s2
                      have := V.int.inj (of_decide_eq_true e5)
                      unfold progN
                      rw [e4, if_pos rfl]
                      omega
                    · have e5 : progN t ≠ 0 := fun z => by
                        refine e5 (decide_eq_true ?_)
                        unfold progN at z
                        rw [e4, if_pos rfl] at z
                        have : ((NumText.digitsVal (cutL (bodyL t)).1 : Nat) : Int) = 0 := by omega
                        rw [this]
                      refine ⟨_, rfl, _, rfl, rfl, _, rfl, ?_⟩
                      rw [body_ne, e4]
                      refine ⟨_, rfl, _, _, rfl, val1, len1, _, rfl, _, rfl, two_line, fun p np => ?_⟩
                      refine qs _ (lawR_yes hg ?_) p _ (Same.trans s2 (Same.new np)) ?_
                      · rintro ((⟨z1, z2⟩ | z) | ⟨z1, z2⟩)
                        · exact e2 (decide_eq_true z2)
                        · exact z gg
                        · exact e5 z2
                      · rw [upd_same]
                        have : progN t = -((NumText.digitsVal (cutL (bodyL t)).1 : Nat) : Int) := by
                          unfold progN
                          rw [e4]
                          rfl
                        rw [this]
                  · have e4 : bodyM t = false := Bool.eq_false_iff.mpr e4
                    refine ⟨_, rfl, _, rfl, rfl, _, rfl, ?_⟩
                    rw [body_ne, e4]
                    refine ⟨_, rfl, _, _, rfl, val1, len1, _, rfl, two_line, fun p np => ?_⟩
                    refine qs _ (lawR_yes hg ?_) p _ (Same.trans s2 (Same.new np)) ?_
                    · rintro ((⟨z1, z2⟩ | z) | ⟨z1, z2⟩)
                      · exact e2 (decide_eq_true z2)
                      · exact z gg
                      · rw [e4] at z1; cases z1
                    · rw [upd_same]
                      have : progN t = ((NumText.digitsVal (cutL (bodyL t)).1 : Nat) : Int) := by
                        unfold progN
                        rw [e4]
                        rfl
                      rw [this]
            · refine ⟨_, rfl, _, _, rfl, val1, len1, _, rfl, _, _, rfl, rfl, _, rfl, ite2 (fun e3 => ?_) (fun e3 => ?_)⟩
              · refine qn (lawR_no (.inl (.inr fun z => ?_))) H2 s2
                rw [gcd_n, z] at e3
                cases e3
              · have gg : Int.gcd (progN t) (progD t) = 1 := by
                  rw [gcd_n] at e3
                  by_cases z : Int.gcd (progN t) (progD t) = 1
                  · exact z
                  · refine absurd ?_ e3
                    rw [Bool.not_eq_true', decide_eq_false_iff_not]
                    intro y
                    have := V.int.inj y
                    exact z (by omega)
                refine ⟨_, rfl, _, rfl, rfl, _, rfl, ?_⟩
                rw [body_ne, Bool.not_not]
                refine ite2 (fun e4 => ?_) (fun e4 => ?_)
                · refine ⟨_, rfl, _, _, rfl, val1, len1, rfl, _, rfl, ite2 (fun e5 => ?_) (fun e5 => ?_)⟩
                  · refine qn (lawR_no (.inr ⟨e4, ?_⟩)) H2 s2
                    have := V.int.inj (of_decide_eq_true e5)
                    unfold progN
                    rw [e4, if_pos rfl]
                    omega
                  · have e5 : progN t ≠ 0 := fun z => by
                      refine e5 (decide_eq_true ?_)
                      unfold progN at z
                      rw [e4, if_pos rfl] at z
                      have : ((NumText.digitsVal (cutL (bodyL t)).1 : Nat) : Int) = 0 := by omega
                      rw [this]
                    refine ⟨_, rfl, _, rfl, rfl, _, rfl, ?_⟩
                    rw [body_ne, e4]
                    refine ⟨_, rfl, _, _, rfl, val1, len1, _, rfl, _, rfl, two_line, fun p np => ?_⟩
                    refine qs _ (lawR_yes hg ?_) p _ (Same.trans s2 (Same.new np)) ?_
                    · rintro ((⟨z1, z2⟩ | z) | ⟨z1, z2⟩)
                      · exact e1 z1
                      · exact z gg
                      · exact e5 z2
                    · rw [upd_same]
                      have : progN t = -((NumText.digitsVal (cutL (bodyL t)).1 : Nat) : Int) := by
                        unfold progN
                        rw [e4]
                        rfl
                      rw [this]
                · have e4 : bodyM t = false := Bool.eq_false_iff.mpr e4
                  refine ⟨_, rfl, _, rfl, rfl, _, rfl, ?_⟩
                  rw [body_ne, e4]
                  refine ⟨_, rfl, _, _, rfl, val1, len1, _, rfl, two_line, fun p np => ?_⟩
                  refine qs _ (lawR_yes hg ?_) p _ (Same.trans s2 (Same.new np)) ?_
                  · rintro ((⟨z1, z2⟩ | z) | ⟨z1, z2⟩)
                    · exact e1 z1
                    · exact z gg
                    · rw [e4] at z1; cases z1
                  · rw [upd_same]
                    have : progN t = ((NumText.digitsVal (cutL (bodyL t)).1 : Nat) : Int) := by
                      unfold progN
                      rw [e4]
                      rfl
                    rw [this]
end
section
variable {P : Program} {w : World} {K : PySem.W.Frag} {mg : Str → Option Value} {base : Heap} {fa : Nat → Addr} {fd : Nat → FuncData}
/-! ### what is told of an error -/
def tagsV (l : List String) : List V := l.map fun x => V.str (Str.ofString x)
def fieldOf (tag : Str) : Option Str :=
  if inV (.str tag) (tagsV ["InvalidRatio", "InvalidTimes", "InvalidLimit"]) = true then some "given" else
  if inV (.str tag) (tagsV ["InvalidRow", "InvalidTie", "InvalidWish", "ParseError"]) = true then some "at" else
  if inV (.str tag) (tagsV ["InvalidName", "SameName", "UnknownName"]) = true then some "name" else
  if inV (.str tag) (tagsV ["DuplicateLabel", "UnknownLabel"]) = true then some "label" else
  if decide (V.str tag = V.str "NotTied") = true then some "many" else
  if decide (V.str tag = V.str "CapacityExceeded") = true then some "most" else
  if decide (V.str tag = V.str "InvalidCommand") = true then some "first" else none
def FldOk (K : PySem.W.Frag) (C : Addr) (fs : List (Str × V)) (tag : Str) (v : V) : Prop := match fieldOf tag with
  | some n => PySem.W.findIn K (.ref C) n = some none ∧ fs.lookup n = some v
  | none => v = .non
def spField (K : PySem.W.Frag) (p : Addr × Obj) : Sp := fun vs H Q _ => vs = [.ref p.1] ∧ ∃ (C dd : Addr) (fs : List (Str × V)) (tag : Str) (v : V), Xat K p C dd ∧ PySem.W.findIn K (.ref C) "tag" = some none ∧ H dd = some (.xd fs) ∧ fs.lookup ("tag" : Str) = some (.str tag) ∧ FldOk K C fs tag v ∧
  ∀ H', Same H H' → Q v H'
theorem fld_of {K : PySem.W.Frag} {C : Addr} {fs : List (Str × V)} {tag : Str} {v : V} {n : Str} (h : FldOk K C fs tag v) (e : fieldOf tag = some n) : PySem.W.findIn K (.ref C) n = some none ∧ fs.lookup n = some v := by
  unfold FldOk at h
  rw [e] at h
  exact h
theorem fld_none {K : PySem.W.Frag} {C : Addr} {fs : List (Str × V)} {tag : Str} {v : V} (h : FldOk K C fs tag v) (e : fieldOf tag = none) : v = .non := by
  unfold FldOk at h
  rw [e] at h
  exact h
theorem ok_field (T : Txt K mg fa fd) : FnP P w K mg base 1 (fa 24) (fd 24) ["_law_e"] (spField K) := by
  refine fn_ofP T.F_field sc_field (fun p vs H Q E h => ?_) (fun cdv A outer s H vs Q p hr h => ?_)
  · obtain ⟨rfl, _⟩ := h
    rfl
  · obtain ⟨rfl, C, dd, fs, tag, v, X, ht, hd, lt, hf, q⟩ := h
    refine ⟨_, (pss_cons (ps_if (pt_cmpR op_in_seq (pe_xp (by exact List.mem_cons_self) (pv 0)) (pe_tup (pa_cons pe_str (pa_cons pe_str (pa_cons pe_str pa_nil)))) (by rfl)) (pss_one (ps_ret (pe_xp (by exact List.mem_cons_self) (pv 0)))) pss_nil)
      (pss_cons (ps_if (pt_cmpR op_in_seq (pe_xp (by exact List.mem_cons_self) (pv 0)) (pe_tup (pa_cons pe_str (pa_cons pe_str (pa_cons pe_str (pa_cons pe_str pa_nil))))) (by rfl)) (pss_one (ps_ret (pe_xp (by exact List.mem_cons_self) (pv 0)))) pss_nil)
      (pss_cons (ps_if (pt_cmpR op_in_seq (pe_xp (by exact List.mem_cons_self) (pv 0)) (pe_tup (pa_cons pe_str (pa_cons pe_str (pa_cons pe_str pa_nil)))) (by rfl)) (pss_one (ps_ret (pe_xp (by exact List.mem_cons_self) (pv 0)))) pss_nil)
      (pss_cons (ps_if (pt_cmpR op_in_seq (pe_xp (by exact List.mem_cons_self) (pv 0)) (pe_tup (pa_cons pe_str (pa_cons pe_str pa_nil))) (by rfl)) (pss_one (ps_ret (pe_xp (by exact List.mem_cons_self) (pv 0)))) pss_nil)
      (pss_cons (ps_if (pt_cmpR op_eq (pe_xp (by exact List.mem_cons_self) (pv 0)) pe_str (nomark _)) (pss_one (ps_ret (pe_xp (by exact List.mem_cons_self) (pv 0)))) pss_nil)
      (pss_cons (ps_if (pt_cmpR op_eq (pe_xp (by exact List.mem_cons_self) (pv 0)) pe_str (nomark _)) (pss_one (ps_ret (pe_xp (by exact List.mem_cons_self) (pv 0)))) pss_nil)
      (pss_one (ps_ret (pe_ifExp (pt_cmpR op_eq (pe_xp (by exact List.mem_cons_self) (pv 0)) pe_str (nomark _)) (pe_xp (by exact List.mem_cons_self) (pv 0)) pe_non))))))))), ?_⟩
    refine ⟨_, rfl, rfl, C, dd, fs, _, X, ht, hd, lt, Nat.le_of_lt (small1000 (by show 3 ≤ 1000; decide)), fun p1 n1 => ?_⟩
    have s1 := same_upd (o := .tup (tagsV ["InvalidRatio", "InvalidTimes", "InvalidLimit"])) n1
    refine ⟨p1, _, rfl, .inr (SqT.of upd_same), rfl, rfl, _, rfl, ite2 (fun e1 => ?_) (fun e1 => ?_)⟩
    · have hn := fld_of hf (show fieldOf tag = some "given" from if_pos e1)
      exact ⟨_, rfl, rfl, C, dd, fs, _, X, hn.1, s1 _ _ hd, hn.2, q _ s1⟩
    have hd1 := s1 _ _ hd
    refine ⟨_, rfl, rfl, C, dd, fs, _, X, ht, hd1, lt, Nat.le_of_lt (small1000 (by show 4 ≤ 1000; decide)), fun p2 n2 => ?_⟩
    have s2 := s1.trans (same_upd (o := .tup (tagsV ["InvalidRow", "InvalidTie", "InvalidWish", "ParseError"])) n2)
    refine ⟨p2, _, rfl, .inr (SqT.of upd_same), rfl, rfl, _, rfl, ite2 (fun e2 => ?_) (fun e2 => ?_)⟩
    · have hn := fld_of hf (show fieldOf tag = some "at" from (if_neg e1).trans (if_pos e2))
      exact ⟨_, rfl, rfl, C, dd, fs, _, X, hn.1, s2 _ _ hd, hn.2, q _ s2⟩
    have hd2 := s2 _ _ hd
    refine ⟨_, rfl, rfl, C, dd, fs, _, X, ht, hd2, lt, Nat.le_of_lt (small1000 (by show 3 ≤ 1000; decide)), fun p3 n3 => ?_⟩
    have s3 := s2.trans (same_upd (o := .tup (tagsV ["InvalidName", "SameName", "UnknownName"])) n3)
    refine ⟨p3, _, rfl, .inr (SqT.of upd_same), rfl, rfl, _, rfl, ite2 (fun e3 => ?_) (fun e3 => ?_)⟩
    · have hn := fld_of hf (show fieldOf tag = some "name" from (if_neg e1).trans ((if_neg e2).trans (if_pos e3)))
      exact ⟨_, rfl, rfl, C, dd, fs, _, X, hn.1, s3 _ _ hd, hn.2, q _ s3⟩
    have hd3 := s3 _ _ hd
    refine ⟨_, rfl, rfl, C, dd, fs, _, X, ht, hd3, lt, two_line, fun p4 n4 => ?_⟩
    have s4 := s3.trans (same_upd (o := .tup (tagsV ["DuplicateLabel", "UnknownLabel"])) n4)
    refine ⟨p4, _, rfl, .inr (SqT.of upd_same), rfl, rfl, _, rfl, ite2 (fun e4 => ?_) (fun e4 => ?_)⟩
    · have hn := fld_of hf (show fieldOf tag = some "label" from (if_neg e1).trans ((if_neg e2).trans ((if_neg e3).trans (if_pos e4))))
      exact ⟨_, rfl, rfl, C, dd, fs, _, X, hn.1, s4 _ _ hd, hn.2, q _ s4⟩
    have hd4 := s4 _ _ hd
    refine ⟨_, rfl, rfl, C, dd, fs, _, X, ht, hd4, lt, rfl, _, rfl, ite2 (fun e5 => ?_) (fun e5 => ?_)⟩
    · have hn := fld_of hf (show fieldOf tag = some "many" from (if_neg e1).trans ((if_neg e2).trans ((if_neg e3).trans ((if_neg e4).trans (if_pos e5)))))
      exact ⟨_, rfl, rfl, C, dd, fs, _, X, hn.1, hd4, hn.2, q _ s4⟩
    refine ⟨_, rfl, rfl, C, dd, fs, _, X, ht, hd4, lt, rfl, _, rfl, ite2 (fun e6 => ?_) (fun e6 => ?_)⟩
    · have hn := fld_of hf (show fieldOf tag = some "most" from (if_neg e1).trans ((if_neg e2).trans ((if_neg e3).trans ((if_neg e4).trans ((if_neg e5).trans (if_pos e6))))))
      exact ⟨_, rfl, rfl, C, dd, fs, _, X, hn.1, hd4, hn.2, q _ s4⟩
    refine ⟨_, rfl, rfl, C, dd, fs, _, X, ht, hd4, lt, rfl, _, rfl, ite2 (fun e7 => ?_) (fun e7 => ?_)⟩
    · have hn := fld_of hf (show fieldOf tag = some "first" from (if_neg e1).trans ((if_neg e2).trans ((if_neg e3).trans ((if_neg e4).trans ((if_neg e5).trans ((if_neg e6).trans (if_pos e7)))))))
      exact ⟨_, rfl, rfl, C, dd, fs, _, X, hn.1, hd4, hn.2, q _ s4⟩
    · have hn := fld_none hf (show fieldOf tag = none from (if_neg e1).trans ((if_neg e2).trans ((if_neg e3).trans ((if_neg e4).trans ((if_neg e5).trans ((if_neg e6).trans (if_neg e7)))))))
      rw [hn] at q
      exact q _ s4
end
section
variable {fa : Nat → Addr} {fd : Nat → FuncData}
/-- an error, as why tells of it -/
def WhyE (K : PySem.W.Frag) (Tie Miss : Addr) (Q : VK) : XK := fun cls d H' => ∃ (C dd : Addr) (fs : List (Str × V)) (tag : Str) (v : V), cls = .ref C ∧ d = some dd ∧ PySem.W.exmAny K (.ref C) [.ref Tie, .ref Miss] = some true ∧ XfC K C ∧ PySem.W.findIn K (.ref C) "tag" = some none ∧ H' dd = some (.xd fs) ∧
  fs.lookup ("tag" : Str) = some (.str tag) ∧ FldOk K C fs tag v ∧ ∀ p H'', Same H' H'' → H'' p = some (.tup [.str tag, v]) → Q (.ref p) H''
def TTWhy (K : PySem.W.Frag) (Tie Miss : Addr) : (XK → Hp → VK → Prop) → Hp → VK → Prop := fun tl H Q => ∀ (H1 : Hp) (Q' : VK) (E' : XK), Same H H1 → (∀ v H', (∀ p, H' p = none → Q (.ref p) (upd H' p (.tup [.str "", v]))) → Q' v H') →
  (∀ cls d H', WhyE K Tie Miss Q cls d H' → E' cls d H') → tl E' H1 Q'
def tSuite (K : PySem.W.Frag) : Addr → Value → Option Addr → TS := fun a cls d D σ H => ∃ (C dd : Addr) (fs : List (Str × V)) (tag : Str) (v : V), cls = .ref C ∧ d = some dd ∧ XfC K C ∧ PySem.W.findIn K (.ref C) "tag" = some none ∧ H dd = some (.xd fs) ∧
  fs.lookup ("tag" : Str) = some (.str tag) ∧ FldOk K C fs tag v ∧ (σ.length = 3 → σ[2]? = some (some (.ref a))) ∧ ∀ p H'', σ.length = 3 → Same H H'' → H'' p = some (.tup [.str tag, v]) → D.nx (σ.set 1 (some (.ref p))) H''
theorem why_gives {X : Cx} (T : Txt X.K X.mg fa fd) {k : Nat} (hr : Room (k + 2) X.A) {cdg : Value} {q : Str} : LamX.GivesTo X ["_law_ask", "_law_told", "_law_e"] "_law_why" (defScope s_why) (fa 25) cdg (defBody s_why) "_law_ask" q (TTWhy X.K (fa 1) (fa 4)) := by
  intro f c' s H Q tl act hc h
  have F : FnP X.prog X.w X.K X.mg X.base 1 (fa 24) (fd 24) ["_law_e"] (spField X.K) := ok_field T
  refine ⟨_, pss_cons (ps_set (i := 1) sc_why.nd rfl (.inl rfl) (pe_tup (pa_cons pe_str (pa_cons pe_non pa_nil))))
    (pss_cons (ps_try_tup (i := 2) (tb := fun W D σ H => ∃ Ech : XK, (∀ cls d σ' H', Ech cls d H' → W cls d σ' H') ∧ σ[0]? = some (some (.ref f)) ∧ H c' = some (LamX.CodeO c' q) ∧ tl Ech H fun v H' => [V.str "", v].length ≤ sizeLine ∧ ∀ p, H' p = none → D.nx (σ.set 1 (some (.ref p))) (upd H' p (.tup [.str "", v]))) (ts := tSuite X.K)
        rfl rfl sc_why.nd rfl rfl rfl T.gTieError rfl T.gMissing (fun W pn xe tk _ => ?_) (fun a oe cls d pn hz hf => ?_))
    (pss_one (ps_ret (pv 1)))), ?_⟩
  · refine ⟨fun pins s' σ H' D I h' => ?_⟩
    obtain ⟨Ech, hW, h1, h2, h3⟩ := h'
    exact (pss_one (ps_set (i := 1) sc_why.nd rfl (.inl rfl) (pe_tup (pa_cons pe_str (pa_cons (act W pn xe Ech _ _ tk hW) pa_nil))))).run pins s' σ H' D I ⟨h1, h2, h3⟩
  · refine ⟨fun pins s' σ H' D I h' => ?_⟩
    obtain ⟨C, dd, fs, tag, v, rfl, rfl, xf, ht, hd, lt, hv, h2, h3⟩ := h'
    have l3 : σ.length = 3 := I.len
    have h2 := h2 l3
    have hx : Xat X.K (a, oe) C dd := ⟨hz, hf, xf⟩
    refine (pss_one (ps_set (i := 1) sc_why.nd rfl (.inl rfl) (pe_tup (pa_cons (pe_xp (X := (cxOf C8.CX0 X.prog X.w X.K X.mg X.base ["_law_ask", "_law_told", "_law_e"] "_law_why" (defScope s_why) (fa 25) cdg X.A X.stack s H C8.E0).nox.suite a ((a, oe) :: pn)) (p := (a, oe)) (by exact List.mem_cons_self) (pv 2)) (pa_cons (pe_callP (X := (cxOf C8.CX0 X.prog X.w X.K X.mg X.base ["_law_ask", "_law_told", "_law_e"] "_law_why" (defScope s_why) (fa 25) cdg X.A X.stack s H C8.E0).nox.suite a ((a, oe) :: pn)) (p := (a, oe)) F ?_ (by exact List.mem_cons_self) (by rfl) T.g_field T.F_field.kp T.b_field (pa_cons (pv 2) pa_nil)) pa_nil))))).run pins s' σ H' D I ?_
    · have r := hr.deeper (envOfC "_law_why" (defScope s_why) s.heap.objs.size (fa 25) cdg)
      exact ⟨by have := r.dp; show (X.A.deeper (envOfC "_law_why" (defScope s_why) s.heap.objs.size (fa 25) cdg)).depth + 3 * 1 + 5 < recursionLimit; omega, by have := r.un; show (X.A.deeper (envOfC "_law_why" (defScope s_why) s.heap.objs.size (fa 25) cdg)).units + 16 * 1 + 200 < cLine; omega⟩
    · refine ⟨_, h2, rfl, C, dd, fs, _, hx, ht, hd, lt, _, h2, rfl, C, dd, fs, tag, v, hx, ht, hd, lt, hv, fun H2 s2 => ⟨two_line, fun p np => ?_⟩⟩
      exact h3 p _ l3 (s2.trans (same_upd np)) upd_same
  · refine ⟨two_line, fun p np => ⟨WhyE X.K (fa 1) (fa 4) Q, ?_, rfl, same_upd np _ _ hc, h _ _ _ (same_upd np) (fun v H' hQ => ⟨two_line, fun p np => ⟨_, rfl, hQ p np⟩⟩) fun _ _ _ z => z⟩⟩
    rintro cls d σ' H' ⟨C, dd, fs, tag, v, rfl, rfl, ha, xf, ht, hd, lt, hv, h3⟩
    refine ⟨ha, fun a na => ⟨C, dd, fs, tag, v, rfl, rfl, xf, ht, hd, lt, hv, fun l => ?_, fun p H'' l s2 hp => ?_⟩⟩
    · rw [List.length_set] at l
      rw [List.getElem?_set_self (by omega)]
    · rw [List.length_set] at l
      match σ', l with
      | [a0, a1, a2], _ => exact ⟨_, rfl, h3 p H'' s2 hp⟩
end
section
variable {fa : Nat → Addr} {fd : Nat → FuncData}
/-- why(lambda: body) -/
theorem pe_why {X : Cx} (T : Txt X.K X.mg fa fd) {c P : Addr} {k : Nat} {params : Arguments} {body : Expr} {scope : Scope} {t : XK → TE} {p lpos pos : Pos} (TB : LamX.TabB X.base X.mg c P) (hcode : X.env.code = .ref c) (hr : Room (k + 2) X.A) (hg : Gl X "_law_why") (L : LamX.LamS X.env.scope scope)
    (hbody : ∀ (A : Around) (outer : List Env) (s : Shared) (H : Hp) (E : XK) (f c' : Addr), Room k (A.deeper (LamX.lamEnv X scope s.heap.objs.size f c')) → PE (LamX.lamCx X A outer s H E scope f c') body (t E))
    (hdef : defaultsOf params X.env = ([], []) := by rfl) (hbind : ∀ (q : Str) (cl : List (Str × Addr)) (pm cv ctv : Value), bindArgs (PySem.W.kla_fn "<lambda>" q params body scope cl pm cv ctv) ⟨[], []⟩ = pure [] := by intros; rfl) :
    PE X (.Call (.Name "_law_why" p) [.Lambda params body scope lpos] [] pos) (LamX.tLam [(P, X.env.qual ++ "<lambda>")] (TTWhy X.K (fa 1) (fa 4)) t) := by
  obtain ⟨oc, od, kV, doc, pm, an, cdv, ct, osl, e, lk, hcd⟩ := T.F_why.ex
  rw [e] at lk
  have hb := T.b_why
  rw [e] at hb
  refine LamX.pe_lamcall (X := X) (T := [(P, X.env.qual ++ "<lambda>")]) (a := "_law_ask") (Ng := ["_law_ask", "_law_told", "_law_e"]) hg T.g_why T.F_why.kp lk hcd hb sc_why rfl (.inl rfl) (why_gives T hr) TB hcode List.mem_cons_self (fun q hq _ => ?_) hr L hdef hbind hbody
  rw [List.mem_singleton.mp hq]
end
/-! ### more of heaps, data, errors -/
theorem tabs_but {L : List (Addr × Str)} {H H' : Hp} {a c : Addr} (hF : FeedOk H a c) (b : But a H H') (t : LamX.Tabs L H) : LamX.Tabs L H' := fun p hp => by
  obtain ⟨ns, k, big, mark, ha, _⟩ := hF
  obtain ⟨ps, h1, h2, h3⟩ := t p hp
  refine ⟨ps, b _ _ (ne_of h1 ha (by intro z; cases z)) h1, h2, fun pos cv hc => ?_⟩
  obtain ⟨c', e1, e2⟩ := h3 pos cv hc
  exact ⟨c', e1, b _ _ (ne_of e2 ha (by intro z; unfold LamX.CodeO at z; cases z)) e2⟩
theorem FeedOk.ext {H H' : Hp} {a c : Addr} (h : FeedOk H a c) (s : LamX.ExtN H H') : FeedOk H' a c := by
  obtain ⟨ns, k, big, mark, h1, h2, h3⟩ := h
  exact ⟨ns, k, big, mark, s _ _ h1 (by intro ps z; cases z), s _ _ h2 (by intro ps z; cases z), h3⟩
theorem eqd_bl {H : Hp} {n : Nat} (b : Bool) : Eqd H n (.bl b) (.bl b) := Eqd.leaf ⟨rfl, .inr (.inl ⟨b, rfl⟩)⟩
def Fr (H : Hp) (p : Addr) (f : Int × Int) : Prop := H p = some (.tup [.int f.1, .int f.2])
theorem Fr.ext {H H' : Hp} {p : Addr} {f : Int × Int} (h : Fr H p f) (s : LamX.ExtN H H') : Fr H' p f := s _ _ h (by intro ps z; cases z)
theorem Fr.but {H H' : Hp} {a c p : Addr} {f : Int × Int} (hF : FeedOk H a c) (b : But a H H') (h : Fr H p f) : Fr H' p f := by
  obtain ⟨ns, k, big, mark, ha, _⟩ := hF
  exact b _ _ (ne_of h ha (by intro z; cases z)) h
theorem eqd_fr {H : Hp} {p q : Addr} {f : Int × Int} (h1 : Fr H p f) (h2 : Fr H q f) : Eqd H 1 (.ref p) (.ref q) := by
  refine .inr ⟨p, q, _, _, rfl, rfl, .inr ⟨h1, h2⟩, rfl, (by show 2 ≤ 1000; decide), fun i y z e1 e2 => ?_⟩
  have e : y = z := Option.some.inj (e1.symm.trans e2)
  subst e
  match i, e1 with
  | 0, e1 => cases e1; exact ⟨rfl, .inr (.inr (.inl ⟨_, rfl⟩))⟩
  | 1, e1 => cases e1; exact ⟨rfl, .inr (.inr (.inl ⟨_, rfl⟩))⟩
theorem Eqd.up {H : Hp} : ∀ {n : Nat} {v w : V}, Eqd H n v w → Eqd H (n + 1) v w
  | 0, _, _, h => .inl h
  | n + 1, _, _, h => by
    rcases h with h | ⟨a, b, xs, ys, e1, e2, h, l1, l2, r⟩
    · exact .inl h
    · exact .inr ⟨a, b, xs, ys, e1, e2, h, l1, l2, fun i x y h1 h2 => Eqd.up (r i x y h1 h2)⟩
section
variable {P : Program} {w : World} {K : PySem.W.Frag} {mg : Str → Option Value} {base : Heap} {fa : Nat → Addr} {fd : Nat → FuncData}
def tbs (Pt : Addr) : List (Addr × Str) := [(Pt, (("law" : Str) ++ ".<locals>.") ++ "<lambda>")]
theorem fieldOf_ratio : fieldOf "InvalidRatio" = some "given" := by decide +kernel
theorem why_ratio (T : Txt K mg fa fd) {Q : VK} {d : Addr} {H : Hp} (hd : H d = some (.xd [("tag", .str "InvalidRatio"), ("given", .int 0)])) (q : ∀ p H'', Same H H'' → H'' p = some (.tup [.str "InvalidRatio", .int 0]) → Q (.ref p) H'') :
    WhyE K (fa 1) (fa 4) Q (.ref (fa 2)) (some d) H := by
  refine ⟨_, d, _, "InvalidRatio", .int 0, rfl, rfl, T.eInvalidRatio.any, T.eInvalidRatio.xf, T.eInvalidRatio.tag, hd, by decide +kernel, ?_, q⟩
  unfold FldOk
  rw [fieldOf_ratio]
  exact ⟨T.nInvalidRatio_given, by decide +kernel⟩
theorem one_line : 1 ≤ sizeLine := Nat.le_trans (by decide : 1 ≤ 2) two_line
theorem four_line : 4 ≤ sizeLine := Nat.le_trans (by decide : 4 ≤ 1000) (Nat.le_of_lt (small1000 (Nat.le_refl _)))
theorem five_line : 5 ≤ sizeLine := Nat.le_trans (by decide : 5 ≤ 1000) (Nat.le_of_lt (small1000 (Nat.le_refl _)))
end
/-! ### caught errors told -/
section
variable {P : Program} {w : World} {K : PySem.W.Frag} {mg : Str → Option Value} {base : Heap} {fa : Nat → Addr} {fd : Nat → FuncData}
theorem fieldOf_parse : fieldOf "ParseError" = some "at" := by decide +kernel
theorem why_parse (T : Txt K mg fa fd) {Q : VK} {d : Addr} {H : Hp} (hd : H d = some (.xd [("tag", .str "ParseError"), ("at", .int 0)])) (q : ∀ p H'', Same H H'' → H'' p = some (.tup [.str "ParseError", .int 0]) → Q (.ref p) H'') :
    WhyE K (fa 1) (fa 4) Q (.ref (fa 3)) (some d) H := by
  refine ⟨_, d, _, "ParseError", .int 0, rfl, rfl, T.eParseError.any, T.eParseError.xf, T.eParseError.tag, hd, by decide +kernel, ?_, q⟩
  unfold FldOk
  rw [fieldOf_parse]
  exact ⟨T.nParseError_at, by decide +kernel⟩
end
section
variable {fa : Nat → Addr} {fd : Nat → FuncData}
/-- why(lambda: body) within a comprehension -/
theorem pe_whyQ {X : Cx} {K : PySem.W.Frag} {mg : Str → Option Value} {q : Str} (eK : X.K = K) (em : X.mg = mg) (eq : X.env.qual = q) (T : Txt K mg fa fd) {c P : Addr} {k : Nat} {params : Arguments} {body : Expr} {scope : Scope} {t : XK → TE} {p lpos pos : Pos} (TB : LamX.TabB X.base mg c P) (hcode : X.env.code = .ref c) (hr : Room (k + 2) X.A) (hg : Gl X "_law_why") (L : LamX.LamS X.env.scope scope)
    (hbody : ∀ (A : Around) (outer : List Env) (s : Shared) (H : Hp) (E : XK) (f c' : Addr), Room k (A.deeper (LamX.lamEnv X scope s.heap.objs.size f c')) → PE (LamX.lamCx X A outer s H E scope f c') body (t E))
    (hdef : defaultsOf params X.env = ([], []) := by rfl) (hbind : ∀ (q : Str) (cl : List (Str × Addr)) (pm cv ctv : Value), bindArgs (PySem.W.kla_fn "<lambda>" q params body scope cl pm cv ctv) ⟨[], []⟩ = pure [] := by intros; rfl) :
    PE X (.Call (.Name "_law_why" p) [.Lambda params body scope lpos] [] pos) (LamX.tLam [(P, q ++ "<lambda>")] (TTWhy K (fa 1) (fa 4)) t) := by
  subst eK em eq
  exact pe_why T TB hcode hr hg L hbody hdef hbind
end
theorem txt_len {n d : Int} (hn : n.natAbs < 10 ^ 28) (hd : d.natAbs < 10 ^ 28) : (txtL n d).length ≤ 58 := by
  have h1 := TL.numL_len (n := n.natAbs) (k := 28) (by decide) hn
  have h2 := TL.numL_len (n := d.natAbs) (k := 28) (by decide) hd
  unfold txtL
  rw [List.length_append, List.length_append]
  have : (if n < 0 then [45] else ([] : List Nat)).length ≤ 1 := by split <;> simp
  have : (if d = 1 then [] else 47 :: TL.numL d.natAbs).length ≤ 29 := by
    split
    · simp
    · simp only [List.length_cons]
      omega
  omega
section
variable {P : Program} {w : World} {K : PySem.W.Frag} {mg : Str → Option Value} {base : Heap} {fa : Nat → Addr} {fd : Nat → FuncData}
theorem mid27 {m : Int} (h0 : 0 < m) (h : m ≤ 100000000000000000000000000000) : Mid m := ⟨h0, log2_mono (b := 100000000000000000000000000000) (by omega) (by decide +kernel)⟩
theorem log27 {v : Int} (h : v.natAbs ≤ 100000000000000000000000000000) : v.natAbs.log2 < 4096 := log2_mono h (by decide +kernel)
theorem Fr.same {H H' : Hp} {p : Addr} {f : Int × Int} (h : Fr H p f) (s : Same H H') : Fr H' p f := s _ _ h
theorem three_line : 3 ≤ sizeLine := Nat.le_trans (by decide : 3 ≤ 1000) (Nat.le_of_lt (small1000 (Nat.le_refl _)))
theorem new_ne {H : Hp} {a c p : Addr} (h : FeedOk H a c) (n : H p = none) : p ≠ a := by
  obtain ⟨_, _, _, _, ha, _⟩ := h
  exact (ne_of_none ha n).symm
def spLaw (K : PySem.W.Frag) (Pt : Addr) : Sp := fun vs H Q _ => ∃ (a : Addr) (ns : List Int), vs = [.ref a] ∧ SqL K H a (ns.map V.int) ∧ ns.length ≤ 63 ∧ LamX.Tabs (tbs Pt) H ∧ ∀ H', Q (.bl true) H'
end
def odds : List (List Nat) := [[], [45], [47], [49, 47], [47, 50], [50, 47, 52], [51, 47, 49], [48, 48], [45, 48], [49, 47, 48], [45, 45, 49], [49, 47, 45, 50], [48, 47, 49], [49, 46, 53], [32, 49], [49, 10]]
theorem odds_eq : (odds.map fun t => V.str (SX.S t)) = [.str (Str.ofString ""), .str (Str.ofString "-"), .str (Str.ofString "/"), .str (Str.ofString "1/"), .str (Str.ofString "/2"), .str (Str.ofString "2/4"), .str (Str.ofString "3/1"), .str (Str.ofString "00"), .str (Str.ofString "-0"), .str (Str.ofString "1/0"), .str (Str.ofString "--1"), .str (Str.ofString "1/-2"), .str (Str.ofString "0/1"), .str (Str.ofString "1.5"), .str (Str.ofString " 1"), .str (Str.ofString "1\n")] := by decide +kernel
theorem odds_bad : ∀ t ∈ odds, progR t = none ∧ t.length ≤ 61 := by
  have h : ∀ t ∈ odds, lawR t = none ∧ t.length ≤ 61 := by decide +kernel
  intro t ht
  rw [prog_law]
  exact h t ht
def nines : List Nat := List.replicate 31 57
def sevens : List Nat := List.replicate 31 55
abbrev N9 : Int := 9999999999999999999999999999999
abbrev N7 : Int := 7777777777777777777777777777777
theorem mul9 : Txt.mul (Str.ofString "9") 31 = SX.S nines := by decide +kernel
theorem mul7 : Txt.mul (Str.ofString "7") 31 = SX.S sevens := by decide +kernel
theorem ok9 : MulOk (Str.ofString "9") 31 := by
  unfold MulOk
  decide +kernel
theorem ok7 : MulOk (Str.ofString "7") 31 := by
  unfold MulOk
  decide +kernel
theorem prog9 : progR nines = some (N9, 1) := by
  rw [prog_law]
  decide +kernel
theorem prog7 : progR ([45, 49, 47] ++ sevens) = some (-1, N7) := by
  rw [prog_law]
  decide +kernel
theorem minus1 : (Str.ofString "-1/" : Str) = SX.S [45, 49, 47] := by decide +kernel
theorem int9 : intText? (Txt.mul (Str.ofString "9") 31) = some N9 ∧ (Txt.mul (Str.ofString "9") 31).length ≤ 640 := by
  rw [mul9]
  have := int_dig (a := nines) (by decide +kernel) (by decide)
  rw [show ((NumText.digitsVal nines : Nat) : Int) = N9 by decide +kernel] at this
  exact this
theorem int7 : intText? (Txt.mul (Str.ofString "7") 31) = some N7 ∧ (Txt.mul (Str.ofString "7") 31).length ≤ 640 := by
  rw [mul7]
  have := int_dig (a := sevens) (by decide +kernel) (by decide)
  rw [show ((NumText.digitsVal sevens : Nat) : Int) = N7 by decide +kernel] at this
  exact this
section
variable {P : Program} {w : World} {K : PySem.W.Frag} {mg : Str → Option Value} {base : Heap} {fa : Nat → Addr} {fd : Nat → FuncData}
theorem tabs_lst {L : List (Addr × Str)} {H : Hp} {D : Addr} {xs : List V} {o : HO} (t : LamX.Tabs L H) (hD : H D = some (.lst xs)) : LamX.Tabs L (upd H D o) := fun p hp => by
  obtain ⟨ps, h1, h2, h3⟩ := t p hp
  refine ⟨ps, ?_, h2, fun pos cv hc => ?_⟩
  · rw [upd_ne (ne_of h1 hD (by intro z; cases z))]
    exact h1
  · obtain ⟨c', e1, e2⟩ := h3 pos cv hc
    refine ⟨c', e1, ?_⟩
    rw [upd_ne (ne_of e2 hD (by intro z; unfold LamX.CodeO at z; cases z))]
    exact e2
theorem dp_refs {K : PySem.W.Frag} {H : Hp} : ∀ {rs : List Addr}, (∀ r ∈ rs, H r = some (.tup [.str "ParseError", .int 0])) → DpAll K H (rs.map V.ref) (List.replicate rs.length (.tuple [.str "ParseError", .int 0]))
  | [], _ => .nil
  | r :: rs, h => .cons (.tup (SqT.of (h r List.mem_cons_self)) (.cons (.str _) (.cons (.int _) .nil))) (dp_refs fun r' hr => h r' (List.mem_cons_of_mem _ hr))
theorem ok_p_law (T : Txt K mg fa fd) {c Pt : Addr} (FL : FunC K "law" s_p_law (fa 30) (fd 30) c) (TB : LamX.TabB base mg c Pt) : FnOk P w K mg base CX0 10 (fa 30) (fd 30) ["_law_script"] (spLaw K Pt) := by
  refine FL.ok sc_p_law (fun vs H Q E h => ?_) (fun A outer s H vs Q E hr h => ?_)
  · obtain ⟨a, ns, rfl, _⟩ := h
    rfl
  · obtain ⟨s0, ns, rfl, hS, hlen, hT0, q⟩ := h
    refine ⟨_, (C8.pss_cut (ps_set (i := 1) sc_p_law.nd rfl (.inl rfl) (pe_call (ok_feed T) (hr.mono (by decide)) (by rfl) T.g_feed T.F_feed.kp T.b_feed .nil pass0 (pa_cons (pv 0) pa_nil)))
      (C8.pss_cut (ps_for PassesOwn.never rfl (pi_range1 (by rfl) T.m_range (pa_cons pe_int pa_nil)) (pg_name (i := 2) sc_p_law.nd rfl (.inl rfl)) (C8.pss_cut (ps_set (i := 3) sc_p_law.nd rfl (.inl rfl) (pe_call (ok_any T) (hr.mono (by decide)) (by rfl) T.g_any T.F_any.kp T.b_any .nil pass0 (pa_cons (pv 1) (pa_cons (pe_lst (pa_cons pe_int (pa_cons pe_int (pa_cons (pe_op op_pow pe_int pe_int) (pa_cons (pe_op op_pow pe_int pe_int) pa_nil))))) pa_nil))))
      (C8.pss_cut (ps_set (i := 4) sc_p_law.nd rfl (.inl rfl) (pe_call (ok_low T) (hr.mono (by decide)) (by rfl) T.g_low T.F_low.kp T.b_low .nil pass0 (pa_cons (pe_op op_sub (pe_call (ok_draw T) (hr.mono (by decide)) (by rfl) T.g_draw T.F_draw.kp T.b_draw .nil pass0 (pa_cons (pv 1) (pa_cons (pe_op op_add (pe_op op_mul pe_int (pv 3)) pe_int) pa_nil))) (pv 3)) (pa_cons (pe_op op_add pe_int (pe_call (ok_draw T) (hr.mono (by decide)) (by rfl) T.g_draw T.F_draw.kp T.b_draw .nil pass0 (pa_cons (pv 1) (pa_cons (pe_call (ok_any T) (hr.mono (by decide)) (by rfl) T.g_any T.F_any.kp T.b_any .nil pass0 (pa_cons (pv 1) (pa_cons (pe_lst (pa_cons pe_int (pa_cons pe_int (pa_cons (pv 3) pa_nil)))) pa_nil))) pa_nil)))) pa_nil))))
      (C8.pss_cut (ps_set (i := 9) sc_p_law.nd rfl (.inl rfl) (pe_call (ok_part_text T) (hr.mono (by decide)) (by rfl) T.g_part_text T.F_part_text.kp T.b_part_text .nil pass0 (pa_cons (pv 4) pa_nil)))
      (C8.pss_cut (ps_if (pt_not (pt_val (pe_call (ok_same T 3) (hr.mono (by decide)) (by rfl) T.g_same T.F_same.kp T.b_same .nil pass0 (pa_cons (pe_lst (pa_cons (pe_call (ok_p_ratio_text T) (hr.mono (by decide)) (by rfl) T.g_p_ratio_text T.F_p_ratio_text.kp T.b_p_ratio_text .nil pass0 (pa_cons (pv 4) pa_nil)) (pa_cons (pe_call (ok_p_read_ratio T) (hr.mono (by decide)) (by rfl) T.g_p_read_ratio T.F_p_read_ratio.kp T.b_p_read_ratio .nil passL (pa_cons (pv 9) pa_nil)) pa_nil))) (pa_cons (pe_lst (pa_cons (pv 9) (pa_cons (pv 4) pa_nil))) pa_nil))))) (pss_one (ps_ret pe_bl)) pss_nil)
      (C8.pss_cut (ps_par (i := 5) (j := 6) (by rfl) sc_p_law.nd rfl rfl (by decide) rfl rfl (pa_cons (pe_call (ok_draw T) (hr.mono (by decide)) (by rfl) T.g_draw T.F_draw.kp T.b_draw .nil pass0 (pa_cons (pv 1) (pa_cons (pe_op op_add (pe_callB call_len_str (by rfl) T.m_len PySem.boot_len (pa_cons (pv 9) pa_nil)) pe_int) pa_nil))) (pa_cons (pe_call (ok_any T) (hr.mono (by decide)) (by rfl) T.g_any T.F_any.kp T.b_any .nil pass0 (pa_cons (pv 1) (pa_cons (pe_op op_cat (pe_callTy (call_list_text rfl) (by rfl) T.m_list (by decide +kernel) (pa_cons pe_str pa_nil)) (pe_lst (pa_cons pe_str (pa_cons pe_str (pa_cons pe_str pa_nil))))) pa_nil))) pa_nil)) (by rfl))
      (C8.pss_cut (ps_set (i := 12) sc_p_law.nd rfl (.inr rfl) (pe_op op_add_str (pe_op op_add_str (pe_slice sl_str (pv 9) po_none (po_some (pv 5))) (pv 6)) (pe_slice sl_str (pv 9) (po_some (pe_op op_add (pv 5) (pe_call (ok_draw T) (hr.mono (by decide)) (by rfl) T.g_draw T.F_draw.kp T.b_draw .nil pass0 (pa_cons (pv 1) (pa_cons pe_int pa_nil))))) po_none)))
      (C8.pss_cut (ps_set (i := 7) sc_p_law.nd rfl (.inl rfl) (pe_call (ok_part_of T) (hr.mono (by decide)) (by rfl) T.g_part_of T.F_part_of.kp T.b_part_of .nil pass0 (pa_cons (pv 12) pa_nil)))
      (pss_one (ps_if (pt_cmpR op_isN (pv 7) pe_non (nomark _)) (pss_one (ps_if (pt_cmpR (op_neD hr.units) (pe_why T TB rfl (hr.mono (by decide)) (by rfl) (LamX.lamS_by (by show LamX.lamSB (defScope s_p_law) _ = true; decide +kernel)) (fun A outer s H E f c2 hr2 => pe_call (k := 5) (ok_p_read_ratio T) hr2 (by rfl) T.g_p_read_ratio T.F_p_read_ratio.kp T.b_p_read_ratio .nil (passes_call (takes_of rfl rfl rfl rfl) (fun _ _ _ _ h => h)) (pa_cons (pv 12) pa_nil))) (pe_tup (pa_cons pe_str (pa_cons pe_int pa_nil))) (nomark _)) (pss_one (ps_ret pe_bl)) pss_nil)) (pss_one (ps_if (pt_not (pt_val (pe_call (ok_same T 3) (hr.mono (by decide)) (by rfl) T.g_same T.F_same.kp T.b_same .nil pass0 (pa_cons (pe_call (ok_p_read_ratio T) (hr.mono (by decide)) (by rfl) T.g_p_read_ratio T.F_p_read_ratio.kp T.b_p_read_ratio .nil passL (pa_cons (pv 12) pa_nil)) (pa_cons (pv 7) pa_nil))))) (pss_one (ps_ret pe_bl)) pss_nil))))))))))))
      (C8.pss_cut (ps_set (i := 8) sc_p_law.nd rfl (.inl rfl) (pe_lst (pa_cons pe_str (pa_cons pe_str (pa_cons pe_str (pa_cons pe_str (pa_cons pe_str (pa_cons pe_str (pa_cons pe_str (pa_cons pe_str (pa_cons pe_str (pa_cons pe_str (pa_cons pe_str (pa_cons pe_str (pa_cons pe_str (pa_cons pe_str (pa_cons pe_str (pa_cons pe_str pa_nil))))))))))))))))))
      (C8.pss_cut (ps_setLc (i := 10) (own := [("_law_text", 9)]) (g := gName 9) (tt := tYes) rfl sc_p_law.nd rfl rfl (sw_true rfl rfl rfl (by decide +kernel)) (pi_list (pv 8)) (blkOk_by (own := [("_law_text", 9)]) (N := ["_law_script", "_law_feed_here", "_law_turn", "_law_size", "_law_one", "_law_at", "_law_sign", "_law_due", "_law_odd", "_law_text", "_law_asks", "_law_long", "_law_bent"]) (sc := defScope s_p_law) (by decide +kernel)) (fun _ _ _ _ _ => pg_name (i := 9) sc_p_law.nd rfl (Or.inr rfl)) (fun _ _ _ _ _ => pts_nil) (fun _ _ _ _ _ => (pe_whyQ (X := Cx.blk _ _ _ _ _ _) (K := K) (mg := mg) (q := ("law" : Str) ++ ".<locals>.") (t := fun E => tCall (spReadR (fa 3)) [] E (tCons (tVar 9) tNil)) (k := 5) rfl rfl rfl T TB rfl (hr.mono (by decide)) (by rfl) (LamX.lamS_by (by kernel_rfl)) (fun A outer s H E f c2 hr2 => pe_call (k := 5) (ok_p_read_ratio T) hr2 (by rfl) T.g_p_read_ratio T.F_p_read_ratio.kp T.b_p_read_ratio .nil (passes_call (takes_of rfl rfl rfl rfl) (fun _ _ _ _ h => h)) (pa_cons (pv 9) pa_nil)))))
      (C8.pss_cut (ps_set (i := 11) sc_p_law.nd rfl (.inl rfl) (pe_lst (pa_cons (pe_call (ok_p_read_ratio T) (hr.mono (by decide)) (by rfl) T.g_p_read_ratio T.F_p_read_ratio.kp T.b_p_read_ratio .nil passL (pa_cons (pe_op op_mul_str pe_str pe_int) pa_nil)) (pa_cons (pe_call (ok_p_read_ratio T) (hr.mono (by decide)) (by rfl) T.g_p_read_ratio T.F_p_read_ratio.kp T.b_p_read_ratio .nil passL (pa_cons (pe_op op_add_str pe_str (pe_op op_mul_str pe_str pe_int)) pa_nil)) pa_nil))))
      (pss_one (ps_ret (pe_and (pe_cmpR (op_eqD hr.units) (pv 10) (pe_op op_rep (pe_lst (pa_cons (pe_tup (pa_cons pe_str (pa_cons pe_int pa_nil))) pa_nil)) (pe_callB call_len_seq (by rfl) T.m_len PySem.boot_len (pa_cons (pv 8) pa_nil))) (nomark _)) (pe_one (pe_call (ok_same T 3) (hr.mono (by decide)) (by rfl) T.g_same T.F_same.kp T.b_same .nil pass0 (pa_cons (pv 11) (pa_cons (pe_lst (pa_cons (pe_tup (pa_cons (pe_callTy call_int_str (by rfl) T.m_int PySem.Pv.boot_int (pa_cons (pe_op op_mul_str pe_str pe_int) pa_nil)) (pa_cons pe_int pa_nil))) (pa_cons (pe_tup (pa_cons (pe_un un_neg pe_int) (pa_cons (pe_callTy call_int_str (by rfl) T.m_int PySem.Pv.boot_int (pa_cons (pe_op op_mul_str pe_str pe_int) pa_nil)) pa_nil))) pa_nil))) pa_nil)))))))))))), ?_⟩
    refine ⟨fun σ H1 => ∃ a c, σ = [some (.ref s0), some (.ref a), none, none, none, none, none, none, none, none, none, none, none] ∧ FeedOk H1 a c ∧ LamX.Tabs (tbs Pt) H1, ⟨_, rfl, s0, ns, rfl, hS, hlen, fun a c H1 _ _ s1 hF => ⟨a, c, rfl, hF, hT0.ext s1⟩⟩, fun σ H1 hM => ?_⟩
    obtain ⟨a, c, rfl, hF, hT1⟩ := hM
    refine ⟨fun σ H2 => LamX.Tabs (tbs Pt) H2 ∧ ∃ y2 y3 y4 y5 y6 y7 y8 y9 y10 y11 y12, σ = [some (.ref s0), some (.ref a), y2, y3, y4, y5, y6, y7, y8, y9, y10, y11, y12], ?_, fun σ H2 hM => ?_⟩
    · refine ⟨8, rfl, by decide, by decide, for_range (n := 8) (fun i σ H2 => FeedOk H2 a c ∧ LamX.Tabs (tbs Pt) H2 ∧ ∃ y2 y3 y4 y5 y6 y7 y8 y9 y10 y11 y12, σ = [some (.ref s0), some (.ref a), y2, y3, y4, y5, y6, y7, y8, y9, y10, y11, y12]) ⟨hF, hT1, _, _, _, _, _, _, _, _, _, _, _, rfl⟩ (fun i σ H2 hi hp => ?_) (fun σ H2 hp => hp.2)⟩
      obtain ⟨hF2, hT2, y2, y3, y4, y5, y6, y7, y8, y9, y10, y11, y12, rfl⟩ := hp
      -- size
      refine ⟨fun σ H3 => FeedOk H3 a c ∧ LamX.Tabs (tbs Pt) H3 ∧ ∃ n : Int, 0 < n ∧ n ≤ 1000000000000000000000000000 ∧ ∃ y2, σ = [some (.ref s0), some (.ref a), y2, some (.int n), y4, y5, y6, y7, y8, y9, y10, y11, y12], ?_, fun σ H3 hM => ?_⟩
      · refine ⟨_, rfl, _, _, rfl, rfl, ⟨by decide, by decide, by decide⟩, _, _, rfl, rfl, ⟨by decide, by decide, by decide⟩, four_line, fun p np => ?_⟩
        refine ⟨a, c, p, _, rfl, hF2.new np, upd_same, new_ne hF2 np, by show 0 < 4; decide, by show 4 ≤ 1000; decide, fun v H3 hv hF3 b3 => ?_⟩
        have hT3 := tabs_but (hF2.new np) b3 (hT2.ext (same_upd np))
        obtain ⟨n, rfl, n0, n1⟩ : ∃ n : Int, v = .int n ∧ 0 < n ∧ n ≤ 1000000000000000000000000000 := by
          simp only [List.mem_cons, List.not_mem_nil, or_false] at hv
          rcases hv with rfl | rfl | rfl | rfl
          · exact ⟨_, rfl, by decide, by decide⟩
          · exact ⟨_, rfl, by decide, by decide⟩
          · exact ⟨_, rfl, by decide, by decide⟩
          · exact ⟨_, rfl, by decide, by decide⟩
        exact ⟨hF3, hT3, n, n0, n1, _, rfl⟩
      · clear y2 y3 hF2 hT2 H2
        obtain ⟨hF3, hT3, n, n0, n1, y2, rfl⟩ := hM
        -- one
        refine ⟨fun σ H4 => FeedOk H4 a c ∧ LamX.Tabs (tbs Pt) H4 ∧ ∃ (N D : Int) (d : Addr), Fr H4 d (N, D) ∧ 0 < D ∧ Int.gcd N D = 1 ∧ N.natAbs < 10 ^ 28 ∧ D.natAbs < 10 ^ 28 ∧ σ = [some (.ref s0), some (.ref a), y2, some (.int n), some (.ref d), y5, y6, y7, y8, y9, y10, y11, y12], ?_, fun σ H4 hM => ?_⟩
        · refine ⟨_, rfl, _, rfl, _, _, rfl, rfl, .inl (by decide), _, _, rfl, rfl, a, c, _, rfl, hF3, mid27 (by omega) (by omega), fun r H4 r0 r1 hF4 b4 => ?_⟩
          have hT4 := tabs_but hF3 b4 hT3
          refine ⟨_, rfl, _, _, rfl, rfl, _, rfl, _, rfl, _, rfl, three_line, fun p np => ?_⟩
          refine ⟨a, c, p, _, rfl, hF4.new np, upd_same, new_ne hF4 np, by show 0 < 3; decide, by show 3 ≤ 1000; decide, fun v H5 hv hF5 b5 => ?_⟩
          have hT5 := tabs_but (hF4.new np) b5 (hT4.ext (same_upd np))
          obtain ⟨m, rfl, m0, m1⟩ : ∃ m : Int, v = .int m ∧ 0 < m ∧ m ≤ 1000000000000000000000000000 := by
            simp only [List.mem_cons, List.not_mem_nil, or_false] at hv
            rcases hv with rfl | rfl | rfl
            · exact ⟨_, rfl, by decide, by decide⟩
            · exact ⟨_, rfl, by decide, by decide⟩
            · exact ⟨_, rfl, n0, n1⟩
          refine ⟨a, c, _, rfl, hF5, mid27 (by omega) (by omega), fun r2 H6 r3 r4 hF6 b6 => ?_⟩
          have hT6 := tabs_but hF5 b6 hT5
          have v0 : 1 + r2 ≠ 0 := by omega
          have ba := lowT_abs (u := r - n) v0
          have bb := lowD_abs (u := r - n) v0
          refine ⟨_, _, rfl, rfl, _, _, rfl, v0, log27 (by omega), fun d nd => ?_⟩
          refine ⟨hF6.new nd, hT6.ext (same_upd nd), lowT (r - n) (1 + r2), lowD (r - n) (1 + r2), d, upd_same, lowD_pos v0, gcd_low v0, ?_, ?_, rfl⟩
          · exact Nat.lt_of_le_of_lt (show _ ≤ 1000000000000000000000000000 by omega) (by decide)
          · exact Nat.lt_of_le_of_lt (show _ ≤ 1000000000000000000000000000 by omega) (by decide)
        · clear hF3 hT3 H3
          obtain ⟨hF4, hT4, N, D, d, hd, D0, hg, bN, bD, rfl⟩ := hM
          have hN62 : N.natAbs < 10 ^ 62 := Nat.lt_of_lt_of_le bN (by decide)
          have hD62 : D.natAbs < 10 ^ 62 := Nat.lt_of_lt_of_le bD (by decide)
          have t58 := txt_len bN bD
          -- text
          refine ⟨fun σ H5 => Same H4 H5 ∧ σ = [some (.ref s0), some (.ref a), y2, some (.int n), some (.ref d), y5, y6, y7, y8, some (.str (SX.S (txtL N D))), y10, y11, y12], ?_, fun σ H5 hM => ?_⟩
          · exact ⟨_, rfl, d, N, D, rfl, hd, D0, hN62, hD62, fun H' s' => ⟨s', rfl⟩⟩
          · obtain ⟨s5, rfl⟩ := hM
            have hF5 := hF4.same s5
            have hT5 := hT4.ext s5
            have hd5 := hd.same s5
            clear hF4 hT4
            generalize ht : txtL N D = t at t58
            have pt : progR t = some (N, D) := by rw [← ht]; exact prog_txt N D D0 hg
            -- same
            refine ⟨fun σ H6 => Same H5 H6 ∧ σ = [some (.ref s0), some (.ref a), y2, some (.int n), some (.ref d), y5, y6, y7, y8, some (.str (SX.S t)), y10, y11, y12], ?_, fun σ H6 hM => ?_⟩
            · refine ⟨_, rfl, d, N, D, rfl, hd5, D0, hN62, hD62, fun H6 s6 => ?_⟩
              rw [ht]
              refine ⟨_, rfl, t, rfl, by omega, fun z => absurd (pt.symm.trans z) (by simp), fun f hf p H7 s7 hp => ?_⟩
              rw [pt] at hf
              cases hf
              refine ⟨two_line, fun q1 n1 => ⟨_, rfl, _, rfl, two_line, fun q2 n2 => ?_⟩⟩
              have sa := same_upd (o := .lst [V.str (SX.S t), .ref p]) n1
              have sb := same_upd (o := .lst [V.str (SX.S t), .ref d]) n2
              have sc := s6.trans (s7.trans (sa.trans sb))
              refine ⟨.ref q1, .ref q2, rfl, ?_, fun H9 s9 => ⟨_, rfl, iteF ⟨sc.trans s9, rfl⟩⟩⟩
              refine .inr ⟨q1, q2, _, _, rfl, rfl, .inl ⟨sb _ _ upd_same, upd_same⟩, rfl, (by show 2 ≤ 1000; decide), fun i y z g1 g2 => ?_⟩
              match i, g1, g2 with
              | 0, g1, g2 => cases g1; cases g2; exact Eqd.leaf ⟨rfl, .inr (.inr (.inr ⟨_, rfl⟩))⟩
              | 1, g1, g2 => cases g1; cases g2; exact eqd_fr (f := (N, D)) (Fr.same hp (sa.trans sb)) (hd5.same sc)
            · obtain ⟨s6, rfl⟩ := hM
              have hF6 := hF5.same s6
              have hT6 := hT5.ext s6
              clear hF5 hT5 hd5 hd s5
              have line : (SX.S t).length ≤ sizeLine := by
                rw [SX.S_len]
                exact small_line (by omega)
              -- at, sign
              refine ⟨fun σ H7 => FeedOk H7 a c ∧ LamX.Tabs (tbs Pt) H7 ∧ ∃ (k : Nat) (sg : List Nat), k ≤ t.length ∧ sg.length ≤ 2 ∧ σ = [some (.ref s0), some (.ref a), y2, some (.int n), some (.ref d), some (.int (k : Int)), some (.str (SX.S sg)), y7, y8, some (.str (SX.S t)), y10, y11, y12], ?_, fun σ H7 hM => ?_⟩
              · refine ⟨_, rfl, _, rfl, _, rfl, line, _, _, rfl, rfl, a, c, _, rfl, hF6, mid27 (by omega) (by rw [SX.S_len]; omega), fun r H7 r0 r1 hF7 b7 => ?_⟩
                have hT7 := tabs_but hF6 b7 hT6
                refine ⟨_, rfl, _, rfl, by decide +kernel, fun p np => ⟨three_line, fun p2 np2 => ?_⟩⟩
                refine ⟨p, p2, _, _, rfl, rfl, same_upd np2 _ _ upd_same, upd_same, by decide +kernel, fun p3 np3 => ?_⟩
                have hFa := hF7.new (o := .lst ((Str.ofString "017-/ +a").cps.toList.map fun c => V.str ⟨#[c]⟩)) np
                have hFb := hFa.new (o := .lst [V.str (Str.ofString "-"), .str (Str.ofString "/"), .str (Str.ofString "00")]) np2
                refine ⟨a, c, p3, _, rfl, hFb.new np3, upd_same, new_ne hFb np3, by decide +kernel, by decide +kernel, fun v H8 hv hF8 b8 => ?_⟩
                have hT8 := tabs_but (hFb.new np3) b8 (((hT7.ext (same_upd np)).ext (same_upd np2)).ext (same_upd np3))
                obtain ⟨sg, rfl, hsg⟩ : ∃ sg : List Nat, v = .str (SX.S sg) ∧ sg.length ≤ 2 := by
                  rcases List.mem_append.mp hv with h | h
                  · obtain ⟨c, _, rfl⟩ := List.mem_map.mp h
                    exact ⟨[c], rfl, by show 1 ≤ 2; decide⟩
                  · simp only [List.mem_cons, List.not_mem_nil, or_false] at h
                    rcases h with rfl | rfl | rfl
                    · exact ⟨[45], by rw [dash], by decide⟩
                    · exact ⟨[47], by rw [stroke], by decide⟩
                    · exact ⟨[48, 48], by rw [show (Str.ofString "00" : Str) = SX.S [48, 48] by decide +kernel], by decide⟩
                obtain ⟨k, rfl⟩ := Int.eq_ofNat_of_zero_le r0
                rw [SX.S_len] at r1
                exact ⟨_, _, rfl, hF8, hT8, k, sg, by omega, hsg, rfl⟩
              · clear hF6 hT6 s6 H5 H6
                obtain ⟨hF7, hT7, k, sg, hk, hsg, rfl⟩ := hM
                -- bent
                refine ⟨fun σ H8 => FeedOk H8 a c ∧ LamX.Tabs (tbs Pt) H8 ∧ ∃ (b : List Nat) (y5 y6 : Option V), b.length ≤ 61 ∧ σ = [some (.ref s0), some (.ref a), y2, some (.int n), some (.ref d), y5, y6, y7, y8, some (.str (SX.S t)), y10, y11, some (.str (SX.S b))], ?_, fun σ H8 hM => ?_⟩
                · refine ⟨_, rfl, _, rfl, _, rfl, _, rfl, line, _, rfl, _, _, rfl, rfl, ?_, _, rfl, _, rfl, _, rfl, a, c, _, rfl, hF7, mid27 (by decide) (by decide), fun r H8 r0 r1 hF8 b8 => ?_⟩
                  · rw [cut_to, SX.S_len, SX.S_len, List.length_take]
                    exact small_line (by omega)
                  · obtain ⟨k2, rfl⟩ := Int.eq_ofNat_of_zero_le r0
                    refine ⟨_, _, rfl, rfl, _, rfl, _, rfl, line, _, _, rfl, rfl, ?_, hF8, tabs_but hF7 b8 hT7, t.take k ++ sg ++ t.drop (k + k2), some (.int (k : Int)), some (.str (SX.S sg)), ?_, ?_⟩
                    · rw [← Int.natCast_add, cut_to, cut_from, SX.S_cat, SX.S_len, SX.S_len, List.length_append, List.length_take, List.length_drop]
                      exact small_line (by omega)
                    · rw [List.length_append, List.length_append, List.length_take, List.length_drop]
                      omega
                    · rw [← Int.natCast_add, cut_to, cut_from, SX.S_cat, SX.S_cat]
                      rfl
                · clear hF7 hT7 H7 y5 y6
                  obtain ⟨hF8, hT8, b, y5, y6, hb, rfl⟩ := hM
                  -- due
                  refine ⟨fun σ H9 => Same H8 H9 ∧ ((lawR b = none ∧ σ = [some (.ref s0), some (.ref a), y2, some (.int n), some (.ref d), y5, y6, some .non, y8, some (.str (SX.S t)), y10, y11, some (.str (SX.S b))]) ∨ ∃ f p, lawR b = some f ∧ Fr H9 p f ∧ σ = [some (.ref s0), some (.ref a), y2, some (.int n), some (.ref d), y5, y6, some (.ref p), y8, some (.str (SX.S t)), y10, y11, some (.str (SX.S b))]), ?_, fun σ H9 hM => ?_⟩
                  · exact ⟨_, rfl, b, rfl, hb, fun hn H' s' => ⟨s', .inl ⟨hn, rfl⟩⟩, fun f hf p H' s' hp => ⟨s', .inr ⟨f, p, hf, hp, rfl⟩⟩⟩
                  · obtain ⟨s9, h9⟩ := hM
                    have hF9 := hF8.same s9
                    have hT9 := hT8.ext s9
                    rcases h9 with ⟨hn, rfl⟩ | ⟨f, p, hf, hp, rfl⟩
                    · refine ⟨_, rfl, rfl, _, rfl, ite2 (fun _ => ?_) (fun e => absurd (decide_eq_true rfl) e)⟩
                      refine ⟨hT9, fun H10 x10 hT10 H11 Q' E' s11 hQ hE => ?_⟩
                      have hF11 := (hF9.ext x10).same s11
                      have hT11 := hT10.ext s11
                      refine ⟨_, rfl, b, rfl, hb, fun _ dd H12 s12 hd12 => hE _ _ _ (why_parse T hd12 fun r H13 s13 hr13 => ?_), fun f hf => ?_⟩
                      · have sA := s12.trans s13
                        refine ⟨two_line, fun r2 nr2 => ?_⟩
                        have sB := same_upd (o := .tup [V.str "ParseError", .int 0]) nr2
                        refine ⟨_, _, .tup (SqT.of (sB _ _ hr13)) (.cons (.str _) (.cons (.int _) .nil)), .tup (SqT.of upd_same) (.cons (.str _) (.cons (.int _) .nil)), by decide +kernel, by decide +kernel, _, rfl, ?_⟩
                        rw [show PyData.eqv (.tuple [.str "ParseError", .int 0]) (.tuple [.str "ParseError", .int 0]) = true by decide +kernel]
                        refine iteF ?_
                        have sC := sA.trans sB
                        exact ⟨hF11.same sC, hT11.ext sC, _, _, _, _, _, _, _, _, _, _, _, rfl⟩
                      · rw [prog_law, hn] at hf
                        cases hf
                    · refine ⟨_, rfl, rfl, _, rfl, ite2 (fun e => absurd (of_decide_eq_true e) (by intro z; cases z)) (fun e => ?_)⟩
                      refine ⟨_, rfl, b, rfl, hb, fun z => ?_, fun f2 hf2 p2 H10 s10 hp2 => ?_⟩
                      · rw [prog_law, hf] at z
                        cases z
                      · rw [prog_law, hf] at hf2
                        cases hf2
                        refine ⟨_, rfl, .ref p2, .ref p, rfl, (eqd_fr (f := f) hp2 (Fr.same hp s10)).up, fun H11 s11 => ⟨_, rfl, iteF ?_⟩⟩
                        exact ⟨hF9.same (s10.trans s11), hT9.ext (s10.trans s11), _, _, _, _, _, _, _, _, _, _, _, rfl⟩
    · obtain ⟨hT2, y2, y3, y4, y5, y6, y7, y8, y9, y10, y11, y12, rfl⟩ := hM
      -- odd
      refine ⟨fun σ H3 => LamX.Tabs (tbs Pt) H3 ∧ ∃ o, H3 o = some (.lst (odds.map fun t => V.str (SX.S t))) ∧ σ = [some (.ref s0), some (.ref a), y2, y3, y4, y5, y6, y7, some (.ref o), y9, y10, y11, y12], ?_, fun σ H3 hM => ?_⟩
      · refine ⟨small_line (by show 16 ≤ 1000; decide), fun o no => ⟨hT2.ext (same_upd no), o, ?_, rfl⟩⟩
        rw [odds_eq]
        exact upd_same
      · clear hT2 H2
        obtain ⟨hT3, o, ho, rfl⟩ := hM
        -- asks
        refine ⟨fun σ H4 => LamX.Tabs (tbs Pt) H4 ∧ ∃ (k : Addr) (rs : List Addr) (o : Addr), H4 o = some (.lst (odds.map fun t => V.str (SX.S t))) ∧ rs.length = 16 ∧ H4 k = some (.lst (rs.map V.ref)) ∧ (∀ r ∈ rs, H4 r = some (.tup [.str "ParseError", .int 0])) ∧ ∃ y9, σ = [some (.ref s0), some (.ref a), y2, y3, y4, y5, y6, y7, some (.ref o), y9, some (.ref k), y11, y12], ?_, fun σ H4 hM => ?_⟩
        · refine ⟨_, rfl, o, rfl, ⟨_, SqL.of ho⟩, fun D nD => ?_⟩
          have hoD : o ≠ D := ne_of_none ho nD
          refine lc_list (K := K) (a := o) (xs := odds.map fun t => V.str (SX.S t)) (fun i H4 => LamX.Tabs (tbs Pt) H4 ∧ H4 o = some (.lst (odds.map fun t => V.str (SX.S t))) ∧ ∃ rs : List Addr, rs.length = i ∧ H4 D = some (.lst (rs.map V.ref)) ∧ ∀ r ∈ rs, H4 r = some (.tup [.str "ParseError", .int 0]))
            ⟨hT3.ext (same_upd nD), same_upd nD _ _ ho, [], rfl, upd_same, fun r h => by cases h⟩ (fun i H4 _ hp => SqL.of hp.2.1) (fun i x H4 hx hp => ?_) (fun H4 hp => ?_)
          · rw [List.getElem?_map] at hx
            obtain ⟨t, ht, rfl⟩ := Option.map_eq_some_iff.mp hx
            obtain ⟨hT4, ho4, rs, hl, hD4, hrs⟩ := hp
            obtain ⟨tn, tl⟩ := odds_bad t (List.mem_of_getElem? ht)
            refine ⟨rfl, hT4, fun H10 x10 hT10 H11 Q' E' s11 hQ hE => ?_⟩
            refine ⟨_, rfl, t, rfl, tl, fun _ dd H12 s12 hd12 => hE _ _ _ (why_parse T hd12 fun r H13 s13 hr13 => ?_), fun f hf => ?_⟩
            · have sA := s11.trans (s12.trans s13)
              have ex : ∀ b u, H4 b = some u → (∀ ps, u ≠ .tbl ps) → H13 b = some u := fun b u h n => sA _ _ (x10 b u h n)
              have hD13 := ex D _ hD4 (by intro ps z; cases z)
              have ho13 := ex o _ ho4 (by intro ps z; cases z)
              refine ⟨_, hD13, ?_, tabs_lst (hT10.ext sA) hD13, ?_, rs ++ [r], ?_, ?_, fun r' hr' => ?_⟩
              · rw [List.length_map, hl]
                have := (List.getElem?_eq_some_iff.mp ht).1
                exact small1000 (Nat.le_trans (Nat.le_of_lt this) (by decide))
              · rw [upd_ne hoD]
                exact ho13
              · rw [List.length_append, hl]
                rfl
              · rw [upd_same, List.map_append]
                rfl
              · have hr13' : H13 r' = some (.tup [.str "ParseError", .int 0]) := by
                  rcases List.mem_append.mp hr' with h | h
                  · exact ex r' _ (hrs r' h) (by intro ps z; cases z)
                  · rw [List.mem_singleton.mp h]
                    exact hr13
                rw [upd_ne (ne_of hr13' hD13 (by intro z; cases z))]
                exact hr13'
            · rw [tn] at hf
              cases hf
          · obtain ⟨hT4, ho4, rs, hl, hD4, hrs⟩ := hp
            exact ⟨hT4, D, rs, o, ho4, hl, hD4, hrs, _, rfl⟩
        · clear ho hT3 o H3
          obtain ⟨hT4, k, rs, o, ho, hl, hk, hrs, y9, rfl⟩ := hM
          -- long
          refine ⟨fun σ H5 => Same H4 H5 ∧ ∃ g p1 p2, H5 g = some (.lst [.ref p1, .ref p2]) ∧ Fr H5 p1 (N9, 1) ∧ Fr H5 p2 (-1, N7) ∧ σ = [some (.ref s0), some (.ref a), y2, y3, y4, y5, y6, y7, some (.ref o), y9, some (.ref k), some (.ref g), y12], ?_, fun σ H5 hM => ?_⟩
          · refine ⟨_, _, rfl, rfl, ok9, nines, by rw [mul9]; rfl, by decide, fun z => absurd (prog9.symm.trans z) (by simp), fun f hf p1 H5 s5 hp1 => ?_⟩
            rw [prog9] at hf
            cases hf
            refine ⟨_, _, rfl, rfl, ok7, _, _, rfl, rfl, ?_, [45, 49, 47] ++ sevens, ?_, by decide, fun z => absurd (prog7.symm.trans z) (by simp), fun f hf p2 H6 s6 hp2 => ?_⟩
            · rw [mul7, minus1]
              decide +kernel
            · rw [mul7, minus1, SX.S_cat]
              rfl
            · rw [prog7] at hf
              cases hf
              refine ⟨two_line, fun g ng => ?_⟩
              have sg := same_upd (o := .lst [V.ref p1, .ref p2]) ng
              exact ⟨s5.trans (s6.trans sg), g, p1, p2, upd_same, sg _ _ (s6 _ _ hp1), sg _ _ hp2, rfl⟩
          · obtain ⟨s5, g, p1, p2, hg, hp1, hp2, rfl⟩ := hM
            refine ⟨_, rfl, two_line, fun e ne => ⟨one_line, fun l nl => ⟨_, rfl, o, _, rfl, .inl (SqL.of (same_upd nl _ _ (same_upd ne _ _ (s5 _ _ ho)))), ?_⟩⟩⟩
            refine ⟨l, _, _, rfl, rfl, upd_same, by decide +kernel, by decide +kernel, small_line (by show 1 * 16 ≤ 1000; decide), fun m nm => ?_⟩
            have sa := same_upd (o := .tup [V.str "ParseError", .int 0]) ne
            have sb := same_upd (o := .lst [V.ref e]) nl
            have sc := same_upd (o := .lst ((List.replicate 16 e).map V.ref)) nm
            have sx := s5.trans (sa.trans (sb.trans sc))
            refine ⟨.list (List.replicate 16 (.tuple [.str "ParseError", .int 0])), .list (List.replicate 16 (.tuple [.str "ParseError", .int 0])), ?_, ?_, by decide +kernel, by decide +kernel, ?_⟩
            · have := dp_refs (K := K) (H := upd (upd (upd H5 e (.tup [V.str "ParseError", .int 0])) l (.lst [V.ref e])) m (.lst ((List.replicate 16 e).map V.ref))) (rs := rs) (fun r hr => sx _ _ (hrs r hr))
              rw [hl] at this
              exact .lst (SqL.of (sx _ _ hk)) this
            · have := dp_refs (K := K) (H := upd (upd (upd H5 e (.tup [V.str "ParseError", .int 0])) l (.lst [V.ref e])) m (.lst ((List.replicate 16 e).map V.ref))) (rs := List.replicate 16 e) (fun r hr => by
                rw [(List.mem_replicate.mp hr).2]
                exact sc _ _ (sb _ _ upd_same))
              exact .lst (SqL.of upd_same) this
            · rw [show PyData.eqv (.list (List.replicate 16 (.tuple [.str "ParseError", .int 0]))) (.list (List.replicate 16 (.tuple [.str "ParseError", .int 0]))) = true by decide +kernel]
              refine ⟨_, rfl, iteT ?_⟩
              refine ⟨_, rfl, _, _, rfl, rfl, ok9, _, _, rfl, int9.1, int9.2, two_line, fun u1 nu1 => ?_⟩
              refine ⟨_, rfl, _, _, rfl, rfl, ok7, _, _, rfl, int7.1, int7.2, two_line, fun u2 nu2 => ⟨two_line, fun q2 nq2 => ?_⟩⟩
              have sd := same_upd (o := .tup [V.int N9, .int 1]) nu1
              have se := same_upd (o := .tup [V.int (-1), .int N7]) nu2
              have sf := same_upd (o := .lst [V.ref u1, .ref u2]) nq2
              have sy := sa.trans (sb.trans (sc.trans (sd.trans (se.trans sf))))
              refine ⟨.ref g, .ref q2, rfl, ?_, fun H' s' => q H'⟩
              refine .inr ⟨g, q2, _, _, rfl, rfl, .inl ⟨sy _ _ hg, upd_same⟩, rfl, (by show 2 ≤ 1000; decide), fun i y z g1 g2 => ?_⟩
              match i, g1, g2 with
              | 0, g1, g2 => cases g1; cases g2; exact eqd_fr (f := (N9, 1)) (Fr.same hp1 sy) (sf _ _ (se _ _ upd_same))
              | 1, g1, g2 => cases g1; cases g2; exact eqd_fr (f := (-1, N7)) (Fr.same hp2 sy) (sf _ _ upd_same)
end
theorem all_mk {q0 : Program} {lo : List Str} {mean : ExcName → Option Value} {mb : Str → Option Value} {l : PySem.W.OpenLaw} {w : World} {K : PySem.W.Frag} {h : Heap} {mg : Str → Option Value} {fl f10 f11 f12 f13 f14 f15 f16 f17 f18 f20 f21 f22 f23 f24 f25 f26 f27 f28 f29 f30 f1 f2 f3 f4 f1002 f1003 cc Pt : Addr} {d0 : DefRec} (TP : Top q0 lo mean mg mb h) (X : K.In h) (hfa : mg "law" = some (.ref fl)) (hr0 : (recsOf q0).find? (fun e : DefRec => e.name == ("law" : Str)) = some d0)
    {od10 an10 od11 an11 od12 an12 od13 an13 od14 an14 od15 an15 od16 an16 od17 an17 od18 an18 od20 an20 od21 an21 od22 an22 od23 an23 od24 an24 od25 an25 od26 an26 od27 an27 od28 an28 od29 an29 od30 an30 od1002 an1002 od1003 an1003 : Option Addr}
    {sl10 sl11 sl12 sl13 sl14 sl15 sl16 sl17 sl18 sl20 sl21 sl22 sl23 sl24 sl25 sl26 sl27 sl28 sl29 sl30 sl1002 sl1003 : Array (Option Value)}
    {oc10 kV10 dc10 pm10 ct10 cd10 oc11 kV11 dc11 pm11 ct11 cd11 oc12 kV12 dc12 pm12 ct12 cd12 oc13 kV13 dc13 pm13 ct13 cd13 oc14 kV14 dc14 pm14 ct14 cd14 oc15 kV15 dc15 pm15 ct15 cd15 oc16 kV16 dc16 pm16 ct16 cd16 oc17 kV17 dc17 pm17 ct17 cd17 oc18 kV18 dc18 pm18 ct18 cd18 oc20 kV20 dc20 pm20 ct20 cd20 oc21 kV21 dc21 pm21 ct21 cd21 oc22 kV22 dc22 pm22 ct22 cd22 oc23 kV23 dc23 pm23 ct23 cd23 oc24 kV24 dc24 pm24 ct24 cd24 oc25 kV25 dc25 pm25 ct25 cd25 oc26 kV26 dc26 pm26 ct26 cd26 oc27 kV27 dc27 pm27 ct27 cd27 oc28 kV28 dc28 pm28 ct28 cd28 oc29 kV29 dc29 pm29 ct29 cd29 oc30 kV30 dc30 pm30 ct30 oc1002 kV1002 dc1002 pm1002 ct1002 cd1002 oc1003 kV1003 dc1003 pm1003 ct1003 cd1003 : Value}
    {fT12 : Addr} {ocT12 : Value} {odT12 : Option Addr} {nT12 : Nat} {slT12 : Array (Option Value)} {tk12_0 : Tok}
    {nm2 q2 : Str} {N2 : Addr} {bs2 : List Value} {sn2 : List Str} {sub2 : List Value} {ab2 : Bool} {col2 : Option Bool} {dd2 : Option Addr} {m02 m12 m22 m32 m52 : Option Value}
    {nm3 q3 : Str} {N3 : Addr} {bs3 : List Value} {sn3 : List Str} {sub3 : List Value} {ab3 : Bool} {col3 : Option Bool} {dd3 : Option Addr} {m03 m13 m23 m33 m53 : Option Value}
    {tk_LONG : Tok}
    (a10 : PySem.W.nsIn K mainGlobals "shortened" = some (some (.ref f10)))
    (l10 : K.lookup f10 = some ⟨oc10, od10, .func (PySem.W.fnOf "shortened" "shortened" (defArgs s_p_shortened) (defBody s_p_shortened) (defScope s_p_shortened) .none kV10 dc10 pm10 an10 cd10 ct10), sl10⟩)
    (c10 : PySem.W.codeIn K cd10 "shortened" = true)
    (k10 : PySem.W.keepIn K (.ref f10) = true)
    (a11 : PySem.W.nsIn K mainGlobals "common_divisor" = some (some (.ref f11)))
    (l11 : K.lookup f11 = some ⟨oc11, od11, .func (PySem.W.fnOf "common_divisor" "common_divisor" (defArgs s_p_common_divisor) (defBody s_p_common_divisor) (defScope s_p_common_divisor) .none kV11 dc11 pm11 an11 cd11 ct11), sl11⟩)
    (c11 : PySem.W.codeIn K cd11 "common_divisor" = true)
    (k11 : PySem.W.keepIn K (.ref f11) = true)
    (a12 : PySem.W.nsIn K mainGlobals "ratio" = some (some (.ref f12)))
    (l12 : K.lookup f12 = some ⟨oc12, od12, .func (PySem.W.fnOf "ratio" "ratio" (defArgs s_p_ratio) (defBody s_p_ratio) (defScope s_p_ratio) (.ref fT12) kV12 dc12 pm12 an12 cd12 ct12), sl12⟩)
    (c12 : PySem.W.codeIn K cd12 "ratio" = true)
    (k12 : PySem.W.keepIn K (.ref f12) = true)
    (t12 : K.lookup fT12 = some ⟨ocT12, odT12, .seq ([Value.int 1 tk12_0] : List Value).toArray nT12, slT12⟩)
    (a13 : PySem.W.nsIn K mainGlobals "is_digits" = some (some (.ref f13)))
    (l13 : K.lookup f13 = some ⟨oc13, od13, .func (PySem.W.fnOf "is_digits" "is_digits" (defArgs s_p_is_digits) (defBody s_p_is_digits) (defScope s_p_is_digits) .none kV13 dc13 pm13 an13 cd13 ct13), sl13⟩)
    (c13 : PySem.W.codeIn K cd13 "is_digits" = true)
    (k13 : PySem.W.keepIn K (.ref f13) = true)
    (a14 : PySem.W.nsIn K mainGlobals "number_text" = some (some (.ref f14)))
    (l14 : K.lookup f14 = some ⟨oc14, od14, .func (PySem.W.fnOf "number_text" "number_text" (defArgs s_p_number_text) (defBody s_p_number_text) (defScope s_p_number_text) .none kV14 dc14 pm14 an14 cd14 ct14), sl14⟩)
    (c14 : PySem.W.codeIn K cd14 "number_text" = true)
    (k14 : PySem.W.keepIn K (.ref f14) = true)
    (a15 : PySem.W.nsIn K mainGlobals "number_of" = some (some (.ref f15)))
    (l15 : K.lookup f15 = some ⟨oc15, od15, .func (PySem.W.fnOf "number_of" "number_of" (defArgs s_p_number_of) (defBody s_p_number_of) (defScope s_p_number_of) .none kV15 dc15 pm15 an15 cd15 ct15), sl15⟩)
    (c15 : PySem.W.codeIn K cd15 "number_of" = true)
    (k15 : PySem.W.keepIn K (.ref f15) = true)
    (a16 : PySem.W.nsIn K mainGlobals "ratio_text" = some (some (.ref f16)))
    (l16 : K.lookup f16 = some ⟨oc16, od16, .func (PySem.W.fnOf "ratio_text" "ratio_text" (defArgs s_p_ratio_text) (defBody s_p_ratio_text) (defScope s_p_ratio_text) .none kV16 dc16 pm16 an16 cd16 ct16), sl16⟩)
    (c16 : PySem.W.codeIn K cd16 "ratio_text" = true)
    (k16 : PySem.W.keepIn K (.ref f16) = true)
    (a17 : PySem.W.nsIn K mainGlobals "ratio_of" = some (some (.ref f17)))
    (l17 : K.lookup f17 = some ⟨oc17, od17, .func (PySem.W.fnOf "ratio_of" "ratio_of" (defArgs s_p_ratio_of) (defBody s_p_ratio_of) (defScope s_p_ratio_of) .none kV17 dc17 pm17 an17 cd17 ct17), sl17⟩)
    (c17 : PySem.W.codeIn K cd17 "ratio_of" = true)
    (k17 : PySem.W.keepIn K (.ref f17) = true)
    (a18 : PySem.W.nsIn K mainGlobals "read_ratio" = some (some (.ref f18)))
    (l18 : K.lookup f18 = some ⟨oc18, od18, .func (PySem.W.fnOf "read_ratio" "read_ratio" (defArgs s_p_read_ratio) (defBody s_p_read_ratio) (defScope s_p_read_ratio) .none kV18 dc18 pm18 an18 cd18 ct18), sl18⟩)
    (c18 : PySem.W.codeIn K cd18 "read_ratio" = true)
    (k18 : PySem.W.keepIn K (.ref f18) = true)
    (a20 : PySem.W.nsIn K mainGlobals "_law_feed" = some (some (.ref f20)))
    (l20 : K.lookup f20 = some ⟨oc20, od20, .func (PySem.W.fnOf "_law_feed" "_law_feed" (defArgs s_feed) (defBody s_feed) (defScope s_feed) .none kV20 dc20 pm20 an20 cd20 ct20), sl20⟩)
    (c20 : PySem.W.codeIn K cd20 "_law_feed" = true)
    (k20 : PySem.W.keepIn K (.ref f20) = true)
    (a21 : PySem.W.nsIn K mainGlobals "_law_draw" = some (some (.ref f21)))
    (l21 : K.lookup f21 = some ⟨oc21, od21, .func (PySem.W.fnOf "_law_draw" "_law_draw" (defArgs s_draw) (defBody s_draw) (defScope s_draw) .none kV21 dc21 pm21 an21 cd21 ct21), sl21⟩)
    (c21 : PySem.W.codeIn K cd21 "_law_draw" = true)
    (k21 : PySem.W.keepIn K (.ref f21) = true)
    (a22 : PySem.W.nsIn K mainGlobals "_law_any" = some (some (.ref f22)))
    (l22 : K.lookup f22 = some ⟨oc22, od22, .func (PySem.W.fnOf "_law_any" "_law_any" (defArgs s_any) (defBody s_any) (defScope s_any) .none kV22 dc22 pm22 an22 cd22 ct22), sl22⟩)
    (c22 : PySem.W.codeIn K cd22 "_law_any" = true)
    (k22 : PySem.W.keepIn K (.ref f22) = true)
    (a23 : PySem.W.nsIn K mainGlobals "_law_same" = some (some (.ref f23)))
    (l23 : K.lookup f23 = some ⟨oc23, od23, .func (PySem.W.fnOf "_law_same" "_law_same" (defArgs s_same) (defBody s_same) (defScope s_same) .none kV23 dc23 pm23 an23 cd23 ct23), sl23⟩)
    (c23 : PySem.W.codeIn K cd23 "_law_same" = true)
    (k23 : PySem.W.keepIn K (.ref f23) = true)
    (a24 : PySem.W.nsIn K mainGlobals "_law_field" = some (some (.ref f24)))
    (l24 : K.lookup f24 = some ⟨oc24, od24, .func (PySem.W.fnOf "_law_field" "_law_field" (defArgs s_field) (defBody s_field) (defScope s_field) .none kV24 dc24 pm24 an24 cd24 ct24), sl24⟩)
    (c24 : PySem.W.codeIn K cd24 "_law_field" = true)
    (k24 : PySem.W.keepIn K (.ref f24) = true)
    (a25 : PySem.W.nsIn K mainGlobals "_law_why" = some (some (.ref f25)))
    (l25 : K.lookup f25 = some ⟨oc25, od25, .func (PySem.W.fnOf "_law_why" "_law_why" (defArgs s_why) (defBody s_why) (defScope s_why) .none kV25 dc25 pm25 an25 cd25 ct25), sl25⟩)
    (c25 : PySem.W.codeIn K cd25 "_law_why" = true)
    (k25 : PySem.W.keepIn K (.ref f25) = true)
    (a26 : PySem.W.nsIn K mainGlobals "_law_gcd" = some (some (.ref f26)))
    (l26 : K.lookup f26 = some ⟨oc26, od26, .func (PySem.W.fnOf "_law_gcd" "_law_gcd" (defArgs s_gcd) (defBody s_gcd) (defScope s_gcd) .none kV26 dc26 pm26 an26 cd26 ct26), sl26⟩)
    (c26 : PySem.W.codeIn K cd26 "_law_gcd" = true)
    (k26 : PySem.W.keepIn K (.ref f26) = true)
    (a27 : PySem.W.nsIn K mainGlobals "_law_low" = some (some (.ref f27)))
    (l27 : K.lookup f27 = some ⟨oc27, od27, .func (PySem.W.fnOf "_law_low" "_law_low" (defArgs s_low) (defBody s_low) (defScope s_low) .none kV27 dc27 pm27 an27 cd27 ct27), sl27⟩)
    (c27 : PySem.W.codeIn K cd27 "_law_low" = true)
    (k27 : PySem.W.keepIn K (.ref f27) = true)
    (a28 : PySem.W.nsIn K mainGlobals "_law_part_text" = some (some (.ref f28)))
    (l28 : K.lookup f28 = some ⟨oc28, od28, .func (PySem.W.fnOf "_law_part_text" "_law_part_text" (defArgs s_part_text) (defBody s_part_text) (defScope s_part_text) .none kV28 dc28 pm28 an28 cd28 ct28), sl28⟩)
    (c28 : PySem.W.codeIn K cd28 "_law_part_text" = true)
    (k28 : PySem.W.keepIn K (.ref f28) = true)
    (a29 : PySem.W.nsIn K mainGlobals "_law_part_of" = some (some (.ref f29)))
    (l29 : K.lookup f29 = some ⟨oc29, od29, .func (PySem.W.fnOf "_law_part_of" "_law_part_of" (defArgs s_part_of) (defBody s_part_of) (defScope s_part_of) .none kV29 dc29 pm29 an29 cd29 ct29), sl29⟩)
    (c29 : PySem.W.codeIn K cd29 "_law_part_of" = true)
    (k29 : PySem.W.keepIn K (.ref f29) = true)
    (a30 : PySem.W.nsIn K mainGlobals "law" = some (some (.ref f30)))
    (l30 : K.lookup f30 = some ⟨oc30, od30, .func (PySem.W.fnOf "law" "law" (defArgs s_p_law) (defBody s_p_law) (defScope s_p_law) .none kV30 dc30 pm30 an30 (.ref cc) ct30), sl30⟩)
    (c30 : PySem.W.codeIn K (.ref cc) "law" = true)
    (k30 : PySem.W.keepIn K (.ref f30) = true)
    (b1 : PySem.W.nsIn K mainGlobals "TieError" = some (some (.ref f1)))
    (be1 : PySem.W.subIn K (.ref f1) (.type "BaseException") = some true)
    (bi1 : PySem.W.isClsIn K f1 = true)
    (bt1 : PySem.W.typeIn K (.ref f1) = some (.type "type"))
    (b4 : PySem.W.nsIn K mainGlobals "Missing" = some (some (.ref f4)))
    (be4 : PySem.W.subIn K (.ref f4) (.type "BaseException") = some true)
    (bi4 : PySem.W.isClsIn K f4 = true)
    (bt4 : PySem.W.typeIn K (.ref f4) = some (.type "type"))
    (a2 : PySem.W.nsIn K mainGlobals "InvalidRatio" = some (some (.ref f2)))
    (x2 : K.lookup f2 = some (excClassObj nm2 q2 f2 N2 bs2 [.ref f1, .type "ValueError", .type "Exception", .type "BaseException", .type "object"] true sn2 sub2 ab2 col2 dd2 m02 m12 m22 m32 m52 "ValueError.__new__"))
    (sa2 : PySem.W.findIn K (.ref f2) "__setattr__" = some (some (.builtin "object.__setattr__")))
    (ga2 : PySem.W.findIn K (.ref f2) "__getattribute__" = some (some (.builtin "BaseException.__getattribute__")))
    (gg2 : PySem.W.findIn K (.ref f2) "__getattr__" = some none)
    (nt2 : PySem.W.findIn K (.ref f2) "tag" = some none)
    (ii2 : PySem.W.findIn K (.ref f2) "__init__" = some (some (.ref f1002)))
    (ti2 : PySem.W.typeIn K (.ref f1002) = some (.type "function"))
    (kC2 : PySem.W.keepIn K (.ref f2) = true)
    (eC2 : PySem.W.subIn K (.ref f2) (.type "BaseException") = some true)
    (tC2 : PySem.W.typeIn K (.ref f2) = some (.type "type"))
    (hC2 : PySem.W.hasDictIn K f2 = true)
    (sT2 : PySem.W.subIn K (.ref f2) (.ref f1) = some true)
    (sM2 : PySem.W.subIn K (.ref f2) (.ref f4) = some false)
    (n2_given : PySem.W.findIn K (.ref f2) "given" = some none)
    (l1002 : K.lookup f1002 = some ⟨oc1002, od1002, .func (PySem.W.fnOf "__init__" "InvalidRatio.__init__" (defArgs (inClass (topS 2) 0)) (defBody (inClass (topS 2) 0)) (defScope (inClass (topS 2) 0)) .none kV1002 dc1002 pm1002 an1002 cd1002 ct1002), sl1002⟩)
    (c1002 : PySem.W.codeIn K cd1002 "InvalidRatio.__init__" = true)
    (k1002 : PySem.W.keepIn K (.ref f1002) = true)
    (a3 : PySem.W.nsIn K mainGlobals "ParseError" = some (some (.ref f3)))
    (x3 : K.lookup f3 = some (excClassObj nm3 q3 f3 N3 bs3 [.ref f1, .type "ValueError", .type "Exception", .type "BaseException", .type "object"] true sn3 sub3 ab3 col3 dd3 m03 m13 m23 m33 m53 "ValueError.__new__"))
    (sa3 : PySem.W.findIn K (.ref f3) "__setattr__" = some (some (.builtin "object.__setattr__")))
    (ga3 : PySem.W.findIn K (.ref f3) "__getattribute__" = some (some (.builtin "BaseException.__getattribute__")))
    (gg3 : PySem.W.findIn K (.ref f3) "__getattr__" = some none)
    (nt3 : PySem.W.findIn K (.ref f3) "tag" = some none)
    (ii3 : PySem.W.findIn K (.ref f3) "__init__" = some (some (.ref f1003)))
    (ti3 : PySem.W.typeIn K (.ref f1003) = some (.type "function"))
    (kC3 : PySem.W.keepIn K (.ref f3) = true)
    (eC3 : PySem.W.subIn K (.ref f3) (.type "BaseException") = some true)
    (tC3 : PySem.W.typeIn K (.ref f3) = some (.type "type"))
    (hC3 : PySem.W.hasDictIn K f3 = true)
    (sT3 : PySem.W.subIn K (.ref f3) (.ref f1) = some true)
    (sM3 : PySem.W.subIn K (.ref f3) (.ref f4) = some false)
    (n3_at : PySem.W.findIn K (.ref f3) "at" = some none)
    (l1003 : K.lookup f1003 = some ⟨oc1003, od1003, .func (PySem.W.fnOf "__init__" "ParseError.__init__" (defArgs (inClass (topS 3) 0)) (defBody (inClass (topS 3) 0)) (defScope (inClass (topS 3) 0)) .none kV1003 dc1003 pm1003 an1003 cd1003 ct1003), sl1003⟩)
    (c1003 : PySem.W.codeIn K cd1003 "ParseError.__init__" = true)
    (k1003 : PySem.W.keepIn K (.ref f1003) = true)
    (zc_LONG : PySem.W.nsIn K mainGlobals "LONG" = some (some (Value.int 4096 tk_LONG)))
    (ht : PySem.W.tabIn K "law" = some (cc, Pt))
    (nT : K.lookup Pt = none)
    (z_int : PySem.W.nsIn K mainGlobals "int" = some none)
    (z_len : PySem.W.nsIn K mainGlobals "len" = some none)
    (z_abs : PySem.W.nsIn K mainGlobals "abs" = some none)
    (z_range : PySem.W.nsIn K mainGlobals "range" = some none)
    (z_zip : PySem.W.nsIn K mainGlobals "zip" = some none)
    (z_all : PySem.W.nsIn K mainGlobals "all" = some none)
    (z_isinstance : PySem.W.nsIn K mainGlobals "isinstance" = some none)
    (z_bool : PySem.W.nsIn K mainGlobals "bool" = some none)
    (z_str : PySem.W.nsIn K mainGlobals "str" = some none)
    (z_tuple : PySem.W.nsIn K mainGlobals "tuple" = some none)
    (z_list : PySem.W.nsIn K mainGlobals "list" = some none)
    (z_dict : PySem.W.nsIn K mainGlobals "dict" = some none)
    : LamX.LawAtS l w K CX0 10 63 "_law_script" mg fl h := by
  have G := TP.g
  have e := hfa.symm.trans (PySem.W.mg_of X G a30)
  cases e
  obtain ⟨hC, hP⟩ := PySem.W.tab_of TP X hr0 ht
  have F10 := fun_mk (st := s_p_shortened) l10 c10 k10
  have F11 := fun_mk (st := s_p_common_divisor) l11 c11 k11
  have F12 : FunD K "ratio" "ratio" (defArgs s_p_ratio) (defBody s_p_ratio) (defScope s_p_ratio) [V.int 1] [] f12 (PySem.W.fnOf "ratio" "ratio" (defArgs s_p_ratio) (defBody s_p_ratio) (defScope s_p_ratio) (.ref fT12) kV12 dc12 pm12 an12 cd12 ct12) := ⟨⟨_, _, _, _, _, _, _, _, _, _, rfl, l12, c12, .inr ⟨by simp, _, _, _, _, rfl, t12, rfl, (.cons ⟨_, rfl⟩ .nil)⟩, .inl rfl⟩, k12⟩
  have Bn12 : Binds K (PySem.W.fnOf "ratio" "ratio" (defArgs s_p_ratio) (defBody s_p_ratio) (defScope s_p_ratio) (.ref fT12) kV12 dc12 pm12 an12 cd12 ct12) ["top", "under"] [] := by
    obtain ⟨ds, v, b⟩ := F12.binds1 (ps := ["top", "under"]) 2 1 (by simp) rfl fun T kV doc pm an cdv ct us its h1 h2 => match us, its, h1, h2 with | [_, _], [_], _, _ => ⟨_, rfl, rfl⟩
    cases v
    exact b
  have Bd12 := F12.binds1 (ps := ["top", "under"]) 1 0 (by simp) rfl fun T kV doc pm an cdv ct us its h1 h2 => match us, its, h1, h2 with | [_], [_], _, _ => ⟨_, rfl, rfl⟩
  have F13 := fun_mk (st := s_p_is_digits) l13 c13 k13
  have F14 := fun_mk (st := s_p_number_text) l14 c14 k14
  have F15 := fun_mk (st := s_p_number_of) l15 c15 k15
  have F16 := fun_mk (st := s_p_ratio_text) l16 c16 k16
  have F17 := fun_mk (st := s_p_ratio_of) l17 c17 k17
  have F18 := fun_mk (st := s_p_read_ratio) l18 c18 k18
  have F20 := fun_mk (st := s_feed) l20 c20 k20
  have F21 := fun_mk (st := s_draw) l21 c21 k21
  have F22 := fun_mk (st := s_any) l22 c22 k22
  have F23 := fun_mk (st := s_same) l23 c23 k23
  have F24 := fun_mk (st := s_field) l24 c24 k24
  have F25 := fun_mk (st := s_why) l25 c25 k25
  have F26 := fun_mk (st := s_gcd) l26 c26 k26
  have F27 := fun_mk (st := s_low) l27 c27 k27
  have F28 := fun_mk (st := s_part_text) l28 c28 k28
  have F29 := fun_mk (st := s_part_of) l29 c29 k29
  have F30 := fun_mk (st := s_p_law) l30 c30 k30
  have FC : FunC K "law" s_p_law fl (PySem.W.fnOf "law" "law" (defArgs s_p_law) (defBody s_p_law) (defScope s_p_law) .none kV30 dc30 pm30 an30 (.ref cc) ct30) cc := ⟨_, _, _, _, _, _, _, _, rfl, l30, c30⟩
  have F1002 := fun_mk (st := inClass (topS 2) 0) l1002 c1002 k1002
  have E2 : ErrC K mg "InvalidRatio" f2 f1 f4 f1002 := ⟨⟨⟨_, _, _, _, _, _, _, _, _, _, _, _, _, _, _, x2, by first | rfl | decide⟩, sa2, eC2, tC2, kC2⟩, ⟨ga2, gg2, eC2, hC2⟩, PySem.W.mg_of X G a2, nt2, exm_any (exm_by be1 bi1 bt1 sT2) (exm_by be4 bi4 bt4 sM2), ii2, ti2⟩
  have F1003 := fun_mk (st := inClass (topS 3) 0) l1003 c1003 k1003
  have E3 : ErrC K mg "ParseError" f3 f1 f4 f1003 := ⟨⟨⟨_, _, _, _, _, _, _, _, _, _, _, _, _, _, _, x3, by first | rfl | decide⟩, sa3, eC3, tC3, kC3⟩, ⟨ga3, gg3, eC3, hC3⟩, PySem.W.mg_of X G a3, nt3, exm_any (exm_by be1 bi1 bt1 sT3) (exm_by be4 bi4 bt4 sM3), ii3, ti3⟩
  have T : Txt K mg (fun i => match i with
      | 10 => f10
      | 11 => f11
      | 12 => f12
      | 13 => f13
      | 14 => f14
      | 15 => f15
      | 16 => f16
      | 17 => f17
      | 18 => f18
      | 20 => f20
      | 21 => f21
      | 22 => f22
      | 23 => f23
      | 24 => f24
      | 25 => f25
      | 26 => f26
      | 27 => f27
      | 28 => f28
      | 29 => f29
      | 30 => fl
      | 1 => f1
      | 2 => f2
      | 3 => f3
      | 4 => f4
      | 1002 => f1002
      | 1003 => f1003
      | _ => fl) (fun i => match i with
      | 10 => PySem.W.fnOf "shortened" "shortened" (defArgs s_p_shortened) (defBody s_p_shortened) (defScope s_p_shortened) .none kV10 dc10 pm10 an10 cd10 ct10
      | 11 => PySem.W.fnOf "common_divisor" "common_divisor" (defArgs s_p_common_divisor) (defBody s_p_common_divisor) (defScope s_p_common_divisor) .none kV11 dc11 pm11 an11 cd11 ct11
      | 12 => PySem.W.fnOf "ratio" "ratio" (defArgs s_p_ratio) (defBody s_p_ratio) (defScope s_p_ratio) (.ref fT12) kV12 dc12 pm12 an12 cd12 ct12
      | 13 => PySem.W.fnOf "is_digits" "is_digits" (defArgs s_p_is_digits) (defBody s_p_is_digits) (defScope s_p_is_digits) .none kV13 dc13 pm13 an13 cd13 ct13
      | 14 => PySem.W.fnOf "number_text" "number_text" (defArgs s_p_number_text) (defBody s_p_number_text) (defScope s_p_number_text) .none kV14 dc14 pm14 an14 cd14 ct14
      | 15 => PySem.W.fnOf "number_of" "number_of" (defArgs s_p_number_of) (defBody s_p_number_of) (defScope s_p_number_of) .none kV15 dc15 pm15 an15 cd15 ct15
      | 16 => PySem.W.fnOf "ratio_text" "ratio_text" (defArgs s_p_ratio_text) (defBody s_p_ratio_text) (defScope s_p_ratio_text) .none kV16 dc16 pm16 an16 cd16 ct16
      | 17 => PySem.W.fnOf "ratio_of" "ratio_of" (defArgs s_p_ratio_of) (defBody s_p_ratio_of) (defScope s_p_ratio_of) .none kV17 dc17 pm17 an17 cd17 ct17
      | 18 => PySem.W.fnOf "read_ratio" "read_ratio" (defArgs s_p_read_ratio) (defBody s_p_read_ratio) (defScope s_p_read_ratio) .none kV18 dc18 pm18 an18 cd18 ct18
      | 20 => PySem.W.fnOf "_law_feed" "_law_feed" (defArgs s_feed) (defBody s_feed) (defScope s_feed) .none kV20 dc20 pm20 an20 cd20 ct20
      | 21 => PySem.W.fnOf "_law_draw" "_law_draw" (defArgs s_draw) (defBody s_draw) (defScope s_draw) .none kV21 dc21 pm21 an21 cd21 ct21
      | 22 => PySem.W.fnOf "_law_any" "_law_any" (defArgs s_any) (defBody s_any) (defScope s_any) .none kV22 dc22 pm22 an22 cd22 ct22
      | 23 => PySem.W.fnOf "_law_same" "_law_same" (defArgs s_same) (defBody s_same) (defScope s_same) .none kV23 dc23 pm23 an23 cd23 ct23
      | 24 => PySem.W.fnOf "_law_field" "_law_field" (defArgs s_field) (defBody s_field) (defScope s_field) .none kV24 dc24 pm24 an24 cd24 ct24
      | 25 => PySem.W.fnOf "_law_why" "_law_why" (defArgs s_why) (defBody s_why) (defScope s_why) .none kV25 dc25 pm25 an25 cd25 ct25
      | 26 => PySem.W.fnOf "_law_gcd" "_law_gcd" (defArgs s_gcd) (defBody s_gcd) (defScope s_gcd) .none kV26 dc26 pm26 an26 cd26 ct26
      | 27 => PySem.W.fnOf "_law_low" "_law_low" (defArgs s_low) (defBody s_low) (defScope s_low) .none kV27 dc27 pm27 an27 cd27 ct27
      | 28 => PySem.W.fnOf "_law_part_text" "_law_part_text" (defArgs s_part_text) (defBody s_part_text) (defScope s_part_text) .none kV28 dc28 pm28 an28 cd28 ct28
      | 29 => PySem.W.fnOf "_law_part_of" "_law_part_of" (defArgs s_part_of) (defBody s_part_of) (defScope s_part_of) .none kV29 dc29 pm29 an29 cd29 ct29
      | 30 => PySem.W.fnOf "law" "law" (defArgs s_p_law) (defBody s_p_law) (defScope s_p_law) .none kV30 dc30 pm30 an30 (.ref cc) ct30
      | 1002 => PySem.W.fnOf "__init__" "InvalidRatio.__init__" (defArgs (inClass (topS 2) 0)) (defBody (inClass (topS 2) 0)) (defScope (inClass (topS 2) 0)) .none kV1002 dc1002 pm1002 an1002 cd1002 ct1002
      | 1003 => PySem.W.fnOf "__init__" "ParseError.__init__" (defArgs (inClass (topS 3) 0)) (defBody (inClass (topS 3) 0)) (defScope (inClass (topS 3) 0)) .none kV1003 dc1003 pm1003 an1003 cd1003 ct1003
      | _ => PySem.W.fnOf "law" "law" (defArgs s_p_law) (defBody s_p_law) (defScope s_p_law) .none kV30 dc30 pm30 an30 (.ref cc) ct30) := {
    F_p_shortened := F10, g_p_shortened := PySem.W.mg_of X G a10
    b_p_shortened := F10.binds (ps := ["one", "other"]) fun _ _ _ _ _ _ us hl => match us, hl with | [_, _], _ => rfl
    F_p_common_divisor := F11, g_p_common_divisor := PySem.W.mg_of X G a11
    b_p_common_divisor := F11.binds (ps := ["one", "other"]) fun _ _ _ _ _ _ us hl => match us, hl with | [_, _], _ => rfl
    F_p_ratio := F12, g_p_ratio := PySem.W.mg_of X G a12
    b_p_ratio := Bn12, d_p_ratio := Bd12
    F_p_is_digits := F13, g_p_is_digits := PySem.W.mg_of X G a13
    b_p_is_digits := F13.binds (ps := ["text"]) fun _ _ _ _ _ _ us hl => match us, hl with | [_], _ => rfl
    F_p_number_text := F14, g_p_number_text := PySem.W.mg_of X G a14
    b_p_number_text := F14.binds (ps := ["number"]) fun _ _ _ _ _ _ us hl => match us, hl with | [_], _ => rfl
    F_p_number_of := F15, g_p_number_of := PySem.W.mg_of X G a15
    b_p_number_of := F15.binds (ps := ["digits"]) fun _ _ _ _ _ _ us hl => match us, hl with | [_], _ => rfl
    F_p_ratio_text := F16, g_p_ratio_text := PySem.W.mg_of X G a16
    b_p_ratio_text := F16.binds (ps := ["one"]) fun _ _ _ _ _ _ us hl => match us, hl with | [_], _ => rfl
    F_p_ratio_of := F17, g_p_ratio_of := PySem.W.mg_of X G a17
    b_p_ratio_of := F17.binds (ps := ["text"]) fun _ _ _ _ _ _ us hl => match us, hl with | [_], _ => rfl
    F_p_read_ratio := F18, g_p_read_ratio := PySem.W.mg_of X G a18
    b_p_read_ratio := F18.binds (ps := ["text"]) fun _ _ _ _ _ _ us hl => match us, hl with | [_], _ => rfl
    F_feed := F20, g_feed := PySem.W.mg_of X G a20
    b_feed := F20.binds (ps := ["_law_script"]) fun _ _ _ _ _ _ us hl => match us, hl with | [_], _ => rfl
    F_draw := F21, g_draw := PySem.W.mg_of X G a21
    b_draw := F21.binds (ps := ["_law_feed_here", "_law_many"]) fun _ _ _ _ _ _ us hl => match us, hl with | [_, _], _ => rfl
    F_any := F22, g_any := PySem.W.mg_of X G a22
    b_any := F22.binds (ps := ["_law_feed_here", "_law_row"]) fun _ _ _ _ _ _ us hl => match us, hl with | [_, _], _ => rfl
    F_same := F23, g_same := PySem.W.mg_of X G a23
    b_same := F23.binds (ps := ["_law_found", "_law_due"]) fun _ _ _ _ _ _ us hl => match us, hl with | [_, _], _ => rfl
    F_field := F24, g_field := PySem.W.mg_of X G a24
    b_field := F24.binds (ps := ["_law_e"]) fun _ _ _ _ _ _ us hl => match us, hl with | [_], _ => rfl
    F_why := F25, g_why := PySem.W.mg_of X G a25
    b_why := F25.binds (ps := ["_law_ask"]) fun _ _ _ _ _ _ us hl => match us, hl with | [_], _ => rfl
    F_gcd := F26, g_gcd := PySem.W.mg_of X G a26
    b_gcd := F26.binds (ps := ["_law_one", "_law_two"]) fun _ _ _ _ _ _ us hl => match us, hl with | [_, _], _ => rfl
    F_low := F27, g_low := PySem.W.mg_of X G a27
    b_low := F27.binds (ps := ["_law_upper", "_law_lower"]) fun _ _ _ _ _ _ us hl => match us, hl with | [_, _], _ => rfl
    F_part_text := F28, g_part_text := PySem.W.mg_of X G a28
    b_part_text := F28.binds (ps := ["_law_one"]) fun _ _ _ _ _ _ us hl => match us, hl with | [_], _ => rfl
    F_part_of := F29, g_part_of := PySem.W.mg_of X G a29
    b_part_of := F29.binds (ps := ["_law_text"]) fun _ _ _ _ _ _ us hl => match us, hl with | [_], _ => rfl
    F_p_law := F30, g_p_law := PySem.W.mg_of X G a30
    b_p_law := F30.binds (ps := ["_law_script"]) fun _ _ _ _ _ _ us hl => match us, hl with | [_], _ => rfl
    eInvalidRatio := E2, IInvalidRatio := F1002
    bIInvalidRatio := F1002.binds (ps := ["self", "given"]) fun _ _ _ _ _ _ us hl => match us, hl with | [_, _], _ => rfl
    nInvalidRatio_given := n2_given
    eParseError := E3, IParseError := F1003
    bIParseError := F1003.binds (ps := ["self", "at"]) fun _ _ _ _ _ _ us hl => match us, hl with | [_, _], _ => rfl
    nParseError_at := n3_at
    gTieError := PySem.W.mg_of X G b1, gMissing := PySem.W.mg_of X G b4
    m_int := PySem.W.mg_none_of X G z_int
    m_len := PySem.W.mg_none_of X G z_len
    m_abs := PySem.W.mg_none_of X G z_abs
    m_range := PySem.W.mg_none_of X G z_range
    m_zip := PySem.W.mg_none_of X G z_zip
    m_all := PySem.W.mg_none_of X G z_all
    m_isinstance := PySem.W.mg_none_of X G z_isinstance
    m_bool := PySem.W.mg_none_of X G z_bool
    m_str := PySem.W.mg_none_of X G z_str
    m_tuple := PySem.W.mg_none_of X G z_tuple
    m_list := PySem.W.mg_none_of X G z_list
    m_dict := PySem.W.mg_none_of X G z_dict
    c_LONG := ⟨_, PySem.W.mg_of X G zc_LONG, ⟨_, rfl⟩⟩
  }
  refine ⟨_, [(cc, Pt)], spLaw K Pt, fun p hp => by rw [List.mem_singleton.mp hp]; exact hP, fun p hp => by rw [List.mem_singleton.mp hp]; exact nT, fun p hp => by rw [List.mem_singleton.mp hp]; exact hC, fun s v => .of_eq rfl, fun H a ns hl _ hT hS => ⟨a, ns, rfl, hS, hl, fun p hp => by rw [List.mem_singleton.mp hp]; exact LamX.TabS.nil (hT (cc, Pt) List.mem_cons_self), fun _ => rfl⟩, fun base _ _ TB => ok_p_law T FC (TB (cc, Pt) List.mem_cons_self)⟩
end T4
open PySem PySem.W PyProof.Rows
set_option maxHeartbeats 0 in
theorem PySem.Challenge.cw_tiespan_k04_texts_of_fractions_holds : PySem.Challenge.rw_tiespan_k04_texts_of_fractions.Holds := by
  w_on; o_law; k_head; (case hw => w_witness2)
  k_fill
  refine EK.walk_T (l := PySem.Challenge.rw_tiespan_k04_texts_of_fractions) (n := 63) (k := 10) (x := "_law_script") (CX := fun _ => L2.CX0) rfl (by decide) rfl ⟨rfl, by decide, by decide⟩ (fun w h Y => by first | exact PySem.W.kIn_of Y | exact PySem.W.km_in_of Y) ?F (fun _ _ _ _ _ h => h)
  case F =>
    intro w lo mean mg mb fa h TP KX hmg
    refine' T4.all_mk (cc := 244) (Pt := 242) TP KX hmg rfl ?a10 ?l10 ?c10 ?k10 ?a11 ?l11 ?c11 ?k11 ?a12 ?l12 ?c12 ?k12 ?t12 ?a13 ?l13 ?c13 ?k13 ?a14 ?l14 ?c14 ?k14 ?a15 ?l15 ?c15 ?k15 ?a16 ?l16 ?c16 ?k16 ?a17 ?l17 ?c17 ?k17 ?a18 ?l18 ?c18 ?k18 ?a20 ?l20 ?c20 ?k20 ?a21 ?l21 ?c21 ?k21 ?a22 ?l22 ?c22 ?k22 ?a23 ?l23 ?c23 ?k23 ?a24 ?l24 ?c24 ?k24 ?a25 ?l25 ?c25 ?k25 ?a26 ?l26 ?c26 ?k26 ?a27 ?l27 ?c27 ?k27 ?a28 ?l28 ?c28 ?k28 ?a29 ?l29 ?c29 ?k29 ?a30 ?l30 ?c30 ?k30 ?b1 ?be1 ?bi1 ?bt1 ?b4 ?be4 ?bi4 ?bt4 ?a2 ?x2 ?sa2 ?ga2 ?gg2 ?nt2 ?ii2 ?ti2 ?kC2 ?eC2 ?tC2 ?hC2 ?sT2 ?sM2 ?n2_given ?l1002 ?c1002 ?k1002 ?a3 ?x3 ?sa3 ?ga3 ?gg3 ?nt3 ?ii3 ?ti3 ?kC3 ?eC3 ?tC3 ?hC3 ?sT3 ?sM3 ?n3_at ?l1003 ?c1003 ?k1003 ?zc_LONG ?ht ?nT ?z_int ?z_len ?z_abs ?z_range ?z_zip ?z_all ?z_isinstance ?z_bool ?z_str ?z_tuple ?z_list ?z_dict
    (case a10 => k_is)
    (case l10 => k_is)
    (case c10 => k_is)
    (case k10 => k_is)
    (case a11 => k_is)
    (case l11 => k_is)
    (case c11 => k_is)
    (case k11 => k_is)
    (case a12 => k_is)
    (case l12 => k_is)
    (case c12 => k_is)
    (case k12 => k_is)
    (case t12 => k_is)
    (case a13 => k_is)
    (case l13 => k_is)
    (case c13 => k_is)
    (case k13 => k_is)
    (case a14 => k_is)
    (case l14 => k_is)
    (case c14 => k_is)
    (case k14 => k_is)
    (case a15 => k_is)
    (case l15 => k_is)
    (case c15 => k_is)
    (case k15 => k_is)
    (case a16 => k_is)
    (case l16 => k_is)
    (case c16 => k_is)
    (case k16 => k_is)
    (case a17 => k_is)
    (case l17 => k_is)
    (case c17 => k_is)
    (case k17 => k_is)
    (case a18 => k_is)
    (case l18 => k_is)
    (case c18 => k_is)
    (case k18 => k_is)
    (case a20 => k_is)
    (case l20 => k_is)
    (case c20 => k_is)
    (case k20 => k_is)
    (case a21 => k_is)
    (case l21 => k_is)
    (case c21 => k_is)
    (case k21 => k_is)
    (case a22 => k_is)
    (case l22 => k_is)
    (case c22 => k_is)
    (case k22 => k_is)
    (case a23 => k_is)
    (case l23 => k_is)
    (case c23 => k_is)
    (case k23 => k_is)
    (case a24 => k_is)
    (case l24 => k_is)
    (case c24 => k_is)
    (case k24 => k_is)
    (case a25 => k_is)
    (case l25 => k_is)
    (case c25 => k_is)
    (case k25 => k_is)
    (case a26 => k_is)
    (case l26 => k_is)
    (case c26 => k_is)
    (case k26 => k_is)
    (case a27 => k_is)
    (case l27 => k_is)
    (case c27 => k_is)
    (case k27 => k_is)
    (case a28 => k_is)
    (case l28 => k_is)
    (case c28 => k_is)
    (case k28 => k_is)
    (case a29 => k_is)
    (case l29 => k_is)
    (case c29 => k_is)
    (case k29 => k_is)
    (case a30 => k_is)
    (case l30 => k_is)
    (case c30 => k_is)
    (case k30 => k_is)
    (case b1 => k_is)
    (case be1 => k_is)
    (case bi1 => k_is)
    (case bt1 => k_is)
    (case b4 => k_is)
    (case be4 => k_is)
    (case bi4 => k_is)
    (case bt4 => k_is)
    (case a2 => k_is)
    (case x2 => k_is)
    (case sa2 => k_is)
    (case ga2 => k_is)
    (case gg2 => k_is)
    (case nt2 => k_is)
    (case ii2 => k_is)
    (case ti2 => k_is)
    (case kC2 => k_is)
    (case eC2 => k_is)
    (case tC2 => k_is)
    (case hC2 => k_is)
    (case sT2 => k_is)
    (case sM2 => k_is)
    (case n2_given => k_is)
    (case l1002 => k_is)
    (case c1002 => k_is)
    (case k1002 => k_is)
    (case a3 => k_is)
    (case x3 => k_is)
    (case sa3 => k_is)
    (case ga3 => k_is)
    (case gg3 => k_is)
    (case nt3 => k_is)
    (case ii3 => k_is)
    (case ti3 => k_is)
    (case kC3 => k_is)
    (case eC3 => k_is)
    (case tC3 => k_is)
    (case hC3 => k_is)
    (case sT3 => k_is)
    (case sM3 => k_is)
    (case n3_at => k_is)
    (case l1003 => k_is)
    (case c1003 => k_is)
    (case k1003 => k_is)
    (case zc_LONG => k_is)
    (case ht => kernel_rfl)
    (case nT => kernel_rfl)
    (case z_int => k_is)
    (case z_len => k_is)
    (case z_abs => k_is)
    (case z_range => k_is)
    (case z_zip => k_is)
    (case z_all => k_is)
    (case z_isinstance => k_is)
    (case z_bool => k_is)
    (case z_str => k_is)
    (case z_tuple => k_is)
    (case z_list => k_is)
    (case z_dict => k_is)

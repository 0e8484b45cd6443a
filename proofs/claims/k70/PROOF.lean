import PyProof.Rows.All
import Wide.All
import OpenK.AllK
import Wide.FinOn
import HandS.Base
import HandS.Call
import HandS.List
import HandS.Comp
import HandS.Ends
import HandS.Words
import HandS.WordsList
import HandS.Codes
import HandS.Wide
import HandS.Iter
import HandS.Zip
import HandS.Star
import HandS.More
import HandS.IsInst
import HandS.Conv
import HandS.NoneIn
import HandS.WideBits
import HandS.WordsExc
import HandS.Exc
import HandS.TryMany
import HandS.HotCalls
import HandS.ExcInit
import HandS.ExcField
import HandS.Lambda
import HandS.EndTab
import HandS.Defaults
import KE.KNest
import HandS.Text
import HandS.StrMore
import KE.IntTextText
import HandS.Style
import PyProof.ListStr
import PyProof.StrBlock2
import HandS.More
import HandS.SetTxt0
import HandS.Set
import HandS.Strs
import HandS.Dict
import HandS.DictComp
import HandS.RaiseMore
import PySem.Challenge.RW_tiespan_k70_blocks_four_deep
set_option Elab.async false
set_option linter.all false
set_option maxRecDepth 100000
set_option maxHeartbeats 4000000
namespace EK
open PySem PySem.Spec PyProof.Rows L2
/-! ### try: body, except (c1, c2) as n: suite, and what stands behind it is not reached -/
theorem flyingZ_push {B h : Heap} {l : List Env} {e : Addr} {Z : Obj → Prop} (x : PySem.HandSPX.FlyingZ B l e Z h) (o : Obj) : PySem.HandSPX.FlyingZ B l e Z (h.push o) := by
  obtain ⟨h1, h2, h3, oe, vs, tb, ot, ts, a1, a2, a3, a4, a5, a6, a7, a8, a9⟩ := x
  exact ⟨fun b u q => Heap.get?_push_of_some _ (h1 b u q), h2, h3.of_keeps fun b u q _ => ⟨u, Heap.get?_push_of_some _ q, rfl⟩, oe, vs, tb, ot, ts, Heap.get?_push_of_some _ a1, a2, a3, a4, a5, a6, Heap.get?_push_of_some _ a7, a8, a9⟩
/-- the wish: the clause takes it -/
def wTup (K : PySem.W.Frag) (c1 c2 : Value) (i : Nat) (ts : Addr → Value → Option Addr → TS) (D : Ends) : WX := fun cls d σ H =>
  PySem.W.exmAny K cls [c1, c2] = some true ∧ ∀ a, H a = none → ts a cls d { nx := fun σ' H' => D.nx (σ'.set i none) H', rt := D.rt, bk := fun σ' H' => D.bk (σ'.set i none) H', ct := fun σ' H' => D.ct (σ'.set i none) H' } (σ.set i (some (.ref a))) H
theorem ps_try_tup {X : Cx} {x1 x2 n : Str} {c1 c2 : Value} {i kk : Nat} {body suite : List Stmt} {b₀ : Stmt} {np1 np2 tpos pos pos' : Pos} {tb : WX → TS} {ts : Addr → Value → Option Addr → TS} {hds : List ExceptHandler}
    (hs : X.stack = X.env :: X.outer) (hf : X.env.frame = some X.env.locals) (hN : X.N.Nodup) (hi : X.N[i]? = some n) (hln : X.env.kindOf n = some .local) (h1 : Gl X x1) (m1 : X.mg x1 = some c1) (h2 : Gl X x2) (m2 : X.mg x2 = some c2)
    (hb : ∀ (W : WX) (pn : List (Addr × Obj)) (xe : Value → Shared → Prop), Takes (X.tr pn xe) W → PassesOwn (model X.prog X.w) X.A X.env xe → PSs (X.tr pn xe) body (tb W))
    (hsu : ∀ (a : Addr) (oe : Obj) (cls : Value) (d : Option Addr) (pn : List (Addr × Obj)), Zc cls d oe → (∃ vs, oe.data = .fields vs) → PSs (X.suite a ((a, oe) :: pn)) (b₀ :: suite) (ts a cls d))
    (d1 : (x1 == ("__debug__" : Str)) = false := by decide) (d2 : (x2 == ("__debug__" : Str)) = false := by decide) :
    PS X (.Try body (.ExceptHandler (some (.Tuple [.Name x1 np1, .Name x2 np2] kk tpos)) (some n) (b₀ :: suite) pos' :: hds) [] [] pos) (fun D σ H => tb (wTup X.K c1 c2 i ts D) D σ H) := by
  refine ⟨fun pins s σ H D I h => ?_⟩
  have ok := I.ok
  have hfr : X.A.frames = some (X.env :: X.outer) := by rw [ok.frames, hs]
  have hloc : Loc X.env.scope n := .inl hln
  refine wpAny_Try_except (wpAny_mono ((hb (wTup X.K c1 c2 i ts D) (X.pn ++ pins) (fun e s₁ => wpAny (model X.prog X.w) X.A (noteFrame e X.env) (fun _ s₂ => wpAny (model X.prog X.w) X.A (setFlight e none) (fun _ s₃ =>
    wpAny (model X.prog X.w) X.A (handleBy e X.env (.ExceptHandler (some (.Tuple [.Name x1 np1, .Name x2 np2] kk tpos)) (some n) (b₀ :: suite) pos' :: hds)) (SP X pins D) X.xe s₃) X.xe s₂) X.xe s₁) (fun u s' xx => ?_) PassesOwn.looking).run [] s σ H D (I.toTry _) h) (fun f s1 hsp => ?_) (fun e s1 he => he))
  · obtain ⟨a, B, sI, pins', σ', H', cls, d, rfl, J', nb, up, sky, na, os, ag, hb1, hyes⟩ := xx
    have J : Inv X pins σ' H' sI := J'.ofTry ok
    have sky' : Sky B (X.env :: X.outer) a (Zc cls d) X.env.locals s'.heap := by rw [← hs]; exact sky
    show wpAny (model X.prog X.w) X.A (noteFrame (.ref a) X.env) _ _ _
    refine Sky.land Zc.steady hfr hf sky' fun h3 fl3 up3 => ?_
    have J3 : Inv X pins σ' H' { s' with heap := h3 } := J.landed nb fl3.1 (up.trans up3) os ag
    obtain ⟨oe3, vs3, he3, hz3, hd3⟩ := fl3.there
    have nfr : a ∉ frs (X.env :: X.outer) := fun hm => by
      obtain ⟨_, o', e', hnf⟩ := fl3.2.2.1.mem hm
      rw [he3] at e'
      cases e'
      exact hnf _ hd3
    have nL : a ≠ X.env.locals := fun z => nfr (List.mem_filterMap.mpr ⟨X.env, List.mem_cons_self, by rw [hf, z]⟩)
    have nF : a ∉ X.fs := fun hm => by
      obtain ⟨e, he, q⟩ := List.mem_filterMap.mp hm
      exact nfr (List.mem_filterMap.mpr ⟨e, List.mem_cons_of_mem _ he, q⟩)
    have S3 := J3.suite he3 hd3 na nL nF
    refine wpAny_handleBy_cons (codeAny_handlers_test ?_) (by intro q; cases q)
    refine wpAny_Tuple ?_
    refine wpAny_items_cons (ld_glob (X := X.suite a ((a, oe3) :: (X.pn ++ pins))) S3 h1 m1 ?_ d1)
    refine wpAny_items_cons (ld_glob (X := X.suite a ((a, oe3) :: (X.pn ++ pins))) S3 h2 m2 ?_ d2)
    refine wpAny_items_nil ⟨Nat.le_trans (by decide : 2 ≤ 1000) (Nat.le_of_lt (small1000 (Nat.le_refl _))), ?_⟩
    have kp : ∀ q o, h3.get? q = some o → (h3.push { cls := .type "tuple", data := .seq [c1, c2].toArray }).get? q = some o := fun _ _ z => Heap.get?_push_of_some _ z
    have LT : PySem.W.Looks (model X.prog X.w) (h3.push { cls := .type "tuple", data := .seq [c1, c2].toArray }) (typeOf (.ref a)) cls := fun A Q E s k q => wpAny_typeOf_ref (k _ _ (kp _ _ he3)) (by rw [hz3.1]; exact q)
    refine (PySem.W.exm_tup2 (M := model X.prog X.w) (J3.kIn.keeps kp) LT (Heap.get?_push_size h3 rfl) hb1).here ?_
    have up3p := (up.trans up3).trans (Heap.UpToSlots.of_keeps kp)
    have fl3p := flyingZ_push fl3 { cls := .type "tuple", data := .seq [c1, c2].toArray }
    generalize h3.push { cls := .type "tuple", data := .seq [c1, c2].toArray } = g3 at up3p fl3p
    refine codeAny_handlers_suite_as ?_
    refine PySem.HandSPX.lands_againZ fl3p fun h4 fl4 up4 => ?_
    have J4 : Inv X pins σ' H' { s' with heap := h4 } := J.landed nb fl4.1 (up3p.trans up4) os ag
    obtain ⟨oe4, vs4, he4, hz4, hd4⟩ := fl4.there
    have S4 := J4.suite he4 hd4 na nL nF
    refine store_ok (X := X.suite a ((a, oe4) :: (X.pn ++ pins))) (v := .ref a) S4 hN hi hloc rfl (fun s5 S5 => ?_) (.inr hln)
    refine wpAny_mono ((hsu a oe4 cls d (X.pn ++ pins) hz4 ⟨_, hd4⟩).run [] s5 _ H' _ S5 (hyes a na)) (fun f s6 hsp => ?_) (fun _ _ z => False.elim z)
    have end_ : ∀ {σ6 : L2.St} {H6 : Hp} {Q : Shared → Prop}, Inv (X.suite a ((a, oe4) :: (X.pn ++ pins))) [] σ6 H6 s6 → (∀ s7, Inv X pins (σ6.set i none) H6 s7 → Q s7) →
        wpAny (model X.prog X.w) X.A (do bindName X.env n .none; unbindBehindTheSuite X.env n pos') (fun _ s7 => Q s7) X.xe s6 := fun {σ6 H6 Q} S6 hq => gone_ok (S6.unsuite ok) hN hi hln hq
    cases f with
    | next =>
      obtain ⟨σ6, H6, S6, q6⟩ := hsp
      exact end_ S6 fun s7 J7 => ⟨_, _, J7, q6⟩
    | brk =>
      obtain ⟨σ6, H6, S6, q6⟩ := hsp
      exact end_ S6 fun s7 J7 => ⟨_, _, J7, q6⟩
    | cont =>
      obtain ⟨σ6, H6, S6, q6⟩ := hsp
      exact end_ S6 fun s7 J7 => ⟨_, _, J7, q6⟩
    | ret u =>
      obtain ⟨v6, σ6, H6, S6, r6, q6⟩ := hsp
      exact end_ S6 fun s7 J7 => ⟨_, _, _, J7, r6, q6⟩
  · cases f with
    | next =>
      obtain ⟨σ', H', J', q⟩ := hsp
      exact wpAny_execs_nil ⟨σ', H', J'.ofTry ok, q⟩
    | brk =>
      obtain ⟨σ', H', J', q⟩ := hsp
      exact ⟨σ', H', J'.ofTry ok, q⟩
    | cont =>
      obtain ⟨σ', H', J', q⟩ := hsp
      exact ⟨σ', H', J'.ofTry ok, q⟩
    | ret u =>
      obtain ⟨v, σ', H', J', r, q⟩ := hsp
      exact ⟨v, σ', H', J'.ofTry ok, r, q⟩
/-! ### defs that are called where an exception is handled, and read it; nothing is raised there -/
structure FnP (P : Program) (w : World) (K : PySem.W.Frag) (mg : Str → Option Value) (base : Heap) (k : Nat) (f : Addr) (fd : FuncData) (ps : List Str) (sp : Addr × Obj → Sp) : Prop where
  len : ∀ p vs H Q E, sp p vs H Q E → vs.length = ps.length
  run : ∀ (A : Around) (outer : List Env) (s : Shared) (H : Hp) (args : Args) (us : List Value) (vs : List V) (Q : VK) (p : Addr × Obj), L2H.RoomH k A → L2H.PinOk outer H s p → Env0 P w K mg base A outer s H → BindsTo s fd args (ps.zip us) → Vals vs us → sp p vs H Q E0 →
    codeAny (model P w) A (.call (.ref f) args) (CR CX0 outer P w H s Q E0) s
theorem fn_ofP {P : Program} {w : World} {K : PySem.W.Frag} {mg : Str → Option Value} {base : Heap} {k : Nat} {x : Str} {st : Stmt} {f : Addr} {fd : FuncData} {N ps : List Str} {sp : Addr × Obj → Sp} (F : Fun K x x st f fd) (S : FnScope N ps (defScope st))
    (len : ∀ p vs H Q E, sp p vs H Q E → vs.length = ps.length)
    (hbody : ∀ (cdv : Value) (A : Around) (outer : List Env) (s : Shared) (H : Hp) (vs : List V) (Q : VK) (p : Addr × Obj), L2H.RoomH k (A.deeper (envOfC x (defScope st) s.heap.objs.size f cdv)) → sp p vs H Q E0 →
      ∃ t, PSs (L2H.cxH CX0 P w K mg base N x (defScope st) f cdv A outer s H E0 p) (defBody st) t ∧ t { nx := fun _ H' => Q .non H', rt := Q } (L2.start N vs) H) : FnP P w K mg base (k + 1) f fd ps sp := by
  obtain ⟨oc, od, kV, doc, pm, an, cdv, ct, osl, rfl, lk, hcd⟩ := F.ex
  refine ⟨len, fun A outer s H args us vs Q p hr hpin e0 hb r hsp => ?_⟩
  have hl := len _ _ _ _ _ hsp
  have KX : K.In s.heap := e0.mod.kin.keeps fun b o e => (e0.bs b o e).1
  have lim : s.heap.NoLimit := e0.mod.nolimit.keeps fun b o e => (e0.bs b o e).1
  refine codeAny_call_function hr.depth (KX _ _ lk) rfl S.co S.gen rfl (PySem.W.codeRec_of KX hcd) (hb _ _ _ _ ?_)
  refine wpAny_newFunctionEnv_cells S.kind (fun ⟨n, v⟩ hy => ?_) fun env he s1 xc => ?_
  · rcases S.par n (List.of_mem_zip hy).1 with q | q
    · exact .inl q
    · exact .inr ⟨q, PySem.W.cellsFrom_some _ _ _ (.inl q)⟩
  · subst he
    refine ⟨lim.keeps xc.toInCall.keep, codeAny_func ?_⟩
    obtain ⟨t, ht, hq⟩ := hbody cdv A outer s H vs Q p (hr.deeper _) hsp
    refine wpAny_mono (ht.run [] s1 (L2.start N vs) H _ (L2H.inv_startH S hpin e0 hl r xc) hq) (fun fl s' hs => ?_) fun e s' hs => hs
    cases fl with
    | ret u =>
      obtain ⟨v, σ', H', J, rv, q⟩ := hs
      exact ⟨v, H', J.os, J.bare, J.base, J.hok, rv, q⟩
    | next =>
      obtain ⟨σ', H', J, q⟩ := hs
      exact ⟨.non, H', J.os, J.bare, J.base, J.hok, rfl, q⟩
    | brk =>
      obtain ⟨_, _, _, q⟩ := hs
      exact False.elim q
    | cont =>
      obtain ⟨_, _, _, q⟩ := hs
      exact False.elim q
theorem pe_callP {X : Cx} {k : Nat} {f : Addr} {fd : FuncData} {ps : List Str} {sp : Addr × Obj → Sp} {x : Str} {q pos : Pos} {e : Expr} {es : List Expr} {t : TA} {p : Addr × Obj} (F : FnP X.prog X.w X.K X.mg X.base k f fd ps sp) (hr : L2H.RoomH k X.A) (hp : p ∈ X.pn) (hg : Gl X x) (hm : X.mg x = some (.ref f))
    (hk : PySem.W.keepIn X.K (.ref f) = true) (hb : Binds X.K fd ps []) (ha : PA X (e :: es) t) (hdb : (x == ("__debug__" : Str)) = false := by decide) (he : starEach (e :: es) X.env = (false, eval e X.env) :: starEach es X.env := by rfl) (hpl : (backTo pos (starEach es X.env)).any (·.1) = false := by rfl) :
    PE X (.Call (.Name x q) (e :: es) [] pos) (fun σ H Q => t σ H fun vs H1 => sp p vs H1 Q E0) := by
  refine ⟨fun pins s σ H Q I h => wpAny_Call_Name_kw (ld_glob I hg hm (PySem.W.callWith_K (h₀ := X.base) I.ok.mod.kin hk (thn (ha.run pos pins s σ H _ I h) fun us s1 ⟨vs, H1, I1, r, q1⟩ => ⟨I1.kIn, ?_⟩) he hpl) hdb)⟩
  have hl : us.length = ps.length := by rw [← r.length]; exact F.len _ _ _ _ _ q1
  have b := hb s1 us I1.kIn (by rw [List.append_nil]; exact hl)
  rw [List.append_nil] at b
  have P1 := I1.pin p (List.mem_append_left _ hp)
  have hpin : L2H.PinOk X.stack H1 s1 p := ⟨P1.1, P1.2.1, fun hm => (List.mem_cons.mp (I1.stkSub p.1 hm)).elim P1.2.2.1 P1.2.2.2.1, P1.2.2.2.2⟩
  refine wpAny_call (codeAny_mono (F.run X.A X.stack s1 H1 ⟨us, []⟩ us vs Q p hr hpin I1.env0 b r q1) fun r s' hq => ?_)
  cases r with
  | error e => exact (show False from hq).elim
  | ok fl =>
    cases fl with
    | ret u => exact I1.after hq
    | next => exact False.elim hq
    | brk => exact False.elim hq
    | cont => exact False.elim hq
/-- what is told of the exception at p: its class, its own dict, the fields -/
structure Xat (K : PySem.W.Frag) (p : Addr × Obj) (C dd : Addr) : Prop where
  z : Zc (.ref C) (some dd) p.2
  fl : ∃ vs, p.2.data = .fields vs
  xf : XfC K C
def tXp (K : PySem.W.Frag) (p : Addr × Obj) (n : Str) (te : TE) : TE := fun σ H Q => te σ H fun x H1 => x = .ref p.1 ∧ ∃ (C dd : Addr) (fs : List (Str × V)) (v : V), Xat K p C dd ∧ PySem.W.findIn K (.ref C) n = some none ∧ H1 dd = some (.xd fs) ∧ fs.lookup n = some v ∧ Q v H1
theorem pe_xp {X : Cx} {p : Addr × Obj} {e : Expr} {te : TE} {pos : Pos} {n : Str} (hp : p ∈ X.pn) (he : PE X e te) (hb : attributeBase e n X.env (eval e X.env) = eval e X.env := by rfl) : PE X (.Attribute e n pos) (tXp X.K p n te) := by
  refine ⟨fun pins s σ H Q I h => attr_of hb (thn (he.run pins s σ H _ I h) fun u s1 hh => ?_)⟩
  obtain ⟨x, H1, I1, rx, ex, C, dd, fs, v, T, hno, ea, l, q⟩ := hh
  subst ex
  obtain rfl : u = Value.ref p.1 := rx
  obtain ⟨ha, _⟩ := I1.pin p (List.mem_append_left _ hp)
  obtain ⟨vs, hd⟩ := T.fl
  have hx : ObjOk X.prog X.w H1 s1.heap dd (.xd fs) := I1.hok dd _ ea
  obtain ⟨mA, hns, hr⟩ := hx
  obtain ⟨od, ho, hl⟩ := lookIn_ns hns
  obtain ⟨u, hu, ru⟩ := RelO.some_of (v := v) (o := mA n) (by rw [← l]; exact hr n)
  have J : PySem.W.InstAt s1.heap p.1 p.2 C (some od) := ⟨ha, T.z.1, by unfold PySem.W.notCls; rw [hd] <;> rfl, by rw [T.z.2]; exact ho⟩
  exact PySem.HandSPX.exc_get I1.kIn J T.xf.ga T.xf.gg T.xf.exC (PySem.W.findObj_own T.xf.hdC hno rfl (by rw [hl, hu])) (handed_of ru) ⟨v, H1, I1.tok _, ru, q⟩
/-! ### own errors: what K tells of a class, making one, what why tells of it -/
structure ErrC (K : PySem.W.Frag) (mg : Str → Option Value) (x : Str) (C Tie Miss fI : Addr) : Prop where
  oex : OexC K C
  xf : XfC K C
  gC : mg x = some (.ref C)
  tag : PySem.W.findIn K (.ref C) "tag" = some none
  any : PySem.W.exmAny K (.ref C) [.ref Tie, .ref Miss] = some true
  iC : PySem.W.findIn K (.ref C) "__init__" = some (some (.ref fI))
  tI : PySem.W.typeIn K (.ref fI) = some (.type "function")
/-- __init__(self, v): self.n = v; self.tag = x -/
def spInit1 (K : PySem.W.Frag) (n x : Str) : Sp := fun vs H Q _ => ∃ (a C : Addr) (v : V), vs = [.ref a, v] ∧ OexC K C ∧ PySem.W.findIn K (.ref C) n = some none ∧ PySem.W.findIn K (.ref C) "tag" = some none ∧ H a = some (exo a C none) ∧
  ∀ dx, H dx = none → dx ≠ a → Q .non (upd (upd (upd H dx (exd dx [(n, v)])) a (exo a C (some dx))) dx (exd dx [("tag", .str x), (n, v)]))
def spInit0 (K : PySem.W.Frag) (x : Str) : Sp := fun vs H Q _ => ∃ (a C : Addr), vs = [.ref a] ∧ OexC K C ∧ PySem.W.findIn K (.ref C) "tag" = some none ∧ H a = some (exo a C none) ∧
  ∀ dx, H dx = none → dx ≠ a → Q .non (upd (upd H dx (exd dx [("tag", .str x)])) a (exo a C (some dx)))
theorem Same.del {H H2 : Hp} {a d : Addr} {o : HO} (na : H a = none) (nd : H d = none) (h : ∀ b u, b ≠ a → H b = some u → H2 b = some u) : Same H (upd (del H2 a) d o) := fun b u e => by
  rw [upd_ne (ne_of_none e nd), del_ne (ne_of_none e na)]
  exact h b u (ne_of_none e na) e
/-! ### a def whose code object is known -/
structure FunC (K : PySem.W.Frag) (x : Str) (st : Stmt) (f : Addr) (fd : FuncData) (c : Addr) : Prop where
  ex : ∃ (oc : Value) (od : Option Addr) (kV doc pm : Value) (an : Option Addr) (ct : Value) (osl : Array (Option Value)),
    fd = PySem.W.fnOf x x (defArgs st) (defBody st) (defScope st) .none kV doc pm an (.ref c) ct ∧ K.lookup f = some ⟨oc, od, .func fd, osl⟩ ∧ PySem.W.codeIn K (.ref c) x = true
theorem FunC.ok {P : Program} {w : World} {K : PySem.W.Frag} {mg : Str → Option Value} {base : Heap} {x : Str} {st : Stmt} {f c : Addr} {fd : FuncData} {N ps : List Str} {k : Nat} {sp : Sp} (F : FunC K x st f fd c) (S : FnScope N ps (defScope st)) (len : ∀ vs H Q E, sp vs H Q E → vs.length = ps.length)
    (hbody : ∀ (A : Around) (outer : List Env) (s : Shared) (H : Hp) (vs : List V) (Q : VK) (E : XK), Room k (A.deeper (envOfC x (defScope st) s.heap.objs.size f (.ref c))) → sp vs H Q E →
      ∃ t, PSs (cxOf CX0 P w K mg base N x (defScope st) f (.ref c) A outer s H E).nox (defBody st) t ∧ t { nx := fun _ H' => Q .non H', rt := Q } (L2.start N vs) H) : FnOk P w K mg base CX0 (k + 1) f fd ps sp := by
  obtain ⟨oc, od, kV, doc, pm, an, ct, osl, rfl, lk, hcd⟩ := F.ex
  refine fn_of lk hcd S len fun A outer s H vs Q E hr hsp => ?_
  obtain ⟨t, h, q⟩ := hbody A outer s H vs Q E hr hsp
  exact ⟨t, h.nox, q⟩
theorem ExtN.same {H H' : Hp} (s : Same H H') : LamX.ExtN H H' := fun b o e _ => s b o e
/-! ### the end with tables -/
theorem walk_T {l : PySem.W.OpenLaw} {n k : Nat} {q : Program} {loose : List Str} {XP : (Str → Option Value) → Heap → Prop} {YP : World → Heap → Prop} {d : DefRec} {K : Params → PySem.W.Frag} {CX : World → CXT} {x : Str}
    (hn : l.most = some n) (hn2 : n ≤ sizeLine) (hdf : d.params.defaults = []) (hr : Room k callerA) (hY : ∀ (w : World) (h : Heap), YP w h → (K w.params).In h)
    (F : ∀ (w : World) (lo : List Str) (mean : ExcName → Option Value) (mg mb : Str → Option Value) (fa : Addr) (h : Heap), Top q lo mean mg mb h → (K w.params).In h → mg d.name = some (.ref fa) → LamX.LawAtS l w (K w.params) (CX w) k n x mg fa h)
    (hCX : ∀ (w : World) (H : Hp) (s : Shared) (e : Value) (s' : Shared), CX w [] H s (fun _ _ _ => False) e s' → False) :
    PySem.W.WalkO q loose XP YP l.row.toRowW d [] (fun f vs => PySem.call f vs) := by
  refine Att.attach_callB hn hdf fun w s₀ s₁ mg mb fa o pm cd doc a vs ns G Y ho hd hcd hmg hobj hints hlen hbits hg => ?_
  have KX := hY w _ Y
  obtain ⟨fd, cs, sp, hT, nT, C, hb, hsp, hF⟩ := F w _ _ mg mb fa _ G.T KX hmg
  exact LamX.law_callTs KX G.T.g G.T.b G.T.builtins G.T.nolimit hg hT nT C G.T.bmain hobj hints (Nat.le_trans hlen hn2) hr hF hb (fun H hH hS => hsp H a ns hlen hbits hH hS) fun H e s' => hCX w H s₁ e s'
theorem exm_by {K : PySem.W.Frag} {S : Addr} {cls : Value} {b : Bool} (h1 : PySem.W.subIn K (.ref S) (.type "BaseException") = some true) (h2 : PySem.W.isClsIn K S = true) (h3 : PySem.W.typeIn K (.ref S) = some (.type "type")) (h4 : PySem.W.subIn K cls (.ref S) = some b) :
    PySem.W.exmOne K cls (.ref S) = some b := by
  have e1 : (PySem.W.subIn K (.ref S) (.type "BaseException") == some true) = true := by rw [h1] <;> rfl
  have e2 : ((PySem.W.clsIn K S).isSome && PySem.W.typeIn K (.ref S) == some (.type "type")) = true := by
    have h2' : (PySem.W.clsIn K S).isSome = true := h2
    rw [h2', h3] <;> rfl
  unfold PySem.W.exmOne PySem.W.kitCls
  rw [if_pos e1]
  exact (if_pos e2).trans h4
theorem exm_any {K : PySem.W.Frag} {c1 c2 cls : Value} (h1 : PySem.W.exmOne K cls c1 = some true) (h2 : PySem.W.exmOne K cls c2 = some false) : PySem.W.exmAny K cls [c1, c2] = some true := by
  unfold PySem.W.exmAny PySem.W.exmAny PySem.W.exmAny
  rw [h1, h2]
  rfl
/-! ### calls with keywords alone -/
theorem pe_callN0 {X : Cx} {CX : CXT} {k : Nat} {f : Addr} {fd : FuncData} {ps ks : List Str} {sp : Sp} {E : XK} {x : Str} {p pos : Pos} {kws : List Keyword} {tk : TA} {g : List Value → List Value → List Value} {gV : List V → List V → List V}
    (F : FnOk X.prog X.w X.K X.mg X.base CX k f fd ps sp) (hr : Room k X.A) (hg : Gl X x) (hm : X.mg x = some (.ref f)) (hk : PySem.W.keepIn X.K (.ref f) = true) (hb : KBn X.K fd ps 0 ks g gV) (hx : Passes CX X E) (hkw : PK X kws tk)
    (hall : (backToKw pos (keywordEach kws X.env)).all (·.1.isSome) = true := by rfl) (hks : (backToKw pos (keywordEach kws X.env)).filterMap (·.1) = ks := by rfl) (hdb : (x == ("__debug__" : Str)) = false := by decide)
    (hpl : ((backTo pos (starEach [] X.env)).any (·.1) || (backToKw pos (keywordEach kws X.env)).any (·.1.isNone)) = false := by rfl) :
    PE X (.Call (.Name x p) [] kws pos) (fun σ H Q => tk σ H fun zs H2 => zs.length = ks.length ∧ sp (gV [] zs) H2 Q E) := by
  refine ⟨fun pins s σ H Q I h => wpAny_Call_Name_kw (ld_glob I hg hm (PySem.W.callWith_KW0 (h₀ := X.base) I.ok.mod.kin hk hall (thn (hkw.run pos pins s σ H _ I h) fun ws s2 ⟨zs, H2, I2, rz, l2, q2⟩ => ⟨I2.kIn, ?_⟩) hpl) hdb)⟩
  rw [hks]
  exact run_fnN (us := []) (vs := []) F hr hb hx I2 .nil rz rfl l2 q2
/-- two values in the other order -/
theorem swap_rel : ∀ {vs : List V} {us : List Value} {zs : List V} {ws : List Value}, Vals vs us → Vals zs ws → Vals [zs.getD 1 .non, zs.getD 0 .non] [ws.getD 1 Value.none, ws.getD 0 Value.none]
  | _, _, _, _, _, .nil => .cons rfl (.cons rfl .nil)
  | _, _, _, _, _, .cons r .nil => .cons rfl (.cons r .nil)
  | _, _, _, _, _, .cons r (.cons r2 _) => .cons r2 (.cons r .nil)
/-! ### list(text); text * number -/
theorem call_list_text {X : Cx} (hc : X.calm = true) : CallR X (.type "list") (fun xs H Q => ∃ z : Str, xs = [.str z] ∧ z.length ≤ sizeLine ∧ ∀ p, H p = none → Q (.ref p) (upd H p (.lst (z.cps.toList.map fun c => V.str ⟨#[c]⟩)))) := by
  intro pn s σ H xs us Q I r h
  obtain ⟨z, e, hz, q⟩ := h
  subst e
  obtain ⟨u, eu, rx⟩ := vals1 r
  subst eu
  obtain ⟨t, rfl⟩ := rx
  refine call_list_str (I.ok.hd hc) z t (fun h' tk acc' c' hkeep hS hacc => ?_) hz
  refine ⟨.ref s.heap.objs.size, upd H s.heap.objs.size (.lst (z.cps.toList.map fun c => V.str ⟨#[c]⟩)), I.laid hkeep (Nat.le_refl _) (show ObjOk X.prog X.w _ _ _ (.lst (z.cps.toList.map fun c => V.str ⟨#[c]⟩)) from ⟨?_, acc'.toList, c', ?_, ?_⟩), rfl, q _ (I.hok.fresh (Nat.le_refl _))⟩
  · rw [List.length_map]
    exact hz
  · refine vals_of_idx _ _ (by rw [List.length_map, Array.length_toList, Array.length_toList, hacc.1]) fun j v hj => ?_
    obtain ⟨c, u, hc2, rfl⟩ := hacc.2 j v (by rw [← Array.getElem?_toList]; exact hj)
    refine ⟨.str ⟨#[c]⟩, ?_, ⟨_, rfl⟩⟩
    rw [List.getElem?_map, Array.getElem?_toList, hc2]
    rfl
  · exact hS
theorem op_mul_str {X : Cx} : OpR X (binaryOp .Mult) (fun x y H Q => ∃ (z : Str) (n : Int), x = .str z ∧ y = .int n ∧ MulOk z n ∧ Q (.str (Txt.mul z n)) H) := by
  intro pn s σ H x y v u Q I rx ry h
  obtain ⟨z, n, rfl, rfl, hz, q⟩ := h
  obtain ⟨t, rfl⟩ := rx
  obtain ⟨t', rfl⟩ := ry
  exact PySem.SB.mul hz fun t' tk => ⟨.str (Txt.mul z n), H, I.tok _, ⟨_, rfl⟩, q⟩
/-! ### sets of texts: what an add keeps -/
open PySem.Froz
structure TxW (P : Program) (w : World) (D : SD) (l : List Str) : Prop where
  ok : TxOk P w D l
  ris : Ris D.2.2.place.toList
  led : w.params.followText "set-order" = true ∨ D.2.2.led = true
theorem tail_keeps {ep : Nat} {es : Array (Int × Value)} {t : SetTable} {b : Bool} (r : Ris t.place.toList) : Ris (tailTx ep es t b).2.2.place.toList ∧ (tailTx ep es t b).2.2.led = t.led := by
  unfold tailTx
  split
  · exact ⟨relayAll_ris t es _, relayAll_led t es _⟩
  · exact ⟨r, rfl⟩
theorem add_keeps {D : SD} {h : Int} {v : Value} (r : Ris D.2.2.place.toList) : Ris (addTx h v D).2.2.place.toList ∧ (addTx h v D).2.2.led = D.2.2.led := by
  have r1 := layNew_ris D.2.2 D.1 h v r
  have l1 := layNew_led D.2.2 D.1 h v
  have key : ∀ t : SetTable, Ris t.place.toList → t.led = D.2.2.led → Ris (if t.plain = true then { t with plain := false } else t).place.toList ∧ (if t.plain = true then { t with plain := false } else t).led = D.2.2.led := fun t a b => by
    split <;> exact ⟨a, b⟩
  obtain ⟨k1, k2⟩ := key _ r1 l1
  obtain ⟨t1, t2⟩ := tail_keeps (ep := D.2.1) (es := (layNew D.2.2 D.1 h v).1) (b := (layNew D.2.2 D.1 h v).2.2.1) k1
  exact ⟨t1, t2.trans k2⟩
theorem TxW.add {P : Program} {w : World} {D : SD} {l : List Str} {k : Str} (u : Tok) (F : TxW P w D l) : TxW P w (addTx (hashStr w k) (.str k u) D) (k :: l) := by
  obtain ⟨a, b⟩ := add_keeps (D := D) (h := hashStr w k) (v := .str k u) F.ris
  exact ⟨add_ok u F.ok, a, F.led.imp id fun z => b.trans z⟩
section
variable {A : Around} {s : Shared} {P : Program} {w : World} {E : Value → Shared → Prop}
/-- a text that is there already -/
theorem add_there {a : Addr} {T : String} {D : SD} {l : List Str} {k : Str} {u : Tok} {Q : Bool → Shared → Prop} (ho : s.heap.get? a = some (sObj T D)) (F : TxOk P w D l) (hk : k ∈ l) (hb : l.length < scanBound)
    (h : Q false s) : wpAny (model P w) A (setAddHashed a (.str k u) (hashStr w k)) Q E s := by
  obtain ⟨es, ep, t⟩ := D
  obtain ⟨el, mem, sz, fit⟩ := F
  obtain ⟨e, he, hp⟩ := (mem k).mp hk
  have small : es.size < scanBound := Nat.lt_of_le_of_lt (Nat.le_of_eq sz) hb
  obtain ⟨j, hj⟩ : ∃ j, List.findIdx? (fun e => (strKind P w).is k e.2) es.toList = some j := by
    cases q : List.findIdx? (fun e => (strKind P w).is k e.2) es.toList with
    | some j => exact ⟨j, rfl⟩
    | none =>
      have c := List.findIdx?_eq_none_iff.mp q e he
      rw [hp] at c
      cases c
  unfold setAddHashed; unfold setAddHashedIn
  refine wpAny_holding (wpAny_bind (wpAny_setState_of ho (ep := ep) (es := es) (t := t) rfl fit ?_))
  dsimp only
  rw [byScan_of rfl small el, if_pos rfl]
  unfold setAddByScan
  refine wpAny_bind (wpAny_bind (wpAny_rule (wpAny_bind (wpAny_setScan_of (knd := strKind P w) (k := k) (is_str k u) ho rfl fit el ?_))))
  rw [hj]
  exact wpAny_pure <| wpAny_pure h
/-- either way -/
def ins (k : Str) (l : List Str) : List Str := if k ∈ l then l else k :: l
theorem add_any {a : Addr} {T : String} {D : SD} {l : List Str} {k : Str} {u : Tok} {Q : Bool → Shared → Prop} (ho : s.heap.get? a = some (sObj T D)) (F : TxW P w D l) (hb : l.length + 1 < scanBound)
    (h : ∀ b h' D', TxW P w D' (ins k l) → h'.get? a = some (sObj T D') → (∀ c o, c ≠ a → s.heap.get? c = some o → h'.get? c = some o) → h'.objs.size = s.heap.objs.size → Q b { s with heap := h' }) : wpAny (model P w) A (setAddHashed a (.str k u) (hashStr w k)) Q E s := by
  by_cases hk : k ∈ l
  · refine add_there ho F.ok hk (by omega) (h false s.heap D ?_ ho (fun _ _ _ e => e) rfl)
    unfold ins
    rw [if_pos hk]
    exact F
  · refine add_x ho F.ok hk hb (h true _ _ ?_ (get_upd _ ho rfl) (fun c o hc e => ?_) ?_)
    · unfold ins
      rw [if_neg hk]
      exact F.add u
    · exact (Heap.get?_update_other _ _ (Ne.symm hc)).trans e
    · exact Heap.size_update _ _ _
end
def insAll : List Str → List Str → List Str
  | [], l => l
  | x :: xs, l => insAll xs (ins x l)
theorem ins_len (x : Str) (l : List Str) : (ins x l).length ≤ l.length + 1 := by
  unfold ins
  split
  · omega
  · exact Nat.le_refl _
theorem ins_mem (x y : Str) (l : List Str) : y ∈ ins x l ↔ y = x ∨ y ∈ l := by
  unfold ins
  split
  · rename_i h
    exact ⟨.inr, fun z => z.elim (fun e => e ▸ h) id⟩
  · exact List.mem_cons
theorem ins_nodup {x : Str} {l : List Str} (h : l.Nodup) : (ins x l).Nodup := by
  unfold ins
  split
  · exact h
  · rename_i n
    exact List.nodup_cons.mpr ⟨n, h⟩
theorem insAll_mem (y : Str) : ∀ xs l : List Str, y ∈ insAll xs l ↔ y ∈ xs ∨ y ∈ l
  | [], l => by simp [insAll]
  | x :: xs, l => by
    show y ∈ insAll xs (ins x l) ↔ _
    rw [insAll_mem y xs, ins_mem, List.mem_cons]
    constructor
    · rintro (h | h | h)
      · exact .inl (.inr h)
      · exact .inl (.inl h)
      · exact .inr h
    · rintro ((h | h) | h)
      · exact .inr (.inl h)
      · exact .inl h
      · exact .inr (.inr h)
theorem insAll_nodup : ∀ (xs : List Str) {l : List Str}, l.Nodup → (insAll xs l).Nodup
  | [], _, h => h
  | _ :: xs, _, h => insAll_nodup xs (ins_nodup h)
theorem insAll_len : ∀ (xs l : List Str), (insAll xs l).length ≤ xs.length + l.length
  | [], l => by simp [insAll]
  | x :: xs, l => by
    have h1 := insAll_len xs (ins x l)
    have h2 := ins_len x l
    show (insAll xs (ins x l)).length ≤ xs.length + 1 + l.length
    omega
section
variable {prog : Program} {w : World} {A : Around} {R : Result → Shared → Prop} {I : Addr} {fp wr : List Addr} {G : Array GenState → Array GenState → Prop} {n : Nat} {Pv : Nat → Value → Prop} {St : Nat → Shared → Prop}
theorem upd_loop (W : WalksS prog w A.in1 I fp wr G n Pv St) (a : Addr) (hf : a ∉ fp) (xs : List Str) (hl : xs.length = n) (hv : ∀ i v, Pv i v → ∃ t, v = .str (xs.getD i Str.empty) t) (hb : n + 1 < scanBound) :
    ∀ (k i : Nat) (s : Shared) (D : SD) (l : List Str), n - i = k → i ≤ n → l.length ≤ i → St i s → s.heap.get? a = some (sObj "set" D) → TxW prog w D l →
      (∀ s' D', Moved (a :: wr) G s s' → s'.heap.get? a = some (sObj "set" D') → TxW prog w D' (insAll (xs.drop i) l) → R (.ok (.ret .none)) s') →
      codeAny (model prog w) A (.builtin "set.update.loop" ⟨[.ref a, .ref I], []⟩) R s := by
  have haw : a ∉ wr := fun h => hf (W.sub _ h)
  have more : ∀ b ∈ wr, b ∈ a :: wr := fun b h => List.mem_cons_of_mem _ h
  intro k
  induction k with
  | zero =>
    intro i s D l hk hi _ hst ho F hR
    have e : i = n := by omega
    refine codeAny_builtin PyProof.Rows.F.entry_set_update_loop (by
      rw [(Around.under_plainId PyProof.Rows.F.plain_set_update_loop _)]
      refine wpAny_bind (W.done s _ _ (e ▸ hst) fun s' hm => wpAny_pure (hR s' D (hm.mono more) (hm.heap a _ haw ho) ?_))
      rw [e, ← hl, List.drop_length]
      exact F)
  | succ k ih =>
    intro i s D l hk hi hll hst ho F hR
    have lt : i < n := by omega
    refine codeAny_builtin PyProof.Rows.F.entry_set_update_loop (by
      rw [(Around.under_plainId PyProof.Rows.F.plain_set_update_loop _)]
      refine wpAny_bind (W.item i s _ _ lt hst fun v s1 hp hst1 hm => ?_)
      obtain ⟨t, rfl⟩ := hv i v hp
      have ho1 := hm.heap a _ haw ho
      show wpAny _ A.in1 (holding [Value.str (xs.getD i Str.empty) t] (setAdd a (.str (xs.getD i Str.empty) t)) >>= _) _ _ s1
      refine wpAny_bind (wpAny_holding (by
        unfold setAdd
        refine wpAny_holding (wpAny_bind ((strKind prog w).pyHash (k := xs.getD i Str.empty) (is_str _ _) ?_))
        refine add_any (s := { s1 with toks := s1.toks + 1 }) ho1 F (by omega) fun b h2 D2 F2 ho2 oth sz => ?_
        have hd : xs.drop i = xs.getD i Str.empty :: xs.drop (i + 1) := by
          have : i < xs.length := by omega
          rw [List.drop_eq_getElem_cons this]
          congr 1
          rw [List.getD_eq_getElem?_getD, List.getElem?_eq_getElem this]
          rfl
        have il := ins_len (xs.getD i Str.empty) l
        refine wpAny_pure ⟨plainId_quiet PyProof.Rows.F.plain_set_update_loop _, ih (i + 1) _ D2 _ (by omega) lt (by omega) (W.frame _ s1 _ _ hst1 (Nat.le_succ _) fun b hb o e => oth b o (fun z => hf (z ▸ hb)) e) ho2 F2 fun s3 D3 hm3 ho3 F3 => ?_⟩
        refine hR s3 D3 (Moved.trans W.gtrans ((hm.mono more).then_heap (Nat.le_succ _) fun b o hb e => oth b o (fun z => hb (by rw [z]; exact List.mem_cons_self)) e) hm3) ho3 ?_
        rw [hd]
        exact F3)))
end
section
variable {A : Around} {s : Shared} {prog : Program} {w : World} {E : Value → Shared → Prop}
/-- a new set's table -/
abbrev tb0 (w : World) : SetTable := .fresh 0 0 (!w.params.followText "set-order")
theorem new_keeps (P : Program) (w : World) : TxW P w (#[], 0, tb0 w) [] := by
  refine ⟨TxOk.nil (by rfl), List.Pairwise.nil, ?_⟩
  show (_ ∨ (!w.params.followText "set-order") = true)
  cases w.params.followText "set-order" <;> simp
theorem code_new1 (x : Value) {Q₁ : Value → Shared → Prop} (h : Q₁ (.ref s.heap.objs.size) { s with heap := s.heap.push (sObj "set" (#[], 0, tb0 w)) }) :
    codeAny (model prog w) A (.call (.builtin "set.__new__") ⟨[.type "set", x], []⟩) (wants Q₁ E) s := by
  refine codeAny_of_tree (wpAny_bind (wpAny_of_eq (PySem.F.newCall_set_1 x) (wpAny_pure ⟨plainId_quiet PySem.F.plain_set_new _, codeAny_builtin PySem.F.entry_set_new (by
    rw [Around.under_plainId PySem.F.plain_set_new _]
    unfold Builtin.«set.__new__»; unfold Builtin.Frozenset.newClass
    have self := PySem.sub_set_self
    obtain ⟨hp0, g0, d0, tk0, os0⟩ := s
    dsimp only
    wp_walk
    refine wpAny_askSetting (wpAny_pure (by
      dsimp only
      simp only [newObj]
      exact wpAny_bind (wpAny_alloc (wpAny_pure (wpAny_pure h))))))⟩)))
theorem str_at : ∀ {us : List Value} {ys : List Str}, StrsAre us ys → ∀ (i : Nat) (v : Value), us[i]? = some v → ∃ t, v = .str (ys.getD i Str.empty) t
  | _, _, .cons y t _, 0, v, e => ⟨t, (Option.some.inj e).symm⟩
  | _, _, .cons _ _ r, i + 1, v, e => str_at r i v e
theorem call_set_texts {l : Addr} {items : Array Value} {xs : List Str} {Q : Value → Shared → Prop} (hh : A.handled = none) (hl : s.heap.IsList l items) (hi : StrsAre items.toList xs) (hb : xs.length + 1 < scanBound)
    (h : ∀ (h' : Heap) (tk : Nat) (D : SD), TxW prog w D (insAll xs []) → h'.get? s.heap.objs.size = some (sObj "set" D) → (∀ b o, b < s.heap.objs.size → s.heap.get? b = some o → h'.get? b = some o) → Q (.ref s.heap.objs.size) { s with heap := h', toks := tk }) :
    (wpAny (model prog w) A (call (.type "set") [.ref l]) Q E s) := by
  obtain ⟨c, tl, mro⟩ := PySem.F.called_set.mro
  have made := PySem.F.called_set.made; have subs := PySem.F.called_set.sub
  refine wpAny_call (codeAny_of_tree (wpAny_pure ⟨Code.quiet_builtin _ (by decide +kernel), codeAny_builtin PySem.F.entry_type_call (by
    rw [(Around.under_plain (weight_type_call_type "set" [.ref l] []) rfl)]
    have n1 := PySem.F.called_set.notType; have n2 := PySem.F.called_set.canCreate; have n3 := PySem.F.typeCall_set_1 (.ref l)
    repeat (any_goals first | assumption | wp_step)
    refine codeAny_mono (code_new1 (.ref l) (E := E) (Q₁ := fun obj s1 => obj = .ref s.heap.objs.size ∧ s1 = { s with heap := s.heap.push (sObj "set" (#[], 0, tb0 w)) }) ⟨rfl, rfl⟩) fun r s1 hr => ?_
    match r, hr with
    | .error e, hr => exact hr
    | .ok (.ret obj), hr =>
      obtain ⟨rfl, rfl⟩ := hr
      have hN : (s.heap.push (sObj "set" (#[], 0, tb0 w))).get? s.heap.objs.size = some (sObj "set" (#[], 0, tb0 w)) := Heap.get?_push_size _ rfl
      have hT : Shared.TypeIs { s with heap := s.heap.push (sObj "set" (#[], 0, tb0 w)) } (.ref s.heap.objs.size) "set" := ⟨_, hN, rfl⟩
      have i1 := PySem.F.called_set.init.lookup; have i2 := PySem.F.called_set.init.bind (.ref s.heap.objs.size)
      repeat (any_goals first | assumption | wp_step)
      refine codeAny_mono (codeAny_call_builtin (R := wants (fun r s2 => r = .none ∧ ∃ h' tk D, s2 = { s with heap := h', toks := tk } ∧ TxW prog w D (insAll xs []) ∧ h'.get? s.heap.objs.size = some (sObj "set" D) ∧
          (∀ b o, b < s.heap.objs.size → s.heap.get? b = some o → h'.get? b = some o)) E) PySem.F.called_set.init.plain PySem.F.entry_set_init (check_set_init_1 hT ?_)) fun r2 s2 hr2 => ?_
      · obtain ⟨⟨oc, od, da, os⟩, ho, hc, nl, hd⟩ := hl
        simp only at hc hd
        subst hc hd
        have ho2 : (s.heap.push (sObj "set" (#[], 0, tb0 w))).get? l = some { cls := .type "list", dict := od, data := .seq items nl, slots := os } := Heap.get?_push_of_some _ ho
        have q1 := PySem.F.sub_list_set; have q2 := PySem.F.sub_list_frozenset; have q3 : (Value.type "list" == Value.type "dict") = false := by decide
        have hl1 : (s.heap.push (sObj "set" (#[], 0, tb0 w))).IsList l items := ⟨_, ho2, rfl, nl, rfl⟩
        unfold Builtin.«set.__init__»; unfold noKeywords; unfold Builtin.Frozenset.updateFrom
        generalize hPI : pyIter = PI
        wp_walk
        subst hPI
        refine wpAny_pyIter_list hl1 (wpAny_bind (wpAny_runValue ?_))
        have lS : l < s.heap.objs.size := Heap.lt_size ho
        have h3 : A.in1.in1.in1.handled = none := by simp [hh]
        have neI : l ≠ (s.heap.push (sObj "set" (#[], 0, tb0 w))).objs.size := by
          rw [Heap.size_push]
          exact Nat.ne_of_lt (Nat.lt_succ_of_lt lS)
        have nfp : s.heap.objs.size ∉ [(s.heap.push (sObj "set" (#[], 0, tb0 w))).objs.size, l] := by
          rw [Heap.size_push]
          intro z
          rcases (List.mem_cons.mp z) with z | z
          · omega
          · rw [List.mem_singleton] at z
            exact absurd z (Nat.ne_of_gt lS)
        have len : xs.length = items.size := by rw [← StrsAre.len_eq hi, Array.length_toList]
        refine upd_loop ((Walks.list h3 _ l neI items).toS) s.heap.objs.size nfp xs len (fun i v hv => str_at hi i v (by rw [Array.getElem?_toList]; exact hv)) (by omega) (items.size - 0) 0 _ (#[], 0, tb0 w) [] (by omega) (Nat.zero_le _) (Nat.le_refl _)
          ⟨⟨_, Heap.get?_push_size _ rfl, rfl, rfl⟩, hl1.push _⟩ (Heap.get?_push_of_some _ hN) (new_keeps _ _) fun s3 D3 hm ho3 F3 => ?_
        obtain ⟨h', g', d', tk', os'⟩ := s3
        obtain rfl : g' = s.gens := hm.gens
        obtain rfl : d' = s.drawn := hm.drawn
        obtain rfl : os' = s.os := hm.os
        refine wpAny_pure (wpAny_pure ⟨rfl, h', tk', D3, rfl, F3, ho3, fun b o hb e => hm.heap b o (fun z => ?_) (Heap.get?_push_of_some _ (Heap.get?_push_of_some _ e))⟩)
        rcases (List.mem_cons.mp z) with z | z
        · exact absurd z (Nat.ne_of_lt hb)
        · rw [List.mem_singleton, Heap.size_push] at z
          exact absurd z (Nat.ne_of_lt (Nat.lt_succ_of_lt hb))
      · match r2, hr2 with
        | .error e, hr2 => exact hr2
        | .ok (.ret v), hr2 =>
          obtain ⟨rfl, h', tk, D, rfl, F, ho3, hold⟩ := hr2
          repeat (any_goals first | assumption | wp_step)
          exact h _ _ _ F ho3 hold
        | .ok .next, hr2 => exact hr2.elim
        | .ok .brk, hr2 => exact hr2.elim
        | .ok .cont, hr2 => exact hr2.elim
    | .ok .next, hr => exact hr.elim
    | .ok .brk, hr => exact hr.elim
    | .ok .cont, hr => exact hr.elim)⟩))
end
/-- the set at a holds the texts l -/
def SetW (P : Program) (w : World) (a : Addr) (l : List Str) : HO := .ext fun h => ∃ D, h.get? a = some (sObj "set" D) ∧ TxW P w D l
theorem setW_ok {P : Program} {w : World} {H : Hp} {h : Heap} {a : Addr} {D : SD} {l : List Str} (ho : h.get? a = some (sObj "set" D)) (F : TxW P w D l) : ObjOk P w H h a (SetW P w a l) :=
  ⟨⟨D, ho, F⟩, ⟨_, ho⟩, fun h1 h2 z k => by
    obtain ⟨D', e, F'⟩ := z
    exact ⟨D', k _ e, F'⟩⟩
theorem perm_of : ∀ (l ys : List Str), l.Nodup → (∀ y ∈ l, y ∈ ys) → ys.length = l.length → ys.Perm l
  | [], ys, _, _, e => by
    rw [List.length_eq_zero_iff.mp e]
  | y :: l, ys, n, h, e => by
    obtain ⟨n1, n2⟩ := List.nodup_cons.mp n
    obtain ⟨p, q, rfl⟩ := List.append_of_mem (h y List.mem_cons_self)
    have pm : (p ++ y :: q).Perm (y :: (p ++ q)) := List.perm_middle
    refine pm.trans (List.Perm.cons y (perm_of l (p ++ q) n2 (fun z hz => ?_) ?_))
    · have zy : z ≠ y := fun c => n1 (c ▸ hz)
      rcases List.mem_append.mp (h z (List.mem_cons_of_mem _ hz)) with c | c
      · exact List.mem_append_left _ c
      · rcases List.mem_cons.mp c with c | c
        · exact absurd c zy
        · exact List.mem_append_right _ c
    · simp only [List.length_append, List.length_cons] at e ⊢
      omega
theorem strs_are : ∀ (vs : List Value), (∀ v ∈ vs, ∃ y t, v = Value.str y t) → ∃ ys, StrsAre vs ys
  | [], _ => ⟨[], .nil⟩
  | v :: vs, h => by
    obtain ⟨y, t, rfl⟩ := h _ List.mem_cons_self
    obtain ⟨ys, r⟩ := strs_are vs fun u hu => h u (List.mem_cons_of_mem _ hu)
    exact ⟨y :: ys, .cons y t r⟩
theorem strs_mem : ∀ {vs : List Value} {ys : List Str}, StrsAre vs ys → ∀ y t, Value.str y t ∈ vs → y ∈ ys
  | _, _, .cons z u r, y, t, h => by
    rcases (List.mem_cons.mp h) with e | e
    · injection e with e1 e2
      rw [e1]
      exact List.mem_cons_self
    · exact List.mem_cons_of_mem _ (strs_mem r y t e)
section
variable {X : Cx}
/-- set(xs), xs a list of texts -/
theorem cr_setS (hc : X.calm = true) : CallR X (.type "set") (fun vs H Q => ∃ (p : Addr) (ys : List Str), vs = [.ref p] ∧ SqL X.K H p (ys.map V.str) ∧ ys.length ≤ 1000 ∧ ∀ q, H q = none → Q (.ref q) (upd H q (SetW X.prog X.w q (insAll ys [])))) := by
  intro pn s σ H vs us Q I r h
  obtain ⟨p, ys, rfl, hq, hz, q⟩ := h
  rw [Vals.ref1 r]
  obtain ⟨its, rv, pl, _⟩ := I.list hq
  refine call_set_texts (I.ok.hd hc) pl.isList (by simpa using L2.strsAre_of rv) (by unfold scanBound; omega) fun h' tk D F ho keep => ?_
  exact ⟨.ref _, _, I.laid (t' := tk) (fun b o e => keep b o (Heap.lt_size e) e) (Nat.le_refl _) (setW_ok ho F), rfl, q _ (I.hok.fresh (Nat.le_refl _))⟩
/-- sorted(S), S a set of texts -/
theorem cr_sortedW (hc : X.calm = true) : CallR X (.builtin "sorted") (fun vs H Q => ∃ (a : Addr) (l : List Str), vs = [.ref a] ∧ H a = some (SetW X.prog X.w a l) ∧ l.Nodup ∧ l.length < 64 ∧
    ∀ (ys : List Str) (p : Addr), ys.Perm l → sortedS ys = true → H p = none → Q (.ref p) (upd H p (.lst (ys.map V.str)))) := by
  intro pn s σ H vs us Q I r h
  obtain ⟨a, l, rfl, ha, nd, l64, q⟩ := h
  rw [Vals.ref1 r]
  obtain ⟨⟨es, ep, t⟩, ho, F⟩ := (I.hok a _ ha).1
  have sz : es.size = l.length := F.ok.sz
  have small : es.size < scanBound := by unfold scanBound; omega
  refine Calls.call_function_entry PyProof.Rows.kind_sorted PyProof.Rows.plain_sorted PyProof.Rows.entry_sorted (PyProof.Rows.args_sorted1 _) (by
    unfold Builtin.«sorted»
    refine wpAny_bind (m := checkCount "sorted" 1 1 _) (wpAny_pure (wpAny_bind (collect_set (A := X.A.in1) (I.ok.hd hc) ⟨_, ho, rfl, rfl⟩ F.ok.fit small F.ris F.led fun s1 out k1 hz g1 o1 pm => ?_)))
    have all : ∀ v ∈ out, ∃ y u, v = Value.str y u := fun v hv => by
      obtain ⟨e, he, rfl⟩ := List.mem_map.mp (pm.mem_iff.mp hv)
      obtain ⟨⟨k, hk, _⟩, _⟩ := F.ok.el e he
      obtain ⟨u, ev⟩ := Value.isStrOf_shape (x := k) (v := e.2) hk
      exact ⟨k, u, ev⟩
    obtain ⟨zs, hS⟩ := strs_are out all
    have len : out.length = es.size := by rw [pm.length_eq, List.length_map, Array.length_toList]
    have zl : zs.length = l.length := by rw [← hS.len_eq, len, sz]
    have zp : zs.Perm l := perm_of l zs nd (fun y hy => by
      obtain ⟨e, he, z⟩ := (F.ok.mem y).mp hy
      obtain ⟨u, ev⟩ := Value.isStrOf_shape (x := y) (v := e.2) z
      refine strs_mem hS y u (pm.mem_iff.mpr ?_)
      rw [← ev]
      exact List.mem_map.mpr ⟨e, he, rfl⟩) zl
    have o64 : out.length < 64 := by rw [len, sz]; exact l64
    have hoL : (s1.heap.push (seqObj "list" out.toArray 0)).get? s1.heap.objs.size = some (seqObj "list" out.toArray 0) := Heap.get?_push_size _ rfl
    refine wpAny_bind (wpAny_newList (wpAny_bind (wpAny_holding (wpAny_call_entry PyProof.Rows.slot_list_sort ⟨_, hoL, rfl⟩ PyProof.Rows.entry_list_sort
      (list_sort_treeK strKind_oneLt (s := { s1 with heap := s1.heap.push (seqObj "list" out.toArray 0) }) hoL hS.keysOf (fun v₁ v₂ rest e => keyKind_strs (by rw [← e]; exact hS)) o64 fun st' hp hs => ⟨_, rfl, by
        obtain ⟨ys, r1, r2, r3⟩ := sorted_out_str hS hp hs
        obtain ⟨c, hc2⟩ := PyProof.Rows.sortedHeap_at (vs := out) (out := (arrOf st').map (·.2)) hoL
        have hn : H s1.heap.objs.size = none := I.hok.fresh hz
        have ylen : (ys.map V.str).length ≤ sizeLine := by
          rw [List.length_map, r2.length_eq, zl]
          exact Nat.le_trans (Nat.le_of_lt l64) (by decide)
        have k2 : ∀ b u, s.heap.get? b = some u → (PyProof.Rows.sortedHeap (s1.heap.push (seqObj "list" out.toArray 0)) s1.heap.objs.size out ((arrOf st').map (·.2))).get? b = some u := fun b u e => by
          have lt := Heap.lt_size (k1 b u e)
          rw [PyProof.Rows.sortedHeap_old (Nat.ne_of_lt lt) (by rw [size_push']; exact Nat.lt_succ_of_lt lt)]
          exact Heap.get?_push_of_some _ (k1 b u e)
        obtain ⟨hp1, gn1, dr1, tk1, os1⟩ := s1
        dsimp only at g1 o1 hn k2 hc2 ⊢
        subst g1 o1
        refine wpAny_pure ⟨_, rfl, .ref hp1.objs.size, upd H hp1.objs.size (.lst (ys.map V.str)), ?_, rfl, q ys _ (r2.trans zp) r3 hn⟩
        exact I.call (ch := []) (Un.laid k2 hz hn) (I.hok.laid k2 hz ⟨ylen, ((arrOf st').map (·.2)).toList, c, vals_of_strs r1, by rw [Array.toArray_toList]; exact hc2⟩) I.bare (fun _ z => nomatch z)⟩) (PyProof.Rows.args_list_sort _)))) (by rw [sizeLine_eq]; omega)))
end
/-! ### names: the plain mathematics -/
def lowc (c : Nat) : Bool := decide (97 ≤ c) && decide (c ≤ 122)
def upc (c : Nat) : Bool := decide (65 ≤ c) && decide (c ≤ 90)
theorem uni_alpha : ∀ c : Nat, c < 128 → Unicode.isAlpha c = (lowc c || upc c) := by decide +kernel
theorem uni_lower : ∀ c : Nat, c < 128 → Unicode.isLower c = lowc c := by decide +kernel
theorem uni_upper : ∀ c : Nat, c < 128 → (Unicode.isUpper c || Unicode.isTitle c) = upc c := by decide +kernel
/-- the letters of a name -/
def letB (a : List Nat) : Bool := !a.isEmpty && a.all lowc
theorem lower_letters (a : List Nat) : (Txt.isascii (SX.S a) && (Txt.isalpha (SX.S a) && Txt.islower (SX.S a))) = letB a := by
  have e1 : Txt.isascii (SX.S a) = a.all (fun c => decide (c < 128)) := by
    unfold Txt.isascii
    rw [← Array.all_toList]
  have e2 : Txt.isalpha (SX.S a) = (!a.isEmpty && a.all Unicode.isAlpha) := by
    unfold Txt.isalpha
    rw [← Array.all_toList, SX.S_len]
    cases a <;> rfl
  have e3 : Txt.islower (SX.S a) = (a.any Unicode.isLower && !a.any fun c => Unicode.isUpper c || Unicode.isTitle c) := by
    unfold Txt.islower
    rw [← Array.any_toList, ← Array.any_toList]
  rw [e1, e2, e3]
  unfold letB
  cases h : a.all (fun c => decide (c < 128))
  · rw [Bool.false_and]
    symm
    rw [Bool.and_eq_false_iff]
    refine .inr (Bool.eq_false_iff.mpr fun z => ?_)
    have z2 := List.all_eq_true.mp z
    have : a.all (fun c => decide (c < 128)) = true := List.all_eq_true.mpr fun c hc => decide_eq_true (by
      have q := z2 c hc
      unfold lowc at q
      rw [Bool.and_eq_true, decide_eq_true_eq, decide_eq_true_eq] at q
      omega)
    rw [h] at this
    cases this
  · rw [Bool.true_and]
    have h3 : ∀ c ∈ a, c < 128 := fun c hc => of_decide_eq_true (List.all_eq_true.mp h c hc)
    have a1 : a.all Unicode.isAlpha = a.all (fun c => lowc c || upc c) := by
      rw [Bool.eq_iff_iff, List.all_eq_true, List.all_eq_true]
      exact ⟨fun q c hc => by rw [← uni_alpha c (h3 c hc)]; exact q c hc, fun q c hc => by rw [uni_alpha c (h3 c hc)]; exact q c hc⟩
    have a2 : a.any Unicode.isLower = a.any lowc := by
      rw [Bool.eq_iff_iff, List.any_eq_true, List.any_eq_true]
      exact ⟨fun ⟨c, hc, q⟩ => ⟨c, hc, by rw [← uni_lower c (h3 c hc)]; exact q⟩, fun ⟨c, hc, q⟩ => ⟨c, hc, by rw [uni_lower c (h3 c hc)]; exact q⟩⟩
    have a3 : (a.any fun c => Unicode.isUpper c || Unicode.isTitle c) = a.any upc := by
      rw [Bool.eq_iff_iff, List.any_eq_true, List.any_eq_true]
      exact ⟨fun ⟨c, hc, q⟩ => ⟨c, hc, by rw [← uni_upper c (h3 c hc)]; exact q⟩, fun ⟨c, hc, q⟩ => ⟨c, hc, by rw [uni_upper c (h3 c hc)]; exact q⟩⟩
    rw [a1, a2, a3]
    have dis : ∀ c : Nat, lowc c = true → upc c = false := fun c q => by
      unfold lowc at q
      unfold upc
      rw [Bool.and_eq_true, decide_eq_true_eq, decide_eq_true_eq] at q
      rw [Bool.and_eq_false_iff, decide_eq_false_iff_not, decide_eq_false_iff_not]
      omega
    rw [Bool.eq_iff_iff]
    simp only [Bool.and_eq_true, Bool.not_eq_true', List.any_eq_true, List.all_eq_true, Bool.or_eq_true]
    constructor
    · rintro ⟨⟨n, al⟩, _, nu⟩
      refine ⟨n, fun c hc => ?_⟩
      rcases al c hc with q | q
      · exact q
      · exfalso
        have : a.any upc = true := List.any_eq_true.mpr ⟨c, hc, q⟩
        rw [nu] at this
        cases this
    · rintro ⟨n, al⟩
      refine ⟨⟨n, fun c hc => .inl (al c hc)⟩, ?_, ?_⟩
      · cases a with
        | nil => cases n
        | cons c r => exact ⟨c, List.mem_cons_self, al c List.mem_cons_self⟩
      · refine Bool.eq_false_iff.mpr fun q => ?_
        obtain ⟨c, hc, q⟩ := List.any_eq_true.mp q
        rw [dis c (al c hc)] at q
        cases q
/-- without one apostrophe at the end -/
def cutQ (a : List Nat) : List Nat := if a.getLast? = some 39 then a.dropLast else a
def nameB (a : List Nat) : Bool := decide ((cutQ a).length ≤ 6) && letB (cutQ a)
theorem last_at (b : List Nat) (c : Nat) : PySem.Builtin.Str.subAt (SX.S (b ++ [c])) (SX.S [39]) ((SX.S (b ++ [c])).length - (SX.S [39]).length) = decide (c = 39) := by
  have e : (SX.S (b ++ [c])).cps.extract ((SX.S (b ++ [c])).length - (SX.S [39]).length) ((SX.S (b ++ [c])).length - (SX.S [39]).length + (SX.S [39]).length) = [c].toArray := by
    rw [SX.S_len, SX.S_len, List.length_append]
    simp [List.extract]
  show ((SX.S (b ++ [c])).cps.extract ((SX.S (b ++ [c])).length - (SX.S [39]).length) ((SX.S (b ++ [c])).length - (SX.S [39]).length + (SX.S [39]).length) == (SX.S [39]).cps) = _
  rw [e]
  by_cases h : c = 39
  · subst h
    rfl
  · rw [decide_eq_false h, beq_eq_false_iff_ne]
    intro z
    exact h (List.cons.inj (congrArg Array.toList z)).1
theorem rem_quote (a : List Nat) : Txt.removesuffix (SX.S a) (SX.S [39]) = SX.S (cutQ a) := by
  have e := eq_of_beq (PyProof.Rows.removesuffix_closes (SX.S a) (SX.S [39]))
  rw [e]
  rcases List.eq_nil_or_concat a with rfl | ⟨b, c, rfl⟩
  · rfl
  · rw [List.concat_eq_append, last_at]
    have e1 : decide (0 + (SX.S [39]).length ≤ (SX.S (b ++ [c])).length) = true := by
      rw [SX.S_len, SX.S_len, List.length_append]
      exact decide_eq_true (by show 0 + 1 ≤ b.length + 1; omega)
    rw [e1, Bool.true_and]
    unfold cutQ
    rw [List.getLast?_append, List.getLast?_singleton, Option.some_or, List.dropLast_concat]
    by_cases h : c = 39
    · subst h
      rw [decide_eq_true rfl, if_pos rfl, if_pos rfl]
      refine TL.ext_tl ?_
      show ((b ++ [39]).drop 0).take ((((SX.S (b ++ [39])).length : Nat) : Int) - (((SX.S [39]).length : Nat) : Int) - 0).toNat = b
      rw [SX.S_len, SX.S_len, List.length_append, List.drop_zero]
      have : ((((b.length + [39].length : Nat)) : Int) - (([39] : List Nat).length : Nat) - 0).toNat = b.length := by
        show (((b.length + 1 : Nat) : Int) - 1 - 0).toNat = b.length
        omega
      rw [this, List.take_left]
    · rw [decide_eq_false h, if_neg (by decide), if_neg (fun z => h (Option.some.inj z))]
/-! ### drawn words: the plain mathematics -/
abbrev ABC : Str := Str.ofString "abcdefghijklmnopqrstuvwxyz"
theorem abc_nat : ∀ n : Nat, n < 26 → L2.atI ABC.cps.toList (n : Int) = some (97 + n) := by decide +kernel
theorem abc_at {r : Int} (h0 : 0 ≤ r) (h1 : r < 26) : L2.atI ABC.cps.toList r = some (97 + r.toNat) := by
  obtain ⟨n, rfl⟩ := Int.eq_ofNat_of_zero_le h0
  rw [Int.toNat_natCast]
  exact abc_nat n (by omega)
theorem low_abc {n : Nat} (h : n < 26) : lowc (97 + n) = true := by
  unfold lowc
  rw [decide_eq_true (by omega), decide_eq_true (by omega)]
  rfl
theorem mul_one1 {x : Str} (hx : x.length = 1) {n : Int} (h1 : n ≤ 8) (h0 : -8 ≤ n) : MulOk x n := by
  unfold MulOk
  rw [hx]
  obtain ⟨k, rfl⟩ : ∃ k : Nat, n = (k : Int) - 8 := ⟨(n + 8).toNat, by omega⟩
  have : ∀ k : Nat, k < 17 → (decide (((k : Int) - 8) < -(2 ^ 63 : Int)) || decide (((k : Int) - 8) ≥ 2 ^ 63)) = false ∧ (¬ ((k : Int) - 8) < 1 → (((k : Int) - 8) == 1 || (1 : Nat) == 0) = false → ¬ (((1 : Nat) : Int) > (2 ^ 63 - 1) / ((k : Int) - 8))) ∧
    (¬ ((k : Int) - 8) < 1 → (((k : Int) - 8) == 1 || (1 : Nat) == 0) = false → PySem.Builtin.Str.tooLong (1 * ((k : Int) - 8).toNat) = false) := by decide +kernel
  exact this k (by omega)
theorem fold_rep (c : Nat) : ∀ (k : Nat) (acc : Array Nat), (List.replicate k (#[c] : Array Nat)).foldl (· ++ ·) acc = acc ++ (List.replicate k c).toArray
  | 0, acc => by simp
  | k + 1, acc => by
    rw [List.replicate_succ, List.foldl_cons, fold_rep c k, List.replicate_succ]
    apply Array.toList_inj.mp
    simp
theorem mul_rep (c : Nat) (n : Int) : Txt.mul (SX.S [c]) n = SX.S (List.replicate n.toNat c) := by
  unfold Txt.mul
  by_cases h : n < 1
  · rw [if_pos h, show n.toNat = 0 by omega]
    rfl
  · rw [if_neg h]
    by_cases h1 : n = 1
    · subst h1
      rfl
    · have : (n == 1 || (SX.S [c]).length == 0) = false := by
        rw [beq_eq_false_iff_ne.mpr h1]
        rfl
      rw [this, if_neg (by decide)]
      unfold SX.S
      have e : (List.replicate n.toNat (⟨[c].toArray⟩ : Str).cps) = List.replicate n.toNat (#[c] : Array Nat) := rfl
      rw [e, fold_rep]
      simp
theorem cut_last (a : List Nat) {k : Nat} (h : a.length ≤ k) (hk : 0 < k) : L2.cutS (SX.S a) (some (-(k : Int))) none = SX.S a := by
  unfold L2.cutS
  have e : HT.sIx (SX.S a).length 0 (some (-(k : Int))) = 0 := by
    rw [SX.S_len]
    unfold HT.sIx
    simp
    omega
  rw [HT.sIx_none, e, SX.S_len]
  refine TL.ext_tl ?_
  show (a.drop 0).take (a.length - 0) = a
  rw [List.drop_zero, Nat.sub_zero, List.take_length]
theorem cut_to (a : List Nat) (k : Nat) : L2.cutS (SX.S a) none (some (k : Int)) = SX.S (a.take k) := by
  unfold L2.cutS
  rw [HT.sIx_none, HT.sIx_nat, SX.S_len, Nat.sub_zero]
  refine TL.ext_tl ?_
  show (a.drop 0).take (min k a.length) = a.take k
  rw [List.drop_zero]
  by_cases h : k ≤ a.length
  · rw [Nat.min_eq_left h]
  · rw [Nat.min_eq_right (by omega), List.take_of_length_le (Nat.le_refl _), List.take_of_length_le (by omega)]
theorem cut_from (a : List Nat) (k : Nat) : L2.cutS (SX.S a) (some (k : Int)) none = SX.S (a.drop k) := by
  unfold L2.cutS
  rw [HT.sIx_none, HT.sIx_nat, SX.S_len]
  refine TL.ext_tl ?_
  show (a.drop (min k a.length)).take (a.length - min k a.length) = a.drop k
  by_cases h : k ≤ a.length
  · rw [Nat.min_eq_left h, List.take_of_length_le (by rw [List.length_drop]; exact Nat.le_refl _)]
  · rw [Nat.min_eq_right (by omega), List.drop_of_length_le (Nat.le_refl _), List.drop_of_length_le (by omega), List.take_nil]
/-- a word of one to six letters -/
def LW (a : List Nat) : Prop := a ≠ [] ∧ a.length ≤ 6 ∧ a.all lowc = true
theorem LW.put {a : List Nat} {c : Nat} {k : Nat} (h : a.length ≤ 5) (ha : a.all lowc = true) (hc : lowc c = true) : LW (a.take k ++ [c] ++ a.drop k) := by
  refine ⟨by simp, ?_, ?_⟩
  · simp only [List.length_append, List.length_take, List.length_drop, List.length_singleton]
    omega
  · rw [List.all_append, List.all_append]
    have e := List.all_eq_true.mp ha
    rw [List.all_eq_true.mpr fun x hx => e x (List.mem_of_mem_take hx), List.all_eq_true.mpr fun x hx => e x (List.mem_of_mem_drop hx)]
    simp [hc]
theorem LW.rep {a : List Nat} {c n : Nat} (ha : a.all lowc = true) (hc : lowc c = true) (n1 : 1 ≤ n) (n4 : n ≤ 5) : LW (a.take 1 ++ List.replicate n c) := by
  refine ⟨?_, ?_, ?_⟩
  · intro z
    have := congrArg List.length z
    rw [List.length_append, List.length_replicate] at this
    simp at this
    omega
  · simp only [List.length_append, List.length_take, List.length_replicate]
    omega
  · rw [List.all_append]
    have e := List.all_eq_true.mp ha
    rw [List.all_eq_true.mpr fun x hx => e x (List.mem_of_mem_take hx), Bool.true_and]
    exact List.all_eq_true.mpr fun x hx => by
      rw [List.eq_of_mem_replicate hx]
      exact hc
theorem LW.one {c : Nat} (hc : lowc c = true) : LW [c] := ⟨by simp, by simp, by simp [hc]⟩
theorem S_inj {a b : List Nat} (h : SX.S a = SX.S b) : a = b := by
  have := congrArg (fun s : Str => s.cps.toList) h
  simpa [SX.S] using this
theorem ins_all_full : ∀ (xs l : List Str), (insAll xs l).length = xs.length + l.length → xs.Nodup ∧ ∀ x ∈ xs, x ∉ l
  | [], _, _ => ⟨List.nodup_nil, fun _ h => nomatch h⟩
  | x :: xs, l, h => by
    unfold insAll at h
    by_cases hx : x ∈ l
    · exfalso
      unfold ins at h
      rw [if_pos hx] at h
      have := insAll_len xs l
      rw [List.length_cons] at h
      omega
    · unfold ins at h
      rw [if_neg hx] at h
      obtain ⟨h1, h2⟩ := ins_all_full xs (x :: l) (by rw [h]; simp only [List.length_cons]; omega)
      refine ⟨List.nodup_cons.mpr ⟨fun z => h2 x z List.mem_cons_self, h1⟩, fun y hy => ?_⟩
      rcases List.mem_cons.mp hy with rfl | hy
      · exact hx
      · exact fun z => h2 y hy (List.mem_cons_of_mem _ z)
theorem nodup_S : ∀ {ws : List (List Nat)}, (ws.map SX.S).Nodup → ws.Nodup
  | [], _ => List.nodup_nil
  | w :: ws, h => by
    rw [List.map_cons, List.nodup_cons] at h
    exact List.nodup_cons.mpr ⟨fun z => h.1 (List.mem_map_of_mem z), nodup_S h.2⟩
/-- the kth letter from a first one, by fives -/
def five (f k : Nat) : Nat := 97 + (f + 5 * k) % 26
theorem five_inj {f i j : Nat} (hi : i < 20) (hj : j < 20) (h : five f i = five f j) : i = j := by
  unfold five at h
  omega
theorem nodup_range_map {α : Type} {f : Nat → α} {m : Nat} (h : ∀ i j, i < m → j < m → f i = f j → i = j) : ((List.range m).map f).Nodup := by
  rw [List.Nodup, List.pairwise_map]
  refine List.Pairwise.imp_of_mem ?_ List.nodup_range
  intro a b ha hb hne e
  exact hne (h a b (List.mem_range.mp ha) (List.mem_range.mp hb) e)
theorem put_inj {a : List Nat} {k c d : Nat} (h : a.take k ++ [c] ++ a.drop k = a.take k ++ [d] ++ a.drop k) : c = d := by
  have h1 := (List.append_cancel_right h)
  have h2 := (List.append_cancel_left h1)
  exact (List.cons.inj h2).1
theorem lc_str {x : Str} {g : TG} {tt : TT} {te : TE} {vs : List Nat} {σ : L2.St} {H1 : Hp} {D : Addr} {Qd : Hp → Prop} (Pv : Nat → Hp → Prop) (h0 : Pv 0 (upd H1 D (.lst [])))
    (hs : ∀ i c H, x.cps[i]? = some c → Pv i H → g (.str ⟨#[c]⟩) (wipe σ vs) H fun σ2 H2 => wipe σ2 vs = wipe σ vs ∧ tt σ2 H2 fun b H3 =>
      if b = true then te σ2 H3 fun y H4 => ∃ acc, H4 D = some (.lst acc) ∧ acc.length < sizeLine ∧ Pv (i + 1) (upd H4 D (.lst (acc ++ [y]))) else Pv (i + 1) H3) (hd : ∀ H, Pv x.cps.size H → Qd H) :
    ∃ W : Nat → Nat → Hp → Prop, (∃ m, W 0 m (upd H1 D (.lst []))) ∧ ∀ i m H, W i m H →
      ((Its x).stop i H ∧ Qd H) ∨ ((Its x).go i H ∧ ∃ Nx : Hp → Prop, (∀ H', Nx H' → ∃ m', m' < m ∧ W (i + 1) m' H') ∧ ∀ y H', (Its x).yld i H y H' → g y (wipe σ vs) H' fun σ2 H2 => wipe σ2 vs = wipe σ vs ∧ tt σ2 H2 fun b H3 =>
        if b = true then te σ2 H3 fun y H4 => ∃ acc, H4 D = some (.lst acc) ∧ acc.length < sizeLine ∧ Nx (upd H4 D (.lst (acc ++ [y]))) else Nx H3) := by
  refine ⟨fun i m H => m = x.cps.size - i ∧ i ≤ x.cps.size ∧ Pv i H, ⟨x.cps.size, by simp, Nat.zero_le _, h0⟩, ?_⟩
  rintro i m H ⟨rfl, hi, p⟩
  by_cases hlt : i < x.cps.size
  · refine .inr ⟨hlt, Pv (i + 1), fun H' p' => ⟨x.cps.size - (i + 1), by omega, rfl, hlt, p'⟩, fun y H' q => ?_⟩
    obtain ⟨e, c, hc, ev⟩ := q
    subst e ev
    exact hs i c _ hc p
  · have e : i = x.cps.size := by omega
    subst e
    exact .inl ⟨Nat.le_refl _, hd H p⟩
/-! ### names with an apostrophe; the law's own test of names -/
theorem last_low {x : List Nat} (h : x.all lowc = true) : x.getLast? ≠ some 39 := fun z => by
  have := List.all_eq_true.mp h 39 (List.mem_of_getLast? z)
  revert this
  decide
theorem cutQ_lw {x : List Nat} (h : LW x) {k : Nat} (hk : k ≤ 1) : cutQ (x ++ List.replicate k 39) = x := by
  unfold cutQ
  match k, hk with
  | 0, _ => rw [List.replicate_zero, List.append_nil, if_neg (last_low h.2.2)]
  | 1, _ => rw [show List.replicate 1 39 = [39] from rfl, List.getLast?_append, List.getLast?_singleton, Option.some_or, if_pos rfl, List.dropLast_concat]
theorem name_lw {x : List Nat} (h : LW x) {k : Nat} (hk : k ≤ 1) : nameB (x ++ List.replicate k 39) = true ∧ (x ++ List.replicate k 39).length ≤ 7 := by
  constructor
  · unfold nameB letB
    rw [cutQ_lw h hk, h.2.2, decide_eq_true h.2.1]
    cases x with
    | nil => exact absurd rfl h.1
    | cons _ _ => rfl
  · rw [List.length_append, List.length_replicate]
    have := h.2.1
    omega
theorem nodup_of_map {α β : Type} (f : α → β) : ∀ {l : List α}, (l.map f).Nodup → l.Nodup
  | [], _ => List.nodup_nil
  | w :: ws, h => by
    rw [List.map_cons, List.nodup_cons] at h
    exact List.nodup_cons.mpr ⟨fun z => h.1 (List.mem_map_of_mem z), nodup_of_map f h.2⟩
theorem sIx_neg1 (n : Nat) (d : Nat) : HT.sIx n d (some (-1)) = n - 1 := by
  unfold HT.sIx
  simp
  omega
theorem cut_but1 (t : List Nat) : L2.cutS (SX.S t) none (some (-1)) = SX.S t.dropLast := by
  unfold L2.cutS
  rw [HT.sIx_none, sIx_neg1, SX.S_len, Nat.sub_zero]
  refine TL.ext_tl ?_
  show (t.drop 0).take (t.length - 1) = t.dropLast
  rw [List.drop_zero, List.dropLast_eq_take]
theorem cut_end1 (t : List Nat) : L2.cutS (SX.S t) (some (-1)) none = SX.S (t.drop (t.length - 1)) := by
  unfold L2.cutS
  rw [HT.sIx_none, sIx_neg1, SX.S_len]
  refine TL.ext_tl ?_
  show (t.drop (t.length - 1)).take (t.length - (t.length - 1)) = t.drop (t.length - 1)
  rw [List.take_of_length_le]
  rw [List.length_drop]
  exact Nat.le_refl _
theorem drop_last (t : List Nat) : (t.drop (t.length - 1) = [39]) ↔ t.getLast? = some 39 := by
  rcases List.eq_nil_or_concat t with rfl | ⟨b, c, rfl⟩
  · simp
  · rw [List.concat_eq_append, List.getLast?_append, List.getLast?_singleton, Option.some_or]
    have e : (b ++ [c]).length - 1 = b.length := by simp
    rw [e, List.drop_left]
    simp
theorem abc_mem (c : Nat) : decide (c ∈ ABC.cps.toList) = lowc c := by
  rw [show ABC.cps.toList = (List.range 26).map (97 + ·) by decide +kernel]
  unfold lowc
  rw [Bool.eq_iff_iff, decide_eq_true_eq, Bool.and_eq_true, decide_eq_true_eq, decide_eq_true_eq, List.mem_map]
  constructor
  · rintro ⟨k, hk, rfl⟩
    have := List.mem_range.mp hk
    omega
  · rintro ⟨h1, h2⟩
    exact ⟨c - 97, List.mem_range.mpr (by omega), by omega⟩
/-! ### lists of texts as data -/
theorem shape_strs : ∀ l : List Str, l.length ≤ 2 → (∀ x ∈ l, PyData.strOk x = true) → SeqAt.shaped (.list (l.map PyData.str)) = true
  | [], _, _ => rfl
  | [x], _, h => by
    show ((PyData.strOk x && true) && true) = true
    rw [h x List.mem_cons_self]
    rfl
  | [x, y], _, h => by
    show ((PyData.strOk x && (PyData.strOk y && true)) && true) = true
    rw [h x List.mem_cons_self, h y (List.mem_cons_of_mem _ List.mem_cons_self)]
    rfl
  | _ :: _ :: _ :: _, h, _ => by simp at h
theorem eqvAll_strs : ∀ l : List Str, PyData.eqvAll (l.map PyData.str) (l.map PyData.str) = true
  | [] => rfl
  | x :: l => by
    show (PyData.eqv (.str x) (.str x) && PyData.eqvAll (l.map PyData.str) (l.map PyData.str)) = true
    rw [eqvAll_strs l, Bool.and_true]
    show (x == x) = true
    exact beq_self_eq_true x
theorem dp_strs {K : PySem.W.Frag} {H : Hp} : ∀ l : List Str, DpAll K H (l.map V.str) (l.map PyData.str)
  | [] => .nil
  | x :: l => .cons (.str x) (dp_strs l)
theorem strOk_name {x : List Nat} (h : nameB x = true) : PyData.strOk (SX.S x) = true := by
  unfold nameB letB at h
  rw [Bool.and_eq_true, Bool.and_eq_true] at h
  have hl := List.all_eq_true.mp h.2.2
  have key : ∀ c ∈ x, c < 0x110000 := fun c hc => by
    by_cases e : c ∈ cutQ x
    · have := hl c e
      unfold lowc at this
      rw [Bool.and_eq_true, decide_eq_true_eq, decide_eq_true_eq] at this
      omega
    · unfold cutQ at e
      split at e
      · rename_i z
        rcases List.eq_nil_or_concat x with rfl | ⟨b, d, rfl⟩
        · cases hc
        · rw [List.concat_eq_append] at *
          rw [List.getLast?_append, List.getLast?_singleton, Option.some_or] at z
          rw [List.dropLast_concat] at e
          rcases List.mem_append.mp hc with k | k
          · exact absurd k e
          · rw [List.mem_singleton.mp k, Option.some.inj z]
            decide
      · exact absurd hc e
  unfold PyData.strOk
  rw [← Array.all_toList, show (SX.S x).cps.toList = x by simp [SX.S]]
  exact List.all_eq_true.mpr fun c hc => decide_eq_true (key c hc)
end EK
namespace T0
open PySem PySem.Spec PyProof.Rows L2 EK
def topS (i : Nat) : Stmt := PySem.Challenge.pw_tiespan_k70_blocks_four_deep.main.body.getD i (.Pass ⟨0, 0, 0, 0⟩)
abbrev s_p_shortened : Stmt := topS 12
abbrev s_p_common_divisor : Stmt := topS 13
abbrev s_p_ratio : Stmt := topS 14
abbrev s_p_add : Stmt := topS 15
abbrev s_p_subtract : Stmt := topS 16
abbrev s_p_multiply : Stmt := topS 17
abbrev s_p_is_digits : Stmt := topS 18
abbrev s_p_number_text : Stmt := topS 19
abbrev s_p_number_of : Stmt := topS 20
abbrev s_p_ratio_text : Stmt := topS 21
abbrev s_p_ratio_of : Stmt := topS 22
abbrev s_p_run_end : Stmt := topS 28
abbrev s_p_number_symbol : Stmt := topS 29
abbrev s_p_name_symbol : Stmt := topS 30
abbrev s_p_symbol_at : Stmt := topS 31
abbrev s_p_symbols_of : Stmt := topS 32
abbrev s_p_read_term : Stmt := topS 33
abbrev s_p_read_sum : Stmt := topS 34
abbrev s_p_is_name : Stmt := topS 36
abbrev s_p_reduced : Stmt := topS 37
abbrev s_p_ascending_names : Stmt := topS 38
abbrev s_p_brought_together : Stmt := topS 39
abbrev s_p_tie_below : Stmt := topS 40
abbrev s_p_read_ties : Stmt := topS 41
abbrev s_p_whole_sum : Stmt := topS 43
abbrev s_p_read_form : Stmt := topS 44
abbrev s_p_word_at : Stmt := topS 49
abbrev s_p_name_at : Stmt := topS 50
abbrev s_p_form_at : Stmt := topS 51
abbrev s_p_ties_at : Stmt := topS 52
abbrev s_p_times_at : Stmt := topS 53
abbrev s_p_check_word : Stmt := topS 54
abbrev s_p_read_braces : Stmt := topS 55
abbrev s_p_read_either : Stmt := topS 56
abbrev s_p_read_repeat : Stmt := topS 57
abbrev s_p_read_statement : Stmt := topS 58
abbrev s_p_read_statements : Stmt := topS 59
abbrev s_p_read_program : Stmt := topS 60
abbrev s_feed : Stmt := topS 62
abbrev s_draw : Stmt := topS 63
abbrev s_any : Stmt := topS 64
abbrev s_same : Stmt := topS 65
abbrev s_field : Stmt := topS 66
abbrev s_why : Stmt := topS 67
abbrev s_p_law : Stmt := topS 68
theorem sc_p_shortened : FnScope ["one", "other", "shift", "high", "low", "a", "b", "c", "d", "times", "rest", "first", "second"] ["one", "other"] (defScope s_p_shortened) := ⟨rfl, rfl, rfl, by decide +kernel, rfl, by decide +kernel, by decide +kernel⟩
theorem sc_p_common_divisor : FnScope ["one", "other"] ["one", "other"] (defScope s_p_common_divisor) := ⟨rfl, rfl, rfl, by decide +kernel, rfl, by decide +kernel, by decide +kernel⟩
theorem sc_p_ratio : FnScope ["top", "under", "shared"] ["top", "under"] (defScope s_p_ratio) := ⟨rfl, rfl, rfl, by decide +kernel, rfl, by decide +kernel, by decide +kernel⟩
theorem sc_p_add : FnScope ["one", "other"] ["one", "other"] (defScope s_p_add) := ⟨rfl, rfl, rfl, by decide +kernel, rfl, by decide +kernel, by decide +kernel⟩
theorem sc_p_subtract : FnScope ["one", "other"] ["one", "other"] (defScope s_p_subtract) := ⟨rfl, rfl, rfl, by decide +kernel, rfl, by decide +kernel, by decide +kernel⟩
theorem sc_p_multiply : FnScope ["one", "other"] ["one", "other"] (defScope s_p_multiply) := ⟨rfl, rfl, rfl, by decide +kernel, rfl, by decide +kernel, by decide +kernel⟩
theorem sc_p_is_digits : FnScope ["text"] ["text"] (defScope s_p_is_digits) := ⟨rfl, rfl, rfl, by decide +kernel, rfl, by decide +kernel, by decide +kernel⟩
theorem sc_p_number_text : FnScope ["number", "rest", "blocks", "block"] ["number"] (defScope s_p_number_text) := ⟨rfl, rfl, rfl, by decide +kernel, rfl, by decide +kernel, by decide +kernel⟩
theorem sc_p_number_of : FnScope ["digits", "start", "number", "at"] ["digits"] (defScope s_p_number_of) := ⟨rfl, rfl, rfl, by decide +kernel, rfl, by decide +kernel, by decide +kernel⟩
theorem sc_p_ratio_text : FnScope ["one"] ["one"] (defScope s_p_ratio_text) := ⟨rfl, rfl, rfl, by decide +kernel, rfl, by decide +kernel, by decide +kernel⟩
theorem sc_p_ratio_of : FnScope ["text", "top", "slash", "under", "number", "divisor", "found"] ["text"] (defScope s_p_ratio_of) := ⟨rfl, rfl, rfl, by decide +kernel, rfl, by decide +kernel, by decide +kernel⟩
theorem sc_p_run_end : FnScope ["text", "at", "letters"] ["text", "at", "letters"] (defScope s_p_run_end) := ⟨rfl, rfl, rfl, by decide +kernel, rfl, by decide +kernel, by decide +kernel⟩
theorem sc_p_number_symbol : FnScope ["text", "at", "end", "top", "slash", "under", "worth"] ["text", "at"] (defScope s_p_number_symbol) := ⟨rfl, rfl, rfl, by decide +kernel, rfl, by decide +kernel, by decide +kernel⟩
theorem sc_p_name_symbol : FnScope ["text", "at", "end"] ["text", "at"] (defScope s_p_name_symbol) := ⟨rfl, rfl, rfl, by decide +kernel, rfl, by decide +kernel, by decide +kernel⟩
theorem sc_p_symbol_at : FnScope ["text", "at"] ["text", "at"] (defScope s_p_symbol_at) := ⟨rfl, rfl, rfl, by decide +kernel, rfl, by decide +kernel, by decide +kernel⟩
theorem sc_p_symbols_of : FnScope ["text", "symbols", "at", "sort", "worth", "end"] ["text"] (defScope s_p_symbols_of) := ⟨rfl, rfl, rfl, by decide +kernel, rfl, by decide +kernel, by decide +kernel⟩
theorem sc_p_read_term : FnScope ["symbols", "at", "sort", "worth", "place"] ["symbols", "at"] (defScope s_p_read_term) := ⟨rfl, rfl, rfl, by decide +kernel, rfl, by decide +kernel, by decide +kernel⟩
theorem sc_p_read_sum : FnScope ["symbols", "at", "rates", "sign", "name", "rate"] ["symbols", "at"] (defScope s_p_read_sum) := ⟨rfl, rfl, rfl, by decide +kernel, rfl, by decide +kernel, by decide +kernel⟩
theorem sc_p_is_name : FnScope ["text", "letters"] ["text"] (defScope s_p_is_name) := ⟨rfl, rfl, rfl, by decide +kernel, rfl, by decide +kernel, by decide +kernel⟩
theorem sc_p_reduced : FnScope ["tie", "terms", "bound", "under", "name", "rate", "shared", "scale"] ["tie"] (defScope s_p_reduced) := ⟨rfl, rfl, rfl, by decide +kernel, rfl, by decide +kernel, by decide +kernel⟩
theorem sc_p_ascending_names : FnScope ["rates", "name"] ["rates"] (defScope s_p_ascending_names) := ⟨rfl, rfl, rfl, by decide +kernel, rfl, by decide +kernel, by decide +kernel⟩
theorem sc_p_brought_together : FnScope ["left", "right", "rates", "name"] ["left", "right"] (defScope s_p_brought_together) := ⟨rfl, rfl, rfl, by decide +kernel, rfl, by decide +kernel, by decide +kernel⟩
theorem sc_p_tie_below : FnScope ["left", "right", "rates", "terms", "name"] ["left", "right"] (defScope s_p_tie_below) := ⟨rfl, rfl, rfl, by decide +kernel, rfl, by decide +kernel, by decide +kernel⟩
theorem sc_p_read_ties : FnScope ["text", "symbols", "left", "at", "sort", "sign", "place", "right", "many"] ["text"] (defScope s_p_read_ties) := ⟨rfl, rfl, rfl, by decide +kernel, rfl, by decide +kernel, by decide +kernel⟩
theorem sc_p_whole_sum : FnScope ["text", "symbols", "rates", "at"] ["text"] (defScope s_p_whole_sum) := ⟨rfl, rfl, rfl, by decide +kernel, rfl, by decide +kernel, by decide +kernel⟩
theorem sc_p_read_form : FnScope ["text", "rates", "names", "name"] ["text"] (defScope s_p_read_form) := ⟨rfl, rfl, rfl, by decide +kernel, rfl, by decide +kernel, by decide +kernel⟩
theorem sc_p_word_at : FnScope ["words", "at"] ["words", "at"] (defScope s_p_word_at) := ⟨rfl, rfl, rfl, by decide +kernel, rfl, by decide +kernel, by decide +kernel⟩
theorem sc_p_name_at : FnScope ["words", "at", "word"] ["words", "at"] (defScope s_p_name_at) := ⟨rfl, rfl, rfl, by decide +kernel, rfl, by decide +kernel, by decide +kernel⟩
theorem sc_p_form_at : FnScope ["words", "at", "word"] ["words", "at"] (defScope s_p_form_at) := ⟨rfl, rfl, rfl, by decide +kernel, rfl, by decide +kernel, by decide +kernel⟩
theorem sc_p_ties_at : FnScope ["words", "at", "word"] ["words", "at"] (defScope s_p_ties_at) := ⟨rfl, rfl, rfl, by decide +kernel, rfl, by decide +kernel, by decide +kernel⟩
theorem sc_p_times_at : FnScope ["words", "at", "word"] ["words", "at"] (defScope s_p_times_at) := ⟨rfl, rfl, rfl, by decide +kernel, rfl, by decide +kernel, by decide +kernel⟩
theorem sc_p_check_word : FnScope ["words", "at", "wanted"] ["words", "at", "wanted"] (defScope s_p_check_word) := ⟨rfl, rfl, rfl, by decide +kernel, rfl, by decide +kernel, by decide +kernel⟩
theorem sc_p_read_braces : FnScope ["words", "at", "depth", "program"] ["words", "at", "depth"] (defScope s_p_read_braces) := ⟨rfl, rfl, rfl, by decide +kernel, rfl, by decide +kernel, by decide +kernel⟩
theorem sc_p_read_either : FnScope ["words", "at", "depth", "first", "second"] ["words", "at", "depth"] (defScope s_p_read_either) := ⟨rfl, rfl, rfl, by decide +kernel, rfl, by decide +kernel, by decide +kernel⟩
theorem sc_p_read_repeat : FnScope ["words", "at", "depth", "times", "program"] ["words", "at", "depth"] (defScope s_p_read_repeat) := ⟨rfl, rfl, rfl, by decide +kernel, rfl, by decide +kernel, by decide +kernel⟩
theorem sc_p_read_statement : FnScope ["words", "at", "depth", "word"] ["words", "at", "depth"] (defScope s_p_read_statement) := ⟨rfl, rfl, rfl, by decide +kernel, rfl, by decide +kernel, by decide +kernel⟩
theorem sc_p_read_statements : FnScope ["words", "at", "depth", "program", "statement"] ["words", "at", "depth"] (defScope s_p_read_statements) := ⟨rfl, rfl, rfl, by decide +kernel, rfl, by decide +kernel, by decide +kernel⟩
theorem sc_p_read_program : FnScope ["text", "words", "program", "at"] ["text"] (defScope s_p_read_program) := ⟨rfl, rfl, rfl, by decide +kernel, rfl, by decide +kernel, by decide +kernel⟩
theorem sc_feed : FnScope ["_law_script", "_law_cell", "_law_cells", "_law_mark"] ["_law_script"] (defScope s_feed) := ⟨rfl, rfl, rfl, by decide +kernel, rfl, by decide +kernel, by decide +kernel⟩
theorem sc_draw : FnScope ["_law_feed_here", "_law_many", "_law_cell", "_law_one", "_law_two", "_law_drawn"] ["_law_feed_here", "_law_many"] (defScope s_draw) := ⟨rfl, rfl, rfl, by decide +kernel, rfl, by decide +kernel, by decide +kernel⟩
theorem sc_any : FnScope ["_law_feed_here", "_law_row"] ["_law_feed_here", "_law_row"] (defScope s_any) := ⟨rfl, rfl, rfl, by decide +kernel, rfl, by decide +kernel, by decide +kernel⟩
theorem sc_same : FnScope ["_law_found", "_law_due", "_law_key", "_law_one", "_law_two"] ["_law_found", "_law_due"] (defScope s_same) := ⟨rfl, rfl, rfl, by decide +kernel, rfl, by decide +kernel, by decide +kernel⟩
theorem sc_field : FnScope ["_law_e"] ["_law_e"] (defScope s_field) := ⟨rfl, rfl, rfl, by decide +kernel, rfl, by decide +kernel, by decide +kernel⟩
theorem sc_why : FnScope ["_law_ask", "_law_told", "_law_e"] ["_law_ask"] (defScope s_why) := ⟨rfl, rfl, rfl, by decide +kernel, rfl, by decide +kernel, by decide +kernel⟩
theorem sc_p_law : FnScope ["_law_script", "_law_feed_here", "_law_turn", "_law_due", "_law_level", "_law_way", "_law_at", "_law_ahead", "_law_behind", "_law_wrong"] ["_law_script"] (defScope s_p_law) := ⟨rfl, rfl, rfl, by decide +kernel, rfl, by decide +kernel, by decide +kernel⟩
structure Txt (K : PySem.W.Frag) (mg : Str → Option Value) (fa : Nat → Addr) (fd : Nat → FuncData) : Prop where
  F_p_shortened : Fun K "shortened" "shortened" s_p_shortened (fa 12) (fd 12)
  g_p_shortened : mg "shortened" = some (.ref (fa 12))
  b_p_shortened : Binds K (fd 12) ["one", "other"] []
  F_p_common_divisor : Fun K "common_divisor" "common_divisor" s_p_common_divisor (fa 13) (fd 13)
  g_p_common_divisor : mg "common_divisor" = some (.ref (fa 13))
  b_p_common_divisor : Binds K (fd 13) ["one", "other"] []
  F_p_ratio : FunD K "ratio" "ratio" (defArgs s_p_ratio) (defBody s_p_ratio) (defScope s_p_ratio) [V.int 1] [] (fa 14) (fd 14)
  g_p_ratio : mg "ratio" = some (.ref (fa 14))
  b_p_ratio : Binds K (fd 14) ["top", "under"] []
  d_p_ratio : ∃ ds, Vals [V.int 1] ds ∧ Binds K (fd 14) ["top", "under"] ds
  F_p_add : Fun K "add" "add" s_p_add (fa 15) (fd 15)
  g_p_add : mg "add" = some (.ref (fa 15))
  b_p_add : Binds K (fd 15) ["one", "other"] []
  F_p_subtract : Fun K "subtract" "subtract" s_p_subtract (fa 16) (fd 16)
  g_p_subtract : mg "subtract" = some (.ref (fa 16))
  b_p_subtract : Binds K (fd 16) ["one", "other"] []
  F_p_multiply : Fun K "multiply" "multiply" s_p_multiply (fa 17) (fd 17)
  g_p_multiply : mg "multiply" = some (.ref (fa 17))
  b_p_multiply : Binds K (fd 17) ["one", "other"] []
  F_p_is_digits : Fun K "is_digits" "is_digits" s_p_is_digits (fa 18) (fd 18)
  g_p_is_digits : mg "is_digits" = some (.ref (fa 18))
  b_p_is_digits : Binds K (fd 18) ["text"] []
  F_p_number_text : Fun K "number_text" "number_text" s_p_number_text (fa 19) (fd 19)
  g_p_number_text : mg "number_text" = some (.ref (fa 19))
  b_p_number_text : Binds K (fd 19) ["number"] []
  F_p_number_of : Fun K "number_of" "number_of" s_p_number_of (fa 20) (fd 20)
  g_p_number_of : mg "number_of" = some (.ref (fa 20))
  b_p_number_of : Binds K (fd 20) ["digits"] []
  F_p_ratio_text : Fun K "ratio_text" "ratio_text" s_p_ratio_text (fa 21) (fd 21)
  g_p_ratio_text : mg "ratio_text" = some (.ref (fa 21))
  b_p_ratio_text : Binds K (fd 21) ["one"] []
  F_p_ratio_of : Fun K "ratio_of" "ratio_of" s_p_ratio_of (fa 22) (fd 22)
  g_p_ratio_of : mg "ratio_of" = some (.ref (fa 22))
  b_p_ratio_of : Binds K (fd 22) ["text"] []
  F_p_run_end : Fun K "run_end" "run_end" s_p_run_end (fa 28) (fd 28)
  g_p_run_end : mg "run_end" = some (.ref (fa 28))
  b_p_run_end : Binds K (fd 28) ["text", "at", "letters"] []
  F_p_number_symbol : Fun K "number_symbol" "number_symbol" s_p_number_symbol (fa 29) (fd 29)
  g_p_number_symbol : mg "number_symbol" = some (.ref (fa 29))
  b_p_number_symbol : Binds K (fd 29) ["text", "at"] []
  F_p_name_symbol : Fun K "name_symbol" "name_symbol" s_p_name_symbol (fa 30) (fd 30)
  g_p_name_symbol : mg "name_symbol" = some (.ref (fa 30))
  b_p_name_symbol : Binds K (fd 30) ["text", "at"] []
  F_p_symbol_at : Fun K "symbol_at" "symbol_at" s_p_symbol_at (fa 31) (fd 31)
  g_p_symbol_at : mg "symbol_at" = some (.ref (fa 31))
  b_p_symbol_at : Binds K (fd 31) ["text", "at"] []
  F_p_symbols_of : Fun K "symbols_of" "symbols_of" s_p_symbols_of (fa 32) (fd 32)
  g_p_symbols_of : mg "symbols_of" = some (.ref (fa 32))
  b_p_symbols_of : Binds K (fd 32) ["text"] []
  F_p_read_term : Fun K "read_term" "read_term" s_p_read_term (fa 33) (fd 33)
  g_p_read_term : mg "read_term" = some (.ref (fa 33))
  b_p_read_term : Binds K (fd 33) ["symbols", "at"] []
  F_p_read_sum : Fun K "read_sum" "read_sum" s_p_read_sum (fa 34) (fd 34)
  g_p_read_sum : mg "read_sum" = some (.ref (fa 34))
  b_p_read_sum : Binds K (fd 34) ["symbols", "at"] []
  F_p_is_name : Fun K "is_name" "is_name" s_p_is_name (fa 36) (fd 36)
  g_p_is_name : mg "is_name" = some (.ref (fa 36))
  b_p_is_name : Binds K (fd 36) ["text"] []
  F_p_reduced : Fun K "reduced" "reduced" s_p_reduced (fa 37) (fd 37)
  g_p_reduced : mg "reduced" = some (.ref (fa 37))
  b_p_reduced : Binds K (fd 37) ["tie"] []
  F_p_ascending_names : Fun K "ascending_names" "ascending_names" s_p_ascending_names (fa 38) (fd 38)
  g_p_ascending_names : mg "ascending_names" = some (.ref (fa 38))
  b_p_ascending_names : Binds K (fd 38) ["rates"] []
  F_p_brought_together : Fun K "brought_together" "brought_together" s_p_brought_together (fa 39) (fd 39)
  g_p_brought_together : mg "brought_together" = some (.ref (fa 39))
  b_p_brought_together : Binds K (fd 39) ["left", "right"] []
  F_p_tie_below : Fun K "tie_below" "tie_below" s_p_tie_below (fa 40) (fd 40)
  g_p_tie_below : mg "tie_below" = some (.ref (fa 40))
  b_p_tie_below : Binds K (fd 40) ["left", "right"] []
  F_p_read_ties : Fun K "read_ties" "read_ties" s_p_read_ties (fa 41) (fd 41)
  g_p_read_ties : mg "read_ties" = some (.ref (fa 41))
  b_p_read_ties : Binds K (fd 41) ["text"] []
  F_p_whole_sum : Fun K "whole_sum" "whole_sum" s_p_whole_sum (fa 43) (fd 43)
  g_p_whole_sum : mg "whole_sum" = some (.ref (fa 43))
  b_p_whole_sum : Binds K (fd 43) ["text"] []
  F_p_read_form : Fun K "read_form" "read_form" s_p_read_form (fa 44) (fd 44)
  g_p_read_form : mg "read_form" = some (.ref (fa 44))
  b_p_read_form : Binds K (fd 44) ["text"] []
  F_p_word_at : Fun K "word_at" "word_at" s_p_word_at (fa 49) (fd 49)
  g_p_word_at : mg "word_at" = some (.ref (fa 49))
  b_p_word_at : Binds K (fd 49) ["words", "at"] []
  F_p_name_at : Fun K "name_at" "name_at" s_p_name_at (fa 50) (fd 50)
  g_p_name_at : mg "name_at" = some (.ref (fa 50))
  b_p_name_at : Binds K (fd 50) ["words", "at"] []
  F_p_form_at : Fun K "form_at" "form_at" s_p_form_at (fa 51) (fd 51)
  g_p_form_at : mg "form_at" = some (.ref (fa 51))
  b_p_form_at : Binds K (fd 51) ["words", "at"] []
  F_p_ties_at : Fun K "ties_at" "ties_at" s_p_ties_at (fa 52) (fd 52)
  g_p_ties_at : mg "ties_at" = some (.ref (fa 52))
  b_p_ties_at : Binds K (fd 52) ["words", "at"] []
  F_p_times_at : Fun K "times_at" "times_at" s_p_times_at (fa 53) (fd 53)
  g_p_times_at : mg "times_at" = some (.ref (fa 53))
  b_p_times_at : Binds K (fd 53) ["words", "at"] []
  F_p_check_word : Fun K "check_word" "check_word" s_p_check_word (fa 54) (fd 54)
  g_p_check_word : mg "check_word" = some (.ref (fa 54))
  b_p_check_word : Binds K (fd 54) ["words", "at", "wanted"] []
  F_p_read_braces : Fun K "read_braces" "read_braces" s_p_read_braces (fa 55) (fd 55)
  g_p_read_braces : mg "read_braces" = some (.ref (fa 55))
  b_p_read_braces : Binds K (fd 55) ["words", "at", "depth"] []
  F_p_read_either : Fun K "read_either" "read_either" s_p_read_either (fa 56) (fd 56)
  g_p_read_either : mg "read_either" = some (.ref (fa 56))
  b_p_read_either : Binds K (fd 56) ["words", "at", "depth"] []
  F_p_read_repeat : Fun K "read_repeat" "read_repeat" s_p_read_repeat (fa 57) (fd 57)
  g_p_read_repeat : mg "read_repeat" = some (.ref (fa 57))
  b_p_read_repeat : Binds K (fd 57) ["words", "at", "depth"] []
  F_p_read_statement : Fun K "read_statement" "read_statement" s_p_read_statement (fa 58) (fd 58)
  g_p_read_statement : mg "read_statement" = some (.ref (fa 58))
  b_p_read_statement : Binds K (fd 58) ["words", "at", "depth"] []
  F_p_read_statements : Fun K "read_statements" "read_statements" s_p_read_statements (fa 59) (fd 59)
  g_p_read_statements : mg "read_statements" = some (.ref (fa 59))
  b_p_read_statements : Binds K (fd 59) ["words", "at", "depth"] []
  F_p_read_program : Fun K "read_program" "read_program" s_p_read_program (fa 60) (fd 60)
  g_p_read_program : mg "read_program" = some (.ref (fa 60))
  b_p_read_program : Binds K (fd 60) ["text"] []
  F_feed : Fun K "_law_feed" "_law_feed" s_feed (fa 62) (fd 62)
  g_feed : mg "_law_feed" = some (.ref (fa 62))
  b_feed : Binds K (fd 62) ["_law_script"] []
  F_draw : Fun K "_law_draw" "_law_draw" s_draw (fa 63) (fd 63)
  g_draw : mg "_law_draw" = some (.ref (fa 63))
  b_draw : Binds K (fd 63) ["_law_feed_here", "_law_many"] []
  F_any : Fun K "_law_any" "_law_any" s_any (fa 64) (fd 64)
  g_any : mg "_law_any" = some (.ref (fa 64))
  b_any : Binds K (fd 64) ["_law_feed_here", "_law_row"] []
  F_same : Fun K "_law_same" "_law_same" s_same (fa 65) (fd 65)
  g_same : mg "_law_same" = some (.ref (fa 65))
  b_same : Binds K (fd 65) ["_law_found", "_law_due"] []
  F_field : Fun K "_law_field" "_law_field" s_field (fa 66) (fd 66)
  g_field : mg "_law_field" = some (.ref (fa 66))
  b_field : Binds K (fd 66) ["_law_e"] []
  F_why : Fun K "_law_why" "_law_why" s_why (fa 67) (fd 67)
  g_why : mg "_law_why" = some (.ref (fa 67))
  b_why : Binds K (fd 67) ["_law_ask"] []
  F_p_law : Fun K "law" "law" s_p_law (fa 68) (fd 68)
  g_p_law : mg "law" = some (.ref (fa 68))
  b_p_law : Binds K (fd 68) ["_law_script"] []
  eParseError : ErrC K mg "ParseError" (fa 4) (fa 1) (fa 5) (fa 1004)
  IParseError : Fun K "__init__" "ParseError.__init__" (inClass (topS 4) 0) (fa 1004) (fd 1004)
  bIParseError : Binds K (fd 1004) ["self", "at"] []
  nParseError_at : PySem.W.findIn K (.ref (fa 4)) "at" = some none
  gTieError : mg "TieError" = some (.ref (fa 1))
  gMissing : mg "Missing" = some (.ref (fa 5))
  c_MOST_LETTERS : ∃ u, mg "MOST_LETTERS" = some u ∧ RelV (.int 6) u
  c_DEEPEST : ∃ u, mg "DEEPEST" = some u ∧ RelV (.int 4) u
  c_STATEMENTS : ∃ u, mg "STATEMENTS" = some u ∧ RelV (.ref (fa 2001)) u
  c_TIMES : ∃ u, mg "TIMES" = some u ∧ RelV (.ref (fa 2002)) u
  z_STATEMENTS : ∀ H : Hp, SqT K H ((fa 2001)) [V.str (Str.ofString "set"), V.str (Str.ofString "any"), V.str (Str.ofString "check"), V.str (Str.ofString "either"), V.str (Str.ofString "repeat")]
  z_TIMES : ∀ H : Hp, SqT K H ((fa 2002)) [V.str (Str.ofString "0"), V.str (Str.ofString "1"), V.str (Str.ofString "2"), V.str (Str.ofString "3"), V.str (Str.ofString "4")]
  m_int : mg "int" = none
  m_len : mg "len" = none
  m_abs : mg "abs" = none
  m_range : mg "range" = none
  m_zip : mg "zip" = none
  m_all : mg "all" = none
  m_isinstance : mg "isinstance" = none
  m_bool : mg "bool" = none
  m_str : mg "str" = none
  m_tuple : mg "tuple" = none
  m_list : mg "list" = none
  m_dict : mg "dict" = none
/-! ### the law's own words: drawing -/
def FeedOk (H : Hp) (a c : Addr) : Prop := ∃ (ns : List Int) (k big mark : Int), H a = some (.lst [.ref c, .int k, .int big, .int mark]) ∧ H c = some (.lst (ns.map V.int)) ∧ c ≠ a ∧ ns.length ≤ 63 ∧ 0 ≤ k
def But (a : Addr) (H H' : Hp) : Prop := ∀ b o, b ≠ a → H b = some o → H' b = some o
theorem But.refl (a : Addr) (H : Hp) : But a H H := fun _ _ _ h => h
theorem But.trans {a : Addr} {H H1 H2 : Hp} (p : But a H H1) (q : But a H1 H2) : But a H H2 := fun b o n h => q b o n (p b o n h)
theorem But.upd {a : Addr} {H : Hp} {o : HO} : But a H (upd H a o) := fun b _ n h => by rw [upd_ne n]; exact h
theorem But.of {a : Addr} {H H' : Hp} (s : Same H H') : But a H H' := fun b o _ h => s b o h
theorem same_upd {H : Hp} {p : Addr} {o : HO} (h : H p = none) : Same H (upd H p o) := fun b x e => by
  rw [upd_ne (ne_of_none e h)]
  exact e
theorem FeedOk.new {H : Hp} {a c p : Addr} {o : HO} (h : FeedOk H a c) (n : H p = none) : FeedOk (upd H p o) a c := by
  obtain ⟨ns, k, big, mark, h1, h2, h3⟩ := h
  exact ⟨ns, k, big, mark, same_upd n _ _ h1, same_upd n _ _ h2, h3⟩
theorem FeedOk.same {H H' : Hp} {a c : Addr} (h : FeedOk H a c) (s : Same H H') : FeedOk H' a c := by
  obtain ⟨ns, k, big, mark, h1, h2, h3⟩ := h
  exact ⟨ns, k, big, mark, s _ _ h1, s _ _ h2, h3⟩
def Mid (m : Int) : Prop := 0 < m ∧ m.natAbs.log2 < 9000
def spDraw : Sp := fun vs H Q _ => ∃ (a c : Addr) (m : Int), vs = [.ref a, .int m] ∧ FeedOk H a c ∧ Mid m ∧ ∀ r H', 0 ≤ r → r < m → FeedOk H' a c → But a H H' → Q (.int r) H'
section
variable {P : Program} {w : World} {K : PySem.W.Frag} {mg : Str → Option Value} {base : Heap} {fa : Nat → Addr} {fd : Nat → FuncData}
theorem ok_draw (T : Txt K mg fa fd) : FnOk P w K mg base CX0 1 (fa 63) (fd 63) ["_law_feed_here", "_law_many"] spDraw := by
  refine T.F_draw.ok sc_draw (fun vs H Q E h => ?_) (fun cdv A outer s H vs Q E hr h => ?_)
  · obtain ⟨a, c, m, rfl, _⟩ := h
    rfl
  · obtain ⟨a, c, m, rfl, ⟨ns, k, big, mark, ha, hc, nca, hlen, hk⟩, ⟨hm, hm9⟩, q⟩ := h
    refine ⟨_, (C8.pss_cut (ps_if (pt_cmpR op_lt (pe_ix ix_list (pv 0) pe_int (fun _ _ => rfl)) pe_int (nomark _)) (C8.pss_cut (ps_asg (pe_op op_add (pe_ix ix_list (pv 0) pe_int (fun _ _ => rfl)) pe_int) (pg_sub (pv 0) pe_int set_list))
      (pss_cons (ps_set (i := 2) sc_draw.nd rfl (.inl rfl) (pe_op op_add (pe_ix ix_list (pv 0) pe_int (fun _ _ => rfl)) (pe_op op_mul (pe_ix ix_list (pv 0) pe_int (fun _ _ => rfl)) pe_int)))
      (C8.pss_cut (ps_if (pt_cmpR op_le (pe_ix ix_list (pv 0) pe_int (fun _ _ => rfl)) (pe_callB call_len_seq (by rfl) T.m_len PySem.boot_len (pa_cons (pe_ix ix_list (pv 0) pe_int (fun _ _ => rfl)) pa_nil)) (nomark _)) (pss_one (ps_set (i := 2) sc_draw.nd rfl (.inl rfl) (pe_ix ix_list (pe_ix ix_list (pv 0) pe_int (fun _ _ => rfl)) (pe_op op_sub (pe_ix ix_list (pv 0) pe_int (fun _ _ => rfl)) pe_int) (fun _ _ => rfl)))) pss_nil)
      (pss_cons (ps_if (PW.pt (pw_or (pt_cmpR op_gt (pe_ix ix_list (pv 0) pe_int (fun _ _ => rfl)) (pe_callB call_len_seq (by rfl) T.m_len PySem.boot_len (pa_cons (pe_ix ix_list (pv 0) pe_int (fun _ _ => rfl)) pa_nil)) (nomark _)) (pw_or1 (pt_cmpR op_lt (pv 2) (pe_op op_pow pe_int pe_int) (nomark _))))) (pss_cons (ps_set (i := 3) sc_draw.nd rfl (.inl rfl) (pe_op op_mod (pe_callTy call_int1 (by rfl) T.m_int PySem.Pv.boot_int (pa_cons (pe_op op_add (pe_op op_add (pe_op op_mul (pv 2) pe_int) (pe_op op_mul (pe_ix ix_list (pv 0) pe_int (fun _ _ => rfl)) pe_int)) (pe_ix ix_list (pv 0) pe_int (fun _ _ => rfl))) pa_nil)) pe_int))
      (pss_cons (ps_set (i := 4) sc_draw.nd rfl (.inl rfl) (pe_op op_mod (pe_callTy call_int1 (by rfl) T.m_int PySem.Pv.boot_int (pa_cons (pe_op op_add (pe_op op_mul (pv 3) (pv 3)) (pe_op op_mul (pe_ix ix_list (pv 0) pe_int (fun _ _ => rfl)) pe_int)) pa_nil)) pe_int))
      (pss_one (ps_ret (pe_op op_mod (pe_op op_fdiv (pe_op op_mod (pe_callTy call_int1 (by rfl) T.m_int PySem.Pv.boot_int (pa_cons (pe_op op_add (pe_op op_mul (pv 4) pe_int) (pv 3)) pa_nil)) pe_int) pe_int) (pv 1)))))) pss_nil)
      (pss_one (ps_asg (pv 2) (pg_sub (pv 0) pe_int set_list))))))) pss_nil)
      (pss_cons (ps_set (i := 5) sc_draw.nd rfl (.inl rfl) (pe_op op_mod (pe_callTy call_int1 (by rfl) T.m_int PySem.Pv.boot_int (pa_cons (pe_ix ix_list (pv 0) pe_int (fun _ _ => rfl)) pa_nil)) (pv 1)))
      (pss_cons (ps_asg (pe_op op_fdivW (pe_callTy call_int1 (by rfl) T.m_int PySem.Pv.boot_int (pa_cons (pe_ix ix_list (pv 0) pe_int (fun _ _ => rfl)) pa_nil)) (pv 1)) (pg_sub (pv 0) pe_int set_list))
      (pss_one (ps_ret (pv 5)))))), ?_⟩
    have i0 : ∀ (x y z u : V), atI [x, y, z, u] 0 = some x := fun _ _ _ _ => rfl
    have i1 : ∀ (x y z u : V), atI [x, y, z, u] 1 = some y := fun _ _ _ _ => rfl
    have i2 : ∀ (x y z u : V), atI [x, y, z, u] 2 = some z := fun _ _ _ _ => rfl
    have i3 : ∀ (x y z u : V), atI [x, y, z, u] 3 = some u := fun _ _ _ _ => rfl
    refine ⟨fun σ H1 => FeedOk H1 a c ∧ But a H H1 ∧ ∃ y2 y3 y4 y5, σ = [some (.ref a), some (.int m), y2, y3, y4, y5], ?_, fun σ H1 hM => ?_⟩
    · refine ⟨.ref a, rfl, a, _, _, _, rfl, rfl, SqL.of ha, i2 _ _ _ _, _, _, rfl, rfl, _, rfl, ite2 (fun e => ?_) (fun e => ?_)⟩
      · -- feed[1] = feed[1] + 1
        refine ⟨fun σ H1 => σ = [some (.ref a), some (.int m), none, none, none, none] ∧ H1 a = some (.lst [.ref c, .int (k + 1), .int big, .int mark]) ∧ H1 c = some (.lst (ns.map V.int)) ∧ But a H H1,
          ⟨.ref a, rfl, a, _, _, _, rfl, rfl, SqL.of ha, i1 _ _ _ _, _, _, rfl, rfl, .ref a, rfl, a, _, _, 1, rfl, rfl, ha, rfl, rfl, upd_same, by rw [upd_ne nca]; exact hc, But.upd⟩, fun σ H1 hM => ?_⟩
        obtain ⟨rfl, ha1, hc1, b1⟩ := hM
        refine ⟨.ref a, rfl, a, _, _, _, rfl, rfl, SqL.of ha1, i3 _ _ _ _, .ref a, rfl, a, _, _, _, rfl, rfl, SqL.of ha1, i1 _ _ _ _, _, _, rfl, rfl, .inr (by decide), _, _, rfl, rfl, ?_⟩
        refine ⟨fun σ H2 => H2 = H1 ∧ ∃ z : Int, σ = [some (.ref a), some (.int m), some (.int z), none, none, none], ?_, fun σ H2 hM => ?_⟩
        · refine ⟨.ref a, rfl, a, _, _, _, rfl, rfl, SqL.of ha1, i1 _ _ _ _, .ref a, rfl, a, _, _, _, rfl, rfl, SqL.of ha1, i0 _ _ _ _, c, _, rfl, .inl (SqL.of hc1), _, _, rfl, rfl, _, rfl, ite2 (fun e1 => ?_) (fun e1 => ?_)⟩
          · have h1 : k + 1 ≤ ((ns.map V.int).length : Int) := of_decide_eq_true e1
            rw [List.length_map] at h1
            have h2 : k.toNat < ns.length := by omega
            have g : (ns.map V.int)[k.toNat]? = some (.int ns[k.toNat]) := by rw [List.getElem?_map, List.getElem?_eq_getElem h2]; rfl
            exact ⟨.ref a, rfl, a, _, _, _, rfl, rfl, SqL.of ha1, i0 _ _ _ _, .ref a, rfl, a, _, _, _, rfl, rfl, SqL.of ha1, i1 _ _ _ _, _, _, rfl, rfl, c, _, _, _, rfl, rfl, SqL.of hc1, at_of (j := k.toNat) (by omega) g, rfl, _, rfl⟩
          · exact ⟨rfl, _, rfl⟩
        · obtain ⟨rfl, z, rfl⟩ := hM
          have tail : FeedOk (upd H2 a (.lst ([V.ref c, .int (k + 1), .int big, .int mark].set 2 (.int z)))) a c ∧ But a H (upd H2 a (.lst ([V.ref c, .int (k + 1), .int big, .int mark].set 2 (.int z)))) ∧ ∃ y2 y3 y4 y5, [some (V.ref a), some (.int m), some (.int z), none, none, none] = [some (V.ref a), some (.int m), y2, y3, y4, y5] :=
            ⟨⟨ns, k + 1, z, mark, upd_same, by rw [upd_ne nca]; exact hc1, nca, hlen, by omega⟩, b1.trans But.upd, _, _, _, _, rfl⟩
          have pos : ∀ x y : Int, 0 ≤ x % 2147483647 ∧ x % 2147483647 < 2147483647 := fun x _ => ⟨Int.emod_nonneg _ (by decide), Int.emod_lt_of_pos _ (by decide)⟩
          have done : ∀ x : Int, Q (.int (x % m)) H2 := fun x => q _ _ (Int.emod_nonneg _ (by omega)) (Int.emod_lt_of_pos _ hm) ⟨ns, k + 1, big, mark, ha1, hc1, nca, hlen, by omega⟩ b1
          refine ⟨.ref a, rfl, a, _, _, _, rfl, rfl, SqL.of ha1, i1 _ _ _ _, .ref a, rfl, a, _, _, _, rfl, rfl, SqL.of ha1, i0 _ _ _ _, c, _, rfl, .inl (SqL.of hc1), _, _, rfl, rfl, _, rfl, ite2 (fun e1 => ?_) (fun e1 => ?_)⟩
          · exact ⟨_, rfl, _, _, rfl, rfl, .inr (by decide), _, rfl, a, _, _, _, rfl, rfl, SqL.of ha1, i1 _ _ _ _, _, _, rfl, rfl, .inr (by decide), _, _, rfl, rfl, _, rfl, a, _, _, _, rfl, rfl, SqL.of ha1, i3 _ _ _ _, _, _, rfl, rfl, .inl ⟨_, rfl, _, _, rfl, rfl, (by show (0 : Int) < _; decide), _, rfl, _, rfl, _, _, rfl, rfl, .inl (by have p := pos (z * 48271 + (k + 1) * 69621 + mark) 0; exact ⟨by omega, by omega⟩), _, rfl, a, _, _, _, rfl, rfl, SqL.of ha1, i1 _ _ _ _, _, _, rfl, rfl, .inr (by decide), _, _, rfl, rfl, .inl ⟨_, rfl, _, _, rfl, rfl, (by show (0 : Int) < _; decide), _, rfl, _, _, rfl, rfl, .inr (by decide), _, rfl, _, _, rfl, rfl, .inl ⟨_, rfl, _, _, rfl, rfl, (by show (0 : Int) < _; decide), _, _, rfl, rfl, ⟨by decide, by decide⟩, _, rfl, _, _, rfl, rfl, hm, done _⟩⟩⟩⟩
          · refine ⟨_, rfl, _, _, rfl, rfl, ⟨by decide, by decide, by decide⟩, _, _, rfl, rfl, _, rfl, ite2 (fun e2 => ?_) (fun e2 => ?_)⟩
            · exact ⟨_, rfl, _, _, rfl, rfl, .inr (by decide), _, rfl, a, _, _, _, rfl, rfl, SqL.of ha1, i1 _ _ _ _, _, _, rfl, rfl, .inr (by decide), _, _, rfl, rfl, _, rfl, a, _, _, _, rfl, rfl, SqL.of ha1, i3 _ _ _ _, _, _, rfl, rfl, .inl ⟨_, rfl, _, _, rfl, rfl, (by show (0 : Int) < _; decide), _, rfl, _, rfl, _, _, rfl, rfl, .inl (by have p := pos (z * 48271 + (k + 1) * 69621 + mark) 0; exact ⟨by omega, by omega⟩), _, rfl, a, _, _, _, rfl, rfl, SqL.of ha1, i1 _ _ _ _, _, _, rfl, rfl, .inr (by decide), _, _, rfl, rfl, .inl ⟨_, rfl, _, _, rfl, rfl, (by show (0 : Int) < _; decide), _, rfl, _, _, rfl, rfl, .inr (by decide), _, rfl, _, _, rfl, rfl, .inl ⟨_, rfl, _, _, rfl, rfl, (by show (0 : Int) < _; decide), _, _, rfl, rfl, ⟨by decide, by decide⟩, _, rfl, _, _, rfl, rfl, hm, done _⟩⟩⟩⟩
            · exact ⟨_, rfl, .ref a, rfl, a, _, _, 2, rfl, rfl, ha1, rfl, tail⟩
      · exact ⟨⟨ns, k, big, mark, ha, hc, nca, hlen, hk⟩, But.refl _ _, none, none, none, none, rfl⟩
    · obtain ⟨⟨ns1, k1, big1, mark1, ha1, hc1, nca1, hlen1, hk1⟩, b1, y2, y3, y4, y5, rfl⟩ := hM
      refine ⟨.ref a, rfl, a, _, _, _, rfl, rfl, SqL.of ha1, i2 _ _ _ _, .inl ⟨_, rfl, _, rfl, _, _, rfl, rfl, hm, ?_⟩⟩
      refine ⟨.ref a, rfl, a, _, _, _, rfl, rfl, SqL.of ha1, i2 _ _ _ _, .inl ⟨_, rfl, _, rfl, _, _, rfl, rfl, ⟨hm, hm9⟩, ?_⟩⟩
      refine ⟨.ref a, rfl, a, _, _, 2, rfl, rfl, ha1, rfl, ?_⟩
      refine ⟨_, rfl, q _ _ (Int.emod_nonneg _ (by omega)) (Int.emod_lt_of_pos _ hm) ⟨ns1, k1, big1 / m, mark1, upd_same, ?_, nca1, hlen1, hk1⟩ (b1.trans But.upd)⟩
      rw [upd_ne nca1]
      exact hc1
theorem cut63 (xs : List V) (h : xs.length ≤ 63) : cutV xs none (some 63) = xs := by
  unfold cutV
  rw [show HT.sIx xs.length xs.length (some 63) = min 63 xs.length from HT.sIx_nat xs.length xs.length 63, HT.sIx_none]
  rw [Nat.min_eq_right h]
  exact List.take_length
def spFeed (K : PySem.W.Frag) : Sp := fun vs H Q _ => ∃ (a : Addr) (ns : List Int), vs = [.ref a] ∧ SqL K H a (ns.map V.int) ∧ ns.length ≤ 63 ∧ ∀ p c H', H p = none → H c = none → Same H H' → FeedOk H' p c → Q (.ref p) H'
theorem ok_feed (T : Txt K mg fa fd) : FnOk P w K mg base CX0 1 (fa 62) (fd 62) ["_law_script"] (spFeed K) := by
  refine T.F_feed.ok sc_feed (fun vs H Q E h => ?_) (fun cdv A outer s H vs Q E hr h => ?_)
  · obtain ⟨a, ns, rfl, _⟩ := h
    rfl
  · obtain ⟨a, ns, rfl, hS, hlen, q⟩ := h
    refine ⟨_, (C8.pss_cut (ps_setLc (i := 2) (own := [("_law_cell", 1)]) (g := gName 1) (tt := tYes) rfl sc_feed.nd rfl rfl (sw_true rfl rfl rfl (by decide +kernel)) (pi_list (pe_slice sl_list (pv 0) po_none (po_some pe_int))) (blkOk_by (own := [("_law_cell", 1)]) (N := ["_law_script", "_law_cell", "_law_cells", "_law_mark"]) (sc := defScope s_feed) (by decide +kernel)) (fun _ _ _ _ _ => pg_name (i := 1) sc_feed.nd rfl (Or.inl rfl)) (fun _ _ _ _ _ => pts_nil) (fun _ _ _ _ _ => (pe_callTy call_int1 (by rfl) T.m_int PySem.Pv.boot_int (pa_cons (pv 1) pa_nil))))
      (pss_cons (ps_set (i := 3) sc_feed.nd rfl (.inl rfl) (pe_op op_add pe_int (pe_op op_mul pe_int (pe_callB call_len_seq (by rfl) T.m_len PySem.boot_len (pa_cons (pv 2) pa_nil)))))
      (pss_cons (ps_for PassesOwn.never rfl (pi_list (pv 2)) (pg_name (i := 1) sc_feed.nd rfl (.inl rfl)) (pss_one (ps_set (i := 3) sc_feed.nd rfl (.inl rfl) (pe_op op_mod (pe_callTy call_int1 (by rfl) T.m_int PySem.Pv.boot_int (pa_cons (pe_op op_add (pe_op op_mul (pv 3) pe_int) (pv 1)) pa_nil)) pe_int))))
      (pss_one (ps_ret (pe_lst (pa_cons (pv 2) (pa_cons pe_int (pa_cons pe_int (pa_cons (pv 3) pa_nil)))))))))), ?_⟩
    refine ⟨fun σ H1 => ∃ c, σ = [some (.ref a), none, some (.ref c), none] ∧ H c = none ∧ Same H H1 ∧ H1 c = some (.lst (ns.map V.int)), ?_, fun σ H1 hM => ?_⟩
    · refine ⟨.ref a, rfl, 63, rfl, a, _, rfl, hS, fun p np => ?_⟩
      rw [cut63 _ (by rw [List.length_map]; exact hlen)]
      have s1 : Same H (upd H p (.lst (ns.map V.int))) := same_upd np
      refine ⟨p, rfl, ⟨_, SqL.of upd_same⟩, fun D nD => ?_⟩
      have nD0 : H D = none := s1.free nD
      have npD : p ≠ D := ne_of_none upd_same nD
      refine lc_list (K := K) (a := p) (xs := ns.map V.int) (fun i H2 => Same (upd H p (.lst (ns.map V.int))) H2 ∧ H2 D = some (.lst ((ns.take i).map V.int))) ⟨same_upd nD, upd_same⟩ (fun i H2 _ hp => SqL.of (hp.1 _ _ upd_same)) (fun i x H2 hx hp => ?_) (fun H2 hp => ?_)
      · rw [List.getElem?_map] at hx
        obtain ⟨z, hz, rfl⟩ := Option.map_eq_some_iff.mp hx
        refine ⟨rfl, _, rfl, .inl ⟨_, rfl, _, hp.2, ?_, ?_, ?_⟩⟩
        · rw [List.length_map, List.length_take]
          exact Nat.lt_of_le_of_lt (Nat.min_le_left _ _) (small1000 (by
            have := (List.getElem?_eq_some_iff.mp hz).1
            omega))
        · exact fun b o e => by
            rw [upd_ne (ne_of_none e nD)]
            exact hp.1 b o e
        · rw [upd_same, List.take_add_one, hz, List.map_append]
          rfl
      · rw [List.length_map] at hp
        refine ⟨D, rfl, nD0, s1.trans hp.1, ?_⟩
        rw [hp.2, List.take_length]
    · obtain ⟨c, rfl, nc, s1, hc⟩ := hM
      refine ⟨_, rfl, c, _, rfl, .inl (SqL.of hc), _, _, rfl, rfl, .inl (by decide), _, _, rfl, rfl, ?_⟩
      refine ⟨_, rfl, c, rfl, ⟨_, SqL.of hc⟩, for_list (K := K) (a := c) (xs := ns.map V.int) (fun i σ H2 => H2 = H1 ∧ ∃ (y1 : Option V) (m : Int), σ = [some (.ref a), y1, some (.ref c), some (.int m)] ∧ 0 ≤ m ∧ m < 1000000000000) ?_ (fun i σ H2 _ hp => by rw [hp.1]; exact SqL.of hc) (fun i x σ H2 hx hp => ?_) (fun σ H2 hp => ?_)⟩
      · refine ⟨rfl, _, _, rfl, ?_⟩
        rw [List.length_map]
        omega
      · obtain ⟨rfl, y1, m, rfl, h0, h1⟩ := hp
        rw [List.getElem?_map] at hx
        obtain ⟨z, hz, rfl⟩ := Option.map_eq_some_iff.mp hx
        exact ⟨_, rfl, _, _, rfl, rfl, .inr (by decide), _, rfl, _, _, rfl, rfl, .inl ⟨_, rfl, _, _, rfl, rfl, (by show (0 : Int) < _; decide), rfl, _, _, rfl, Int.emod_nonneg _ (by decide), Int.lt_trans (Int.emod_lt_of_pos _ (by decide)) (by decide)⟩⟩
      · obtain ⟨rfl, y1, m, rfl, h0, h1⟩ := hp
        refine ⟨_, rfl, _, rfl, Nat.le_trans (by decide : 4 ≤ 1000) (Nat.le_of_lt (small1000 (Nat.le_refl _))), fun p np => ?_⟩
        refine q p c _ (s1.free np) nc (s1.trans (same_upd np)) ⟨ns, 0, 0, m, upd_same, ?_, ne_of_none hc np, hlen, Int.le_refl _⟩
        rw [upd_ne (ne_of_none hc np)]
        exact hc
/-! ### the row's own draw -/
def spAny : Sp := fun vs H Q _ => ∃ (a c r : Addr) (xs : List V), vs = [.ref a, .ref r] ∧ FeedOk H a c ∧ H r = some (.lst xs) ∧ r ≠ a ∧ 0 < xs.length ∧ xs.length ≤ 1000 ∧ ∀ v H', v ∈ xs → FeedOk H' a c → But a H H' → Q v H'
theorem mid_small {n : Nat} (h0 : 0 < n) (h : n ≤ 1000) : Mid (n : Int) := ⟨by omega, by
  rw [Int.natAbs_natCast]
  exact Nat.lt_of_le_of_lt (Nat.log2_le_self n) (by omega)⟩
theorem ok_any (T : Txt K mg fa fd) : FnOk P w K mg base CX0 2 (fa 64) (fd 64) ["_law_feed_here", "_law_row"] spAny := by
  refine T.F_any.ok sc_any (fun vs H Q E h => ?_) (fun cdv A outer s H vs Q E hr h => ?_)
  · obtain ⟨a, c, m, xs, rfl, _⟩ := h
    rfl
  · obtain ⟨a, c, r, xs, rfl, hF, hx, nra, h0, h1, q⟩ := h
    refine ⟨_, (pss_one (ps_ret (pe_ix ix_list (pv 1) (pe_call (ok_draw T) (hr.mono (by decide)) (by rfl) T.g_draw T.F_draw.kp T.b_draw .nil pass0 (pa_cons (pv 0) (pa_cons (pe_callB call_len_seq (by rfl) T.m_len PySem.boot_len (pa_cons (pv 1) pa_nil)) pa_nil))) (fun _ _ => rfl)))), ?_⟩
    refine ⟨_, rfl, _, rfl, _, rfl, r, _, rfl, .inl (SqL.of hx), a, c, _, rfl, hF, mid_small h0 h1, fun z H' z0 z1 hF' b => ?_⟩
    have hz : z.toNat < xs.length := by omega
    exact ⟨r, xs, z, xs[z.toNat], rfl, rfl, SqL.of (b _ _ nra hx), at_of (j := z.toNat) (by omega) (List.getElem?_eq_getElem hz), q _ _ (List.getElem_mem hz) hF' b⟩
theorem log2_mono {a b k : Nat} (h : a ≤ b) (hb : b.log2 < k) : a.log2 < k := by
  by_cases h0 : a = 0
  · subst h0
    rw [Nat.log2_zero]
    omega
  · have hb0 : b ≠ 0 := by omega
    exact (Nat.log2_lt h0).mpr (Nat.lt_of_le_of_lt h ((Nat.log2_lt hb0).mp hb))
theorem two_line : 2 ≤ sizeLine := Nat.le_trans (by decide : 2 ≤ 1000) (Nat.le_of_lt (small1000 (Nat.le_refl _)))
/-! ### sameness of data -/
def Leaf (v w : V) : Prop := v = w ∧ (v = .non ∨ (∃ b, v = .bl b) ∨ (∃ i, v = .int i) ∨ ∃ x, v = .str x)
def Eqd (H : Hp) : Nat → V → V → Prop
  | 0, v, w => Leaf v w
  | n + 1, v, w => Leaf v w ∨ ∃ (a b : Addr) (xs ys : List V), v = .ref a ∧ w = .ref b ∧ ((H a = some (.lst xs) ∧ H b = some (.lst ys)) ∨ (H a = some (.tup xs) ∧ H b = some (.tup ys))) ∧ xs.length = ys.length ∧ xs.length ≤ 1000 ∧
      ∀ (i : Nat) (x y : V), xs[i]? = some x → ys[i]? = some y → Eqd H n x y
theorem Eqd.leaf {H : Hp} {n : Nat} {v w : V} (h : Leaf v w) : Eqd H n v w := by
  cases n with
  | zero => exact h
  | succ n => exact .inl h
theorem Eqd.mono {H H' : Hp} (s : Same H H') : ∀ (n : Nat) {v w : V}, Eqd H n v w → Eqd H' n v w
  | 0, _, _, h => h
  | n + 1, _, _, h => by
    rcases h with h | ⟨a, b, xs, ys, e1, e2, h, l1, l2, r⟩
    · exact .inl h
    · refine .inr ⟨a, b, xs, ys, e1, e2, ?_, l1, l2, fun i x y h1 h2 => Eqd.mono s n (r i x y h1 h2)⟩
      rcases h with ⟨h1, h2⟩ | ⟨h1, h2⟩
      · exact .inl ⟨s _ _ h1, s _ _ h2⟩
      · exact .inr ⟨s _ _ h1, s _ _ h2⟩
def spSame (n : Nat) : Sp := fun vs H Q _ => ∃ v w : V, vs = [v, w] ∧ Eqd H n v w ∧ ∀ H', Same H H' → Q (.bl true) H'
def spS : Nat → Sp
  | 0 => fun _ _ _ _ => False
  | n + 1 => spSame n
theorem none_of_false {K : PySem.W.Frag} {f : Addr} {fd : FuncData} {st : Stmt} {x : Str} {N ps : List Str} (F : Fun K x x st f fd) (S : FnScope N ps (defScope st)) : FnOk P w K mg base CX0 1 f fd ps (fun _ _ _ _ => False) :=
  F.ok S (fun _ _ _ _ h => h.elim) fun _ _ _ _ _ _ _ _ _ h => h.elim
theorem kit2 {K : PySem.W.Frag} {a b c : String} {r1 r2 : Bool} (h1 : kitB a b = some r1) (h2 : kitB a c = some r2) : PySem.W.kitAny K (.type a) [.type b, .type c] = some (r1 || r2) := by
  cases r1 with
  | true => exact kitAny_cons (kit_ty h1) (fun h => nomatch h) fun _ => rfl
  | false =>
    refine kitAny_cons (kit_ty h1) (fun _ => ?_) fun h => nomatch h
    cases r2 with
    | true => exact kitAny_cons (kit_ty h2) (fun h => nomatch h) fun _ => rfl
    | false => exact kitAny_cons (kit_ty h2) (fun _ => kitAny_nil) fun h => nomatch h
theorem same_step (T : Txt K mg fa fd) (n : Nat) (G : FnOk P w K mg base CX0 (n + 1) (fa 65) (fd 65) ["_law_found", "_law_due"] (spS n)) : FnOk P w K mg base CX0 (n + 2) (fa 65) (fd 65) ["_law_found", "_law_due"] (spSame n) := by
  refine T.F_same.ok sc_same (fun vs H Q E h => ?_) (fun cdv A outer s H vs Q E hr h => ?_)
  · obtain ⟨x, y, rfl, _⟩ := h
    rfl
  · obtain ⟨x, y, rfl, hE, q⟩ := h
    refine ⟨_, (pss_cons (ps_if (pt_cmpR op_isN (pv 1) pe_non (nomark _)) (pss_one (ps_ret (pe_cmpR op_isN (pv 0) pe_non (nomark _)))) pss_nil)
      (pss_cons (ps_if (PW.pt (pw_or (pt_val (pe_callB call_isi (by rfl) T.m_isinstance PyProof.Rows.boot_isinstance (pa_cons (pv 1) (pa_cons (pe_bltn (v := .ty "bool") (by rfl) T.m_bool (by decide +kernel) rfl) pa_nil)))) (pw_or1 (pt_val (pe_callB call_isi (by rfl) T.m_isinstance PyProof.Rows.boot_isinstance (pa_cons (pv 0) (pa_cons (pe_bltn (v := .ty "bool") (by rfl) T.m_bool (by decide +kernel) rfl) pa_nil))))))) (pss_one (ps_ret (pe_and (pe_callB call_isi (by rfl) T.m_isinstance PyProof.Rows.boot_isinstance (pa_cons (pv 1) (pa_cons (pe_bltn (v := .ty "bool") (by rfl) T.m_bool (by decide +kernel) rfl) pa_nil))) (pe_and (pe_callB call_isi (by rfl) T.m_isinstance PyProof.Rows.boot_isinstance (pa_cons (pv 0) (pa_cons (pe_bltn (v := .ty "bool") (by rfl) T.m_bool (by decide +kernel) rfl) pa_nil))) (pe_one (pe_cmpR op_eq (pv 0) (pv 1) (nomark _))))))) pss_nil)
      (pss_cons (ps_if (pt_val (pe_callB call_isiT (by rfl) T.m_isinstance PyProof.Rows.boot_isinstance (pa_cons (pv 1) (pa_cons (pe_tup (pa_cons (pe_bltn (v := .ty "int") (by rfl) T.m_int (by decide +kernel) rfl) (pa_cons (pe_bltn (v := .ty "str") (by rfl) T.m_str (by decide +kernel) rfl) pa_nil))) pa_nil)))) (pss_one (ps_ret (pe_and (pe_callB call_isiT (by rfl) T.m_isinstance PyProof.Rows.boot_isinstance (pa_cons (pv 0) (pa_cons (pe_tup (pa_cons (pe_bltn (v := .ty "int") (by rfl) T.m_int (by decide +kernel) rfl) (pa_cons (pe_bltn (v := .ty "str") (by rfl) T.m_str (by decide +kernel) rfl) pa_nil))) pa_nil))) (pe_and (pe_cmpR op_eq (pe_callB call_isi (by rfl) T.m_isinstance PyProof.Rows.boot_isinstance (pa_cons (pv 0) (pa_cons (pe_bltn (v := .ty "int") (by rfl) T.m_int (by decide +kernel) rfl) pa_nil))) (pe_callB call_isi (by rfl) T.m_isinstance PyProof.Rows.boot_isinstance (pa_cons (pv 1) (pa_cons (pe_bltn (v := .ty "int") (by rfl) T.m_int (by decide +kernel) rfl) pa_nil))) (nomark _)) (pe_one (pe_cmpR op_eq (pv 0) (pv 1) (nomark _))))))) pss_nil)
      (pss_cons (ps_if (pt_val (pe_callB call_isi (by rfl) T.m_isinstance PyProof.Rows.boot_isinstance (pa_cons (pv 1) (pa_cons (pe_bltn (v := .ty "dict") (by rfl) T.m_dict (by decide +kernel) rfl) pa_nil)))) (pss_cons ps_never
      (pss_one ps_never)) pss_nil)
      (pss_cons (ps_if (PW.pt (pw_or (pt_cmpR op_ne (pe_callB call_isi (by rfl) T.m_isinstance PyProof.Rows.boot_isinstance (pa_cons (pv 1) (pa_cons (pe_bltn (v := .ty "list") (by rfl) T.m_list (by decide +kernel) rfl) pa_nil))) (pe_callB call_isi (by rfl) T.m_isinstance PyProof.Rows.boot_isinstance (pa_cons (pv 0) (pa_cons (pe_bltn (v := .ty "list") (by rfl) T.m_list (by decide +kernel) rfl) pa_nil))) (nomark _)) (pw_or1 (pt_cmpR op_ne (pe_callB call_isi (by rfl) T.m_isinstance PyProof.Rows.boot_isinstance (pa_cons (pv 1) (pa_cons (pe_bltn (v := .ty "tuple") (by rfl) T.m_tuple (by decide +kernel) rfl) pa_nil))) (pe_callB call_isi (by rfl) T.m_isinstance PyProof.Rows.boot_isinstance (pa_cons (pv 0) (pa_cons (pe_bltn (v := .ty "tuple") (by rfl) T.m_tuple (by decide +kernel) rfl) pa_nil))) (nomark _))))) (pss_one (ps_ret pe_bl)) pss_nil)
      (pss_one (ps_ret (pe_and (pe_cmpR op_eq (pe_callB call_len_seq (by rfl) T.m_len PySem.boot_len (pa_cons (pv 0) pa_nil)) (pe_callB call_len_seq (by rfl) T.m_len PySem.boot_len (pa_cons (pv 1) pa_nil)) (nomark _)) (pe_one (pe_callB (cr_all rfl) (by rfl) T.m_all PyProof.Rows.boot_all (pa_cons (pe_lc (own := [("_law_one", 3), ("_law_two", 4)]) (g := gTup K 2 (gCons (gName 3) (gCons (gName 4) gNil))) (tt := tYes) rfl sc_same.nd (RZ.pi_zipA (by rfl) T.m_zip (pa_cons (pv 0) (pa_cons (pv 1) pa_nil))) (blkOk_by (own := [("_law_one", 3), ("_law_two", 4)]) (N := ["_law_found", "_law_due", "_law_key", "_law_one", "_law_two"]) (sc := defScope s_same) (by decide +kernel)) (fun _ _ _ _ _ => pg_tup rfl (pgs_cons (pg_name (i := 3) sc_same.nd rfl (Or.inl rfl)) (pgs_cons (pg_name (i := 4) sc_same.nd rfl (Or.inl rfl)) pgs_nil))) (fun _ _ _ _ _ => pts_nil) (fun _ _ _ _ _ => (pe_call G (hr.mono (by omega)) (by rfl) T.g_same T.F_same.kp T.b_same .nil pass0 (pa_cons (pv 3) (pa_cons (pv 4) pa_nil))))) pa_nil))))))))))), ?_⟩
    have leafy : Leaf x y ∨ ∃ (n' : Nat) (a b : Addr) (xs ys : List V), n = n' + 1 ∧ x = .ref a ∧ y = .ref b ∧ ((H a = some (.lst xs) ∧ H b = some (.lst ys)) ∨ (H a = some (.tup xs) ∧ H b = some (.tup ys))) ∧ xs.length = ys.length ∧ xs.length ≤ 1000 ∧
        ∀ (i : Nat) (x y : V), xs[i]? = some x → ys[i]? = some y → Eqd H n' x y := by
      cases n with
      | zero => exact .inl hE
      | succ n' =>
        rcases hE with h | ⟨a, b, xs, ys, h⟩
        · exact .inl h
        · exact .inr ⟨n', a, b, xs, ys, rfl, h⟩
    rcases leafy with ⟨rfl, hl⟩ | ⟨n', a, b, xs, ys, rfl, rfl, rfl, hab, hlen, h1000, hsub⟩
    · refine ⟨_, rfl, rfl, _, rfl, ite2 (fun e => ?_) (fun e => ?_)⟩
      · have ex := of_decide_eq_true e
        subst ex
        exact ⟨_, rfl, rfl, q _ (Same.refl _)⟩
      · rcases hl with rfl | ⟨bb, rfl⟩ | ⟨i, rfl⟩ | ⟨z, rfl⟩
        · exact absurd (decide_eq_true rfl) e
        · refine ⟨_, rfl, _, _, _, _, _, rfl, .ty _, .base (.bl _), kit_ty (r := true) (by decide +kernel), _, rfl, iteT (iteT ?_)⟩
          refine ⟨_, rfl, _, _, _, _, _, rfl, .ty _, .base (.bl _), kit_ty (r := true) (by decide +kernel), _, rfl, iteT ?_⟩
          refine ⟨_, rfl, _, _, _, _, _, rfl, .ty _, .base (.bl _), kit_ty (r := true) (by decide +kernel), _, rfl, iteT ?_⟩
          refine ⟨_, rfl, _, rfl, rfl, ?_⟩
          rw [decide_eq_true rfl]
          exact q _ (Same.refl _)
        · refine ⟨_, rfl, _, _, _, _, _, rfl, .ty _, .base (.int _), kit_ty (r := false) (by decide +kernel), _, rfl, iteF ?_⟩
          refine ⟨_, rfl, _, _, _, _, _, rfl, .ty _, .base (.int _), kit_ty (r := false) (by decide +kernel), _, rfl, iteF ?_⟩
          refine ⟨_, rfl, two_line, fun p np => ?_⟩
          refine ⟨_, p, _, _, _, _, rfl, upd_same, .cons (.ty _) (.cons (.ty _) .nil), .base (.int _), kit2 (r1 := true) (r2 := false) (by decide +kernel) (by decide +kernel), _, rfl, iteT ?_⟩
          refine ⟨_, rfl, two_line, fun p2 np2 => ?_⟩
          refine ⟨_, p2, _, _, _, _, rfl, upd_same, .cons (.ty _) (.cons (.ty _) .nil), .base (.int _), kit2 (r1 := true) (r2 := false) (by decide +kernel) (by decide +kernel), _, rfl, iteT ?_⟩
          refine ⟨_, rfl, _, _, _, _, _, rfl, .ty _, .base (.int _), kit_ty (r := true) (by decide +kernel), ?_⟩
          refine ⟨_, rfl, _, _, _, _, _, rfl, .ty _, .base (.int _), kit_ty (r := true) (by decide +kernel), rfl, _, rfl, iteT ?_⟩
          refine ⟨_, rfl, _, rfl, rfl, ?_⟩
          rw [decide_eq_true rfl]
          exact q _ ((same_upd np).trans (same_upd np2))
        · refine ⟨_, rfl, _, _, _, _, _, rfl, .ty _, .base (.str _), kit_ty (r := false) (by decide +kernel), _, rfl, iteF ?_⟩
          refine ⟨_, rfl, _, _, _, _, _, rfl, .ty _, .base (.str _), kit_ty (r := false) (by decide +kernel), _, rfl, iteF ?_⟩
          refine ⟨_, rfl, two_line, fun p np => ?_⟩
          refine ⟨_, p, _, _, _, _, rfl, upd_same, .cons (.ty _) (.cons (.ty _) .nil), .base (.str _), kit2 (r1 := false) (r2 := true) (by decide +kernel) (by decide +kernel), _, rfl, iteT ?_⟩
          refine ⟨_, rfl, two_line, fun p2 np2 => ?_⟩
          refine ⟨_, p2, _, _, _, _, rfl, upd_same, .cons (.ty _) (.cons (.ty _) .nil), .base (.str _), kit2 (r1 := false) (r2 := true) (by decide +kernel) (by decide +kernel), _, rfl, iteT ?_⟩
          refine ⟨_, rfl, _, _, _, _, _, rfl, .ty _, .base (.str _), kit_ty (r := false) (by decide +kernel), ?_⟩
          refine ⟨_, rfl, _, _, _, _, _, rfl, .ty _, .base (.str _), kit_ty (r := false) (by decide +kernel), rfl, _, rfl, iteT ?_⟩
          refine ⟨_, rfl, _, rfl, rfl, ?_⟩
          rw [decide_eq_true rfl]
          exact q _ ((same_upd np).trans (same_upd np2))
    · refine ⟨_, rfl, rfl, _, rfl, ite2 (fun e => absurd (of_decide_eq_true e) (by intro z; cases z)) (fun e => ?_)⟩
      rcases hab with ⟨ha, hb⟩ | ⟨ha, hb⟩
      · refine ⟨_, rfl, _, _, _, _, _, rfl, .ty _, .base (.lst hb), kit_ty (r := false) (by decide +kernel), _, rfl, iteF ⟨_, rfl, _, _, _, _, _, rfl, .ty _, .base (.lst ha), kit_ty (r := false) (by decide +kernel), _, rfl, iteF ⟨_, rfl, two_line, fun p np => ?_⟩⟩⟩
        have s1 := same_upd (o := .tup [V.ty "int", V.ty "str"]) np
        refine ⟨_, p, _, _, _, _, rfl, upd_same, .cons (.ty _) (.cons (.ty _) .nil), .base (.lst (s1 _ _ hb)), kit2 (r1 := false) (r2 := false) (by decide +kernel) (by decide +kernel), _, rfl, iteF ?_⟩
        generalize upd H p (.tup [V.ty "int", V.ty "str"]) = H2 at s1
        have ha2 := s1 _ _ ha
        have hb2 := s1 _ _ hb
        refine ⟨_, rfl, _, _, _, _, _, rfl, .ty _, .base (.lst hb2), kit_ty (r := false) (by decide +kernel), _, rfl, iteF ?_⟩
        refine ⟨_, rfl, _, _, _, _, _, rfl, .ty _, .base (.lst hb2), kit_ty (r := true) (by decide +kernel), _, rfl, _, _, _, _, _, rfl, .ty _, .base (.lst ha2), kit_ty (r := true) (by decide +kernel), rfl, _, rfl, iteF ?_⟩
        refine ⟨_, rfl, _, _, _, _, _, rfl, .ty _, .base (.lst hb2), kit_ty (r := false) (by decide +kernel), _, rfl, _, _, _, _, _, rfl, .ty _, .base (.lst ha2), kit_ty (r := false) (by decide +kernel), rfl, _, rfl, iteF ?_⟩
        refine ⟨_, rfl, a, _, rfl, .inl (SqL.of ha2), _, rfl, b, _, rfl, .inl (SqL.of hb2), rfl, _, rfl, ?_⟩
        rw [hlen, decide_eq_true rfl]
        refine iteT ⟨_, rfl, _, rfl, a, b, xs, ys, rfl, .inl ⟨SqL.of ha2, SqL.of hb2, fun D nD => ?_⟩⟩
        refine ⟨fun i m H' => i + m = xs.length ∧ Same H2 H' ∧ H' D = some (.lst ((List.replicate i true).map V.bl)), ⟨xs.length, by omega, same_upd nD, upd_same⟩, fun i m H' hW => ?_⟩
        obtain ⟨hm, s2, hD⟩ := hW
        by_cases hi : i < xs.length
        · have hx : xs[i]? = some xs[i] := List.getElem?_eq_getElem hi
          have hy : ys[i]? = some ys[i] := List.getElem?_eq_getElem (by omega)
          refine .inr ⟨⟨_, _, _, _, SqL.of (s2 _ _ ha2), SqL.of (s2 _ _ hb2), hx, hy⟩, fun H'' => Same H2 H'' ∧ H'' D = some (.lst ((List.replicate (i + 1) true).map V.bl)), fun H'' h => ⟨m - 1, by omega, by omega, h⟩, fun v H'' hv => ?_⟩
          obtain ⟨T', x1, y1, rfl, nT, rfl, f1, f2⟩ := hv
          have ex : x1 = xs[i] := Option.some.inj ((f1 _ (SqL.of (s2 _ _ ha2))).symm.trans hx)
          have ey : y1 = ys[i] := Option.some.inj ((f2 _ (SqL.of (s2 _ _ hb2))).symm.trans hy)
          have s3 : Same H' (upd H' T' (.tup [x1, y1])) := same_upd nT
          refine ⟨T', [x1, y1], rfl, .inl (.inl upd_same), rfl, x1, [y1], rfl, y1, [], rfl, rfl, rfl, ?_⟩
          refine ⟨_, rfl, _, rfl, x1, y1, rfl, ?_, fun H4 s4 => ⟨_, s4 _ _ (s3 _ _ hD), ?_, ?_, ?_⟩⟩
          · subst ex ey
            exact Eqd.mono (s1.trans (s2.trans s3)) n' (hsub i _ _ hx hy)
          · rw [List.length_map, List.length_replicate]
            exact small1000 (by omega)
          · intro c o e
            rw [upd_ne (ne_of_none e nD)]
            exact s4 _ _ (s3 _ _ (s2 _ _ e))
          · rw [upd_same, List.replicate_succ', List.map_append]
            rfl
        · have ei : i = xs.length := by omega
          subst ei
          refine .inl ⟨⟨xs, ys, SqL.of (s2 _ _ ha2), SqL.of (s2 _ _ hb2), .inl (Nat.le_refl _)⟩, ?_⟩
          refine ⟨D, _, rfl, .inl (.inl hD), ?_⟩
          have all : ∀ k : Nat, (List.replicate k true).all id = true := fun k => by
            rw [List.all_replicate]
            split <;> rfl
          rw [all]
          exact q _ (s1.trans s2)
      · refine ⟨_, rfl, _, _, _, _, _, rfl, .ty _, .base (.tup hb), kit_ty (r := false) (by decide +kernel), _, rfl, iteF ⟨_, rfl, _, _, _, _, _, rfl, .ty _, .base (.tup ha), kit_ty (r := false) (by decide +kernel), _, rfl, iteF ⟨_, rfl, two_line, fun p np => ?_⟩⟩⟩
        have s1 := same_upd (o := .tup [V.ty "int", V.ty "str"]) np
        refine ⟨_, p, _, _, _, _, rfl, upd_same, .cons (.ty _) (.cons (.ty _) .nil), .base (.tup (s1 _ _ hb)), kit2 (r1 := false) (r2 := false) (by decide +kernel) (by decide +kernel), _, rfl, iteF ?_⟩
        generalize upd H p (.tup [V.ty "int", V.ty "str"]) = H2 at s1
        have ha2 := s1 _ _ ha
        have hb2 := s1 _ _ hb
        refine ⟨_, rfl, _, _, _, _, _, rfl, .ty _, .base (.tup hb2), kit_ty (r := false) (by decide +kernel), _, rfl, iteF ?_⟩
        refine ⟨_, rfl, _, _, _, _, _, rfl, .ty _, .base (.tup hb2), kit_ty (r := false) (by decide +kernel), _, rfl, _, _, _, _, _, rfl, .ty _, .base (.tup ha2), kit_ty (r := false) (by decide +kernel), rfl, _, rfl, iteF ?_⟩
        refine ⟨_, rfl, _, _, _, _, _, rfl, .ty _, .base (.tup hb2), kit_ty (r := true) (by decide +kernel), _, rfl, _, _, _, _, _, rfl, .ty _, .base (.tup ha2), kit_ty (r := true) (by decide +kernel), rfl, _, rfl, iteF ?_⟩
        refine ⟨_, rfl, a, _, rfl, .inr (SqT.of ha2), _, rfl, b, _, rfl, .inr (SqT.of hb2), rfl, _, rfl, ?_⟩
        rw [hlen, decide_eq_true rfl]
        refine iteT ⟨_, rfl, _, rfl, a, b, xs, ys, rfl, .inr ⟨SqT.of ha2, SqT.of hb2, fun D nD => ?_⟩⟩
        refine ⟨fun i m H' => i + m = xs.length ∧ Same H2 H' ∧ H' D = some (.lst ((List.replicate i true).map V.bl)), ⟨xs.length, by omega, same_upd nD, upd_same⟩, fun i m H' hW => ?_⟩
        obtain ⟨hm, s2, hD⟩ := hW
        by_cases hi : i < xs.length
        · have hx : xs[i]? = some xs[i] := List.getElem?_eq_getElem hi
          have hy : ys[i]? = some ys[i] := List.getElem?_eq_getElem (by omega)
          refine .inr ⟨⟨_, _, _, _, SqT.of (s2 _ _ ha2), SqT.of (s2 _ _ hb2), hx, hy⟩, fun H'' => Same H2 H'' ∧ H'' D = some (.lst ((List.replicate (i + 1) true).map V.bl)), fun H'' h => ⟨m - 1, by omega, by omega, h⟩, fun v H'' hv => ?_⟩
          obtain ⟨T', x1, y1, rfl, nT, rfl, f1, f2⟩ := hv
          have ex : x1 = xs[i] := Option.some.inj ((f1 _ (SqT.of (s2 _ _ ha2))).symm.trans hx)
          have ey : y1 = ys[i] := Option.some.inj ((f2 _ (SqT.of (s2 _ _ hb2))).symm.trans hy)
          have s3 : Same H' (upd H' T' (.tup [x1, y1])) := same_upd nT
          refine ⟨T', [x1, y1], rfl, .inl (.inl upd_same), rfl, x1, [y1], rfl, y1, [], rfl, rfl, rfl, ?_⟩
          refine ⟨_, rfl, _, rfl, x1, y1, rfl, ?_, fun H4 s4 => ⟨_, s4 _ _ (s3 _ _ hD), ?_, ?_, ?_⟩⟩
          · subst ex ey
            exact Eqd.mono (s1.trans (s2.trans s3)) n' (hsub i _ _ hx hy)
          · rw [List.length_map, List.length_replicate]
            exact small1000 (by omega)
          · intro c o e
            rw [upd_ne (ne_of_none e nD)]
            exact s4 _ _ (s3 _ _ (s2 _ _ e))
          · rw [upd_same, List.replicate_succ', List.map_append]
            rfl
        · have ei : i = xs.length := by omega
          subst ei
          refine .inl ⟨⟨xs, ys, SqT.of (s2 _ _ ha2), SqT.of (s2 _ _ hb2), .inl (Nat.le_refl _)⟩, ?_⟩
          refine ⟨D, _, rfl, .inl (.inl hD), ?_⟩
          have all : ∀ k : Nat, (List.replicate k true).all id = true := fun k => by
            rw [List.all_replicate]
            split <;> rfl
          rw [all]
          exact q _ (s1.trans s2)
theorem ok_same (T : Txt K mg fa fd) : ∀ n : Nat, FnOk P w K mg base CX0 (n + 1) (fa 65) (fd 65) ["_law_found", "_law_due"] (spS n)
  | 0 => none_of_false T.F_same sc_same
  | n + 1 => same_step T n (ok_same T n)
end
/-! ### data in the heap -/
mutual
inductive Dt (z : Addr) (H : Hp) : V → PyData → Prop
  | non : Dt z H .non .none
  | bl (b : Bool) : Dt z H (.bl b) (.bool b)
  | int (i : Int) (h : i.natAbs.log2 < 4096) : Dt z H (.int i) (.int i)
  | str (x : Str) (h : x.length ≤ 1000) : Dt z H (.str x) (.str x)
  | lst {a : Addr} {xs : List V} {ds : List PyData} : H a = some (.lst xs) → a ≠ z → DtAll z H xs ds → Dt z H (.ref a) (.list ds)
  | tup {a : Addr} {xs : List V} {ds : List PyData} : H a = some (.tup xs) → DtAll z H xs ds → Dt z H (.ref a) (.tuple ds)
inductive DtAll (z : Addr) (H : Hp) : List V → List PyData → Prop
  | nil : DtAll z H [] []
  | cons {v : V} {vs : List V} {d : PyData} {ds : List PyData} : Dt z H v d → DtAll z H vs ds → DtAll z H (v :: vs) (d :: ds)
end
mutual
theorem Dt.via {z : Addr} {H H' : Hp} (s : ∀ a o, H a = some o → ((∃ xs, o = .lst xs) ∧ a ≠ z) ∨ (∃ xs, o = .tup xs) → H' a = some o) : ∀ (d : PyData) (v : V), Dt z H v d → Dt z H' v d
  | .none, _, h => by cases h; exact .non
  | .bool _, _, h => by cases h; exact .bl _
  | .int _, _, h => by
    cases h with
    | int _ hb => exact .int _ hb
  | .str _, _, h => by
    cases h with
    | str _ hx => exact .str _ hx
  | .list ds, _, h => by
    cases h with
    | lst h1 hz h2 => exact .lst (s _ _ h1 (.inl ⟨⟨_, rfl⟩, hz⟩)) hz (DtAll.via s ds _ h2)
  | .tuple ds, _, h => by
    cases h with
    | tup h1 h2 => exact .tup (s _ _ h1 (.inr ⟨_, rfl⟩)) (DtAll.via s ds _ h2)
  | .dict _, _, h => by cases h
theorem DtAll.via {z : Addr} {H H' : Hp} (s : ∀ a o, H a = some o → ((∃ xs, o = .lst xs) ∧ a ≠ z) ∨ (∃ xs, o = .tup xs) → H' a = some o) : ∀ (ds : List PyData) (vs : List V), DtAll z H vs ds → DtAll z H' vs ds
  | [], _, h => by cases h; exact .nil
  | d :: ds, _, h => by
    cases h with
    | cons h1 h2 => exact .cons (Dt.via s d _ h1) (DtAll.via s ds _ h2)
end
theorem Dt.same {z : Addr} {H H' : Hp} {v : V} {d : PyData} (h : Dt z H v d) (s : Same H H') : Dt z H' v d := Dt.via (fun a o e _ => s a o e) d v h
theorem DtAll.same {z : Addr} {H H' : Hp} {vs : List V} {ds : List PyData} (h : DtAll z H vs ds) (s : Same H H') : DtAll z H' vs ds := DtAll.via (fun a o e _ => s a o e) ds vs h
theorem DtAll.len {z : Addr} {H : Hp} : ∀ {vs : List V} {ds : List PyData}, DtAll z H vs ds → vs.length = ds.length
  | _, _, .nil => rfl
  | _, _, .cons _ h => congrArg (· + 1) (DtAll.len h)
mutual
theorem Dt.dp {K : PySem.W.Frag} {z : Addr} {H : Hp} : ∀ (d : PyData) (v : V), Dt z H v d → Dp K H v d
  | .none, _, h => by cases h; exact .non
  | .bool _, _, h => by cases h; exact .bl _
  | .int _, _, h => by cases h; exact .int _
  | .str _, _, h => by cases h; exact .str _
  | .list ds, _, h => by
    cases h with
    | lst h1 _ h2 => exact .lst (SqL.of h1) (DtAll.dp ds _ h2)
  | .tuple ds, _, h => by
    cases h with
    | tup h1 h2 => exact .tup (SqT.of h1) (DtAll.dp ds _ h2)
  | .dict _, _, h => by cases h
theorem DtAll.dp {K : PySem.W.Frag} {z : Addr} {H : Hp} : ∀ (ds : List PyData) (vs : List V), DtAll z H vs ds → DpAll K H vs ds
  | [], _, h => by cases h; exact .nil
  | d :: ds, _, h => by
    cases h with
    | cons h1 h2 => exact .cons (Dt.dp d _ h1) (DtAll.dp ds _ h2)
end
theorem Dt.but {z : Addr} {H H' : Hp} {v : V} {d : PyData} {c : Addr} (hF : FeedOk H z c) (b : But z H H') (h : Dt z H v d) : Dt z H' v d := by
  obtain ⟨ns, k, big, mark, ha, _⟩ := hF
  refine Dt.via (fun p o e g => b p o ?_ e) d v h
  rcases g with ⟨_, g⟩ | ⟨xs, rfl⟩
  · exact g
  · exact ne_of e ha (by intro z; cases z)
theorem dnewT {z : Addr} {H : Hp} {p : Addr} {vs : List V} {ds : List PyData} (n : H p = none) (h : DtAll z H vs ds) : Same H (upd H p (.tup vs)) ∧ Dt z (upd H p (.tup vs)) (.ref p) (.tuple ds) :=
  ⟨same_upd n, .tup upd_same (h.same (same_upd n))⟩
theorem dnewL {z : Addr} {H : Hp} {p : Addr} {vs : List V} {ds : List PyData} (n : H p = none) (hz : p ≠ z) (h : DtAll z H vs ds) : Same H (upd H p (.lst vs)) ∧ Dt z (upd H p (.lst vs)) (.ref p) (.list ds) :=
  ⟨same_upd n, .lst upd_same hz (h.same (same_upd n))⟩
theorem drow {z : Addr} {H : Hp} {p : Addr} {vs : List V} {ds : List PyData} (n : H p = none) (h : DtAll z H vs ds) : Same H (upd H p (.lst vs)) ∧ DtAll z (upd H p (.lst vs)) vs ds ∧ (upd H p (.lst vs)) p = some (.lst vs) :=
  ⟨same_upd n, h.same (same_upd n), upd_same⟩
theorem DtAll.mem {z : Addr} {H : Hp} : ∀ {vs : List V} {ds : List PyData} {v : V}, DtAll z H vs ds → v ∈ vs → ∃ d, d ∈ ds ∧ Dt z H v d
  | _, _, _, .cons (d := d) h r, e => by
    rcases List.mem_cons.mp e with rfl | e
    · exact ⟨d, List.mem_cons_self, h⟩
    · obtain ⟨d', h1, h2⟩ := DtAll.mem r e
      exact ⟨d', List.mem_cons_of_mem _ h1, h2⟩
def tagD : PyData → String
  | .none => "NoneType"
  | .bool _ => "bool"
  | .int _ => "int"
  | .str _ => "str"
  | .list _ => "list"
  | .tuple _ => "tuple"
  | .dict _ => "dict"
theorem Dt.ty {K : PySem.W.Frag} {z : Addr} {H : Hp} {v : V} {d : PyData} (h : Dt z H v d) : TyOf K H v (.type (tagD d)) := by
  cases h with
  | non => exact .non
  | bl b => exact .bl b
  | int i _ => exact .int i
  | str x _ => exact .str x
  | lst h _ _ => exact .lst h
  | tup h _ => exact .tup h
def isTup : PyData → Bool
  | .tuple _ => true
  | _ => false
def isTxt : PyData → Bool
  | .str _ => true
  | _ => false
def isInt : PyData → Bool
  | .int _ => true
  | _ => false
theorem kitTup {d : PyData} : kitB (tagD d) "tuple" = some (isTup d) := by cases d <;> rfl
theorem kitTxt {d : PyData} : kitB (tagD d) "str" = some (isTxt d) := by cases d <;> rfl
theorem Dt.split {z : Addr} {H : Hp} {v : V} {d : PyData} (h : Dt z H v d) : isTup d = false ∨ ∃ a xs ds, v = .ref a ∧ d = .tuple ds ∧ H a = some (.tup xs) ∧ DtAll z H xs ds := by
  cases h with
  | tup h1 h2 => exact .inr ⟨_, _, _, rfl, rfl, h1, h2⟩
  | non => exact .inl rfl
  | bl b => exact .inl rfl
  | int i _ => exact .inl rfl
  | str x _ => exact .inl rfl
  | lst h _ _ => exact .inl rfl
/-! ### what is a name, a fraction, a tie -/
def nameD : PyData → Bool
  | .str x => nameB x.cps.toList
  | _ => false
def ratD : PyData → Bool
  | .tuple [.int t, .int u] => decide (1 ≤ u) && decide (Int.gcd t u = 1)
  | _ => false
def nonz : PyData → Bool
  | .tuple (.int t :: _) => decide (t ≠ 0)
  | _ => false
def termD : PyData → Bool
  | .tuple [n, r] => nameD n && ratD r && nonz r
  | _ => false
def ltD : PyData → PyData → Bool
  | .tuple (.str x :: _), .tuple (.str y :: _) => decide (x.cps.toList < y.cps.toList)
  | _, _ => false
def termsD : PyData → Bool
  | .tuple [s] => termD s
  | .tuple [s, t] => termD s && termD t && ltD s t
  | _ => false
def tieD : PyData → Bool
  | .tuple [t, b] => termsD t && ratD b
  | _ => false
mutual
def noL : PyData → Bool
  | .list _ => false
  | .dict _ => false
  | .tuple ds => noLs ds
  | _ => true
def noLs : List PyData → Bool
  | [] => true
  | d :: ds => noL d && noLs ds
end
/-- tuples stay -/
def TT (H H' : Hp) : Prop := ∀ p xs, H p = some (.tup xs) → H' p = some (.tup xs)
theorem TT.of {H H' : Hp} (s : Same H H') : TT H H' := fun p _ e => s p _ e
theorem TT.but {a c : Addr} {H H' : Hp} (hF : FeedOk H a c) (b : But a H H') : TT H H' := fun p xs e => by
  obtain ⟨ns, k, big, mark, ha, _⟩ := hF
  exact b p _ (ne_of e ha (by intro z; cases z)) e
theorem TT.upd {H : Hp} {D : Addr} {ys zs : List V} (hD : H D = some (.lst ys)) : TT H (L2.upd H D (.lst zs)) := fun p xs e => by
  rw [upd_ne (ne_of e hD (by intro z; cases z))]
  exact e
theorem TT.trans {H H1 H2 : Hp} (h : TT H H1) (k : TT H1 H2) : TT H H2 := fun p xs e => k p xs (h p xs e)
mutual
theorem Dt.tups {z z' : Addr} {H H' : Hp} (s : TT H H') : ∀ (d : PyData) (v : V), noL d = true → Dt z H v d → Dt z' H' v d
  | .none, _, _, h => by cases h; exact .non
  | .bool _, _, _, h => by cases h; exact .bl _
  | .int _, _, _, h => by
    cases h with
    | int _ hb => exact .int _ hb
  | .str _, _, _, h => by
    cases h with
    | str _ hx => exact .str _ hx
  | .list ds, _, n, h => by
    unfold noL at n
    cases n
  | .tuple ds, _, n, h => by
    unfold noL at n
    cases h with
    | tup h1 h2 => exact .tup (s _ _ h1) (DtAll.tups s ds _ n h2)
  | .dict _, _, n, h => by cases h
theorem DtAll.tups {z z' : Addr} {H H' : Hp} (s : TT H H') : ∀ (ds : List PyData) (vs : List V), noLs ds = true → DtAll z H vs ds → DtAll z' H' vs ds
  | [], _, _, h => by cases h; exact .nil
  | d :: ds, _, n, h => by
    unfold noLs at n
    rw [Bool.and_eq_true] at n
    cases h with
    | cons h1 h2 => exact .cons (Dt.tups s d _ n.1 h1) (DtAll.tups s ds _ n.2 h2)
end
theorem DtAll.snoc {z : Addr} {H : Hp} : ∀ {vs : List V} {ds : List PyData} {v : V} {d : PyData}, DtAll z H vs ds → Dt z H v d → DtAll z H (vs ++ [v]) (ds ++ [d])
  | _, _, _, _, .nil, k => .cons k .nil
  | _, _, _, _, .cons h r, k => .cons h (DtAll.snoc r k)
theorem ratD_inv {d : PyData} (h : ratD d = true) : ∃ t u, d = .tuple [.int t, .int u] := by
  unfold ratD at h
  split at h
  · exact ⟨_, _, rfl⟩
  · cases h
theorem DtAll.at {z : Addr} {H : Hp} : ∀ {vs : List V} {ds : List PyData} (i : Nat) {x : V}, DtAll z H vs ds → vs[i]? = some x → ∃ d, ds[i]? = some d ∧ Dt z H x d
  | _, _, 0, _, .cons h _, e => ⟨_, rfl, by cases e; exact h⟩
  | _, _, i + 1, _, .cons _ h, e => DtAll.at i h e
def smallR : PyData → Bool
  | .tuple [.int t, .int u] => decide (t.natAbs ≤ 5 ∧ u.natAbs ≤ 3)
  | _ => false
def okR (r : PyData) : Prop := ratD r = true ∧ nonz r = true ∧ smallR r = true
theorem okR.noL {r : PyData} (h : okR r) : noL r = true := by
  obtain ⟨t, u, rfl⟩ := ratD_inv h.1
  rfl
abbrev trm1 (t : Str × PyData) : PyData := .tuple [.str t.1, t.2]
theorem noLs_trms : ∀ {ts : List (Str × PyData)}, (∀ t ∈ ts, okR t.2) → noLs (ts.map trm1) = true
  | [], _ => rfl
  | t :: ts, h => by
    have h1 := (h t List.mem_cons_self).noL
    have h2 := noLs_trms fun u hu => h u (List.mem_cons_of_mem _ hu)
    show (((true && (noL t.2 && true)) && noLs (ts.map trm1)) = true)
    rw [h1, h2]
    rfl
/-- terms: names and rates -/
abbrev trmD (ts : List (Str × PyData)) : PyData := .tuple (ts.map fun t => .tuple [.str t.1, t.2])
theorem tie_inv {z : Addr} {H : Hp} {v : V} {dd : List PyData} {b : PyData} (hv : Dt z H v (.tuple [.tuple dd, b])) : ∃ p t y xs, v = .ref p ∧ H p = some (.tup [.ref t, y]) ∧ H t = some (.tup xs) ∧ DtAll z H xs dd ∧ Dt z H y b := by
  match v, hv with
  | _, .tup hp (.cons (.tup ht hts) (.cons hb .nil)) => exact ⟨_, _, _, _, rfl, hp, ht, hts, hb⟩
theorem trm_inv {z : Addr} {H : Hp} {xs : List V} {n : Str} {r : PyData} {ds : List PyData} (h : DtAll z H xs (.tuple [.str n, r] :: ds)) : ∃ e rv xs', xs = .ref e :: xs' ∧ H e = some (.tup [.str n, rv]) ∧ Dt z H rv r := by
  match xs, h with
  | _, .cons (.tup he (.cons (.str _ _) (.cons hr .nil))) _ => exact ⟨_, _, _, rfl, he, hr⟩
/-! ### names in order -/
theorem S_of (x : Str) : SX.S x.cps.toList = x := by
  cases x
  rfl
theorem lt_tri : ∀ (x y : List Nat), ltCps y x = false → x ≠ y → ltCps x y = true
  | [], [], _, h => absurd rfl h
  | [], _ :: _, _, _ => rfl
  | _ :: _, [], h, _ => by cases h
  | a :: r, b :: t, h, n => by
    unfold ltCps at h ⊢
    rw [Bool.or_eq_false_iff, decide_eq_false_iff_not, Bool.and_eq_false_iff] at h
    rw [Bool.or_eq_true, decide_eq_true_eq, Bool.and_eq_true, beq_iff_eq]
    by_cases e : a = b
    · subst e
      refine .inr ⟨rfl, lt_tri r t ?_ fun z => n (by rw [z])⟩
      rcases h.2 with h | h
      · simp at h
      · exact h
    · exact .inl (by omega)
theorem sorted_two {x y : Str} (h : sortedS [x, y] = true) (n : x ≠ y) : decide (x.cps.toList < y.cps.toList) = true := by
  have h : (!ltCps y.cps.toList x.cps.toList && true) = true := h
  rw [Bool.and_true, Bool.not_eq_true'] at h
  rw [lt_meets]
  refine lt_tri _ _ h fun z => n ?_
  rw [← S_of x, ← S_of y, z]
theorem S_list (a : List Nat) : (SX.S a).cps.toList = a := by simp [SX.S]
theorem iteT' {c : Bool} {A B : Prop} (h : c = true) (a : A) : ite (c = true) A B := by rw [h]; exact a
theorem iteF' {c : Bool} {A B : Prop} (h : c = false) (a : B) : ite (c = true) A B := by rw [h]; exact a
/-! ### the parser of programs -/
inductive Bk where
  | nil
  | any (x : Str) (r : Bk)
  | eit (p q r : Bk)
  | rep (n : Nat) (p r : Bk)
  deriving DecidableEq
def bkL : Bk → List PyData
  | .nil => []
  | .any x r => .tuple [.str (Str.ofString "any"), .str x] :: bkL r
  | .eit p q r => .tuple [.str (Str.ofString "either"), .tuple (bkL p), .tuple (bkL q)] :: bkL r
  | .rep n p r => .tuple [.str (Str.ofString "repeat"), .int (n : Int), .tuple (bkL p)] :: bkL r
def appB : Bk → Bk → Bk
  | .nil, b => b
  | .any x r, b => .any x (appB r b)
  | .eit p q r, b => .eit p q (appB r b)
  | .rep n p r, b => .rep n p (appB r b)
theorem bkL_app : ∀ a b : Bk, bkL (appB a b) = bkL a ++ bkL b
  | .nil, _ => rfl
  | .any _ r, b => congrArg (_ :: ·) (bkL_app r b)
  | .eit _ _ r, b => congrArg (_ :: ·) (bkL_app r b)
  | .rep _ _ r, b => congrArg (_ :: ·) (bkL_app r b)
theorem noLs_bk : ∀ a : Bk, noLs (bkL a) = true
  | .nil => rfl
  | .any x r => by
    show ((true && (true && true)) && noLs (bkL r)) = true
    rw [noLs_bk r]
    rfl
  | .eit p q r => by
    show ((true && (noLs (bkL p) && (noLs (bkL q) && true))) && noLs (bkL r)) = true
    rw [noLs_bk p, noLs_bk q, noLs_bk r]
    rfl
  | .rep n p r => by
    show ((true && (true && (noLs (bkL p) && true))) && noLs (bkL r)) = true
    rw [noLs_bk p, noLs_bk r]
    rfl
abbrev Rs (α : Type) := Option (Except Nat α)
def bnd {α β : Type} (x : Rs α) (f : α → Rs β) : Rs β := match x with
  | none => none
  | some (.error e) => some (.error e)
  | some (.ok a) => f a
theorem bnd_some {α β : Type} {x : Rs α} {f : α → Rs β} {r : Except Nat β} (h : bnd x f = some r) : (∃ e, x = some (.error e) ∧ r = .error e) ∨ ∃ a, x = some (.ok a) ∧ f a = some r := by
  match x, h with
  | some (.error e), h => exact .inl ⟨e, rfl, (Option.some.inj h).symm⟩
  | some (.ok a), h => exact .inr ⟨a, rfl, h⟩
def wordR (ws : List Str) (i : Nat) : Rs Str := match ws[i]? with
  | none => some (.error i)
  | some x => if 39 ∈ x.cps.toList then some (.error i) else some (.ok x)
def chkR (ws : List Str) (i : Nat) (w : Str) : Rs Unit := bnd (wordR ws i) fun x => if x = w then some (.ok ()) else some (.error i)
def nameR (ws : List Str) (i : Nat) : Rs Str := bnd (wordR ws i) fun x => if nameB x.cps.toList = true then some (.ok x) else some (.error i)
def tmsL : List Str := [Str.ofString "0", Str.ofString "1", Str.ofString "2", Str.ofString "3", Str.ofString "4"]
def tms (x : Str) : Option Nat := if x = Str.ofString "0" then some 0 else if x = Str.ofString "1" then some 1 else if x = Str.ofString "2" then some 2 else if x = Str.ofString "3" then some 3 else if x = Str.ofString "4" then some 4 else none
def timR (ws : List Str) (i : Nat) : Rs Nat := bnd (wordR ws i) fun x => match tms x with
  | some n => some (.ok n)
  | none => some (.error i)
def stsL : List Str := [Str.ofString "set", Str.ofString "any", Str.ofString "check", Str.ofString "either", Str.ofString "repeat"]
def bracR (S : Nat → Nat → Rs (Bk × Nat)) (ws : List Str) (i d : Nat) : Rs (Bk × Nat) := bnd (chkR ws i (Str.ofString "{")) fun _ => if 4 ≤ d then some (.error i) else
  bnd (S (i + 1) (d + 1)) fun r => bnd (chkR ws r.2 (Str.ofString "}")) fun _ => some (.ok (r.1, r.2 + 1))
def eitR (S : Nat → Nat → Rs (Bk × Nat)) (ws : List Str) (i d : Nat) : Rs (Bk × Nat) := bnd (bracR S ws (i + 1) d) fun a => bnd (chkR ws a.2 (Str.ofString "or")) fun _ =>
  bnd (bracR S ws (a.2 + 1) d) fun b => some (.ok (.eit a.1 b.1 .nil, b.2))
def repR (S : Nat → Nat → Rs (Bk × Nat)) (ws : List Str) (i d : Nat) : Rs (Bk × Nat) := bnd (timR ws (i + 1)) fun n => bnd (bracR S ws (i + 2) d) fun a => some (.ok (.rep n a.1 .nil, a.2))
def stmR (S : Nat → Nat → Rs (Bk × Nat)) (ws : List Str) (i d : Nat) : Rs (Bk × Nat) := match ws[i]? with
  | none => none
  | some x => if x = Str.ofString "any" then bnd (nameR ws (i + 1)) fun y => some (.ok (.any y .nil, i + 2)) else
    if x = Str.ofString "either" then eitR S ws i d else if x = Str.ofString "repeat" then repR S ws i d else none
def rdS : Nat → List Str → Nat → Nat → Rs (Bk × Nat)
  | 0, _, _, _ => none
  | n + 1, ws, i, d => if (ws[i]?).any (fun x => decide (x ∈ stsL)) = true then bnd (stmR (rdS n ws) ws i d) fun a => bnd (rdS n ws a.2 d) fun b => some (.ok (appB a.1 b.1, b.2)) else some (.ok (.nil, i))
def rdP (ws : List Str) : Rs Bk := bnd (rdS 12 ws 0 0) fun r => if r.2 < ws.length then some (.error r.2) else some (.ok r.1)
/-- what is wanted of a result -/
def PEr (E : XK) (C : Addr) (H : Hp) (i : Nat) : Prop := ∀ d H', Same H H' → H' d = some (.xd [("tag", .str "ParseError"), ("at", .int (i : Int))]) → E (.ref C) (some d) H'
def Kt {α : Type} (r : Except Nat α) (E : XK) (C : Addr) (H : Hp) (q : α → Prop) : Prop := match r with
  | .ok a => q a
  | .error e => PEr E C H e
theorem PEr.same {E : XK} {C : Addr} {H H' : Hp} {i : Nat} (h : PEr E C H i) (s : Same H H') : PEr E C H' i := fun d H2 s2 hd => h d H2 (s.trans s2) hd
theorem mem_vs {x : Str} {l : List Str} : inV (.str x) (l.map V.str) = decide (x ∈ l) := by
  unfold inV
  induction l with
  | nil => rfl
  | cons y l ih =>
    rw [List.map_cons, List.any_cons, ih]
    show ((y == x) || decide (x ∈ l)) = decide (x ∈ y :: l)
    rw [Bool.eq_iff_iff]
    simp only [Bool.or_eq_true, beq_iff_eq, decide_eq_true_eq, List.mem_cons]
    constructor
    · rintro (h | h)
      · exact .inl h.symm
      · exact .inr h
    · rintro (h | h)
      · exact .inl h.symm
      · exact .inr h
/-- the words of a text -/
structure Wds (H : Hp) (p : Addr) (ws : List Str) : Prop where
  h : H p = some (.lst (ws.map V.str))
  n : ws.length ≤ 1000
  l : ∀ x ∈ ws, x.length ≤ 1000
theorem Wds.same {H H' : Hp} {p : Addr} {ws : List Str} (h : Wds H p ws) (s : Same H H') : Wds H' p ws := ⟨s _ _ h.h, h.n, h.l⟩
theorem Wds.get {H : Hp} {p : Addr} {ws : List Str} (h : Wds H p ws) {i : Nat} {x : Str} (e : ws[i]? = some x) : (ws.map V.str)[i]? = some (.str x) := by
  rw [List.getElem?_map, e]
  rfl
theorem small_line {n : Nat} (h : n ≤ 1000) : n ≤ sizeLine := Nat.le_trans h (Nat.le_of_lt (small1000 (Nat.le_refl _)))
theorem quote : (Str.ofString "'" : Str) = SX.S [39] := by decide +kernel
abbrev vS (a : List Nat) : V := .str (SX.S a)
def spD (f : PyData → Bool) : Sp := fun vs H Q _ => ∃ v d z, vs = [v] ∧ Dt z H v d ∧ Q (.bl (f d)) H
section
variable {P : Program} {w : World} {K : PySem.W.Frag} {mg : Str → Option Value} {base : Heap} {fa : Nat → Addr} {fd : Nat → FuncData}
theorem ok_p_is_name (T : Txt K mg fa fd) : FnOk P w K mg base CX0 1 (fa 36) (fd 36) ["text"] (spD nameD) := by
  refine T.F_p_is_name.ok sc_p_is_name (fun vs H Q E h => ?_) (fun cdv A outer s H vs Q E hr h => ?_)
  · obtain ⟨v, d, _, rfl, _⟩ := h
    rfl
  · obtain ⟨v, d, z, rfl, hv, q⟩ := h
    refine ⟨_, (pss_cons (ps_if (pt_not (pt_val (pe_callB call_isi (by rfl) T.m_isinstance PyProof.Rows.boot_isinstance (pa_cons (pv 0) (pa_cons (pe_bltn (v := .ty "str") (by rfl) T.m_str (by decide +kernel) rfl) pa_nil))))) (pss_one (ps_ret pe_bl)) pss_nil)
      (pss_cons (ps_set (i := 1) sc_p_is_name.nd rfl (.inl rfl) (pe_m1 PySem.F.slot_str_removesuffix PySem.F.type_str_removesuffix mt_removesuffix (pv 0) pe_str (by rfl) (by rfl) (by rfl)))
      (pss_cons (ps_if (pt_cmpR op_gt (pe_callB call_len_str (by rfl) T.m_len PySem.boot_len (pa_cons (pv 1) pa_nil)) (C8.pe_gc (by rfl) T.c_MOST_LETTERS) (nomark _)) (pss_one (ps_ret pe_bl)) pss_nil)
      (pss_one (ps_ret (pe_and (pe_m0 PySem.F.slot_str_isascii PySem.F.type_str_isascii mt_isascii (pv 1) (by rfl) (by rfl)) (pe_and (pe_m0 PySem.F.slot_str_isalpha PySem.F.type_str_isalpha mt_isalpha (pv 1) (by rfl) (by rfl)) (pe_one (pe_m0 PySem.F.slot_str_islower PySem.F.type_str_islower mt_islower (pv 1) (by rfl) (by rfl)))))))))), ?_⟩
    refine ⟨_, rfl, _, _, _, _, _, rfl, .ty _, .base hv.ty, kit_ty kitTxt, _, rfl, ?_⟩
    cases hv with
    | str x hx =>
      refine iteF ?_
      have q : Q (.bl (nameB x.cps.toList)) H := q
      generalize hc : x.cps.toList = a at q
      have ex : x = SX.S a := by rw [← hc, S_of]
      subst ex
      refine ⟨_, rfl, ⟨_, rfl⟩, _, _, rfl, rfl, small_line hx, _, rfl, _, rfl, ?_⟩
      have er : Txt.removesuffix (SX.S a) (Str.ofString "'") = SX.S (cutQ a) := by rw [quote, rem_quote]
      rw [er]
      have q : Q (.bl (decide ((cutQ a).length ≤ 6) && letB (cutQ a))) H := q
      have cut : (cutQ a).length ≤ 1000 := by
        rw [SX.S_len] at hx
        unfold cutQ
        split
        · rw [List.length_dropLast]
          omega
        · exact hx
      generalize cutQ a = b at q cut
      refine ⟨by rw [SX.S_len]; exact small_line cut, _, _, rfl, rfl, _, rfl, ite2 (fun e => ?_) (fun e => ?_)⟩
      · have e := of_decide_eq_true e
        rw [SX.S_len] at e
        rw [decide_eq_false (by omega)] at q
        exact q
      · have e : ¬ ((6 : Int) < ((SX.S b).length : Int)) := fun z => e (decide_eq_true z)
        rw [SX.S_len] at e
        rw [decide_eq_true (by omega), Bool.true_and, ← lower_letters] at q
        refine ⟨_, rfl, ⟨_, rfl⟩, _, rfl, rfl, trivial, _, rfl, ?_⟩
        cases e1 : Txt.isascii (SX.S b) with
        | false =>
          rw [e1] at q
          exact iteF q
        | true =>
          rw [e1, Bool.true_and] at q
          refine iteT ⟨_, rfl, ⟨_, rfl⟩, _, rfl, rfl, trivial, _, rfl, ?_⟩
          cases e2 : Txt.isalpha (SX.S b) with
          | false =>
            rw [e2] at q
            exact iteF q
          | true =>
            rw [e2, Bool.true_and] at q
            exact iteT ⟨_, rfl, ⟨_, rfl⟩, _, rfl, rfl, trivial, q⟩
    | non => exact iteT q
    | bl b => exact iteT q
    | int i _ => exact iteT q
    | lst h _ _ => exact iteT q
    | tup h _ => exact iteT q
end
section
variable {P : Program} {w : World} {K : PySem.W.Frag} {mg : Str → Option Value} {base : Heap} {fa : Nat → Addr} {fd : Nat → FuncData}
theorem scE : FnScope ["self", "at"] ["self", "at"] (defScope (inClass (topS 4) 0)) := ⟨rfl, rfl, rfl, by decide +kernel, rfl, by decide +kernel, by decide +kernel⟩
theorem ok_ParseError (T : Txt K mg fa fd) : FnOk P w K mg base CX0 1 (fa 1004) (fd 1004) ["self", "at"] (spInit1 K "at" "ParseError") := by
  refine T.IParseError.ok scE (fun vs H Q E h => ?_) (fun cdv A outer s H vs Q E hr h => ?_)
  · obtain ⟨a, C, v, rfl, _⟩ := h
    rfl
  · obtain ⟨a, C, v, rfl, hC, h1, h2, ha, q⟩ := h
    refine ⟨_, pss_cons (ps_ost (pv 0) (pv 1)) (pss_one (ps_ost (pv 0) pe_str)), ?_⟩
    refine ⟨_, rfl, _, rfl, a, C, rfl, hC, h1, .inl ⟨ha, fun dx nd ne => ?_⟩⟩
    refine ⟨_, rfl, a, C, rfl, hC, h2, .inr ⟨dx, _, upd_same, ?_, by show 1 ≤ 900; decide, q dx nd ne⟩⟩
    rw [upd_ne ne, upd_same]
def spWord (C : Addr) : Sp := fun vs H Q E => ∃ (p : Addr) (i : Nat) (ws : List Str) (r : Except Nat Str), vs = [.ref p, .int (i : Int)] ∧ Wds H p ws ∧ wordR ws i = some r ∧ Kt r E C H (fun x => Q (.str x) H)
theorem ok_p_word_at (T : Txt K mg fa fd) : FnOk P w K mg base (L2.CX P w) 3 (fa 49) (fd 49) ["words", "at"] (spWord (fa 4)) := by
  refine T.F_p_word_at.okX sc_p_word_at (fun vs H Q E h => ?_) (fun cdv A outer s H vs Q E hr h => ?_)
  · obtain ⟨p, i, ws, r, rfl, _⟩ := h
    rfl
  · obtain ⟨p, i, ws, r, rfl, hw, hr0, q⟩ := h
    refine ⟨_, (C8.pss_cut (ps_if (PW.pt (pw_or (pt_cmpR op_ge (pv 1) (pe_callB call_len_seq (by rfl) T.m_len PySem.boot_len (pa_cons (pv 0) pa_nil)) (nomark _)) (pw_or1 (pt_cmpR op_in_sign pe_str (pe_ix ix_list (pv 0) (pv 1) (fun _ _ => rfl)) (by rfl))))) (pss_one (ps_raise rfl (takes_of rfl rfl rfl rfl) (pmk_oex T.eParseError.oex T.eParseError.iC T.eParseError.tI (ok_ParseError T) (hr.mono (by decide)) T.bIParseError .nil pass0 (by rfl) T.eParseError.gC (pa_cons (pv 1) pa_nil)))) pss_nil)
      (pss_one (ps_ret (pe_ix ix_list (pv 0) (pv 1) (fun _ _ => rfl))))), ?_⟩
    refine ⟨fun σ H1 => H1 = H ∧ σ = [some (.ref p), some (.int (i : Int))] ∧ ∃ x, ws[i]? = some x ∧ r = .ok x, ?_, fun σ H1 hM => ?_⟩
    · refine ⟨_, rfl, _, rfl, p, _, rfl, .inl (SqL.of hw.h), _, _, rfl, rfl, _, rfl, ?_⟩
      rw [List.length_map]
      cases e : ws[i]? with
      | none =>
        have hl := List.getElem?_eq_none_iff.mp e
        have er : r = .error i := by
          unfold wordR at hr0
          rw [e] at hr0
          exact (Option.some.inj hr0).symm
        subst er
        have qe : PEr E (fa 4) H i := q
        refine iteT' (decide_eq_true (by omega)) (iteT ⟨_, rfl, ?_⟩)
        refine ⟨by show 1 ≤ 1000; decide, fun a na => ⟨a, _, .int (i : Int), rfl, T.eParseError.oex, T.nParseError_at, T.eParseError.tag, upd_same, fun dx nd ne => ⟨rfl, dx, _, ?_, upd_same, ?_, ?_⟩⟩⟩
        · rw [upd_ne ne.symm, upd_same]
        · rw [upd_ne ne] at nd
          exact nd
        · have nd' : H dx = none := by
            rw [upd_ne ne] at nd
            exact nd
          refine qe dx _ (Same.del na nd' fun b o hb q => ?_) upd_same
          rw [upd_ne (ne_of_none q nd'), upd_ne hb, upd_ne (ne_of_none q nd'), upd_ne hb]
          exact q
      | some x =>
        have hl := (List.getElem?_eq_some_iff.mp e).1
        refine iteF' (decide_eq_false (by omega)) ?_
        refine ⟨_, rfl, _, rfl, p, _, _, _, rfl, rfl, SqL.of hw.h, at_of (j := i) (by omega) (hw.get e), 39, x, rfl, rfl, _, rfl, ?_⟩
        by_cases h39 : 39 ∈ x.cps.toList
        · have er : r = .error i := by
            unfold wordR at hr0
            rw [e] at hr0
            dsimp only at hr0
            rw [if_pos h39] at hr0
            exact (Option.some.inj hr0).symm
          subst er
          have qe : PEr E (fa 4) H i := q
          refine iteT' (decide_eq_true h39) ⟨_, rfl, ?_⟩
          refine ⟨by show 1 ≤ 1000; decide, fun a na => ⟨a, _, .int (i : Int), rfl, T.eParseError.oex, T.nParseError_at, T.eParseError.tag, upd_same, fun dx nd ne => ⟨rfl, dx, _, ?_, upd_same, ?_, ?_⟩⟩⟩
          · rw [upd_ne ne.symm, upd_same]
          · rw [upd_ne ne] at nd
            exact nd
          · have nd' : H dx = none := by
              rw [upd_ne ne] at nd
              exact nd
            refine qe dx _ (Same.del na nd' fun b o hb q => ?_) upd_same
            rw [upd_ne (ne_of_none q nd'), upd_ne hb, upd_ne (ne_of_none q nd'), upd_ne hb]
            exact q
        · have er : r = .ok x := by
            unfold wordR at hr0
            rw [e] at hr0
            dsimp only at hr0
            rw [if_neg h39] at hr0
            exact (Option.some.inj hr0).symm
          exact iteF' (decide_eq_false h39) ⟨rfl, rfl, x, rfl, er⟩
    · obtain ⟨rfl, rfl, x, e, rfl⟩ := hM
      exact ⟨_, rfl, _, rfl, p, _, _, _, rfl, rfl, SqL.of hw.h, at_of (j := i) (by omega) (hw.get e), q⟩
end
section
variable {P : Program} {w : World} {K : PySem.W.Frag} {mg : Str → Option Value} {base : Heap} {fa : Nat → Addr} {fd : Nat → FuncData}
theorem word_in {ws : List Str} {i : Nat} {x : Str} (h : wordR ws i = some (.ok x)) : ws[i]? = some x := by
  unfold wordR at h
  split at h
  · cases h
  · rename_i y e
    split at h
    · cases h
    · cases h
      exact e
def spNameA (C : Addr) : Sp := fun vs H Q E => ∃ (p : Addr) (i : Nat) (ws : List Str) (r : Except Nat Str), vs = [.ref p, .int (i : Int)] ∧ Wds H p ws ∧ nameR ws i = some r ∧ Kt r E C H (fun x => x.length ≤ 1000 → Q (.str x) H)
theorem ok_p_name_at (T : Txt K mg fa fd) : FnOk P w K mg base (L2.CX P w) 4 (fa 50) (fd 50) ["words", "at"] (spNameA (fa 4)) := by
  refine T.F_p_name_at.okX sc_p_name_at (fun vs H Q E h => ?_) (fun cdv A outer s H vs Q E hr h => ?_)
  · obtain ⟨p, i, ws, r, rfl, _⟩ := h
    rfl
  · obtain ⟨p, i, ws, r, rfl, hw, hr0, q⟩ := h
    refine ⟨_, (C8.pss_cut (ps_set (i := 2) sc_p_name_at.nd rfl (.inl rfl) (pe_call (ok_p_word_at T) (hr.mono (by decide)) (by rfl) T.g_p_word_at T.F_p_word_at.kp T.b_p_word_at .nil (passes_call (takes_of rfl rfl rfl rfl) (fun _ _ _ _ h => h)) (pa_cons (pv 0) (pa_cons (pv 1) pa_nil))))
      (C8.pss_cut (ps_if (pt_not (pt_val (pe_call (ok_p_is_name T) (hr.mono (by decide)) (by rfl) T.g_p_is_name T.F_p_is_name.kp T.b_p_is_name .nil pass0 (pa_cons (pv 2) pa_nil)))) (pss_one (ps_raise rfl (takes_of rfl rfl rfl rfl) (pmk_oex T.eParseError.oex T.eParseError.iC T.eParseError.tI (ok_ParseError T) (hr.mono (by decide)) T.bIParseError .nil pass0 (by rfl) T.eParseError.gC (pa_cons (pv 1) pa_nil)))) pss_nil)
      (pss_one (ps_ret (pv 2))))), ?_⟩
    rcases bnd_some hr0 with ⟨e, h1, rfl⟩ | ⟨x, h1, h2⟩
    · exact ⟨fun _ _ => False, ⟨_, rfl, _, rfl, p, i, ws, _, rfl, hw, h1, q⟩, fun _ _ h => h.elim⟩
    refine ⟨fun σ H1 => H1 = H ∧ σ = [some (.ref p), some (.int (i : Int)), some (.str x)], ⟨_, rfl, _, rfl, p, i, ws, _, rfl, hw, h1, ⟨rfl, rfl⟩⟩, fun σ H1 hM => ?_⟩
    obtain ⟨rfl, rfl⟩ := hM
    have xl := hw.l _ (List.mem_of_getElem? (word_in h1))
    refine ⟨fun σ H2 => H2 = H1 ∧ r = .ok x ∧ σ = [some (.ref p), some (.int (i : Int)), some (.str x)], ?_, fun σ H2 hM => ?_⟩
    · refine ⟨_, rfl, .str x, .str x, p, rfl, .str x xl, _, rfl, ?_⟩
      show ite ((!nameB x.cps.toList) = true) _ _
      by_cases hn : nameB x.cps.toList = true
      · rw [if_pos hn] at h2
        rw [hn]
        exact iteF ⟨rfl, (Option.some.inj h2).symm, rfl⟩
      · rw [if_neg hn] at h2
        cases h2
        have hn : nameB x.cps.toList = false := Bool.eq_false_iff.mpr hn
        rw [hn]
        have qe : PEr E (fa 4) H1 i := q
        refine iteT ⟨_, rfl, ?_⟩
        refine ⟨by show 1 ≤ 1000; decide, fun a na => ⟨a, _, .int (i : Int), rfl, T.eParseError.oex, T.nParseError_at, T.eParseError.tag, upd_same, fun dx nd ne => ⟨rfl, dx, _, ?_, upd_same, ?_, ?_⟩⟩⟩
        · rw [upd_ne ne.symm, upd_same]
        · rw [upd_ne ne] at nd
          exact nd
        · have nd' : H1 dx = none := by
            rw [upd_ne ne] at nd
            exact nd
          refine qe dx _ (Same.del na nd' fun b o hb q => ?_) upd_same
          rw [upd_ne (ne_of_none q nd'), upd_ne hb, upd_ne (ne_of_none q nd'), upd_ne hb]
          exact q
    · obtain ⟨rfl, rfl, rfl⟩ := hM
      exact ⟨_, rfl, q xl⟩
def spTimes (C : Addr) : Sp := fun vs H Q E => ∃ (p : Addr) (i : Nat) (ws : List Str) (r : Except Nat Nat), vs = [.ref p, .int (i : Int)] ∧ Wds H p ws ∧ timR ws i = some r ∧ Kt r E C H (fun n => n ≤ 4 → Q (.int (n : Int)) H)
theorem tms_of {x : Str} {n : Nat} (h : tms x = some n) : n ≤ 4 ∧ x ∈ tmsL ∧ x.length ≤ 640 ∧ intText? x = some (n : Int) := by
  unfold tms at h
  repeat' split at h
  all_goals first | (rename_i e; cases h; subst e; decide +kernel) | cases h
theorem tms_in {x : Str} (h : x ∈ tmsL) : tms x ≠ none := by
  have : ∀ y ∈ tmsL, (tms y).isSome = true := by decide +kernel
  intro e
  have := this x h
  rw [e] at this
  cases this
theorem ok_p_times_at (T : Txt K mg fa fd) : FnOk P w K mg base (L2.CX P w) 4 (fa 53) (fd 53) ["words", "at"] (spTimes (fa 4)) := by
  refine T.F_p_times_at.okX sc_p_times_at (fun vs H Q E h => ?_) (fun cdv A outer s H vs Q E hr h => ?_)
  · obtain ⟨p, i, ws, r, rfl, _⟩ := h
    rfl
  · obtain ⟨p, i, ws, r, rfl, hw, hr0, q⟩ := h
    refine ⟨_, (C8.pss_cut (ps_set (i := 2) sc_p_times_at.nd rfl (.inl rfl) (pe_call (ok_p_word_at T) (hr.mono (by decide)) (by rfl) T.g_p_word_at T.F_p_word_at.kp T.b_p_word_at .nil (passes_call (takes_of rfl rfl rfl rfl) (fun _ _ _ _ h => h)) (pa_cons (pv 0) (pa_cons (pv 1) pa_nil))))
      (C8.pss_cut (ps_if (pt_cmpR op_notIn_seq (pv 2) (C8.pe_gc (by rfl) T.c_TIMES) (by rfl)) (pss_one (ps_raise rfl (takes_of rfl rfl rfl rfl) (pmk_oex T.eParseError.oex T.eParseError.iC T.eParseError.tI (ok_ParseError T) (hr.mono (by decide)) T.bIParseError .nil pass0 (by rfl) T.eParseError.gC (pa_cons (pv 1) pa_nil)))) pss_nil)
      (pss_one (ps_ret (pe_callTy call_int_str (by rfl) T.m_int PySem.Pv.boot_int (pa_cons (pv 2) pa_nil)))))), ?_⟩
    rcases bnd_some hr0 with ⟨e, h1, rfl⟩ | ⟨x, h1, h2⟩
    · exact ⟨fun _ _ => False, ⟨_, rfl, _, rfl, p, i, ws, _, rfl, hw, h1, q⟩, fun _ _ h => h.elim⟩
    refine ⟨fun σ H1 => H1 = H ∧ σ = [some (.ref p), some (.int (i : Int)), some (.str x)], ⟨_, rfl, _, rfl, p, i, ws, _, rfl, hw, h1, ⟨rfl, rfl⟩⟩, fun σ H1 hM => ?_⟩
    obtain ⟨rfl, rfl⟩ := hM
    refine ⟨fun σ H2 => H2 = H1 ∧ (∃ n, tms x = some n ∧ r = .ok n) ∧ σ = [some (.ref p), some (.int (i : Int)), some (.str x)], ?_, fun σ H2 hM => ?_⟩
    · refine ⟨_, rfl, fa 2002, tmsL.map V.str, rfl, .inr (T.z_TIMES _), rfl, rfl, _, rfl, ?_⟩
      show ite ((!inV (.str x) (tmsL.map V.str)) = true) _ _
      rw [mem_vs]
      cases e : tms x with
      | some n =>
        rw [e] at h2
        refine iteF' (by rw [decide_eq_true (tms_of e).2.1]; rfl) ⟨rfl, ⟨n, rfl, (Option.some.inj h2).symm⟩, rfl⟩
      | none =>
        rw [e] at h2
        cases h2
        have qe : PEr E (fa 4) H1 i := q
        refine iteT' (by rw [decide_eq_false (fun h => tms_in h e)]; rfl) ⟨_, rfl, ?_⟩
        refine ⟨by show 1 ≤ 1000; decide, fun a na => ⟨a, _, .int (i : Int), rfl, T.eParseError.oex, T.nParseError_at, T.eParseError.tag, upd_same, fun dx nd ne => ⟨rfl, dx, _, ?_, upd_same, ?_, ?_⟩⟩⟩
        · rw [upd_ne ne.symm, upd_same]
        · rw [upd_ne ne] at nd
          exact nd
        · have nd' : H1 dx = none := by
            rw [upd_ne ne] at nd
            exact nd
          refine qe dx _ (Same.del na nd' fun b o hb q => ?_) upd_same
          rw [upd_ne (ne_of_none q nd'), upd_ne hb, upd_ne (ne_of_none q nd'), upd_ne hb]
          exact q
    · obtain ⟨rfl, ⟨n, hn, rfl⟩, rfl⟩ := hM
      have ht := tms_of hn
      exact ⟨_, rfl, x, n, rfl, ht.2.2.2, ht.2.2.1, q ht.1⟩
def spChk (C : Addr) : Sp := fun vs H Q E => ∃ (p : Addr) (i : Nat) (y : Str) (ws : List Str) (r : Except Nat Unit), vs = [.ref p, .int (i : Int), .str y] ∧ Wds H p ws ∧ chkR ws i y = some r ∧ Kt r E C H (fun _ => Q .non H)
theorem ok_p_check_word (T : Txt K mg fa fd) : FnOk P w K mg base (L2.CX P w) 4 (fa 54) (fd 54) ["words", "at", "wanted"] (spChk (fa 4)) := by
  refine T.F_p_check_word.okX sc_p_check_word (fun vs H Q E h => ?_) (fun cdv A outer s H vs Q E hr h => ?_)
  · obtain ⟨p, i, y, ws, r, rfl, _⟩ := h
    rfl
  · obtain ⟨p, i, y, ws, r, rfl, hw, hr0, q⟩ := h
    refine ⟨_, (pss_one (ps_if (pt_cmpR op_ne (pe_call (ok_p_word_at T) (hr.mono (by decide)) (by rfl) T.g_p_word_at T.F_p_word_at.kp T.b_p_word_at .nil (passes_call (takes_of rfl rfl rfl rfl) (fun _ _ _ _ h => h)) (pa_cons (pv 0) (pa_cons (pv 1) pa_nil))) (pv 2) (nomark _)) (pss_one (ps_raise rfl (takes_of rfl rfl rfl rfl) (pmk_oex T.eParseError.oex T.eParseError.iC T.eParseError.tI (ok_ParseError T) (hr.mono (by decide)) T.bIParseError .nil pass0 (by rfl) T.eParseError.gC (pa_cons (pv 1) pa_nil)))) pss_nil)), ?_⟩
    rcases bnd_some hr0 with ⟨e, h1, rfl⟩ | ⟨x, h1, h2⟩
    · exact ⟨_, rfl, _, rfl, p, i, ws, _, rfl, hw, h1, q⟩
    refine ⟨_, rfl, _, rfl, p, i, ws, _, rfl, hw, h1, ?_⟩
    refine ⟨_, rfl, rfl, _, rfl, ?_⟩
    by_cases hx : x = y
    · rw [if_pos hx] at h2
      cases h2
      exact iteF' (by rw [hx]; simp) q
    · rw [if_neg hx] at h2
      cases h2
      have qe : PEr E (fa 4) H i := q
      refine iteT' (by simp [hx]) ⟨_, rfl, ?_⟩
      refine ⟨by show 1 ≤ 1000; decide, fun a na => ⟨a, _, .int (i : Int), rfl, T.eParseError.oex, T.nParseError_at, T.eParseError.tag, upd_same, fun dx nd ne => ⟨rfl, dx, _, ?_, upd_same, ?_, ?_⟩⟩⟩
      · rw [upd_ne ne.symm, upd_same]
      · rw [upd_ne ne] at nd
        exact nd
      · have nd' : H dx = none := by
          rw [upd_ne ne] at nd
          exact nd
        refine qe dx _ (Same.del na nd' fun b o hb q => ?_) upd_same
        rw [upd_ne (ne_of_none q nd'), upd_ne hb, upd_ne (ne_of_none q nd'), upd_ne hb]
        exact q
end
section
variable {P : Program} {w : World} {K : PySem.W.Frag} {mg : Str → Option Value} {base : Heap} {fa : Nat → Addr} {fd : Nat → FuncData}
theorem Kt.imp {α : Type} {r : Except Nat α} {E : XK} {C : Addr} {H : Hp} {q q' : α → Prop} (h : Kt r E C H q) (f : ∀ a, q a → q' a) : Kt r E C H q' := by
  cases r with
  | ok a => exact f a h
  | error e => exact h
/-- a program and the index behind it -/
def Bq (p : Addr) (Q : VK) (H : Hp) (a : Bk × Nat) : Prop := ∀ o pv H', Same H H' → H' o = some (.tup [pv, .int (a.2 : Int)]) → Dt p H' pv (.tuple (bkL a.1)) → Q (.ref o) H'
/-- a statement and the index behind it -/
def Sq (p : Addr) (Q : VK) (H : Hp) (a : Bk × Nat) : Prop := ∀ o sv D H', bkL a.1 = [D] → Same H H' → H' o = some (.tup [sv, .int (a.2 : Int)]) → Dt p H' sv D → Q (.ref o) H'
def spSt (C : Addr) (n : Nat) : Sp := fun vs H Q E => ∃ (p : Addr) (i d m : Nat) (ws : List Str) (r : Except Nat (Bk × Nat)), vs = [.ref p, .int (i : Int), .int (d : Int)] ∧ Wds H p ws ∧ m ≤ n ∧ rdS m ws i d = some r ∧ Kt r E C H (Bq p Q H)
def spBr (C : Addr) (n : Nat) : Sp := fun vs H Q E => ∃ (p : Addr) (i d m : Nat) (ws : List Str) (r : Except Nat (Bk × Nat)), vs = [.ref p, .int (i : Int), .int (d : Int)] ∧ Wds H p ws ∧ m ≤ n ∧ bracR (rdS m ws) ws i d = some r ∧ Kt r E C H (Bq p Q H)
def spEi (C : Addr) (n : Nat) : Sp := fun vs H Q E => ∃ (p : Addr) (i d m : Nat) (ws : List Str) (r : Except Nat (Bk × Nat)), vs = [.ref p, .int (i : Int), .int (d : Int)] ∧ Wds H p ws ∧ m ≤ n ∧ eitR (rdS m ws) ws i d = some r ∧ Kt r E C H (Sq p Q H)
def spRe (C : Addr) (n : Nat) : Sp := fun vs H Q E => ∃ (p : Addr) (i d m : Nat) (ws : List Str) (r : Except Nat (Bk × Nat)), vs = [.ref p, .int (i : Int), .int (d : Int)] ∧ Wds H p ws ∧ m ≤ n ∧ repR (rdS m ws) ws i d = some r ∧ Kt r E C H (Sq p Q H)
def spSm (C : Addr) (n : Nat) : Sp := fun vs H Q E => ∃ (p : Addr) (i d m : Nat) (ws : List Str) (r : Except Nat (Bk × Nat)), vs = [.ref p, .int (i : Int), .int (d : Int)] ∧ Wds H p ws ∧ m ≤ n ∧ stmR (rdS m ws) ws i d = some r ∧ Kt r E C H (Sq p Q H)
theorem br_step (T : Txt K mg fa fd) (n : Nat) (G_read_statements : FnOk P w K mg base (L2.CX P w) (4 * n + 5) (fa 59) (fd 59) ["words", "at", "depth"] (spSt (fa 4) n)) :
    FnOk P w K mg base (L2.CX P w) (4 * n + 6) (fa 55) (fd 55) ["words", "at", "depth"] (spBr (fa 4) n) := by
  refine T.F_p_read_braces.okX sc_p_read_braces (fun vs H Q E h => ?_) (fun cdv A outer s H vs Q E hr h => ?_)
  · obtain ⟨p, i, d, m, ws, r, rfl, _⟩ := h
    rfl
  · obtain ⟨p, i, d, m, ws, r, rfl, hw, hm, hr0, q⟩ := h
    refine ⟨_, (C8.pss_cut (ps_expr (pe_call (ok_p_check_word T) (hr.mono (by omega)) (by rfl) T.g_p_check_word T.F_p_check_word.kp T.b_p_check_word .nil (passes_call (takes_of rfl rfl rfl rfl) (fun _ _ _ _ h => h)) (pa_cons (pv 0) (pa_cons (pv 1) (pa_cons pe_str pa_nil)))))
      (C8.pss_cut (ps_if (pt_cmpR op_ge (pv 2) (C8.pe_gc (by rfl) T.c_DEEPEST) (nomark _)) (pss_one (ps_raise rfl (takes_of rfl rfl rfl rfl) (pmk_oex T.eParseError.oex T.eParseError.iC T.eParseError.tI (ok_ParseError T) (hr.mono (by omega)) T.bIParseError .nil pass0 (by rfl) T.eParseError.gC (pa_cons (pv 1) pa_nil)))) pss_nil)
      (C8.pss_cut (ps_asg (pe_call G_read_statements (hr.mono (by omega)) (by rfl) T.g_p_read_statements T.F_p_read_statements.kp T.b_p_read_statements .nil (passes_call (takes_of rfl rfl rfl rfl) (fun _ _ _ _ h => h)) (pa_cons (pv 0) (pa_cons (pe_op op_add (pv 1) pe_int) (pa_cons (pe_op op_add (pv 2) pe_int) pa_nil)))) (pg_tup (by rfl) (pgs_cons (pg_name (i := 3) sc_p_read_braces.nd rfl (.inl rfl)) (pgs_cons (pg_name (i := 1) sc_p_read_braces.nd rfl (.inl rfl)) pgs_nil))))
      (C8.pss_cut (ps_expr (pe_call (ok_p_check_word T) (hr.mono (by omega)) (by rfl) T.g_p_check_word T.F_p_check_word.kp T.b_p_check_word .nil (passes_call (takes_of rfl rfl rfl rfl) (fun _ _ _ _ h => h)) (pa_cons (pv 0) (pa_cons (pv 1) (pa_cons pe_str pa_nil)))))
      (pss_one (ps_ret (pe_tup (pa_cons (pv 3) (pa_cons (pe_op op_add (pv 1) pe_int) pa_nil))))))))), ?_⟩
    rcases bnd_some hr0 with ⟨e, h1, rfl⟩ | ⟨_, h1, h2⟩
    · exact ⟨fun _ _ => False, ⟨_, rfl, _, rfl, p, i, _, ws, _, rfl, hw, h1, q⟩, fun _ _ h => h.elim⟩
    refine ⟨fun σ H1 => H1 = H ∧ σ = [some (.ref p), some (.int (i : Int)), some (.int (d : Int)), none], ⟨_, rfl, _, rfl, p, i, _, ws, _, rfl, hw, h1, ⟨rfl, rfl⟩⟩, fun σ H1 hM => ?_⟩
    obtain ⟨rfl, rfl⟩ := hM
    refine ⟨fun σ H2 => H2 = H1 ∧ ¬ 4 ≤ d ∧ σ = [some (.ref p), some (.int (i : Int)), some (.int (d : Int)), none], ?_, fun σ H2 hM => ?_⟩
    · refine ⟨_, rfl, _, _, rfl, rfl, _, rfl, ?_⟩
      by_cases hd : 4 ≤ d
      · rw [if_pos hd] at h2
        cases h2
        have qe : PEr E (fa 4) H1 i := q
        refine iteT' (decide_eq_true (by omega)) ⟨_, rfl, ?_⟩
        refine ⟨by show 1 ≤ 1000; decide, fun a na => ⟨a, _, .int (i : Int), rfl, T.eParseError.oex, T.nParseError_at, T.eParseError.tag, upd_same, fun dx nd ne => ⟨rfl, dx, _, ?_, upd_same, ?_, ?_⟩⟩⟩
        · rw [upd_ne ne.symm, upd_same]
        · rw [upd_ne ne] at nd
          exact nd
        · have nd' : H1 dx = none := by
            rw [upd_ne ne] at nd
            exact nd
          refine qe dx _ (Same.del na nd' fun b o hb q => ?_) upd_same
          rw [upd_ne (ne_of_none q nd'), upd_ne hb, upd_ne (ne_of_none q nd'), upd_ne hb]
          exact q
      · exact iteF' (decide_eq_false (by omega)) ⟨rfl, hd, rfl⟩
    obtain ⟨rfl, hd, rfl⟩ := hM
    rw [if_neg hd] at h2
    rcases bnd_some h2 with ⟨e, h3, rfl⟩ | ⟨a, h3, h4⟩
    · exact ⟨fun _ _ => False, ⟨_, rfl, _, rfl, _, _, rfl, rfl, _, rfl, _, _, rfl, rfl, p, i + 1, d + 1, m, ws, _, rfl, hw, hm, h3, q⟩, fun _ _ h => h.elim⟩
    refine ⟨fun σ H3 => Same H2 H3 ∧ ∃ pv, Dt p H3 pv (.tuple (bkL a.1)) ∧ σ = [some (.ref p), some (.int (a.2 : Int)), some (.int (d : Int)), some pv], ?_, fun σ H3 hM => ?_⟩
    · refine ⟨_, rfl, _, rfl, _, _, rfl, rfl, _, rfl, _, _, rfl, rfl, p, i + 1, d + 1, m, ws, _, rfl, hw, hm, h3, fun o pv H3 s3 ho hp => ?_⟩
      exact ⟨o, _, rfl, SqT.of ho, rfl, _, _, rfl, _, _, rfl, rfl, s3, pv, hp, rfl⟩
    obtain ⟨s3, pv, hp, rfl⟩ := hM
    have hw3 := hw.same s3
    rcases bnd_some h4 with ⟨e, h5, rfl⟩ | ⟨_, h5, h6⟩
    · have q : PEr E (fa 4) H2 e := q
      exact ⟨fun _ _ => False, ⟨_, rfl, _, rfl, p, a.2, _, ws, _, rfl, hw3, h5, q.same s3⟩, fun _ _ h => h.elim⟩
    cases h6
    have q : Bq p Q H2 (a.1, a.2 + 1) := q
    refine ⟨fun σ H4 => H4 = H3 ∧ σ = [some (.ref p), some (.int (a.2 : Int)), some (.int (d : Int)), some pv], ⟨_, rfl, _, rfl, p, a.2, _, ws, _, rfl, hw3, h5, ⟨rfl, rfl⟩⟩, fun σ H4 hM => ?_⟩
    obtain ⟨rfl, rfl⟩ := hM
    refine ⟨_, rfl, _, rfl, _, _, rfl, rfl, two_line, fun o no => ?_⟩
    have so := same_upd (o := HO.tup [pv, .int ((a.2 : Int) + 1)]) no
    exact q o pv _ (s3.trans so) upd_same (hp.same so)
theorem ei_step (T : Txt K mg fa fd) (n : Nat) (G_read_braces : FnOk P w K mg base (L2.CX P w) (4 * n + 6) (fa 55) (fd 55) ["words", "at", "depth"] (spBr (fa 4) n)) :
    FnOk P w K mg base (L2.CX P w) (4 * n + 7) (fa 56) (fd 56) ["words", "at", "depth"] (spEi (fa 4) n) := by
  refine T.F_p_read_either.okX sc_p_read_either (fun vs H Q E h => ?_) (fun cdv A outer s H vs Q E hr h => ?_)
  · obtain ⟨p, i, d, m, ws, r, rfl, _⟩ := h
    rfl
  · obtain ⟨p, i, d, m, ws, r, rfl, hw, hm, hr0, q⟩ := h
    refine ⟨_, (C8.pss_cut (ps_asg (pe_call G_read_braces (hr.mono (by omega)) (by rfl) T.g_p_read_braces T.F_p_read_braces.kp T.b_p_read_braces .nil (passes_call (takes_of rfl rfl rfl rfl) (fun _ _ _ _ h => h)) (pa_cons (pv 0) (pa_cons (pe_op op_add (pv 1) pe_int) (pa_cons (pv 2) pa_nil)))) (pg_tup (by rfl) (pgs_cons (pg_name (i := 3) sc_p_read_either.nd rfl (.inl rfl)) (pgs_cons (pg_name (i := 1) sc_p_read_either.nd rfl (.inl rfl)) pgs_nil))))
      (C8.pss_cut (ps_expr (pe_call (ok_p_check_word T) (hr.mono (by omega)) (by rfl) T.g_p_check_word T.F_p_check_word.kp T.b_p_check_word .nil (passes_call (takes_of rfl rfl rfl rfl) (fun _ _ _ _ h => h)) (pa_cons (pv 0) (pa_cons (pv 1) (pa_cons pe_str pa_nil)))))
      (C8.pss_cut (ps_asg (pe_call G_read_braces (hr.mono (by omega)) (by rfl) T.g_p_read_braces T.F_p_read_braces.kp T.b_p_read_braces .nil (passes_call (takes_of rfl rfl rfl rfl) (fun _ _ _ _ h => h)) (pa_cons (pv 0) (pa_cons (pe_op op_add (pv 1) pe_int) (pa_cons (pv 2) pa_nil)))) (pg_tup (by rfl) (pgs_cons (pg_name (i := 4) sc_p_read_either.nd rfl (.inl rfl)) (pgs_cons (pg_name (i := 1) sc_p_read_either.nd rfl (.inl rfl)) pgs_nil))))
      (pss_one (ps_ret (pe_tup (pa_cons (pe_tup (pa_cons pe_str (pa_cons (pv 3) (pa_cons (pv 4) pa_nil)))) (pa_cons (pv 1) pa_nil)))))))), ?_⟩
    rcases bnd_some hr0 with ⟨e, h1, rfl⟩ | ⟨a, h1, h2⟩
    · exact ⟨fun _ _ => False, ⟨_, rfl, _, rfl, _, _, rfl, rfl, _, rfl, p, i + 1, d, m, ws, _, rfl, hw, hm, h1, q⟩, fun _ _ h => h.elim⟩
    refine ⟨fun σ H1 => Same H H1 ∧ ∃ pv, Dt p H1 pv (.tuple (bkL a.1)) ∧ σ = [some (.ref p), some (.int (a.2 : Int)), some (.int (d : Int)), some pv, none], ?_, fun σ H1 hM => ?_⟩
    · refine ⟨_, rfl, _, rfl, _, _, rfl, rfl, _, rfl, p, i + 1, d, m, ws, _, rfl, hw, hm, h1, fun o pv H3 s3 ho hp => ?_⟩
      exact ⟨o, _, rfl, SqT.of ho, rfl, _, _, rfl, _, _, rfl, rfl, s3, pv, hp, rfl⟩
    obtain ⟨s1, pv, hp, rfl⟩ := hM
    have hw1 := hw.same s1
    rcases bnd_some h2 with ⟨e, h3, rfl⟩ | ⟨_, h3, h4⟩
    · have q : PEr E (fa 4) H e := q
      exact ⟨fun _ _ => False, ⟨_, rfl, _, rfl, p, a.2, _, ws, _, rfl, hw1, h3, q.same s1⟩, fun _ _ h => h.elim⟩
    refine ⟨fun σ H2 => H2 = H1 ∧ σ = [some (.ref p), some (.int (a.2 : Int)), some (.int (d : Int)), some pv, none], ⟨_, rfl, _, rfl, p, a.2, _, ws, _, rfl, hw1, h3, ⟨rfl, rfl⟩⟩, fun σ H2 hM => ?_⟩
    obtain ⟨rfl, rfl⟩ := hM
    rcases bnd_some h4 with ⟨e, h5, rfl⟩ | ⟨b, h5, h6⟩
    · have q : PEr E (fa 4) H e := q
      exact ⟨fun _ _ => False, ⟨_, rfl, _, rfl, _, _, rfl, rfl, _, rfl, p, a.2 + 1, d, m, ws, _, rfl, hw1, hm, h5, q.same s1⟩, fun _ _ h => h.elim⟩
    refine ⟨fun σ H3 => Same H2 H3 ∧ ∃ qv, Dt p H3 qv (.tuple (bkL b.1)) ∧ σ = [some (.ref p), some (.int (b.2 : Int)), some (.int (d : Int)), some pv, some qv], ?_, fun σ H3 hM => ?_⟩
    · refine ⟨_, rfl, _, rfl, _, _, rfl, rfl, _, rfl, p, a.2 + 1, d, m, ws, _, rfl, hw1, hm, h5, fun o qv H3 s3 ho hq => ?_⟩
      exact ⟨o, _, rfl, SqT.of ho, rfl, _, _, rfl, _, _, rfl, rfl, s3, qv, hq, rfl⟩
    obtain ⟨s3, qv, hq, rfl⟩ := hM
    cases h6
    have q : Sq p Q H (.eit a.1 b.1 .nil, b.2) := q
    refine ⟨_, rfl, _, rfl, small_line (by show 3 ≤ 1000; decide), fun o no => ?_⟩
    obtain ⟨so, dO⟩ := dnewT (z := p) no (.cons (.str (Str.ofString "either") (by decide +kernel)) (.cons (hp.same s3) (.cons hq .nil)))
    refine ⟨_, rfl, two_line, fun o2 no2 => ?_⟩
    have s4 := same_upd (o := HO.tup [V.ref o, .int (b.2 : Int)]) no2
    exact q o2 (.ref o) _ _ rfl (s1.trans (s3.trans (so.trans s4))) upd_same (dO.same s4)
theorem re_step (T : Txt K mg fa fd) (n : Nat) (G_read_braces : FnOk P w K mg base (L2.CX P w) (4 * n + 6) (fa 55) (fd 55) ["words", "at", "depth"] (spBr (fa 4) n)) :
    FnOk P w K mg base (L2.CX P w) (4 * n + 7) (fa 57) (fd 57) ["words", "at", "depth"] (spRe (fa 4) n) := by
  refine T.F_p_read_repeat.okX sc_p_read_repeat (fun vs H Q E h => ?_) (fun cdv A outer s H vs Q E hr h => ?_)
  · obtain ⟨p, i, d, m, ws, r, rfl, _⟩ := h
    rfl
  · obtain ⟨p, i, d, m, ws, r, rfl, hw, hm, hr0, q⟩ := h
    refine ⟨_, (C8.pss_cut (ps_set (i := 3) sc_p_read_repeat.nd rfl (.inl rfl) (pe_call (ok_p_times_at T) (hr.mono (by omega)) (by rfl) T.g_p_times_at T.F_p_times_at.kp T.b_p_times_at .nil (passes_call (takes_of rfl rfl rfl rfl) (fun _ _ _ _ h => h)) (pa_cons (pv 0) (pa_cons (pe_op op_add (pv 1) pe_int) pa_nil))))
      (C8.pss_cut (ps_asg (pe_call G_read_braces (hr.mono (by omega)) (by rfl) T.g_p_read_braces T.F_p_read_braces.kp T.b_p_read_braces .nil (passes_call (takes_of rfl rfl rfl rfl) (fun _ _ _ _ h => h)) (pa_cons (pv 0) (pa_cons (pe_op op_add (pv 1) pe_int) (pa_cons (pv 2) pa_nil)))) (pg_tup (by rfl) (pgs_cons (pg_name (i := 4) sc_p_read_repeat.nd rfl (.inl rfl)) (pgs_cons (pg_name (i := 1) sc_p_read_repeat.nd rfl (.inl rfl)) pgs_nil))))
      (pss_one (ps_ret (pe_tup (pa_cons (pe_tup (pa_cons pe_str (pa_cons (pv 3) (pa_cons (pv 4) pa_nil)))) (pa_cons (pv 1) pa_nil))))))), ?_⟩
    rcases bnd_some hr0 with ⟨e, h1, rfl⟩ | ⟨k, h1, h2⟩
    · exact ⟨fun _ _ => False, ⟨_, rfl, _, rfl, _, _, rfl, rfl, p, i + 1, ws, _, rfl, hw, h1, q⟩, fun _ _ h => h.elim⟩
    refine ⟨fun σ H1 => H1 = H ∧ k ≤ 4 ∧ σ = [some (.ref p), some (.int (i : Int)), some (.int (d : Int)), some (.int (k : Int)), none], ⟨_, rfl, _, rfl, _, _, rfl, rfl, p, i + 1, ws, _, rfl, hw, h1, fun k4 => ⟨rfl, k4, rfl⟩⟩, fun σ H1 hM => ?_⟩
    obtain ⟨rfl, k4, rfl⟩ := hM
    rcases bnd_some h2 with ⟨e, h5, rfl⟩ | ⟨b, h5, h6⟩
    · exact ⟨fun _ _ => False, ⟨_, rfl, _, rfl, _, _, rfl, rfl, _, rfl, p, i + 2, d, m, ws, _, rfl, hw, hm, h5, q⟩, fun _ _ h => h.elim⟩
    refine ⟨fun σ H3 => Same H1 H3 ∧ ∃ qv, Dt p H3 qv (.tuple (bkL b.1)) ∧ σ = [some (.ref p), some (.int (b.2 : Int)), some (.int (d : Int)), some (.int (k : Int)), some qv], ?_, fun σ H3 hM => ?_⟩
    · refine ⟨_, rfl, _, rfl, _, _, rfl, rfl, _, rfl, p, i + 2, d, m, ws, _, rfl, hw, hm, h5, fun o qv H3 s3 ho hq => ?_⟩
      exact ⟨o, _, rfl, SqT.of ho, rfl, _, _, rfl, _, _, rfl, rfl, s3, qv, hq, rfl⟩
    obtain ⟨s3, qv, hq, rfl⟩ := hM
    cases h6
    have q : Sq p Q H1 (.rep k b.1 .nil, b.2) := q
    refine ⟨_, rfl, _, rfl, small_line (by show 3 ≤ 1000; decide), fun o no => ?_⟩
    obtain ⟨so, dO⟩ := dnewT (z := p) no (.cons (.str (Str.ofString "repeat") (by decide +kernel)) (.cons (.int (k : Int) (Nat.lt_of_le_of_lt (Nat.log2_le_self _) (by omega))) (.cons hq .nil)))
    refine ⟨_, rfl, two_line, fun o2 no2 => ?_⟩
    have s4 := same_upd (o := HO.tup [V.ref o, .int (b.2 : Int)]) no2
    exact q o2 (.ref o) _ _ rfl (s3.trans (so.trans s4)) upd_same (dO.same s4)
end
section
variable {P : Program} {w : World} {K : PySem.W.Frag} {mg : Str → Option Value} {base : Heap} {fa : Nat → Addr} {fd : Nat → FuncData}
theorem sm_step (T : Txt K mg fa fd) (n : Nat) (G_read_either : FnOk P w K mg base (L2.CX P w) (4 * n + 7) (fa 56) (fd 56) ["words", "at", "depth"] (spEi (fa 4) n))
    (G_read_repeat : FnOk P w K mg base (L2.CX P w) (4 * n + 7) (fa 57) (fd 57) ["words", "at", "depth"] (spRe (fa 4) n)) :
    FnOk P w K mg base (L2.CX P w) (4 * n + 8) (fa 58) (fd 58) ["words", "at", "depth"] (spSm (fa 4) n) := by
  refine T.F_p_read_statement.okX sc_p_read_statement (fun vs H Q E h => ?_) (fun cdv A outer s H vs Q E hr h => ?_)
  · obtain ⟨p, i, d, m, ws, r, rfl, _⟩ := h
    rfl
  · obtain ⟨p, i, d, m, ws, r, rfl, hw, hm, hr0, q⟩ := h
    refine ⟨_, (C8.pss_cut (ps_set (i := 3) sc_p_read_statement.nd rfl (.inl rfl) (pe_ix ix_list (pv 0) (pv 1) (fun _ _ => rfl)))
      (C8.pss_cut (ps_if (pt_cmpR op_eq (pv 3) pe_str (nomark _)) (pss_one ps_never) pss_nil)
      (C8.pss_cut (ps_if (pt_cmpR op_eq (pv 3) pe_str (nomark _)) (pss_one (ps_ret (pe_tup (pa_cons (pe_tup (pa_cons pe_str (pa_cons (pe_call (ok_p_name_at T) (hr.mono (by omega)) (by rfl) T.g_p_name_at T.F_p_name_at.kp T.b_p_name_at .nil (passes_call (takes_of rfl rfl rfl rfl) (fun _ _ _ _ h => h)) (pa_cons (pv 0) (pa_cons (pe_op op_add (pv 1) pe_int) pa_nil))) pa_nil))) (pa_cons (pe_op op_add (pv 1) pe_int) pa_nil))))) pss_nil)
      (C8.pss_cut (ps_if (pt_cmpR op_eq (pv 3) pe_str (nomark _)) (pss_one ps_never) pss_nil)
      (C8.pss_cut (ps_if (pt_cmpR op_eq (pv 3) pe_str (nomark _)) (pss_one (ps_ret (pe_call G_read_either (hr.mono (by omega)) (by rfl) T.g_p_read_either T.F_p_read_either.kp T.b_p_read_either .nil (passes_call (takes_of rfl rfl rfl rfl) (fun _ _ _ _ h => h)) (pa_cons (pv 0) (pa_cons (pv 1) (pa_cons (pv 2) pa_nil)))))) pss_nil)
      (pss_one (ps_ret (pe_call G_read_repeat (hr.mono (by omega)) (by rfl) T.g_p_read_repeat T.F_p_read_repeat.kp T.b_p_read_repeat .nil (passes_call (takes_of rfl rfl rfl rfl) (fun _ _ _ _ h => h)) (pa_cons (pv 0) (pa_cons (pv 1) (pa_cons (pv 2) pa_nil))))))))))), ?_⟩
    unfold stmR at hr0
    cases ex : ws[i]? with
    | none =>
      rw [ex] at hr0
      cases hr0
    | some x =>
    rw [ex] at hr0
    dsimp only at hr0
    refine ⟨fun σ H1 => H1 = H ∧ σ = [some (.ref p), some (.int (i : Int)), some (.int (d : Int)), some (.str x)], ⟨_, rfl, _, rfl, p, _, _, _, rfl, rfl, SqL.of hw.h, at_of (j := i) (by omega) (hw.get ex), rfl, rfl⟩, fun σ H1 hM => ?_⟩
    obtain ⟨rfl, rfl⟩ := hM
    have st : ∀ y : Str, decide (V.str x = V.str y) = true → x = y := fun y h => V.str.inj (of_decide_eq_true h)
    -- set
    refine ⟨fun σ H2 => H2 = H1 ∧ σ = [some (.ref p), some (.int (i : Int)), some (.int (d : Int)), some (.str x)], ?_, fun σ H2 hM => ?_⟩
    · refine ⟨_, rfl, rfl, _, rfl, ite2 (fun e => ?_) (fun e => ⟨rfl, rfl⟩)⟩
      have e := st _ e
      rw [e, if_neg (by decide +kernel), if_neg (by decide +kernel), if_neg (by decide +kernel)] at hr0
      cases hr0
    obtain ⟨rfl, rfl⟩ := hM
    -- any
    refine ⟨fun σ H3 => H3 = H2 ∧ x ≠ Str.ofString "any" ∧ σ = [some (.ref p), some (.int (i : Int)), some (.int (d : Int)), some (.str x)], ?_, fun σ H3 hM => ?_⟩
    · refine ⟨_, rfl, rfl, _, rfl, ite2 (fun e => ?_) (fun e => ⟨rfl, fun z => e (by rw [z]; exact decide_eq_true rfl), rfl⟩)⟩
      have e := st _ e
      rw [if_pos e] at hr0
      rcases bnd_some hr0 with ⟨e2, h1, rfl⟩ | ⟨y, h1, h2⟩
      · exact ⟨_, rfl, _, rfl, _, _, rfl, rfl, p, i + 1, ws, _, rfl, hw, h1, q⟩
      · cases h2
        have q : Sq p Q H2 (.any y .nil, i + 2) := q
        refine ⟨_, rfl, _, rfl, _, _, rfl, rfl, p, i + 1, ws, _, rfl, hw, h1, fun yl => ⟨two_line, fun o no => ?_⟩⟩
        obtain ⟨so, dO⟩ := dnewT (z := p) no (.cons (.str (Str.ofString "any") (by decide +kernel)) (.cons (.str y yl) .nil))
        refine ⟨_, rfl, _, _, rfl, rfl, two_line, fun o2 no2 => ?_⟩
        have s4 := same_upd (o := HO.tup [V.ref o, .int ((i : Int) + 2)]) no2
        exact q o2 (.ref o) _ _ rfl (so.trans s4) upd_same (dO.same s4)
    obtain ⟨rfl, na, rfl⟩ := hM
    rw [if_neg na] at hr0
    -- check
    refine ⟨fun σ H4 => H4 = H3 ∧ σ = [some (.ref p), some (.int (i : Int)), some (.int (d : Int)), some (.str x)], ?_, fun σ H4 hM => ?_⟩
    · refine ⟨_, rfl, rfl, _, rfl, ite2 (fun e => ?_) (fun e => ⟨rfl, rfl⟩)⟩
      have e := st _ e
      rw [e, if_neg (by decide +kernel), if_neg (by decide +kernel)] at hr0
      cases hr0
    obtain ⟨rfl, rfl⟩ := hM
    -- either
    refine ⟨fun σ H5 => H5 = H4 ∧ x ≠ Str.ofString "either" ∧ σ = [some (.ref p), some (.int (i : Int)), some (.int (d : Int)), some (.str x)], ?_, fun σ H5 hM => ?_⟩
    · refine ⟨_, rfl, rfl, _, rfl, ite2 (fun e => ?_) (fun e => ⟨rfl, fun z => e (by rw [z]; exact decide_eq_true rfl), rfl⟩)⟩
      have e := st _ e
      rw [if_pos e] at hr0
      exact ⟨_, rfl, _, rfl, _, rfl, p, i, d, m, ws, r, rfl, hw, hm, hr0, q⟩
    obtain ⟨rfl, ne, rfl⟩ := hM
    rw [if_neg ne] at hr0
    by_cases e : x = Str.ofString "repeat"
    · rw [if_pos e] at hr0
      exact ⟨_, rfl, _, rfl, _, rfl, p, i, d, m, ws, r, rfl, hw, hm, hr0, q⟩
    · rw [if_neg e] at hr0
      cases hr0
theorem appB_assoc : ∀ a b c : Bk, appB (appB a b) c = appB a (appB b c)
  | .nil, _, _ => rfl
  | .any x r, b, c => congrArg (Bk.any x) (appB_assoc r b c)
  | .eit p q r, b, c => congrArg (Bk.eit p q) (appB_assoc r b c)
  | .rep n p r, b, c => congrArg (Bk.rep n p) (appB_assoc r b c)
theorem st_step (T : Txt K mg fa fd) (n : Nat) (hn : n ≤ 900) (G_read_statement : FnOk P w K mg base (L2.CX P w) (4 * n + 8) (fa 58) (fd 58) ["words", "at", "depth"] (spSm (fa 4) n)) :
    FnOk P w K mg base (L2.CX P w) (4 * n + 9) (fa 59) (fd 59) ["words", "at", "depth"] (spSt (fa 4) (n + 1)) := by
  refine T.F_p_read_statements.okX sc_p_read_statements (fun vs H Q E h => ?_) (fun cdv A outer s H vs Q E hr h => ?_)
  · obtain ⟨p, i, d, m, ws, r, rfl, _⟩ := h
    rfl
  · obtain ⟨p, i, d, m, ws, r, rfl, hw, hm, hr0, q⟩ := h
    refine ⟨_, (C8.pss_cut (ps_set (i := 3) sc_p_read_statements.nd rfl (.inl rfl) (pe_lst pa_nil))
      (C8.pss_cut (ps_while (passes_of rfl) (PW.pt (pw_and (pt_cmpR op_lt (pv 1) (pe_callB call_len_seq (by rfl) T.m_len PySem.boot_len (pa_cons (pv 0) pa_nil)) (nomark _)) (pw_and1 (pt_cmpR op_in_seq (pe_ix ix_list (pv 0) (pv 1) (fun _ _ => rfl)) (C8.pe_gc (by rfl) T.c_STATEMENTS) (by rfl))))) (C8.pss_cut (ps_asg (pe_call G_read_statement (hr.mono (by omega)) (by rfl) T.g_p_read_statement T.F_p_read_statement.kp T.b_p_read_statement .nil (passes_call (takes_of rfl rfl rfl rfl) (fun _ _ _ _ h => h)) (pa_cons (pv 0) (pa_cons (pv 1) (pa_cons (pv 2) pa_nil)))) (pg_tup (by rfl) (pgs_cons (pg_name (i := 4) sc_p_read_statements.nd rfl (.inl rfl)) (pgs_cons (pg_name (i := 1) sc_p_read_statements.nd rfl (.inl rfl)) pgs_nil))))
      (pss_one (ps_expr (pe_bm PySem.F.plainAttrs_list PySem.F.slot_list_append PySem.F.type_list_append mt_append (pv 3) (pa_cons (pv 4) pa_nil))))))
      (pss_one (ps_ret (pe_tup (pa_cons (pe_callTy call_tuple_of (by rfl) T.m_tuple (by decide +kernel) (pa_cons (pv 3) pa_nil)) (pa_cons (pv 1) pa_nil))))))), ?_⟩
    refine ⟨fun σ H1 => ∃ L, H L = none ∧ H1 = upd H L (.lst []) ∧ σ = [some (.ref p), some (.int (i : Int)), some (.int (d : Int)), some (.ref L), none], ?_, fun σ H1 hM => ?_⟩
    · exact ⟨Nat.zero_le _, fun L nL => ⟨L, nL, rfl, rfl⟩⟩
    obtain ⟨L, nL, rfl, rfl⟩ := hM
    have npL : p ≠ L := ne_of_none hw.h nL
    have back : ∀ {G G' : Hp} {vs : List V}, Same H G → Same G G' → Same H (upd G' L (.lst vs)) := fun s s' b o e => by
      rw [upd_ne (ne_of_none e nL)]
      exact s' _ _ (s _ _ e)
    refine ⟨fun σ G => Same H G ∧ ∃ (a : Bk) (j : Nat) (vs : List V) (y4 : Option V), r = .ok (a, j) ∧ G L = some (.lst vs) ∧ DtAll p G vs (bkL a) ∧ σ = [some (.ref p), some (.int (j : Int)), some (.int (d : Int)), some (.ref L), y4], ?_, fun σ G hM => ?_⟩
    · refine ⟨fun k σ G => Same H G ∧ ∃ (a : Bk) (j : Nat) (vs : List V) (y4 : Option V) (r' : Except Nat (Bk × Nat)), k ≤ m ∧ rdS k ws j d = some r' ∧ G L = some (.lst vs) ∧ DtAll p G vs (bkL a) ∧ vs.length + k ≤ m ∧ (∀ b j', r' = .ok (b, j') → r = .ok (appB a b, j')) ∧ (∀ e, r' = .error e → r = .error e) ∧ σ = [some (.ref p), some (.int (j : Int)), some (.int (d : Int)), some (.ref L), y4],
        ⟨m, same_upd nL, .nil, i, [], _, r, Nat.le_refl _, hr0, upd_same, .nil, Nat.le_of_eq (Nat.zero_add m), fun _ _ h => h, fun _ h => h, rfl⟩, fun k σ G hW => ?_⟩
      obtain ⟨sG, a, j, vs, y4, r', hk, hr1, hL, hvs, hvl, ho, he, rfl⟩ := hW
      have hwG := hw.same sG
      cases k with
      | zero => cases hr1
      | succ k =>
      unfold rdS at hr1
      refine ⟨_, rfl, _, rfl, p, _, rfl, .inl (SqL.of hwG.h), _, _, rfl, rfl, _, rfl, ?_⟩
      rw [List.length_map]
      cases ex : ws[j]? with
      | none =>
        have hl := List.getElem?_eq_none_iff.mp ex
        rw [ex] at hr1
        have hr1 := Option.some.inj hr1
        refine iteF' (decide_eq_false (by omega)) ?_
        have e := ho .nil j hr1.symm
        exact ⟨sG, _, j, vs, y4, e, hL, by rw [bkL_app]; simpa [bkL] using hvs, rfl⟩
      | some x =>
        have hl := (List.getElem?_eq_some_iff.mp ex).1
        rw [ex] at hr1
        refine iteT' (decide_eq_true (by omega)) ?_
        refine ⟨_, rfl, _, rfl, p, _, _, _, rfl, rfl, SqL.of hwG.h, at_of (j := j) (by omega) (hwG.get ex), fa 2001, stsL.map V.str, rfl, .inr (T.z_STATEMENTS _), rfl, rfl, _, rfl, ?_⟩
        show ite (inV (.str x) (stsL.map V.str) = true) _ _
        rw [mem_vs]
        by_cases hx : x ∈ stsL
        · have hr1 : bnd (stmR (rdS k ws) ws j d) (fun a => bnd (rdS k ws a.2 d) fun b => some (.ok (appB a.1 b.1, b.2))) = some r' := by
            rw [if_pos (show (Option.some x).any (fun x => decide (x ∈ stsL)) = true from decide_eq_true hx)] at hr1
            exact hr1
          refine iteT' (decide_eq_true hx) ⟨_, fun _ _ h => h, ?_⟩
          rcases bnd_some hr1 with ⟨e, h1, rfl⟩ | ⟨b, h1, h2⟩
          · have er := he e rfl
            subst er
            have q : PEr E (fa 4) H e := q
            exact ⟨fun _ _ => False, ⟨_, rfl, _, rfl, _, rfl, p, j, d, k, ws, _, rfl, hwG, by omega, h1, q.same sG⟩, fun _ _ h => h.elim⟩
          obtain ⟨rr, h3, ho', he'⟩ : ∃ rr, rdS k ws b.2 d = some rr ∧ (∀ c j', rr = .ok (c, j') → r' = .ok (appB b.1 c, j')) ∧ (∀ e, rr = .error e → r' = .error e) := by
            rcases bnd_some h2 with ⟨e, h3, rfl⟩ | ⟨c, h3, h4⟩
            · exact ⟨_, h3, fun _ _ h => (by cases h), fun _ h => h⟩
            · cases h4
              exact ⟨_, h3, fun _ _ h => (by cases h; rfl), fun _ h => (by cases h)⟩
          refine ⟨fun σ G2 => Same G G2 ∧ ∃ sv D, bkL b.1 = [D] ∧ Dt p G2 sv D ∧ σ = [some (.ref p), some (.int (b.2 : Int)), some (.int (d : Int)), some (.ref L), some sv], ?_, fun σ G2 hM => ?_⟩
          · refine ⟨_, rfl, _, rfl, _, rfl, p, j, d, k, ws, _, rfl, hwG, by omega, h1, fun o sv D G2 eD s2 ho2 hsv => ?_⟩
            exact ⟨o, _, rfl, SqT.of ho2, rfl, _, _, rfl, _, _, rfl, rfl, s2, sv, D, eD, hsv, rfl⟩
          obtain ⟨s2, sv, D, eD, hsv, rfl⟩ := hM
          have hL2 := s2 _ _ hL
          have n1 := noLs_bk b.1
          rw [eD] at n1
          have n1 : (noL D && true) = true := n1
          rw [Bool.and_true] at n1
          refine ⟨_, rfl, .inl ⟨rfl, _, SqL.of hL2⟩, _, rfl, L, vs, sv, rfl, rfl, hL2, small1000 (by omega), k, by omega, back sG s2, appB a b.1, b.2, vs ++ [sv], _, rr, by omega, h3, upd_same, ?_, by rw [List.length_append, List.length_singleton]; omega, fun c j' h => ?_, fun e h => he e (he' e h), rfl⟩
          · rw [bkL_app, eD]
            exact DtAll.snoc ((hvs.same s2).tups (TT.upd hL2) _ _ (noLs_bk a)) (hsv.tups (TT.upd hL2) _ _ n1)
          · rw [appB_assoc]
            exact ho _ _ (ho' c j' h)
        · have hr1 : r' = .ok (.nil, j) := by
            rw [if_neg (show ¬ (Option.some x).any (fun x => decide (x ∈ stsL)) = true from fun h => hx (of_decide_eq_true h))] at hr1
            exact (Option.some.inj hr1).symm
          refine iteF' (decide_eq_false hx) ?_
          have e := ho .nil j hr1
          exact ⟨sG, _, j, vs, y4, e, hL, by rw [bkL_app]; simpa [bkL] using hvs, rfl⟩
    obtain ⟨sG, a, j, vs, y4, rfl, hL, hvs, rfl⟩ := hM
    have q : Bq p Q H (a, j) := q
    refine ⟨_, rfl, L, vs, rfl, .inl ⟨SqL.of hL, fun t nt => ?_⟩⟩
    obtain ⟨st, dt⟩ := dnewT (z := p) nt hvs
    refine ⟨_, rfl, two_line, fun o no => ?_⟩
    have so := same_upd (o := HO.tup [V.ref t, .int (j : Int)]) no
    exact q o (.ref t) _ (sG.trans (st.trans so)) upd_same (dt.same so)
end
section
variable {P : Program} {w : World} {K : PySem.W.Frag} {mg : Str → Option Value} {base : Heap} {fa : Nat → Addr} {fd : Nat → FuncData}
theorem st_all (T : Txt K mg fa fd) : ∀ n, n ≤ 900 → FnOk P w K mg base (L2.CX P w) (4 * n + 5) (fa 59) (fd 59) ["words", "at", "depth"] (spSt (fa 4) n)
  | 0, _ => T.F_p_read_statements.okX sc_p_read_statements (fun vs H Q E h => by
      obtain ⟨p, i, d, m, ws, r, rfl, _⟩ := h
      rfl) (fun cdv A outer s H vs Q E hr h => by
      obtain ⟨p, i, d, m, ws, r, rfl, hw, hm, hr0, q⟩ := h
      obtain rfl : m = 0 := by omega
      cases hr0)
  | n + 1, hn =>
    have G := br_step T n (st_all T n (by omega))
    st_step T n (by omega) (sm_step T n (ei_step T n G) (re_step T n G))
theorem ok_p_read_statements (T : Txt K mg fa fd) : FnOk P w K mg base (L2.CX P w) 53 (fa 59) (fd 59) ["words", "at", "depth"] (spSt (fa 4) 12) := st_all T 12 (by decide)
def wdsT (t : Str) : List Str := if t = Str.ofString "" then [] else Txt.split t (Str.ofString " ")
def TxtOk (t : Str) : Prop := t.length ≤ 1000 ∧ (wdsT t).length ≤ 1000 ∧ ∀ x ∈ wdsT t, x.length ≤ 1000
def spRead (C : Addr) : Sp := fun vs H Q E => ∃ (t : Str) (r : Except Nat Bk), vs = [.str t] ∧ TxtOk t ∧ rdP (wdsT t) = some r ∧ Kt r E C H (fun a => ∀ z pv H', Same H H' → Dt z H' pv (.tuple (bkL a)) → Q pv H')
theorem ok_p_read_program (T : Txt K mg fa fd) : FnOk P w K mg base (L2.CX P w) 55 (fa 60) (fd 60) ["text"] (spRead (fa 4)) := by
  refine T.F_p_read_program.okX sc_p_read_program (fun vs H Q E h => ?_) (fun cdv A outer s H vs Q E hr h => ?_)
  · obtain ⟨t, r, rfl, _⟩ := h
    rfl
  · obtain ⟨t, r, rfl, ⟨tl, wl, wx⟩, hr0, q⟩ := h
    refine ⟨_, (C8.pss_cut (ps_set (i := 1) sc_p_read_program.nd rfl (.inl rfl) (pe_ifExp (pt_cmpR op_ne (pv 0) pe_str (nomark _)) (pe_m1 PySem.F.slot_str_split PySem.F.type_str_split mt_split (pv 0) pe_str (by rfl) (by rfl) (by rfl)) (pe_lst pa_nil)))
      (C8.pss_cut (ps_asg (pe_call (ok_p_read_statements T) (hr.mono (by decide)) (by rfl) T.g_p_read_statements T.F_p_read_statements.kp T.b_p_read_statements .nil (passes_call (takes_of rfl rfl rfl rfl) (fun _ _ _ _ h => h)) (pa_cons (pv 1) (pa_cons pe_int (pa_cons pe_int pa_nil)))) (pg_tup (by rfl) (pgs_cons (pg_name (i := 2) sc_p_read_program.nd rfl (.inl rfl)) (pgs_cons (pg_name (i := 3) sc_p_read_program.nd rfl (.inl rfl)) pgs_nil))))
      (C8.pss_cut (ps_if (pt_cmpR op_lt (pv 3) (pe_callB call_len_seq (by rfl) T.m_len PySem.boot_len (pa_cons (pv 1) pa_nil)) (nomark _)) (pss_one (ps_raise rfl (takes_of rfl rfl rfl rfl) (pmk_oex T.eParseError.oex T.eParseError.iC T.eParseError.tI (ok_ParseError T) (hr.mono (by decide)) T.bIParseError .nil pass0 (by rfl) T.eParseError.gC (pa_cons (pv 3) pa_nil)))) pss_nil)
      (pss_one (ps_ret (pv 2)))))), ?_⟩
    refine ⟨fun σ G => Same H G ∧ ∃ p, Wds G p (wdsT t) ∧ σ = [some (.str t), some (.ref p), none, none], ?_, fun σ G hM => ?_⟩
    · refine ⟨_, rfl, rfl, _, rfl, ?_⟩
      by_cases e : t = Str.ofString ""
      · refine iteF' (by rw [e]; simp) ⟨Nat.zero_le _, fun p np => ⟨same_upd np, p, ⟨?_, by rw [show wdsT t = [] from if_pos e]; exact Nat.zero_le _, wx⟩, rfl⟩⟩
        rw [show wdsT t = [] from if_pos e]
        exact upd_same
      · refine iteT' (by simp [e]) ⟨_, rfl, ⟨_, rfl⟩, _, _, rfl, rfl, by decide +kernel, by rw [sizeLine_eq]; omega, fun p np => ⟨same_upd np, p, ⟨?_, wl, wx⟩, rfl⟩⟩
        rw [show wdsT t = Txt.split t (Str.ofString " ") from if_neg e]
        exact upd_same
    obtain ⟨sG, p, hw, rfl⟩ := hM
    rcases bnd_some hr0 with ⟨e, h1, rfl⟩ | ⟨b, h1, h2⟩
    · have q : PEr E (fa 4) H e := q
      exact ⟨fun _ _ => False, ⟨_, rfl, p, 0, 0, 12, wdsT t, _, rfl, hw, Nat.le_refl _, h1, q.same sG⟩, fun _ _ h => h.elim⟩
    refine ⟨fun σ G2 => Same G G2 ∧ ∃ pv, Dt p G2 pv (.tuple (bkL b.1)) ∧ σ = [some (.str t), some (.ref p), some pv, some (.int (b.2 : Int))], ?_, fun σ G2 hM => ?_⟩
    · refine ⟨_, rfl, p, 0, 0, 12, wdsT t, _, rfl, hw, Nat.le_refl _, h1, fun o pv G2 s2 ho hp => ?_⟩
      exact ⟨o, _, rfl, SqT.of ho, rfl, _, _, rfl, _, _, rfl, rfl, s2, pv, hp, rfl⟩
    obtain ⟨s2, pv, hp, rfl⟩ := hM
    have hw2 := hw.same s2
    by_cases hl : b.2 < (wdsT t).length
    · rw [if_pos hl] at h2
      cases h2
      have qe : PEr E (fa 4) H b.2 := q
      have qe := qe.same (sG.trans s2)
      refine ⟨fun _ _ => False, ?_, fun _ _ h => h.elim⟩
      refine ⟨_, rfl, _, rfl, p, _, rfl, .inl (SqL.of hw2.h), _, _, rfl, rfl, _, rfl, iteT' (decide_eq_true (by rw [List.length_map]; omega)) ⟨_, rfl, ?_⟩⟩
      refine ⟨by show 1 ≤ 1000; decide, fun a na => ⟨a, _, .int (b.2 : Int), rfl, T.eParseError.oex, T.nParseError_at, T.eParseError.tag, upd_same, fun dx nd ne => ⟨rfl, dx, _, ?_, upd_same, ?_, ?_⟩⟩⟩
      · rw [upd_ne ne.symm, upd_same]
      · rw [upd_ne ne] at nd
        exact nd
      · have nd' : G2 dx = none := by
          rw [upd_ne ne] at nd
          exact nd
        refine qe dx _ (Same.del na nd' fun b o hb q => ?_) upd_same
        rw [upd_ne (ne_of_none q nd'), upd_ne hb, upd_ne (ne_of_none q nd'), upd_ne hb]
        exact q
    · rw [if_neg hl] at h2
      cases h2
      refine ⟨fun σ G3 => G3 = G2 ∧ σ = [some (.str t), some (.ref p), some pv, some (.int (b.2 : Int))], ?_, fun σ G3 hM => ?_⟩
      · exact ⟨_, rfl, _, rfl, p, _, rfl, .inl (SqL.of hw2.h), _, _, rfl, rfl, _, rfl, iteF' (decide_eq_false (by rw [List.length_map]; omega)) ⟨rfl, rfl⟩⟩
      obtain ⟨rfl, rfl⟩ := hM
      exact ⟨_, rfl, q p pv _ (sG.trans s2) hp⟩
end
section
variable {P : Program} {w : World} {K : PySem.W.Frag} {mg : Str → Option Value} {base : Heap} {fa : Nat → Addr} {fd : Nat → FuncData}
/-! ### what is told of an error -/
def tagsV (l : List String) : List V := l.map fun x => V.str (Str.ofString x)
def fieldOf (tag : Str) : Option Str :=
  if inV (.str tag) (tagsV ["InvalidRatio", "InvalidTimes", "InvalidLimit"]) = true then some "given" else
  if inV (.str tag) (tagsV ["InvalidRow", "InvalidTie", "InvalidWish", "ParseError"]) = true then some "at" else
  if inV (.str tag) (tagsV ["InvalidName", "SameName", "UnknownName"]) = true then some "name" else
  if inV (.str tag) (tagsV ["DuplicateLabel", "UnknownLabel"]) = true then some "label" else
  if decide (V.str tag = V.str "NotTied") = true then some "many" else
  if decide (V.str tag = V.str "CapacityExceeded") = true then some "most" else
  if decide (V.str tag = V.str "InvalidCommand") = true then some "first" else none
def FldOk (K : PySem.W.Frag) (C : Addr) (fs : List (Str × V)) (tag : Str) (v : V) : Prop := match fieldOf tag with
  | some n => PySem.W.findIn K (.ref C) n = some none ∧ fs.lookup n = some v
  | none => v = .non
def spField (K : PySem.W.Frag) (p : Addr × Obj) : Sp := fun vs H Q _ => vs = [.ref p.1] ∧ ∃ (C dd : Addr) (fs : List (Str × V)) (tag : Str) (v : V), Xat K p C dd ∧ PySem.W.findIn K (.ref C) "tag" = some none ∧ H dd = some (.xd fs) ∧ fs.lookup ("tag" : Str) = some (.str tag) ∧ FldOk K C fs tag v ∧
  ∀ H', Same H H' → Q v H'
theorem fld_of {K : PySem.W.Frag} {C : Addr} {fs : List (Str × V)} {tag : Str} {v : V} {n : Str} (h : FldOk K C fs tag v) (e : fieldOf tag = some n) : PySem.W.findIn K (.ref C) n = some none ∧ fs.lookup n = some v := by
  unfold FldOk at h
  rw [e] at h
  exact h
theorem fld_none {K : PySem.W.Frag} {C : Addr} {fs : List (Str × V)} {tag : Str} {v : V} (h : FldOk K C fs tag v) (e : fieldOf tag = none) : v = .non := by
  unfold FldOk at h
  rw [e] at h
  exact h
theorem ok_field (T : Txt K mg fa fd) : FnP P w K mg base 1 (fa 66) (fd 66) ["_law_e"] (spField K) := by
  refine fn_ofP T.F_field sc_field (fun p vs H Q E h => ?_) (fun cdv A outer s H vs Q p hr h => ?_)
  · obtain ⟨rfl, _⟩ := h
    rfl
  · obtain ⟨rfl, C, dd, fs, tag, v, X, ht, hd, lt, hf, q⟩ := h
    refine ⟨_, (pss_cons (ps_if (pt_cmpR op_in_seq (pe_xp (by exact List.mem_cons_self) (pv 0)) (pe_tup (pa_cons pe_str (pa_cons pe_str (pa_cons pe_str pa_nil)))) (by rfl)) (pss_one (ps_ret (pe_xp (by exact List.mem_cons_self) (pv 0)))) pss_nil)
      (pss_cons (ps_if (pt_cmpR op_in_seq (pe_xp (by exact List.mem_cons_self) (pv 0)) (pe_tup (pa_cons pe_str (pa_cons pe_str (pa_cons pe_str (pa_cons pe_str pa_nil))))) (by rfl)) (pss_one (ps_ret (pe_xp (by exact List.mem_cons_self) (pv 0)))) pss_nil)
      (pss_cons (ps_if (pt_cmpR op_in_seq (pe_xp (by exact List.mem_cons_self) (pv 0)) (pe_tup (pa_cons pe_str (pa_cons pe_str (pa_cons pe_str pa_nil)))) (by rfl)) (pss_one (ps_ret (pe_xp (by exact List.mem_cons_self) (pv 0)))) pss_nil)
      (pss_cons (ps_if (pt_cmpR op_in_seq (pe_xp (by exact List.mem_cons_self) (pv 0)) (pe_tup (pa_cons pe_str (pa_cons pe_str pa_nil))) (by rfl)) (pss_one (ps_ret (pe_xp (by exact List.mem_cons_self) (pv 0)))) pss_nil)
      (pss_cons (ps_if (pt_cmpR op_eq (pe_xp (by exact List.mem_cons_self) (pv 0)) pe_str (nomark _)) (pss_one (ps_ret (pe_xp (by exact List.mem_cons_self) (pv 0)))) pss_nil)
      (pss_cons (ps_if (pt_cmpR op_eq (pe_xp (by exact List.mem_cons_self) (pv 0)) pe_str (nomark _)) (pss_one (ps_ret (pe_xp (by exact List.mem_cons_self) (pv 0)))) pss_nil)
      (pss_one (ps_ret (pe_ifExp (pt_cmpR op_eq (pe_xp (by exact List.mem_cons_self) (pv 0)) pe_str (nomark _)) (pe_xp (by exact List.mem_cons_self) (pv 0)) pe_non))))))))), ?_⟩
    refine ⟨_, rfl, rfl, C, dd, fs, _, X, ht, hd, lt, Nat.le_of_lt (small1000 (by show 3 ≤ 1000; decide)), fun p1 n1 => ?_⟩
    have s1 := same_upd (o := .tup (tagsV ["InvalidRatio", "InvalidTimes", "InvalidLimit"])) n1
    refine ⟨p1, _, rfl, .inr (SqT.of upd_same), rfl, rfl, _, rfl, ite2 (fun e1 => ?_) (fun e1 => ?_)⟩
    · have hn := fld_of hf (show fieldOf tag = some "given" from if_pos e1)
      exact ⟨_, rfl, rfl, C, dd, fs, _, X, hn.1, s1 _ _ hd, hn.2, q _ s1⟩
    have hd1 := s1 _ _ hd
    refine ⟨_, rfl, rfl, C, dd, fs, _, X, ht, hd1, lt, Nat.le_of_lt (small1000 (by show 4 ≤ 1000; decide)), fun p2 n2 => ?_⟩
    have s2 := s1.trans (same_upd (o := .tup (tagsV ["InvalidRow", "InvalidTie", "InvalidWish", "ParseError"])) n2)
    refine ⟨p2, _, rfl, .inr (SqT.of upd_same), rfl, rfl, _, rfl, ite2 (fun e2 => ?_) (fun e2 => ?_)⟩
    · have hn := fld_of hf (show fieldOf tag = some "at" from (if_neg e1).trans (if_pos e2))
      exact ⟨_, rfl, rfl, C, dd, fs, _, X, hn.1, s2 _ _ hd, hn.2, q _ s2⟩
    have hd2 := s2 _ _ hd
    refine ⟨_, rfl, rfl, C, dd, fs, _, X, ht, hd2, lt, Nat.le_of_lt (small1000 (by show 3 ≤ 1000; decide)), fun p3 n3 => ?_⟩
    have s3 := s2.trans (same_upd (o := .tup (tagsV ["InvalidName", "SameName", "UnknownName"])) n3)
    refine ⟨p3, _, rfl, .inr (SqT.of upd_same), rfl, rfl, _, rfl, ite2 (fun e3 => ?_) (fun e3 => ?_)⟩
    · have hn := fld_of hf (show fieldOf tag = some "name" from (if_neg e1).trans ((if_neg e2).trans (if_pos e3)))
      exact ⟨_, rfl, rfl, C, dd, fs, _, X, hn.1, s3 _ _ hd, hn.2, q _ s3⟩
    have hd3 := s3 _ _ hd
    refine ⟨_, rfl, rfl, C, dd, fs, _, X, ht, hd3, lt, two_line, fun p4 n4 => ?_⟩
    have s4 := s3.trans (same_upd (o := .tup (tagsV ["DuplicateLabel", "UnknownLabel"])) n4)
    refine ⟨p4, _, rfl, .inr (SqT.of upd_same), rfl, rfl, _, rfl, ite2 (fun e4 => ?_) (fun e4 => ?_)⟩
    · have hn := fld_of hf (show fieldOf tag = some "label" from (if_neg e1).trans ((if_neg e2).trans ((if_neg e3).trans (if_pos e4))))
      exact ⟨_, rfl, rfl, C, dd, fs, _, X, hn.1, s4 _ _ hd, hn.2, q _ s4⟩
    have hd4 := s4 _ _ hd
    refine ⟨_, rfl, rfl, C, dd, fs, _, X, ht, hd4, lt, rfl, _, rfl, ite2 (fun e5 => ?_) (fun e5 => ?_)⟩
    · have hn := fld_of hf (show fieldOf tag = some "many" from (if_neg e1).trans ((if_neg e2).trans ((if_neg e3).trans ((if_neg e4).trans (if_pos e5)))))
      exact ⟨_, rfl, rfl, C, dd, fs, _, X, hn.1, hd4, hn.2, q _ s4⟩
    refine ⟨_, rfl, rfl, C, dd, fs, _, X, ht, hd4, lt, rfl, _, rfl, ite2 (fun e6 => ?_) (fun e6 => ?_)⟩
    · have hn := fld_of hf (show fieldOf tag = some "most" from (if_neg e1).trans ((if_neg e2).trans ((if_neg e3).trans ((if_neg e4).trans ((if_neg e5).trans (if_pos e6))))))
      exact ⟨_, rfl, rfl, C, dd, fs, _, X, hn.1, hd4, hn.2, q _ s4⟩
    refine ⟨_, rfl, rfl, C, dd, fs, _, X, ht, hd4, lt, rfl, _, rfl, ite2 (fun e7 => ?_) (fun e7 => ?_)⟩
    · have hn := fld_of hf (show fieldOf tag = some "first" from (if_neg e1).trans ((if_neg e2).trans ((if_neg e3).trans ((if_neg e4).trans ((if_neg e5).trans ((if_neg e6).trans (if_pos e7)))))))
      exact ⟨_, rfl, rfl, C, dd, fs, _, X, hn.1, hd4, hn.2, q _ s4⟩
    · have hn := fld_none hf (show fieldOf tag = none from (if_neg e1).trans ((if_neg e2).trans ((if_neg e3).trans ((if_neg e4).trans ((if_neg e5).trans ((if_neg e6).trans (if_neg e7)))))))
      rw [hn] at q
      exact q _ s4
end
section
variable {fa : Nat → Addr} {fd : Nat → FuncData}
/-- an error, as why tells of it -/
def WhyE (K : PySem.W.Frag) (Tie Miss : Addr) (Q : VK) : XK := fun cls d H' => ∃ (C dd : Addr) (fs : List (Str × V)) (tag : Str) (v : V), cls = .ref C ∧ d = some dd ∧ PySem.W.exmAny K (.ref C) [.ref Tie, .ref Miss] = some true ∧ XfC K C ∧ PySem.W.findIn K (.ref C) "tag" = some none ∧ H' dd = some (.xd fs) ∧
  fs.lookup ("tag" : Str) = some (.str tag) ∧ FldOk K C fs tag v ∧ ∀ p H'', Same H' H'' → H'' p = some (.tup [.str tag, v]) → Q (.ref p) H''
def TTWhy (K : PySem.W.Frag) (Tie Miss : Addr) : (XK → Hp → VK → Prop) → Hp → VK → Prop := fun tl H Q => ∀ (H1 : Hp) (Q' : VK) (E' : XK), Same H H1 → (∀ v H', (∀ p, H' p = none → Q (.ref p) (upd H' p (.tup [.str "", v]))) → Q' v H') →
  (∀ cls d H', WhyE K Tie Miss Q cls d H' → E' cls d H') → tl E' H1 Q'
def tSuite (K : PySem.W.Frag) : Addr → Value → Option Addr → TS := fun a cls d D σ H => ∃ (C dd : Addr) (fs : List (Str × V)) (tag : Str) (v : V), cls = .ref C ∧ d = some dd ∧ XfC K C ∧ PySem.W.findIn K (.ref C) "tag" = some none ∧ H dd = some (.xd fs) ∧
  fs.lookup ("tag" : Str) = some (.str tag) ∧ FldOk K C fs tag v ∧ (σ.length = 3 → σ[2]? = some (some (.ref a))) ∧ ∀ p H'', σ.length = 3 → Same H H'' → H'' p = some (.tup [.str tag, v]) → D.nx (σ.set 1 (some (.ref p))) H''
theorem why_gives {X : Cx} (T : Txt X.K X.mg fa fd) {k : Nat} (hr : Room (k + 2) X.A) {cdg : Value} {q : Str} : LamX.GivesTo X ["_law_ask", "_law_told", "_law_e"] "_law_why" (defScope s_why) (fa 67) cdg (defBody s_why) "_law_ask" q (TTWhy X.K (fa 1) (fa 5)) := by
  intro f c' s H Q tl act hc h
  have F : FnP X.prog X.w X.K X.mg X.base 1 (fa 66) (fd 66) ["_law_e"] (spField X.K) := ok_field T
  refine ⟨_, pss_cons (ps_set (i := 1) sc_why.nd rfl (.inl rfl) (pe_tup (pa_cons pe_str (pa_cons pe_non pa_nil))))
    (pss_cons (ps_try_tup (i := 2) (tb := fun W D σ H => ∃ Ech : XK, (∀ cls d σ' H', Ech cls d H' → W cls d σ' H') ∧ σ[0]? = some (some (.ref f)) ∧ H c' = some (LamX.CodeO c' q) ∧ tl Ech H fun v H' => [V.str "", v].length ≤ sizeLine ∧ ∀ p, H' p = none → D.nx (σ.set 1 (some (.ref p))) (upd H' p (.tup [.str "", v]))) (ts := tSuite X.K)
        rfl rfl sc_why.nd rfl rfl rfl T.gTieError rfl T.gMissing (fun W pn xe tk _ => ?_) (fun a oe cls d pn hz hf => ?_))
    (pss_one (ps_ret (pv 1)))), ?_⟩
  · refine ⟨fun pins s' σ H' D I h' => ?_⟩
    obtain ⟨Ech, hW, h1, h2, h3⟩ := h'
    exact (pss_one (ps_set (i := 1) sc_why.nd rfl (.inl rfl) (pe_tup (pa_cons pe_str (pa_cons (act W pn xe Ech _ _ tk hW) pa_nil))))).run pins s' σ H' D I ⟨h1, h2, h3⟩
  · refine ⟨fun pins s' σ H' D I h' => ?_⟩
    obtain ⟨C, dd, fs, tag, v, rfl, rfl, xf, ht, hd, lt, hv, h2, h3⟩ := h'
    have l3 : σ.length = 3 := I.len
    have h2 := h2 l3
    have hx : Xat X.K (a, oe) C dd := ⟨hz, hf, xf⟩
    refine (pss_one (ps_set (i := 1) sc_why.nd rfl (.inl rfl) (pe_tup (pa_cons (pe_xp (X := (cxOf C8.CX0 X.prog X.w X.K X.mg X.base ["_law_ask", "_law_told", "_law_e"] "_law_why" (defScope s_why) (fa 67) cdg X.A X.stack s H C8.E0).nox.suite a ((a, oe) :: pn)) (p := (a, oe)) (by exact List.mem_cons_self) (pv 2)) (pa_cons (pe_callP (X := (cxOf C8.CX0 X.prog X.w X.K X.mg X.base ["_law_ask", "_law_told", "_law_e"] "_law_why" (defScope s_why) (fa 67) cdg X.A X.stack s H C8.E0).nox.suite a ((a, oe) :: pn)) (p := (a, oe)) F ?_ (by exact List.mem_cons_self) (by rfl) T.g_field T.F_field.kp T.b_field (pa_cons (pv 2) pa_nil)) pa_nil))))).run pins s' σ H' D I ?_
    · have r := hr.deeper (envOfC "_law_why" (defScope s_why) s.heap.objs.size (fa 67) cdg)
      exact ⟨by have := r.dp; show (X.A.deeper (envOfC "_law_why" (defScope s_why) s.heap.objs.size (fa 67) cdg)).depth + 3 * 1 + 5 < recursionLimit; omega, by have := r.un; show (X.A.deeper (envOfC "_law_why" (defScope s_why) s.heap.objs.size (fa 67) cdg)).units + 16 * 1 + 200 < cLine; omega⟩
    · refine ⟨_, h2, rfl, C, dd, fs, _, hx, ht, hd, lt, _, h2, rfl, C, dd, fs, tag, v, hx, ht, hd, lt, hv, fun H2 s2 => ⟨two_line, fun p np => ?_⟩⟩
      exact h3 p _ l3 (s2.trans (same_upd np)) upd_same
  · refine ⟨two_line, fun p np => ⟨WhyE X.K (fa 1) (fa 5) Q, ?_, rfl, same_upd np _ _ hc, h _ _ _ (same_upd np) (fun v H' hQ => ⟨two_line, fun p np => ⟨_, rfl, hQ p np⟩⟩) fun _ _ _ z => z⟩⟩
    rintro cls d σ' H' ⟨C, dd, fs, tag, v, rfl, rfl, ha, xf, ht, hd, lt, hv, h3⟩
    refine ⟨ha, fun a na => ⟨C, dd, fs, tag, v, rfl, rfl, xf, ht, hd, lt, hv, fun l => ?_, fun p H'' l s2 hp => ?_⟩⟩
    · rw [List.length_set] at l
      rw [List.getElem?_set_self (by omega)]
    · rw [List.length_set] at l
      match σ', l with
      | [a0, a1, a2], _ => exact ⟨_, rfl, h3 p H'' s2 hp⟩
end
section
variable {fa : Nat → Addr} {fd : Nat → FuncData}
/-- why(lambda: body) -/
theorem pe_why {X : Cx} (T : Txt X.K X.mg fa fd) {c P : Addr} {k : Nat} {params : Arguments} {body : Expr} {scope : Scope} {t : XK → TE} {p lpos pos : Pos} (TB : LamX.TabB X.base X.mg c P) (hcode : X.env.code = .ref c) (hr : Room (k + 2) X.A) (hg : Gl X "_law_why") (L : LamX.LamS X.env.scope scope)
    (hbody : ∀ (A : Around) (outer : List Env) (s : Shared) (H : Hp) (E : XK) (f c' : Addr), Room k (A.deeper (LamX.lamEnv X scope s.heap.objs.size f c')) → PE (LamX.lamCx X A outer s H E scope f c') body (t E))
    (hdef : defaultsOf params X.env = ([], []) := by rfl) (hbind : ∀ (q : Str) (cl : List (Str × Addr)) (pm cv ctv : Value), bindArgs (PySem.W.kla_fn "<lambda>" q params body scope cl pm cv ctv) ⟨[], []⟩ = pure [] := by intros; rfl) :
    PE X (.Call (.Name "_law_why" p) [.Lambda params body scope lpos] [] pos) (LamX.tLam [(P, X.env.qual ++ "<lambda>")] (TTWhy X.K (fa 1) (fa 5)) t) := by
  obtain ⟨oc, od, kV, doc, pm, an, cdv, ct, osl, e, lk, hcd⟩ := T.F_why.ex
  rw [e] at lk
  have hb := T.b_why
  rw [e] at hb
  refine LamX.pe_lamcall (X := X) (T := [(P, X.env.qual ++ "<lambda>")]) (a := "_law_ask") (Ng := ["_law_ask", "_law_told", "_law_e"]) hg T.g_why T.F_why.kp lk hcd hb sc_why rfl (.inl rfl) (why_gives T hr) TB hcode List.mem_cons_self (fun q hq _ => ?_) hr L hdef hbind hbody
  rw [List.mem_singleton.mp hq]
end
/-! ### more of heaps, data, errors -/
theorem tabs_but {L : List (Addr × Str)} {H H' : Hp} {a c : Addr} (hF : FeedOk H a c) (b : But a H H') (t : LamX.Tabs L H) : LamX.Tabs L H' := fun p hp => by
  obtain ⟨ns, k, big, mark, ha, _⟩ := hF
  obtain ⟨ps, h1, h2, h3⟩ := t p hp
  refine ⟨ps, b _ _ (ne_of h1 ha (by intro z; cases z)) h1, h2, fun pos cv hc => ?_⟩
  obtain ⟨c', e1, e2⟩ := h3 pos cv hc
  exact ⟨c', e1, b _ _ (ne_of e2 ha (by intro z; unfold LamX.CodeO at z; cases z)) e2⟩
theorem FeedOk.ext {H H' : Hp} {a c : Addr} (h : FeedOk H a c) (s : LamX.ExtN H H') : FeedOk H' a c := by
  obtain ⟨ns, k, big, mark, h1, h2, h3⟩ := h
  exact ⟨ns, k, big, mark, s _ _ h1 (by intro ps z; cases z), s _ _ h2 (by intro ps z; cases z), h3⟩
theorem eqd_bl {H : Hp} {n : Nat} (b : Bool) : Eqd H n (.bl b) (.bl b) := Eqd.leaf ⟨rfl, .inr (.inl ⟨b, rfl⟩)⟩
def Fr (H : Hp) (p : Addr) (f : Int × Int) : Prop := H p = some (.tup [.int f.1, .int f.2])
theorem Fr.ext {H H' : Hp} {p : Addr} {f : Int × Int} (h : Fr H p f) (s : LamX.ExtN H H') : Fr H' p f := s _ _ h (by intro ps z; cases z)
theorem Fr.but {H H' : Hp} {a c p : Addr} {f : Int × Int} (hF : FeedOk H a c) (b : But a H H') (h : Fr H p f) : Fr H' p f := by
  obtain ⟨ns, k, big, mark, ha, _⟩ := hF
  exact b _ _ (ne_of h ha (by intro z; cases z)) h
theorem eqd_fr {H : Hp} {p q : Addr} {f : Int × Int} (h1 : Fr H p f) (h2 : Fr H q f) : Eqd H 1 (.ref p) (.ref q) := by
  refine .inr ⟨p, q, _, _, rfl, rfl, .inr ⟨h1, h2⟩, rfl, (by show 2 ≤ 1000; decide), fun i y z e1 e2 => ?_⟩
  have e : y = z := Option.some.inj (e1.symm.trans e2)
  subst e
  match i, e1 with
  | 0, e1 => cases e1; exact ⟨rfl, .inr (.inr (.inl ⟨_, rfl⟩))⟩
  | 1, e1 => cases e1; exact ⟨rfl, .inr (.inr (.inl ⟨_, rfl⟩))⟩
theorem Eqd.up {H : Hp} : ∀ {n : Nat} {v w : V}, Eqd H n v w → Eqd H (n + 1) v w
  | 0, _, _, h => .inl h
  | n + 1, _, _, h => by
    rcases h with h | ⟨a, b, xs, ys, e1, e2, h, l1, l2, r⟩
    · exact .inl h
    · exact .inr ⟨a, b, xs, ys, e1, e2, h, l1, l2, fun i x y h1 h2 => Eqd.up (r i x y h1 h2)⟩
section
variable {P : Program} {w : World} {K : PySem.W.Frag} {mg : Str → Option Value} {base : Heap} {fa : Nat → Addr} {fd : Nat → FuncData}
def tbs (Pt : Addr) : List (Addr × Str) := [(Pt, (("law" : Str) ++ ".<locals>.") ++ "<lambda>")]
theorem fieldOf_parse : fieldOf "ParseError" = some "at" := by decide +kernel
theorem why_parse (T : Txt K mg fa fd) {Q : VK} {d : Addr} {H : Hp} {i : Int} (hd : H d = some (.xd [("tag", .str "ParseError"), ("at", .int i)])) (q : ∀ p H'', Same H H'' → H'' p = some (.tup [.str "ParseError", .int i]) → Q (.ref p) H'') :
    WhyE K (fa 1) (fa 5) Q (.ref (fa 4)) (some d) H := by
  refine ⟨_, d, _, "ParseError", .int i, rfl, rfl, T.eParseError.any, T.eParseError.xf, T.eParseError.tag, hd, by rfl, ?_, q⟩
  unfold FldOk
  rw [fieldOf_parse]
  exact ⟨T.nParseError_at, by rfl⟩
theorem one_line : 1 ≤ sizeLine := Nat.le_trans (by decide : 1 ≤ 2) two_line
theorem four_line : 4 ≤ sizeLine := Nat.le_trans (by decide : 4 ≤ 1000) (Nat.le_of_lt (small1000 (Nat.le_refl _)))
theorem five_line : 5 ≤ sizeLine := Nat.le_trans (by decide : 5 ≤ 1000) (Nat.le_of_lt (small1000 (Nat.le_refl _)))
end
theorem tabs_lst {L : List (Addr × Str)} {H : Hp} {D : Addr} {xs : List V} {o : HO} (t : LamX.Tabs L H) (hD : H D = some (.lst xs)) : LamX.Tabs L (upd H D o) := fun p hp => by
  obtain ⟨ps, h1, h2, h3⟩ := t p hp
  refine ⟨ps, ?_, h2, fun pos cv hc => ?_⟩
  · rw [upd_ne (ne_of h1 hD (by intro z; cases z))]
    exact h1
  · obtain ⟨c', e1, e2⟩ := h3 pos cv hc
    refine ⟨c', e1, ?_⟩
    rw [upd_ne (ne_of e2 hD (by intro z; unfold LamX.CodeO at z; cases z))]
    exact e2
/-! ### the parser over lists of signs -/
theorem s_nAny : (Str.ofString "any" : Str) = SX.S [97, 110, 121] := by decide +kernel
theorem s_nEit : (Str.ofString "either" : Str) = SX.S [101, 105, 116, 104, 101, 114] := by decide +kernel
theorem s_nRep : (Str.ofString "repeat" : Str) = SX.S [114, 101, 112, 101, 97, 116] := by decide +kernel
theorem s_nSet : (Str.ofString "set" : Str) = SX.S [115, 101, 116] := by decide +kernel
theorem s_nChk : (Str.ofString "check" : Str) = SX.S [99, 104, 101, 99, 107] := by decide +kernel
theorem s_nL : (Str.ofString "{" : Str) = SX.S [123] := by decide +kernel
theorem s_nR : (Str.ofString "}" : Str) = SX.S [125] := by decide +kernel
theorem s_nOr : (Str.ofString "or" : Str) = SX.S [111, 114] := by decide +kernel
theorem s_n0 : (Str.ofString "0" : Str) = SX.S [48] := by decide +kernel
theorem s_n1 : (Str.ofString "1" : Str) = SX.S [49] := by decide +kernel
theorem s_n2 : (Str.ofString "2" : Str) = SX.S [50] := by decide +kernel
theorem s_n3 : (Str.ofString "3" : Str) = SX.S [51] := by decide +kernel
theorem s_n4 : (Str.ofString "4" : Str) = SX.S [52] := by decide +kernel
def mapR {α β : Type} (f : α → β) : Rs α → Rs β
  | none => none
  | some (.error e) => some (.error e)
  | some (.ok a) => some (.ok (f a))
theorem bnd_map {α β γ : Type} (f : α → β) (x : Rs α) (g : β → Rs γ) : bnd (mapR f x) g = bnd x fun a => g (f a) := by
  match x with
  | none => rfl
  | some (.error _) => rfl
  | some (.ok _) => rfl
def wordL (ws : List (List Nat)) (i : Nat) : Rs (List Nat) := match ws[i]? with
  | none => some (.error i)
  | some x => if 39 ∈ x then some (.error i) else some (.ok x)
def chkL (ws : List (List Nat)) (i : Nat) (w : List Nat) : Rs Unit := bnd (wordL ws i) fun x => if x = w then some (.ok ()) else some (.error i)
def nameL (ws : List (List Nat)) (i : Nat) : Rs (List Nat) := bnd (wordL ws i) fun x => if nameB x = true then some (.ok x) else some (.error i)
def tmsN (x : List Nat) : Option Nat := if x = [48] then some 0 else if x = [49] then some 1 else if x = [50] then some 2 else if x = [51] then some 3 else if x = [52] then some 4 else none
def timL (ws : List (List Nat)) (i : Nat) : Rs Nat := bnd (wordL ws i) fun x => match tmsN x with
  | some n => some (.ok n)
  | none => some (.error i)
def bracL (S : Nat → Nat → Rs (Bk × Nat)) (ws : List (List Nat)) (i d : Nat) : Rs (Bk × Nat) := bnd (chkL ws i [123]) fun _ => if 4 ≤ d then some (.error i) else
  bnd (S (i + 1) (d + 1)) fun r => bnd (chkL ws r.2 [125]) fun _ => some (.ok (r.1, r.2 + 1))
def eitL (S : Nat → Nat → Rs (Bk × Nat)) (ws : List (List Nat)) (i d : Nat) : Rs (Bk × Nat) := bnd (bracL S ws (i + 1) d) fun a => bnd (chkL ws a.2 [111, 114]) fun _ =>
  bnd (bracL S ws (a.2 + 1) d) fun b => some (.ok (.eit a.1 b.1 .nil, b.2))
def repL (S : Nat → Nat → Rs (Bk × Nat)) (ws : List (List Nat)) (i d : Nat) : Rs (Bk × Nat) := bnd (timL ws (i + 1)) fun n => bnd (bracL S ws (i + 2) d) fun a => some (.ok (.rep n a.1 .nil, a.2))
def stmL (S : Nat → Nat → Rs (Bk × Nat)) (ws : List (List Nat)) (i d : Nat) : Rs (Bk × Nat) := match ws[i]? with
  | none => none
  | some x => if x = [97, 110, 121] then bnd (nameL ws (i + 1)) fun y => some (.ok (.any (SX.S y) .nil, i + 2)) else
    if x = [101, 105, 116, 104, 101, 114] then eitL S ws i d else if x = [114, 101, 112, 101, 97, 116] then repL S ws i d else none
def stsN : List (List Nat) := [[115, 101, 116], [97, 110, 121], [99, 104, 101, 99, 107], [101, 105, 116, 104, 101, 114], [114, 101, 112, 101, 97, 116]]
def rdL : Nat → List (List Nat) → Nat → Nat → Rs (Bk × Nat)
  | 0, _, _, _ => none
  | n + 1, ws, i, d => if (ws[i]?).any (fun x => decide (x ∈ stsN)) = true then bnd (stmL (rdL n ws) ws i d) fun a => bnd (rdL n ws a.2 d) fun b => some (.ok (appB a.1 b.1, b.2)) else some (.ok (.nil, i))
def rdPL (ws : List (List Nat)) : Rs Bk := bnd (rdL 12 ws 0 0) fun r => if r.2 < ws.length then some (.error r.2) else some (.ok r.1)
theorem eqS {x y : List Nat} : (SX.S x = SX.S y) = (x = y) := propext ⟨fun h => S_inj h, fun h => by rw [h]⟩
theorem wordR_L (ws : List (List Nat)) (i : Nat) : wordR (ws.map SX.S) i = mapR SX.S (wordL ws i) := by
  unfold wordR wordL
  rw [List.getElem?_map]
  cases ws[i]? with
  | none => rfl
  | some x =>
    show (if 39 ∈ (SX.S x).cps.toList then some (Except.error i) else some (Except.ok (SX.S x))) = mapR SX.S (if 39 ∈ x then some (Except.error i) else some (Except.ok x))
    rw [S_list]
    split <;> rfl
theorem chkR_L (ws : List (List Nat)) (i : Nat) (w : List Nat) : chkR (ws.map SX.S) i (SX.S w) = chkL ws i w := by
  unfold chkR chkL
  rw [wordR_L, bnd_map]
  simp only [eqS]
theorem nameR_L (ws : List (List Nat)) (i : Nat) : nameR (ws.map SX.S) i = mapR SX.S (nameL ws i) := by
  unfold nameR nameL
  rw [wordR_L, bnd_map]
  match wordL ws i with
  | none => rfl
  | some (.error _) => rfl
  | some (.ok x) =>
    show (if nameB (SX.S x).cps.toList = true then some (Except.ok (SX.S x)) else some (Except.error i)) = mapR SX.S (if nameB x = true then some (Except.ok x) else some (Except.error i))
    rw [S_list]
    split <;> rfl
theorem tms_L (x : List Nat) : tms (SX.S x) = tmsN x := by
  unfold tms tmsN
  rw [s_n0, s_n1, s_n2, s_n3, s_n4]
  simp only [eqS]
theorem timR_L (ws : List (List Nat)) (i : Nat) : timR (ws.map SX.S) i = timL ws i := by
  unfold timR timL
  rw [wordR_L, bnd_map]
  simp only [tms_L]
  try rfl
theorem bracR_L (S : Nat → Nat → Rs (Bk × Nat)) (ws : List (List Nat)) (i d : Nat) : bracR S (ws.map SX.S) i d = bracL S ws i d := by
  unfold bracR bracL
  rw [s_nL, s_nR]
  simp only [chkR_L]
theorem eitR_L (S : Nat → Nat → Rs (Bk × Nat)) (ws : List (List Nat)) (i d : Nat) : eitR S (ws.map SX.S) i d = eitL S ws i d := by
  unfold eitR eitL
  rw [s_nOr]
  simp only [chkR_L, bracR_L]
theorem repR_L (S : Nat → Nat → Rs (Bk × Nat)) (ws : List (List Nat)) (i d : Nat) : repR S (ws.map SX.S) i d = repL S ws i d := by
  unfold repR repL
  simp only [timR_L, bracR_L]
theorem stmR_L (S : Nat → Nat → Rs (Bk × Nat)) (ws : List (List Nat)) (i d : Nat) : stmR S (ws.map SX.S) i d = stmL S ws i d := by
  unfold stmR stmL
  rw [List.getElem?_map]
  cases ws[i]? with
  | none => rfl
  | some x =>
    rw [s_nAny, s_nEit, s_nRep]
    show (if SX.S x = SX.S [97, 110, 121] then _ else if SX.S x = SX.S [101, 105, 116, 104, 101, 114] then _ else if SX.S x = SX.S [114, 101, 112, 101, 97, 116] then _ else _) = _
    simp only [eqS, nameR_L, bnd_map, eitR_L, repR_L]
theorem stsL_S : stsL = stsN.map SX.S := by
  unfold stsL stsN
  rw [s_nAny, s_nEit, s_nRep, s_nSet, s_nChk]
  rfl
theorem memS {x : List Nat} {l : List (List Nat)} : (SX.S x ∈ l.map SX.S) = (x ∈ l) := by
  rw [List.mem_map]
  exact propext ⟨fun ⟨y, h, e⟩ => S_inj e ▸ h, fun h => ⟨x, h, rfl⟩⟩
theorem rdS_L : ∀ (n : Nat) (ws : List (List Nat)), rdS n (ws.map SX.S) = rdL n ws
  | 0, _ => rfl
  | n + 1, ws => by
    funext i d
    unfold rdS rdL
    rw [rdS_L n ws, stmR_L, List.getElem?_map, stsL_S]
    cases ws[i]? with
    | none => rfl
    | some x =>
      show (if decide (SX.S x ∈ stsN.map SX.S) = true then _ else _) = (if decide (x ∈ stsN) = true then _ else _)
      simp only [memS]
theorem rdP_L (ws : List (List Nat)) : rdP (ws.map SX.S) = rdPL ws := by
  unfold rdP rdPL
  rw [rdS_L, List.length_map]
/-! ### the law's own texts -/
def pcA : Nat → List Nat
  | 0 => [114, 101, 112, 101, 97, 116, 32, 50, 32, 123, 32]
  | 1 => [101, 105, 116, 104, 101, 114, 32, 123, 32]
  | _ => [101, 105, 116, 104, 101, 114, 32, 123, 32, 125, 32, 111, 114, 32, 123, 32]
def pcB : Nat → List Nat
  | 0 => [32, 125]
  | 1 => [32, 125, 32, 111, 114, 32, 123, 32, 125]
  | _ => [32, 125]
def wrL : Nat → List Nat
  | 0 => [114, 101, 112, 101, 97, 116, 32, 48, 32, 123, 32, 97, 110, 121, 32, 120, 32, 125]
  | _ => [101, 105, 116, 104, 101, 114, 32, 123, 32, 97, 110, 121, 32, 120, 32, 125, 32, 111, 114, 32, 123, 32, 125]
theorem s_pcA0 : (Str.ofString "repeat 2 { " : Str) = SX.S [114, 101, 112, 101, 97, 116, 32, 50, 32, 123, 32] := by decide +kernel
theorem s_pcA1 : (Str.ofString "either { " : Str) = SX.S [101, 105, 116, 104, 101, 114, 32, 123, 32] := by decide +kernel
theorem s_pcA2 : (Str.ofString "either { } or { " : Str) = SX.S [101, 105, 116, 104, 101, 114, 32, 123, 32, 125, 32, 111, 114, 32, 123, 32] := by decide +kernel
theorem s_pcB0 : (Str.ofString " }" : Str) = SX.S [32, 125] := by decide +kernel
theorem s_pcB1 : (Str.ofString " } or { }" : Str) = SX.S [32, 125, 32, 111, 114, 32, 123, 32, 125] := by decide +kernel
theorem s_pcB2 : (Str.ofString " }" : Str) = SX.S [32, 125] := by decide +kernel
theorem s_wrL0 : (Str.ofString "repeat 0 { any x }" : Str) = SX.S [114, 101, 112, 101, 97, 116, 32, 48, 32, 123, 32, 97, 110, 121, 32, 120, 32, 125] := by decide +kernel
theorem s_wrL1 : (Str.ofString "either { any x } or { }" : Str) = SX.S [101, 105, 116, 104, 101, 114, 32, 123, 32, 97, 110, 121, 32, 120, 32, 125, 32, 111, 114, 32, 123, 32, 125] := by decide +kernel
theorem s_anyx : (Str.ofString "any x" : Str) = SX.S [97, 110, 121, 32, 120] := by decide +kernel
theorem s_nil : (Str.ofString "" : Str) = SX.S [] := by decide +kernel
theorem s_sp : (Str.ofString " " : Str) = SX.S [32] := by decide +kernel
def ahL : List Nat → List Nat
  | [] => []
  | w :: r => pcA w ++ ahL r
def beL : List Nat → List Nat
  | [] => []
  | w :: r => beL r ++ pcB w
def dueB : List Nat → Bk
  | [] => .any (SX.S [120]) .nil
  | 0 :: r => .rep 2 (dueB r) .nil
  | 1 :: r => .eit (dueB r) .nil .nil
  | _ :: r => .eit .nil (dueB r) .nil
def allW : Nat → List (List Nat)
  | 0 => [[]]
  | n + 1 => (allW n).flatMap fun r => [0 :: r, 1 :: r, 2 :: r]
theorem allW_mem {n w : Nat} {r : List Nat} (h : r ∈ allW n) (hw : w < 3) : w :: r ∈ allW (n + 1) := by
  show w :: r ∈ (allW n).flatMap _
  rw [List.mem_flatMap]
  refine ⟨r, h, ?_⟩
  match w, hw with
  | 0, _ => simp
  | 1, _ => simp
  | 2, _ => simp
theorem pc_len : ∀ w, (pcA w).length ≤ 16 ∧ (pcB w).length ≤ 16
  | 0 => by decide +kernel
  | 1 => by decide +kernel
  | _ + 2 => by constructor <;> (show ([_, _] ++ _ : List Nat).length ≤ 16) <;> decide
theorem ah_len : ∀ wl : List Nat, (ahL wl).length ≤ 16 * wl.length ∧ (beL wl).length ≤ 16 * wl.length
  | [] => ⟨Nat.zero_le _, Nat.zero_le _⟩
  | w :: r => by
    obtain ⟨h1, h2⟩ := ah_len r
    obtain ⟨h3, h4⟩ := pc_len w
    show (pcA w ++ ahL r).length ≤ 16 * (r.length + 1) ∧ (beL r ++ pcB w).length ≤ 16 * (r.length + 1)
    rw [List.length_append, List.length_append]
    omega
theorem allW_len : ∀ {n : Nat} {wl : List Nat}, wl ∈ allW n → wl.length = n
  | 0, wl, h => by rw [List.mem_singleton.mp h]; rfl
  | n + 1, wl, h => by
    obtain ⟨r, hr, h⟩ := List.mem_flatMap.mp h
    have e := allW_len hr
    simp only [List.mem_cons, List.not_mem_nil, or_false] at h
    rcases h with rfl | rfl | rfl <;> (rw [List.length_cons, e])
def isOk (r : Rs Bk) (b : Bk) : Bool := match r with
  | some (.ok a) => decide (a = b)
  | _ => false
def isEr (r : Rs Bk) (i : Nat) : Bool := match r with
  | some (.error e) => decide (e = i)
  | _ => false
theorem isOk_eq {r : Rs Bk} {b : Bk} (h : isOk r b = true) : r = some (.ok b) := by
  unfold isOk at h
  split at h
  · rw [of_decide_eq_true h]
  · cases h
theorem isEr_eq {r : Rs Bk} {i : Nat} (h : isEr r i = true) : r = some (.error i) := by
  unfold isEr at h
  split at h
  · rw [of_decide_eq_true h]
  · cases h
def lnA (wl : List Nat) : Nat := (TL.spl [32] 0 [] (ahL wl)).length
def atW (wl : List Nat) (k : Nat) : Nat := lnA wl - 1 + (if k = 0 then 2 else 1)
def fullT (wl : List Nat) : List Nat := ahL wl ++ [97, 110, 121, 32, 120] ++ beL wl
def badT (wl : List Nat) (k : Nat) : List Nat := ahL wl ++ wrL k ++ beL wl
def goodW (wl : List Nat) : Bool := isOk (rdPL (TL.spl [32] 0 [] (fullT wl))) (dueB wl) && decide (1 ≤ lnA wl)
def badW (wl : List Nat) (k : Nat) : Bool := isEr (rdPL (TL.spl [32] 0 [] (badT wl k))) (atW wl k)
theorem good_all : ((allW 4).all goodW) = true := by decide +kernel
theorem bad_all : ((allW 4).all fun wl => badW wl 0 && badW wl 1) = true := by decide +kernel
def leafD : PyData → Bool
  | .none => true
  | .bool _ => true
  | .int _ => true
  | .str _ => true
  | _ => false
def okD : Nat → PyData → Bool
  | 0, d => leafD d
  | n + 1, .tuple ds => decide (ds.length ≤ 1000) && ds.all (okD n)
  | _ + 1, d => leafD d
theorem eqd_leaf {z : Addr} {H : Hp} {n : Nat} {d : PyData} {v w : V} (h : leafD d = true) (h1 : Dt z H v d) (h2 : Dt z H w d) : Eqd H n v w := by
  cases d with
  | none => cases h1; cases h2; exact Eqd.leaf ⟨rfl, .inl rfl⟩
  | bool b => cases h1; cases h2; exact Eqd.leaf ⟨rfl, .inr (.inl ⟨b, rfl⟩)⟩
  | int i => cases h1; cases h2; exact Eqd.leaf ⟨rfl, .inr (.inr (.inl ⟨i, rfl⟩))⟩
  | str s => cases h1; cases h2; exact Eqd.leaf ⟨rfl, .inr (.inr (.inr ⟨s, rfl⟩))⟩
  | _ => cases h
theorem eqd_dt {z : Addr} {H : Hp} : ∀ (n : Nat) (d : PyData) (v w : V), okD n d = true → Dt z H v d → Dt z H w d → Eqd H n v w
  | 0, d, v, w, h, h1, h2 => eqd_leaf h h1 h2
  | n + 1, .tuple ds, v, w, h, h1, h2 => by
    have h : (decide (ds.length ≤ 1000) && ds.all (okD n)) = true := h
    rw [Bool.and_eq_true, decide_eq_true_eq, List.all_eq_true] at h
    match v, w, h1, h2 with
    | _, _, .tup (a := a) (xs := xs) ha hx, .tup (a := b) (xs := ys) hb hy =>
      have e1 := hx.len
      have e2 := hy.len
      refine .inr ⟨a, b, xs, ys, rfl, rfl, .inr ⟨ha, hb⟩, by omega, by omega, fun i x y g1 g2 => ?_⟩
      obtain ⟨d, hd, k1⟩ := DtAll.at i hx g1
      obtain ⟨d', hd', k2⟩ := DtAll.at i hy g2
      have := hd.symm.trans hd'
      cases this
      exact eqd_dt n d x y (h.2 d (List.mem_of_getElem? hd)) k1 k2
  | n + 1, .none, v, w, h, h1, h2 => eqd_leaf h h1 h2
  | n + 1, .bool _, v, w, h, h1, h2 => eqd_leaf h h1 h2
  | n + 1, .int _, v, w, h, h1, h2 => eqd_leaf h h1 h2
  | n + 1, .str _, v, w, h, h1, h2 => eqd_leaf h h1 h2
  | n + 1, .list _, v, w, h, h1, h2 => by cases h
theorem okd_all : ((allW 4).all fun wl => okD 13 (.tuple (bkL (dueB wl)))) = true := by decide +kernel
theorem wr_len : ∀ k, (wrL k).length ≤ 24
  | 0 => by decide
  | _ + 1 => by show 23 ≤ 24; decide
theorem shaped_pair {tag : Str} (h : PyData.strOk tag = true) (i : Int) : SeqAt.shaped (.tuple [.str tag, .int i]) = true := by
  unfold SeqAt.shaped
  have e : PyData.canLay0 (.tuple [.str tag, .int i]) = (PyData.strOk tag && (true && true)) := rfl
  have d : (PyData.tuple [.str tag, .int i]).depth = 1 := rfl
  rw [e, h, d]
  decide
theorem eqv_tag (tag : Str) (i : Int) : PyData.eqv (.tuple [.str tag, .int i]) (.tuple [.str tag, .int i]) = true := by
  show (decide _ && (_ && true)) = true
  have e : PyData.eqv (.int i) (.int i) = true := by
    first
      | exact decide_eq_true rfl
      | exact beq_self_eq_true i
      | (unfold PyData.eqv; simp)
      | simp [PyData.eqv]
  rw [e]
  simp
theorem wds_S {t : List Nat} (h : t ≠ []) : wdsT (SX.S t) = (TL.spl [32] 0 [] t).map SX.S := by
  unfold wdsT
  rw [if_neg (by rw [s_nil, eqS]; exact h), s_sp]
  exact SX.split_S (by decide) (by decide)
theorem txt_ok {t : List Nat} (h : t.length ≤ 900) : TxtOk (SX.S t) := by
  have hl : (SX.S t).length = t.length := SX.S_len t
  unfold TxtOk wdsT
  refine ⟨by omega, ?_, fun x hx => ?_⟩
  · split
    · exact Nat.zero_le _
    · have := split_le (SX.S t) (Str.ofString " ")
      omega
  · split at hx
    · cases hx
    · have := part_short hx
      omega
theorem pick3 {z : Addr} {H : Hp} {v1 v2 v3 : V} {wl : List Nat} {k : Nat} (hk : k < 3) (h1 : Dt z H v1 (.tuple [.str (Str.ofString "repeat"), .int 2, .tuple (bkL (dueB wl))])) (h2 : Dt z H v2 (.tuple [.str (Str.ofString "either"), .tuple (bkL (dueB wl)), .tuple []]))
    (h3 : Dt z H v3 (.tuple [.str (Str.ofString "either"), .tuple [], .tuple (bkL (dueB wl))])) : ∃ ev D, [v1, v2, v3][k]? = some ev ∧ bkL (dueB (k :: wl)) = [D] ∧ Dt z H ev D := by
  match k, hk with
  | 0, _ => exact ⟨_, _, rfl, rfl, h1⟩
  | 1, _ => exact ⟨_, _, rfl, rfl, h2⟩
  | 2, _ => exact ⟨_, _, rfl, rfl, h3⟩
theorem small_log2 {v : Int} (h : v.natAbs ≤ 8000) : v.natAbs.log2 < 4096 := log2_mono (b := 8000) h (by decide +kernel)
theorem new_ne {H : Hp} {a c p : Addr} (h : FeedOk H a c) (n : H p = none) : p ≠ a := by
  obtain ⟨_, _, _, _, e, _⟩ := h
  intro z
  rw [z, e] at n
  cases n
theorem mid_of {m : Int} (h : 0 < m) (h2 : m ≤ 8000) : Mid m := ⟨h, Nat.lt_trans (small_log2 (by omega)) (by decide)⟩
section
variable {P : Program} {w : World} {K : PySem.W.Frag} {mg : Str → Option Value} {base : Heap} {fa : Nat → Addr} {fd : Nat → FuncData}
def spLaw (K : PySem.W.Frag) (Pt : Addr) : Sp := fun vs H Q _ => ∃ (a : Addr) (ns : List Int), vs = [.ref a] ∧ SqL K H a (ns.map V.int) ∧ ns.length ≤ 63 ∧ LamX.Tabs (tbs Pt) H ∧ ∀ H', Q (.bl true) H'
theorem ok_p_law (T : Txt K mg fa fd) {c Pt : Addr} (FL : FunC K "law" s_p_law (fa 68) (fd 68) c) (TB : LamX.TabB base mg c Pt) : FnOk P w K mg base CX0 58 (fa 68) (fd 68) ["_law_script"] (spLaw K Pt) := by
  refine FL.ok sc_p_law (fun vs H Q E h => ?_) (fun A outer s H vs Q E hr h => ?_)
  · obtain ⟨a, ns, rfl, _⟩ := h
    rfl
  · obtain ⟨s0, ns, rfl, hS, hlen, hT0, q⟩ := h
    refine ⟨_, (C8.pss_cut (ps_set (i := 1) sc_p_law.nd rfl (.inl rfl) (pe_call (ok_feed T) (hr.mono (by decide)) (by rfl) T.g_feed T.F_feed.kp T.b_feed .nil pass0 (pa_cons (pv 0) pa_nil)))
      (C8.pss_cut (ps_for PassesOwn.never rfl (pi_range1 (by rfl) T.m_range (pa_cons pe_int pa_nil)) (pg_name (i := 2) sc_p_law.nd rfl (.inl rfl)) (C8.pss_cut (ps_asg (pe_tup (pa_cons pe_str (pa_cons pe_str (pa_cons (pe_tup (pa_cons (pe_tup (pa_cons pe_str (pa_cons pe_str pa_nil))) pa_nil)) pa_nil)))) (pg_tup (by rfl) (pgs_cons (pg_name (i := 7) sc_p_law.nd rfl (.inr rfl)) (pgs_cons (pg_name (i := 8) sc_p_law.nd rfl (.inr rfl)) (pgs_cons (pg_name (i := 3) sc_p_law.nd rfl (.inl rfl)) pgs_nil)))))
      (C8.pss_cut (ps_for PassesOwn.never rfl (pi_range1 (by rfl) T.m_range (pa_cons pe_int pa_nil)) (pg_name (i := 4) sc_p_law.nd rfl (.inl rfl)) (C8.pss_cut (ps_set (i := 5) sc_p_law.nd rfl (.inl rfl) (pe_call (ok_draw T) (hr.mono (by decide)) (by rfl) T.g_draw T.F_draw.kp T.b_draw .nil pass0 (pa_cons (pv 1) (pa_cons pe_int pa_nil))))
      (C8.pss_cut (ps_set (i := 7) sc_p_law.nd rfl (.inr rfl) (pe_op op_add_str (pe_ix ix_list (pe_lst (pa_cons pe_str (pa_cons pe_str (pa_cons pe_str pa_nil)))) (pv 5) (fun _ _ => rfl)) (pv 7)))
      (C8.pss_cut (ps_set (i := 8) sc_p_law.nd rfl (.inr rfl) (pe_op op_add_str (pv 8) (pe_ix ix_list (pe_lst (pa_cons pe_str (pa_cons pe_str (pa_cons pe_str pa_nil)))) (pv 5) (fun _ _ => rfl))))
      (pss_one (ps_set (i := 3) sc_p_law.nd rfl (.inl rfl) (pe_tup (pa_cons (pe_ix ix_list (pe_lst (pa_cons (pe_tup (pa_cons pe_str (pa_cons pe_int (pa_cons (pv 3) pa_nil)))) (pa_cons (pe_tup (pa_cons pe_str (pa_cons (pv 3) (pa_cons (pe_tup pa_nil) pa_nil)))) (pa_cons (pe_tup (pa_cons pe_str (pa_cons (pe_tup pa_nil) (pa_cons (pv 3) pa_nil)))) pa_nil)))) (pv 5) (fun _ _ => rfl)) pa_nil))))))))
      (C8.pss_cut (ps_if (pt_not (pt_val (pe_call (ok_same T 14) (hr.mono (by decide)) (by rfl) T.g_same T.F_same.kp T.b_same .nil pass0 (pa_cons (pe_call (ok_p_read_program T) (hr.mono (by decide)) (by rfl) T.g_p_read_program T.F_p_read_program.kp T.b_p_read_program .nil passL (pa_cons (pe_op op_add_str (pe_op op_add_str (pv 7) pe_str) (pv 8)) pa_nil)) (pa_cons (pv 3) pa_nil))))) (pss_one (ps_ret pe_bl)) pss_nil)
      (C8.pss_cut (ps_set (i := 9) sc_p_law.nd rfl (.inr rfl) (pe_call (ok_any T) (hr.mono (by decide)) (by rfl) T.g_any T.F_any.kp T.b_any .nil pass0 (pa_cons (pv 1) (pa_cons (pe_lst (pa_cons pe_str (pa_cons pe_str pa_nil))) pa_nil))))
      (C8.pss_cut (ps_set (i := 6) sc_p_law.nd rfl (.inl rfl) (pe_op op_add (pe_op op_sub (pe_callB call_len_seq (by rfl) T.m_len PySem.boot_len (pa_cons (pe_m1 PySem.F.slot_str_split PySem.F.type_str_split mt_split (pv 7) pe_str (by rfl) (by rfl) (by rfl)) pa_nil)) pe_int) (pe_ifExp (pt_cmpR op_eq (pe_slice sl_str (pv 9) po_none (po_some pe_int)) pe_str (nomark _)) pe_int pe_int)))
      (pss_one (ps_if (pt_cmpR (op_neD hr.units) (pe_why T TB rfl (hr.mono (by decide)) (by rfl) (LamX.lamS_by (by show LamX.lamSB (defScope s_p_law) _ = true; decide +kernel)) (fun A outer s H E f c2 hr2 => pe_call (k := 55) (ok_p_read_program T) hr2 (by rfl) T.g_p_read_program T.F_p_read_program.kp T.b_p_read_program .nil (passes_call (takes_of rfl rfl rfl rfl) (fun _ _ _ _ h => h)) (pa_cons (pe_op op_add_str (pe_op op_add_str (pv 7) (pv 9)) (pv 8)) pa_nil))) (pe_tup (pa_cons pe_str (pa_cons (pv 6) pa_nil))) (nomark _)) (pss_one (ps_ret pe_bl)) pss_nil))))))))
      (pss_one (ps_ret pe_bl)))), ?_⟩
    refine ⟨fun σ H1 => ∃ a c, σ = [some (.ref s0), some (.ref a), none, none, none, none, none, none, none, none] ∧ FeedOk H1 a c ∧ LamX.Tabs (tbs Pt) H1, ⟨_, rfl, s0, ns, rfl, hS, hlen, fun a c H1 _ _ s1 hF => ⟨a, c, rfl, hF, hT0.ext s1⟩⟩, fun σ H1 hM => ?_⟩
    obtain ⟨a, c, rfl, hF, hT1⟩ := hM
    refine ⟨fun σ H2 => True, ?_, fun σ H2 hM => q _⟩
    refine ⟨4, rfl, by decide, by decide, for_range (n := 4) (fun i σ H2 => FeedOk H2 a c ∧ LamX.Tabs (tbs Pt) H2 ∧ ∃ y2 y3 y4 y5 y6 y7 y8 y9, σ = [some (.ref s0), some (.ref a), y2, y3, y4, y5, y6, y7, y8, y9]) ⟨hF, hT1, _, _, _, _, _, _, _, _, rfl⟩ (fun i σ H2 hi hp => ?_) (fun σ H2 hp => trivial)⟩
    obtain ⟨hF2, hT2, y2, y3, y4, y5, y6, y7, y8, y9, rfl⟩ := hp
    have xl : (Str.ofString "x").length ≤ 1000 := by decide +kernel
    -- the innermost
    refine ⟨fun σ G => FeedOk G a c ∧ LamX.Tabs (tbs Pt) G ∧ ∃ dv y2, Dt a G dv (.tuple (bkL (dueB []))) ∧ σ = [some (.ref s0), some (.ref a), y2, some dv, y4, y5, y6, some (.str (SX.S [])), some (.str (SX.S [])), y9], ?_, fun σ G hM => ?_⟩
    · refine ⟨two_line, fun e1 n1 => ?_⟩
      obtain ⟨t1, d1⟩ := dnewT (z := a) n1 (.cons (.str (Str.ofString "any") (by decide +kernel)) (.cons (.str (Str.ofString "x") xl) .nil))
      refine ⟨small_line (by show 1 ≤ 1000; decide), fun e2 n2 => ?_⟩
      obtain ⟨t2, d2⟩ := dnewT (z := a) n2 (.cons d1 .nil)
      refine ⟨small_line (by show 3 ≤ 1000; decide), fun e3 n3 => ?_⟩
      have t3 := same_upd (o := HO.tup [V.str (Str.ofString ""), .str (Str.ofString ""), .ref e2]) n3
      have s3 := t1.trans (t2.trans t3)
      refine ⟨e3, _, rfl, SqT.of upd_same, rfl, _, _, rfl, _, _, rfl, _, _, rfl, rfl, hF2.same s3, hT2.ext s3, .ref e2, some (.int ((0 : Int) + (i : Int))), ?_, ?_⟩
      · have := d2.same t3
        rw [show (Str.ofString "x" : Str) = SX.S [120] by decide +kernel] at this
        exact this
      · rw [← s_nil]
        rfl
    obtain ⟨hF3, hT3, dv, y2', hdv, rfl⟩ := hM
    clear hF2 hT2
    -- four blocks
    refine ⟨fun σ G2 => FeedOk G2 a c ∧ LamX.Tabs (tbs Pt) G2 ∧ ∃ (wl : List Nat) (dv : V) (y4 y5 : Option V), wl ∈ allW 4 ∧ Dt a G2 dv (.tuple (bkL (dueB wl))) ∧ σ = [some (.ref s0), some (.ref a), y2', some dv, y4, y5, y6, some (.str (SX.S (ahL wl))), some (.str (SX.S (beL wl))), y9], ?_, fun σ G2 hM => ?_⟩
    · refine ⟨4, rfl, by decide, by decide, for_range (n := 4) (fun j σ G2 => FeedOk G2 a c ∧ LamX.Tabs (tbs Pt) G2 ∧ ∃ (wl : List Nat) (dv : V) (y4 y5 : Option V), wl ∈ allW j ∧ Dt a G2 dv (.tuple (bkL (dueB wl))) ∧ σ = [some (.ref s0), some (.ref a), y2', some dv, y4, y5, y6, some (.str (SX.S (ahL wl))), some (.str (SX.S (beL wl))), y9]) ⟨hF3, hT3, [], dv, _, _, List.mem_singleton.mpr rfl, hdv, rfl⟩ (fun j σ G2 hj hq => ?_) (fun σ G2 hq => hq)⟩
      obtain ⟨hF4, hT4, wl, dv, y4, y5, hwl, hdv, rfl⟩ := hq
      have wlen := allW_len hwl
      obtain ⟨al, bl⟩ := ah_len wl
      -- way
      refine ⟨fun σ G3 => FeedOk G3 a c ∧ LamX.Tabs (tbs Pt) G3 ∧ ∃ (k : Nat) (y4 : Option V), k < 3 ∧ Dt a G3 dv (.tuple (bkL (dueB wl))) ∧ σ = [some (.ref s0), some (.ref a), y2', some dv, y4, some (.int (k : Int)), y6, some (.str (SX.S (ahL wl))), some (.str (SX.S (beL wl))), y9], ?_, fun σ G3 hM => ?_⟩
      · refine ⟨_, rfl, a, c, _, rfl, hF4, mid_of (by decide) (by decide), fun r H3 r0 r1 hF5 b5 => ?_⟩
        obtain ⟨k, rfl⟩ := Int.eq_ofNat_of_zero_le r0
        exact ⟨hF5, tabs_but hF4 b5 hT4, k, _, by omega, hdv.but hF4 b5, rfl⟩
      obtain ⟨hF5, hT5, k, y4', hk, hdv, rfl⟩ := hM
      obtain ⟨pl1, pl2⟩ := pc_len k
      have ka : ∀ x0 x1 x2 : V, atI [x0, x1, x2] (k : Int) = [x0, x1, x2][k]? := fun x0 x1 x2 => by
        match k, hk with
        | 0, _ => rfl
        | 1, _ => rfl
        | 2, _ => rfl
      -- ahead
      refine ⟨fun σ G4 => Same G3 G4 ∧ σ = [some (.ref s0), some (.ref a), y2', some dv, y4', some (.int (k : Int)), y6, some (.str (SX.S (ahL (k :: wl)))), some (.str (SX.S (beL wl))), y9], ?_, fun σ G4 hM => ?_⟩
      · refine ⟨small_line (by show 3 ≤ 1000; decide), fun l nl => ⟨_, rfl, l, _, _, .str (SX.S (pcA k)), rfl, rfl, SqL.of upd_same, ?_, _, rfl, _, _, rfl, rfl, ?_, ?_⟩⟩
        · rw [ka, s_pcA0, s_pcA1, s_pcA2]
          match k, hk with
          | 0, _ => rfl
          | 1, _ => rfl
          | 2, _ => rfl
        · rw [SX.S_len, SX.S_len]
          exact small_line (by omega)
        · rw [SX.S_cat]
          exact ⟨same_upd nl, rfl⟩
      obtain ⟨s4, rfl⟩ := hM
      -- behind
      refine ⟨fun σ G5 => Same G3 G5 ∧ σ = [some (.ref s0), some (.ref a), y2', some dv, y4', some (.int (k : Int)), y6, some (.str (SX.S (ahL (k :: wl)))), some (.str (SX.S (beL (k :: wl)))), y9], ?_, fun σ G5 hM => ?_⟩
      · refine ⟨_, rfl, small_line (by show 3 ≤ 1000; decide), fun l nl => ⟨_, rfl, l, _, _, .str (SX.S (pcB k)), rfl, rfl, SqL.of upd_same, ?_, _, _, rfl, rfl, ?_, ?_⟩⟩
        · rw [ka, s_pcB0, s_pcB1]
          match k, hk with
          | 0, _ => rfl
          | 1, _ => rfl
          | 2, _ => rfl
        · rw [SX.S_len, SX.S_len]
          exact small_line (by omega)
        · rw [SX.S_cat]
          exact ⟨s4.trans (same_upd nl), rfl⟩
      obtain ⟨s5, rfl⟩ := hM
      have hdv := hdv.same s5
      have hF6 := hF5.same s5
      have hT6 := hT5.ext s5
      -- due
      refine ⟨_, rfl, small_line (by show 3 ≤ 1000; decide), fun e1 n1 => ?_⟩
      obtain ⟨t1, d1⟩ := dnewT (z := a) n1 (.cons (.str (Str.ofString "repeat") (by decide +kernel)) (.cons (.int 2 (by decide +kernel)) (.cons hdv .nil)))
      refine ⟨_, rfl, Nat.zero_le _, fun e2 n2 => ?_⟩
      obtain ⟨t2, d2⟩ := dnewT (z := a) n2 (.nil : DtAll a _ [] [])
      refine ⟨small_line (by show 3 ≤ 1000; decide), fun e3 n3 => ?_⟩
      obtain ⟨t3, d3⟩ := dnewT (z := a) n3 (.cons (.str (Str.ofString "either") (by decide +kernel)) (.cons (hdv.same (t1.trans t2)) (.cons d2 .nil)))
      refine ⟨Nat.zero_le _, fun e4 n4 => ?_⟩
      obtain ⟨t4, d4⟩ := dnewT (z := a) n4 (.nil : DtAll a _ [] [])
      refine ⟨_, rfl, small_line (by show 3 ≤ 1000; decide), fun e5 n5 => ?_⟩
      obtain ⟨t5, d5⟩ := dnewT (z := a) n5 (.cons (.str (Str.ofString "either") (by decide +kernel)) (.cons d4 (.cons (hdv.same (t1.trans (t2.trans (t3.trans t4)))) .nil)))
      refine ⟨small_line (by show 3 ≤ 1000; decide), fun l nl => ?_⟩
      have t6 := same_upd (o := HO.lst [V.ref e1, .ref e3, .ref e5]) nl
      have s16 := t1.trans (t2.trans (t3.trans (t4.trans (t5.trans t6))))
      obtain ⟨ev, D, hev, eD, hD⟩ := pick3 (wl := wl) hk (d1.same (t2.trans (t3.trans (t4.trans (t5.trans t6))))) (d3.same (t4.trans (t5.trans t6))) (d5.same t6)
      refine ⟨_, rfl, l, _, _, ev, rfl, rfl, SqL.of upd_same, (ka _ _ _).trans hev, small_line (by show 1 ≤ 1000; decide), fun o no => ?_⟩
      obtain ⟨t7, d7⟩ := dnewT (z := a) no (.cons hD .nil)
      refine ⟨(hF6.same s16).same t7, (hT6.ext s16).ext t7, k :: wl, .ref o, _, _, allW_mem hwl hk, ?_, rfl⟩
      rw [eD]
      exact d7
    obtain ⟨hF4, hT4, wl, dv, y4', y5', hwl, hdv, rfl⟩ := hM
    have wlen := allW_len hwl
    obtain ⟨al, bl⟩ := ah_len wl
    have gd := List.all_eq_true.mp good_all wl hwl
    unfold goodW at gd
    rw [Bool.and_eq_true, decide_eq_true_eq] at gd
    have okd := List.all_eq_true.mp okd_all wl hwl
    have bad := List.all_eq_true.mp bad_all wl hwl
    rw [Bool.and_eq_true] at bad
    -- the program of four
    refine ⟨fun σ G5 => Same G2 G5 ∧ σ = [some (.ref s0), some (.ref a), y2', some dv, y4', y5', y6, some (.str (SX.S (ahL wl))), some (.str (SX.S (beL wl))), y9], ?_, fun σ G5 hM => ?_⟩
    · refine ⟨_, rfl, _, _, rfl, rfl, ?_, ?_⟩
      · rw [s_anyx, SX.S_len, SX.S_len]
        exact small_line (by show (ahL wl).length + 5 ≤ 1000; omega)
      rw [s_anyx, SX.S_cat]
      refine ⟨_, rfl, _, _, rfl, rfl, ?_, ?_⟩
      · rw [SX.S_len, SX.S_len, List.length_append]
        exact small_line (by show (ahL wl).length + 5 + (beL wl).length ≤ 1000; omega)
      rw [SX.S_cat]
      have fl : (fullT wl).length ≤ 900 := by
        unfold fullT
        rw [List.length_append, List.length_append]
        show (ahL wl).length + 5 + (beL wl).length ≤ 900
        omega
      have fn : fullT wl ≠ [] := by
        unfold fullT
        simp
      refine ⟨SX.S (fullT wl), .ok (dueB wl), rfl, txt_ok fl, by rw [wds_S fn, rdP_L]; exact isOk_eq gd.1, fun z pv H5 s5 dp => ?_⟩
      have dp := Dt.tups (z' := a) (TT.of (Same.refl H5)) (.tuple (bkL (dueB wl))) _ (noLs_bk (dueB wl)) dp
      refine ⟨_, rfl, pv, dv, rfl, eqd_dt 13 _ _ _ okd dp (hdv.same s5) , fun H6 s6 => ⟨_, rfl, iteF ⟨s5.trans s6, rfl⟩⟩⟩
    obtain ⟨s5, rfl⟩ := hM
    have hF5 := hF4.same s5
    have hT5 := hT4.ext s5
    clear hF4 hT4 hdv s5
    -- a wrong one
    refine ⟨fun σ G6 => FeedOk G6 a c ∧ LamX.Tabs (tbs Pt) G6 ∧ ∃ k : Nat, k < 2 ∧ σ = [some (.ref s0), some (.ref a), y2', some dv, y4', y5', y6, some (.str (SX.S (ahL wl))), some (.str (SX.S (beL wl))), some (.str (SX.S (wrL k)))], ?_, fun σ G6 hM => ?_⟩
    · refine ⟨_, rfl, two_line, fun l nl => ⟨a, c, l, _, rfl, hF5.new nl, upd_same, new_ne hF5 nl, by show 0 < 2; decide, by show 2 ≤ 1000; decide, fun v H2 hv hF2 b2 => ?_⟩⟩
      have hT6 := tabs_but (hF5.new nl) b2 (hT5.ext (same_upd nl))
      simp only [List.mem_cons, List.not_mem_nil, or_false] at hv
      rcases hv with rfl | rfl
      · exact ⟨hF2, hT6, 0, by decide, by rw [s_wrL0]; rfl⟩
      · exact ⟨hF2, hT6, 1, by decide, by rw [s_wrL1]; rfl⟩
    obtain ⟨hF6, hT6, k, hk, rfl⟩ := hM
    clear hF5 hT5
    have wk := wr_len k
    have bd : badW wl k = true := by
      match k, hk with
      | 0, _ => exact bad.1
      | 1, _ => exact bad.2
    -- its place
    refine ⟨fun σ G7 => Same G6 G7 ∧ σ = [some (.ref s0), some (.ref a), y2', some dv, y4', y5', some (.int (atW wl k : Nat)), some (.str (SX.S (ahL wl))), some (.str (SX.S (beL wl))), some (.str (SX.S (wrL k)))], ?_, fun σ G7 hM => ?_⟩
    · refine ⟨_, rfl, ⟨_, rfl⟩, _, _, rfl, rfl, by decide +kernel, by rw [SX.S_len, sizeLine_eq]; omega, fun p np => ?_⟩
      have el : ((Txt.split (SX.S (ahL wl)) (Str.ofString " ")).map V.str).length = lnA wl := by
        rw [List.length_map, s_sp, show Txt.split (SX.S (ahL wl)) (SX.S [32]) = (TL.spl [32] 0 [] (ahL wl)).map SX.S from SX.split_S (by decide) (by decide), List.length_map]
        rfl
      refine ⟨p, _, rfl, .inl (SqL.of upd_same), _, _, rfl, rfl, ?_⟩
      rw [el]
      have e0 : ((lnA wl : Int) - 1 + 2) = ((atW wl 0 : Nat) : Int) := by
        have := gd.2
        unfold atW
        rw [if_pos rfl]
        omega
      have e1 : ((lnA wl : Int) - 1 + 1) = ((atW wl 1 : Nat) : Int) := by
        have := gd.2
        unfold atW
        rw [if_neg (by decide)]
        omega
      refine ⟨_, rfl, 6, rfl, _, rfl, by rw [SX.S_len]; exact small_line (by omega), rfl, _, rfl, ?_⟩
      match k, hk with
      | 0, _ => exact iteT' (by decide +kernel) ⟨_, _, rfl, rfl, same_upd np, by rw [← e0]; rfl⟩
      | 1, _ => exact iteF' (by decide +kernel) ⟨_, _, rfl, rfl, same_upd np, by rw [← e1]; rfl⟩
    obtain ⟨s7, rfl⟩ := hM
    have hF7 := hF6.same s7
    have hT7 := hT6.ext s7
    clear hF6 hT6 s7
    have bl2 : (badT wl k).length ≤ 900 := by
      unfold badT
      rw [List.length_append, List.length_append]
      omega
    have bn : badT wl k ≠ [] := by
      unfold badT
      match k, hk with
      | 0, _ => simp [wrL]
      | 1, _ => simp [wrL]
    have bz : ((atW wl k : Nat) : Int).natAbs.log2 < 4096 := by
      have h1 : (Txt.split (SX.S (ahL wl)) (Str.ofString " ")).length = lnA wl := by
        rw [s_sp, show Txt.split (SX.S (ahL wl)) (SX.S [32]) = (TL.spl [32] 0 [] (ahL wl)).map SX.S from SX.split_S (by decide) (by decide), List.length_map]
        rfl
      have h2 := split_le (SX.S (ahL wl)) (Str.ofString " ")
      rw [SX.S_len] at h2
      refine small_log2 ?_
      unfold atW
      split <;> omega
    refine ⟨hT7, fun H10 x10 hT10 H11 Q' E' s11 hQ hE => ?_⟩
    refine ⟨_, rfl, _, rfl, _, _, rfl, rfl, by rw [SX.S_len, SX.S_len]; exact small_line (by omega), ?_⟩
    rw [SX.S_cat]
    refine ⟨_, rfl, _, _, rfl, rfl, by rw [SX.S_len, SX.S_len, List.length_append]; exact small_line (by omega), ?_⟩
    rw [SX.S_cat]
    refine ⟨SX.S (badT wl k), .error (atW wl k), rfl, txt_ok bl2, by rw [wds_S bn, rdP_L]; exact isEr_eq bd, fun dd H12 s12 hd12 => hE _ _ _ (why_parse T hd12 fun rr H13 s13 hr13 => ?_)⟩
    refine ⟨_, rfl, two_line, fun u nu => ?_⟩
    have d1 : Dt a H13 (.ref rr) (.tuple [.str (Str.ofString "ParseError"), .int ((atW wl k : Nat) : Int)]) := .tup hr13 (.cons (.str _ (by decide +kernel)) (.cons (.int _ bz) .nil))
    obtain ⟨su, d2⟩ := dnewT (z := a) nu (.cons (.str (Str.ofString "ParseError") (by decide +kernel)) (.cons (.int ((atW wl k : Nat) : Int) bz) .nil))
    have sp := shaped_pair (tag := Str.ofString "ParseError") (by decide +kernel) ((atW wl k : Nat) : Int)
    refine ⟨_, _, (d1.same su).dp _ _, d2.dp _ _, sp, sp, _, rfl, ?_⟩
    rw [eqv_tag]
    refine iteF' rfl ⟨(hF7.ext x10).same (s11.trans (s12.trans (s13.trans su))), (hT10.ext s11).ext (s12.trans (s13.trans su)), _, _, _, _, _, _, _, _, rfl⟩
end
theorem all_mk {q0 : Program} {lo : List Str} {mean : ExcName → Option Value} {mb : Str → Option Value} {l : PySem.W.OpenLaw} {w : World} {K : PySem.W.Frag} {h : Heap} {mg : Str → Option Value} {fl f12 f13 f14 f15 f16 f17 f18 f19 f20 f21 f22 f28 f29 f30 f31 f32 f33 f34 f36 f37 f38 f39 f40 f41 f43 f44 f49 f50 f51 f52 f53 f54 f55 f56 f57 f58 f59 f60 f62 f63 f64 f65 f66 f67 f68 f1 f4 f5 f1004 fZ_STATEMENTS fZ_TIMES cc Pt : Addr} {d0 : DefRec} (TP : Top q0 lo mean mg mb h) (X : K.In h) (hfa : mg "law" = some (.ref fl)) (hr0 : (recsOf q0).find? (fun e : DefRec => e.name == ("law" : Str)) = some d0)
    {od12 an12 od13 an13 od14 an14 od15 an15 od16 an16 od17 an17 od18 an18 od19 an19 od20 an20 od21 an21 od22 an22 od28 an28 od29 an29 od30 an30 od31 an31 od32 an32 od33 an33 od34 an34 od36 an36 od37 an37 od38 an38 od39 an39 od40 an40 od41 an41 od43 an43 od44 an44 od49 an49 od50 an50 od51 an51 od52 an52 od53 an53 od54 an54 od55 an55 od56 an56 od57 an57 od58 an58 od59 an59 od60 an60 od62 an62 od63 an63 od64 an64 od65 an65 od66 an66 od67 an67 od68 an68 od1004 an1004 : Option Addr}
    {sl12 sl13 sl14 sl15 sl16 sl17 sl18 sl19 sl20 sl21 sl22 sl28 sl29 sl30 sl31 sl32 sl33 sl34 sl36 sl37 sl38 sl39 sl40 sl41 sl43 sl44 sl49 sl50 sl51 sl52 sl53 sl54 sl55 sl56 sl57 sl58 sl59 sl60 sl62 sl63 sl64 sl65 sl66 sl67 sl68 sl1004 : Array (Option Value)}
    {oc12 kV12 dc12 pm12 ct12 cd12 oc13 kV13 dc13 pm13 ct13 cd13 oc14 kV14 dc14 pm14 ct14 cd14 oc15 kV15 dc15 pm15 ct15 cd15 oc16 kV16 dc16 pm16 ct16 cd16 oc17 kV17 dc17 pm17 ct17 cd17 oc18 kV18 dc18 pm18 ct18 cd18 oc19 kV19 dc19 pm19 ct19 cd19 oc20 kV20 dc20 pm20 ct20 cd20 oc21 kV21 dc21 pm21 ct21 cd21 oc22 kV22 dc22 pm22 ct22 cd22 oc28 kV28 dc28 pm28 ct28 cd28 oc29 kV29 dc29 pm29 ct29 cd29 oc30 kV30 dc30 pm30 ct30 cd30 oc31 kV31 dc31 pm31 ct31 cd31 oc32 kV32 dc32 pm32 ct32 cd32 oc33 kV33 dc33 pm33 ct33 cd33 oc34 kV34 dc34 pm34 ct34 cd34 oc36 kV36 dc36 pm36 ct36 cd36 oc37 kV37 dc37 pm37 ct37 cd37 oc38 kV38 dc38 pm38 ct38 cd38 oc39 kV39 dc39 pm39 ct39 cd39 oc40 kV40 dc40 pm40 ct40 cd40 oc41 kV41 dc41 pm41 ct41 cd41 oc43 kV43 dc43 pm43 ct43 cd43 oc44 kV44 dc44 pm44 ct44 cd44 oc49 kV49 dc49 pm49 ct49 cd49 oc50 kV50 dc50 pm50 ct50 cd50 oc51 kV51 dc51 pm51 ct51 cd51 oc52 kV52 dc52 pm52 ct52 cd52 oc53 kV53 dc53 pm53 ct53 cd53 oc54 kV54 dc54 pm54 ct54 cd54 oc55 kV55 dc55 pm55 ct55 cd55 oc56 kV56 dc56 pm56 ct56 cd56 oc57 kV57 dc57 pm57 ct57 cd57 oc58 kV58 dc58 pm58 ct58 cd58 oc59 kV59 dc59 pm59 ct59 cd59 oc60 kV60 dc60 pm60 ct60 cd60 oc62 kV62 dc62 pm62 ct62 cd62 oc63 kV63 dc63 pm63 ct63 cd63 oc64 kV64 dc64 pm64 ct64 cd64 oc65 kV65 dc65 pm65 ct65 cd65 oc66 kV66 dc66 pm66 ct66 cd66 oc67 kV67 dc67 pm67 ct67 cd67 oc68 kV68 dc68 pm68 ct68 oc1004 kV1004 dc1004 pm1004 ct1004 cd1004 : Value}
    {fT14 : Addr} {ocT14 : Value} {odT14 : Option Addr} {nT14 : Nat} {slT14 : Array (Option Value)} {tk14_0 : Tok}
    {nm4 q4 : Str} {N4 : Addr} {bs4 : List Value} {sn4 : List Str} {sub4 : List Value} {ab4 : Bool} {col4 : Option Bool} {dd4 : Option Addr} {m04 m14 m24 m34 m54 : Option Value}
    {odZ_STATEMENTS : Option Addr} {nZ_STATEMENTS : Nat} {slZ_STATEMENTS : Array (Option Value)} {tz_STATEMENTS0 tz_STATEMENTS1 tz_STATEMENTS2 tz_STATEMENTS3 tz_STATEMENTS4 : Tok}
    {odZ_TIMES : Option Addr} {nZ_TIMES : Nat} {slZ_TIMES : Array (Option Value)} {tz_TIMES0 tz_TIMES1 tz_TIMES2 tz_TIMES3 tz_TIMES4 : Tok}
    {tk_MOST_LETTERS : Tok}
    {tk_DEEPEST : Tok}
    (a12 : PySem.W.nsIn K mainGlobals "shortened" = some (some (.ref f12)))
    (l12 : K.lookup f12 = some ⟨oc12, od12, .func (PySem.W.fnOf "shortened" "shortened" (defArgs s_p_shortened) (defBody s_p_shortened) (defScope s_p_shortened) .none kV12 dc12 pm12 an12 cd12 ct12), sl12⟩)
    (c12 : PySem.W.codeIn K cd12 "shortened" = true)
    (k12 : PySem.W.keepIn K (.ref f12) = true)
    (a13 : PySem.W.nsIn K mainGlobals "common_divisor" = some (some (.ref f13)))
    (l13 : K.lookup f13 = some ⟨oc13, od13, .func (PySem.W.fnOf "common_divisor" "common_divisor" (defArgs s_p_common_divisor) (defBody s_p_common_divisor) (defScope s_p_common_divisor) .none kV13 dc13 pm13 an13 cd13 ct13), sl13⟩)
    (c13 : PySem.W.codeIn K cd13 "common_divisor" = true)
    (k13 : PySem.W.keepIn K (.ref f13) = true)
    (a14 : PySem.W.nsIn K mainGlobals "ratio" = some (some (.ref f14)))
    (l14 : K.lookup f14 = some ⟨oc14, od14, .func (PySem.W.fnOf "ratio" "ratio" (defArgs s_p_ratio) (defBody s_p_ratio) (defScope s_p_ratio) (.ref fT14) kV14 dc14 pm14 an14 cd14 ct14), sl14⟩)
    (c14 : PySem.W.codeIn K cd14 "ratio" = true)
    (k14 : PySem.W.keepIn K (.ref f14) = true)
    (t14 : K.lookup fT14 = some ⟨ocT14, odT14, .seq ([Value.int 1 tk14_0] : List Value).toArray nT14, slT14⟩)
    (a15 : PySem.W.nsIn K mainGlobals "add" = some (some (.ref f15)))
    (l15 : K.lookup f15 = some ⟨oc15, od15, .func (PySem.W.fnOf "add" "add" (defArgs s_p_add) (defBody s_p_add) (defScope s_p_add) .none kV15 dc15 pm15 an15 cd15 ct15), sl15⟩)
    (c15 : PySem.W.codeIn K cd15 "add" = true)
    (k15 : PySem.W.keepIn K (.ref f15) = true)
    (a16 : PySem.W.nsIn K mainGlobals "subtract" = some (some (.ref f16)))
    (l16 : K.lookup f16 = some ⟨oc16, od16, .func (PySem.W.fnOf "subtract" "subtract" (defArgs s_p_subtract) (defBody s_p_subtract) (defScope s_p_subtract) .none kV16 dc16 pm16 an16 cd16 ct16), sl16⟩)
    (c16 : PySem.W.codeIn K cd16 "subtract" = true)
    (k16 : PySem.W.keepIn K (.ref f16) = true)
    (a17 : PySem.W.nsIn K mainGlobals "multiply" = some (some (.ref f17)))
    (l17 : K.lookup f17 = some ⟨oc17, od17, .func (PySem.W.fnOf "multiply" "multiply" (defArgs s_p_multiply) (defBody s_p_multiply) (defScope s_p_multiply) .none kV17 dc17 pm17 an17 cd17 ct17), sl17⟩)
    (c17 : PySem.W.codeIn K cd17 "multiply" = true)
    (k17 : PySem.W.keepIn K (.ref f17) = true)
    (a18 : PySem.W.nsIn K mainGlobals "is_digits" = some (some (.ref f18)))
    (l18 : K.lookup f18 = some ⟨oc18, od18, .func (PySem.W.fnOf "is_digits" "is_digits" (defArgs s_p_is_digits) (defBody s_p_is_digits) (defScope s_p_is_digits) .none kV18 dc18 pm18 an18 cd18 ct18), sl18⟩)
    (c18 : PySem.W.codeIn K cd18 "is_digits" = true)
    (k18 : PySem.W.keepIn K (.ref f18) = true)
    (a19 : PySem.W.nsIn K mainGlobals "number_text" = some (some (.ref f19)))
    (l19 : K.lookup f19 = some ⟨oc19, od19, .func (PySem.W.fnOf "number_text" "number_text" (defArgs s_p_number_text) (defBody s_p_number_text) (defScope s_p_number_text) .none kV19 dc19 pm19 an19 cd19 ct19), sl19⟩)
    (c19 : PySem.W.codeIn K cd19 "number_text" = true)
    (k19 : PySem.W.keepIn K (.ref f19) = true)
    (a20 : PySem.W.nsIn K mainGlobals "number_of" = some (some (.ref f20)))
    (l20 : K.lookup f20 = some ⟨oc20, od20, .func (PySem.W.fnOf "number_of" "number_of" (defArgs s_p_number_of) (defBody s_p_number_of) (defScope s_p_number_of) .none kV20 dc20 pm20 an20 cd20 ct20), sl20⟩)
    (c20 : PySem.W.codeIn K cd20 "number_of" = true)
    (k20 : PySem.W.keepIn K (.ref f20) = true)
    (a21 : PySem.W.nsIn K mainGlobals "ratio_text" = some (some (.ref f21)))
    (l21 : K.lookup f21 = some ⟨oc21, od21, .func (PySem.W.fnOf "ratio_text" "ratio_text" (defArgs s_p_ratio_text) (defBody s_p_ratio_text) (defScope s_p_ratio_text) .none kV21 dc21 pm21 an21 cd21 ct21), sl21⟩)
    (c21 : PySem.W.codeIn K cd21 "ratio_text" = true)
    (k21 : PySem.W.keepIn K (.ref f21) = true)
    (a22 : PySem.W.nsIn K mainGlobals "ratio_of" = some (some (.ref f22)))
    (l22 : K.lookup f22 = some ⟨oc22, od22, .func (PySem.W.fnOf "ratio_of" "ratio_of" (defArgs s_p_ratio_of) (defBody s_p_ratio_of) (defScope s_p_ratio_of) .none kV22 dc22 pm22 an22 cd22 ct22), sl22⟩)
    (c22 : PySem.W.codeIn K cd22 "ratio_of" = true)
    (k22 : PySem.W.keepIn K (.ref f22) = true)
    (a28 : PySem.W.nsIn K mainGlobals "run_end" = some (some (.ref f28)))
    (l28 : K.lookup f28 = some ⟨oc28, od28, .func (PySem.W.fnOf "run_end" "run_end" (defArgs s_p_run_end) (defBody s_p_run_end) (defScope s_p_run_end) .none kV28 dc28 pm28 an28 cd28 ct28), sl28⟩)
    (c28 : PySem.W.codeIn K cd28 "run_end" = true)
    (k28 : PySem.W.keepIn K (.ref f28) = true)
    (a29 : PySem.W.nsIn K mainGlobals "number_symbol" = some (some (.ref f29)))
    (l29 : K.lookup f29 = some ⟨oc29, od29, .func (PySem.W.fnOf "number_symbol" "number_symbol" (defArgs s_p_number_symbol) (defBody s_p_number_symbol) (defScope s_p_number_symbol) .none kV29 dc29 pm29 an29 cd29 ct29), sl29⟩)
    (c29 : PySem.W.codeIn K cd29 "number_symbol" = true)
    (k29 : PySem.W.keepIn K (.ref f29) = true)
    (a30 : PySem.W.nsIn K mainGlobals "name_symbol" = some (some (.ref f30)))
    (l30 : K.lookup f30 = some ⟨oc30, od30, .func (PySem.W.fnOf "name_symbol" "name_symbol" (defArgs s_p_name_symbol) (defBody s_p_name_symbol) (defScope s_p_name_symbol) .none kV30 dc30 pm30 an30 cd30 ct30), sl30⟩)
    (c30 : PySem.W.codeIn K cd30 "name_symbol" = true)
    (k30 : PySem.W.keepIn K (.ref f30) = true)
    (a31 : PySem.W.nsIn K mainGlobals "symbol_at" = some (some (.ref f31)))
    (l31 : K.lookup f31 = some ⟨oc31, od31, .func (PySem.W.fnOf "symbol_at" "symbol_at" (defArgs s_p_symbol_at) (defBody s_p_symbol_at) (defScope s_p_symbol_at) .none kV31 dc31 pm31 an31 cd31 ct31), sl31⟩)
    (c31 : PySem.W.codeIn K cd31 "symbol_at" = true)
    (k31 : PySem.W.keepIn K (.ref f31) = true)
    (a32 : PySem.W.nsIn K mainGlobals "symbols_of" = some (some (.ref f32)))
    (l32 : K.lookup f32 = some ⟨oc32, od32, .func (PySem.W.fnOf "symbols_of" "symbols_of" (defArgs s_p_symbols_of) (defBody s_p_symbols_of) (defScope s_p_symbols_of) .none kV32 dc32 pm32 an32 cd32 ct32), sl32⟩)
    (c32 : PySem.W.codeIn K cd32 "symbols_of" = true)
    (k32 : PySem.W.keepIn K (.ref f32) = true)
    (a33 : PySem.W.nsIn K mainGlobals "read_term" = some (some (.ref f33)))
    (l33 : K.lookup f33 = some ⟨oc33, od33, .func (PySem.W.fnOf "read_term" "read_term" (defArgs s_p_read_term) (defBody s_p_read_term) (defScope s_p_read_term) .none kV33 dc33 pm33 an33 cd33 ct33), sl33⟩)
    (c33 : PySem.W.codeIn K cd33 "read_term" = true)
    (k33 : PySem.W.keepIn K (.ref f33) = true)
    (a34 : PySem.W.nsIn K mainGlobals "read_sum" = some (some (.ref f34)))
    (l34 : K.lookup f34 = some ⟨oc34, od34, .func (PySem.W.fnOf "read_sum" "read_sum" (defArgs s_p_read_sum) (defBody s_p_read_sum) (defScope s_p_read_sum) .none kV34 dc34 pm34 an34 cd34 ct34), sl34⟩)
    (c34 : PySem.W.codeIn K cd34 "read_sum" = true)
    (k34 : PySem.W.keepIn K (.ref f34) = true)
    (a36 : PySem.W.nsIn K mainGlobals "is_name" = some (some (.ref f36)))
    (l36 : K.lookup f36 = some ⟨oc36, od36, .func (PySem.W.fnOf "is_name" "is_name" (defArgs s_p_is_name) (defBody s_p_is_name) (defScope s_p_is_name) .none kV36 dc36 pm36 an36 cd36 ct36), sl36⟩)
    (c36 : PySem.W.codeIn K cd36 "is_name" = true)
    (k36 : PySem.W.keepIn K (.ref f36) = true)
    (a37 : PySem.W.nsIn K mainGlobals "reduced" = some (some (.ref f37)))
    (l37 : K.lookup f37 = some ⟨oc37, od37, .func (PySem.W.fnOf "reduced" "reduced" (defArgs s_p_reduced) (defBody s_p_reduced) (defScope s_p_reduced) .none kV37 dc37 pm37 an37 cd37 ct37), sl37⟩)
    (c37 : PySem.W.codeIn K cd37 "reduced" = true)
    (k37 : PySem.W.keepIn K (.ref f37) = true)
    (a38 : PySem.W.nsIn K mainGlobals "ascending_names" = some (some (.ref f38)))
    (l38 : K.lookup f38 = some ⟨oc38, od38, .func (PySem.W.fnOf "ascending_names" "ascending_names" (defArgs s_p_ascending_names) (defBody s_p_ascending_names) (defScope s_p_ascending_names) .none kV38 dc38 pm38 an38 cd38 ct38), sl38⟩)
    (c38 : PySem.W.codeIn K cd38 "ascending_names" = true)
    (k38 : PySem.W.keepIn K (.ref f38) = true)
    (a39 : PySem.W.nsIn K mainGlobals "brought_together" = some (some (.ref f39)))
    (l39 : K.lookup f39 = some ⟨oc39, od39, .func (PySem.W.fnOf "brought_together" "brought_together" (defArgs s_p_brought_together) (defBody s_p_brought_together) (defScope s_p_brought_together) .none kV39 dc39 pm39 an39 cd39 ct39), sl39⟩)
    (c39 : PySem.W.codeIn K cd39 "brought_together" = true)
    (k39 : PySem.W.keepIn K (.ref f39) = true)
    (a40 : PySem.W.nsIn K mainGlobals "tie_below" = some (some (.ref f40)))
    (l40 : K.lookup f40 = some ⟨oc40, od40, .func (PySem.W.fnOf "tie_below" "tie_below" (defArgs s_p_tie_below) (defBody s_p_tie_below) (defScope s_p_tie_below) .none kV40 dc40 pm40 an40 cd40 ct40), sl40⟩)
    (c40 : PySem.W.codeIn K cd40 "tie_below" = true)
    (k40 : PySem.W.keepIn K (.ref f40) = true)
    (a41 : PySem.W.nsIn K mainGlobals "read_ties" = some (some (.ref f41)))
    (l41 : K.lookup f41 = some ⟨oc41, od41, .func (PySem.W.fnOf "read_ties" "read_ties" (defArgs s_p_read_ties) (defBody s_p_read_ties) (defScope s_p_read_ties) .none kV41 dc41 pm41 an41 cd41 ct41), sl41⟩)
    (c41 : PySem.W.codeIn K cd41 "read_ties" = true)
    (k41 : PySem.W.keepIn K (.ref f41) = true)
    (a43 : PySem.W.nsIn K mainGlobals "whole_sum" = some (some (.ref f43)))
    (l43 : K.lookup f43 = some ⟨oc43, od43, .func (PySem.W.fnOf "whole_sum" "whole_sum" (defArgs s_p_whole_sum) (defBody s_p_whole_sum) (defScope s_p_whole_sum) .none kV43 dc43 pm43 an43 cd43 ct43), sl43⟩)
    (c43 : PySem.W.codeIn K cd43 "whole_sum" = true)
    (k43 : PySem.W.keepIn K (.ref f43) = true)
    (a44 : PySem.W.nsIn K mainGlobals "read_form" = some (some (.ref f44)))
    (l44 : K.lookup f44 = some ⟨oc44, od44, .func (PySem.W.fnOf "read_form" "read_form" (defArgs s_p_read_form) (defBody s_p_read_form) (defScope s_p_read_form) .none kV44 dc44 pm44 an44 cd44 ct44), sl44⟩)
    (c44 : PySem.W.codeIn K cd44 "read_form" = true)
    (k44 : PySem.W.keepIn K (.ref f44) = true)
    (a49 : PySem.W.nsIn K mainGlobals "word_at" = some (some (.ref f49)))
    (l49 : K.lookup f49 = some ⟨oc49, od49, .func (PySem.W.fnOf "word_at" "word_at" (defArgs s_p_word_at) (defBody s_p_word_at) (defScope s_p_word_at) .none kV49 dc49 pm49 an49 cd49 ct49), sl49⟩)
    (c49 : PySem.W.codeIn K cd49 "word_at" = true)
    (k49 : PySem.W.keepIn K (.ref f49) = true)
    (a50 : PySem.W.nsIn K mainGlobals "name_at" = some (some (.ref f50)))
    (l50 : K.lookup f50 = some ⟨oc50, od50, .func (PySem.W.fnOf "name_at" "name_at" (defArgs s_p_name_at) (defBody s_p_name_at) (defScope s_p_name_at) .none kV50 dc50 pm50 an50 cd50 ct50), sl50⟩)
    (c50 : PySem.W.codeIn K cd50 "name_at" = true)
    (k50 : PySem.W.keepIn K (.ref f50) = true)
    (a51 : PySem.W.nsIn K mainGlobals "form_at" = some (some (.ref f51)))
    (l51 : K.lookup f51 = some ⟨oc51, od51, .func (PySem.W.fnOf "form_at" "form_at" (defArgs s_p_form_at) (defBody s_p_form_at) (defScope s_p_form_at) .none kV51 dc51 pm51 an51 cd51 ct51), sl51⟩)
    (c51 : PySem.W.codeIn K cd51 "form_at" = true)
    (k51 : PySem.W.keepIn K (.ref f51) = true)
    (a52 : PySem.W.nsIn K mainGlobals "ties_at" = some (some (.ref f52)))
    (l52 : K.lookup f52 = some ⟨oc52, od52, .func (PySem.W.fnOf "ties_at" "ties_at" (defArgs s_p_ties_at) (defBody s_p_ties_at) (defScope s_p_ties_at) .none kV52 dc52 pm52 an52 cd52 ct52), sl52⟩)
    (c52 : PySem.W.codeIn K cd52 "ties_at" = true)
    (k52 : PySem.W.keepIn K (.ref f52) = true)
    (a53 : PySem.W.nsIn K mainGlobals "times_at" = some (some (.ref f53)))
    (l53 : K.lookup f53 = some ⟨oc53, od53, .func (PySem.W.fnOf "times_at" "times_at" (defArgs s_p_times_at) (defBody s_p_times_at) (defScope s_p_times_at) .none kV53 dc53 pm53 an53 cd53 ct53), sl53⟩)
    (c53 : PySem.W.codeIn K cd53 "times_at" = true)
    (k53 : PySem.W.keepIn K (.ref f53) = true)
    (a54 : PySem.W.nsIn K mainGlobals "check_word" = some (some (.ref f54)))
    (l54 : K.lookup f54 = some ⟨oc54, od54, .func (PySem.W.fnOf "check_word" "check_word" (defArgs s_p_check_word) (defBody s_p_check_word) (defScope s_p_check_word) .none kV54 dc54 pm54 an54 cd54 ct54), sl54⟩)
    (c54 : PySem.W.codeIn K cd54 "check_word" = true)
    (k54 : PySem.W.keepIn K (.ref f54) = true)
    (a55 : PySem.W.nsIn K mainGlobals "read_braces" = some (some (.ref f55)))
    (l55 : K.lookup f55 = some ⟨oc55, od55, .func (PySem.W.fnOf "read_braces" "read_braces" (defArgs s_p_read_braces) (defBody s_p_read_braces) (defScope s_p_read_braces) .none kV55 dc55 pm55 an55 cd55 ct55), sl55⟩)
    (c55 : PySem.W.codeIn K cd55 "read_braces" = true)
    (k55 : PySem.W.keepIn K (.ref f55) = true)
    (a56 : PySem.W.nsIn K mainGlobals "read_either" = some (some (.ref f56)))
    (l56 : K.lookup f56 = some ⟨oc56, od56, .func (PySem.W.fnOf "read_either" "read_either" (defArgs s_p_read_either) (defBody s_p_read_either) (defScope s_p_read_either) .none kV56 dc56 pm56 an56 cd56 ct56), sl56⟩)
    (c56 : PySem.W.codeIn K cd56 "read_either" = true)
    (k56 : PySem.W.keepIn K (.ref f56) = true)
    (a57 : PySem.W.nsIn K mainGlobals "read_repeat" = some (some (.ref f57)))
    (l57 : K.lookup f57 = some ⟨oc57, od57, .func (PySem.W.fnOf "read_repeat" "read_repeat" (defArgs s_p_read_repeat) (defBody s_p_read_repeat) (defScope s_p_read_repeat) .none kV57 dc57 pm57 an57 cd57 ct57), sl57⟩)
    (c57 : PySem.W.codeIn K cd57 "read_repeat" = true)
    (k57 : PySem.W.keepIn K (.ref f57) = true)
    (a58 : PySem.W.nsIn K mainGlobals "read_statement" = some (some (.ref f58)))
    (l58 : K.lookup f58 = some ⟨oc58, od58, .func (PySem.W.fnOf "read_statement" "read_statement" (defArgs s_p_read_statement) (defBody s_p_read_statement) (defScope s_p_read_statement) .none kV58 dc58 pm58 an58 cd58 ct58), sl58⟩)
    (c58 : PySem.W.codeIn K cd58 "read_statement" = true)
    (k58 : PySem.W.keepIn K (.ref f58) = true)
    (a59 : PySem.W.nsIn K mainGlobals "read_statements" = some (some (.ref f59)))
    (l59 : K.lookup f59 = some ⟨oc59, od59, .func (PySem.W.fnOf "read_statements" "read_statements" (defArgs s_p_read_statements) (defBody s_p_read_statements) (defScope s_p_read_statements) .none kV59 dc59 pm59 an59 cd59 ct59), sl59⟩)
    (c59 : PySem.W.codeIn K cd59 "read_statements" = true)
    (k59 : PySem.W.keepIn K (.ref f59) = true)
    (a60 : PySem.W.nsIn K mainGlobals "read_program" = some (some (.ref f60)))
    (l60 : K.lookup f60 = some ⟨oc60, od60, .func (PySem.W.fnOf "read_program" "read_program" (defArgs s_p_read_program) (defBody s_p_read_program) (defScope s_p_read_program) .none kV60 dc60 pm60 an60 cd60 ct60), sl60⟩)
    (c60 : PySem.W.codeIn K cd60 "read_program" = true)
    (k60 : PySem.W.keepIn K (.ref f60) = true)
    (a62 : PySem.W.nsIn K mainGlobals "_law_feed" = some (some (.ref f62)))
    (l62 : K.lookup f62 = some ⟨oc62, od62, .func (PySem.W.fnOf "_law_feed" "_law_feed" (defArgs s_feed) (defBody s_feed) (defScope s_feed) .none kV62 dc62 pm62 an62 cd62 ct62), sl62⟩)
    (c62 : PySem.W.codeIn K cd62 "_law_feed" = true)
    (k62 : PySem.W.keepIn K (.ref f62) = true)
    (a63 : PySem.W.nsIn K mainGlobals "_law_draw" = some (some (.ref f63)))
    (l63 : K.lookup f63 = some ⟨oc63, od63, .func (PySem.W.fnOf "_law_draw" "_law_draw" (defArgs s_draw) (defBody s_draw) (defScope s_draw) .none kV63 dc63 pm63 an63 cd63 ct63), sl63⟩)
    (c63 : PySem.W.codeIn K cd63 "_law_draw" = true)
    (k63 : PySem.W.keepIn K (.ref f63) = true)
    (a64 : PySem.W.nsIn K mainGlobals "_law_any" = some (some (.ref f64)))
    (l64 : K.lookup f64 = some ⟨oc64, od64, .func (PySem.W.fnOf "_law_any" "_law_any" (defArgs s_any) (defBody s_any) (defScope s_any) .none kV64 dc64 pm64 an64 cd64 ct64), sl64⟩)
    (c64 : PySem.W.codeIn K cd64 "_law_any" = true)
    (k64 : PySem.W.keepIn K (.ref f64) = true)
    (a65 : PySem.W.nsIn K mainGlobals "_law_same" = some (some (.ref f65)))
    (l65 : K.lookup f65 = some ⟨oc65, od65, .func (PySem.W.fnOf "_law_same" "_law_same" (defArgs s_same) (defBody s_same) (defScope s_same) .none kV65 dc65 pm65 an65 cd65 ct65), sl65⟩)
    (c65 : PySem.W.codeIn K cd65 "_law_same" = true)
    (k65 : PySem.W.keepIn K (.ref f65) = true)
    (a66 : PySem.W.nsIn K mainGlobals "_law_field" = some (some (.ref f66)))
    (l66 : K.lookup f66 = some ⟨oc66, od66, .func (PySem.W.fnOf "_law_field" "_law_field" (defArgs s_field) (defBody s_field) (defScope s_field) .none kV66 dc66 pm66 an66 cd66 ct66), sl66⟩)
    (c66 : PySem.W.codeIn K cd66 "_law_field" = true)
    (k66 : PySem.W.keepIn K (.ref f66) = true)
    (a67 : PySem.W.nsIn K mainGlobals "_law_why" = some (some (.ref f67)))
    (l67 : K.lookup f67 = some ⟨oc67, od67, .func (PySem.W.fnOf "_law_why" "_law_why" (defArgs s_why) (defBody s_why) (defScope s_why) .none kV67 dc67 pm67 an67 cd67 ct67), sl67⟩)
    (c67 : PySem.W.codeIn K cd67 "_law_why" = true)
    (k67 : PySem.W.keepIn K (.ref f67) = true)
    (a68 : PySem.W.nsIn K mainGlobals "law" = some (some (.ref f68)))
    (l68 : K.lookup f68 = some ⟨oc68, od68, .func (PySem.W.fnOf "law" "law" (defArgs s_p_law) (defBody s_p_law) (defScope s_p_law) .none kV68 dc68 pm68 an68 (.ref cc) ct68), sl68⟩)
    (c68 : PySem.W.codeIn K (.ref cc) "law" = true)
    (k68 : PySem.W.keepIn K (.ref f68) = true)
    (b1 : PySem.W.nsIn K mainGlobals "TieError" = some (some (.ref f1)))
    (be1 : PySem.W.subIn K (.ref f1) (.type "BaseException") = some true)
    (bi1 : PySem.W.isClsIn K f1 = true)
    (bt1 : PySem.W.typeIn K (.ref f1) = some (.type "type"))
    (b5 : PySem.W.nsIn K mainGlobals "Missing" = some (some (.ref f5)))
    (be5 : PySem.W.subIn K (.ref f5) (.type "BaseException") = some true)
    (bi5 : PySem.W.isClsIn K f5 = true)
    (bt5 : PySem.W.typeIn K (.ref f5) = some (.type "type"))
    (a4 : PySem.W.nsIn K mainGlobals "ParseError" = some (some (.ref f4)))
    (x4 : K.lookup f4 = some (excClassObj nm4 q4 f4 N4 bs4 [.ref f1, .type "ValueError", .type "Exception", .type "BaseException", .type "object"] true sn4 sub4 ab4 col4 dd4 m04 m14 m24 m34 m54 "ValueError.__new__"))
    (sa4 : PySem.W.findIn K (.ref f4) "__setattr__" = some (some (.builtin "object.__setattr__")))
    (ga4 : PySem.W.findIn K (.ref f4) "__getattribute__" = some (some (.builtin "BaseException.__getattribute__")))
    (gg4 : PySem.W.findIn K (.ref f4) "__getattr__" = some none)
    (nt4 : PySem.W.findIn K (.ref f4) "tag" = some none)
    (ii4 : PySem.W.findIn K (.ref f4) "__init__" = some (some (.ref f1004)))
    (ti4 : PySem.W.typeIn K (.ref f1004) = some (.type "function"))
    (kC4 : PySem.W.keepIn K (.ref f4) = true)
    (eC4 : PySem.W.subIn K (.ref f4) (.type "BaseException") = some true)
    (tC4 : PySem.W.typeIn K (.ref f4) = some (.type "type"))
    (hC4 : PySem.W.hasDictIn K f4 = true)
    (sT4 : PySem.W.subIn K (.ref f4) (.ref f1) = some true)
    (sM4 : PySem.W.subIn K (.ref f4) (.ref f5) = some false)
    (n4_at : PySem.W.findIn K (.ref f4) "at" = some none)
    (l1004 : K.lookup f1004 = some ⟨oc1004, od1004, .func (PySem.W.fnOf "__init__" "ParseError.__init__" (defArgs (inClass (topS 4) 0)) (defBody (inClass (topS 4) 0)) (defScope (inClass (topS 4) 0)) .none kV1004 dc1004 pm1004 an1004 cd1004 ct1004), sl1004⟩)
    (c1004 : PySem.W.codeIn K cd1004 "ParseError.__init__" = true)
    (k1004 : PySem.W.keepIn K (.ref f1004) = true)
    (zc_STATEMENTS : PySem.W.nsIn K mainGlobals "STATEMENTS" = some (some (.ref fZ_STATEMENTS)))
    (lz_STATEMENTS : K.lookup fZ_STATEMENTS = some ⟨.type "tuple", odZ_STATEMENTS, .seq ([Value.str (Str.ofString "set") tz_STATEMENTS0, Value.str (Str.ofString "any") tz_STATEMENTS1, Value.str (Str.ofString "check") tz_STATEMENTS2, Value.str (Str.ofString "either") tz_STATEMENTS3, Value.str (Str.ofString "repeat") tz_STATEMENTS4] : List Value).toArray nZ_STATEMENTS, slZ_STATEMENTS⟩)
    (zc_TIMES : PySem.W.nsIn K mainGlobals "TIMES" = some (some (.ref fZ_TIMES)))
    (lz_TIMES : K.lookup fZ_TIMES = some ⟨.type "tuple", odZ_TIMES, .seq ([Value.str (Str.ofString "0") tz_TIMES0, Value.str (Str.ofString "1") tz_TIMES1, Value.str (Str.ofString "2") tz_TIMES2, Value.str (Str.ofString "3") tz_TIMES3, Value.str (Str.ofString "4") tz_TIMES4] : List Value).toArray nZ_TIMES, slZ_TIMES⟩)
    (zc_MOST_LETTERS : PySem.W.nsIn K mainGlobals "MOST_LETTERS" = some (some (Value.int 6 tk_MOST_LETTERS)))
    (zc_DEEPEST : PySem.W.nsIn K mainGlobals "DEEPEST" = some (some (Value.int 4 tk_DEEPEST)))
    (ht : PySem.W.tabIn K "law" = some (cc, Pt))
    (nT : K.lookup Pt = none)
    (z_int : PySem.W.nsIn K mainGlobals "int" = some none)
    (z_len : PySem.W.nsIn K mainGlobals "len" = some none)
    (z_abs : PySem.W.nsIn K mainGlobals "abs" = some none)
    (z_range : PySem.W.nsIn K mainGlobals "range" = some none)
    (z_zip : PySem.W.nsIn K mainGlobals "zip" = some none)
    (z_all : PySem.W.nsIn K mainGlobals "all" = some none)
    (z_isinstance : PySem.W.nsIn K mainGlobals "isinstance" = some none)
    (z_bool : PySem.W.nsIn K mainGlobals "bool" = some none)
    (z_str : PySem.W.nsIn K mainGlobals "str" = some none)
    (z_tuple : PySem.W.nsIn K mainGlobals "tuple" = some none)
    (z_list : PySem.W.nsIn K mainGlobals "list" = some none)
    (z_dict : PySem.W.nsIn K mainGlobals "dict" = some none)
    : LamX.LawAtS l w K CX0 58 63 "_law_script" mg fl h := by
  have G := TP.g
  have e := hfa.symm.trans (PySem.W.mg_of X G a68)
  cases e
  obtain ⟨hC, hP⟩ := PySem.W.tab_of TP X hr0 ht
  have F12 := fun_mk (st := s_p_shortened) l12 c12 k12
  have F13 := fun_mk (st := s_p_common_divisor) l13 c13 k13
  have F14 : FunD K "ratio" "ratio" (defArgs s_p_ratio) (defBody s_p_ratio) (defScope s_p_ratio) [V.int 1] [] f14 (PySem.W.fnOf "ratio" "ratio" (defArgs s_p_ratio) (defBody s_p_ratio) (defScope s_p_ratio) (.ref fT14) kV14 dc14 pm14 an14 cd14 ct14) := ⟨⟨_, _, _, _, _, _, _, _, _, _, rfl, l14, c14, .inr ⟨by simp, _, _, _, _, rfl, t14, rfl, (.cons ⟨_, rfl⟩ .nil)⟩, .inl rfl⟩, k14⟩
  have Bn14 : Binds K (PySem.W.fnOf "ratio" "ratio" (defArgs s_p_ratio) (defBody s_p_ratio) (defScope s_p_ratio) (.ref fT14) kV14 dc14 pm14 an14 cd14 ct14) ["top", "under"] [] := by
    obtain ⟨ds, v, b⟩ := F14.binds1 (ps := ["top", "under"]) 2 1 (by simp) rfl fun T kV doc pm an cdv ct us its h1 h2 => match us, its, h1, h2 with | [_, _], [_], _, _ => ⟨_, rfl, rfl⟩
    cases v
    exact b
  have Bd14 := F14.binds1 (ps := ["top", "under"]) 1 0 (by simp) rfl fun T kV doc pm an cdv ct us its h1 h2 => match us, its, h1, h2 with | [_], [_], _, _ => ⟨_, rfl, rfl⟩
  have F15 := fun_mk (st := s_p_add) l15 c15 k15
  have F16 := fun_mk (st := s_p_subtract) l16 c16 k16
  have F17 := fun_mk (st := s_p_multiply) l17 c17 k17
  have F18 := fun_mk (st := s_p_is_digits) l18 c18 k18
  have F19 := fun_mk (st := s_p_number_text) l19 c19 k19
  have F20 := fun_mk (st := s_p_number_of) l20 c20 k20
  have F21 := fun_mk (st := s_p_ratio_text) l21 c21 k21
  have F22 := fun_mk (st := s_p_ratio_of) l22 c22 k22
  have F28 := fun_mk (st := s_p_run_end) l28 c28 k28
  have F29 := fun_mk (st := s_p_number_symbol) l29 c29 k29
  have F30 := fun_mk (st := s_p_name_symbol) l30 c30 k30
  have F31 := fun_mk (st := s_p_symbol_at) l31 c31 k31
  have F32 := fun_mk (st := s_p_symbols_of) l32 c32 k32
  have F33 := fun_mk (st := s_p_read_term) l33 c33 k33
  have F34 := fun_mk (st := s_p_read_sum) l34 c34 k34
  have F36 := fun_mk (st := s_p_is_name) l36 c36 k36
  have F37 := fun_mk (st := s_p_reduced) l37 c37 k37
  have F38 := fun_mk (st := s_p_ascending_names) l38 c38 k38
  have F39 := fun_mk (st := s_p_brought_together) l39 c39 k39
  have F40 := fun_mk (st := s_p_tie_below) l40 c40 k40
  have F41 := fun_mk (st := s_p_read_ties) l41 c41 k41
  have F43 := fun_mk (st := s_p_whole_sum) l43 c43 k43
  have F44 := fun_mk (st := s_p_read_form) l44 c44 k44
  have F49 := fun_mk (st := s_p_word_at) l49 c49 k49
  have F50 := fun_mk (st := s_p_name_at) l50 c50 k50
  have F51 := fun_mk (st := s_p_form_at) l51 c51 k51
  have F52 := fun_mk (st := s_p_ties_at) l52 c52 k52
  have F53 := fun_mk (st := s_p_times_at) l53 c53 k53
  have F54 := fun_mk (st := s_p_check_word) l54 c54 k54
  have F55 := fun_mk (st := s_p_read_braces) l55 c55 k55
  have F56 := fun_mk (st := s_p_read_either) l56 c56 k56
  have F57 := fun_mk (st := s_p_read_repeat) l57 c57 k57
  have F58 := fun_mk (st := s_p_read_statement) l58 c58 k58
  have F59 := fun_mk (st := s_p_read_statements) l59 c59 k59
  have F60 := fun_mk (st := s_p_read_program) l60 c60 k60
  have F62 := fun_mk (st := s_feed) l62 c62 k62
  have F63 := fun_mk (st := s_draw) l63 c63 k63
  have F64 := fun_mk (st := s_any) l64 c64 k64
  have F65 := fun_mk (st := s_same) l65 c65 k65
  have F66 := fun_mk (st := s_field) l66 c66 k66
  have F67 := fun_mk (st := s_why) l67 c67 k67
  have F68 := fun_mk (st := s_p_law) l68 c68 k68
  have FC : FunC K "law" s_p_law fl (PySem.W.fnOf "law" "law" (defArgs s_p_law) (defBody s_p_law) (defScope s_p_law) .none kV68 dc68 pm68 an68 (.ref cc) ct68) cc := ⟨_, _, _, _, _, _, _, _, rfl, l68, c68⟩
  have F1004 := fun_mk (st := inClass (topS 4) 0) l1004 c1004 k1004
  have E4 : ErrC K mg "ParseError" f4 f1 f5 f1004 := ⟨⟨⟨_, _, _, _, _, _, _, _, _, _, _, _, _, _, _, x4, by first | rfl | decide⟩, sa4, eC4, tC4, kC4⟩, ⟨ga4, gg4, eC4, hC4⟩, PySem.W.mg_of X G a4, nt4, exm_any (exm_by be1 bi1 bt1 sT4) (exm_by be5 bi5 bt5 sM4), ii4, ti4⟩
  have T : Txt K mg (fun i => match i with
      | 12 => f12
      | 13 => f13
      | 14 => f14
      | 15 => f15
      | 16 => f16
      | 17 => f17
      | 18 => f18
      | 19 => f19
      | 20 => f20
      | 21 => f21
      | 22 => f22
      | 28 => f28
      | 29 => f29
      | 30 => f30
      | 31 => f31
      | 32 => f32
      | 33 => f33
      | 34 => f34
      | 36 => f36
      | 37 => f37
      | 38 => f38
      | 39 => f39
      | 40 => f40
      | 41 => f41
      | 43 => f43
      | 44 => f44
      | 49 => f49
      | 50 => f50
      | 51 => f51
      | 52 => f52
      | 53 => f53
      | 54 => f54
      | 55 => f55
      | 56 => f56
      | 57 => f57
      | 58 => f58
      | 59 => f59
      | 60 => f60
      | 62 => f62
      | 63 => f63
      | 64 => f64
      | 65 => f65
      | 66 => f66
      | 67 => f67
      | 68 => fl
      | 1 => f1
      | 4 => f4
      | 5 => f5
      | 1004 => f1004
      | 2001 => fZ_STATEMENTS
      | 2002 => fZ_TIMES
      | _ => fl) (fun i => match i with
      | 12 => PySem.W.fnOf "shortened" "shortened" (defArgs s_p_shortened) (defBody s_p_shortened) (defScope s_p_shortened) .none kV12 dc12 pm12 an12 cd12 ct12
      | 13 => PySem.W.fnOf "common_divisor" "common_divisor" (defArgs s_p_common_divisor) (defBody s_p_common_divisor) (defScope s_p_common_divisor) .none kV13 dc13 pm13 an13 cd13 ct13
      | 14 => PySem.W.fnOf "ratio" "ratio" (defArgs s_p_ratio) (defBody s_p_ratio) (defScope s_p_ratio) (.ref fT14) kV14 dc14 pm14 an14 cd14 ct14
      | 15 => PySem.W.fnOf "add" "add" (defArgs s_p_add) (defBody s_p_add) (defScope s_p_add) .none kV15 dc15 pm15 an15 cd15 ct15
      | 16 => PySem.W.fnOf "subtract" "subtract" (defArgs s_p_subtract) (defBody s_p_subtract) (defScope s_p_subtract) .none kV16 dc16 pm16 an16 cd16 ct16
      | 17 => PySem.W.fnOf "multiply" "multiply" (defArgs s_p_multiply) (defBody s_p_multiply) (defScope s_p_multiply) .none kV17 dc17 pm17 an17 cd17 ct17
      | 18 => PySem.W.fnOf "is_digits" "is_digits" (defArgs s_p_is_digits) (defBody s_p_is_digits) (defScope s_p_is_digits) .none kV18 dc18 pm18 an18 cd18 ct18
      | 19 => PySem.W.fnOf "number_text" "number_text" (defArgs s_p_number_text) (defBody s_p_number_text) (defScope s_p_number_text) .none kV19 dc19 pm19 an19 cd19 ct19
      | 20 => PySem.W.fnOf "number_of" "number_of" (defArgs s_p_number_of) (defBody s_p_number_of) (defScope s_p_number_of) .none kV20 dc20 pm20 an20 cd20 ct20
      | 21 => PySem.W.fnOf "ratio_text" "ratio_text" (defArgs s_p_ratio_text) (defBody s_p_ratio_text) (defScope s_p_ratio_text) .none kV21 dc21 pm21 an21 cd21 ct21
      | 22 => PySem.W.fnOf "ratio_of" "ratio_of" (defArgs s_p_ratio_of) (defBody s_p_ratio_of) (defScope s_p_ratio_of) .none kV22 dc22 pm22 an22 cd22 ct22
      | 28 => PySem.W.fnOf "run_end" "run_end" (defArgs s_p_run_end) (defBody s_p_run_end) (defScope s_p_run_end) .none kV28 dc28 pm28 an28 cd28 ct28
      | 29 => PySem.W.fnOf "number_symbol" "number_symbol" (defArgs s_p_number_symbol) (defBody s_p_number_symbol) (defScope s_p_number_symbol) .none kV29 dc29 pm29 an29 cd29 ct29
      | 30 => PySem.W.fnOf "name_symbol" "name_symbol" (defArgs s_p_name_symbol) (defBody s_p_name_symbol) (defScope s_p_name_symbol) .none kV30 dc30 pm30 an30 cd30 ct30
      | 31 => PySem.W.fnOf "symbol_at" "symbol_at" (defArgs s_p_symbol_at) (defBody s_p_symbol_at) (defScope s_p_symbol_at) .none kV31 dc31 pm31 an31 cd31 ct31
      | 32 => PySem.W.fnOf "symbols_of" "symbols_of" (defArgs s_p_symbols_of) (defBody s_p_symbols_of) (defScope s_p_symbols_of) .none kV32 dc32 pm32 an32 cd32 ct32
      | 33 => PySem.W.fnOf "read_term" "read_term" (defArgs s_p_read_term) (defBody s_p_read_term) (defScope s_p_read_term) .none kV33 dc33 pm33 an33 cd33 ct33
      | 34 => PySem.W.fnOf "read_sum" "read_sum" (defArgs s_p_read_sum) (defBody s_p_read_sum) (defScope s_p_read_sum) .none kV34 dc34 pm34 an34 cd34 ct34
      | 36 => PySem.W.fnOf "is_name" "is_name" (defArgs s_p_is_name) (defBody s_p_is_name) (defScope s_p_is_name) .none kV36 dc36 pm36 an36 cd36 ct36
      | 37 => PySem.W.fnOf "reduced" "reduced" (defArgs s_p_reduced) (defBody s_p_reduced) (defScope s_p_reduced) .none kV37 dc37 pm37 an37 cd37 ct37
      | 38 => PySem.W.fnOf "ascending_names" "ascending_names" (defArgs s_p_ascending_names) (defBody s_p_ascending_names) (defScope s_p_ascending_names) .none kV38 dc38 pm38 an38 cd38 ct38
      | 39 => PySem.W.fnOf "brought_together" "brought_together" (defArgs s_p_brought_together) (defBody s_p_brought_together) (defScope s_p_brought_together) .none kV39 dc39 pm39 an39 cd39 ct39
      | 40 => PySem.W.fnOf "tie_below" "tie_below" (defArgs s_p_tie_below) (defBody s_p_tie_below) (defScope s_p_tie_below) .none kV40 dc40 pm40 an40 cd40 ct40
      | 41 => PySem.W.fnOf "read_ties" "read_ties" (defArgs s_p_read_ties) (defBody s_p_read_ties) (defScope s_p_read_ties) .none kV41 dc41 pm41 an41 cd41 ct41
      | 43 => PySem.W.fnOf "whole_sum" "whole_sum" (defArgs s_p_whole_sum) (defBody s_p_whole_sum) (defScope s_p_whole_sum) .none kV43 dc43 pm43 an43 cd43 ct43
      | 44 => PySem.W.fnOf "read_form" "read_form" (defArgs s_p_read_form) (defBody s_p_read_form) (defScope s_p_read_form) .none kV44 dc44 pm44 an44 cd44 ct44
      | 49 => PySem.W.fnOf "word_at" "word_at" (defArgs s_p_word_at) (defBody s_p_word_at) (defScope s_p_word_at) .none kV49 dc49 pm49 an49 cd49 ct49
      | 50 => PySem.W.fnOf "name_at" "name_at" (defArgs s_p_name_at) (defBody s_p_name_at) (defScope s_p_name_at) .none kV50 dc50 pm50 an50 cd50 ct50
      | 51 => PySem.W.fnOf "form_at" "form_at" (defArgs s_p_form_at) (defBody s_p_form_at) (defScope s_p_form_at) .none kV51 dc51 pm51 an51 cd51 ct51
      | 52 => PySem.W.fnOf "ties_at" "ties_at" (defArgs s_p_ties_at) (defBody s_p_ties_at) (defScope s_p_ties_at) .none kV52 dc52 pm52 an52 cd52 ct52
      | 53 => PySem.W.fnOf "times_at" "times_at" (defArgs s_p_times_at) (defBody s_p_times_at) (defScope s_p_times_at) .none kV53 dc53 pm53 an53 cd53 ct53
      | 54 => PySem.W.fnOf "check_word" "check_word" (defArgs s_p_check_word) (defBody s_p_check_word) (defScope s_p_check_word) .none kV54 dc54 pm54 an54 cd54 ct54
      | 55 => PySem.W.fnOf "read_braces" "read_braces" (defArgs s_p_read_braces) (defBody s_p_read_braces) (defScope s_p_read_braces) .none kV55 dc55 pm55 an55 cd55 ct55
      | 56 => PySem.W.fnOf "read_either" "read_either" (defArgs s_p_read_either) (defBody s_p_read_either) (defScope s_p_read_either) .none kV56 dc56 pm56 an56 cd56 ct56
      | 57 => PySem.W.fnOf "read_repeat" "read_repeat" (defArgs s_p_read_repeat) (defBody s_p_read_repeat) (defScope s_p_read_repeat) .none kV57 dc57 pm57 an57 cd57 ct57
      | 58 => PySem.W.fnOf "read_statement" "read_statement" (defArgs s_p_read_statement) (defBody s_p_read_statement) (defScope s_p_read_statement) .none kV58 dc58 pm58 an58 cd58 ct58
      | 59 => PySem.W.fnOf "read_statements" "read_statements" (defArgs s_p_read_statements) (defBody s_p_read_statements) (defScope s_p_read_statements) .none kV59 dc59 pm59 an59 cd59 ct59
      | 60 => PySem.W.fnOf "read_program" "read_program" (defArgs s_p_read_program) (defBody s_p_read_program) (defScope s_p_read_program) .none kV60 dc60 pm60 an60 cd60 ct60
      | 62 => PySem.W.fnOf "_law_feed" "_law_feed" (defArgs s_feed) (defBody s_feed) (defScope s_feed) .none kV62 dc62 pm62 an62 cd62 ct62
      | 63 => PySem.W.fnOf "_law_draw" "_law_draw" (defArgs s_draw) (defBody s_draw) (defScope s_draw) .none kV63 dc63 pm63 an63 cd63 ct63
      | 64 => PySem.W.fnOf "_law_any" "_law_any" (defArgs s_any) (defBody s_any) (defScope s_any) .none kV64 dc64 pm64 an64 cd64 ct64
      | 65 => PySem.W.fnOf "_law_same" "_law_same" (defArgs s_same) (defBody s_same) (defScope s_same) .none kV65 dc65 pm65 an65 cd65 ct65
      | 66 => PySem.W.fnOf "_law_field" "_law_field" (defArgs s_field) (defBody s_field) (defScope s_field) .none kV66 dc66 pm66 an66 cd66 ct66
      | 67 => PySem.W.fnOf "_law_why" "_law_why" (defArgs s_why) (defBody s_why) (defScope s_why) .none kV67 dc67 pm67 an67 cd67 ct67
      | 68 => PySem.W.fnOf "law" "law" (defArgs s_p_law) (defBody s_p_law) (defScope s_p_law) .none kV68 dc68 pm68 an68 (.ref cc) ct68
      | 1004 => PySem.W.fnOf "__init__" "ParseError.__init__" (defArgs (inClass (topS 4) 0)) (defBody (inClass (topS 4) 0)) (defScope (inClass (topS 4) 0)) .none kV1004 dc1004 pm1004 an1004 cd1004 ct1004
      | _ => PySem.W.fnOf "law" "law" (defArgs s_p_law) (defBody s_p_law) (defScope s_p_law) .none kV68 dc68 pm68 an68 (.ref cc) ct68) := {
    F_p_shortened := F12, g_p_shortened := PySem.W.mg_of X G a12
    b_p_shortened := F12.binds (ps := ["one", "other"]) fun _ _ _ _ _ _ us hl => match us, hl with | [_, _], _ => rfl
    F_p_common_divisor := F13, g_p_common_divisor := PySem.W.mg_of X G a13
    b_p_common_divisor := F13.binds (ps := ["one", "other"]) fun _ _ _ _ _ _ us hl => match us, hl with | [_, _], _ => rfl
    F_p_ratio := F14, g_p_ratio := PySem.W.mg_of X G a14
    b_p_ratio := Bn14, d_p_ratio := Bd14
    F_p_add := F15, g_p_add := PySem.W.mg_of X G a15
    b_p_add := F15.binds (ps := ["one", "other"]) fun _ _ _ _ _ _ us hl => match us, hl with | [_, _], _ => rfl
    F_p_subtract := F16, g_p_subtract := PySem.W.mg_of X G a16
    b_p_subtract := F16.binds (ps := ["one", "other"]) fun _ _ _ _ _ _ us hl => match us, hl with | [_, _], _ => rfl
    F_p_multiply := F17, g_p_multiply := PySem.W.mg_of X G a17
    b_p_multiply := F17.binds (ps := ["one", "other"]) fun _ _ _ _ _ _ us hl => match us, hl with | [_, _], _ => rfl
    F_p_is_digits := F18, g_p_is_digits := PySem.W.mg_of X G a18
    b_p_is_digits := F18.binds (ps := ["text"]) fun _ _ _ _ _ _ us hl => match us, hl with | [_], _ => rfl
    F_p_number_text := F19, g_p_number_text := PySem.W.mg_of X G a19
    b_p_number_text := F19.binds (ps := ["number"]) fun _ _ _ _ _ _ us hl => match us, hl with | [_], _ => rfl
    F_p_number_of := F20, g_p_number_of := PySem.W.mg_of X G a20
    b_p_number_of := F20.binds (ps := ["digits"]) fun _ _ _ _ _ _ us hl => match us, hl with | [_], _ => rfl
    F_p_ratio_text := F21, g_p_ratio_text := PySem.W.mg_of X G a21
    b_p_ratio_text := F21.binds (ps := ["one"]) fun _ _ _ _ _ _ us hl => match us, hl with | [_], _ => rfl
    F_p_ratio_of := F22, g_p_ratio_of := PySem.W.mg_of X G a22
    b_p_ratio_of := F22.binds (ps := ["text"]) fun _ _ _ _ _ _ us hl => match us, hl with | [_], _ => rfl
    F_p_run_end := F28, g_p_run_end := PySem.W.mg_of X G a28
    b_p_run_end := F28.binds (ps := ["text", "at", "letters"]) fun _ _ _ _ _ _ us hl => match us, hl with | [_, _, _], _ => rfl
    F_p_number_symbol := F29, g_p_number_symbol := PySem.W.mg_of X G a29
    b_p_number_symbol := F29.binds (ps := ["text", "at"]) fun _ _ _ _ _ _ us hl => match us, hl with | [_, _], _ => rfl
    F_p_name_symbol := F30, g_p_name_symbol := PySem.W.mg_of X G a30
    b_p_name_symbol := F30.binds (ps := ["text", "at"]) fun _ _ _ _ _ _ us hl => match us, hl with | [_, _], _ => rfl
    F_p_symbol_at := F31, g_p_symbol_at := PySem.W.mg_of X G a31
    b_p_symbol_at := F31.binds (ps := ["text", "at"]) fun _ _ _ _ _ _ us hl => match us, hl with | [_, _], _ => rfl
    F_p_symbols_of := F32, g_p_symbols_of := PySem.W.mg_of X G a32
    b_p_symbols_of := F32.binds (ps := ["text"]) fun _ _ _ _ _ _ us hl => match us, hl with | [_], _ => rfl
    F_p_read_term := F33, g_p_read_term := PySem.W.mg_of X G a33
    b_p_read_term := F33.binds (ps := ["symbols", "at"]) fun _ _ _ _ _ _ us hl => match us, hl with | [_, _], _ => rfl
    F_p_read_sum := F34, g_p_read_sum := PySem.W.mg_of X G a34
    b_p_read_sum := F34.binds (ps := ["symbols", "at"]) fun _ _ _ _ _ _ us hl => match us, hl with | [_, _], _ => rfl
    F_p_is_name := F36, g_p_is_name := PySem.W.mg_of X G a36
    b_p_is_name := F36.binds (ps := ["text"]) fun _ _ _ _ _ _ us hl => match us, hl with | [_], _ => rfl
    F_p_reduced := F37, g_p_reduced := PySem.W.mg_of X G a37
    b_p_reduced := F37.binds (ps := ["tie"]) fun _ _ _ _ _ _ us hl => match us, hl with | [_], _ => rfl
    F_p_ascending_names := F38, g_p_ascending_names := PySem.W.mg_of X G a38
    b_p_ascending_names := F38.binds (ps := ["rates"]) fun _ _ _ _ _ _ us hl => match us, hl with | [_], _ => rfl
    F_p_brought_together := F39, g_p_brought_together := PySem.W.mg_of X G a39
    b_p_brought_together := F39.binds (ps := ["left", "right"]) fun _ _ _ _ _ _ us hl => match us, hl with | [_, _], _ => rfl
    F_p_tie_below := F40, g_p_tie_below := PySem.W.mg_of X G a40
    b_p_tie_below := F40.binds (ps := ["left", "right"]) fun _ _ _ _ _ _ us hl => match us, hl with | [_, _], _ => rfl
    F_p_read_ties := F41, g_p_read_ties := PySem.W.mg_of X G a41
    b_p_read_ties := F41.binds (ps := ["text"]) fun _ _ _ _ _ _ us hl => match us, hl with | [_], _ => rfl
    F_p_whole_sum := F43, g_p_whole_sum := PySem.W.mg_of X G a43
    b_p_whole_sum := F43.binds (ps := ["text"]) fun _ _ _ _ _ _ us hl => match us, hl with | [_], _ => rfl
    F_p_read_form := F44, g_p_read_form := PySem.W.mg_of X G a44
    b_p_read_form := F44.binds (ps := ["text"]) fun _ _ _ _ _ _ us hl => match us, hl with | [_], _ => rfl
    F_p_word_at := F49, g_p_word_at := PySem.W.mg_of X G a49
    b_p_word_at := F49.binds (ps := ["words", "at"]) fun _ _ _ _ _ _ us hl => match us, hl with | [_, _], _ => rfl
    F_p_name_at := F50, g_p_name_at := PySem.W.mg_of X G a50
    b_p_name_at := F50.binds (ps := ["words", "at"]) fun _ _ _ _ _ _ us hl => match us, hl with | [_, _], _ => rfl
    F_p_form_at := F51, g_p_form_at := PySem.W.mg_of X G a51
    b_p_form_at := F51.binds (ps := ["words", "at"]) fun _ _ _ _ _ _ us hl => match us, hl with | [_, _], _ => rfl
    F_p_ties_at := F52, g_p_ties_at := PySem.W.mg_of X G a52
    b_p_ties_at := F52.binds (ps := ["words", "at"]) fun _ _ _ _ _ _ us hl => match us, hl with | [_, _], _ => rfl
    F_p_times_at := F53, g_p_times_at := PySem.W.mg_of X G a53
    b_p_times_at := F53.binds (ps := ["words", "at"]) fun _ _ _ _ _ _ us hl => match us, hl with | [_, _], _ => rfl
    F_p_check_word := F54, g_p_check_word := PySem.W.mg_of X G a54
    b_p_check_word := F54.binds (ps := ["words", "at", "wanted"]) fun _ _ _ _ _ _ us hl => match us, hl with | [_, _, _], _ => rfl
    F_p_read_braces := F55, g_p_read_braces := PySem.W.mg_of X G a55
    b_p_read_braces := F55.binds (ps := ["words", "at", "depth"]) fun _ _ _ _ _ _ us hl => match us, hl with | [_, _, _], _ => rfl
    F_p_read_either := F56, g_p_read_either := PySem.W.mg_of X G a56
    b_p_read_either := F56.binds (ps := ["words", "at", "depth"]) fun _ _ _ _ _ _ us hl => match us, hl with | [_, _, _], _ => rfl
    F_p_read_repeat := F57, g_p_read_repeat := PySem.W.mg_of X G a57
    b_p_read_repeat := F57.binds (ps := ["words", "at", "depth"]) fun _ _ _ _ _ _ us hl => match us, hl with | [_, _, _], _ => rfl
    F_p_read_statement := F58, g_p_read_statement := PySem.W.mg_of X G a58
    b_p_read_statement := F58.binds (ps := ["words", "at", "depth"]) fun _ _ _ _ _ _ us hl => match us, hl with | [_, _, _], _ => rfl
    F_p_read_statements := F59, g_p_read_statements := PySem.W.mg_of X G a59
    b_p_read_statements := F59.binds (ps := ["words", "at", "depth"]) fun _ _ _ _ _ _ us hl => match us, hl with | [_, _, _], _ => rfl
    F_p_read_program := F60, g_p_read_program := PySem.W.mg_of X G a60
    b_p_read_program := F60.binds (ps := ["text"]) fun _ _ _ _ _ _ us hl => match us, hl with | [_], _ => rfl
    F_feed := F62, g_feed := PySem.W.mg_of X G a62
    b_feed := F62.binds (ps := ["_law_script"]) fun _ _ _ _ _ _ us hl => match us, hl with | [_], _ => rfl
    F_draw := F63, g_draw := PySem.W.mg_of X G a63
    b_draw := F63.binds (ps := ["_law_feed_here", "_law_many"]) fun _ _ _ _ _ _ us hl => match us, hl with | [_, _], _ => rfl
    F_any := F64, g_any := PySem.W.mg_of X G a64
    b_any := F64.binds (ps := ["_law_feed_here", "_law_row"]) fun _ _ _ _ _ _ us hl => match us, hl with | [_, _], _ => rfl
    F_same := F65, g_same := PySem.W.mg_of X G a65
    b_same := F65.binds (ps := ["_law_found", "_law_due"]) fun _ _ _ _ _ _ us hl => match us, hl with | [_, _], _ => rfl
    F_field := F66, g_field := PySem.W.mg_of X G a66
    b_field := F66.binds (ps := ["_law_e"]) fun _ _ _ _ _ _ us hl => match us, hl with | [_], _ => rfl
    F_why := F67, g_why := PySem.W.mg_of X G a67
    b_why := F67.binds (ps := ["_law_ask"]) fun _ _ _ _ _ _ us hl => match us, hl with | [_], _ => rfl
    F_p_law := F68, g_p_law := PySem.W.mg_of X G a68
    b_p_law := F68.binds (ps := ["_law_script"]) fun _ _ _ _ _ _ us hl => match us, hl with | [_], _ => rfl
    eParseError := E4, IParseError := F1004
    bIParseError := F1004.binds (ps := ["self", "at"]) fun _ _ _ _ _ _ us hl => match us, hl with | [_, _], _ => rfl
    nParseError_at := n4_at
    gTieError := PySem.W.mg_of X G b1, gMissing := PySem.W.mg_of X G b5
    m_int := PySem.W.mg_none_of X G z_int
    m_len := PySem.W.mg_none_of X G z_len
    m_abs := PySem.W.mg_none_of X G z_abs
    m_range := PySem.W.mg_none_of X G z_range
    m_zip := PySem.W.mg_none_of X G z_zip
    m_all := PySem.W.mg_none_of X G z_all
    m_isinstance := PySem.W.mg_none_of X G z_isinstance
    m_bool := PySem.W.mg_none_of X G z_bool
    m_str := PySem.W.mg_none_of X G z_str
    m_tuple := PySem.W.mg_none_of X G z_tuple
    m_list := PySem.W.mg_none_of X G z_list
    m_dict := PySem.W.mg_none_of X G z_dict
    c_MOST_LETTERS := ⟨_, PySem.W.mg_of X G zc_MOST_LETTERS, ⟨_, rfl⟩⟩
    c_DEEPEST := ⟨_, PySem.W.mg_of X G zc_DEEPEST, ⟨_, rfl⟩⟩
    c_STATEMENTS := ⟨_, PySem.W.mg_of X G zc_STATEMENTS, rfl⟩
    c_TIMES := ⟨_, PySem.W.mg_of X G zc_TIMES, rfl⟩
    z_STATEMENTS := fun H => .inr ⟨_, _, _, lz_STATEMENTS, rfl, rfl, small_line (by show 5 ≤ 1000; decide), (.cons ⟨_, rfl⟩ (.cons ⟨_, rfl⟩ (.cons ⟨_, rfl⟩ (.cons ⟨_, rfl⟩ (.cons ⟨_, rfl⟩ .nil)))))⟩
    z_TIMES := fun H => .inr ⟨_, _, _, lz_TIMES, rfl, rfl, small_line (by show 5 ≤ 1000; decide), (.cons ⟨_, rfl⟩ (.cons ⟨_, rfl⟩ (.cons ⟨_, rfl⟩ (.cons ⟨_, rfl⟩ (.cons ⟨_, rfl⟩ .nil)))))⟩
  }
  refine ⟨_, [(cc, Pt)], spLaw K Pt, fun p hp => by rw [List.mem_singleton.mp hp]; exact hP, fun p hp => by rw [List.mem_singleton.mp hp]; exact nT, fun p hp => by rw [List.mem_singleton.mp hp]; exact hC, fun s v => .of_eq rfl, fun H a ns hl _ hT hS => ⟨a, ns, rfl, hS, hl, fun p hp => by rw [List.mem_singleton.mp hp]; exact LamX.TabS.nil (hT (cc, Pt) List.mem_cons_self), fun _ => rfl⟩, fun base _ _ TB => ok_p_law T FC (TB (cc, Pt) List.mem_cons_self)⟩
end T0
open PySem PySem.W PyProof.Rows
set_option maxHeartbeats 0 in
theorem PySem.Challenge.cw_tiespan_k70_blocks_four_deep_holds : PySem.Challenge.rw_tiespan_k70_blocks_four_deep.Holds := by
  w_on; o_law; k_head; (case hw => w_witness2)
  k_fill
  refine EK.walk_T (l := PySem.Challenge.rw_tiespan_k70_blocks_four_deep) (n := 63) (k := 58) (x := "_law_script") (CX := fun _ => L2.CX0) rfl (by decide) rfl ⟨rfl, by decide, by decide⟩ (fun w h Y => by first | exact PySem.W.kIn_of Y | exact PySem.W.km_in_of Y) ?F (fun _ _ _ _ _ h => h)
  case F =>
    intro w lo mean mg mb fa h TP KX hmg
    refine' T0.all_mk (cc := 439) (Pt := 435) TP KX hmg rfl ?a12 ?l12 ?c12 ?k12 ?a13 ?l13 ?c13 ?k13 ?a14 ?l14 ?c14 ?k14 ?t14 ?a15 ?l15 ?c15 ?k15 ?a16 ?l16 ?c16 ?k16 ?a17 ?l17 ?c17 ?k17 ?a18 ?l18 ?c18 ?k18 ?a19 ?l19 ?c19 ?k19 ?a20 ?l20 ?c20 ?k20 ?a21 ?l21 ?c21 ?k21 ?a22 ?l22 ?c22 ?k22 ?a28 ?l28 ?c28 ?k28 ?a29 ?l29 ?c29 ?k29 ?a30 ?l30 ?c30 ?k30 ?a31 ?l31 ?c31 ?k31 ?a32 ?l32 ?c32 ?k32 ?a33 ?l33 ?c33 ?k33 ?a34 ?l34 ?c34 ?k34 ?a36 ?l36 ?c36 ?k36 ?a37 ?l37 ?c37 ?k37 ?a38 ?l38 ?c38 ?k38 ?a39 ?l39 ?c39 ?k39 ?a40 ?l40 ?c40 ?k40 ?a41 ?l41 ?c41 ?k41 ?a43 ?l43 ?c43 ?k43 ?a44 ?l44 ?c44 ?k44 ?a49 ?l49 ?c49 ?k49 ?a50 ?l50 ?c50 ?k50 ?a51 ?l51 ?c51 ?k51 ?a52 ?l52 ?c52 ?k52 ?a53 ?l53 ?c53 ?k53 ?a54 ?l54 ?c54 ?k54 ?a55 ?l55 ?c55 ?k55 ?a56 ?l56 ?c56 ?k56 ?a57 ?l57 ?c57 ?k57 ?a58 ?l58 ?c58 ?k58 ?a59 ?l59 ?c59 ?k59 ?a60 ?l60 ?c60 ?k60 ?a62 ?l62 ?c62 ?k62 ?a63 ?l63 ?c63 ?k63 ?a64 ?l64 ?c64 ?k64 ?a65 ?l65 ?c65 ?k65 ?a66 ?l66 ?c66 ?k66 ?a67 ?l67 ?c67 ?k67 ?a68 ?l68 ?c68 ?k68 ?b1 ?be1 ?bi1 ?bt1 ?b5 ?be5 ?bi5 ?bt5 ?a4 ?x4 ?sa4 ?ga4 ?gg4 ?nt4 ?ii4 ?ti4 ?kC4 ?eC4 ?tC4 ?hC4 ?sT4 ?sM4 ?n4_at ?l1004 ?c1004 ?k1004 ?zc_STATEMENTS ?lz_STATEMENTS ?zc_TIMES ?lz_TIMES ?zc_MOST_LETTERS ?zc_DEEPEST ?ht ?nT ?z_int ?z_len ?z_abs ?z_range ?z_zip ?z_all ?z_isinstance ?z_bool ?z_str ?z_tuple ?z_list ?z_dict
    (case a12 => k_is)
    (case l12 => k_is)
    (case c12 => k_is)
    (case k12 => k_is)
    (case a13 => k_is)
    (case l13 => k_is)
    (case c13 => k_is)
    (case k13 => k_is)
    (case a14 => k_is)
    (case l14 => k_is)
    (case c14 => k_is)
    (case k14 => k_is)
    (case t14 => k_is)
    (case a15 => k_is)
    (case l15 => k_is)
    (case c15 => k_is)
    (case k15 => k_is)
    (case a16 => k_is)
    (case l16 => k_is)
    (case c16 => k_is)
    (case k16 => k_is)
    (case a17 => k_is)
    (case l17 => k_is)
    (case c17 => k_is)
    (case k17 => k_is)
    (case a18 => k_is)
    (case l18 => k_is)
    (case c18 => k_is)
    (case k18 => k_is)
    (case a19 => k_is)
    (case l19 => k_is)
    (case c19 => k_is)
    (case k19 => k_is)
    (case a20 => k_is)
    (case l20 => k_is)
    (case c20 => k_is)
    (case k20 => k_is)
    (case a21 => k_is)
    (case l21 => k_is)
    (case c21 => k_is)
    (case k21 => k_is)
    (case a22 => k_is)
    (case l22 => k_is)
    (case c22 => k_is)
    (case k22 => k_is)
    (case a28 => k_is)
    (case l28 => k_is)
    (case c28 => k_is)
    (case k28 => k_is)
    (case a29 => k_is)
    (case l29 => k_is)
    (case c29 => k_is)
    (case k29 => k_is)
    (case a30 => k_is)
    (case l30 => k_is)
    (case c30 => k_is)
    (case k30 => k_is)
    (case a31 => k_is)
    (case l31 => k_is)
    (case c31 => k_is)
    (case k31 => k_is)
    (case a32 => k_is)
    (case l32 => k_is)
    (case c32 => k_is)
    (case k32 => k_is)
    (case a33 => k_is)
    (case l33 => k_is)
    (case c33 => k_is)
    (case k33 => k_is)
    (case a34 => k_is)
    (case l34 => k_is)
    (case c34 => k_is)
    (case k34 => k_is)
    (case a36 => k_is)
    (case l36 => k_is)
    (case c36 => k_is)
    (case k36 => k_is)
    (case a37 => k_is)
    (case l37 => k_is)
    (case c37 => k_is)
    (case k37 => k_is)
    (case a38 => k_is)
    (case l38 => k_is)
    (case c38 => k_is)
    (case k38 => k_is)
    (case a39 => k_is)
    (case l39 => k_is)
    (case c39 => k_is)
    (case k39 => k_is)
    (case a40 => k_is)
    (case l40 => k_is)
    (case c40 => k_is)
    (case k40 => k_is)
    (case a41 => k_is)
    (case l41 => k_is)
    (case c41 => k_is)
    (case k41 => k_is)
    (case a43 => k_is)
    (case l43 => k_is)
    (case c43 => k_is)
    (case k43 => k_is)
    (case a44 => k_is)
    (case l44 => k_is)
    (case c44 => k_is)
    (case k44 => k_is)
    (case a49 => k_is)
    (case l49 => k_is)
    (case c49 => k_is)
    (case k49 => k_is)
    (case a50 => k_is)
    (case l50 => k_is)
    (case c50 => k_is)
    (case k50 => k_is)
    (case a51 => k_is)
    (case l51 => k_is)
    (case c51 => k_is)
    (case k51 => k_is)
    (case a52 => k_is)
    (case l52 => k_is)
    (case c52 => k_is)
    (case k52 => k_is)
    (case a53 => k_is)
    (case l53 => k_is)
    (case c53 => k_is)
    (case k53 => k_is)
    (case a54 => k_is)
    (case l54 => k_is)
    (case c54 => k_is)
    (case k54 => k_is)
    (case a55 => k_is)
    (case l55 => k_is)
    (case c55 => k_is)
    (case k55 => k_is)
    (case a56 => k_is)
    (case l56 => k_is)
    (case c56 => k_is)
    (case k56 => k_is)
    (case a57 => k_is)
    (case l57 => k_is)
    (case c57 => k_is)
    (case k57 => k_is)
    (case a58 => k_is)
    (case l58 => k_is)
    (case c58 => k_is)
    (case k58 => k_is)
    (case a59 => k_is)
    (case l59 => k_is)
    (case c59 => k_is)
    (case k59 => k_is)
    (case a60 => k_is)
    (case l60 => k_is)
    (case c60 => k_is)
    (case k60 => k_is)
    (case a62 => k_is)
    (case l62 => k_is)
    (case c62 => k_is)
    (case k62 => k_is)
    (case a63 => k_is)
    (case l63 => k_is)
    (case c63 => k_is)
    (case k63 => k_is)
    (case a64 => k_is)
    (case l64 => k_is)
    (case c64 => k_is)
    (case k64 => k_is)
    (case a65 => k_is)
    (case l65 => k_is)
    (case c65 => k_is)
    (case k65 => k_is)
    (case a66 => k_is)
    (case l66 => k_is)
    (case c66 => k_is)
    (case k66 => k_is)
    (case a67 => k_is)
    (case l67 => k_is)
    (case c67 => k_is)
    (case k67 => k_is)
    (case a68 => k_is)
    (case l68 => k_is)
    (case c68 => k_is)
    (case k68 => k_is)
    (case b1 => k_is)
    (case be1 => k_is)
    (case bi1 => k_is)
    (case bt1 => k_is)
    (case b5 => k_is)
    (case be5 => k_is)
    (case bi5 => k_is)
    (case bt5 => k_is)
    (case a4 => k_is)
    (case x4 => k_is)
    (case sa4 => k_is)
    (case ga4 => k_is)
    (case gg4 => k_is)
    (case nt4 => k_is)
    (case ii4 => k_is)
    (case ti4 => k_is)
    (case kC4 => k_is)
    (case eC4 => k_is)
    (case tC4 => k_is)
    (case hC4 => k_is)
    (case sT4 => k_is)
    (case sM4 => k_is)
    (case n4_at => k_is)
    (case l1004 => k_is)
    (case c1004 => k_is)
    (case k1004 => k_is)
    (case zc_STATEMENTS => k_is)
    (case lz_STATEMENTS => k_is)
    (case zc_TIMES => k_is)
    (case lz_TIMES => k_is)
    (case zc_MOST_LETTERS => k_is)
    (case zc_DEEPEST => k_is)
    (case ht => kernel_rfl)
    (case nT => kernel_rfl)
    (case z_int => k_is)
    (case z_len => k_is)
    (case z_abs => k_is)
    (case z_range => k_is)
    (case z_zip => k_is)
    (case z_all => k_is)
    (case z_isinstance => k_is)
    (case z_bool => k_is)
    (case z_str => k_is)
    (case z_tuple => k_is)
    (case z_list => k_is)
    (case z_dict => k_is)

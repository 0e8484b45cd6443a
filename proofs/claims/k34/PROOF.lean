import PyProof.Rows.All
import Wide.All
import OpenK.AllK
import Wide.FinOn
import HandS.Base
import HandS.Call
import HandS.List
import HandS.Comp
import HandS.Ends
import HandS.Words
import HandS.WordsList
import HandS.Codes
import HandS.Wide
import HandS.Iter
import HandS.Zip
import HandS.Star
import HandS.More
import HandS.IsInst
import HandS.Conv
import HandS.NoneIn
import HandS.WideBits
import HandS.WordsExc
import HandS.Exc
import HandS.TryMany
import HandS.HotCalls
import HandS.ExcInit
import HandS.ExcField
import HandS.Lambda
import HandS.EndTab
import HandS.Defaults
import KE.KNest
import HandS.Text
import HandS.StrMore
import KE.IntTextText
import HandS.Style
import PyProof.ListStr
import PyProof.StrBlock2
import HandS.More
import HandS.SetTxt0
import HandS.Set
import HandS.Strs
import HandS.Dict
import HandS.DictComp
import HandS.RaiseMore
import HandS.Deep
import HandS.TupMul
import HandS.Finally
import KE.KDictPairs
import HandS.Replace
import KE.KDflt
import HandS.ExcValue
import HandS.ExcIs
import HandS.ClsMeth
import HandS.MakeKw
import HandS.MakeKwOnly
import KE.GoesEnum
import HandS.OwnEq
import HandS.FStr
import KE.KSortTupG
import KE.KEqDict
import KE.KStateDown
import KE.KNest
import KE.KNestM
import HandS.Head0
import HandS.Head1
import HandS.Head2
import HandS.HeadHook1
import HandS.HeadHook2
import HandS.HeadHook3
import HandS.HeadHook4
import HandS.HeadWalk
import PySem.Challenge.RW_tiespan_k34_steps_return_what_they_are_m
set_option Elab.async false
set_option linter.all false
set_option maxRecDepth 100000
set_option maxHeartbeats 4000000
namespace EK
open PySem PySem.Spec PyProof.Rows L2
/-! ### try: body, except (c1, c2) as n: suite, and what stands behind it is not reached -/
theorem flyingZ_push {B h : Heap} {l : List Env} {e : Addr} {Z : Obj → Prop} (x : PySem.HandSPX.FlyingZ B l e Z h) (o : Obj) : PySem.HandSPX.FlyingZ B l e Z (h.push o) := by
  obtain ⟨h1, h2, h3, oe, vs, tb, ot, ts, a1, a2, a3, a4, a5, a6, a7, a8, a9⟩ := x
  exact ⟨fun b u q => Heap.get?_push_of_some _ (h1 b u q), h2, h3.of_keeps fun b u q _ => ⟨u, Heap.get?_push_of_some _ q, rfl⟩, oe, vs, tb, ot, ts, Heap.get?_push_of_some _ a1, a2, a3, a4, a5, a6, Heap.get?_push_of_some _ a7, a8, a9⟩
/-- the wish: the clause takes it -/
def wTup (K : PySem.W.Frag) (c1 c2 : Value) (i : Nat) (ts : Addr → Value → Option Addr → TS) (D : Ends) : WX := fun cls d σ H =>
  PySem.W.exmAny K cls [c1, c2] = some true ∧ ∀ a, H a = none → ts a cls d { nx := fun σ' H' => D.nx (σ'.set i none) H', rt := D.rt, bk := fun σ' H' => D.bk (σ'.set i none) H', ct := fun σ' H' => D.ct (σ'.set i none) H' } (σ.set i (some (.ref a))) H
theorem ps_try_tup {X : Cx} {x1 x2 n : Str} {c1 c2 : Value} {i kk : Nat} {body suite : List Stmt} {b₀ : Stmt} {np1 np2 tpos pos pos' : Pos} {tb : WX → TS} {ts : Addr → Value → Option Addr → TS} {hds : List ExceptHandler}
    (hs : X.stack = X.env :: X.outer) (hf : X.env.frame = some X.env.locals) (hN : X.N.Nodup) (hi : X.N[i]? = some n) (hln : X.env.kindOf n = some .local) (h1 : Gl X x1) (m1 : X.mg x1 = some c1) (h2 : Gl X x2) (m2 : X.mg x2 = some c2)
    (hb : ∀ (W : WX) (pn : List (Addr × Obj)) (xe : Value → Shared → Prop), Takes (X.tr pn xe) W → PassesOwn (model X.prog X.w) X.A X.env xe → PSs (X.tr pn xe) body (tb W))
    (hsu : ∀ (a : Addr) (oe : Obj) (cls : Value) (d : Option Addr) (pn : List (Addr × Obj)), Zc cls d oe → (∃ vs, oe.data = .fields vs) → PSs (X.suite a ((a, oe) :: pn)) (b₀ :: suite) (ts a cls d))
    (d1 : (x1 == ("__debug__" : Str)) = false := by decide) (d2 : (x2 == ("__debug__" : Str)) = false := by decide) :
    PS X (.Try body (.ExceptHandler (some (.Tuple [.Name x1 np1, .Name x2 np2] kk tpos)) (some n) (b₀ :: suite) pos' :: hds) [] [] pos) (fun D σ H => tb (wTup X.K c1 c2 i ts D) D σ H) := by
  refine ⟨fun pins s σ H D I h => ?_⟩
  have ok := I.ok
  have hfr : X.A.frames = some (X.env :: X.outer) := by rw [ok.frames, hs]
  have hloc : Loc X.env.scope n := .inl hln
  refine wpAny_Try_except (wpAny_mono ((hb (wTup X.K c1 c2 i ts D) (X.pn ++ pins) (fun e s₁ => wpAny (model X.prog X.w) X.A (noteFrame e X.env) (fun _ s₂ => wpAny (model X.prog X.w) X.A (setFlight e none) (fun _ s₃ =>
    wpAny (model X.prog X.w) X.A (handleBy e X.env (.ExceptHandler (some (.Tuple [.Name x1 np1, .Name x2 np2] kk tpos)) (some n) (b₀ :: suite) pos' :: hds)) (SP X pins D) X.xe s₃) X.xe s₂) X.xe s₁) (fun u s' xx => ?_) PassesOwn.looking).run [] s σ H D (I.toTry _) h) (fun f s1 hsp => ?_) (fun e s1 he => he))
  · obtain ⟨a, B, sI, pins', σ', H', cls, d, rfl, J', nb, up, sky, na, os, ag, hb1, hyes⟩ := xx
    have J : Inv X pins σ' H' sI := J'.ofTry ok
    have sky' : Sky B (X.env :: X.outer) a (Zc cls d) X.env.locals s'.heap := by rw [← hs]; exact sky
    show wpAny (model X.prog X.w) X.A (noteFrame (.ref a) X.env) _ _ _
    refine Sky.land Zc.steady hfr hf sky' fun h3 fl3 up3 => ?_
    have J3 : Inv X pins σ' H' { s' with heap := h3 } := J.landed nb fl3.1 (up.trans up3) os ag
    obtain ⟨oe3, vs3, he3, hz3, hd3⟩ := fl3.there
    have nfr : a ∉ frs (X.env :: X.outer) := fun hm => by
      obtain ⟨_, o', e', hnf⟩ := fl3.2.2.1.mem hm
      rw [he3] at e'
      cases e'
      exact hnf _ hd3
    have nL : a ≠ X.env.locals := fun z => nfr (List.mem_filterMap.mpr ⟨X.env, List.mem_cons_self, by rw [hf, z]⟩)
    have nF : a ∉ X.fs := fun hm => by
      obtain ⟨e, he, q⟩ := List.mem_filterMap.mp hm
      exact nfr (List.mem_filterMap.mpr ⟨e, List.mem_cons_of_mem _ he, q⟩)
    have S3 := J3.suite he3 hd3 na nL nF
    refine wpAny_handleBy_cons (codeAny_handlers_test ?_) (by intro q; cases q)
    refine wpAny_Tuple ?_
    refine wpAny_items_cons (ld_glob (X := X.suite a ((a, oe3) :: (X.pn ++ pins))) S3 h1 m1 ?_ d1)
    refine wpAny_items_cons (ld_glob (X := X.suite a ((a, oe3) :: (X.pn ++ pins))) S3 h2 m2 ?_ d2)
    refine wpAny_items_nil ⟨Nat.le_trans (by decide : 2 ≤ 1000) (Nat.le_of_lt (small1000 (Nat.le_refl _))), ?_⟩
    have kp : ∀ q o, h3.get? q = some o → (h3.push { cls := .type "tuple", data := .seq [c1, c2].toArray }).get? q = some o := fun _ _ z => Heap.get?_push_of_some _ z
    have LT : PySem.W.Looks (model X.prog X.w) (h3.push { cls := .type "tuple", data := .seq [c1, c2].toArray }) (typeOf (.ref a)) cls := fun A Q E s k q => wpAny_typeOf_ref (k _ _ (kp _ _ he3)) (by rw [hz3.1]; exact q)
    refine (PySem.W.exm_tup2 (M := model X.prog X.w) (J3.kIn.keeps kp) LT (Heap.get?_push_size h3 rfl) hb1).here ?_
    have up3p := (up.trans up3).trans (Heap.UpToSlots.of_keeps kp)
    have fl3p := flyingZ_push fl3 { cls := .type "tuple", data := .seq [c1, c2].toArray }
    generalize h3.push { cls := .type "tuple", data := .seq [c1, c2].toArray } = g3 at up3p fl3p
    refine codeAny_handlers_suite_as ?_
    refine PySem.HandSPX.lands_againZ fl3p fun h4 fl4 up4 => ?_
    have J4 : Inv X pins σ' H' { s' with heap := h4 } := J.landed nb fl4.1 (up3p.trans up4) os ag
    obtain ⟨oe4, vs4, he4, hz4, hd4⟩ := fl4.there
    have S4 := J4.suite he4 hd4 na nL nF
    refine store_ok (X := X.suite a ((a, oe4) :: (X.pn ++ pins))) (v := .ref a) S4 hN hi hloc rfl (fun s5 S5 => ?_) (.inr hln)
    refine wpAny_mono ((hsu a oe4 cls d (X.pn ++ pins) hz4 ⟨_, hd4⟩).run [] s5 _ H' _ S5 (hyes a na)) (fun f s6 hsp => ?_) (fun _ _ z => False.elim z)
    have end_ : ∀ {σ6 : L2.St} {H6 : Hp} {Q : Shared → Prop}, Inv (X.suite a ((a, oe4) :: (X.pn ++ pins))) [] σ6 H6 s6 → (∀ s7, Inv X pins (σ6.set i none) H6 s7 → Q s7) →
        wpAny (model X.prog X.w) X.A (do bindName X.env n .none; unbindBehindTheSuite X.env n pos') (fun _ s7 => Q s7) X.xe s6 := fun {σ6 H6 Q} S6 hq => gone_ok (S6.unsuite ok) hN hi hln hq
    cases f with
    | next =>
      obtain ⟨σ6, H6, S6, q6⟩ := hsp
      exact end_ S6 fun s7 J7 => ⟨_, _, J7, q6⟩
    | brk =>
      obtain ⟨σ6, H6, S6, q6⟩ := hsp
      exact end_ S6 fun s7 J7 => ⟨_, _, J7, q6⟩
    | cont =>
      obtain ⟨σ6, H6, S6, q6⟩ := hsp
      exact end_ S6 fun s7 J7 => ⟨_, _, J7, q6⟩
    | ret u =>
      obtain ⟨v6, σ6, H6, S6, r6, q6⟩ := hsp
      exact end_ S6 fun s7 J7 => ⟨_, _, _, J7, r6, q6⟩
  · cases f with
    | next =>
      obtain ⟨σ', H', J', q⟩ := hsp
      exact wpAny_execs_nil ⟨σ', H', J'.ofTry ok, q⟩
    | brk =>
      obtain ⟨σ', H', J', q⟩ := hsp
      exact ⟨σ', H', J'.ofTry ok, q⟩
    | cont =>
      obtain ⟨σ', H', J', q⟩ := hsp
      exact ⟨σ', H', J'.ofTry ok, q⟩
    | ret u =>
      obtain ⟨v, σ', H', J', r, q⟩ := hsp
      exact ⟨v, σ', H', J'.ofTry ok, r, q⟩
/-! ### defs that are called where an exception is handled, and read it; nothing is raised there -/
structure FnP (P : Program) (w : World) (K : PySem.W.Frag) (mg : Str → Option Value) (base : Heap) (k : Nat) (f : Addr) (fd : FuncData) (ps : List Str) (sp : Addr × Obj → Sp) : Prop where
  len : ∀ p vs H Q E, sp p vs H Q E → vs.length = ps.length
  run : ∀ (A : Around) (outer : List Env) (s : Shared) (H : Hp) (args : Args) (us : List Value) (vs : List V) (Q : VK) (p : Addr × Obj), L2H.RoomH k A → L2H.PinOk outer H s p → Env0 P w K mg base A outer s H → BindsTo s fd args (ps.zip us) → Vals vs us → sp p vs H Q E0 →
    codeAny (model P w) A (.call (.ref f) args) (CR CX0 outer P w H s Q E0) s
theorem fn_ofP {P : Program} {w : World} {K : PySem.W.Frag} {mg : Str → Option Value} {base : Heap} {k : Nat} {x : Str} {st : Stmt} {f : Addr} {fd : FuncData} {N ps : List Str} {sp : Addr × Obj → Sp} (F : Fun K x x st f fd) (S : FnScope N ps (defScope st))
    (len : ∀ p vs H Q E, sp p vs H Q E → vs.length = ps.length)
    (hbody : ∀ (cdv : Value) (A : Around) (outer : List Env) (s : Shared) (H : Hp) (vs : List V) (Q : VK) (p : Addr × Obj), L2H.RoomH k (A.deeper (envOfC x (defScope st) s.heap.objs.size f cdv)) → sp p vs H Q E0 →
      ∃ t, PSs (L2H.cxH CX0 P w K mg base N x (defScope st) f cdv A outer s H E0 p) (defBody st) t ∧ t { nx := fun _ H' => Q .non H', rt := Q } (L2.start N vs) H) : FnP P w K mg base (k + 1) f fd ps sp := by
  obtain ⟨oc, od, kV, doc, pm, an, cdv, ct, osl, rfl, lk, hcd⟩ := F.ex
  refine ⟨len, fun A outer s H args us vs Q p hr hpin e0 hb r hsp => ?_⟩
  have hl := len _ _ _ _ _ hsp
  have KX : K.In s.heap := e0.mod.kin.keeps fun b o e => (e0.bs b o e).1
  have lim : s.heap.NoLimit := e0.mod.nolimit.keeps fun b o e => (e0.bs b o e).1
  refine codeAny_call_function hr.depth (KX _ _ lk) rfl S.co S.gen rfl (PySem.W.codeRec_of KX hcd) (hb _ _ _ _ ?_)
  refine wpAny_newFunctionEnv_cells S.kind (fun ⟨n, v⟩ hy => ?_) fun env he s1 xc => ?_
  · rcases S.par n (List.of_mem_zip hy).1 with q | q
    · exact .inl q
    · exact .inr ⟨q, PySem.W.cellsFrom_some _ _ _ (.inl q)⟩
  · subst he
    refine ⟨lim.keeps xc.toInCall.keep, codeAny_func ?_⟩
    obtain ⟨t, ht, hq⟩ := hbody cdv A outer s H vs Q p (hr.deeper _) hsp
    refine wpAny_mono (ht.run [] s1 (L2.start N vs) H _ (L2H.inv_startH S hpin e0 hl r xc) hq) (fun fl s' hs => ?_) fun e s' hs => hs
    cases fl with
    | ret u =>
      obtain ⟨v, σ', H', J, rv, q⟩ := hs
      exact ⟨v, H', J.os, J.bare, J.base, J.hok, rv, q⟩
    | next =>
      obtain ⟨σ', H', J, q⟩ := hs
      exact ⟨.non, H', J.os, J.bare, J.base, J.hok, rfl, q⟩
    | brk =>
      obtain ⟨_, _, _, q⟩ := hs
      exact False.elim q
    | cont =>
      obtain ⟨_, _, _, q⟩ := hs
      exact False.elim q
theorem pe_callP {X : Cx} {k : Nat} {f : Addr} {fd : FuncData} {ps : List Str} {sp : Addr × Obj → Sp} {x : Str} {q pos : Pos} {e : Expr} {es : List Expr} {t : TA} {p : Addr × Obj} (F : FnP X.prog X.w X.K X.mg X.base k f fd ps sp) (hr : L2H.RoomH k X.A) (hp : p ∈ X.pn) (hg : Gl X x) (hm : X.mg x = some (.ref f))
    (hk : PySem.W.keepIn X.K (.ref f) = true) (hb : Binds X.K fd ps []) (ha : PA X (e :: es) t) (hdb : (x == ("__debug__" : Str)) = false := by decide) (he : starEach (e :: es) X.env = (false, eval e X.env) :: starEach es X.env := by rfl) (hpl : (backTo pos (starEach es X.env)).any (·.1) = false := by rfl) :
    PE X (.Call (.Name x q) (e :: es) [] pos) (fun σ H Q => t σ H fun vs H1 => sp p vs H1 Q E0) := by
  refine ⟨fun pins s σ H Q I h => wpAny_Call_Name_kw (ld_glob I hg hm (PySem.W.callWith_K (h₀ := X.base) I.ok.mod.kin hk (thn (ha.run pos pins s σ H _ I h) fun us s1 ⟨vs, H1, I1, r, q1⟩ => ⟨I1.kIn, ?_⟩) he hpl) hdb)⟩
  have hl : us.length = ps.length := by rw [← r.length]; exact F.len _ _ _ _ _ q1
  have b := hb s1 us I1.kIn (by rw [List.append_nil]; exact hl)
  rw [List.append_nil] at b
  have P1 := I1.pin p (List.mem_append_left _ hp)
  have hpin : L2H.PinOk X.stack H1 s1 p := ⟨P1.1, P1.2.1, fun hm => (List.mem_cons.mp (I1.stkSub p.1 hm)).elim P1.2.2.1 P1.2.2.2.1, P1.2.2.2.2⟩
  refine wpAny_call (codeAny_mono (F.run X.A X.stack s1 H1 ⟨us, []⟩ us vs Q p hr hpin I1.env0 b r q1) fun r s' hq => ?_)
  cases r with
  | error e => exact (show False from hq).elim
  | ok fl =>
    cases fl with
    | ret u => exact I1.after hq
    | next => exact False.elim hq
    | brk => exact False.elim hq
    | cont => exact False.elim hq
/-- what is told of the exception at p: its class, its own dict, the fields -/
structure Xat (K : PySem.W.Frag) (p : Addr × Obj) (C dd : Addr) : Prop where
  z : Zc (.ref C) (some dd) p.2
  fl : ∃ vs, p.2.data = .fields vs
  xf : XfC K C
def tXp (K : PySem.W.Frag) (p : Addr × Obj) (n : Str) (te : TE) : TE := fun σ H Q => te σ H fun x H1 => x = .ref p.1 ∧ ∃ (C dd : Addr) (fs : List (Str × V)) (v : V), Xat K p C dd ∧ PySem.W.findIn K (.ref C) n = some none ∧ H1 dd = some (.xd fs) ∧ fs.lookup n = some v ∧ Q v H1
theorem pe_xp {X : Cx} {p : Addr × Obj} {e : Expr} {te : TE} {pos : Pos} {n : Str} (hp : p ∈ X.pn) (he : PE X e te) (hb : attributeBase e n X.env (eval e X.env) = eval e X.env := by rfl) : PE X (.Attribute e n pos) (tXp X.K p n te) := by
  refine ⟨fun pins s σ H Q I h => attr_of hb (thn (he.run pins s σ H _ I h) fun u s1 hh => ?_)⟩
  obtain ⟨x, H1, I1, rx, ex, C, dd, fs, v, T, hno, ea, l, q⟩ := hh
  subst ex
  obtain rfl : u = Value.ref p.1 := rx
  obtain ⟨ha, _⟩ := I1.pin p (List.mem_append_left _ hp)
  obtain ⟨vs, hd⟩ := T.fl
  have hx : ObjOk X.prog X.w H1 s1.heap dd (.xd fs) := I1.hok dd _ ea
  obtain ⟨mA, hns, hr⟩ := hx
  obtain ⟨od, ho, hl⟩ := lookIn_ns hns
  obtain ⟨u, hu, ru⟩ := RelO.some_of (v := v) (o := mA n) (by rw [← l]; exact hr n)
  have J : PySem.W.InstAt s1.heap p.1 p.2 C (some od) := ⟨ha, T.z.1, by unfold PySem.W.notCls; rw [hd] <;> rfl, by rw [T.z.2]; exact ho⟩
  exact PySem.HandSPX.exc_get I1.kIn J T.xf.ga T.xf.gg T.xf.exC (PySem.W.findObj_own T.xf.hdC hno rfl (by rw [hl, hu])) (handed_of ru) ⟨v, H1, I1.tok _, ru, q⟩
/-! ### own errors: what K tells of a class, making one, what why tells of it -/
structure ErrC (K : PySem.W.Frag) (mg : Str → Option Value) (x : Str) (C Tie Miss fI : Addr) : Prop where
  oex : OexC K C
  xf : XfC K C
  gC : mg x = some (.ref C)
  tag : PySem.W.findIn K (.ref C) "tag" = some none
  any : PySem.W.exmAny K (.ref C) [.ref Tie, .ref Miss] = some true
  iC : PySem.W.findIn K (.ref C) "__init__" = some (some (.ref fI))
  tI : PySem.W.typeIn K (.ref fI) = some (.type "function")
/-- __init__(self, v): self.n = v; self.tag = x -/
def spInit1 (K : PySem.W.Frag) (n x : Str) : Sp := fun vs H Q _ => ∃ (a C : Addr) (v : V), vs = [.ref a, v] ∧ OexC K C ∧ PySem.W.findIn K (.ref C) n = some none ∧ PySem.W.findIn K (.ref C) "tag" = some none ∧ H a = some (exo a C none) ∧
  ∀ dx, H dx = none → dx ≠ a → Q .non (upd (upd (upd H dx (exd dx [(n, v)])) a (exo a C (some dx))) dx (exd dx [("tag", .str x), (n, v)]))
def spInit0 (K : PySem.W.Frag) (x : Str) : Sp := fun vs H Q _ => ∃ (a C : Addr), vs = [.ref a] ∧ OexC K C ∧ PySem.W.findIn K (.ref C) "tag" = some none ∧ H a = some (exo a C none) ∧
  ∀ dx, H dx = none → dx ≠ a → Q .non (upd (upd H dx (exd dx [("tag", .str x)])) a (exo a C (some dx)))
theorem Same.del {H H2 : Hp} {a d : Addr} {o : HO} (na : H a = none) (nd : H d = none) (h : ∀ b u, b ≠ a → H b = some u → H2 b = some u) : Same H (upd (del H2 a) d o) := fun b u e => by
  rw [upd_ne (ne_of_none e nd), del_ne (ne_of_none e na)]
  exact h b u (ne_of_none e na) e
/-! ### a def whose code object is known -/
structure FunC (K : PySem.W.Frag) (x : Str) (st : Stmt) (f : Addr) (fd : FuncData) (c : Addr) : Prop where
  ex : ∃ (oc : Value) (od : Option Addr) (kV doc pm : Value) (an : Option Addr) (ct : Value) (osl : Array (Option Value)),
    fd = PySem.W.fnOf x x (defArgs st) (defBody st) (defScope st) .none kV doc pm an (.ref c) ct ∧ K.lookup f = some ⟨oc, od, .func fd, osl⟩ ∧ PySem.W.codeIn K (.ref c) x = true
theorem FunC.ok {P : Program} {w : World} {K : PySem.W.Frag} {mg : Str → Option Value} {base : Heap} {x : Str} {st : Stmt} {f c : Addr} {fd : FuncData} {N ps : List Str} {k : Nat} {sp : Sp} (F : FunC K x st f fd c) (S : FnScope N ps (defScope st)) (len : ∀ vs H Q E, sp vs H Q E → vs.length = ps.length)
    (hbody : ∀ (A : Around) (outer : List Env) (s : Shared) (H : Hp) (vs : List V) (Q : VK) (E : XK), Room k (A.deeper (envOfC x (defScope st) s.heap.objs.size f (.ref c))) → sp vs H Q E →
      ∃ t, PSs (cxOf CX0 P w K mg base N x (defScope st) f (.ref c) A outer s H E).nox (defBody st) t ∧ t { nx := fun _ H' => Q .non H', rt := Q } (L2.start N vs) H) : FnOk P w K mg base CX0 (k + 1) f fd ps sp := by
  obtain ⟨oc, od, kV, doc, pm, an, ct, osl, rfl, lk, hcd⟩ := F.ex
  refine fn_of lk hcd S len fun A outer s H vs Q E hr hsp => ?_
  obtain ⟨t, h, q⟩ := hbody A outer s H vs Q E hr hsp
  exact ⟨t, h.nox, q⟩
theorem ExtN.same {H H' : Hp} (s : Same H H') : LamX.ExtN H H' := fun b o e _ => s b o e
/-! ### the end with tables -/
theorem walk_T {l : PySem.W.OpenLaw} {n k : Nat} {q : Program} {loose : List Str} {XP : (Str → Option Value) → Heap → Prop} {YP : World → Heap → Prop} {d : DefRec} {K : Params → PySem.W.Frag} {CX : World → CXT} {x : Str}
    (hn : l.most = some n) (hn2 : n ≤ sizeLine) (hdf : d.params.defaults = []) (hr : Room k callerA) (hY : ∀ (w : World) (h : Heap), YP w h → (K w.params).In h)
    (F : ∀ (w : World) (lo : List Str) (mean : ExcName → Option Value) (mg mb : Str → Option Value) (fa : Addr) (h : Heap), Top q lo mean mg mb h → (K w.params).In h → mg d.name = some (.ref fa) → LamX.LawAtS l w (K w.params) (CX w) k n x mg fa h)
    (hCX : ∀ (w : World) (H : Hp) (s : Shared) (e : Value) (s' : Shared), CX w [] H s (fun _ _ _ => False) e s' → False) :
    PySem.W.WalkO q loose XP YP l.row.toRowW d [] (fun f vs => PySem.call f vs) := by
  refine Att.attach_callB hn hdf fun w s₀ s₁ mg mb fa o pm cd doc a vs ns G Y ho hd hcd hmg hobj hints hlen hbits hg => ?_
  have KX := hY w _ Y
  obtain ⟨fd, cs, sp, hT, nT, C, hb, hsp, hF⟩ := F w _ _ mg mb fa _ G.T KX hmg
  exact LamX.law_callTs KX G.T.g G.T.b G.T.builtins G.T.nolimit hg hT nT C G.T.bmain hobj hints (Nat.le_trans hlen hn2) hr hF hb (fun H hH hS => hsp H a ns hlen hbits hH hS) fun H e s' => hCX w H s₁ e s'
theorem exm_by {K : PySem.W.Frag} {S : Addr} {cls : Value} {b : Bool} (h1 : PySem.W.subIn K (.ref S) (.type "BaseException") = some true) (h2 : PySem.W.isClsIn K S = true) (h3 : PySem.W.typeIn K (.ref S) = some (.type "type")) (h4 : PySem.W.subIn K cls (.ref S) = some b) :
    PySem.W.exmOne K cls (.ref S) = some b := by
  have e1 : (PySem.W.subIn K (.ref S) (.type "BaseException") == some true) = true := by rw [h1] <;> rfl
  have e2 : ((PySem.W.clsIn K S).isSome && PySem.W.typeIn K (.ref S) == some (.type "type")) = true := by
    have h2' : (PySem.W.clsIn K S).isSome = true := h2
    rw [h2', h3] <;> rfl
  unfold PySem.W.exmOne PySem.W.kitCls
  rw [if_pos e1]
  exact (if_pos e2).trans h4
theorem exm_any {K : PySem.W.Frag} {c1 c2 cls : Value} (h1 : PySem.W.exmOne K cls c1 = some true) (h2 : PySem.W.exmOne K cls c2 = some false) : PySem.W.exmAny K cls [c1, c2] = some true := by
  unfold PySem.W.exmAny PySem.W.exmAny PySem.W.exmAny
  rw [h1, h2]
  rfl
/-! ### calls with keywords alone -/
theorem pe_callN0 {X : Cx} {CX : CXT} {k : Nat} {f : Addr} {fd : FuncData} {ps ks : List Str} {sp : Sp} {E : XK} {x : Str} {p pos : Pos} {kws : List Keyword} {tk : TA} {g : List Value → List Value → List Value} {gV : List V → List V → List V}
    (F : FnOk X.prog X.w X.K X.mg X.base CX k f fd ps sp) (hr : Room k X.A) (hg : Gl X x) (hm : X.mg x = some (.ref f)) (hk : PySem.W.keepIn X.K (.ref f) = true) (hb : KBn X.K fd ps 0 ks g gV) (hx : Passes CX X E) (hkw : PK X kws tk)
    (hall : (backToKw pos (keywordEach kws X.env)).all (·.1.isSome) = true := by rfl) (hks : (backToKw pos (keywordEach kws X.env)).filterMap (·.1) = ks := by rfl) (hdb : (x == ("__debug__" : Str)) = false := by decide)
    (hpl : ((backTo pos (starEach [] X.env)).any (·.1) || (backToKw pos (keywordEach kws X.env)).any (·.1.isNone)) = false := by rfl) :
    PE X (.Call (.Name x p) [] kws pos) (fun σ H Q => tk σ H fun zs H2 => zs.length = ks.length ∧ sp (gV [] zs) H2 Q E) := by
  refine ⟨fun pins s σ H Q I h => wpAny_Call_Name_kw (ld_glob I hg hm (PySem.W.callWith_KW0 (h₀ := X.base) I.ok.mod.kin hk hall (thn (hkw.run pos pins s σ H _ I h) fun ws s2 ⟨zs, H2, I2, rz, l2, q2⟩ => ⟨I2.kIn, ?_⟩) hpl) hdb)⟩
  rw [hks]
  exact run_fnN (us := []) (vs := []) F hr hb hx I2 .nil rz rfl l2 q2
/-- two values in the other order -/
theorem swap_rel : ∀ {vs : List V} {us : List Value} {zs : List V} {ws : List Value}, Vals vs us → Vals zs ws → Vals [zs.getD 1 .non, zs.getD 0 .non] [ws.getD 1 Value.none, ws.getD 0 Value.none]
  | _, _, _, _, _, .nil => .cons rfl (.cons rfl .nil)
  | _, _, _, _, _, .cons r .nil => .cons rfl (.cons r .nil)
  | _, _, _, _, _, .cons r (.cons r2 _) => .cons r2 (.cons r .nil)
/-! ### an error as a value -/
/-- at a: an exception whose object is known -/
def ExV (oe : Obj) (a : Addr) : HO := .ext fun h => h.get? a = some oe
theorem exv_ok {P : Program} {w : World} {H : Hp} {h : Heap} {a : Addr} {oe : Obj} (e : h.get? a = some oe) : ObjOk P w H h a (ExV oe a) := ⟨e, ⟨_, e⟩, fun _ _ z k => k _ z⟩
theorem exv_at {P : Program} {w : World} {H : Hp} {h : Heap} {a : Addr} {oe : Obj} (hok : HOk P w H h) (e : H a = some (ExV oe a)) : h.get? a = some oe := by
  have x : ObjOk P w H h a (.ext fun h => h.get? a = some oe) := hok a _ e
  exact x.1
/-- C(..) of an error class, its object kept -/
theorem pe_exv {X : Cx} {e : Expr} {t : L2.St → Hp → XK → Prop} (h : PMk X e t) : PE X e (fun σ H Q => t σ H fun cls d H' => ∀ (a : Addr) (oe : Obj), Zc cls d oe → (∃ vs, oe.data = .fields vs) → H' a = none → Q (.ref a) (upd H' a (ExV oe a))) := by
  refine ⟨fun pins s σ H Q I q => wpAny_mono (h pins s σ H _ I q) (fun v s1 hm => ?_) fun _ _ z => z⟩
  obtain ⟨a, oe, vs, sI, H', cls, d, rfl, J, k, ga, ha, hz, hd, h1, na, os, ag, r, qq⟩ := hm
  have J2 := J.laidN (t' := s1.toks) (a := a) (o := ExV oe a) k ga na (exv_ok ha)
  exact ⟨.ref a, _, ⟨J2.ok, os.trans J2.os, ag, J2.base, J2.loc, J2.cell, J2.free, J2.freeC, J2.pin, J2.hok, J2.len⟩, rfl, qq a oe hz ⟨vs, hd⟩ na⟩
/-- an attribute of it -/
def tXv (K : PySem.W.Frag) (n : Str) (te : TE) : TE := fun σ H Q => te σ H fun x H1 => ∃ (a : Addr) (oe : Obj) (C dd : Addr) (fs : List (Str × V)) (v : V), x = .ref a ∧ H1 a = some (ExV oe a) ∧ Xat K (a, oe) C dd ∧ PySem.W.findIn K (.ref C) n = some none ∧ H1 dd = some (.xd fs) ∧ fs.lookup n = some v ∧ Q v H1
theorem pe_xv {X : Cx} {e : Expr} {te : TE} {pos : Pos} {n : Str} (he : PE X e te) (hb : attributeBase e n X.env (eval e X.env) = eval e X.env := by rfl) : PE X (.Attribute e n pos) (tXv X.K n te) := by
  refine ⟨fun pins s σ H Q I h => attr_of hb (thn (he.run pins s σ H _ I h) fun u s1 hh => ?_)⟩
  obtain ⟨x, H1, I1, rx, a, oe, C, dd, fs, v, ex, hv, T, hno, ea, l, q⟩ := hh
  subst ex
  obtain rfl : u = Value.ref a := rx
  have ha := exv_at I1.hok hv
  obtain ⟨vs, hd⟩ := T.fl
  have hx : ObjOk X.prog X.w H1 s1.heap dd (.xd fs) := I1.hok dd _ ea
  obtain ⟨mA, hns, hr⟩ := hx
  obtain ⟨od, ho, hl⟩ := lookIn_ns hns
  obtain ⟨u, hu, ru⟩ := RelO.some_of (v := v) (o := mA n) (by rw [← l]; exact hr n)
  have J : PySem.W.InstAt s1.heap a oe C (some od) := ⟨ha, T.z.1, by unfold PySem.W.notCls; rw [hd] <;> rfl, by rw [T.z.2]; exact ho⟩
  exact PySem.HandSPX.exc_get I1.kIn J T.xf.ga T.xf.gg T.xf.exC (PySem.W.findObj_own T.xf.hdC hno rfl (by rw [hl, hu])) (handed_of ru) ⟨v, H1, I1.tok _, ru, q⟩
/-! ### lambdas that are kept: made as values, called later -/
section
open PySem.W LamX PySem.Calls
/-- the names of a kept lambda: captured ones, globals, and its own parameters (which the maker does not name) -/
structure LamQ (N : List Str) (sc scope : Scope) : Prop where
  kind : scope.kind = .function
  co : scope.isCoroutine = false
  gen : scope.isGenerator = false
  own : ∀ y ∈ scope.names, y.2 ≠ .cell ∧ (y.2 = .local → y.1 ∉ N)
  free : ∀ y ∈ scope.names, y.2 = .free → sc.names.lookup y.1 = some .cell ∨ sc.names.lookup y.1 = some .free
def lamQB (N : List Str) (sc scope : Scope) : Bool :=
  (decide (scope.kind = .function) && (!scope.isCoroutine && !scope.isGenerator)) && scope.names.all fun y => (!decide (y.2 = .cell) && (!decide (y.2 = .local) || !decide (y.1 ∈ N))) && (!decide (y.2 = .free) || (decide (sc.names.lookup y.1 = some .cell) || decide (sc.names.lookup y.1 = some .free)))
theorem lamQ_by {N : List Str} {sc scope : Scope} (h : lamQB N sc scope = true) : LamQ N sc scope := by
  unfold lamQB at h
  rw [Bool.and_eq_true, Bool.and_eq_true, Bool.and_eq_true, decide_eq_true_eq, Bool.not_eq_true', Bool.not_eq_true'] at h
  obtain ⟨⟨h1, h2, h3⟩, h4⟩ := h
  have each := List.all_eq_true.mp h4
  refine ⟨h1, h2, h3, fun y hy => ⟨fun e => ?_, fun e m => ?_⟩, fun y hy e => ?_⟩
  · have z := each y hy
    simp [e] at z
  · have z := each y hy
    simp [e, m] at z
  · have z := each y hy
    simpa [e] using z
theorem LamQ.has {X : Cx} {scope : Scope} (L : LamQ X.N X.env.scope scope) (ok : X.Ok) {y : Str × NameKind} (hy : y ∈ scope.names) (e : y.2 = .free) : ∃ c, X.env.cells.lookup y.1 = some c :=
  (L.free y hy e).elim (fun k => ok.has _ (.inl k)) fun k => ok.has _ (.inr k)
/-- the object of a lambda -/
abbrev lqO (q : Str) (ps : Arguments) (b : Expr) (sc : Scope) (cl : List (Str × Addr)) (dV doc pm : Value) (c' : Addr) (ct : Value) : Obj := kdv_obj "<lambda>" q ps (.expr b) sc cl dV doc pm c' ct
/-- no default, or the one default 0 in its tuple -/
def DfltAt (H : Hp) (dV : Value) : Bool → Prop
  | false => dV = .none
  | true => ∃ T, dV = .ref T ∧ H T = some (.tup [V.int 0])
def LqAt (X : Cx) (H : Hp) (d : Bool) (ps : Arguments) (b : Expr) (sc : Scope) (f : Addr) : Prop := ∃ (dV doc pm ct : Value) (c' : Addr),
  H f = some (ExV (lqO (X.env.qual ++ "<lambda>") ps b sc (cloFrom X.env.cells sc.names []) dV doc pm c' ct) f) ∧ H c' = some (CodeO c' (X.env.qual ++ "<lambda>")) ∧ DfltAt H dV d
theorem exv_ne_tbl {o : Obj} {a : Addr} (ps : Array Value) : ExV o a ≠ .tbl ps := fun z => by
  unfold ExV at z
  cases z
theorem exv_ne_lst {o : Obj} {a : Addr} (xs : List V) : ExV o a ≠ .lst xs := fun z => by
  unfold ExV at z
  cases z
theorem codeO_ne_lst {c : Addr} {q : Str} (xs : List V) : CodeO c q ≠ .lst xs := fun z => by
  unfold CodeO at z
  cases z
/-- what neither is a list nor a table stays -/
def Keep2 (H H' : Hp) : Prop := ∀ b o, H b = some o → (∀ ps, o ≠ .tbl ps) → (∀ xs, o ≠ .lst xs) → H' b = some o
theorem LqAt.keep {X : Cx} {H H' : Hp} {d : Bool} {ps : Arguments} {b : Expr} {sc : Scope} {f : Addr} (h : LqAt X H d ps b sc f) (k : Keep2 H H') : LqAt X H' d ps b sc f := by
  obtain ⟨dV, doc, pm, ct, c', h1, h2, h3⟩ := h
  refine ⟨dV, doc, pm, ct, c', k _ _ h1 exv_ne_tbl exv_ne_lst, k _ _ h2 codeO_ne codeO_ne_lst, ?_⟩
  cases d with
  | false => exact h3
  | true =>
    obtain ⟨T, e, h3⟩ := h3
    exact ⟨T, e, k _ _ h3 (fun ps z => by cases z) fun xs z => by cases z⟩
section
variable {X : Cx} {pins : List (Addr × Obj)} {σ : L2.St} {H : Hp} {s : Shared}
theorem lq_sup {H : Hp} {a : Addr} {o : HO} (n : H a = none) : ∀ b u, H b = some u → upd H a o b = some u := fun b u e => (upd_ne (ne_of_none e n)).trans e
/-- the function object laid -/
theorem lq_lay {H1 : Hp} {s1 : Shared} {o : Obj} {h2 : Heap} {tk : Nat} (I1 : Inv X pins σ H1 s1) (hf : o.isFreed = false) (eh : h2 = s1.heap.push o) : Inv X pins σ (upd H1 s1.heap.objs.size (ExV o s1.heap.objs.size)) { s1 with heap := h2, toks := tk } := by
  subst eh
  exact I1.laid (fun b u e => Heap.get?_push_of_some _ e) (Nat.le_refl _) (exv_ok (Heap.get?_push_size _ hf))
/-- a lambda is made, its default given -/
theorem lq_make {T : List (Addr × Str)} {c P : Addr} {params : Arguments} {body : Expr} {scope : Scope} {pos : Pos} {dV : Value} {d : Bool} {E : Value → Shared → Prop} {Q : Value → Shared → Prop} (I : Inv X pins σ H s) (TB : TabB X.base X.mg c P) (hcode : X.env.code = .ref c)
    (hm : (P, X.env.qual ++ "<lambda>") ∈ T) (hu : ∀ p ∈ T, p.1 = P → p.2 = X.env.qual ++ "<lambda>") (hT : Tabs T H) (hfree : ∀ y ∈ scope.names, y.2 = .free → ∃ c, X.env.cells.lookup y.1 = some c) (hd : DfltAt H dV d)
    (go : ∀ (f : Addr) (H2 : Hp) (s' : Shared), Inv X pins σ H2 s' → ExtN H H2 → Tabs T H2 → LqAt X H2 d params body scope f → Q (.ref f) s') :
    wpAny (model X.prog X.w) X.A (makeTail "<lambda>" (X.env.qual ++ "<lambda>") params (.expr body) scope X.env dV .none none pos pos.line) Q E s := by
  obtain ⟨ps, hP, ht, ha⟩ := hT _ hm
  have bP : s.heap.BuiltinsAt X.mg P := TB.bm.keeps I.bk
  have hP' : s.heap.get? P = some { cls := .none, data := .fields ps } := I.hok P _ hP
  have last : ∀ (c' : Addr) (doc ctv : Value) (H1 : Hp) (h1 : Heap) (tk : Nat), Inv X pins σ H1 { s with heap := h1, toks := tk } → ExtN H H1 → Tabs T H1 → H1 c' = some (CodeO c' (X.env.qual ++ "<lambda>")) →
      Q (.ref h1.objs.size) { s with heap := h1.push (lqO (X.env.qual ++ "<lambda>") params body scope (cloFrom X.env.cells scope.names []) dV doc ((X.mg "__name__").getD .none) c' ctv), toks := tk } := by
    intro c' doc ctv H1 h1 tk I1 e1 t1 hc1
    have nf : H1 h1.objs.size = none := I1.hok.fresh (Nat.le_refl _)
    have sm : ∀ b u, H1 b = some u → (upd H1 h1.objs.size (ExV (lqO (X.env.qual ++ "<lambda>") params body scope (cloFrom X.env.cells scope.names []) dV doc ((X.mg "__name__").getD .none) c' ctv) h1.objs.size)) b = some u := lq_sup nf
    refine go h1.objs.size _ _ (lq_lay (s1 := { s with heap := h1, toks := tk }) (tk := tk) I1 rfl rfl) (e1.trans (ExtN.of sm)) (t1.ext sm) ⟨_, _, _, _, _, upd_same, sm _ _ hc1, ?_⟩
    cases d with
    | false => exact hd
    | true =>
      obtain ⟨D, e, hd⟩ := hd
      exact ⟨D, e, sm _ _ (e1 _ _ hd (fun _ z => by cases z))⟩
  cases hc : codeAmong pos ps.toList with
  | none =>
    refine kdv_makeTail (mg := X.mg) (c := c) (P := P) (ps := ps) (closure_ok hfree) I.ok.glob (I.mod.glob.keeps I.bk) hcode (TB.code.keeps I.bk) hP' ht hc TB.gP bP fun c' ctv doc h' tk hx hge hlt hrec htb => ?_
    obtain ⟨c2, oc, vs, t, e2, hoc, hdt, hv⟩ := hrec
    cases e2
    have nC : H c' = none := I.hok.fresh hge
    have I1 := inv_table (t' := tk) (more := #[rawInt pos.line, rawInt pos.col, .ref c']) (h' := h') (c := c') (q := X.env.qual ++ "<lambda>") I hP hx htb hge ⟨oc, vs, t, hoc, hdt, hv⟩
    have hE : ExtN H (upd (upd H P (.tbl (ps ++ #[rawInt pos.line, rawInt pos.col, .ref c']))) c' (CodeO c' (X.env.qual ++ "<lambda>"))) := by
      intro b o e n
      have b1 : b ≠ P := fun z => n ps (Option.some.inj (e.symm.trans (by rw [z]; exact hP)))
      rw [upd_ne (ne_of_none e nC), upd_ne b1]
      exact e
    refine last c' doc ctv _ _ _ I1 hE (fun p hp => ?_) upd_same
    by_cases hb : p.1 = P
    · have eL : (ps ++ #[rawInt pos.line, rawInt pos.col, .ref c']).toList = ps.toList ++ [rawInt pos.line, rawInt pos.col, .ref c'] := by simp
      rw [hu p hp hb, hb]
      refine ⟨_, (upd_ne (ne_of_none hP nC)).trans upd_same, eL ▸ PySem.TriplesOk_snoc _ _ _ _ ht, fun p' cv hcv => ?_⟩
      rw [eL] at hcv
      rcases among_app _ ht hcv with z | z
      · obtain ⟨c0, e1, e2⟩ := ha p' cv z
        exact ⟨c0, e1, hE _ _ e2 codeO_ne⟩
      · exact ⟨c', z, upd_same⟩
    · obtain ⟨ps', a1, a2, a3⟩ := hT p hp
      refine ⟨ps', (upd_ne (ne_of_none a1 nC)).trans ((upd_ne hb).trans a1), a2, fun p' cv hcv => ?_⟩
      obtain ⟨c0, e1, e2⟩ := a3 p' cv hcv
      exact ⟨c0, e1, hE _ _ e2 codeO_ne⟩
  | some cv =>
    obtain ⟨c', e, hco⟩ := ha pos cv hc
    subst e
    refine kdv_makeTailHit (mg := X.mg) (c := c) (P := P) (ps := ps) (closure_ok hfree) I.ok.glob (I.mod.glob.keeps I.bk) hcode (TB.code.keeps I.bk) hP' ht hc bP fun ctv doc h' tk hx hsz => ?_
    exact last c' doc ctv H h' tk (I.kept hx) (ExtN.refl H) hT hco
end
end
/-! ### a kept lambda is entered -/
section
open PySem.W LamX PySem.Calls
/-- an address of a cell of the maker's -/
def isC (X : Cx) (c : Addr) : Prop := ∃ x, X.env.cells.lookup x = some c
open Classical in
/-- without the maker's cells -/
noncomputable def minC (X : Cx) (H : Hp) : Hp := fun b => if isC X b then none else H b
open Classical in
/-- with the cells as they stand in G -/
noncomputable def putC (X : Cx) (G H : Hp) : Hp := fun b => if isC X b then G b else H b
theorem minC_c {X : Cx} {H : Hp} {b : Addr} (h : isC X b) : minC X H b = none := if_pos h
theorem minC_n {X : Cx} {H : Hp} {b : Addr} (h : ¬ isC X b) : minC X H b = H b := if_neg h
theorem putC_c {X : Cx} {G H : Hp} {b : Addr} (h : isC X b) : putC X G H b = G b := if_pos h
theorem putC_n {X : Cx} {G H : Hp} {b : Addr} (h : ¬ isC X b) : putC X G H b = H b := if_neg h
/-- the maker's cells stand in the heap, with the values of its names -/
structure CellsAt (X : Cx) (σ : List (Option V)) (H : Hp) : Prop where
  all : ∀ c, isC X c → ∃ o w, H c = some (.frz o (.own 0)) ∧ o.data = .cell w
  at_ : ∀ (i : Nat) (x : Str) (v : V), X.N[i]? = some x → σ[i]? = some (some v) → (X.env.scope.names.lookup x = some .cell ∨ X.env.scope.names.lookup x = some .free) → ∃ c o u, X.env.cells.lookup x = some c ∧ H c = some (.frz o (.own 0)) ∧ o.data = .cell (some u) ∧ RelV v u
section
variable {X : Cx} {σ : L2.St} {HZ H' : Hp} {s : Shared}
theorem CellsAt.not_own (C : CellsAt X σ HZ) {b a : Addr} (h : HZ b = some (.own a)) : ¬ isC X b := fun z => by
  obtain ⟨o, w, e, _⟩ := C.all b z
  rw [h] at e
  cases e
theorem CellsAt.not_tup (C : CellsAt X σ HZ) {b : Addr} {xs : List V} (h : HZ b = some (.tup xs)) : ¬ isC X b := fun z => by
  obtain ⟨o, w, e, _⟩ := C.all b z
  rw [h] at e
  cases e
theorem CellsAt.not_tbl (C : CellsAt X σ HZ) {b : Addr} {xs : Array Value} (h : HZ b = some (.tbl xs)) : ¬ isC X b := fun z => by
  obtain ⟨o, w, e, _⟩ := C.all b z
  rw [h] at e
  cases e
theorem CellsAt.not_none (C : CellsAt X σ HZ) {b : Addr} (h : HZ b = none) : ¬ isC X b := fun z => by
  obtain ⟨o, w, e, _⟩ := C.all b z
  rw [h] at e
  cases e
theorem minC_none {b : Addr} (h : HZ b = none) : minC X HZ b = none := by
  by_cases z : isC X b
  · exact minC_c z
  · rw [minC_n z, h]
theorem minC_hok {P : Program} {w : World} {h : Heap} (C : CellsAt X σ HZ) (hok : HOk P w HZ h) : HOk P w (minC X HZ) h := by
  intro a o e
  have na : ¬ isC X a := fun z => by
    rw [minC_c z] at e
    cases e
  rw [minC_n na] at e
  refine (hok a o e).stay (fun b u _ q => q) (fun b q => ?_) fun b xs q => ?_
  · rw [minC_n (C.not_own q)]
    exact q
  · rw [minC_n (C.not_tup q)]
    exact q
theorem minC_env {P : Program} {w : World} {K : PySem.W.Frag} {mg : Str → Option Value} {base : Heap} {A : Around} {outer : List Env} (C : CellsAt X σ HZ) (e0 : Env0 P w K mg base A outer s HZ) : Env0 P w K mg base A outer s (minC X HZ) :=
  ⟨e0.frames, e0.mod, fun b o e => ⟨(e0.bs b o e).1, minC_none (e0.bs b o e).2⟩, e0.bsz, e0.funs, fun b hb => minC_none (e0.frf b hb), minC_hok C e0.hok, e0.bare⟩
/-- behind the lambda: the cells are put back -/
theorem putC_un {P : Program} {w : World} {K : PySem.W.Frag} {mg : Str → Option Value} {base : Heap} {A : Around} {outer : List Env} {h' : Heap} (C : CellsAt X σ HZ) (e0 : Env0 P w K mg base A outer s HZ) (un : Un (frs outer) [] (minC X HZ) H' s.heap h') :
    (∀ c, isC X c → H' c = none) ∧ Un (frs outer) [] HZ (putC X HZ H') s.heap h' := by
  have cell : ∀ c, isC X c → ∃ o, HZ c = some (.frz o (.own 0)) ∧ s.heap.get? c = some o := fun c hc => by
    obtain ⟨o, w, e, _⟩ := C.all c hc
    exact ⟨o, e, (show s.heap.get? c = some o ∧ _ from e0.hok c _ e).1⟩
  refine ⟨fun c hc => ?_, ⟨fun b o q n => un.keep b o q (minC_none n), fun b o q n => un.slot b o q (minC_none n), fun b o q n hx => ?_, un.there, fun b xs q => ?_, fun b o u q => ?_, fun b ps q => ?_⟩⟩
  · obtain ⟨o, e, g⟩ := cell c hc
    exact un.free c o g (minC_c hc) (by simp)
  · rw [putC_n (C.not_none n)]
    exact un.free b o q (minC_none n) hx
  · have nb := C.not_tup q
    rw [putC_n nb]
    exact un.tups b xs ((minC_n nb).trans q)
  · by_cases z : isC X b
    · rw [putC_c z]
      exact q
    · rw [putC_n z]
      exact un.frzs b o u ((minC_n z).trans q)
  · have nb := C.not_tbl q
    obtain ⟨more, e⟩ := un.tbls b ps ((minC_n nb).trans q)
    exact ⟨more, (putC_n nb).trans e⟩
theorem putC_hok {P : Program} {w : World} {h' : Heap} (C : CellsAt X σ HZ) (none_ : ∀ c, isC X c → H' c = none) (cells : ∀ c o, HZ c = some (.frz o (.own 0)) → isC X c → h'.get? c = some o) (hok : HOk P w H' h') : HOk P w (putC X HZ H') h' := by
  intro a o e
  by_cases z : isC X a
  · rw [putC_c z] at e
    obtain ⟨o1, w1, e1, _⟩ := C.all a z
    rw [e1] at e
    cases e
    exact ⟨cells a o1 e1 z, o1, cells a o1 e1 z⟩
  · rw [putC_n z] at e
    have out : ∀ {b : Addr} {u : HO}, H' b = some u → putC X HZ H' b = some u := fun {b u} q => by
      have nb : ¬ isC X b := fun y => by
        rw [none_ b y] at q
        cases q
      exact (putC_n nb).trans q
    exact (hok a o e).stay (fun b u _ q => q) (fun b q => out q) fun b xs q => out q
end
section
variable {X : Cx} {σ : L2.St} {HZ : Hp} {s1 : Shared}
theorem lq_start {A : Around} {outer : List Env} {E : XK} {scope : Scope} {f c' : Addr} {h₁ : Heap} {tk : Nat} {binds : List (Str × Value)} (ok : X.Ok) (len : σ.length = X.N.length) (L : LamQ X.N X.env.scope scope) (e0 : Env0 X.prog X.w X.K X.mg X.base A outer s1 HZ) (hd : A.handled = none)
    (C : CellsAt X σ HZ) (hns : h₁.Ns s1.heap.objs.size fun y => binds.reverse.lookup y) (kp : ∀ b o, s1.heap.get? b = some o → h₁.get? b = some o) :
    Inv (lamCx X A outer s1 (minC X HZ) E scope f c') [] σ (minC X HZ) { s1 with heap := h₁, toks := tk } := by
  have e1 := minC_env C e0
  have cm : ∀ {y c}, (cloFrom X.env.cells scope.names []).lookup y = some c → X.env.cells.lookup y = some c := by
    intro y c e
    rcases cloFrom_mem (PySem.mem_of_lookup e) with hm | ⟨h1, h2⟩
    · cases hm
    · obtain ⟨c1, hc⟩ := L.has ok h1 rfl
      have hc' : X.env.cells.lookup y = some c1 := hc
      have h3 : c = c1 := by
        rw [h2, hc'] <;> rfl
      exact h3 ▸ hc'
  have look : ∀ {y}, scope.names.lookup y = some .free → ∃ c, (cloFrom X.env.cells scope.names []).lookup y = some c := by
    intro y hl
    have hy : (y, NameKind.free) ∈ scope.names := PySem.mem_of_lookup hl
    exact mem_lookup (cloFrom_has (cells := X.env.cells) (acc := []) hy)
  have inC : ∀ {y c}, (cloFrom X.env.cells scope.names []).lookup y = some c → isC X c := fun {y c} e => ⟨y, cm e⟩
  have cellK : ∀ {c : Addr} {o : Obj} {v : Option Value}, HZ c = some (.frz o (.own 0)) → o.data = .cell v → h₁.IsCell c v := by
    intro c o v e d
    have g : s1.heap.get? c = some o ∧ _ := e0.hok c _ e
    exact ⟨o, kp _ _ g.1, d⟩
  have noA : ∀ b : Addr, b ∉ (lamCx X A outer s1 (minC X HZ) E scope f c').ex := fun b z => absurd (show b ∈ ([] : List Addr) from z) (by simp)
  refine ⟨⟨e1.mod, L.kind, rfl, rfl, Nat.le_refl _, fun y z c q1 q2 => ok.inj y z c (cm q1) (cm q2), fun y hy => ?_, fun y c z _ => ?_, fun _ => hd, Around.frames_deeper e1.frames, .inr ⟨rfl, rfl⟩, fun b z => absurd z (noA b), e1.bs, e1.bsz, fun b _ _ => noA b, fun b z => absurd z (noA b), e1.funs, e1.frf⟩,
    rfl, e1.bare, Un.kept kp, ⟨_, hns, fun i y v q1 q2 q3 => ?_⟩, fun y c e => ?_, e1.hok.fresh (Nat.le_refl _), fun y c e => minC_c (inC e), fun q hq => absurd (show q ∈ ([] : List (Addr × Obj)) ++ [] from hq) (by simp), e1.hok.kept kp, len⟩
  · have hy : scope.names.lookup y = some .cell ∨ scope.names.lookup y = some .free := hy
    rcases hy with hy | hy
    · exact absurd rfl (L.own _ (PySem.mem_of_lookup hy)).1
    · exact look hy
  · have z : false = true := z
    cases z
  · have q3 : Vis scope y := q3
    rcases q3 with k | k | k
    · exact absurd (List.mem_of_getElem? q1) ((L.own _ (PySem.mem_of_lookup k)).2 rfl)
    · exact absurd rfl (L.own _ (PySem.mem_of_lookup k)).1
    · obtain ⟨c2, h2⟩ := look k
      obtain ⟨c, o, u, g1, g2, g3, g4⟩ := C.at_ i y v q1 q2 (L.free _ (PySem.mem_of_lookup k) rfl)
      have c1 := cm h2
      rw [c1] at g1
      cases g1
      exact ⟨u, g4, .inr ⟨.inr k, c2, h2, cellK g2 g3⟩⟩
  · obtain ⟨o, w, g1, g2⟩ := C.all c (inC e)
    exact ⟨w, cellK g1 g2⟩
/-- how the lambda takes no argument; d: it has a default -/
def LqBind (ps : Arguments) (sc : Scope) (d : Bool) : Prop := ∃ binds : List Value → List (Str × Value), (∀ its, ∀ y ∈ binds its, sc.names.lookup y.1 = some .local) ∧
  ∀ (q : Str) (b : Expr) (cl : List (Str × Addr)) (doc pm cdv ct : Value), (d = false → bindArgs (kdv_fn "<lambda>" q ps (.expr b) sc cl .none doc pm cdv ct) ⟨[], []⟩ = pure (binds [])) ∧
   (d = true → ∀ T : Addr, ∃ k, bindArgs (kdv_fn "<lambda>" q ps (.expr b) sc cl (.ref T) doc pm cdv ct) ⟨[], []⟩ = seqItems? (.ref T) >>= k ∧ ∀ u, k (some #[u]) = pure (binds [u]))
end
end
/-! ### a kept lambda is called -/
section
open PySem.W LamX PySem.Calls
section
variable {X : Cx} {σ : L2.St} {HZ : Hp} {s : Shared}
theorem lq_items {its : List Value} {T : Addr} {k : Option (Array Value) → Sem (List (Str × Value))} {r : List (Str × Value)} {A : Around} {Q : List (Str × Value) → Shared → Prop} {E : Value → Shared → Prop} {P : Program} {w : World} {ob : Obj} {n : Nat}
    (ho : s.heap.get? T = some ob) (hd : ob.data = .seq its.toArray n) (e : k (some its.toArray) = pure r) (q : Q r s) : wpAny (model P w) A (seqItems? (.ref T) >>= k) Q E s := by
  refine wpAny_bind (wpAny_seqItems ho hd ?_)
  rw [e]
  exact wpAny_pure q
/-- from any place: the lambda at f is called -/
theorem lq_call {k : Nat} {A : Around} {outer : List Env} {d : Bool} {ps : Arguments} {body : Expr} {scope : Scope} {t : XK → TE} {f : Addr} {Q : VK} {E : XK} (ok : X.Ok) (len : σ.length = X.N.length) (L : LamQ X.N X.env.scope scope) (B : LqBind ps scope d)
    (hbody : ∀ (A : Around) (outer : List Env) (s : Shared) (H : Hp) (E : XK) (f c' : Addr), Room k (A.deeper (lamEnv X scope s.heap.objs.size f c')) → PE (lamCx X A outer s H E scope f c') body (t E))
    (hr : Room (k + 1) A) (e0 : Env0 X.prog X.w X.K X.mg X.base A outer s HZ) (C : CellsAt X σ HZ) (hf : LqAt X HZ d ps body scope f)
    (h : t (fun cls d H' => (∀ c, isC X c → H' c = none) → E cls d (putC X HZ H')) σ (minC X HZ) (fun v H' => (∀ c, isC X c → H' c = none) → Q v (putC X HZ H'))) :
    codeAny (model X.prog X.w) A (.call (.ref f) ⟨[], []⟩) (CR (L2.CX X.prog X.w) outer X.prog X.w HZ s Q E) s := by
  obtain ⟨dV, doc, pm, ct, c', h1, h2, h3⟩ := hf
  have ho := exv_at e0.hok h1
  obtain ⟨⟨oc, vs, tq, hoc, hdc, hvc⟩, _, _⟩ := e0.hok c' _ h2
  have cell : ∀ c o, HZ c = some (.frz o (.own 0)) → isC X c → s.heap.get? c = some o ∧ c ∉ frs outer := fun c o e hc => by
    refine ⟨(show s.heap.get? c = some o ∧ _ from e0.hok c _ e).1, fun z => ?_⟩
    rw [e0.frf c z] at e
    cases e
  refine PySem.W.kla_callFunE hr.depth ho rfl L.co L.gen rfl ⟨c', oc, vs, tq, rfl, hoc, hdc, hvc⟩ ?_
  obtain ⟨binds, b1, bB⟩ := B
  obtain ⟨b2, b3⟩ := bB (X.env.qual ++ "<lambda>") body (cloFrom X.env.cells scope.names []) doc pm (.ref c') ct
  have lim : s.heap.NoLimit := e0.mod.nolimit.keeps fun b o e => (e0.bs b o e).1
  have go : ∀ its : List Value, wpAny (model X.prog X.w) A.in1 (newFunctionEnv scope mainGlobals (cloFrom X.env.cells scope.names []) (binds its) ((X.env.qual ++ "<lambda>") ++ ".<locals>.") (some f) (.ref c') none builtinsNs)
      (fun env s₂ => s₂.heap.NoLimit ∧ codeAny (model X.prog X.w) A (.expr body env) (CR (L2.CX X.prog X.w) outer X.prog X.w HZ s Q E) s₂) (fun e s' => CR (L2.CX X.prog X.w) outer X.prog X.w HZ s Q E (.error e) s') s := by
    intro its
    refine wpAny_newFunctionEnv (fun y hy => (L.own y hy).1) (b1 its) (fun h₁ hns hsb => ⟨lim.fresh _ hsb, ?_⟩) L.kind
    show codeAny _ _ (.expr body (lamEnv X scope s.heap.objs.size f c')) _ _
    have kp : ∀ b o, s.heap.get? b = some o → h₁.get? b = some o := fun b o e => hsb.extBut b o (Nat.ne_of_lt (Heap.lt_size e)) (Heap.get?_push_of_some _ e)
    have J := lq_start (E := fun cls d H' => (∀ c, isC X c → H' c = none) → E cls d (putC X HZ H')) (f := f) (c' := c') (tk := s.toks + (binds its).length) ok len L e0 hr.hd C hns kp
    refine PySem.W.kla_codeExpr (wpAny_mono ((hbody A outer s (minC X HZ) _ f c' (hr.deeper _)).run [] _ _ _ _ J h) (fun v s' hq => ?_) fun e s' hq => ?_)
    · obtain ⟨w', H', J', rv, q⟩ := hq
      obtain ⟨nn, un⟩ := putC_un C e0 J'.base
      refine ⟨w', putC X HZ H', J'.os, J'.bare, un, putC_hok C nn (fun c o e hc => ?_) J'.hok, rv, q nn⟩
      obtain ⟨g1, g2⟩ := cell c o e hc
      exact J'.base.keep c o g1 (minC_c hc) g2 (fun z => absurd (show c ∈ ([] : List Addr) from z) (by simp))
    · refine wpAny_mono hq (fun _ s2 z => ?_) fun e2 s2 z => ?_
      all_goals
        obtain ⟨a, B0, H', cls, d, rfl, fl, hok, ub, na, os, ag, hE⟩ := z
        have nn : ∀ c, isC X c → H' c = none := fun c hc => by
          obtain ⟨o, w, e, _⟩ := C.all c hc
          exact ub.free c o (cell c o e hc).1 (minC_c hc)
        have B1 : ∀ c o, HZ c = some (.frz o (.own 0)) → isC X c → B0.get? c = some o := fun c o e hc => ub.keep c o (cell c o e hc).1 (minC_c hc) (cell c o e hc).2
        refine ⟨a, B0, putC X HZ H', cls, d, rfl, fl, putC_hok C nn B1 hok, ⟨fun b o q n => ub.keep b o q (minC_none n), ub.slot, fun b o q n => ?_, ub.there, fun b xs q => ?_, fun b o u q => ?_, fun b ps q => ?_⟩, ?_, os, ag, hE nn⟩
        · rw [putC_n (C.not_none n)]
          exact ub.free b o q (minC_none n)
        · have nb := C.not_tup q
          rw [putC_n nb]
          exact ub.tups b xs ((minC_n nb).trans q)
        · by_cases y : isC X b
          · rw [putC_c y]
            exact q
          · rw [putC_n y]
            exact ub.frzs b o u ((minC_n y).trans q)
        · have nb := C.not_tbl q
          obtain ⟨more, e⟩ := ub.tbls b ps ((minC_n nb).trans q)
          exact ⟨more, (putC_n nb).trans e⟩
        · by_cases y : isC X a
          · obtain ⟨o, w, e, _⟩ := C.all a y
            have g := B1 a o e y
            rw [fl.2.1] at g
            cases g
          · rw [putC_n y]
            exact na
  cases d with
  | false =>
    obtain rfl : dV = .none := h3
    rw [show bindArgs _ _ = _ from b2 rfl]
    exact wpAny_pure (go _)
  | true =>
    obtain ⟨T, e, hT⟩ := h3
    subst e
    obtain ⟨k', e1, e2⟩ := b3 rfl T
    rw [show bindArgs _ _ = _ from e1]
    obtain ⟨_, its, rv, ob, g1, g2, n, g3⟩ := (show ObjOk X.prog X.w HZ s.heap T (.tup [V.int 0]) from e0.hok T _ hT)
    cases rv with
    | cons r1 r2 =>
      cases r2
      exact lq_items (its := [_]) g1 g3 (e2 _) (go _)
end
/-! ### the lambda as a value -/
/-- at f: a lambda without arguments that is read as t tells -/
def LqT (X : Cx) (k : Nat) (t : XK → TE) (H : Hp) (f : Addr) : Prop := ∃ (d : Bool) (ps : Arguments) (body : Expr) (scope : Scope), LamQ X.N X.env.scope scope ∧ LqBind ps scope d ∧
  (∀ (A : Around) (outer : List Env) (s : Shared) (H : Hp) (E : XK) (f c' : Addr), Room k (A.deeper (lamEnv X scope s.heap.objs.size f c')) → PE (lamCx X A outer s H E scope f c') body (t E)) ∧ LqAt X H d ps body scope f
theorem LqT.keep {X : Cx} {k : Nat} {t : XK → TE} {H H' : Hp} {f : Addr} (h : LqT X k t H f) (s : Keep2 H H') : LqT X k t H' f := by
  obtain ⟨d, ps, body, scope, L, B, b, l⟩ := h
  exact ⟨d, ps, body, scope, L, B, b, l.keep s⟩
def tLq (X : Cx) (T : List (Addr × Str)) (k : Nat) (t : XK → TE) : TE := fun _ H Q => Tabs T H ∧ ∀ f H2, ExtN H H2 → Tabs T H2 → LqT X k t H2 f → Q (.ref f) H2
section
variable {X : Cx} {T : List (Addr × Str)} {c P : Addr} {k : Nat} {params : Arguments} {body : Expr} {scope : Scope} {pos : Pos} {t : XK → TE}
theorem pe_lq (TB : TabB X.base X.mg c P) (hcode : X.env.code = .ref c) (hm : (P, X.env.qual ++ "<lambda>") ∈ T) (hu : ∀ p ∈ T, p.1 = P → p.2 = X.env.qual ++ "<lambda>") (L : LamQ X.N X.env.scope scope) (B : LqBind params scope false)
    (hbody : ∀ (A : Around) (outer : List Env) (s : Shared) (H : Hp) (E : XK) (f c' : Addr), Room k (A.deeper (lamEnv X scope s.heap.objs.size f c')) → PE (lamCx X A outer s H E scope f c') body (t E))
    (hdef : defaultsOf params X.env = ([], []) := by rfl) : PE X (.Lambda params body scope pos) (tLq X T k t) := by
  refine ⟨fun pins s σ H Q I h => ?_⟩
  refine PySem.W.kla_eval hdef ?_
  rw [makeFunction_eq, List.zip_nil_right, List.filterMap_nil]
  simp only [List.isEmpty_nil, if_true, pure_bind]
  exact lq_make I TB hcode hm hu h.1 (fun y hy e => L.has I.ok hy e) (d := false) rfl fun f H2 s' I2 e1 t1 l => ⟨.ref f, H2, I2, rfl, h.2 f H2 e1 t1 ⟨false, params, body, scope, L, B, hbody, l⟩⟩
theorem pe_lqD {j : Nat} {cp : Pos} (TB : TabB X.base X.mg c P) (hcode : X.env.code = .ref c) (hm : (P, X.env.qual ++ "<lambda>") ∈ T) (hu : ∀ p ∈ T, p.1 = P → p.2 = X.env.qual ++ "<lambda>") (L : LamQ X.N X.env.scope scope) (B : LqBind params scope true)
    (hbody : ∀ (A : Around) (outer : List Env) (s : Shared) (H : Hp) (E : XK) (f c' : Addr), Room k (A.deeper (lamEnv X scope s.heap.objs.size f c')) → PE (lamCx X A outer s H E scope f c') body (t E))
    (hdef : defaultsOf params X.env = ([eval (.Constant (.int 0) j cp) X.env], []) := by rfl) : PE X (.Lambda params body scope pos) (tLq X T k t) := by
  refine ⟨fun pins s σ H Q I h => ?_⟩
  rw [arm_eval_Lambda, hdef]
  show wpAny _ _ (do let dv ← evalAll [eval (.Constant (.int 0) j cp) X.env]; let kdv ← holding dv (evalAllOpt []); makeFunction "<lambda>" (X.env.qual ++ "<lambda>") params (.expr body) scope X.env dv kdv [] pos pos.line) _ _ s
  refine wpAny_bind (wpAny_evalAll_cons (thn ((pe_int (X := X) (i := 0)).run pins s σ H (fun v H1 => v = .int 0 ∧ H1 = H) I ⟨rfl, rfl⟩) fun u s1 hq => ?_))
  obtain ⟨v, H1, I1, r1, rfl, rfl⟩ := hq
  refine wpAny_evalAll_nil (wpAny_bind (wpAny_holding (wpAny_pure ?_)))
  rw [makeFunction_eq, List.zip_nil_right, List.filterMap_nil]
  simp only [List.isEmpty_nil, if_true, pure_bind]
  rw [if_neg (show ¬ (([u] : List Value).isEmpty = true) from Bool.false_ne_true)]
  refine wpAny_bind (wpAny_newTextTuple ?_)
  have I2 : Inv X pins σ (upd H1 s1.heap.objs.size (.tup [V.int 0])) { s1 with heap := s1.heap.push { cls := .type "tuple", data := .seq [u].toArray }, toks := s1.toks } :=
    I1.laid (fun b w e => Heap.get?_push_of_some _ e) (Nat.le_refl _) ⟨Nat.le_trans (by decide : 1 ≤ 1000) (Nat.le_of_lt (small1000 (Nat.le_refl _))), [u], .cons r1 .nil, _, Heap.get?_push_size _ rfl, rfl, _, rfl⟩
  have nn : H1 s1.heap.objs.size = none := I1.hok.fresh (Nat.le_refl _)
  have sm := lq_sup (o := .tup [V.int 0]) nn
  exact lq_make I2 TB hcode hm hu (h.1.ext sm) (fun y hy e => L.has I.ok hy e) (d := true) ⟨_, rfl, upd_same⟩ fun f H2 s' I3 e1 t1 l => ⟨.ref f, H2, I3, rfl, h.2 f H2 ((ExtN.of sm).trans e1) t1 ⟨true, params, body, scope, L, B, hbody, l⟩⟩
end
end
/-! ### .. by a name of any def, and out of the maker -/
section
open PySem.W LamX PySem.Calls
/-- what the caller sees of a kept lambda's run -/
def tRun (X : Cx) (σ : List (Option V)) (t : XK → TE) (E : XK) (HZ : Hp) (Q : VK) : Prop := t (fun cls d H' => (∀ c, isC X c → H' c = none) → E cls d (putC X HZ H')) σ (minC X HZ) (fun v H' => (∀ c, isC X c → H' c = none) → Q v (putC X HZ H'))
section
variable {X : Cx} {σ : L2.St}
theorem pe_lqact {CXg : CXT} {Eg : XK} {Ng : List Str} {qg : Str} {sg : Scope} {g : Addr} {cdg : Value} {A0 : Around} {outer0 : List Env} {sE : Shared} {HE : Hp} {pn : List (Addr × Obj)} {xe : Value → Shared → Prop} {W : WX} {E : XK} {p1 p2 : Pos} {i k : Nat} {a : Str} {f : Addr} {t : XK → TE}
    (ok : X.Ok) (len : σ.length = X.N.length) (tk : Takes ((cxOf CXg X.prog X.w X.K X.mg X.base Ng qg sg g cdg A0 outer0 sE HE Eg).tr pn xe) W) (hW : ∀ cls d σ' H', E cls d H' → W cls d σ' H') (hr : Room (k + 1) (A0.deeper (envOfC qg sg sE.heap.objs.size g cdg)))
    (hN : Ng[i]? = some a) (hv : Vis sg a) (hd : (a == ("__debug__" : Str)) = false := by decide) (hcd : (a == ("__classdict__" : Str)) = false := by decide) :
    PE ((cxOf CXg X.prog X.w X.K X.mg X.base Ng qg sg g cdg A0 outer0 sE HE Eg).tr pn xe) (.Call (.Name a p1) [] [] p2)
      (fun σZ HZ Q => σZ[i]? = some (some (.ref f)) ∧ LqT X k t HZ f ∧ CellsAt X σ HZ ∧ tRun X σ t E HZ Q) := by
  refine ⟨fun pinsZ sZ σZ HZ Q IZ h => ?_⟩
  obtain ⟨hs, ⟨d, ps, body, scope, L, B, hbody, hl⟩, C, ht⟩ := h
  refine wpAny_Call_Name_kw (thn ((pe_var (pos := p1) (i := i) hN hv hd hcd).run pinsZ sZ σZ HZ (fun v H1 => v = .ref f ∧ H1 = HZ) IZ ⟨.ref f, hs, rfl, rfl⟩) fun u s1 hq => ?_)
  obtain ⟨v, H1, I1, r1, rfl, rfl⟩ := hq
  cases (show u = Value.ref f from r1)
  obtain ⟨dV, doc, pm, ct, c', h1, _⟩ := id hl
  refine PySem.W.callWith_F0 ⟨_, _, _, _, exv_at I1.hok h1⟩ ?_
  refine wpAny_call (codeAny_mono (lq_call (X := X) (E := E) (Q := Q) ok len L B hbody hr I1.env0 C hl ht) fun r s' hq => ?_)
  have hx : Passes (L2.CX X.prog X.w) ((cxOf CXg X.prog X.w X.K X.mg X.base Ng qg sg g cdg A0 outer0 sE HE Eg).tr pn xe) E := passes_call tk hW
  cases r with
  | error e => exact hx pinsZ σZ H1 s1 e s' I1 hq
  | ok fl =>
    cases fl with
    | ret u => exact I1.after hq
    | next => exact False.elim hq
    | brk => exact False.elim hq
    | cont => exact False.elim hq
end
/-! ### the maker calls a def with its cells told -/
open Classical in
/-- with the maker's cells as they stand in h -/
noncomputable def hpC (X : Cx) (h : Heap) (H : Hp) : Hp := fun b => if isC X b then (match h.get? b with | some o => some (.frz o (.own 0)) | none => none) else H b
theorem hpC_n {X : Cx} {h : Heap} {H : Hp} {b : Addr} (z : ¬ isC X b) : hpC X h H b = H b := if_neg z
theorem hpC_c {X : Cx} {h : Heap} {H : Hp} {b : Addr} {o : Obj} (z : isC X b) (e : h.get? b = some o) : hpC X h H b = some (.frz o (.own 0)) := by
  unfold hpC
  rw [if_pos z, e]
section
variable {X : Cx} {pins : List (Addr × Obj)} {σ : L2.St} {H : Hp} {s : Shared}
theorem hpC_cells (I : Inv X pins σ H s) : CellsAt X σ (hpC X s.heap H) := by
  refine ⟨fun c hc => ?_, fun i x v e1 e2 e3 => ?_⟩
  · obtain ⟨x, e⟩ := id hc
    obtain ⟨w, o, ho, hd⟩ := I.cell x c e
    exact ⟨o, w, hpC_c hc ho, hd⟩
  · obtain ⟨m, hn, hl⟩ := I.loc
    obtain ⟨u, r, q⟩ := hl i x v e1 e2 (e3.elim (fun z => .inr (.inl z)) fun z => .inr (.inr z))
    rcases q with ⟨k', _⟩ | ⟨_, c, e', o, ho, hd⟩
    · have k' : X.env.scope.names.lookup x = some .local := k'
      rcases e3 with k2 | k2 <;> rw [k2] at k' <;> cases k'
    · exact ⟨c, o, u, e', hpC_c ⟨x, e'⟩ ho, hd, r⟩
theorem hpC_keep (I : Inv X pins σ H s) : ∀ b o, H b = some o → hpC X s.heap H b = some o := fun b o e => by
  have nb : ¬ isC X b := fun ⟨x, z⟩ => by
    rw [I.freeC x b z] at e
    cases e
  rw [hpC_n nb]
  exact e
theorem hpC_hok (I : Inv X pins σ H s) : HOk X.prog X.w (hpC X s.heap H) s.heap := by
  intro a o e
  by_cases z : isC X a
  · obtain ⟨x, ex⟩ := id z
    obtain ⟨w, ob, ho, hd⟩ := I.cell x a ex
    rw [hpC_c z ho] at e
    cases e
    exact ⟨ho, ob, ho⟩
  · rw [hpC_n z] at e
    exact (I.hok a o e).stay (fun b u _ q => q) (fun b q => hpC_keep I _ _ q) fun b xs q => hpC_keep I _ _ q
theorem cell_out (hfn : ∀ x, X.fn x = true) (I : Inv X pins σ H s) {b : Addr} (z : isC X b) : X.base.get? b = none ∧ b ∉ frs X.stack := by
  obtain ⟨x, e⟩ := z
  have ge : X.s_0.heap.objs.size ≤ b := I.ok.cab x b (hfn x) e
  have out : b ∉ frs X.outer := fun hb => by
    obtain ⟨_, o, ho, _⟩ := I.ok.funs.mem hb
    exact Nat.lt_irrefl _ (Nat.lt_of_lt_of_le (Heap.lt_size ho) ge)
  refine ⟨Heap.get?_none_of_le (Nat.le_trans I.ok.bsz ge), ?_⟩
  rcases I.ok.stk with h | ⟨h, hf⟩
  · rw [h]
    exact out
  · rw [h]
    intro hb
    have hb' : b ∈ (X.env :: X.outer).filterMap (·.frame) := hb
    rw [List.filterMap_cons, hf] at hb'
    rcases List.mem_cons.mp hb' with e2 | e2
    · obtain ⟨v, o, ho, hd⟩ := I.cell x b e
      obtain ⟨m, ⟨o2, es, ep, ho2, hd2, _⟩, _⟩ := I.loc
      rw [e2, ho2] at ho
      cases ho
      rw [hd2] at hd
      cases hd
    · exact out e2
theorem hpC_env (hfn : ∀ x, X.fn x = true) (I : Inv X pins σ H s) : Env0 X.prog X.w X.K X.mg X.base X.A X.stack s (hpC X s.heap H) := by
  have e0 := I.env0
  refine ⟨e0.frames, e0.mod, fun b o e => ⟨(e0.bs b o e).1, ?_⟩, e0.bsz, e0.funs, fun b hb => ?_, hpC_hok I, e0.bare⟩
  · have nb : ¬ isC X b := fun z => by
      have q := (cell_out hfn I z).1
      rw [e] at q
      cases q
    rw [hpC_n nb]
    exact (e0.bs b o e).2
  · have nb : ¬ isC X b := fun z => (cell_out hfn I z).2 hb
    rw [hpC_n nb]
    exact e0.frf b hb
theorem hpC_after {Q : VK} {u : Value} {s' : Shared} (I : Inv X pins σ H s) (h : CE X.stack X.prog X.w (hpC X s.heap H) s (fun v H' => Q v (minC X H')) u s') : EP X pins σ Q u s' := by
  obtain ⟨v, H', os, bare, un, hok, r, q⟩ := h
  have C := hpC_cells I
  have back : ∀ c, isC X c → ∃ o, H' c = some (.frz o (.own 0)) ∧ hpC X s.heap H c = some (.frz o (.own 0)) := fun c hc => by
    obtain ⟨o, w, e, _⟩ := C.all c hc
    exact ⟨o, un.frzs c o _ e, e⟩
  have nn : ∀ {b : Addr} {o : HO}, H b = some o → ¬ isC X b := fun {b o} e ⟨x, z⟩ => by
    rw [I.freeC x b z] at e
    cases e
  refine I.after ⟨v, minC X H', os, bare, ⟨fun b o g n hf hx => ?_, fun b o g n hf hx => ?_, fun b o g n hx => ?_, un.there, fun b xs e => ?_, fun b o u e => ?_, fun b ps e => ?_⟩, ?_, r, q⟩
  · by_cases z : isC X b
    · obtain ⟨o1, e1, e2⟩ := back b z
      have g1 : s.heap.get? b = some o1 ∧ _ := hpC_hok I b _ e2
      have g2 : s'.heap.get? b = some o1 ∧ _ := hok b _ e1
      rw [g1.1] at g
      cases g
      exact g2.1
    · exact un.keep b o g ((hpC_n z).trans n) hf hx
  · by_cases z : isC X b
    · obtain ⟨o1, e1, e2⟩ := back b z
      have g1 : s.heap.get? b = some o1 ∧ _ := hpC_hok I b _ e2
      have g2 : s'.heap.get? b = some o1 ∧ _ := hok b _ e1
      rw [g1.1] at g
      cases g
      exact ⟨o.slots, g2.1⟩
    · exact un.slot b o g ((hpC_n z).trans n) hf hx
  · by_cases z : isC X b
    · exact minC_c z
    · rw [minC_n z]
      exact un.free b o g ((hpC_n z).trans n) hx
  · rw [minC_n (nn e)]
    exact un.tups b xs ((hpC_n (nn e)).trans e)
  · rw [minC_n (nn e)]
    exact un.frzs b o u ((hpC_n (nn e)).trans e)
  · rw [minC_n (nn e)]
    exact un.tbls b ps ((hpC_n (nn e)).trans e)
  · intro a o e
    have na : ¬ isC X a := fun z => by
      rw [minC_c z] at e
      cases e
    rw [minC_n na] at e
    have nc : ∀ {b : Addr} {u : HO}, H' b = some u → (∀ o v, u ≠ .frz o v) → minC X H' b = some u := fun {b u} e2 n2 => by
      have nb : ¬ isC X b := fun z => by
        obtain ⟨o1, e1, _⟩ := back b z
        rw [e1] at e2
        exact n2 _ _ (Option.some.inj e2).symm
      rw [minC_n nb]
      exact e2
    exact (hok a o e).stay (fun b u _ q => q) (fun b q => nc q fun _ _ z => by cases z) fun b xs q => nc q fun _ _ z => by cases z
theorem minC_hpC (I : Inv X pins σ H s) : minC X (hpC X s.heap H) = H := by
  funext b
  by_cases z : isC X b
  · rw [minC_c z]
    obtain ⟨x, e⟩ := z
    exact (I.freeC x b e).symm
  · rw [minC_n z, hpC_n z]
end
end
/-! ### a static method, called of its class -/
structure SMet (K : PySem.W.Frag) (C : Addr) (mc : Value) (m : Str) (p g : Addr) : Prop where
  rd : PySem.W.readsIn K C mc = true
  ga : PySem.W.specialIn K (.ref C) "__getattribute__" = some (some (.builtin "type.__getattribute__"))
  at_ : PySem.W.findCls K (.ref C) mc m = some (.get (.builtin "staticmethod.__get__") (.ref p) .none (.ref C))
  rc : ∃ rest, PySem.W.recIn K p "staticmethod" = some (.ref g :: rest)
  kp : PySem.W.keepIn K (.ref g) = true
def tSMeth (C : Addr) (sp : Sp) (dvs : List V) (E : XK) (ta : TE) (t : TA) : TE := fun σ H Q => ta σ H fun x H1 => x = .ref C ∧ t σ H1 fun vs H2 => sp (vs ++ dvs) H2 Q E
theorem pe_smeth {X : Cx} {CX : CXT} {k : Nat} {C p g : Addr} {mc : Value} {fd : FuncData} {ps : List Str} {ds : List Value} {dvs : List V} {sp : Sp} {E : XK} {o e : Expr} {es : List Expr} {m : Str} {pos apos : Pos} {ta : TE} {t : TA} {pl : Sem Bool} (he : PE X o ta) (c : SMet X.K C mc m p g)
    (F : FnOk X.prog X.w X.K X.mg X.base CX k g fd ps sp) (hr : Room k X.A) (hb : Binds X.K fd ps ds) (hd : Vals dvs ds) (hx : Passes CX X E) (ha : PA X (e :: es) t)
    (hst : starEach (e :: es) X.env = (false, eval e X.env) :: starEach es X.env := by rfl) (hpl : (backTo pos (starEach es X.env)).any (·.1) = false := by rfl)
    (ht : eval (.Call (.Attribute o m apos) (e :: es) [] pos) X.env = (do
      let ov ← eval o X.env
      standAt apos.atName
      let (f, first) ← holding [ov] (getMethod ov m pl)
      callWith pos f first (backTo pos (starEach (e :: es) X.env)) (backToKw pos (keywordEach [] X.env))) := by rfl) :
    PE X (.Call (.Attribute o m apos) (e :: es) [] pos) (tSMeth C sp dvs E ta t) := by
  refine ⟨fun pins s σ H Q I h => ?_⟩
  refine PySem.W.methodCall_KW (pl := pl) (thn (he.run pins s σ H _ I h) fun u s1 ⟨x, H1, I1, rx, ex, q⟩ => ?_) ht
  subst ex
  cases (show u = Value.ref C from rx)
  obtain ⟨rest, hp⟩ := c.rc
  refine PySem.W.method_cls I1.kIn c.ga (PySem.W.cls_bind I1.kIn c.rd c.at_ (wpAny_call (PySem.W.sm_get (s := { s1 with toks := s1.toks + 1 }) I1.kIn hp (PySem.W.handed_on rfl ?_))))
  have I2 : Inv X pins σ H1 { s1 with toks := s1.toks + 1 } := I1.tok _
  refine PySem.W.callWith_K (h₀ := X.base) I2.ok.mod.kin c.kp (thn (ha.run pos pins _ σ H1 _ I2 q) fun us s3 ⟨vs, H2, I3, rv, q2⟩ => ⟨I3.kIn, ?_⟩) hst hpl
  exact run_fn F hr hb hd hx I3 rv q2
/-! ### a number kept in a class -/
structure ClsI (K : PySem.W.Frag) (C : Addr) (mc : Value) (m : Str) (i : Int) (t : Tok) : Prop where
  rd : PySem.W.readsIn K C mc = true
  at_ : PySem.W.findCls K (.ref C) mc m = some (.val (.int i t))
theorem pe_clsI {X : Cx} {C : Addr} {mc : Value} {o : Expr} {m : Str} {i : Int} {t : Tok} {pos : Pos} {ta : TE} (c : ClsI X.K C mc m i t) (he : PE X o ta) (hb : attributeBase o m X.env (eval o X.env) = eval o X.env := by rfl) :
    PE X (.Attribute o m pos) (fun σ H Q => ta σ H fun x H1 => x = .ref C ∧ Q (.int i) H1) := by
  refine ⟨fun pins s σ H Q I h => ?_⟩
  refine attr_of hb (thn (he.run pins s σ H _ I h) fun u s1 ⟨x, H1, I1, rx, ex, q⟩ => ?_)
  subst ex
  cases (show u = Value.ref C from rx)
  exact PySem.W.cls_value I1.kIn c.rd c.at_ rfl ⟨.int i, H1, I1.tok _, ⟨_, rfl⟩, q⟩
/-! ### list(text); text * number -/
theorem call_list_text {X : Cx} (hc : X.calm = true) : CallR X (.type "list") (fun xs H Q => ∃ z : Str, xs = [.str z] ∧ z.length ≤ sizeLine ∧ ∀ p, H p = none → Q (.ref p) (upd H p (.lst (z.cps.toList.map fun c => V.str ⟨#[c]⟩)))) := by
  intro pn s σ H xs us Q I r h
  obtain ⟨z, e, hz, q⟩ := h
  subst e
  obtain ⟨u, eu, rx⟩ := vals1 r
  subst eu
  obtain ⟨t, rfl⟩ := rx
  refine call_list_str (I.ok.hd hc) z t (fun h' tk acc' c' hkeep hS hacc => ?_) hz
  refine ⟨.ref s.heap.objs.size, upd H s.heap.objs.size (.lst (z.cps.toList.map fun c => V.str ⟨#[c]⟩)), I.laid hkeep (Nat.le_refl _) (show ObjOk X.prog X.w _ _ _ (.lst (z.cps.toList.map fun c => V.str ⟨#[c]⟩)) from ⟨?_, acc'.toList, c', ?_, ?_⟩), rfl, q _ (I.hok.fresh (Nat.le_refl _))⟩
  · rw [List.length_map]
    exact hz
  · refine vals_of_idx _ _ (by rw [List.length_map, Array.length_toList, Array.length_toList, hacc.1]) fun j v hj => ?_
    obtain ⟨c, u, hc2, rfl⟩ := hacc.2 j v (by rw [← Array.getElem?_toList]; exact hj)
    refine ⟨.str ⟨#[c]⟩, ?_, ⟨_, rfl⟩⟩
    rw [List.getElem?_map, Array.getElem?_toList, hc2]
    rfl
  · exact hS
theorem op_mul_str {X : Cx} : OpR X (binaryOp .Mult) (fun x y H Q => ∃ (z : Str) (n : Int), x = .str z ∧ y = .int n ∧ MulOk z n ∧ Q (.str (Txt.mul z n)) H) := by
  intro pn s σ H x y v u Q I rx ry h
  obtain ⟨z, n, rfl, rfl, hz, q⟩ := h
  obtain ⟨t, rfl⟩ := rx
  obtain ⟨t', rfl⟩ := ry
  exact PySem.SB.mul hz fun t' tk => ⟨.str (Txt.mul z n), H, I.tok _, ⟨_, rfl⟩, q⟩
/-! ### sets of texts: what an add keeps -/
open PySem.Froz
structure TxW (P : Program) (w : World) (D : SD) (l : List Str) : Prop where
  ok : TxOk P w D l
  ris : Ris D.2.2.place.toList
  led : w.params.followText "set-order" = true ∨ D.2.2.led = true
theorem tail_keeps {ep : Nat} {es : Array (Int × Value)} {t : SetTable} {b : Bool} (r : Ris t.place.toList) : Ris (tailTx ep es t b).2.2.place.toList ∧ (tailTx ep es t b).2.2.led = t.led := by
  unfold tailTx
  split
  · exact ⟨relayAll_ris t es _, relayAll_led t es _⟩
  · exact ⟨r, rfl⟩
theorem add_keeps {D : SD} {h : Int} {v : Value} (r : Ris D.2.2.place.toList) : Ris (addTx h v D).2.2.place.toList ∧ (addTx h v D).2.2.led = D.2.2.led := by
  have r1 := layNew_ris D.2.2 D.1 h v r
  have l1 := layNew_led D.2.2 D.1 h v
  have key : ∀ t : SetTable, Ris t.place.toList → t.led = D.2.2.led → Ris (if t.plain = true then { t with plain := false } else t).place.toList ∧ (if t.plain = true then { t with plain := false } else t).led = D.2.2.led := fun t a b => by
    split <;> exact ⟨a, b⟩
  obtain ⟨k1, k2⟩ := key _ r1 l1
  obtain ⟨t1, t2⟩ := tail_keeps (ep := D.2.1) (es := (layNew D.2.2 D.1 h v).1) (b := (layNew D.2.2 D.1 h v).2.2.1) k1
  exact ⟨t1, t2.trans k2⟩
theorem TxW.add {P : Program} {w : World} {D : SD} {l : List Str} {k : Str} (u : Tok) (F : TxW P w D l) : TxW P w (addTx (hashStr w k) (.str k u) D) (k :: l) := by
  obtain ⟨a, b⟩ := add_keeps (D := D) (h := hashStr w k) (v := .str k u) F.ris
  exact ⟨add_ok u F.ok, a, F.led.imp id fun z => b.trans z⟩
section
variable {A : Around} {s : Shared} {P : Program} {w : World} {E : Value → Shared → Prop}
/-- a text that is there already -/
theorem add_there {a : Addr} {T : String} {D : SD} {l : List Str} {k : Str} {u : Tok} {Q : Bool → Shared → Prop} (ho : s.heap.get? a = some (sObj T D)) (F : TxOk P w D l) (hk : k ∈ l) (hb : l.length < scanBound)
    (h : Q false s) : wpAny (model P w) A (setAddHashed a (.str k u) (hashStr w k)) Q E s := by
  obtain ⟨es, ep, t⟩ := D
  obtain ⟨el, mem, sz, fit⟩ := F
  obtain ⟨e, he, hp⟩ := (mem k).mp hk
  have small : es.size < scanBound := Nat.lt_of_le_of_lt (Nat.le_of_eq sz) hb
  obtain ⟨j, hj⟩ : ∃ j, List.findIdx? (fun e => (strKind P w).is k e.2) es.toList = some j := by
    cases q : List.findIdx? (fun e => (strKind P w).is k e.2) es.toList with
    | some j => exact ⟨j, rfl⟩
    | none =>
      have c := List.findIdx?_eq_none_iff.mp q e he
      rw [hp] at c
      cases c
  unfold setAddHashed; unfold setAddHashedIn
  refine wpAny_holding (wpAny_bind (wpAny_setState_of ho (ep := ep) (es := es) (t := t) rfl fit ?_))
  dsimp only
  rw [byScan_of rfl small el, if_pos rfl]
  unfold setAddByScan
  refine wpAny_bind (wpAny_bind (wpAny_rule (wpAny_bind (wpAny_setScan_of (knd := strKind P w) (k := k) (is_str k u) ho rfl fit el ?_))))
  rw [hj]
  exact wpAny_pure <| wpAny_pure h
/-- either way -/
def ins (k : Str) (l : List Str) : List Str := if k ∈ l then l else k :: l
theorem add_any {a : Addr} {T : String} {D : SD} {l : List Str} {k : Str} {u : Tok} {Q : Bool → Shared → Prop} (ho : s.heap.get? a = some (sObj T D)) (F : TxW P w D l) (hb : l.length + 1 < scanBound)
    (h : ∀ b h' D', TxW P w D' (ins k l) → h'.get? a = some (sObj T D') → (∀ c o, c ≠ a → s.heap.get? c = some o → h'.get? c = some o) → h'.objs.size = s.heap.objs.size → Q b { s with heap := h' }) : wpAny (model P w) A (setAddHashed a (.str k u) (hashStr w k)) Q E s := by
  by_cases hk : k ∈ l
  · refine add_there ho F.ok hk (by omega) (h false s.heap D ?_ ho (fun _ _ _ e => e) rfl)
    unfold ins
    rw [if_pos hk]
    exact F
  · refine add_x ho F.ok hk hb (h true _ _ ?_ (get_upd _ ho rfl) (fun c o hc e => ?_) ?_)
    · unfold ins
      rw [if_neg hk]
      exact F.add u
    · exact (Heap.get?_update_other _ _ (Ne.symm hc)).trans e
    · exact Heap.size_update _ _ _
end
def insAll : List Str → List Str → List Str
  | [], l => l
  | x :: xs, l => insAll xs (ins x l)
theorem ins_len (x : Str) (l : List Str) : (ins x l).length ≤ l.length + 1 := by
  unfold ins
  split
  · omega
  · exact Nat.le_refl _
theorem ins_mem (x y : Str) (l : List Str) : y ∈ ins x l ↔ y = x ∨ y ∈ l := by
  unfold ins
  split
  · rename_i h
    exact ⟨.inr, fun z => z.elim (fun e => e ▸ h) id⟩
  · exact List.mem_cons
theorem ins_nodup {x : Str} {l : List Str} (h : l.Nodup) : (ins x l).Nodup := by
  unfold ins
  split
  · exact h
  · rename_i n
    exact List.nodup_cons.mpr ⟨n, h⟩
theorem insAll_mem (y : Str) : ∀ xs l : List Str, y ∈ insAll xs l ↔ y ∈ xs ∨ y ∈ l
  | [], l => by simp [insAll]
  | x :: xs, l => by
    show y ∈ insAll xs (ins x l) ↔ _
    rw [insAll_mem y xs, ins_mem, List.mem_cons]
    constructor
    · rintro (h | h | h)
      · exact .inl (.inr h)
      · exact .inl (.inl h)
      · exact .inr h
    · rintro ((h | h) | h)
      · exact .inr (.inl h)
      · exact .inl h
      · exact .inr (.inr h)
theorem insAll_nodup : ∀ (xs : List Str) {l : List Str}, l.Nodup → (insAll xs l).Nodup
  | [], _, h => h
  | _ :: xs, _, h => insAll_nodup xs (ins_nodup h)
theorem insAll_len : ∀ (xs l : List Str), (insAll xs l).length ≤ xs.length + l.length
  | [], l => by simp [insAll]
  | x :: xs, l => by
    have h1 := insAll_len xs (ins x l)
    have h2 := ins_len x l
    show (insAll xs (ins x l)).length ≤ xs.length + 1 + l.length
    omega
section
variable {prog : Program} {w : World} {A : Around} {R : Result → Shared → Prop} {I : Addr} {fp wr : List Addr} {G : Array GenState → Array GenState → Prop} {n : Nat} {Pv : Nat → Value → Prop} {St : Nat → Shared → Prop}
theorem upd_loop (W : WalksS prog w A.in1 I fp wr G n Pv St) (a : Addr) (hf : a ∉ fp) (xs : List Str) (hl : xs.length = n) (hv : ∀ i v, Pv i v → ∃ t, v = .str (xs.getD i Str.empty) t) (hb : n + 1 < scanBound) :
    ∀ (k i : Nat) (s : Shared) (D : SD) (l : List Str), n - i = k → i ≤ n → l.length ≤ i → St i s → s.heap.get? a = some (sObj "set" D) → TxW prog w D l →
      (∀ s' D', Moved (a :: wr) G s s' → s'.heap.get? a = some (sObj "set" D') → TxW prog w D' (insAll (xs.drop i) l) → R (.ok (.ret .none)) s') →
      codeAny (model prog w) A (.builtin "set.update.loop" ⟨[.ref a, .ref I], []⟩) R s := by
  have haw : a ∉ wr := fun h => hf (W.sub _ h)
  have more : ∀ b ∈ wr, b ∈ a :: wr := fun b h => List.mem_cons_of_mem _ h
  intro k
  induction k with
  | zero =>
    intro i s D l hk hi _ hst ho F hR
    have e : i = n := by omega
    refine codeAny_builtin PyProof.Rows.F.entry_set_update_loop (by
      rw [(Around.under_plainId PyProof.Rows.F.plain_set_update_loop _)]
      refine wpAny_bind (W.done s _ _ (e ▸ hst) fun s' hm => wpAny_pure (hR s' D (hm.mono more) (hm.heap a _ haw ho) ?_))
      rw [e, ← hl, List.drop_length]
      exact F)
  | succ k ih =>
    intro i s D l hk hi hll hst ho F hR
    have lt : i < n := by omega
    refine codeAny_builtin PyProof.Rows.F.entry_set_update_loop (by
      rw [(Around.under_plainId PyProof.Rows.F.plain_set_update_loop _)]
      refine wpAny_bind (W.item i s _ _ lt hst fun v s1 hp hst1 hm => ?_)
      obtain ⟨t, rfl⟩ := hv i v hp
      have ho1 := hm.heap a _ haw ho
      show wpAny _ A.in1 (holding [Value.str (xs.getD i Str.empty) t] (setAdd a (.str (xs.getD i Str.empty) t)) >>= _) _ _ s1
      refine wpAny_bind (wpAny_holding (by
        unfold setAdd
        refine wpAny_holding (wpAny_bind ((strKind prog w).pyHash (k := xs.getD i Str.empty) (is_str _ _) ?_))
        refine add_any (s := { s1 with toks := s1.toks + 1 }) ho1 F (by omega) fun b h2 D2 F2 ho2 oth sz => ?_
        have hd : xs.drop i = xs.getD i Str.empty :: xs.drop (i + 1) := by
          have : i < xs.length := by omega
          rw [List.drop_eq_getElem_cons this]
          congr 1
          rw [List.getD_eq_getElem?_getD, List.getElem?_eq_getElem this]
          rfl
        have il := ins_len (xs.getD i Str.empty) l
        refine wpAny_pure ⟨plainId_quiet PyProof.Rows.F.plain_set_update_loop _, ih (i + 1) _ D2 _ (by omega) lt (by omega) (W.frame _ s1 _ _ hst1 (Nat.le_succ _) fun b hb o e => oth b o (fun z => hf (z ▸ hb)) e) ho2 F2 fun s3 D3 hm3 ho3 F3 => ?_⟩
        refine hR s3 D3 (Moved.trans W.gtrans ((hm.mono more).then_heap (Nat.le_succ _) fun b o hb e => oth b o (fun z => hb (by rw [z]; exact List.mem_cons_self)) e) hm3) ho3 ?_
        rw [hd]
        exact F3)))
end
section
variable {A : Around} {s : Shared} {prog : Program} {w : World} {E : Value → Shared → Prop}
/-- a new set's table -/
abbrev tb0 (w : World) : SetTable := .fresh 0 0 (!w.params.followText "set-order")
theorem new_keeps (P : Program) (w : World) : TxW P w (#[], 0, tb0 w) [] := by
  refine ⟨TxOk.nil (by rfl), List.Pairwise.nil, ?_⟩
  show (_ ∨ (!w.params.followText "set-order") = true)
  cases w.params.followText "set-order" <;> simp
theorem code_new1 (x : Value) {Q₁ : Value → Shared → Prop} (h : Q₁ (.ref s.heap.objs.size) { s with heap := s.heap.push (sObj "set" (#[], 0, tb0 w)) }) :
    codeAny (model prog w) A (.call (.builtin "set.__new__") ⟨[.type "set", x], []⟩) (wants Q₁ E) s := by
  refine codeAny_of_tree (wpAny_bind (wpAny_of_eq (PySem.F.newCall_set_1 x) (wpAny_pure ⟨plainId_quiet PySem.F.plain_set_new _, codeAny_builtin PySem.F.entry_set_new (by
    rw [Around.under_plainId PySem.F.plain_set_new _]
    unfold Builtin.«set.__new__»; unfold Builtin.Frozenset.newClass
    have self := PySem.sub_set_self
    obtain ⟨hp0, g0, d0, tk0, os0⟩ := s
    dsimp only
    wp_walk
    refine wpAny_askSetting (wpAny_pure (by
      dsimp only
      simp only [newObj]
      exact wpAny_bind (wpAny_alloc (wpAny_pure (wpAny_pure h))))))⟩)))
theorem str_at : ∀ {us : List Value} {ys : List Str}, StrsAre us ys → ∀ (i : Nat) (v : Value), us[i]? = some v → ∃ t, v = .str (ys.getD i Str.empty) t
  | _, _, .cons y t _, 0, v, e => ⟨t, (Option.some.inj e).symm⟩
  | _, _, .cons _ _ r, i + 1, v, e => str_at r i v e
theorem call_set_texts {l : Addr} {items : Array Value} {xs : List Str} {Q : Value → Shared → Prop} (hh : A.handled = none) (hl : s.heap.IsList l items) (hi : StrsAre items.toList xs) (hb : xs.length + 1 < scanBound)
    (h : ∀ (h' : Heap) (tk : Nat) (D : SD), TxW prog w D (insAll xs []) → h'.get? s.heap.objs.size = some (sObj "set" D) → (∀ b o, b < s.heap.objs.size → s.heap.get? b = some o → h'.get? b = some o) → Q (.ref s.heap.objs.size) { s with heap := h', toks := tk }) :
    (wpAny (model prog w) A (call (.type "set") [.ref l]) Q E s) := by
  obtain ⟨c, tl, mro⟩ := PySem.F.called_set.mro
  have made := PySem.F.called_set.made; have subs := PySem.F.called_set.sub
  refine wpAny_call (codeAny_of_tree (wpAny_pure ⟨Code.quiet_builtin _ (by decide +kernel), codeAny_builtin PySem.F.entry_type_call (by
    rw [(Around.under_plain (weight_type_call_type "set" [.ref l] []) rfl)]
    have n1 := PySem.F.called_set.notType; have n2 := PySem.F.called_set.canCreate; have n3 := PySem.F.typeCall_set_1 (.ref l)
    repeat (any_goals first | assumption | wp_step)
    refine codeAny_mono (code_new1 (.ref l) (E := E) (Q₁ := fun obj s1 => obj = .ref s.heap.objs.size ∧ s1 = { s with heap := s.heap.push (sObj "set" (#[], 0, tb0 w)) }) ⟨rfl, rfl⟩) fun r s1 hr => ?_
    match r, hr with
    | .error e, hr => exact hr
    | .ok (.ret obj), hr =>
      obtain ⟨rfl, rfl⟩ := hr
      have hN : (s.heap.push (sObj "set" (#[], 0, tb0 w))).get? s.heap.objs.size = some (sObj "set" (#[], 0, tb0 w)) := Heap.get?_push_size _ rfl
      have hT : Shared.TypeIs { s with heap := s.heap.push (sObj "set" (#[], 0, tb0 w)) } (.ref s.heap.objs.size) "set" := ⟨_, hN, rfl⟩
      have i1 := PySem.F.called_set.init.lookup; have i2 := PySem.F.called_set.init.bind (.ref s.heap.objs.size)
      repeat (any_goals first | assumption | wp_step)
      refine codeAny_mono (codeAny_call_builtin (R := wants (fun r s2 => r = .none ∧ ∃ h' tk D, s2 = { s with heap := h', toks := tk } ∧ TxW prog w D (insAll xs []) ∧ h'.get? s.heap.objs.size = some (sObj "set" D) ∧
          (∀ b o, b < s.heap.objs.size → s.heap.get? b = some o → h'.get? b = some o)) E) PySem.F.called_set.init.plain PySem.F.entry_set_init (check_set_init_1 hT ?_)) fun r2 s2 hr2 => ?_
      · obtain ⟨⟨oc, od, da, os⟩, ho, hc, nl, hd⟩ := hl
        simp only at hc hd
        subst hc hd
        have ho2 : (s.heap.push (sObj "set" (#[], 0, tb0 w))).get? l = some { cls := .type "list", dict := od, data := .seq items nl, slots := os } := Heap.get?_push_of_some _ ho
        have q1 := PySem.F.sub_list_set; have q2 := PySem.F.sub_list_frozenset; have q3 : (Value.type "list" == Value.type "dict") = false := by decide
        have hl1 : (s.heap.push (sObj "set" (#[], 0, tb0 w))).IsList l items := ⟨_, ho2, rfl, nl, rfl⟩
        unfold Builtin.«set.__init__»; unfold noKeywords; unfold Builtin.Frozenset.updateFrom
        generalize hPI : pyIter = PI
        wp_walk
        subst hPI
        refine wpAny_pyIter_list hl1 (wpAny_bind (wpAny_runValue ?_))
        have lS : l < s.heap.objs.size := Heap.lt_size ho
        have h3 : A.in1.in1.in1.handled = none := by simp [hh]
        have neI : l ≠ (s.heap.push (sObj "set" (#[], 0, tb0 w))).objs.size := by
          rw [Heap.size_push]
          exact Nat.ne_of_lt (Nat.lt_succ_of_lt lS)
        have nfp : s.heap.objs.size ∉ [(s.heap.push (sObj "set" (#[], 0, tb0 w))).objs.size, l] := by
          rw [Heap.size_push]
          intro z
          rcases (List.mem_cons.mp z) with z | z
          · omega
          · rw [List.mem_singleton] at z
            exact absurd z (Nat.ne_of_gt lS)
        have len : xs.length = items.size := by rw [← StrsAre.len_eq hi, Array.length_toList]
        refine upd_loop ((Walks.list h3 _ l neI items).toS) s.heap.objs.size nfp xs len (fun i v hv => str_at hi i v (by rw [Array.getElem?_toList]; exact hv)) (by omega) (items.size - 0) 0 _ (#[], 0, tb0 w) [] (by omega) (Nat.zero_le _) (Nat.le_refl _)
          ⟨⟨_, Heap.get?_push_size _ rfl, rfl, rfl⟩, hl1.push _⟩ (Heap.get?_push_of_some _ hN) (new_keeps _ _) fun s3 D3 hm ho3 F3 => ?_
        obtain ⟨h', g', d', tk', os'⟩ := s3
        obtain rfl : g' = s.gens := hm.gens
        obtain rfl : d' = s.drawn := hm.drawn
        obtain rfl : os' = s.os := hm.os
        refine wpAny_pure (wpAny_pure ⟨rfl, h', tk', D3, rfl, F3, ho3, fun b o hb e => hm.heap b o (fun z => ?_) (Heap.get?_push_of_some _ (Heap.get?_push_of_some _ e))⟩)
        rcases (List.mem_cons.mp z) with z | z
        · exact absurd z (Nat.ne_of_lt hb)
        · rw [List.mem_singleton, Heap.size_push] at z
          exact absurd z (Nat.ne_of_lt (Nat.lt_succ_of_lt hb))
      · match r2, hr2 with
        | .error e, hr2 => exact hr2
        | .ok (.ret v), hr2 =>
          obtain ⟨rfl, h', tk, D, rfl, F, ho3, hold⟩ := hr2
          repeat (any_goals first | assumption | wp_step)
          exact h _ _ _ F ho3 hold
        | .ok .next, hr2 => exact hr2.elim
        | .ok .brk, hr2 => exact hr2.elim
        | .ok .cont, hr2 => exact hr2.elim
    | .ok .next, hr => exact hr.elim
    | .ok .brk, hr => exact hr.elim
    | .ok .cont, hr => exact hr.elim)⟩))
end
/-- the set at a holds the texts l -/
def SetW (P : Program) (w : World) (a : Addr) (l : List Str) : HO := .ext fun h => ∃ D, h.get? a = some (sObj "set" D) ∧ TxW P w D l
theorem setW_ok {P : Program} {w : World} {H : Hp} {h : Heap} {a : Addr} {D : SD} {l : List Str} (ho : h.get? a = some (sObj "set" D)) (F : TxW P w D l) : ObjOk P w H h a (SetW P w a l) :=
  ⟨⟨D, ho, F⟩, ⟨_, ho⟩, fun h1 h2 z k => by
    obtain ⟨D', e, F'⟩ := z
    exact ⟨D', k _ e, F'⟩⟩
theorem perm_of : ∀ (l ys : List Str), l.Nodup → (∀ y ∈ l, y ∈ ys) → ys.length = l.length → ys.Perm l
  | [], ys, _, _, e => by
    rw [List.length_eq_zero_iff.mp e]
  | y :: l, ys, n, h, e => by
    obtain ⟨n1, n2⟩ := List.nodup_cons.mp n
    obtain ⟨p, q, rfl⟩ := List.append_of_mem (h y List.mem_cons_self)
    have pm : (p ++ y :: q).Perm (y :: (p ++ q)) := List.perm_middle
    refine pm.trans (List.Perm.cons y (perm_of l (p ++ q) n2 (fun z hz => ?_) ?_))
    · have zy : z ≠ y := fun c => n1 (c ▸ hz)
      rcases List.mem_append.mp (h z (List.mem_cons_of_mem _ hz)) with c | c
      · exact List.mem_append_left _ c
      · rcases List.mem_cons.mp c with c | c
        · exact absurd c zy
        · exact List.mem_append_right _ c
    · simp only [List.length_append, List.length_cons] at e ⊢
      omega
theorem strs_are : ∀ (vs : List Value), (∀ v ∈ vs, ∃ y t, v = Value.str y t) → ∃ ys, StrsAre vs ys
  | [], _ => ⟨[], .nil⟩
  | v :: vs, h => by
    obtain ⟨y, t, rfl⟩ := h _ List.mem_cons_self
    obtain ⟨ys, r⟩ := strs_are vs fun u hu => h u (List.mem_cons_of_mem _ hu)
    exact ⟨y :: ys, .cons y t r⟩
theorem strs_mem : ∀ {vs : List Value} {ys : List Str}, StrsAre vs ys → ∀ y t, Value.str y t ∈ vs → y ∈ ys
  | _, _, .cons z u r, y, t, h => by
    rcases (List.mem_cons.mp h) with e | e
    · injection e with e1 e2
      rw [e1]
      exact List.mem_cons_self
    · exact List.mem_cons_of_mem _ (strs_mem r y t e)
section
variable {X : Cx}
/-- set(xs), xs a list of texts -/
theorem cr_setS (hc : X.calm = true) : CallR X (.type "set") (fun vs H Q => ∃ (p : Addr) (ys : List Str), vs = [.ref p] ∧ SqL X.K H p (ys.map V.str) ∧ ys.length ≤ 1000 ∧ ∀ q, H q = none → Q (.ref q) (upd H q (SetW X.prog X.w q (insAll ys [])))) := by
  intro pn s σ H vs us Q I r h
  obtain ⟨p, ys, rfl, hq, hz, q⟩ := h
  rw [Vals.ref1 r]
  obtain ⟨its, rv, pl, _⟩ := I.list hq
  refine call_set_texts (I.ok.hd hc) pl.isList (by simpa using L2.strsAre_of rv) (by unfold scanBound; omega) fun h' tk D F ho keep => ?_
  exact ⟨.ref _, _, I.laid (t' := tk) (fun b o e => keep b o (Heap.lt_size e) e) (Nat.le_refl _) (setW_ok ho F), rfl, q _ (I.hok.fresh (Nat.le_refl _))⟩
/-- sorted(S), S a set of texts -/
theorem cr_sortedW (hc : X.calm = true) : CallR X (.builtin "sorted") (fun vs H Q => ∃ (a : Addr) (l : List Str), vs = [.ref a] ∧ H a = some (SetW X.prog X.w a l) ∧ l.Nodup ∧ l.length < 64 ∧
    ∀ (ys : List Str) (p : Addr), ys.Perm l → sortedS ys = true → H p = none → Q (.ref p) (upd H p (.lst (ys.map V.str)))) := by
  intro pn s σ H vs us Q I r h
  obtain ⟨a, l, rfl, ha, nd, l64, q⟩ := h
  rw [Vals.ref1 r]
  obtain ⟨⟨es, ep, t⟩, ho, F⟩ := (I.hok a _ ha).1
  have sz : es.size = l.length := F.ok.sz
  have small : es.size < scanBound := by unfold scanBound; omega
  refine Calls.call_function_entry PyProof.Rows.kind_sorted PyProof.Rows.plain_sorted PyProof.Rows.entry_sorted (PyProof.Rows.args_sorted1 _) (by
    unfold Builtin.«sorted»
    refine wpAny_bind (m := checkCount "sorted" 1 1 _) (wpAny_pure (wpAny_bind (collect_set (A := X.A.in1) (I.ok.hd hc) ⟨_, ho, rfl, rfl⟩ F.ok.fit small F.ris F.led fun s1 out k1 hz g1 o1 pm => ?_)))
    have all : ∀ v ∈ out, ∃ y u, v = Value.str y u := fun v hv => by
      obtain ⟨e, he, rfl⟩ := List.mem_map.mp (pm.mem_iff.mp hv)
      obtain ⟨⟨k, hk, _⟩, _⟩ := F.ok.el e he
      obtain ⟨u, ev⟩ := Value.isStrOf_shape (x := k) (v := e.2) hk
      exact ⟨k, u, ev⟩
    obtain ⟨zs, hS⟩ := strs_are out all
    have len : out.length = es.size := by rw [pm.length_eq, List.length_map, Array.length_toList]
    have zl : zs.length = l.length := by rw [← hS.len_eq, len, sz]
    have zp : zs.Perm l := perm_of l zs nd (fun y hy => by
      obtain ⟨e, he, z⟩ := (F.ok.mem y).mp hy
      obtain ⟨u, ev⟩ := Value.isStrOf_shape (x := y) (v := e.2) z
      refine strs_mem hS y u (pm.mem_iff.mpr ?_)
      rw [← ev]
      exact List.mem_map.mpr ⟨e, he, rfl⟩) zl
    have o64 : out.length < 64 := by rw [len, sz]; exact l64
    have hoL : (s1.heap.push (seqObj "list" out.toArray 0)).get? s1.heap.objs.size = some (seqObj "list" out.toArray 0) := Heap.get?_push_size _ rfl
    refine wpAny_bind (wpAny_newList (wpAny_bind (wpAny_holding (wpAny_call_entry PyProof.Rows.slot_list_sort ⟨_, hoL, rfl⟩ PyProof.Rows.entry_list_sort
      (list_sort_treeK strKind_oneLt (s := { s1 with heap := s1.heap.push (seqObj "list" out.toArray 0) }) hoL hS.keysOf (fun v₁ v₂ rest e => keyKind_strs (by rw [← e]; exact hS)) o64 fun st' hp hs => ⟨_, rfl, by
        obtain ⟨ys, r1, r2, r3⟩ := sorted_out_str hS hp hs
        obtain ⟨c, hc2⟩ := PyProof.Rows.sortedHeap_at (vs := out) (out := (arrOf st').map (·.2)) hoL
        have hn : H s1.heap.objs.size = none := I.hok.fresh hz
        have ylen : (ys.map V.str).length ≤ sizeLine := by
          rw [List.length_map, r2.length_eq, zl]
          exact Nat.le_trans (Nat.le_of_lt l64) (by decide)
        have k2 : ∀ b u, s.heap.get? b = some u → (PyProof.Rows.sortedHeap (s1.heap.push (seqObj "list" out.toArray 0)) s1.heap.objs.size out ((arrOf st').map (·.2))).get? b = some u := fun b u e => by
          have lt := Heap.lt_size (k1 b u e)
          rw [PyProof.Rows.sortedHeap_old (Nat.ne_of_lt lt) (by rw [size_push']; exact Nat.lt_succ_of_lt lt)]
          exact Heap.get?_push_of_some _ (k1 b u e)
        obtain ⟨hp1, gn1, dr1, tk1, os1⟩ := s1
        dsimp only at g1 o1 hn k2 hc2 ⊢
        subst g1 o1
        refine wpAny_pure ⟨_, rfl, .ref hp1.objs.size, upd H hp1.objs.size (.lst (ys.map V.str)), ?_, rfl, q ys _ (r2.trans zp) r3 hn⟩
        exact I.call (ch := []) (Un.laid k2 hz hn) (I.hok.laid k2 hz ⟨ylen, ((arrOf st').map (·.2)).toList, c, vals_of_strs r1, by rw [Array.toArray_toList]; exact hc2⟩) I.bare (fun _ z => nomatch z)⟩) (PyProof.Rows.args_list_sort _)))) (by rw [sizeLine_eq]; omega)))
end
/-! ### names: the plain mathematics -/
def lowc (c : Nat) : Bool := decide (97 ≤ c) && decide (c ≤ 122)
def upc (c : Nat) : Bool := decide (65 ≤ c) && decide (c ≤ 90)
theorem uni_alpha : ∀ c : Nat, c < 128 → Unicode.isAlpha c = (lowc c || upc c) := by decide +kernel
theorem uni_lower : ∀ c : Nat, c < 128 → Unicode.isLower c = lowc c := by decide +kernel
theorem uni_upper : ∀ c : Nat, c < 128 → (Unicode.isUpper c || Unicode.isTitle c) = upc c := by decide +kernel
/-- the letters of a name -/
def letB (a : List Nat) : Bool := !a.isEmpty && a.all lowc
theorem lower_letters (a : List Nat) : (Txt.isascii (SX.S a) && (Txt.isalpha (SX.S a) && Txt.islower (SX.S a))) = letB a := by
  have e1 : Txt.isascii (SX.S a) = a.all (fun c => decide (c < 128)) := by
    unfold Txt.isascii
    rw [← Array.all_toList]
  have e2 : Txt.isalpha (SX.S a) = (!a.isEmpty && a.all Unicode.isAlpha) := by
    unfold Txt.isalpha
    rw [← Array.all_toList, SX.S_len]
    cases a <;> rfl
  have e3 : Txt.islower (SX.S a) = (a.any Unicode.isLower && !a.any fun c => Unicode.isUpper c || Unicode.isTitle c) := by
    unfold Txt.islower
    rw [← Array.any_toList, ← Array.any_toList]
  rw [e1, e2, e3]
  unfold letB
  cases h : a.all (fun c => decide (c < 128))
  · rw [Bool.false_and]
    symm
    rw [Bool.and_eq_false_iff]
    refine .inr (Bool.eq_false_iff.mpr fun z => ?_)
    have z2 := List.all_eq_true.mp z
    have : a.all (fun c => decide (c < 128)) = true := List.all_eq_true.mpr fun c hc => decide_eq_true (by
      have q := z2 c hc
      unfold lowc at q
      rw [Bool.and_eq_true, decide_eq_true_eq, decide_eq_true_eq] at q
      omega)
    rw [h] at this
    cases this
  · rw [Bool.true_and]
    have h3 : ∀ c ∈ a, c < 128 := fun c hc => of_decide_eq_true (List.all_eq_true.mp h c hc)
    have a1 : a.all Unicode.isAlpha = a.all (fun c => lowc c || upc c) := by
      rw [Bool.eq_iff_iff, List.all_eq_true, List.all_eq_true]
      exact ⟨fun q c hc => by rw [← uni_alpha c (h3 c hc)]; exact q c hc, fun q c hc => by rw [uni_alpha c (h3 c hc)]; exact q c hc⟩
    have a2 : a.any Unicode.isLower = a.any lowc := by
      rw [Bool.eq_iff_iff, List.any_eq_true, List.any_eq_true]
      exact ⟨fun ⟨c, hc, q⟩ => ⟨c, hc, by rw [← uni_lower c (h3 c hc)]; exact q⟩, fun ⟨c, hc, q⟩ => ⟨c, hc, by rw [uni_lower c (h3 c hc)]; exact q⟩⟩
    have a3 : (a.any fun c => Unicode.isUpper c || Unicode.isTitle c) = a.any upc := by
      rw [Bool.eq_iff_iff, List.any_eq_true, List.any_eq_true]
      exact ⟨fun ⟨c, hc, q⟩ => ⟨c, hc, by rw [← uni_upper c (h3 c hc)]; exact q⟩, fun ⟨c, hc, q⟩ => ⟨c, hc, by rw [uni_upper c (h3 c hc)]; exact q⟩⟩
    rw [a1, a2, a3]
    have dis : ∀ c : Nat, lowc c = true → upc c = false := fun c q => by
      unfold lowc at q
      unfold upc
      rw [Bool.and_eq_true, decide_eq_true_eq, decide_eq_true_eq] at q
      rw [Bool.and_eq_false_iff, decide_eq_false_iff_not, decide_eq_false_iff_not]
      omega
    rw [Bool.eq_iff_iff]
    simp only [Bool.and_eq_true, Bool.not_eq_true', List.any_eq_true, List.all_eq_true, Bool.or_eq_true]
    constructor
    · rintro ⟨⟨n, al⟩, _, nu⟩
      refine ⟨n, fun c hc => ?_⟩
      rcases al c hc with q | q
      · exact q
      · exfalso
        have : a.any upc = true := List.any_eq_true.mpr ⟨c, hc, q⟩
        rw [nu] at this
        cases this
    · rintro ⟨n, al⟩
      refine ⟨⟨n, fun c hc => .inl (al c hc)⟩, ?_, ?_⟩
      · cases a with
        | nil => cases n
        | cons c r => exact ⟨c, List.mem_cons_self, al c List.mem_cons_self⟩
      · refine Bool.eq_false_iff.mpr fun q => ?_
        obtain ⟨c, hc, q⟩ := List.any_eq_true.mp q
        rw [dis c (al c hc)] at q
        cases q
/-- without one apostrophe at the end -/
def cutQ (a : List Nat) : List Nat := if a.getLast? = some 39 then a.dropLast else a
def nameB (a : List Nat) : Bool := decide ((cutQ a).length ≤ 6) && letB (cutQ a)
theorem last_at (b : List Nat) (c : Nat) : PySem.Builtin.Str.subAt (SX.S (b ++ [c])) (SX.S [39]) ((SX.S (b ++ [c])).length - (SX.S [39]).length) = decide (c = 39) := by
  have e : (SX.S (b ++ [c])).cps.extract ((SX.S (b ++ [c])).length - (SX.S [39]).length) ((SX.S (b ++ [c])).length - (SX.S [39]).length + (SX.S [39]).length) = [c].toArray := by
    rw [SX.S_len, SX.S_len, List.length_append]
    simp [List.extract]
  show ((SX.S (b ++ [c])).cps.extract ((SX.S (b ++ [c])).length - (SX.S [39]).length) ((SX.S (b ++ [c])).length - (SX.S [39]).length + (SX.S [39]).length) == (SX.S [39]).cps) = _
  rw [e]
  by_cases h : c = 39
  · subst h
    rfl
  · rw [decide_eq_false h, beq_eq_false_iff_ne]
    intro z
    exact h (List.cons.inj (congrArg Array.toList z)).1
theorem rem_quote (a : List Nat) : Txt.removesuffix (SX.S a) (SX.S [39]) = SX.S (cutQ a) := by
  have e := eq_of_beq (PyProof.Rows.removesuffix_closes (SX.S a) (SX.S [39]))
  rw [e]
  rcases List.eq_nil_or_concat a with rfl | ⟨b, c, rfl⟩
  · rfl
  · rw [List.concat_eq_append, last_at]
    have e1 : decide (0 + (SX.S [39]).length ≤ (SX.S (b ++ [c])).length) = true := by
      rw [SX.S_len, SX.S_len, List.length_append]
      exact decide_eq_true (by show 0 + 1 ≤ b.length + 1; omega)
    rw [e1, Bool.true_and]
    unfold cutQ
    rw [List.getLast?_append, List.getLast?_singleton, Option.some_or, List.dropLast_concat]
    by_cases h : c = 39
    · subst h
      rw [decide_eq_true rfl, if_pos rfl, if_pos rfl]
      refine TL.ext_tl ?_
      show ((b ++ [39]).drop 0).take ((((SX.S (b ++ [39])).length : Nat) : Int) - (((SX.S [39]).length : Nat) : Int) - 0).toNat = b
      rw [SX.S_len, SX.S_len, List.length_append, List.drop_zero]
      have : ((((b.length + [39].length : Nat)) : Int) - (([39] : List Nat).length : Nat) - 0).toNat = b.length := by
        show (((b.length + 1 : Nat) : Int) - 1 - 0).toNat = b.length
        omega
      rw [this, List.take_left]
    · rw [decide_eq_false h, if_neg (by decide), if_neg (fun z => h (Option.some.inj z))]
/-! ### drawn words: the plain mathematics -/
abbrev ABC : Str := Str.ofString "abcdefghijklmnopqrstuvwxyz"
theorem abc_nat : ∀ n : Nat, n < 26 → L2.atI ABC.cps.toList (n : Int) = some (97 + n) := by decide +kernel
theorem abc_at {r : Int} (h0 : 0 ≤ r) (h1 : r < 26) : L2.atI ABC.cps.toList r = some (97 + r.toNat) := by
  obtain ⟨n, rfl⟩ := Int.eq_ofNat_of_zero_le h0
  rw [Int.toNat_natCast]
  exact abc_nat n (by omega)
theorem low_abc {n : Nat} (h : n < 26) : lowc (97 + n) = true := by
  unfold lowc
  rw [decide_eq_true (by omega), decide_eq_true (by omega)]
  rfl
theorem mul_one1 {x : Str} (hx : x.length = 1) {n : Int} (h1 : n ≤ 8) (h0 : -8 ≤ n) : MulOk x n := by
  unfold MulOk
  rw [hx]
  obtain ⟨k, rfl⟩ : ∃ k : Nat, n = (k : Int) - 8 := ⟨(n + 8).toNat, by omega⟩
  have : ∀ k : Nat, k < 17 → (decide (((k : Int) - 8) < -(2 ^ 63 : Int)) || decide (((k : Int) - 8) ≥ 2 ^ 63)) = false ∧ (¬ ((k : Int) - 8) < 1 → (((k : Int) - 8) == 1 || (1 : Nat) == 0) = false → ¬ (((1 : Nat) : Int) > (2 ^ 63 - 1) / ((k : Int) - 8))) ∧
    (¬ ((k : Int) - 8) < 1 → (((k : Int) - 8) == 1 || (1 : Nat) == 0) = false → PySem.Builtin.Str.tooLong (1 * ((k : Int) - 8).toNat) = false) := by decide +kernel
  exact this k (by omega)
theorem fold_rep (c : Nat) : ∀ (k : Nat) (acc : Array Nat), (List.replicate k (#[c] : Array Nat)).foldl (· ++ ·) acc = acc ++ (List.replicate k c).toArray
  | 0, acc => by simp
  | k + 1, acc => by
    rw [List.replicate_succ, List.foldl_cons, fold_rep c k, List.replicate_succ]
    apply Array.toList_inj.mp
    simp
theorem mul_rep (c : Nat) (n : Int) : Txt.mul (SX.S [c]) n = SX.S (List.replicate n.toNat c) := by
  unfold Txt.mul
  by_cases h : n < 1
  · rw [if_pos h, show n.toNat = 0 by omega]
    rfl
  · rw [if_neg h]
    by_cases h1 : n = 1
    · subst h1
      rfl
    · have : (n == 1 || (SX.S [c]).length == 0) = false := by
        rw [beq_eq_false_iff_ne.mpr h1]
        rfl
      rw [this, if_neg (by decide)]
      unfold SX.S
      have e : (List.replicate n.toNat (⟨[c].toArray⟩ : Str).cps) = List.replicate n.toNat (#[c] : Array Nat) := rfl
      rw [e, fold_rep]
      simp
theorem cut_last (a : List Nat) {k : Nat} (h : a.length ≤ k) (hk : 0 < k) : L2.cutS (SX.S a) (some (-(k : Int))) none = SX.S a := by
  unfold L2.cutS
  have e : HT.sIx (SX.S a).length 0 (some (-(k : Int))) = 0 := by
    rw [SX.S_len]
    unfold HT.sIx
    simp
    omega
  rw [HT.sIx_none, e, SX.S_len]
  refine TL.ext_tl ?_
  show (a.drop 0).take (a.length - 0) = a
  rw [List.drop_zero, Nat.sub_zero, List.take_length]
theorem cut_to (a : List Nat) (k : Nat) : L2.cutS (SX.S a) none (some (k : Int)) = SX.S (a.take k) := by
  unfold L2.cutS
  rw [HT.sIx_none, HT.sIx_nat, SX.S_len, Nat.sub_zero]
  refine TL.ext_tl ?_
  show (a.drop 0).take (min k a.length) = a.take k
  rw [List.drop_zero]
  by_cases h : k ≤ a.length
  · rw [Nat.min_eq_left h]
  · rw [Nat.min_eq_right (by omega), List.take_of_length_le (Nat.le_refl _), List.take_of_length_le (by omega)]
theorem cut_from (a : List Nat) (k : Nat) : L2.cutS (SX.S a) (some (k : Int)) none = SX.S (a.drop k) := by
  unfold L2.cutS
  rw [HT.sIx_none, HT.sIx_nat, SX.S_len]
  refine TL.ext_tl ?_
  show (a.drop (min k a.length)).take (a.length - min k a.length) = a.drop k
  by_cases h : k ≤ a.length
  · rw [Nat.min_eq_left h, List.take_of_length_le (by rw [List.length_drop]; exact Nat.le_refl _)]
  · rw [Nat.min_eq_right (by omega), List.drop_of_length_le (Nat.le_refl _), List.drop_of_length_le (by omega), List.take_nil]
/-- a word of one to six letters -/
def LW (a : List Nat) : Prop := a ≠ [] ∧ a.length ≤ 6 ∧ a.all lowc = true
theorem LW.put {a : List Nat} {c : Nat} {k : Nat} (h : a.length ≤ 5) (ha : a.all lowc = true) (hc : lowc c = true) : LW (a.take k ++ [c] ++ a.drop k) := by
  refine ⟨by simp, ?_, ?_⟩
  · simp only [List.length_append, List.length_take, List.length_drop, List.length_singleton]
    omega
  · rw [List.all_append, List.all_append]
    have e := List.all_eq_true.mp ha
    rw [List.all_eq_true.mpr fun x hx => e x (List.mem_of_mem_take hx), List.all_eq_true.mpr fun x hx => e x (List.mem_of_mem_drop hx)]
    simp [hc]
theorem LW.rep {a : List Nat} {c n : Nat} (ha : a.all lowc = true) (hc : lowc c = true) (n1 : 1 ≤ n) (n4 : n ≤ 5) : LW (a.take 1 ++ List.replicate n c) := by
  refine ⟨?_, ?_, ?_⟩
  · intro z
    have := congrArg List.length z
    rw [List.length_append, List.length_replicate] at this
    simp at this
    omega
  · simp only [List.length_append, List.length_take, List.length_replicate]
    omega
  · rw [List.all_append]
    have e := List.all_eq_true.mp ha
    rw [List.all_eq_true.mpr fun x hx => e x (List.mem_of_mem_take hx), Bool.true_and]
    exact List.all_eq_true.mpr fun x hx => by
      rw [List.eq_of_mem_replicate hx]
      exact hc
theorem LW.one {c : Nat} (hc : lowc c = true) : LW [c] := ⟨by simp, by simp, by simp [hc]⟩
theorem S_inj {a b : List Nat} (h : SX.S a = SX.S b) : a = b := by
  have := congrArg (fun s : Str => s.cps.toList) h
  simpa [SX.S] using this
theorem ins_all_full : ∀ (xs l : List Str), (insAll xs l).length = xs.length + l.length → xs.Nodup ∧ ∀ x ∈ xs, x ∉ l
  | [], _, _ => ⟨List.nodup_nil, fun _ h => nomatch h⟩
  | x :: xs, l, h => by
    unfold insAll at h
    by_cases hx : x ∈ l
    · exfalso
      unfold ins at h
      rw [if_pos hx] at h
      have := insAll_len xs l
      rw [List.length_cons] at h
      omega
    · unfold ins at h
      rw [if_neg hx] at h
      obtain ⟨h1, h2⟩ := ins_all_full xs (x :: l) (by rw [h]; simp only [List.length_cons]; omega)
      refine ⟨List.nodup_cons.mpr ⟨fun z => h2 x z List.mem_cons_self, h1⟩, fun y hy => ?_⟩
      rcases List.mem_cons.mp hy with rfl | hy
      · exact hx
      · exact fun z => h2 y hy (List.mem_cons_of_mem _ z)
theorem nodup_S : ∀ {ws : List (List Nat)}, (ws.map SX.S).Nodup → ws.Nodup
  | [], _ => List.nodup_nil
  | w :: ws, h => by
    rw [List.map_cons, List.nodup_cons] at h
    exact List.nodup_cons.mpr ⟨fun z => h.1 (List.mem_map_of_mem z), nodup_S h.2⟩
/-- the kth letter from a first one, by fives -/
def five (f k : Nat) : Nat := 97 + (f + 5 * k) % 26
theorem five_inj {f i j : Nat} (hi : i < 20) (hj : j < 20) (h : five f i = five f j) : i = j := by
  unfold five at h
  omega
theorem nodup_range_map {α : Type} {f : Nat → α} {m : Nat} (h : ∀ i j, i < m → j < m → f i = f j → i = j) : ((List.range m).map f).Nodup := by
  rw [List.Nodup, List.pairwise_map]
  refine List.Pairwise.imp_of_mem ?_ List.nodup_range
  intro a b ha hb hne e
  exact hne (h a b (List.mem_range.mp ha) (List.mem_range.mp hb) e)
theorem put_inj {a : List Nat} {k c d : Nat} (h : a.take k ++ [c] ++ a.drop k = a.take k ++ [d] ++ a.drop k) : c = d := by
  have h1 := (List.append_cancel_right h)
  have h2 := (List.append_cancel_left h1)
  exact (List.cons.inj h2).1
theorem lc_str {x : Str} {g : TG} {tt : TT} {te : TE} {vs : List Nat} {σ : L2.St} {H1 : Hp} {D : Addr} {Qd : Hp → Prop} (Pv : Nat → Hp → Prop) (h0 : Pv 0 (upd H1 D (.lst [])))
    (hs : ∀ i c H, x.cps[i]? = some c → Pv i H → g (.str ⟨#[c]⟩) (wipe σ vs) H fun σ2 H2 => wipe σ2 vs = wipe σ vs ∧ tt σ2 H2 fun b H3 =>
      if b = true then te σ2 H3 fun y H4 => ∃ acc, H4 D = some (.lst acc) ∧ acc.length < sizeLine ∧ Pv (i + 1) (upd H4 D (.lst (acc ++ [y]))) else Pv (i + 1) H3) (hd : ∀ H, Pv x.cps.size H → Qd H) :
    ∃ W : Nat → Nat → Hp → Prop, (∃ m, W 0 m (upd H1 D (.lst []))) ∧ ∀ i m H, W i m H →
      ((Its x).stop i H ∧ Qd H) ∨ ((Its x).go i H ∧ ∃ Nx : Hp → Prop, (∀ H', Nx H' → ∃ m', m' < m ∧ W (i + 1) m' H') ∧ ∀ y H', (Its x).yld i H y H' → g y (wipe σ vs) H' fun σ2 H2 => wipe σ2 vs = wipe σ vs ∧ tt σ2 H2 fun b H3 =>
        if b = true then te σ2 H3 fun y H4 => ∃ acc, H4 D = some (.lst acc) ∧ acc.length < sizeLine ∧ Nx (upd H4 D (.lst (acc ++ [y]))) else Nx H3) := by
  refine ⟨fun i m H => m = x.cps.size - i ∧ i ≤ x.cps.size ∧ Pv i H, ⟨x.cps.size, by simp, Nat.zero_le _, h0⟩, ?_⟩
  rintro i m H ⟨rfl, hi, p⟩
  by_cases hlt : i < x.cps.size
  · refine .inr ⟨hlt, Pv (i + 1), fun H' p' => ⟨x.cps.size - (i + 1), by omega, rfl, hlt, p'⟩, fun y H' q => ?_⟩
    obtain ⟨e, c, hc, ev⟩ := q
    subst e ev
    exact hs i c _ hc p
  · have e : i = x.cps.size := by omega
    subst e
    exact .inl ⟨Nat.le_refl _, hd H p⟩
/-! ### names with an apostrophe; the law's own test of names -/
theorem last_low {x : List Nat} (h : x.all lowc = true) : x.getLast? ≠ some 39 := fun z => by
  have := List.all_eq_true.mp h 39 (List.mem_of_getLast? z)
  revert this
  decide
theorem cutQ_lw {x : List Nat} (h : LW x) {k : Nat} (hk : k ≤ 1) : cutQ (x ++ List.replicate k 39) = x := by
  unfold cutQ
  match k, hk with
  | 0, _ => rw [List.replicate_zero, List.append_nil, if_neg (last_low h.2.2)]
  | 1, _ => rw [show List.replicate 1 39 = [39] from rfl, List.getLast?_append, List.getLast?_singleton, Option.some_or, if_pos rfl, List.dropLast_concat]
theorem name_lw {x : List Nat} (h : LW x) {k : Nat} (hk : k ≤ 1) : nameB (x ++ List.replicate k 39) = true ∧ (x ++ List.replicate k 39).length ≤ 7 := by
  constructor
  · unfold nameB letB
    rw [cutQ_lw h hk, h.2.2, decide_eq_true h.2.1]
    cases x with
    | nil => exact absurd rfl h.1
    | cons _ _ => rfl
  · rw [List.length_append, List.length_replicate]
    have := h.2.1
    omega
theorem nodup_of_map {α β : Type} (f : α → β) : ∀ {l : List α}, (l.map f).Nodup → l.Nodup
  | [], _ => List.nodup_nil
  | w :: ws, h => by
    rw [List.map_cons, List.nodup_cons] at h
    exact List.nodup_cons.mpr ⟨fun z => h.1 (List.mem_map_of_mem z), nodup_of_map f h.2⟩
theorem sIx_neg1 (n : Nat) (d : Nat) : HT.sIx n d (some (-1)) = n - 1 := by
  unfold HT.sIx
  simp
  omega
theorem cut_but1 (t : List Nat) : L2.cutS (SX.S t) none (some (-1)) = SX.S t.dropLast := by
  unfold L2.cutS
  rw [HT.sIx_none, sIx_neg1, SX.S_len, Nat.sub_zero]
  refine TL.ext_tl ?_
  show (t.drop 0).take (t.length - 1) = t.dropLast
  rw [List.drop_zero, List.dropLast_eq_take]
theorem cut_end1 (t : List Nat) : L2.cutS (SX.S t) (some (-1)) none = SX.S (t.drop (t.length - 1)) := by
  unfold L2.cutS
  rw [HT.sIx_none, sIx_neg1, SX.S_len]
  refine TL.ext_tl ?_
  show (t.drop (t.length - 1)).take (t.length - (t.length - 1)) = t.drop (t.length - 1)
  rw [List.take_of_length_le]
  rw [List.length_drop]
  exact Nat.le_refl _
theorem drop_last (t : List Nat) : (t.drop (t.length - 1) = [39]) ↔ t.getLast? = some 39 := by
  rcases List.eq_nil_or_concat t with rfl | ⟨b, c, rfl⟩
  · simp
  · rw [List.concat_eq_append, List.getLast?_append, List.getLast?_singleton, Option.some_or]
    have e : (b ++ [c]).length - 1 = b.length := by simp
    rw [e, List.drop_left]
    simp
theorem abc_mem (c : Nat) : decide (c ∈ ABC.cps.toList) = lowc c := by
  rw [show ABC.cps.toList = (List.range 26).map (97 + ·) by decide +kernel]
  unfold lowc
  rw [Bool.eq_iff_iff, decide_eq_true_eq, Bool.and_eq_true, decide_eq_true_eq, decide_eq_true_eq, List.mem_map]
  constructor
  · rintro ⟨k, hk, rfl⟩
    have := List.mem_range.mp hk
    omega
  · rintro ⟨h1, h2⟩
    exact ⟨c - 97, List.mem_range.mpr (by omega), by omega⟩
/-! ### lists of texts as data -/
theorem shape_strs : ∀ l : List Str, l.length ≤ 2 → (∀ x ∈ l, PyData.strOk x = true) → SeqAt.shaped (.list (l.map PyData.str)) = true
  | [], _, _ => rfl
  | [x], _, h => by
    show ((PyData.strOk x && true) && true) = true
    rw [h x List.mem_cons_self]
    rfl
  | [x, y], _, h => by
    show ((PyData.strOk x && (PyData.strOk y && true)) && true) = true
    rw [h x List.mem_cons_self, h y (List.mem_cons_of_mem _ List.mem_cons_self)]
    rfl
  | _ :: _ :: _ :: _, h, _ => by simp at h
theorem eqvAll_strs : ∀ l : List Str, PyData.eqvAll (l.map PyData.str) (l.map PyData.str) = true
  | [] => rfl
  | x :: l => by
    show (PyData.eqv (.str x) (.str x) && PyData.eqvAll (l.map PyData.str) (l.map PyData.str)) = true
    rw [eqvAll_strs l, Bool.and_true]
    show (x == x) = true
    exact beq_self_eq_true x
theorem dp_strs {K : PySem.W.Frag} {H : Hp} : ∀ l : List Str, DpAll K H (l.map V.str) (l.map PyData.str)
  | [] => .nil
  | x :: l => .cons (.str x) (dp_strs l)
theorem strOk_name {x : List Nat} (h : nameB x = true) : PyData.strOk (SX.S x) = true := by
  unfold nameB letB at h
  rw [Bool.and_eq_true, Bool.and_eq_true] at h
  have hl := List.all_eq_true.mp h.2.2
  have key : ∀ c ∈ x, c < 0x110000 := fun c hc => by
    by_cases e : c ∈ cutQ x
    · have := hl c e
      unfold lowc at this
      rw [Bool.and_eq_true, decide_eq_true_eq, decide_eq_true_eq] at this
      omega
    · unfold cutQ at e
      split at e
      · rename_i z
        rcases List.eq_nil_or_concat x with rfl | ⟨b, d, rfl⟩
        · cases hc
        · rw [List.concat_eq_append] at *
          rw [List.getLast?_append, List.getLast?_singleton, Option.some_or] at z
          rw [List.dropLast_concat] at e
          rcases List.mem_append.mp hc with k | k
          · exact absurd k e
          · rw [List.mem_singleton.mp k, Option.some.inj z]
            decide
      · exact absurd hc e
  unfold PyData.strOk
  rw [← Array.all_toList, show (SX.S x).cps.toList = x by simp [SX.S]]
  exact List.all_eq_true.mpr fun c hc => decide_eq_true (key c hc)
/-! ### the head by a Hook: facts of the heap behind the top, each a Bool -/
/-- a def: where it stands in the heap behind the top, what it is -/
structure DefY where
  to : PySem.W.Frag → Addr
  nm : Str
  ql : Str
  ar : Arguments
  bd : List Stmt
  sc : Scope
  df : PySem.W.Frag → List V
abbrev DTab : Type := Option (Str × Str × Arguments × FuncBody × Scope × Addr × List (Str × Addr) × Addr)
def dtab : Option Obj → DTab
  | some ⟨_, _, .func g, _⟩ => some (g.name, g.qualname, g.params, g.body, g.scope, g.globals, g.closure, g.builtins)
  | _ => none
def dgood (K : PySem.W.Frag) (d : DefY) : Option Obj → Bool
  | some ⟨_, _, .func g, _⟩ => He.dflB K g.defaults (d.df K) && PySem.W.codeIn K g.code d.ql
  | _ => false
def DefY.want (d : DefY) : DTab := some (d.nm, d.ql, d.ar, .stmts d.bd, d.sc, mainGlobals, [], builtinsNs)
def DefY.good (K : PySem.W.Frag) (d : DefY) : Bool := dgood K d (K.lookup (d.to K)) && PySem.W.keepIn K (.ref (d.to K))
theorem DefY.is {K : PySem.W.Frag} {d : DefY} (e : dtab (K.lookup (d.to K)) = d.want) (c : d.good K = true) : ∃ fd, FunD K d.nm d.ql d.ar d.bd d.sc (d.df K) [] (d.to K) fd := by
  obtain ⟨c1, kp⟩ := He.ba c
  generalize ho : K.lookup (d.to K) = oo at e c1
  match oo, ho, e, c1 with
  | some ⟨oc, od, .func ⟨a1, a2, a3, a4, a5, a6, a7, a8, a9, b1, b2, b3, b4, b5, b6⟩, osl⟩, ho, e, c1 =>
    have e2 : (some (a1, a2, a3, a4, a5, a6, a7, b6) : DTab) = some (d.nm, d.ql, d.ar, .stmts d.bd, d.sc, mainGlobals, [], builtinsNs) := e
    obtain ⟨rfl, rfl, rfl, rfl, rfl, rfl, rfl, rfl⟩ : a1 = d.nm ∧ a2 = d.ql ∧ a3 = d.ar ∧ a4 = .stmts d.bd ∧ a5 = d.sc ∧ a6 = mainGlobals ∧ a7 = [] ∧ b6 = builtinsNs := by simpa using e2
    obtain ⟨g1, g2⟩ := He.ba c1
    exact ⟨_, ⟨oc, od, a8, a9, b1, b2, b3, b4, b5, osl, rfl, ho, g2, He.dflB_ok g1, .inl rfl⟩, kp⟩
/-! what the Hook looks at: the module's names, their codes, defaults, classes' names; the statics -/
def toV : Value → List Addr
  | .ref a => [a]
  | _ => []
def kidsY : Option Obj → List Addr
  | some ⟨c, _, .fields vs, _⟩ => (match c with
    | .type "staticmethod" => vs.toList.flatMap toV
    | _ => [])
  | some ⟨_, _, .func g, _⟩ => toV g.code ++ toV g.defaults
  | some ⟨_, _, .cls cd, _⟩ => [cd.ns]
  | some ⟨_, _, .dict es _, _⟩ => es.toList.flatMap fun e => toV e.val
  | some ⟨_, _, .seq its _, _⟩ => its.toList.flatMap toV
  | _ => []
def rowsY (g : Addr → Option Obj) : Nat → List Addr → List Addr
  | 0, _ => []
  | n + 1, as => as ++ rowsY g n (as.flatMap fun a => kidsY (g a))
def partY (n : Nat) (g : Addr → Option Obj) : PySem.W.Frag := He.frG g (cStatics :: rowsY g n [mainGlobals])
def lawD : He.Defn := ("law", none)
def tabB (K : PySem.W.Frag) (g : Addr → Option Obj) : Bool := PySem.W.codeHdIn K (He.cT K lawD).1 (He.cT K lawD).2 && ((K.lookup (He.cT K lawD).2).isNone && ((g (He.cT K lawD).2).any He.emptyTab))
abbrev AlY : Type := Bool × Bool × Bool × Bool × List DTab
def obsK (fa : List He.Fa) (fn : List DefY) (ex : List (PySem.W.Frag → Bool)) (g : Addr → Option Obj) (K : PySem.W.Frag) : AlY := (fa.all fun f => f.ok K, fn.all fun d => d.good K, ex.all fun b => b K, tabB K g, fn.map fun d => dtab (K.lookup (d.to K)))
def obsY (n : Nat) (fa : List He.Fa) (fn : List DefY) (ex : List (PySem.W.Frag → Bool)) (g : Addr → Option Obj) : AlY := obsK fa fn ex g (partY n g)
def wantY (fn : List DefY) : AlY := (true, true, true, true, fn.map DefY.want)
structure SaysY (fa : List He.Fa) (fn : List DefY) (ex : List (PySem.W.Frag → Bool)) (h : Heap) (K : PySem.W.Frag) : Prop where
  kin : K.In h
  fas : ∀ f ∈ fa, f.ok K = true
  exs : ∀ b ∈ ex, b K = true
  def_ : ∀ d ∈ fn, ∃ fd, FunD K d.nm d.ql d.ar d.bd d.sc (d.df K) [] (d.to K) fd
  hd : PySem.W.codeHdIn K (He.cT K lawD).1 (He.cT K lawD).2 = true
  out : K.lookup (He.cT K lawD).2 = none
  tab : h.get? (He.cT K lawD).2 = some { cls := .none, data := .fields #[] }
theorem saysY {n : Nat} {fa : List He.Fa} {fn : List DefY} {ex : List (PySem.W.Frag → Bool)} {h : Heap} (e : obsY n fa fn ex h.get? = wantY fn) : SaysY fa fn ex h (partY n h.get?) := by
  generalize hK : partY n h.get? = K
  have e' : obsK fa fn ex h.get? K = wantY fn := by rw [← hK]; exact e
  obtain ⟨e1, e2, e3, e4, e5⟩ : (fa.all fun f => f.ok K) = true ∧ (fn.all fun d => d.good K) = true ∧ (ex.all fun b => b K) = true ∧ tabB K h.get? = true ∧ (fn.map fun d => dtab (K.lookup (d.to K))) = fn.map DefY.want := by
    have q := e'
    unfold obsK wantY at q
    exact ⟨congrArg (fun z : AlY => z.1) q, congrArg (fun z : AlY => z.2.1) q, congrArg (fun z : AlY => z.2.2.1) q, congrArg (fun z : AlY => z.2.2.2.1) q, congrArg (fun z : AlY => z.2.2.2.2) q⟩
  obtain ⟨t1, t⟩ := He.ba e4
  obtain ⟨t2, t3⟩ := He.ba t
  refine ⟨by rw [← hK]; exact He.frG_in, List.all_eq_true.mp e1, List.all_eq_true.mp e3, fun d hd => DefY.is (List.map_inj_left.mp e5 d hd) (List.all_eq_true.mp e2 d hd), t1, by simpa using t2, ?_⟩
  cases q : h.get? (He.cT K lawD).2 with
  | none => rw [q] at t3; cases t3
  | some o => rw [q] at t3; rw [He.emptyTab_eq (o := o) t3]
def hookY (n : Nat) (fa : List He.Fa) (fn : List DefY) (ex : List (PySem.W.Frag → Bool)) : PySem.W.Hook where
  α := AlY
  obs := fun s => obsY n fa fn ex s.heap.get?
  val := fun _ => wantY fn
  says := fun _ h => ∃ K : PySem.W.Frag, SaysY fa fn ex h K
  of := fun _ _ e => ⟨_, saysY e⟩
  keeps := fun _ _ _ ⟨K, c⟩ k => ⟨K, PySem.W.Frag.In.keeps c.kin k, c.fas, c.exs, c.def_, c.hd, c.out, k _ _ c.tab⟩
theorem obsY_eq {n : Nat} {fa : List He.Fa} {fn : List DefY} {ex : List (PySem.W.Frag → Bool)} {g : Addr → Option Obj} {s : Shared} (h : ∀ a, g a = s.heap.get? a) : obsY n fa fn ex g = (hookY n fa fn ex).obs s := by
  have e : g = s.heap.get? := funext h
  subst e
  rfl
section
variable {fa : List He.Fa} {fn : List DefY} {ex : List (PySem.W.Frag → Bool)} {h : Heap} {K : PySem.W.Frag} (c : SaysY fa fn ex h K)
include c
theorem SaysY.fact (i : Nat) {f : He.Fa} (e : fa[i]? = some f := by rfl) : f.ok K = true := c.fas f (List.mem_of_getElem? e)
theorem SaysY.own (i : Nat) {b : PySem.W.Frag → Bool} (e : ex[i]? = some b := by rfl) : b K = true := c.exs b (List.mem_of_getElem? e)
theorem SaysY.get (i : Nat) {d : DefY} (e : fn[i]? = some d := by rfl) : ∃ fd, FunD K d.nm d.ql d.ar d.bd d.sc (d.df K) [] (d.to K) fd := c.def_ d (List.mem_of_getElem? e)
end
/-- a tuple at an address -/
def tupY (K : PySem.W.Frag) (a : Addr) (vs : List V) : Bool := (K.lookup a).any fun o => decide (o.cls = .type "tuple") && (match o.data with
  | .seq its _ => decide (its.size ≤ 1000) && He.relAll vs its.toList
  | _ => false)
theorem tupY_ok {K : PySem.W.Frag} {a : Addr} {vs : List V} (h : tupY K a vs = true) (H : Hp) : SqT K H a vs := by
  unfold tupY at h
  obtain ⟨o, ho, h⟩ : ∃ o, K.lookup a = some o ∧ (decide (o.cls = .type "tuple") && (match o.data with
    | .seq its _ => decide (its.size ≤ 1000) && He.relAll vs its.toList
    | _ => false)) = true := by
    cases q : K.lookup a with
    | none => rw [q] at h; cases h
    | some o => rw [q] at h; exact ⟨o, rfl, h⟩
  obtain ⟨h1, h2⟩ := He.ba h
  split at h2
  · rename_i its n hd
    obtain ⟨h3, h4⟩ := He.ba h2
    exact .inr ⟨o, its, n, ho, of_decide_eq_true h1, hd, Nat.le_of_lt (small1000 (of_decide_eq_true h3)), He.relAll_ok h4⟩
  · cases h2
/-- a class that makes objects -/
def mkB (C f : PySem.W.Frag → Addr) (K : PySem.W.Frag) : Bool := PySem.W.makesIn K (C K) && (He.eqO (PySem.W.findIn K (.ref (C K)) "__init__") (some (some (.ref (f K)))) && (PySem.W.isFn K (.ref (f K)) && PySem.W.keepIn K (.ref (C K))))
theorem mkB_ok {C f : PySem.W.Frag → Addr} {K : PySem.W.Frag} (h : mkB C f K = true) : Mk K (C K) (f K) := by
  obtain ⟨h1, h⟩ := He.ba h
  obtain ⟨h2, h⟩ := He.ba h
  obtain ⟨h3, h4⟩ := He.ba h
  exact ⟨h1, He.eqO_ok h2, h3, h4⟩
/-- isinstance of an own class -/
def insB (x : Str) (K : PySem.W.Frag) : Bool := He.eqO (PySem.W.findIn K (.ref (He.ga K x)) "__class__") (some (some (.builtin "object.__class__"))) && (He.eqO (PySem.W.specialIn K (.builtin "object.__class__") "__get__") (some (some (.builtin "getset_descriptor.__get__"))) && (decide (PySem.W.takesIn K (.builtin "object.__class__") = some true) &&
  (decide (PySem.W.mroIn K (He.ga K x) (.type "object") = some true) && (decide (PySem.W.kitOne K (.ref (He.ga K x)) (.ref (He.ga K x)) = some true) && decide (PySem.W.kitOne K (.type "list") (.ref (He.ga K x)) = some false)))))
theorem insB_ok {x : Str} {K : PySem.W.Frag} (c : Cls K (He.ga K x)) (h : insB x K = true) : C8.InsC K (He.ga K x) ∧ PySem.W.kitOne K (.type "list") (.ref (He.ga K x)) = some false := by
  obtain ⟨h1, h⟩ := He.ba h
  obtain ⟨h2, h⟩ := He.ba h
  obtain ⟨h3, h⟩ := He.ba h
  obtain ⟨h4, h⟩ := He.ba h
  obtain ⟨h5, h6⟩ := He.ba h
  exact ⟨⟨c, He.eqO_ok h1, He.eqO_ok h2, of_decide_eq_true h3, of_decide_eq_true h4, of_decide_eq_true h5⟩, of_decide_eq_true h6⟩
/-- a static method -/
def smP (C m : Str) (K : PySem.W.Frag) : Addr := He.ma K (He.ga K C) m
def smF (C m : Str) (K : PySem.W.Frag) : Addr := match PySem.W.recIn K (smP C m K) "staticmethod" with
  | some (.ref g :: _) => g
  | _ => 0
def smB (C m : Str) (K : PySem.W.Frag) : Bool := PySem.W.readsIn K (He.ga K C) (.type "type") && (He.eqO (PySem.W.specialIn K (.ref (He.ga K C)) "__getattribute__") (some (some (.builtin "type.__getattribute__"))) && ((match PySem.W.findCls K (.ref (He.ga K C)) (.type "type") m with
  | some (.get (.builtin b) (.ref p) .none (.ref c)) => decide (b = "staticmethod.__get__") && (decide (p = smP C m K) && decide (c = He.ga K C))
  | _ => false) && ((match PySem.W.recIn K (smP C m K) "staticmethod" with
  | some (.ref _ :: _) => true
  | _ => false) && PySem.W.keepIn K (.ref (smF C m K)))))
theorem smB_ok {C m : Str} {K : PySem.W.Frag} (h : smB C m K = true) : ∃ mc p, SMet K (He.ga K C) mc m p (smF C m K) := by
  obtain ⟨h1, h⟩ := He.ba h
  obtain ⟨h2, h⟩ := He.ba h
  obtain ⟨h3, h⟩ := He.ba h
  obtain ⟨h4, h5⟩ := He.ba h
  refine ⟨_, smP C m K, h1, He.eqO_ok h2, ?_, ?_, h5⟩
  · split at h3
    · rename_i b p c e
      obtain ⟨q1, q⟩ := He.ba h3
      obtain ⟨q2, q3⟩ := He.ba q
      rw [e, of_decide_eq_true q1, of_decide_eq_true q2, of_decide_eq_true q3]
    · cases h3
  · unfold smF
    split at h4
    · rename_i g r e
      rw [e]
      exact ⟨r, rfl⟩
    · cases h4
theorem fun_of {K : PySem.W.Frag} {x q : Str} {st : Stmt} {f : Addr} {fd : FuncData} (F : FunD K x q (defArgs st) (defBody st) (defScope st) [] [] f fd) : Fun K x q st f fd := by
  obtain ⟨oc, od, dV, kV, doc, pm, an, cdv, ct, osl, rfl, lk, hcd, hD, hK⟩ := F.ex
  rcases hD with ⟨_, rfl⟩ | ⟨e, _⟩
  · exact ⟨⟨oc, od, kV, doc, pm, an, cdv, ct, osl, rfl, lk, hcd⟩, F.kp⟩
  · exact absurd rfl e
theorem funC_of {K : PySem.W.Frag} {st : Stmt} {fd : FuncData} (F : FunD K "law" "law" (defArgs st) (defBody st) (defScope st) [] [] (He.ga K "law") fd) : FunC K "law" st (He.ga K "law") fd (He.cT K lawD).1 := by
  obtain ⟨oc, od, dV, kV, doc, pm, an, cdv, ct, osl, rfl, lk, hcd, hD, hK⟩ := F.ex
  rcases hD with ⟨_, rfl⟩ | ⟨e, _⟩
  · obtain ⟨c, rfl⟩ := He.codeIn_ref hcd
    have e : (He.cT K lawD).1 = c := He.codeOf_eq (p := lawD) lk rfl
    rw [e]
    exact ⟨oc, od, kV, doc, pm, an, ct, osl, rfl, lk, hcd⟩
  · exact absurd rfl e
/-- an own error class -/
def oexB (K : PySem.W.Frag) (C : Addr) : Bool := (match K.lookup C with
  | some ⟨.type c, _, .cls cd, sl⟩ => (match cd.mro, sl.toList with
    | .ref C' :: bm, [_, _, _, _, some (.builtin n), _] => decide (c = "type") && ((C' == C) && (decide (n = "ValueError.__new__") && (!cd.hasDel && (cd.hasDict && PySem.HandSPX.refsVE bm))))
    | _, _ => false)
  | _ => false) && (He.eqO (PySem.W.findIn K (.ref C) "__setattr__") (some (some (.builtin "object.__setattr__"))) && (decide (PySem.W.subIn K (.ref C) (.type "BaseException") = some true) && (decide (PySem.W.typeIn K (.ref C) = some (.type "type")) && PySem.W.keepIn K (.ref C))))
theorem oexB_ok {K : PySem.W.Frag} {C : Addr} (h : oexB K C = true) : OexC K C := by
  obtain ⟨h1, h⟩ := He.ba h
  obtain ⟨h2, h⟩ := He.ba h
  obtain ⟨h3, h⟩ := He.ba h
  obtain ⟨h4, h5⟩ := He.ba h
  refine ⟨?_, He.eqO_ok h2, of_decide_eq_true h3, of_decide_eq_true h4, h5⟩
  split at h1
  · rename_i c dd cd sl ho
    split at h1
    · rename_i C' bm k0 k1 k2 k3 n k5 hm hs
      obtain ⟨e1, q⟩ := He.ba h1
      obtain ⟨e2, q⟩ := He.ba q
      obtain ⟨e3, q⟩ := He.ba q
      obtain ⟨e4, q⟩ := He.ba q
      obtain ⟨e5, q6⟩ := He.ba q
      have e1 := of_decide_eq_true e1
      have e2 := beq_iff_eq.mp e2
      have e3 := of_decide_eq_true e3
      subst e1 e2 e3
      obtain ⟨nm, bs, mro, ns, qn, hd, sn, sub, ab, col, del⟩ := cd
      dsimp only at hm e4 e5
      have e4 : del = false := by cases del with | false => rfl | true => cases e4
      subst hm e4 e5
      have hsl : sl = #[k0, k1, k2, k3, some (.builtin "ValueError.__new__"), k5] := by
        obtain ⟨sl⟩ := sl
        simp only at hs
        rw [hs]
      subst hsl
      exact ⟨nm, qn, ns, bs, bm, sn, sub, ab, col, dd, k0, k1, k2, k3, k5, ho, q6⟩
    · cases h1
  · cases h1
/-- an own error class with its maker -/
def errB (x : Str) (K : PySem.W.Frag) : Bool := oexB K (He.ga K x) && (xfB K (He.ga K x) && (He.eqO (PySem.W.nsIn K mainGlobals x) (some (some (.ref (He.ga K x)))) && (He.eqO (PySem.W.findIn K (.ref (He.ga K x)) "tag") (some none) && (decide (PySem.W.exmOne K (.ref (He.ga K x)) (.ref (He.ga K "TieError")) = some true) && (decide (PySem.W.exmOne K (.ref (He.ga K x)) (.ref (He.ga K "Missing")) = some false) &&
  (He.eqO (PySem.W.findIn K (.ref (He.ga K x)) "__init__") (some (some (.ref (He.ma K (He.ga K x) "__init__")))) && decide (PySem.W.typeIn K (.ref (He.ma K (He.ga K x) "__init__")) = some (.type "function"))))))))
theorem errB_ok {K : PySem.W.Frag} {mg : Str → Option Value} {hp : Heap} {x : Str} (X : K.In hp) (G : hp.Ns mainGlobals mg) (h : errB x K = true) : ErrC K mg x (He.ga K x) (He.ga K "TieError") (He.ga K "Missing") (He.ma K (He.ga K x) "__init__") := by
  obtain ⟨h1, h⟩ := He.ba h
  obtain ⟨h2, h⟩ := He.ba h
  obtain ⟨h3, h⟩ := He.ba h
  obtain ⟨h4, h⟩ := He.ba h
  obtain ⟨h5, h⟩ := He.ba h
  obtain ⟨h6, h⟩ := He.ba h
  obtain ⟨h7, h8⟩ := He.ba h
  exact ⟨oexB_ok h1, xfB_ok h2, PySem.W.mg_of X G (He.eqO_ok h3), He.eqO_ok h4, exm_any (of_decide_eq_true h5) (of_decide_eq_true h6), He.eqO_ok h7, of_decide_eq_true h8⟩
theorem intC {K : PySem.W.Frag} {mg : Str → Option Value} {hp : Heap} {x : Str} {i : Int} (X : K.In hp) (G : hp.Ns mainGlobals mg) (h : (He.Fa.int x i).ok K = true) : ∃ u, mg x = some u ∧ RelV (V.int i) u := by
  obtain ⟨t, e⟩ := He.int_ok X G h
  exact ⟨_, e, ⟨_, rfl⟩⟩
theorem strC {K : PySem.W.Frag} {mg : Str → Option Value} {hp : Heap} {x z : Str} (X : K.In hp) (G : hp.Ns mainGlobals mg) (h : (He.Fa.str x z).ok K = true) : ∃ u, mg x = some u ∧ RelV (V.str z) u := by
  obtain ⟨t, e⟩ := He.str_ok X G h
  exact ⟨_, e, ⟨_, rfl⟩⟩
theorem refC {K : PySem.W.Frag} {mg : Str → Option Value} {hp : Heap} {x : Str} (X : K.In hp) (G : hp.Ns mainGlobals mg) (h : (He.Fa.glo x).ok K = true) : ∃ u, mg x = some u ∧ RelV (V.ref (He.ga K x)) u := ⟨_, He.glo_ok X G h, rfl⟩
section
open PySem.W PySem.Calls PyProof.Rows
/-- the run's equation in three looks, each its own run -/
noncomputable abbrev endY (r : PySem.W.OpenRow) (M : Nat) (w : World) (os : OsState) : Option PySem.W.SharedT := HandSHeadRun.endF (HandSHeadRun.stepQ (HandSHeadRun.denQ HandSHeadRun.tabQ) r.prog w) M r.prog w os
theorem run_three {r : PySem.W.OpenRow} {q : Program} {H : PySem.W.Hook} {ob : PySem.W.SharedT → H.α} {M : Nat} {loose : List Str} {w : World} (h1 : ∀ os, (endY r M w os).map (fun s => HandSHeadRun.looksF r.prog (boot_heap w.params) s.abs) = some true)
    (h2 : ∀ os, (endY r M w os).map (fun s => HandSHeadRun.seenQ q loose (importedModules r.prog.main.body) (fun s => PySem.W.xlAt q [] s && PySem.W.recOk r.toRowW.records s) s.abs) = some (PySem.W.openGood q loose)) (h3 : ∀ os, (endY r M w os).map ob = some (H.val w)) :
    HandSHeadRun.RunEq r q H ob M loose w := by
  intro os
  obtain ⟨s, e, a⟩ := Option.map_eq_some_iff.mp (h1 os)
  have b := h2 os
  have c := h3 os
  rw [e] at b c
  show (endY r M w os).map _ = _
  rw [e]
  have b' := Option.some.inj b
  have c' := Option.some.inj c
  exact congrArg some (Prod.ext a (Prod.ext b' c'))
end
/-- a number kept in a class, and != by == -/
def clsiB (C m : Str) (i : Int) (K : PySem.W.Frag) : Bool := PySem.W.readsIn K (He.ga K C) (.type "type") && (match PySem.W.findCls K (.ref (He.ga K C)) (.type "type") m with
  | some (.val (.int j _)) => decide (j = i)
  | _ => false)
theorem clsiB_ok {C m : Str} {i : Int} {K : PySem.W.Frag} (h : clsiB C m i K = true) : ∃ mc t, ClsI K (He.ga K C) mc m i t := by
  obtain ⟨h1, h2⟩ := He.ba h
  split at h2
  · rename_i j t e
    refine ⟨_, t, h1, ?_⟩
    rw [e, of_decide_eq_true h2]
  · cases h2
def neB (x : Str) (K : PySem.W.Frag) : Bool := He.eqO (PySem.W.findIn K (.ref (He.ga K x)) "__ne__") (some (some (.builtin "object.__ne__")))
end EK
namespace T8
open PySem PySem.Spec PyProof.Rows L2 EK
def topS (i : Nat) : Stmt := PySem.Challenge.pw_tiespan_k34_steps_return_what_they_are_m.main.body.getD i (.Pass ⟨0, 0, 0, 0⟩)
abbrev s_p_is_whole : Stmt := topS 18
abbrev s_p_common_divisor : Stmt := topS 20
abbrev s_p_ratio : Stmt := topS 21
abbrev s_p_is_ratio : Stmt := topS 22
abbrev s_p_add : Stmt := topS 23
abbrev s_p_multiply : Stmt := topS 25
abbrev s_p_is_less : Stmt := topS 27
abbrev s_p_is_name : Stmt := topS 86
abbrev s_p_is_term : Stmt := topS 87
abbrev s_p_are_terms : Stmt := topS 88
abbrev s_p_is_tie : Stmt := topS 89
abbrev s_p_names_in : Stmt := topS 90
abbrev s_p_is_kept : Stmt := topS 92
abbrev s_p_ascending : Stmt := topS 110
abbrev s_p_first_wrong_name : Stmt := topS 136
abbrev s_p_first_wrong_tie : Stmt := topS 137
abbrev s_p_primed : Stmt := topS 141
abbrev s_feed : Stmt := topS 148
abbrev s_draw : Stmt := topS 149
abbrev s_any : Stmt := topS 150
abbrev s_same : Stmt := topS 151
abbrev s_field : Stmt := topS 152
abbrev s_why : Stmt := topS 153
abbrev s_errors : Stmt := topS 154
abbrev s_gcd : Stmt := topS 155
abbrev s_low : Stmt := topS 156
abbrev s_plus : Stmt := topS 157
abbrev s_minus : Stmt := topS 158
abbrev s_by : Stmt := topS 159
abbrev s_under : Stmt := topS 160
abbrev s_rate : Stmt := topS 161
abbrev s_words : Stmt := topS 162
abbrev s_strange : Stmt := topS 163
abbrev s_total : Stmt := topS 164
abbrev s_keeps : Stmt := topS 165
abbrev s_point : Stmt := topS 166
abbrev s_value_ties : Stmt := topS 167
abbrev s_step_ties : Stmt := topS 168
abbrev s_values_of : Stmt := topS 169
abbrev s_stay_ties : Stmt := topS 170
abbrev s_p_law : Stmt := topS 171
theorem sc_p_is_whole : FnScope ["thing"] ["thing"] (defScope s_p_is_whole) := ⟨rfl, rfl, rfl, by decide +kernel, rfl, by decide +kernel, by decide +kernel⟩
theorem sc_p_common_divisor : FnScope ["one", "other"] ["one", "other"] (defScope s_p_common_divisor) := ⟨rfl, rfl, rfl, by decide +kernel, rfl, by decide +kernel, by decide +kernel⟩
theorem sc_p_ratio : FnScope ["top", "under", "shared"] ["top", "under"] (defScope s_p_ratio) := ⟨rfl, rfl, rfl, by decide +kernel, rfl, by decide +kernel, by decide +kernel⟩
theorem sc_p_is_ratio : FnScope ["thing", "top", "under"] ["thing"] (defScope s_p_is_ratio) := ⟨rfl, rfl, rfl, by decide +kernel, rfl, by decide +kernel, by decide +kernel⟩
theorem sc_p_add : FnScope ["one", "other"] ["one", "other"] (defScope s_p_add) := ⟨rfl, rfl, rfl, by decide +kernel, rfl, by decide +kernel, by decide +kernel⟩
theorem sc_p_multiply : FnScope ["one", "other"] ["one", "other"] (defScope s_p_multiply) := ⟨rfl, rfl, rfl, by decide +kernel, rfl, by decide +kernel, by decide +kernel⟩
theorem sc_p_is_less : FnScope ["one", "other"] ["one", "other"] (defScope s_p_is_less) := ⟨rfl, rfl, rfl, by decide +kernel, rfl, by decide +kernel, by decide +kernel⟩
theorem sc_p_is_name : FnScope ["text", "letters"] ["text"] (defScope s_p_is_name) := ⟨rfl, rfl, rfl, by decide +kernel, rfl, by decide +kernel, by decide +kernel⟩
theorem sc_p_is_term : FnScope ["thing"] ["thing"] (defScope s_p_is_term) := ⟨rfl, rfl, rfl, by decide +kernel, rfl, by decide +kernel, by decide +kernel⟩
theorem sc_p_are_terms : FnScope ["thing", "term"] ["thing"] (defScope s_p_are_terms) := ⟨rfl, rfl, rfl, by decide +kernel, rfl, by decide +kernel, by decide +kernel⟩
theorem sc_p_is_tie : FnScope ["thing"] ["thing"] (defScope s_p_is_tie) := ⟨rfl, rfl, rfl, by decide +kernel, rfl, by decide +kernel, by decide +kernel⟩
theorem sc_p_names_in : FnScope ["tie", "name", "rate"] ["tie"] (defScope s_p_names_in) := ⟨rfl, rfl, rfl, by decide +kernel, rfl, by decide +kernel, by decide +kernel⟩
theorem sc_p_is_kept : FnScope ["tie", "values", "terms", "bound", "total", "name", "rate"] ["tie", "values"] (defScope s_p_is_kept) := ⟨rfl, rfl, rfl, by decide +kernel, rfl, by decide +kernel, by decide +kernel⟩
theorem sc_p_ascending : FnScope ["names", "found", "name", "one"] ["names"] (defScope s_p_ascending) := ⟨rfl, rfl, rfl, by decide +kernel, rfl, by decide +kernel, by decide +kernel⟩
theorem sc_p_first_wrong_name : FnScope ["names", "at", "name"] ["names"] (defScope s_p_first_wrong_name) := ⟨rfl, rfl, rfl, by decide +kernel, rfl, by decide +kernel, by decide +kernel⟩
theorem sc_p_first_wrong_tie : FnScope ["ties", "names", "at", "tie", "name"] ["ties", "names"] (defScope s_p_first_wrong_tie) := ⟨rfl, rfl, rfl, by decide +kernel, rfl, by decide +kernel, by decide +kernel⟩
theorem sc_p_primed : FnScope ["names", "name"] ["names"] (defScope s_p_primed) := ⟨rfl, rfl, rfl, by decide +kernel, rfl, by decide +kernel, by decide +kernel⟩
theorem sc_feed : FnScope ["_law_script", "_law_cell", "_law_cells", "_law_mark"] ["_law_script"] (defScope s_feed) := ⟨rfl, rfl, rfl, by decide +kernel, rfl, by decide +kernel, by decide +kernel⟩
theorem sc_draw : FnScope ["_law_feed_here", "_law_many", "_law_cell", "_law_one", "_law_two", "_law_drawn"] ["_law_feed_here", "_law_many"] (defScope s_draw) := ⟨rfl, rfl, rfl, by decide +kernel, rfl, by decide +kernel, by decide +kernel⟩
theorem sc_any : FnScope ["_law_feed_here", "_law_row"] ["_law_feed_here", "_law_row"] (defScope s_any) := ⟨rfl, rfl, rfl, by decide +kernel, rfl, by decide +kernel, by decide +kernel⟩
theorem sc_same : FnScope ["_law_found", "_law_due", "_law_key", "_law_one", "_law_two"] ["_law_found", "_law_due"] (defScope s_same) := ⟨rfl, rfl, rfl, by decide +kernel, rfl, by decide +kernel, by decide +kernel⟩
theorem sc_field : FnScope ["_law_e"] ["_law_e"] (defScope s_field) := ⟨rfl, rfl, rfl, by decide +kernel, rfl, by decide +kernel, by decide +kernel⟩
theorem sc_why : FnScope ["_law_ask", "_law_told", "_law_e"] ["_law_ask"] (defScope s_why) := ⟨rfl, rfl, rfl, by decide +kernel, rfl, by decide +kernel, by decide +kernel⟩
theorem sc_errors : FnScope ["_law_asks", "_law_ask"] ["_law_asks"] (defScope s_errors) := ⟨rfl, rfl, rfl, by decide +kernel, rfl, by decide +kernel, by decide +kernel⟩
theorem sc_gcd : FnScope ["_law_one", "_law_two"] ["_law_one", "_law_two"] (defScope s_gcd) := ⟨rfl, rfl, rfl, by decide +kernel, rfl, by decide +kernel, by decide +kernel⟩
theorem sc_low : FnScope ["_law_upper", "_law_lower", "_law_part"] ["_law_upper", "_law_lower"] (defScope s_low) := ⟨rfl, rfl, rfl, by decide +kernel, rfl, by decide +kernel, by decide +kernel⟩
theorem sc_plus : FnScope ["_law_one", "_law_two"] ["_law_one", "_law_two"] (defScope s_plus) := ⟨rfl, rfl, rfl, by decide +kernel, rfl, by decide +kernel, by decide +kernel⟩
theorem sc_minus : FnScope ["_law_one"] ["_law_one"] (defScope s_minus) := ⟨rfl, rfl, rfl, by decide +kernel, rfl, by decide +kernel, by decide +kernel⟩
theorem sc_by : FnScope ["_law_one", "_law_two"] ["_law_one", "_law_two"] (defScope s_by) := ⟨rfl, rfl, rfl, by decide +kernel, rfl, by decide +kernel, by decide +kernel⟩
theorem sc_under : FnScope ["_law_one", "_law_two"] ["_law_one", "_law_two"] (defScope s_under) := ⟨rfl, rfl, rfl, by decide +kernel, rfl, by decide +kernel, by decide +kernel⟩
theorem sc_rate : FnScope ["_law_feed_here"] ["_law_feed_here"] (defScope s_rate) := ⟨rfl, rfl, rfl, by decide +kernel, rfl, by decide +kernel, by decide +kernel⟩
theorem sc_words : FnScope ["_law_feed_here", "_law_many", "_law_letters", "_law_stem", "_law_spot", "_law_first", "_law_way", "_law_found", "_law_k"] ["_law_feed_here", "_law_many"] (defScope s_words) := ⟨rfl, rfl, rfl, by decide +kernel, rfl, by decide +kernel, by decide +kernel⟩
theorem sc_strange : FnScope ["_law_words_here", "_law_word"] ["_law_words_here"] (defScope s_strange) := ⟨rfl, rfl, rfl, by decide +kernel, rfl, by decide +kernel, by decide +kernel⟩
theorem sc_total : FnScope ["_law_terms", "_law_values", "_law_found", "_law_name", "_law_rate_here"] ["_law_terms", "_law_values"] (defScope s_total) := ⟨rfl, rfl, rfl, by decide +kernel, rfl, by decide +kernel, by decide +kernel⟩
theorem sc_keeps : FnScope ["_law_tie", "_law_values"] ["_law_tie", "_law_values"] (defScope s_keeps) := ⟨rfl, rfl, rfl, by decide +kernel, rfl, by decide +kernel, by decide +kernel⟩
theorem sc_point : FnScope ["_law_feed_here", "_law_words_here", "_law_name"] ["_law_feed_here", "_law_words_here"] (defScope s_point) := ⟨rfl, rfl, rfl, by decide +kernel, rfl, by decide +kernel, by decide +kernel⟩
theorem sc_value_ties : FnScope ["_law_terms", "_law_value", "_law_name", "_law_rate_here"] ["_law_terms", "_law_value"] (defScope s_value_ties) := ⟨rfl, rfl, rfl, by decide +kernel, rfl, by decide +kernel, by decide +kernel⟩
theorem sc_step_ties : FnScope ["_law_feed_here", "_law_words_here", "_law_many", "_law_found", "_law_k", "_law_one", "_law_two", "_law_way", "_law_rate_here", "_law_bound", "_law_sign", "_law_terms", "_law_name", "_law_part"] ["_law_feed_here", "_law_words_here", "_law_many"] (defScope s_step_ties) := ⟨rfl, rfl, rfl, by decide +kernel, rfl, by decide +kernel, by decide +kernel⟩
theorem sc_values_of : FnScope ["_law_before", "_law_after", "_law_found", "_law_name"] ["_law_before", "_law_after"] (defScope s_values_of) := ⟨rfl, rfl, rfl, by decide +kernel, rfl, by decide +kernel, by decide +kernel⟩
theorem sc_stay_ties : FnScope ["_law_words_here", "_law_found", "_law_name"] ["_law_words_here"] (defScope s_stay_ties) := ⟨rfl, rfl, rfl, by decide +kernel, rfl, by decide +kernel, by decide +kernel⟩
theorem sc_p_law : FnScope ["_law_script", "_law_feed_here", "_law_turn", "_law_bonds", "_law_made", "_law_wide", "_law_told", "_law_shown", "_law_again", "_law_before", "_law_after", "_law_due", "_law_stays", "_law_bad", "_law_spot", "_law_asks", "_law_at", "_law_bent", "_law_odd", "_law_words_here", "_law_name", "_law_tie"] ["_law_script"] (defScope s_p_law) := ⟨rfl, rfl, rfl, by decide +kernel, rfl, by decide +kernel, by decide +kernel⟩
abbrev s_p_LotInit : Stmt := inClass (topS 139) 0
theorem sc_p_LotInit : FnScope ["self", "names", "ties", "wrong"] ["self", "names", "ties"] (defScope s_p_LotInit) := ⟨rfl, rfl, rfl, by decide +kernel, rfl, by decide +kernel, by decide +kernel⟩
abbrev s_p_LotNames : Stmt := inClass (topS 139) 2
theorem sc_p_LotNames : FnScope ["self"] ["self"] (defScope s_p_LotNames) := ⟨rfl, rfl, rfl, by decide +kernel, rfl, by decide +kernel, by decide +kernel⟩
abbrev s_p_LotTies : Stmt := inClass (topS 139) 3
theorem sc_p_LotTies : FnScope ["self"] ["self"] (defScope s_p_LotTies) := ⟨rfl, rfl, rfl, by decide +kernel, rfl, by decide +kernel, by decide +kernel⟩
abbrev s_p_LotHolds : Stmt := inClass (topS 139) 7
theorem sc_p_LotHolds : FnScope ["self", "values", "tie"] ["self", "values"] (defScope s_p_LotHolds) := ⟨rfl, rfl, rfl, by decide +kernel, rfl, by decide +kernel, by decide +kernel⟩
abbrev s_p_StepInit : Stmt := inClass (topS 146) 1
theorem sc_p_StepInit : FnScope ["self", "names", "ties", "at", "name", "wrong"] ["self", "names", "ties"] (defScope s_p_StepInit) := ⟨rfl, rfl, rfl, by decide +kernel, rfl, by decide +kernel, by decide +kernel⟩
abbrev s_p_StepStay : Stmt := inClass (topS 146) 2
theorem sc_p_StepStay : FnScope ["names", "step", "ties", "name"] ["names"] (defScope s_p_StepStay) := ⟨rfl, rfl, rfl, by decide +kernel, rfl, by decide +kernel, by decide +kernel⟩
abbrev s_p_StepNames : Stmt := inClass (topS 146) 3
theorem sc_p_StepNames : FnScope ["self"] ["self"] (defScope s_p_StepNames) := ⟨rfl, rfl, rfl, by decide +kernel, rfl, by decide +kernel, by decide +kernel⟩
abbrev s_p_StepTies : Stmt := inClass (topS 146) 4
theorem sc_p_StepTies : FnScope ["self"] ["self"] (defScope s_p_StepTies) := ⟨rfl, rfl, rfl, by decide +kernel, rfl, by decide +kernel, by decide +kernel⟩
abbrev s_p_StepAll : Stmt := inClass (topS 146) 5
theorem sc_p_StepAll : FnScope ["self"] ["self"] (defScope s_p_StepAll) := ⟨rfl, rfl, rfl, by decide +kernel, rfl, by decide +kernel, by decide +kernel⟩
abbrev s_p_StepLot : Stmt := inClass (topS 146) 6
theorem sc_p_StepLot : FnScope ["self"] ["self"] (defScope s_p_StepLot) := ⟨rfl, rfl, rfl, by decide +kernel, rfl, by decide +kernel, by decide +kernel⟩
abbrev s_p_StepAllows : Stmt := inClass (topS 146) 8
theorem sc_p_StepAllows : FnScope ["self", "before", "after", "names", "values", "name"] ["self", "before", "after"] (defScope s_p_StepAllows) := ⟨rfl, rfl, rfl, by decide +kernel, rfl, by decide +kernel, by decide +kernel⟩
abbrev s_p_StepEq : Stmt := inClass (topS 146) 13
theorem sc_p_StepEq : FnScope ["self", "other"] ["self", "other"] (defScope s_p_StepEq) := ⟨rfl, rfl, rfl, by decide +kernel, rfl, by decide +kernel, by decide +kernel⟩
abbrev s_p_StepLen : Stmt := inClass (topS 146) 14
theorem sc_p_StepLen : FnScope ["self"] ["self"] (defScope s_p_StepLen) := ⟨rfl, rfl, rfl, by decide +kernel, rfl, by decide +kernel, by decide +kernel⟩
abbrev s_p_StepRepr : Stmt := inClass (topS 146) 15
theorem sc_p_StepRepr : FnScope ["self"] ["self"] (defScope s_p_StepRepr) := ⟨rfl, rfl, rfl, by decide +kernel, rfl, by decide +kernel, by decide +kernel⟩
structure Txt (K : PySem.W.Frag) (mg : Str → Option Value) (fa : Nat → Addr) (fd : Nat → FuncData) : Prop where
  F_LotInit : FunD K "__init__" "Lot.__init__" (defArgs s_p_LotInit) (defBody s_p_LotInit) (defScope s_p_LotInit) [V.ref (fa 1502)] [] (fa 1500) (fd 1500)
  b_LotInit : Binds K (fd 1500) ["self", "names", "ties"] []
  b_LotInit1 : ∃ ds, Vals [V.ref (fa 1502)] ds ∧ Binds K (fd 1500) ["self", "names", "ties"] ds
  kb_LotInit : KBn K (fd 1500) ["self", "names", "ties"] 1 ["ties", "names"] (fun us ws => us ++ [ws.getD 1 Value.none, ws.getD 0 Value.none]) (fun vs zs => vs ++ [zs.getD 1 V.non, zs.getD 0 V.non])
  z_LotInit : ∀ H : Hp, SqT K H (fa 1502) []
  mk_Lot : Mk K (fa 139) (fa 1500)
  g_Lot : mg "Lot" = some (.ref (fa 139))
  cl_Lot : Cls K (fa 139)
  na_Lot_unknowns : NoAttr K (fa 139) "unknowns"
  na_Lot_bonds : NoAttr K (fa 139) "bonds"
  F_LotNames : Fun K "names" "Lot.names" s_p_LotNames (fa 1510) (fd 1510)
  b_LotNames : Binds K (fd 1510) ["self"] []
  me_LotNames : Meth K (fa 139) "names" (fa 1510)
  F_LotTies : Fun K "ties" "Lot.ties" s_p_LotTies (fa 1511) (fd 1511)
  b_LotTies : Binds K (fd 1511) ["self"] []
  me_LotTies : Meth K (fa 139) "ties" (fa 1511)
  F_LotHolds : Fun K "holds" "Lot.holds" s_p_LotHolds (fa 1513) (fd 1513)
  b_LotHolds : Binds K (fd 1513) ["self", "values"] []
  me_LotHolds : Meth K (fa 139) "holds" (fa 1513)
  F_StepInit : FunD K "__init__" "Step.__init__" (defArgs s_p_StepInit) (defBody s_p_StepInit) (defScope s_p_StepInit) [V.ref (fa 1602)] [] (fa 1600) (fd 1600)
  b_StepInit : Binds K (fd 1600) ["self", "names", "ties"] []
  b_StepInit1 : ∃ ds, Vals [V.ref (fa 1602)] ds ∧ Binds K (fd 1600) ["self", "names", "ties"] ds
  kb_StepInit : KBn K (fd 1600) ["self", "names", "ties"] 1 ["ties", "names"] (fun us ws => us ++ [ws.getD 1 Value.none, ws.getD 0 Value.none]) (fun vs zs => vs ++ [zs.getD 1 V.non, zs.getD 0 V.non])
  z_StepInit : ∀ H : Hp, SqT K H (fa 1602) []
  F_StepStay : Fun K "stay" "Step.stay" s_p_StepStay (fa 1601) (fd 1601)
  b_StepStay : Binds K (fd 1601) ["names"] []
  sm_Step : ∃ mc p, SMet K (fa 146) mc "stay" p (fa 1601)
  mk_Step : Mk K (fa 146) (fa 1600)
  g_Step : mg "Step" = some (.ref (fa 146))
  cl_Step : Cls K (fa 146)
  na_Step_unknowns : NoAttr K (fa 146) "unknowns"
  na_Step_bonds : NoAttr K (fa 146) "bonds"
  F_StepNames : Fun K "names" "Step.names" s_p_StepNames (fa 1610) (fd 1610)
  b_StepNames : Binds K (fd 1610) ["self"] []
  me_StepNames : Meth K (fa 146) "names" (fa 1610)
  F_StepTies : Fun K "ties" "Step.ties" s_p_StepTies (fa 1611) (fd 1611)
  b_StepTies : Binds K (fd 1611) ["self"] []
  me_StepTies : Meth K (fa 146) "ties" (fa 1611)
  F_StepAll : Fun K "everyone" "Step.everyone" s_p_StepAll (fa 1612) (fd 1612)
  b_StepAll : Binds K (fd 1612) ["self"] []
  me_StepAll : Meth K (fa 146) "everyone" (fa 1612)
  F_StepLot : Fun K "lot" "Step.lot" s_p_StepLot (fa 1613) (fd 1613)
  b_StepLot : Binds K (fd 1613) ["self"] []
  me_StepLot : Meth K (fa 146) "lot" (fa 1613)
  F_StepAllows : Fun K "allows" "Step.allows" s_p_StepAllows (fa 1614) (fd 1614)
  b_StepAllows : Binds K (fd 1614) ["self", "before", "after"] []
  me_StepAllows : Meth K (fa 146) "allows" (fa 1614)
  F_StepEq : Fun K "__eq__" "Step.__eq__" s_p_StepEq (fa 1615) (fd 1615)
  b_StepEq : Binds K (fd 1615) ["self", "other"] []
  me_StepEq : Meth K (fa 146) "__eq__" (fa 1615)
  F_StepLen : Fun K "__len__" "Step.__len__" s_p_StepLen (fa 1616) (fd 1616)
  b_StepLen : Binds K (fd 1616) ["self"] []
  me_StepLen : Meth K (fa 146) "__len__" (fa 1616)
  F_StepRepr : Fun K "__repr__" "Step.__repr__" s_p_StepRepr (fa 1617) (fd 1617)
  b_StepRepr : Binds K (fd 1617) ["self"] []
  me_StepRepr : Meth K (fa 146) "__repr__" (fa 1617)
  most_Step : ∃ mc t, ClsI K (fa 146) mc "MOST" 3 t
  F_p_is_whole : Fun K "is_whole" "is_whole" s_p_is_whole (fa 18) (fd 18)
  g_p_is_whole : mg "is_whole" = some (.ref (fa 18))
  b_p_is_whole : Binds K (fd 18) ["thing"] []
  F_p_common_divisor : Fun K "common_divisor" "common_divisor" s_p_common_divisor (fa 20) (fd 20)
  g_p_common_divisor : mg "common_divisor" = some (.ref (fa 20))
  b_p_common_divisor : Binds K (fd 20) ["one", "other"] []
  F_p_ratio : FunD K "ratio" "ratio" (defArgs s_p_ratio) (defBody s_p_ratio) (defScope s_p_ratio) [V.int 1] [] (fa 21) (fd 21)
  g_p_ratio : mg "ratio" = some (.ref (fa 21))
  b_p_ratio : Binds K (fd 21) ["top", "under"] []
  d_p_ratio : ∃ ds, Vals [V.int 1] ds ∧ Binds K (fd 21) ["top", "under"] ds
  F_p_is_ratio : Fun K "is_ratio" "is_ratio" s_p_is_ratio (fa 22) (fd 22)
  g_p_is_ratio : mg "is_ratio" = some (.ref (fa 22))
  b_p_is_ratio : Binds K (fd 22) ["thing"] []
  F_p_add : Fun K "add" "add" s_p_add (fa 23) (fd 23)
  g_p_add : mg "add" = some (.ref (fa 23))
  b_p_add : Binds K (fd 23) ["one", "other"] []
  F_p_multiply : Fun K "multiply" "multiply" s_p_multiply (fa 25) (fd 25)
  g_p_multiply : mg "multiply" = some (.ref (fa 25))
  b_p_multiply : Binds K (fd 25) ["one", "other"] []
  F_p_is_less : Fun K "is_less" "is_less" s_p_is_less (fa 27) (fd 27)
  g_p_is_less : mg "is_less" = some (.ref (fa 27))
  b_p_is_less : Binds K (fd 27) ["one", "other"] []
  F_p_is_name : Fun K "is_name" "is_name" s_p_is_name (fa 86) (fd 86)
  g_p_is_name : mg "is_name" = some (.ref (fa 86))
  b_p_is_name : Binds K (fd 86) ["text"] []
  F_p_is_term : Fun K "is_term" "is_term" s_p_is_term (fa 87) (fd 87)
  g_p_is_term : mg "is_term" = some (.ref (fa 87))
  b_p_is_term : Binds K (fd 87) ["thing"] []
  F_p_are_terms : Fun K "are_terms" "are_terms" s_p_are_terms (fa 88) (fd 88)
  g_p_are_terms : mg "are_terms" = some (.ref (fa 88))
  b_p_are_terms : Binds K (fd 88) ["thing"] []
  F_p_is_tie : Fun K "is_tie" "is_tie" s_p_is_tie (fa 89) (fd 89)
  g_p_is_tie : mg "is_tie" = some (.ref (fa 89))
  b_p_is_tie : Binds K (fd 89) ["thing"] []
  F_p_names_in : Fun K "names_in" "names_in" s_p_names_in (fa 90) (fd 90)
  g_p_names_in : mg "names_in" = some (.ref (fa 90))
  b_p_names_in : Binds K (fd 90) ["tie"] []
  F_p_is_kept : Fun K "is_kept" "is_kept" s_p_is_kept (fa 92) (fd 92)
  g_p_is_kept : mg "is_kept" = some (.ref (fa 92))
  b_p_is_kept : Binds K (fd 92) ["tie", "values"] []
  F_p_ascending : Fun K "ascending" "ascending" s_p_ascending (fa 110) (fd 110)
  g_p_ascending : mg "ascending" = some (.ref (fa 110))
  b_p_ascending : Binds K (fd 110) ["names"] []
  F_p_first_wrong_name : Fun K "first_wrong_name" "first_wrong_name" s_p_first_wrong_name (fa 136) (fd 136)
  g_p_first_wrong_name : mg "first_wrong_name" = some (.ref (fa 136))
  b_p_first_wrong_name : Binds K (fd 136) ["names"] []
  F_p_first_wrong_tie : Fun K "first_wrong_tie" "first_wrong_tie" s_p_first_wrong_tie (fa 137) (fd 137)
  g_p_first_wrong_tie : mg "first_wrong_tie" = some (.ref (fa 137))
  b_p_first_wrong_tie : Binds K (fd 137) ["ties", "names"] []
  F_p_primed : Fun K "primed" "primed" s_p_primed (fa 141) (fd 141)
  g_p_primed : mg "primed" = some (.ref (fa 141))
  b_p_primed : Binds K (fd 141) ["names"] []
  F_feed : Fun K "_law_feed" "_law_feed" s_feed (fa 148) (fd 148)
  g_feed : mg "_law_feed" = some (.ref (fa 148))
  b_feed : Binds K (fd 148) ["_law_script"] []
  F_draw : Fun K "_law_draw" "_law_draw" s_draw (fa 149) (fd 149)
  g_draw : mg "_law_draw" = some (.ref (fa 149))
  b_draw : Binds K (fd 149) ["_law_feed_here", "_law_many"] []
  F_any : Fun K "_law_any" "_law_any" s_any (fa 150) (fd 150)
  g_any : mg "_law_any" = some (.ref (fa 150))
  b_any : Binds K (fd 150) ["_law_feed_here", "_law_row"] []
  F_same : Fun K "_law_same" "_law_same" s_same (fa 151) (fd 151)
  g_same : mg "_law_same" = some (.ref (fa 151))
  b_same : Binds K (fd 151) ["_law_found", "_law_due"] []
  F_field : Fun K "_law_field" "_law_field" s_field (fa 152) (fd 152)
  g_field : mg "_law_field" = some (.ref (fa 152))
  b_field : Binds K (fd 152) ["_law_e"] []
  F_why : Fun K "_law_why" "_law_why" s_why (fa 153) (fd 153)
  g_why : mg "_law_why" = some (.ref (fa 153))
  b_why : Binds K (fd 153) ["_law_ask"] []
  F_errors : Fun K "_law_errors" "_law_errors" s_errors (fa 154) (fd 154)
  g_errors : mg "_law_errors" = some (.ref (fa 154))
  b_errors : Binds K (fd 154) ["_law_asks"] []
  F_gcd : Fun K "_law_gcd" "_law_gcd" s_gcd (fa 155) (fd 155)
  g_gcd : mg "_law_gcd" = some (.ref (fa 155))
  b_gcd : Binds K (fd 155) ["_law_one", "_law_two"] []
  F_low : Fun K "_law_low" "_law_low" s_low (fa 156) (fd 156)
  g_low : mg "_law_low" = some (.ref (fa 156))
  b_low : Binds K (fd 156) ["_law_upper", "_law_lower"] []
  F_plus : Fun K "_law_plus" "_law_plus" s_plus (fa 157) (fd 157)
  g_plus : mg "_law_plus" = some (.ref (fa 157))
  b_plus : Binds K (fd 157) ["_law_one", "_law_two"] []
  F_minus : Fun K "_law_minus" "_law_minus" s_minus (fa 158) (fd 158)
  g_minus : mg "_law_minus" = some (.ref (fa 158))
  b_minus : Binds K (fd 158) ["_law_one"] []
  F_by : Fun K "_law_by" "_law_by" s_by (fa 159) (fd 159)
  g_by : mg "_law_by" = some (.ref (fa 159))
  b_by : Binds K (fd 159) ["_law_one", "_law_two"] []
  F_under : Fun K "_law_under" "_law_under" s_under (fa 160) (fd 160)
  g_under : mg "_law_under" = some (.ref (fa 160))
  b_under : Binds K (fd 160) ["_law_one", "_law_two"] []
  F_rate : Fun K "_law_rate" "_law_rate" s_rate (fa 161) (fd 161)
  g_rate : mg "_law_rate" = some (.ref (fa 161))
  b_rate : Binds K (fd 161) ["_law_feed_here"] []
  F_words : Fun K "_law_words" "_law_words" s_words (fa 162) (fd 162)
  g_words : mg "_law_words" = some (.ref (fa 162))
  b_words : Binds K (fd 162) ["_law_feed_here", "_law_many"] []
  F_strange : Fun K "_law_strange" "_law_strange" s_strange (fa 163) (fd 163)
  g_strange : mg "_law_strange" = some (.ref (fa 163))
  b_strange : Binds K (fd 163) ["_law_words_here"] []
  F_total : Fun K "_law_total" "_law_total" s_total (fa 164) (fd 164)
  g_total : mg "_law_total" = some (.ref (fa 164))
  b_total : Binds K (fd 164) ["_law_terms", "_law_values"] []
  F_keeps : Fun K "_law_keeps" "_law_keeps" s_keeps (fa 165) (fd 165)
  g_keeps : mg "_law_keeps" = some (.ref (fa 165))
  b_keeps : Binds K (fd 165) ["_law_tie", "_law_values"] []
  F_point : Fun K "_law_point" "_law_point" s_point (fa 166) (fd 166)
  g_point : mg "_law_point" = some (.ref (fa 166))
  b_point : Binds K (fd 166) ["_law_feed_here", "_law_words_here"] []
  F_value_ties : Fun K "_law_value_ties" "_law_value_ties" s_value_ties (fa 167) (fd 167)
  g_value_ties : mg "_law_value_ties" = some (.ref (fa 167))
  b_value_ties : Binds K (fd 167) ["_law_terms", "_law_value"] []
  F_step_ties : Fun K "_law_step_ties" "_law_step_ties" s_step_ties (fa 168) (fd 168)
  g_step_ties : mg "_law_step_ties" = some (.ref (fa 168))
  b_step_ties : Binds K (fd 168) ["_law_feed_here", "_law_words_here", "_law_many"] []
  F_values_of : Fun K "_law_values_of" "_law_values_of" s_values_of (fa 169) (fd 169)
  g_values_of : mg "_law_values_of" = some (.ref (fa 169))
  b_values_of : Binds K (fd 169) ["_law_before", "_law_after"] []
  F_stay_ties : Fun K "_law_stay_ties" "_law_stay_ties" s_stay_ties (fa 170) (fd 170)
  g_stay_ties : mg "_law_stay_ties" = some (.ref (fa 170))
  b_stay_ties : Binds K (fd 170) ["_law_words_here"] []
  F_p_law : Fun K "law" "law" s_p_law (fa 171) (fd 171)
  g_p_law : mg "law" = some (.ref (fa 171))
  b_p_law : Binds K (fd 171) ["_law_script"] []
  eInvalidRatio : ErrC K mg "InvalidRatio" (fa 3) (fa 2) (fa 10) (fa 1003)
  IInvalidRatio : Fun K "__init__" "InvalidRatio.__init__" (inClass (topS 3) 0) (fa 1003) (fd 1003)
  bIInvalidRatio : Binds K (fd 1003) ["self", "given"] []
  nInvalidRatio_given : PySem.W.findIn K (.ref (fa 3)) "given" = some none
  eInvalidName : ErrC K mg "InvalidName" (fa 4) (fa 2) (fa 10) (fa 1004)
  IInvalidName : Fun K "__init__" "InvalidName.__init__" (inClass (topS 4) 0) (fa 1004) (fd 1004)
  bIInvalidName : Binds K (fd 1004) ["self", "name"] []
  nInvalidName_name : PySem.W.findIn K (.ref (fa 4)) "name" = some none
  eInvalidTie : ErrC K mg "InvalidTie" (fa 5) (fa 2) (fa 10) (fa 1005)
  IInvalidTie : Fun K "__init__" "InvalidTie.__init__" (inClass (topS 5) 0) (fa 1005) (fd 1005)
  bIInvalidTie : Binds K (fd 1005) ["self", "at"] []
  nInvalidTie_at : PySem.W.findIn K (.ref (fa 5)) "at" = some none
  gTieError : mg "TieError" = some (.ref (fa 2))
  gMissing : mg "Missing" = some (.ref (fa 10))
  c_LONG : ∃ u, mg "LONG" = some u ∧ RelV (.int 4096) u
  c_ZERO : ∃ u, mg "ZERO" = some u ∧ RelV (.ref (fa 2000)) u
  c_MOST_LETTERS : ∃ u, mg "MOST_LETTERS" = some u ∧ RelV (.int 6) u
  z_ZERO : ∀ H : Hp, SqT K H ((fa 2000)) [V.int 0, V.int 1]
  m_int : mg "int" = none
  m_len : mg "len" = none
  m_abs : mg "abs" = none
  m_range : mg "range" = none
  m_zip : mg "zip" = none
  m_all : mg "all" = none
  m_isinstance : mg "isinstance" = none
  m_bool : mg "bool" = none
  m_str : mg "str" = none
  m_tuple : mg "tuple" = none
  m_list : mg "list" = none
  m_dict : mg "dict" = none
  m_sorted : mg "sorted" = none
  m_set : mg "set" = none
  m_enumerate : mg "enumerate" = none
/-! ### the head -/
section
open PySem.W PySem.Calls
abbrev hR : OpenRow := OpenLaw.row PySem.Challenge.rw_tiespan_k34_steps_return_what_they_are_m
abbrev hQ : Program := view hR.prog [171]
def hN0 : List PySem.Str := ["_wall", "TieError", "InvalidRatio", "InvalidName", "InvalidTie", "NotTied", "NamesDiffer", "Impossible", "ParseError", "Missing", "UnknownName", "NothingLeft", "ZERO", "LONG", "LEADING", "HALF", "is_whole", "shortened", "common_divisor", "ratio", "is_ratio", "add", "subtract", "multiply", "divide", "is_less", "least", "greatest", "is_digits", "number_text"]
def hN1 : List PySem.Str := ["number_of", "ratio_text", "ratio_of", "precedes", "merged", "in_order", "cross", "opposite", "loose", "lowest", "tightest", "by_slope", "follows", "chain", "crossing", "wall_stretch", "first_numbers", "second_numbers", "framed", "upright", "wall", "shown", "canonical", "AXES", "meeting", "corner_points", "foot", "spots", "turns_off", "turned_off"]
def hN2 : List PySem.Str := ["height", "reach", "whole_point", "edge", "is_left", "bent", "edges", "joint_rows", "DIGITS", "LETTERS", "MOST_DIGITS", "MOST_LETTERS", "run_end", "number_symbol", "name_symbol", "symbol_at", "symbols_of", "read_term", "read_sum", "is_name", "is_term", "are_terms", "is_tie", "names_in", "reduced", "is_kept", "term_text", "terms_text", "tie_text", "ascending_names"]
def hN3 : List PySem.Str := ["brought_together", "tie_below", "read_ties", "turned_rows", "walls", "frame", "resolved", "envelope", "tight_walls", "settled", "first_stretch", "ascending", "pairs_of", "grouped", "own_stretch", "rows_of", "narrowed", "is_empty", "tied", "web_of", "between", "without", "trail_of", "web_for", "near_rows", "put_back", "closed_web", "joined_web", "wall_ties", "pair_ties"]
def hN4 : List PySem.Str := ["closed_ties", "nearest", "open_stretch", "solution_of", "top_of", "first_wrong_name", "first_wrong_tie", "follows_from", "Lot", "primed", "between_names", "table", "renamed", "left_ties", "Step", "_law_feed", "_law_draw", "_law_any", "_law_same", "_law_field", "_law_why", "_law_errors", "_law_gcd", "_law_low", "_law_plus", "_law_minus", "_law_by", "_law_under", "_law_rate", "_law_words"]
def hN5 : List PySem.Str := ["_law_strange", "_law_total", "_law_keeps", "_law_point", "_law_value_ties", "_law_step_ties", "_law_values_of", "_law_stay_ties"]
def hN : List PySem.Str := hN0 ++ hN1 ++ hN2 ++ hN3 ++ hN4 ++ hN5
def hd18 : DefY := ⟨fun K => He.ga K "is_whole", "is_whole", "is_whole", defArgs s_p_is_whole, defBody s_p_is_whole, defScope s_p_is_whole, fun K => []⟩
def hd20 : DefY := ⟨fun K => He.ga K "common_divisor", "common_divisor", "common_divisor", defArgs s_p_common_divisor, defBody s_p_common_divisor, defScope s_p_common_divisor, fun K => []⟩
def hd21 : DefY := ⟨fun K => He.ga K "ratio", "ratio", "ratio", defArgs s_p_ratio, defBody s_p_ratio, defScope s_p_ratio, fun K => [V.int 1]⟩
def hd22 : DefY := ⟨fun K => He.ga K "is_ratio", "is_ratio", "is_ratio", defArgs s_p_is_ratio, defBody s_p_is_ratio, defScope s_p_is_ratio, fun K => []⟩
def hd23 : DefY := ⟨fun K => He.ga K "add", "add", "add", defArgs s_p_add, defBody s_p_add, defScope s_p_add, fun K => []⟩
def hd25 : DefY := ⟨fun K => He.ga K "multiply", "multiply", "multiply", defArgs s_p_multiply, defBody s_p_multiply, defScope s_p_multiply, fun K => []⟩
def hd27 : DefY := ⟨fun K => He.ga K "is_less", "is_less", "is_less", defArgs s_p_is_less, defBody s_p_is_less, defScope s_p_is_less, fun K => []⟩
def hd86 : DefY := ⟨fun K => He.ga K "is_name", "is_name", "is_name", defArgs s_p_is_name, defBody s_p_is_name, defScope s_p_is_name, fun K => []⟩
def hd87 : DefY := ⟨fun K => He.ga K "is_term", "is_term", "is_term", defArgs s_p_is_term, defBody s_p_is_term, defScope s_p_is_term, fun K => []⟩
def hd88 : DefY := ⟨fun K => He.ga K "are_terms", "are_terms", "are_terms", defArgs s_p_are_terms, defBody s_p_are_terms, defScope s_p_are_terms, fun K => []⟩
def hd89 : DefY := ⟨fun K => He.ga K "is_tie", "is_tie", "is_tie", defArgs s_p_is_tie, defBody s_p_is_tie, defScope s_p_is_tie, fun K => []⟩
def hd90 : DefY := ⟨fun K => He.ga K "names_in", "names_in", "names_in", defArgs s_p_names_in, defBody s_p_names_in, defScope s_p_names_in, fun K => []⟩
def hd92 : DefY := ⟨fun K => He.ga K "is_kept", "is_kept", "is_kept", defArgs s_p_is_kept, defBody s_p_is_kept, defScope s_p_is_kept, fun K => []⟩
def hd110 : DefY := ⟨fun K => He.ga K "ascending", "ascending", "ascending", defArgs s_p_ascending, defBody s_p_ascending, defScope s_p_ascending, fun K => []⟩
def hd136 : DefY := ⟨fun K => He.ga K "first_wrong_name", "first_wrong_name", "first_wrong_name", defArgs s_p_first_wrong_name, defBody s_p_first_wrong_name, defScope s_p_first_wrong_name, fun K => []⟩
def hd137 : DefY := ⟨fun K => He.ga K "first_wrong_tie", "first_wrong_tie", "first_wrong_tie", defArgs s_p_first_wrong_tie, defBody s_p_first_wrong_tie, defScope s_p_first_wrong_tie, fun K => []⟩
def hd141 : DefY := ⟨fun K => He.ga K "primed", "primed", "primed", defArgs s_p_primed, defBody s_p_primed, defScope s_p_primed, fun K => []⟩
def hd148 : DefY := ⟨fun K => He.ga K "_law_feed", "_law_feed", "_law_feed", defArgs s_feed, defBody s_feed, defScope s_feed, fun K => []⟩
def hd149 : DefY := ⟨fun K => He.ga K "_law_draw", "_law_draw", "_law_draw", defArgs s_draw, defBody s_draw, defScope s_draw, fun K => []⟩
def hd150 : DefY := ⟨fun K => He.ga K "_law_any", "_law_any", "_law_any", defArgs s_any, defBody s_any, defScope s_any, fun K => []⟩
def hd151 : DefY := ⟨fun K => He.ga K "_law_same", "_law_same", "_law_same", defArgs s_same, defBody s_same, defScope s_same, fun K => []⟩
def hd152 : DefY := ⟨fun K => He.ga K "_law_field", "_law_field", "_law_field", defArgs s_field, defBody s_field, defScope s_field, fun K => []⟩
def hd153 : DefY := ⟨fun K => He.ga K "_law_why", "_law_why", "_law_why", defArgs s_why, defBody s_why, defScope s_why, fun K => []⟩
def hd154 : DefY := ⟨fun K => He.ga K "_law_errors", "_law_errors", "_law_errors", defArgs s_errors, defBody s_errors, defScope s_errors, fun K => []⟩
def hd155 : DefY := ⟨fun K => He.ga K "_law_gcd", "_law_gcd", "_law_gcd", defArgs s_gcd, defBody s_gcd, defScope s_gcd, fun K => []⟩
def hd156 : DefY := ⟨fun K => He.ga K "_law_low", "_law_low", "_law_low", defArgs s_low, defBody s_low, defScope s_low, fun K => []⟩
def hd157 : DefY := ⟨fun K => He.ga K "_law_plus", "_law_plus", "_law_plus", defArgs s_plus, defBody s_plus, defScope s_plus, fun K => []⟩
def hd158 : DefY := ⟨fun K => He.ga K "_law_minus", "_law_minus", "_law_minus", defArgs s_minus, defBody s_minus, defScope s_minus, fun K => []⟩
def hd159 : DefY := ⟨fun K => He.ga K "_law_by", "_law_by", "_law_by", defArgs s_by, defBody s_by, defScope s_by, fun K => []⟩
def hd160 : DefY := ⟨fun K => He.ga K "_law_under", "_law_under", "_law_under", defArgs s_under, defBody s_under, defScope s_under, fun K => []⟩
def hd161 : DefY := ⟨fun K => He.ga K "_law_rate", "_law_rate", "_law_rate", defArgs s_rate, defBody s_rate, defScope s_rate, fun K => []⟩
def hd162 : DefY := ⟨fun K => He.ga K "_law_words", "_law_words", "_law_words", defArgs s_words, defBody s_words, defScope s_words, fun K => []⟩
def hd163 : DefY := ⟨fun K => He.ga K "_law_strange", "_law_strange", "_law_strange", defArgs s_strange, defBody s_strange, defScope s_strange, fun K => []⟩
def hd164 : DefY := ⟨fun K => He.ga K "_law_total", "_law_total", "_law_total", defArgs s_total, defBody s_total, defScope s_total, fun K => []⟩
def hd165 : DefY := ⟨fun K => He.ga K "_law_keeps", "_law_keeps", "_law_keeps", defArgs s_keeps, defBody s_keeps, defScope s_keeps, fun K => []⟩
def hd166 : DefY := ⟨fun K => He.ga K "_law_point", "_law_point", "_law_point", defArgs s_point, defBody s_point, defScope s_point, fun K => []⟩
def hd167 : DefY := ⟨fun K => He.ga K "_law_value_ties", "_law_value_ties", "_law_value_ties", defArgs s_value_ties, defBody s_value_ties, defScope s_value_ties, fun K => []⟩
def hd168 : DefY := ⟨fun K => He.ga K "_law_step_ties", "_law_step_ties", "_law_step_ties", defArgs s_step_ties, defBody s_step_ties, defScope s_step_ties, fun K => []⟩
def hd169 : DefY := ⟨fun K => He.ga K "_law_values_of", "_law_values_of", "_law_values_of", defArgs s_values_of, defBody s_values_of, defScope s_values_of, fun K => []⟩
def hd170 : DefY := ⟨fun K => He.ga K "_law_stay_ties", "_law_stay_ties", "_law_stay_ties", defArgs s_stay_ties, defBody s_stay_ties, defScope s_stay_ties, fun K => []⟩
def hd171 : DefY := ⟨fun K => He.ga K "law", "law", "law", defArgs s_p_law, defBody s_p_law, defScope s_p_law, fun K => []⟩
def hd1003 : DefY := ⟨fun K => He.ma K (He.ga K "InvalidRatio") "__init__", "__init__", "InvalidRatio.__init__", defArgs (inClass (topS 3) 0), defBody (inClass (topS 3) 0), defScope (inClass (topS 3) 0), fun K => []⟩
def hd1004 : DefY := ⟨fun K => He.ma K (He.ga K "InvalidName") "__init__", "__init__", "InvalidName.__init__", defArgs (inClass (topS 4) 0), defBody (inClass (topS 4) 0), defScope (inClass (topS 4) 0), fun K => []⟩
def hd1005 : DefY := ⟨fun K => He.ma K (He.ga K "InvalidTie") "__init__", "__init__", "InvalidTie.__init__", defArgs (inClass (topS 5) 0), defBody (inClass (topS 5) 0), defScope (inClass (topS 5) 0), fun K => []⟩
def hd1500 : DefY := ⟨fun K => He.ma K (He.ga K "Lot") "__init__", "__init__", "Lot.__init__", defArgs s_p_LotInit, defBody s_p_LotInit, defScope s_p_LotInit, fun K => [V.ref (He.dflAt ("Lot", some "__init__") 0 K)]⟩
def hd1510 : DefY := ⟨fun K => He.ma K (He.ga K "Lot") "names", "names", "Lot.names", defArgs s_p_LotNames, defBody s_p_LotNames, defScope s_p_LotNames, fun K => []⟩
def hd1511 : DefY := ⟨fun K => He.ma K (He.ga K "Lot") "ties", "ties", "Lot.ties", defArgs s_p_LotTies, defBody s_p_LotTies, defScope s_p_LotTies, fun K => []⟩
def hd1513 : DefY := ⟨fun K => He.ma K (He.ga K "Lot") "holds", "holds", "Lot.holds", defArgs s_p_LotHolds, defBody s_p_LotHolds, defScope s_p_LotHolds, fun K => []⟩
def hd1600 : DefY := ⟨fun K => He.ma K (He.ga K "Step") "__init__", "__init__", "Step.__init__", defArgs s_p_StepInit, defBody s_p_StepInit, defScope s_p_StepInit, fun K => [V.ref (He.dflAt ("Step", some "__init__") 0 K)]⟩
def hd1601 : DefY := ⟨fun K => smF "Step" "stay" K, "stay", "Step.stay", defArgs s_p_StepStay, defBody s_p_StepStay, defScope s_p_StepStay, fun K => []⟩
def hd1610 : DefY := ⟨fun K => He.ma K (He.ga K "Step") "names", "names", "Step.names", defArgs s_p_StepNames, defBody s_p_StepNames, defScope s_p_StepNames, fun K => []⟩
def hd1611 : DefY := ⟨fun K => He.ma K (He.ga K "Step") "ties", "ties", "Step.ties", defArgs s_p_StepTies, defBody s_p_StepTies, defScope s_p_StepTies, fun K => []⟩
def hd1612 : DefY := ⟨fun K => He.ma K (He.ga K "Step") "everyone", "everyone", "Step.everyone", defArgs s_p_StepAll, defBody s_p_StepAll, defScope s_p_StepAll, fun K => []⟩
def hd1613 : DefY := ⟨fun K => He.ma K (He.ga K "Step") "lot", "lot", "Step.lot", defArgs s_p_StepLot, defBody s_p_StepLot, defScope s_p_StepLot, fun K => []⟩
def hd1614 : DefY := ⟨fun K => He.ma K (He.ga K "Step") "allows", "allows", "Step.allows", defArgs s_p_StepAllows, defBody s_p_StepAllows, defScope s_p_StepAllows, fun K => []⟩
def hd1615 : DefY := ⟨fun K => He.ma K (He.ga K "Step") "__eq__", "__eq__", "Step.__eq__", defArgs s_p_StepEq, defBody s_p_StepEq, defScope s_p_StepEq, fun K => []⟩
def hd1616 : DefY := ⟨fun K => He.ma K (He.ga K "Step") "__len__", "__len__", "Step.__len__", defArgs s_p_StepLen, defBody s_p_StepLen, defScope s_p_StepLen, fun K => []⟩
def hd1617 : DefY := ⟨fun K => He.ma K (He.ga K "Step") "__repr__", "__repr__", "Step.__repr__", defArgs s_p_StepRepr, defBody s_p_StepRepr, defScope s_p_StepRepr, fun K => []⟩
def hFn : List DefY := hd18 :: hd20 :: hd21 :: hd22 :: hd23 :: hd25 :: hd27 :: hd86 :: hd87 :: hd88 :: hd89 :: hd90 :: hd92 :: hd110 :: hd136 :: hd137 :: hd141 :: hd148 :: hd149 :: hd150 :: hd151 :: hd152 :: hd153 :: hd154 :: hd155 :: hd156 :: hd157 :: hd158 :: hd159 :: hd160 :: (hd161 :: hd162 :: hd163 :: hd164 :: hd165 :: hd166 :: hd167 :: hd168 :: hd169 :: hd170 :: hd171 :: hd1003 :: hd1004 :: hd1005 :: hd1500 :: hd1510 :: hd1511 :: hd1513 :: hd1600 :: hd1601 :: hd1610 :: hd1611 :: hd1612 :: hd1613 :: hd1614 :: hd1615 :: hd1616 :: hd1617 :: [])
def hA0 : List He.Fa := [.glo "is_whole", .glo "common_divisor", .glo "ratio", .glo "is_ratio", .glo "add", .glo "multiply", .glo "is_less", .glo "is_name", .glo "is_term", .glo "are_terms", .glo "is_tie", .glo "names_in", .glo "is_kept", .glo "ascending", .glo "first_wrong_name", .glo "first_wrong_tie", .glo "primed", .glo "_law_feed", .glo "_law_draw", .glo "_law_any", .glo "_law_same", .glo "_law_field", .glo "_law_why", .glo "_law_errors", .glo "_law_gcd", .glo "_law_low", .glo "_law_plus", .glo "_law_minus", .glo "_law_by", .glo "_law_under"]
def hA1 : List He.Fa := [.glo "_law_rate", .glo "_law_words", .glo "_law_strange", .glo "_law_total", .glo "_law_keeps", .glo "_law_point", .glo "_law_value_ties", .glo "_law_step_ties", .glo "_law_values_of", .glo "_law_stay_ties", .glo "law", .glo "TieError", .glo "Missing", .noat "InvalidRatio" "given", .noat "InvalidName" "name", .noat "InvalidTie" "at", .int "LONG" 4096, .glo "ZERO", .int "MOST_LETTERS" 6, .free "int", .free "len", .free "abs", .free "range", .free "zip", .free "all", .free "isinstance", .free "bool", .free "str", .free "tuple", .free "list"]
def hA2 : List He.Fa := [.free "dict", .free "sorted", .free "set", .free "enumerate", .glo "Lot", .cls "Lot", .noat "Lot" "unknowns", .noat "Lot" "bonds", .meth "Lot" "names", .meth "Lot" "ties", .meth "Lot" "holds", .glo "Step", .cls "Step", .noat "Step" "unknowns", .noat "Step" "bonds", .meth "Step" "names", .meth "Step" "ties", .meth "Step" "everyone", .meth "Step" "lot", .meth "Step" "allows", .meth "Step" "__eq__", .meth "Step" "__len__", .meth "Step" "__repr__", .free "repr"]
def hA : List He.Fa := hA0 ++ (hA1 ++ (hA2))
def hE : List (PySem.W.Frag → Bool) := [errB "InvalidRatio",
  errB "InvalidName",
  errB "InvalidTie",
  fun K => tupY K (He.ga K "ZERO") [V.int 0, V.int 1],
  mkB (fun K => He.ga K "Lot") (fun K => He.ma K (He.ga K "Lot") "__init__"),
  fun K => tupY K (He.dflAt ("Lot", some "__init__") 0 K) [],
  smB "Step" "stay",
  mkB (fun K => He.ga K "Step") (fun K => He.ma K (He.ga K "Step") "__init__"),
  fun K => tupY K (He.dflAt ("Step", some "__init__") 0 K) [],
  insB "Step",
  clsiB "Step" "MOST" 3,
  neB "Step"]
abbrev hk : Hook := hookY 6 hA hFn hE
def hob (s : SharedT) : AlY := obsY 6 hA hFn hE (HandSHeadRun.getT s)
theorem hob_eq (s : SharedT) : hob s = hk.obs s.abs := obsY_eq (HandSHeadRun.getT_eq s)
set_option maxHeartbeats 0 in
theorem hrun1 (w : World) : ∀ os, (endY hR 12000 w os).map (fun s => HandSHeadRun.looksF hR.prog (boot_heap w.params) s.abs) = some true := by
  intro os
  kernel_rfl
set_option maxHeartbeats 0 in
theorem hrun2 (w : World) : ∀ os, (endY hR 12000 w os).map (fun s => HandSHeadRun.seenQ hQ hN (importedModules hR.prog.main.body) (fun s => PySem.W.xlAt hQ [] s && PySem.W.recOk hR.toRowW.records s) s.abs) = some (PySem.W.openGood hQ hN) := by
  intro os
  kernel_rfl
set_option maxHeartbeats 0 in
theorem hrun3 (w : World) : ∀ os, (endY hR 12000 w os).map hob = some (hk.val w) := by
  intro os
  kernel_rfl
theorem hrun (w : World) : HandSHeadRun.RunEq hR hQ hk hob 12000 hN w := run_three (hrun1 w) (hrun2 w) (hrun3 w)
end
/-! ### the law's own words: drawing -/
def FeedOk (H : Hp) (a c : Addr) : Prop := ∃ (ns : List Int) (k big mark : Int), H a = some (.lst [.ref c, .int k, .int big, .int mark]) ∧ H c = some (.lst (ns.map V.int)) ∧ c ≠ a ∧ ns.length ≤ 63 ∧ 0 ≤ k
def But (a : Addr) (H H' : Hp) : Prop := ∀ b o, b ≠ a → H b = some o → H' b = some o
theorem But.refl (a : Addr) (H : Hp) : But a H H := fun _ _ _ h => h
theorem But.trans {a : Addr} {H H1 H2 : Hp} (p : But a H H1) (q : But a H1 H2) : But a H H2 := fun b o n h => q b o n (p b o n h)
theorem But.upd {a : Addr} {H : Hp} {o : HO} : But a H (upd H a o) := fun b _ n h => by rw [upd_ne n]; exact h
theorem But.of {a : Addr} {H H' : Hp} (s : Same H H') : But a H H' := fun b o _ h => s b o h
theorem same_upd {H : Hp} {p : Addr} {o : HO} (h : H p = none) : Same H (upd H p o) := fun b x e => by
  rw [upd_ne (ne_of_none e h)]
  exact e
theorem FeedOk.new {H : Hp} {a c p : Addr} {o : HO} (h : FeedOk H a c) (n : H p = none) : FeedOk (upd H p o) a c := by
  obtain ⟨ns, k, big, mark, h1, h2, h3⟩ := h
  exact ⟨ns, k, big, mark, same_upd n _ _ h1, same_upd n _ _ h2, h3⟩
theorem FeedOk.same {H H' : Hp} {a c : Addr} (h : FeedOk H a c) (s : Same H H') : FeedOk H' a c := by
  obtain ⟨ns, k, big, mark, h1, h2, h3⟩ := h
  exact ⟨ns, k, big, mark, s _ _ h1, s _ _ h2, h3⟩
def Mid (m : Int) : Prop := 0 < m ∧ m.natAbs.log2 < 9000
def spDraw : Sp := fun vs H Q _ => ∃ (a c : Addr) (m : Int), vs = [.ref a, .int m] ∧ FeedOk H a c ∧ Mid m ∧ ∀ r H', 0 ≤ r → r < m → FeedOk H' a c → But a H H' → Q (.int r) H'
section
variable {P : Program} {w : World} {K : PySem.W.Frag} {mg : Str → Option Value} {base : Heap} {fa : Nat → Addr} {fd : Nat → FuncData}
theorem ok_draw (T : Txt K mg fa fd) : FnOk P w K mg base CX0 1 (fa 149) (fd 149) ["_law_feed_here", "_law_many"] spDraw := by
  refine T.F_draw.ok sc_draw (fun vs H Q E h => ?_) (fun cdv A outer s H vs Q E hr h => ?_)
  · obtain ⟨a, c, m, rfl, _⟩ := h
    rfl
  · obtain ⟨a, c, m, rfl, ⟨ns, k, big, mark, ha, hc, nca, hlen, hk⟩, ⟨hm, hm9⟩, q⟩ := h
    refine ⟨_, (C8.pss_cut (ps_if (pt_cmpR op_lt (pe_ix ix_list (pv 0) pe_int (fun _ _ => rfl)) pe_int (nomark _)) (C8.pss_cut (ps_asg (pe_op op_add (pe_ix ix_list (pv 0) pe_int (fun _ _ => rfl)) pe_int) (pg_sub (pv 0) pe_int set_list))
      (pss_cons (ps_set (i := 2) sc_draw.nd rfl (.inl rfl) (pe_op op_add (pe_ix ix_list (pv 0) pe_int (fun _ _ => rfl)) (pe_op op_mul (pe_ix ix_list (pv 0) pe_int (fun _ _ => rfl)) pe_int)))
      (C8.pss_cut (ps_if (pt_cmpR op_le (pe_ix ix_list (pv 0) pe_int (fun _ _ => rfl)) (pe_callB call_len_seq (by rfl) T.m_len PySem.boot_len (pa_cons (pe_ix ix_list (pv 0) pe_int (fun _ _ => rfl)) pa_nil)) (nomark _)) (pss_one (ps_set (i := 2) sc_draw.nd rfl (.inl rfl) (pe_ix ix_list (pe_ix ix_list (pv 0) pe_int (fun _ _ => rfl)) (pe_op op_sub (pe_ix ix_list (pv 0) pe_int (fun _ _ => rfl)) pe_int) (fun _ _ => rfl)))) pss_nil)
      (pss_cons (ps_if (PW.pt (pw_or (pt_cmpR op_gt (pe_ix ix_list (pv 0) pe_int (fun _ _ => rfl)) (pe_callB call_len_seq (by rfl) T.m_len PySem.boot_len (pa_cons (pe_ix ix_list (pv 0) pe_int (fun _ _ => rfl)) pa_nil)) (nomark _)) (pw_or1 (pt_cmpR op_lt (pv 2) (pe_op op_pow pe_int pe_int) (nomark _))))) (pss_cons (ps_set (i := 3) sc_draw.nd rfl (.inl rfl) (pe_op op_mod (pe_callTy call_int1 (by rfl) T.m_int PySem.Pv.boot_int (pa_cons (pe_op op_add (pe_op op_add (pe_op op_mul (pv 2) pe_int) (pe_op op_mul (pe_ix ix_list (pv 0) pe_int (fun _ _ => rfl)) pe_int)) (pe_ix ix_list (pv 0) pe_int (fun _ _ => rfl))) pa_nil)) pe_int))
      (pss_cons (ps_set (i := 4) sc_draw.nd rfl (.inl rfl) (pe_op op_mod (pe_callTy call_int1 (by rfl) T.m_int PySem.Pv.boot_int (pa_cons (pe_op op_add (pe_op op_mul (pv 3) (pv 3)) (pe_op op_mul (pe_ix ix_list (pv 0) pe_int (fun _ _ => rfl)) pe_int)) pa_nil)) pe_int))
      (pss_one (ps_ret (pe_op op_mod (pe_op op_fdiv (pe_op op_mod (pe_callTy call_int1 (by rfl) T.m_int PySem.Pv.boot_int (pa_cons (pe_op op_add (pe_op op_mul (pv 4) pe_int) (pv 3)) pa_nil)) pe_int) pe_int) (pv 1)))))) pss_nil)
      (pss_one (ps_asg (pv 2) (pg_sub (pv 0) pe_int set_list))))))) pss_nil)
      (pss_cons (ps_set (i := 5) sc_draw.nd rfl (.inl rfl) (pe_op op_mod (pe_callTy call_int1 (by rfl) T.m_int PySem.Pv.boot_int (pa_cons (pe_ix ix_list (pv 0) pe_int (fun _ _ => rfl)) pa_nil)) (pv 1)))
      (pss_cons (ps_asg (pe_op op_fdivW (pe_callTy call_int1 (by rfl) T.m_int PySem.Pv.boot_int (pa_cons (pe_ix ix_list (pv 0) pe_int (fun _ _ => rfl)) pa_nil)) (pv 1)) (pg_sub (pv 0) pe_int set_list))
      (pss_one (ps_ret (pv 5)))))), ?_⟩
    have i0 : ∀ (x y z u : V), atI [x, y, z, u] 0 = some x := fun _ _ _ _ => rfl
    have i1 : ∀ (x y z u : V), atI [x, y, z, u] 1 = some y := fun _ _ _ _ => rfl
    have i2 : ∀ (x y z u : V), atI [x, y, z, u] 2 = some z := fun _ _ _ _ => rfl
    have i3 : ∀ (x y z u : V), atI [x, y, z, u] 3 = some u := fun _ _ _ _ => rfl
    refine ⟨fun σ H1 => FeedOk H1 a c ∧ But a H H1 ∧ ∃ y2 y3 y4 y5, σ = [some (.ref a), some (.int m), y2, y3, y4, y5], ?_, fun σ H1 hM => ?_⟩
    · refine ⟨.ref a, rfl, a, _, _, _, rfl, rfl, SqL.of ha, i2 _ _ _ _, _, _, rfl, rfl, _, rfl, ite2 (fun e => ?_) (fun e => ?_)⟩
      · -- feed[1] = feed[1] + 1
        refine ⟨fun σ H1 => σ = [some (.ref a), some (.int m), none, none, none, none] ∧ H1 a = some (.lst [.ref c, .int (k + 1), .int big, .int mark]) ∧ H1 c = some (.lst (ns.map V.int)) ∧ But a H H1,
          ⟨.ref a, rfl, a, _, _, _, rfl, rfl, SqL.of ha, i1 _ _ _ _, _, _, rfl, rfl, .ref a, rfl, a, _, _, 1, rfl, rfl, ha, rfl, rfl, upd_same, by rw [upd_ne nca]; exact hc, But.upd⟩, fun σ H1 hM => ?_⟩
        obtain ⟨rfl, ha1, hc1, b1⟩ := hM
        refine ⟨.ref a, rfl, a, _, _, _, rfl, rfl, SqL.of ha1, i3 _ _ _ _, .ref a, rfl, a, _, _, _, rfl, rfl, SqL.of ha1, i1 _ _ _ _, _, _, rfl, rfl, .inr (by decide), _, _, rfl, rfl, ?_⟩
        refine ⟨fun σ H2 => H2 = H1 ∧ ∃ z : Int, σ = [some (.ref a), some (.int m), some (.int z), none, none, none], ?_, fun σ H2 hM => ?_⟩
        · refine ⟨.ref a, rfl, a, _, _, _, rfl, rfl, SqL.of ha1, i1 _ _ _ _, .ref a, rfl, a, _, _, _, rfl, rfl, SqL.of ha1, i0 _ _ _ _, c, _, rfl, .inl (SqL.of hc1), _, _, rfl, rfl, _, rfl, ite2 (fun e1 => ?_) (fun e1 => ?_)⟩
          · have h1 : k + 1 ≤ ((ns.map V.int).length : Int) := of_decide_eq_true e1
            rw [List.length_map] at h1
            have h2 : k.toNat < ns.length := by omega
            have g : (ns.map V.int)[k.toNat]? = some (.int ns[k.toNat]) := by rw [List.getElem?_map, List.getElem?_eq_getElem h2]; rfl
            exact ⟨.ref a, rfl, a, _, _, _, rfl, rfl, SqL.of ha1, i0 _ _ _ _, .ref a, rfl, a, _, _, _, rfl, rfl, SqL.of ha1, i1 _ _ _ _, _, _, rfl, rfl, c, _, _, _, rfl, rfl, SqL.of hc1, at_of (j := k.toNat) (by omega) g, rfl, _, rfl⟩
          · exact ⟨rfl, _, rfl⟩
        · obtain ⟨rfl, z, rfl⟩ := hM
          have tail : FeedOk (upd H2 a (.lst ([V.ref c, .int (k + 1), .int big, .int mark].set 2 (.int z)))) a c ∧ But a H (upd H2 a (.lst ([V.ref c, .int (k + 1), .int big, .int mark].set 2 (.int z)))) ∧ ∃ y2 y3 y4 y5, [some (V.ref a), some (.int m), some (.int z), none, none, none] = [some (V.ref a), some (.int m), y2, y3, y4, y5] :=
            ⟨⟨ns, k + 1, z, mark, upd_same, by rw [upd_ne nca]; exact hc1, nca, hlen, by omega⟩, b1.trans But.upd, _, _, _, _, rfl⟩
          have pos : ∀ x y : Int, 0 ≤ x % 2147483647 ∧ x % 2147483647 < 2147483647 := fun x _ => ⟨Int.emod_nonneg _ (by decide), Int.emod_lt_of_pos _ (by decide)⟩
          have done : ∀ x : Int, Q (.int (x % m)) H2 := fun x => q _ _ (Int.emod_nonneg _ (by omega)) (Int.emod_lt_of_pos _ hm) ⟨ns, k + 1, big, mark, ha1, hc1, nca, hlen, by omega⟩ b1
          refine ⟨.ref a, rfl, a, _, _, _, rfl, rfl, SqL.of ha1, i1 _ _ _ _, .ref a, rfl, a, _, _, _, rfl, rfl, SqL.of ha1, i0 _ _ _ _, c, _, rfl, .inl (SqL.of hc1), _, _, rfl, rfl, _, rfl, ite2 (fun e1 => ?_) (fun e1 => ?_)⟩
          · exact ⟨_, rfl, _, _, rfl, rfl, .inr (by decide), _, rfl, a, _, _, _, rfl, rfl, SqL.of ha1, i1 _ _ _ _, _, _, rfl, rfl, .inr (by decide), _, _, rfl, rfl, _, rfl, a, _, _, _, rfl, rfl, SqL.of ha1, i3 _ _ _ _, _, _, rfl, rfl, .inl ⟨_, rfl, _, _, rfl, rfl, (by show (0 : Int) < _; decide), _, rfl, _, rfl, _, _, rfl, rfl, .inl (by have p := pos (z * 48271 + (k + 1) * 69621 + mark) 0; exact ⟨by omega, by omega⟩), _, rfl, a, _, _, _, rfl, rfl, SqL.of ha1, i1 _ _ _ _, _, _, rfl, rfl, .inr (by decide), _, _, rfl, rfl, .inl ⟨_, rfl, _, _, rfl, rfl, (by show (0 : Int) < _; decide), _, rfl, _, _, rfl, rfl, .inr (by decide), _, rfl, _, _, rfl, rfl, .inl ⟨_, rfl, _, _, rfl, rfl, (by show (0 : Int) < _; decide), _, _, rfl, rfl, ⟨by decide, by decide⟩, _, rfl, _, _, rfl, rfl, hm, done _⟩⟩⟩⟩
          · refine ⟨_, rfl, _, _, rfl, rfl, ⟨by decide, by decide, by decide⟩, _, _, rfl, rfl, _, rfl, ite2 (fun e2 => ?_) (fun e2 => ?_)⟩
            · exact ⟨_, rfl, _, _, rfl, rfl, .inr (by decide), _, rfl, a, _, _, _, rfl, rfl, SqL.of ha1, i1 _ _ _ _, _, _, rfl, rfl, .inr (by decide), _, _, rfl, rfl, _, rfl, a, _, _, _, rfl, rfl, SqL.of ha1, i3 _ _ _ _, _, _, rfl, rfl, .inl ⟨_, rfl, _, _, rfl, rfl, (by show (0 : Int) < _; decide), _, rfl, _, rfl, _, _, rfl, rfl, .inl (by have p := pos (z * 48271 + (k + 1) * 69621 + mark) 0; exact ⟨by omega, by omega⟩), _, rfl, a, _, _, _, rfl, rfl, SqL.of ha1, i1 _ _ _ _, _, _, rfl, rfl, .inr (by decide), _, _, rfl, rfl, .inl ⟨_, rfl, _, _, rfl, rfl, (by show (0 : Int) < _; decide), _, rfl, _, _, rfl, rfl, .inr (by decide), _, rfl, _, _, rfl, rfl, .inl ⟨_, rfl, _, _, rfl, rfl, (by show (0 : Int) < _; decide), _, _, rfl, rfl, ⟨by decide, by decide⟩, _, rfl, _, _, rfl, rfl, hm, done _⟩⟩⟩⟩
            · exact ⟨_, rfl, .ref a, rfl, a, _, _, 2, rfl, rfl, ha1, rfl, tail⟩
      · exact ⟨⟨ns, k, big, mark, ha, hc, nca, hlen, hk⟩, But.refl _ _, none, none, none, none, rfl⟩
    · obtain ⟨⟨ns1, k1, big1, mark1, ha1, hc1, nca1, hlen1, hk1⟩, b1, y2, y3, y4, y5, rfl⟩ := hM
      refine ⟨.ref a, rfl, a, _, _, _, rfl, rfl, SqL.of ha1, i2 _ _ _ _, .inl ⟨_, rfl, _, rfl, _, _, rfl, rfl, hm, ?_⟩⟩
      refine ⟨.ref a, rfl, a, _, _, _, rfl, rfl, SqL.of ha1, i2 _ _ _ _, .inl ⟨_, rfl, _, rfl, _, _, rfl, rfl, ⟨hm, hm9⟩, ?_⟩⟩
      refine ⟨.ref a, rfl, a, _, _, 2, rfl, rfl, ha1, rfl, ?_⟩
      refine ⟨_, rfl, q _ _ (Int.emod_nonneg _ (by omega)) (Int.emod_lt_of_pos _ hm) ⟨ns1, k1, big1 / m, mark1, upd_same, ?_, nca1, hlen1, hk1⟩ (b1.trans But.upd)⟩
      rw [upd_ne nca1]
      exact hc1
theorem cut63 (xs : List V) (h : xs.length ≤ 63) : cutV xs none (some 63) = xs := by
  unfold cutV
  rw [show HT.sIx xs.length xs.length (some 63) = min 63 xs.length from HT.sIx_nat xs.length xs.length 63, HT.sIx_none]
  rw [Nat.min_eq_right h]
  exact List.take_length
def spFeed (K : PySem.W.Frag) : Sp := fun vs H Q _ => ∃ (a : Addr) (ns : List Int), vs = [.ref a] ∧ SqL K H a (ns.map V.int) ∧ ns.length ≤ 63 ∧ ∀ p c H', H p = none → H c = none → Same H H' → FeedOk H' p c → Q (.ref p) H'
theorem ok_feed (T : Txt K mg fa fd) : FnOk P w K mg base CX0 1 (fa 148) (fd 148) ["_law_script"] (spFeed K) := by
  refine T.F_feed.ok sc_feed (fun vs H Q E h => ?_) (fun cdv A outer s H vs Q E hr h => ?_)
  · obtain ⟨a, ns, rfl, _⟩ := h
    rfl
  · obtain ⟨a, ns, rfl, hS, hlen, q⟩ := h
    refine ⟨_, (C8.pss_cut (ps_setLc (i := 2) (own := [("_law_cell", 1)]) (g := gName 1) (tt := tYes) rfl sc_feed.nd rfl rfl (sw_true rfl rfl rfl (by decide +kernel)) (pi_list (pe_slice sl_list (pv 0) po_none (po_some pe_int))) (blkOk_by (own := [("_law_cell", 1)]) (N := ["_law_script", "_law_cell", "_law_cells", "_law_mark"]) (sc := defScope s_feed) (by decide +kernel)) (fun _ _ _ _ _ => pg_name (i := 1) sc_feed.nd rfl (Or.inl rfl)) (fun _ _ _ _ _ => pts_nil) (fun _ _ _ _ _ => (pe_callTy call_int1 (by rfl) T.m_int PySem.Pv.boot_int (pa_cons (pv 1) pa_nil))))
      (pss_cons (ps_set (i := 3) sc_feed.nd rfl (.inl rfl) (pe_op op_add pe_int (pe_op op_mul pe_int (pe_callB call_len_seq (by rfl) T.m_len PySem.boot_len (pa_cons (pv 2) pa_nil)))))
      (pss_cons (ps_for PassesOwn.never rfl (pi_list (pv 2)) (pg_name (i := 1) sc_feed.nd rfl (.inl rfl)) (pss_one (ps_set (i := 3) sc_feed.nd rfl (.inl rfl) (pe_op op_mod (pe_callTy call_int1 (by rfl) T.m_int PySem.Pv.boot_int (pa_cons (pe_op op_add (pe_op op_mul (pv 3) pe_int) (pv 1)) pa_nil)) pe_int))))
      (pss_one (ps_ret (pe_lst (pa_cons (pv 2) (pa_cons pe_int (pa_cons pe_int (pa_cons (pv 3) pa_nil)))))))))), ?_⟩
    refine ⟨fun σ H1 => ∃ c, σ = [some (.ref a), none, some (.ref c), none] ∧ H c = none ∧ Same H H1 ∧ H1 c = some (.lst (ns.map V.int)), ?_, fun σ H1 hM => ?_⟩
    · refine ⟨.ref a, rfl, 63, rfl, a, _, rfl, hS, fun p np => ?_⟩
      rw [cut63 _ (by rw [List.length_map]; exact hlen)]
      have s1 : Same H (upd H p (.lst (ns.map V.int))) := same_upd np
      refine ⟨p, rfl, ⟨_, SqL.of upd_same⟩, fun D nD => ?_⟩
      have nD0 : H D = none := s1.free nD
      have npD : p ≠ D := ne_of_none upd_same nD
      refine lc_list (K := K) (a := p) (xs := ns.map V.int) (fun i H2 => Same (upd H p (.lst (ns.map V.int))) H2 ∧ H2 D = some (.lst ((ns.take i).map V.int))) ⟨same_upd nD, upd_same⟩ (fun i H2 _ hp => SqL.of (hp.1 _ _ upd_same)) (fun i x H2 hx hp => ?_) (fun H2 hp => ?_)
      · rw [List.getElem?_map] at hx
        obtain ⟨z, hz, rfl⟩ := Option.map_eq_some_iff.mp hx
        refine ⟨rfl, _, rfl, .inl ⟨_, rfl, _, hp.2, ?_, ?_, ?_⟩⟩
        · rw [List.length_map, List.length_take]
          exact Nat.lt_of_le_of_lt (Nat.min_le_left _ _) (small1000 (by
            have := (List.getElem?_eq_some_iff.mp hz).1
            omega))
        · exact fun b o e => by
            rw [upd_ne (ne_of_none e nD)]
            exact hp.1 b o e
        · rw [upd_same, List.take_add_one, hz, List.map_append]
          rfl
      · rw [List.length_map] at hp
        refine ⟨D, rfl, nD0, s1.trans hp.1, ?_⟩
        rw [hp.2, List.take_length]
    · obtain ⟨c, rfl, nc, s1, hc⟩ := hM
      refine ⟨_, rfl, c, _, rfl, .inl (SqL.of hc), _, _, rfl, rfl, .inl (by decide), _, _, rfl, rfl, ?_⟩
      refine ⟨_, rfl, c, rfl, ⟨_, SqL.of hc⟩, for_list (K := K) (a := c) (xs := ns.map V.int) (fun i σ H2 => H2 = H1 ∧ ∃ (y1 : Option V) (m : Int), σ = [some (.ref a), y1, some (.ref c), some (.int m)] ∧ 0 ≤ m ∧ m < 1000000000000) ?_ (fun i σ H2 _ hp => by rw [hp.1]; exact SqL.of hc) (fun i x σ H2 hx hp => ?_) (fun σ H2 hp => ?_)⟩
      · refine ⟨rfl, _, _, rfl, ?_⟩
        rw [List.length_map]
        omega
      · obtain ⟨rfl, y1, m, rfl, h0, h1⟩ := hp
        rw [List.getElem?_map] at hx
        obtain ⟨z, hz, rfl⟩ := Option.map_eq_some_iff.mp hx
        exact ⟨_, rfl, _, _, rfl, rfl, .inr (by decide), _, rfl, _, _, rfl, rfl, .inl ⟨_, rfl, _, _, rfl, rfl, (by show (0 : Int) < _; decide), rfl, _, _, rfl, Int.emod_nonneg _ (by decide), Int.lt_trans (Int.emod_lt_of_pos _ (by decide)) (by decide)⟩⟩
      · obtain ⟨rfl, y1, m, rfl, h0, h1⟩ := hp
        refine ⟨_, rfl, _, rfl, Nat.le_trans (by decide : 4 ≤ 1000) (Nat.le_of_lt (small1000 (Nat.le_refl _))), fun p np => ?_⟩
        refine q p c _ (s1.free np) nc (s1.trans (same_upd np)) ⟨ns, 0, 0, m, upd_same, ?_, ne_of_none hc np, hlen, Int.le_refl _⟩
        rw [upd_ne (ne_of_none hc np)]
        exact hc
/-! ### the row's own draw -/
def spAny : Sp := fun vs H Q _ => ∃ (a c r : Addr) (xs : List V), vs = [.ref a, .ref r] ∧ FeedOk H a c ∧ H r = some (.lst xs) ∧ r ≠ a ∧ 0 < xs.length ∧ xs.length ≤ 1000 ∧ ∀ v H', v ∈ xs → FeedOk H' a c → But a H H' → Q v H'
theorem mid_small {n : Nat} (h0 : 0 < n) (h : n ≤ 1000) : Mid (n : Int) := ⟨by omega, by
  rw [Int.natAbs_natCast]
  exact Nat.lt_of_le_of_lt (Nat.log2_le_self n) (by omega)⟩
theorem ok_any (T : Txt K mg fa fd) : FnOk P w K mg base CX0 2 (fa 150) (fd 150) ["_law_feed_here", "_law_row"] spAny := by
  refine T.F_any.ok sc_any (fun vs H Q E h => ?_) (fun cdv A outer s H vs Q E hr h => ?_)
  · obtain ⟨a, c, m, xs, rfl, _⟩ := h
    rfl
  · obtain ⟨a, c, r, xs, rfl, hF, hx, nra, h0, h1, q⟩ := h
    refine ⟨_, (pss_one (ps_ret (pe_ix ix_list (pv 1) (pe_call (ok_draw T) (hr.mono (by decide)) (by rfl) T.g_draw T.F_draw.kp T.b_draw .nil pass0 (pa_cons (pv 0) (pa_cons (pe_callB call_len_seq (by rfl) T.m_len PySem.boot_len (pa_cons (pv 1) pa_nil)) pa_nil))) (fun _ _ => rfl)))), ?_⟩
    refine ⟨_, rfl, _, rfl, _, rfl, r, _, rfl, .inl (SqL.of hx), a, c, _, rfl, hF, mid_small h0 h1, fun z H' z0 z1 hF' b => ?_⟩
    have hz : z.toNat < xs.length := by omega
    exact ⟨r, xs, z, xs[z.toNat], rfl, rfl, SqL.of (b _ _ nra hx), at_of (j := z.toNat) (by omega) (List.getElem?_eq_getElem hz), q _ _ (List.getElem_mem hz) hF' b⟩
/-! ### the greatest common divisor -/
def spGcd : Sp := fun vs H Q _ => ∃ x y : Int, vs = [.int x, .int y] ∧ Q (.int (Int.gcd x y : Nat)) H
theorem ok_gcd (T : Txt K mg fa fd) : FnOk P w K mg base CX0 1 (fa 155) (fd 155) ["_law_one", "_law_two"] spGcd := by
  refine T.F_gcd.ok sc_gcd (fun vs H Q E h => ?_) (fun cdv A outer s H vs Q E hr h => ?_)
  · obtain ⟨x, y, rfl, _⟩ := h
    rfl
  · obtain ⟨x, y, rfl, q⟩ := h
    refine ⟨_, (pss_cons (ps_par (i := 0) (j := 1) (by rfl) sc_gcd.nd rfl rfl (by decide) rfl rfl (pa_cons (pe_callB call_abs (by rfl) T.m_abs PyProof.Rows.boot_abs (pa_cons (pv 0) pa_nil)) (pa_cons (pe_callB call_abs (by rfl) T.m_abs PyProof.Rows.boot_abs (pa_cons (pv 1) pa_nil)) pa_nil)) (by rfl))
      (pss_cons (ps_while PassesOwn.never (pt_cmpR op_ne (pv 1) pe_int (nomark _)) (pss_one (ps_par (i := 0) (j := 1) (by rfl) sc_gcd.nd rfl rfl (by decide) rfl rfl (pa_cons (pv 1) (pa_cons (pe_op op_mod (pe_callTy call_int1 (by rfl) T.m_int PySem.Pv.boot_int (pa_cons (pv 0) pa_nil)) (pv 1)) pa_nil)) (by rfl))))
      (pss_one (ps_ret (pv 0))))), ?_⟩
    refine ⟨_, rfl, _, rfl, _, rfl, _, rfl, _, _, rfl, ?_⟩
    have ab : ∀ z : Int, (if z < 0 then -z else z) = (z.natAbs : Int) := fun z => by split <;> omega
    rw [ab, ab]
    refine ⟨fun m σ H1 => ∃ u v : Nat, m = v ∧ σ = [some (.int (u : Int)), some (.int (v : Int))] ∧ H1 = H ∧ Nat.gcd u v = Int.gcd x y, ⟨_, x.natAbs, y.natAbs, rfl, rfl, rfl, rfl⟩, fun m σ H1 hW => ?_⟩
    obtain ⟨u, v, rfl, rfl, rfl, hg⟩ := hW
    refine ⟨_, rfl, rfl, _, rfl, ?_⟩
    by_cases hv : m = 0
    · subst hv
      rw [decide_eq_true (show V.int ((0 : Nat) : Int) = V.int 0 from rfl)]
      refine ⟨_, rfl, ?_⟩
      rw [Nat.gcd_zero_right] at hg
      rw [hg]
      exact q
    · rw [decide_eq_false (fun e => hv (by have := V.int.inj e; omega))]
      refine ⟨fun σ' H' => ∃ m', m' < m ∧ ∃ u v : Nat, m' = v ∧ σ' = [some (.int (u : Int)), some (.int (v : Int))] ∧ H' = H1 ∧ Nat.gcd u v = Int.gcd x y, fun σ' H' h => h, ?_⟩
      refine ⟨_, rfl, _, rfl, .inl ⟨_, rfl, _, rfl, _, _, rfl, rfl, (by show (0 : Int) < _; omega), ?_⟩⟩
      refine ⟨_, _, rfl, u % m, Nat.mod_lt _ (by omega), m, u % m, rfl, rfl, rfl, ?_⟩
      rw [← hg, Nat.gcd_comm m, ← Nat.gcd_rec, Nat.gcd_comm]
/-! ### lowest terms -/
def CDivG (_ j : Int) : Prop := j ≠ 0 ∧ j.natAbs.log2 < 9000
theorem op_fdivG {X : Cx} : OpR X (binaryOp .FloorDiv) (rI CDivG fun i j => .int (i.fdiv j)) := opI fun _ _ _ _ _ _ _ hc q => floordiv_int hc.1 q (.inl (PyProof.noPylong_of_log2 hc.2))
def lowG (u v : Int) : Int := if v < 0 then -(Int.gcd u v : Nat) else (Int.gcd u v : Nat)
def lowT (u v : Int) : Int := u.fdiv (lowG u v)
def lowD (u v : Int) : Int := v.fdiv (lowG u v)
theorem gcd_pos {u v : Int} (h : v ≠ 0) : 0 < Int.gcd u v := Nat.pos_of_ne_zero fun e => h (Int.gcd_eq_zero_iff.mp e).2
theorem gcd_le {u v : Int} (h : v ≠ 0) : Int.gcd u v ≤ v.natAbs := Nat.le_of_dvd (by omega) (Nat.gcd_dvd_right _ _)
theorem log2_mono {a b k : Nat} (h : a ≤ b) (hb : b.log2 < k) : a.log2 < k := by
  by_cases h0 : a = 0
  · subst h0
    rw [Nat.log2_zero]
    omega
  · have hb0 : b ≠ 0 := by omega
    exact (Nat.log2_lt h0).mpr (Nat.lt_of_le_of_lt h ((Nat.log2_lt hb0).mp hb))
theorem lowG_ok {u v : Int} (h : v ≠ 0) (h9 : v.natAbs.log2 < 4096) : CDivG u (lowG u v) := by
  have h1 := gcd_pos (u := u) h
  have h2 := gcd_le (u := u) h
  unfold lowG
  split
  · exact ⟨by omega, by rw [Int.natAbs_neg, Int.natAbs_natCast]; exact Nat.lt_trans (log2_mono h2 h9) (by decide)⟩
  · exact ⟨by omega, by rw [Int.natAbs_natCast]; exact Nat.lt_trans (log2_mono h2 h9) (by decide)⟩
def spLow : Sp := fun vs H Q _ => ∃ u v : Int, vs = [.int u, .int v] ∧ v ≠ 0 ∧ v.natAbs.log2 < 4096 ∧ ∀ p, H p = none → Q (.ref p) (upd H p (.tup [.int (lowT u v), .int (lowD u v)]))
theorem two_line : 2 ≤ sizeLine := Nat.le_trans (by decide : 2 ≤ 1000) (Nat.le_of_lt (small1000 (Nat.le_refl _)))
theorem ok_low (T : Txt K mg fa fd) : FnOk P w K mg base CX0 2 (fa 156) (fd 156) ["_law_upper", "_law_lower"] spLow := by
  refine T.F_low.ok sc_low (fun vs H Q E h => ?_) (fun cdv A outer s H vs Q E hr h => ?_)
  · obtain ⟨x, y, rfl, _⟩ := h
    rfl
  · obtain ⟨u, v, rfl, h0, h9, q⟩ := h
    refine ⟨_, (pss_cons (ps_set (i := 2) sc_low.nd rfl (.inl rfl) (pe_call (ok_gcd T) (hr.mono (by decide)) (by rfl) T.g_gcd T.F_gcd.kp T.b_gcd .nil pass0 (pa_cons (pv 0) (pa_cons (pv 1) pa_nil))))
      (C8.pss_cut (ps_if (pt_cmpR op_lt (pv 1) pe_int (nomark _)) (pss_one (ps_set (i := 2) sc_low.nd rfl (.inl rfl) (pe_un un_neg (pv 2)))) pss_nil)
      (pss_one (ps_ret (pe_tup (pa_cons (pe_op op_fdivG (pv 0) (pv 2)) (pa_cons (pe_op op_fdivG (pv 1) (pv 2)) pa_nil))))))), ?_⟩
    refine ⟨_, rfl, _, rfl, u, v, rfl, ?_⟩
    refine ⟨fun σ H1 => H1 = H ∧ σ = [some (.int u), some (.int v), some (.int (lowG u v))], ?_, fun σ H1 hM => ?_⟩
    · refine ⟨_, rfl, _, _, rfl, rfl, _, rfl, ite2 (fun e => ?_) (fun e => ?_)⟩
      · refine ⟨_, rfl, _, rfl, rfl, ?_⟩
        unfold lowG
        rw [if_pos (of_decide_eq_true e)]
        rfl
      · refine ⟨rfl, ?_⟩
        unfold lowG
        rw [if_neg (fun z => e (decide_eq_true z))]
        rfl
    · obtain ⟨rfl, rfl⟩ := hM
      have hG := lowG_ok (u := u) h0 h9
      exact ⟨_, rfl, _, rfl, _, _, rfl, rfl, hG, _, rfl, _, rfl, _, _, rfl, rfl, hG, two_line, q⟩
/-! ### sameness of data -/
def Leaf (v w : V) : Prop := v = w ∧ (v = .non ∨ (∃ b, v = .bl b) ∨ (∃ i, v = .int i) ∨ ∃ x, v = .str x)
def Eqd (H : Hp) : Nat → V → V → Prop
  | 0, v, w => Leaf v w
  | n + 1, v, w => Leaf v w ∨ ∃ (a b : Addr) (xs ys : List V), v = .ref a ∧ w = .ref b ∧ ((H a = some (.lst xs) ∧ H b = some (.lst ys)) ∨ (H a = some (.tup xs) ∧ H b = some (.tup ys))) ∧ xs.length = ys.length ∧ xs.length ≤ 1000 ∧
      ∀ (i : Nat) (x y : V), xs[i]? = some x → ys[i]? = some y → Eqd H n x y
theorem Eqd.leaf {H : Hp} {n : Nat} {v w : V} (h : Leaf v w) : Eqd H n v w := by
  cases n with
  | zero => exact h
  | succ n => exact .inl h
theorem Eqd.mono {H H' : Hp} (s : Same H H') : ∀ (n : Nat) {v w : V}, Eqd H n v w → Eqd H' n v w
  | 0, _, _, h => h
  | n + 1, _, _, h => by
    rcases h with h | ⟨a, b, xs, ys, e1, e2, h, l1, l2, r⟩
    · exact .inl h
    · refine .inr ⟨a, b, xs, ys, e1, e2, ?_, l1, l2, fun i x y h1 h2 => Eqd.mono s n (r i x y h1 h2)⟩
      rcases h with ⟨h1, h2⟩ | ⟨h1, h2⟩
      · exact .inl ⟨s _ _ h1, s _ _ h2⟩
      · exact .inr ⟨s _ _ h1, s _ _ h2⟩
def spSame (n : Nat) : Sp := fun vs H Q _ => ∃ v w : V, vs = [v, w] ∧ Eqd H n v w ∧ ∀ H', Same H H' → Q (.bl true) H'
def spS : Nat → Sp
  | 0 => fun _ _ _ _ => False
  | n + 1 => spSame n
theorem none_of_false {K : PySem.W.Frag} {f : Addr} {fd : FuncData} {st : Stmt} {x : Str} {N ps : List Str} (F : Fun K x x st f fd) (S : FnScope N ps (defScope st)) : FnOk P w K mg base CX0 1 f fd ps (fun _ _ _ _ => False) :=
  F.ok S (fun _ _ _ _ h => h.elim) fun _ _ _ _ _ _ _ _ _ h => h.elim
theorem kit2 {K : PySem.W.Frag} {a b c : String} {r1 r2 : Bool} (h1 : kitB a b = some r1) (h2 : kitB a c = some r2) : PySem.W.kitAny K (.type a) [.type b, .type c] = some (r1 || r2) := by
  cases r1 with
  | true => exact kitAny_cons (kit_ty h1) (fun h => nomatch h) fun _ => rfl
  | false =>
    refine kitAny_cons (kit_ty h1) (fun _ => ?_) fun h => nomatch h
    cases r2 with
    | true => exact kitAny_cons (kit_ty h2) (fun h => nomatch h) fun _ => rfl
    | false => exact kitAny_cons (kit_ty h2) (fun _ => kitAny_nil) fun h => nomatch h
theorem same_step (T : Txt K mg fa fd) (n : Nat) (G : FnOk P w K mg base CX0 (n + 1) (fa 151) (fd 151) ["_law_found", "_law_due"] (spS n)) : FnOk P w K mg base CX0 (n + 2) (fa 151) (fd 151) ["_law_found", "_law_due"] (spSame n) := by
  refine T.F_same.ok sc_same (fun vs H Q E h => ?_) (fun cdv A outer s H vs Q E hr h => ?_)
  · obtain ⟨x, y, rfl, _⟩ := h
    rfl
  · obtain ⟨x, y, rfl, hE, q⟩ := h
    refine ⟨_, (pss_cons (ps_if (pt_cmpR op_isN (pv 1) pe_non (nomark _)) (pss_one (ps_ret (pe_cmpR op_isN (pv 0) pe_non (nomark _)))) pss_nil)
      (pss_cons (ps_if (PW.pt (pw_or (pt_val (pe_callB call_isi (by rfl) T.m_isinstance PyProof.Rows.boot_isinstance (pa_cons (pv 1) (pa_cons (pe_bltn (v := .ty "bool") (by rfl) T.m_bool (by decide +kernel) rfl) pa_nil)))) (pw_or1 (pt_val (pe_callB call_isi (by rfl) T.m_isinstance PyProof.Rows.boot_isinstance (pa_cons (pv 0) (pa_cons (pe_bltn (v := .ty "bool") (by rfl) T.m_bool (by decide +kernel) rfl) pa_nil))))))) (pss_one (ps_ret (pe_and (pe_callB call_isi (by rfl) T.m_isinstance PyProof.Rows.boot_isinstance (pa_cons (pv 1) (pa_cons (pe_bltn (v := .ty "bool") (by rfl) T.m_bool (by decide +kernel) rfl) pa_nil))) (pe_and (pe_callB call_isi (by rfl) T.m_isinstance PyProof.Rows.boot_isinstance (pa_cons (pv 0) (pa_cons (pe_bltn (v := .ty "bool") (by rfl) T.m_bool (by decide +kernel) rfl) pa_nil))) (pe_one (pe_cmpR op_eq (pv 0) (pv 1) (nomark _))))))) pss_nil)
      (pss_cons (ps_if (pt_val (pe_callB call_isiT (by rfl) T.m_isinstance PyProof.Rows.boot_isinstance (pa_cons (pv 1) (pa_cons (pe_tup (pa_cons (pe_bltn (v := .ty "int") (by rfl) T.m_int (by decide +kernel) rfl) (pa_cons (pe_bltn (v := .ty "str") (by rfl) T.m_str (by decide +kernel) rfl) pa_nil))) pa_nil)))) (pss_one (ps_ret (pe_and (pe_callB call_isiT (by rfl) T.m_isinstance PyProof.Rows.boot_isinstance (pa_cons (pv 0) (pa_cons (pe_tup (pa_cons (pe_bltn (v := .ty "int") (by rfl) T.m_int (by decide +kernel) rfl) (pa_cons (pe_bltn (v := .ty "str") (by rfl) T.m_str (by decide +kernel) rfl) pa_nil))) pa_nil))) (pe_and (pe_cmpR op_eq (pe_callB call_isi (by rfl) T.m_isinstance PyProof.Rows.boot_isinstance (pa_cons (pv 0) (pa_cons (pe_bltn (v := .ty "int") (by rfl) T.m_int (by decide +kernel) rfl) pa_nil))) (pe_callB call_isi (by rfl) T.m_isinstance PyProof.Rows.boot_isinstance (pa_cons (pv 1) (pa_cons (pe_bltn (v := .ty "int") (by rfl) T.m_int (by decide +kernel) rfl) pa_nil))) (nomark _)) (pe_one (pe_cmpR op_eq (pv 0) (pv 1) (nomark _))))))) pss_nil)
      (pss_cons (ps_if (pt_val (pe_callB call_isi (by rfl) T.m_isinstance PyProof.Rows.boot_isinstance (pa_cons (pv 1) (pa_cons (pe_bltn (v := .ty "dict") (by rfl) T.m_dict (by decide +kernel) rfl) pa_nil)))) (pss_cons ps_never
      (pss_one ps_never)) pss_nil)
      (pss_cons (ps_if (PW.pt (pw_or (pt_cmpR op_ne (pe_callB call_isi (by rfl) T.m_isinstance PyProof.Rows.boot_isinstance (pa_cons (pv 1) (pa_cons (pe_bltn (v := .ty "list") (by rfl) T.m_list (by decide +kernel) rfl) pa_nil))) (pe_callB call_isi (by rfl) T.m_isinstance PyProof.Rows.boot_isinstance (pa_cons (pv 0) (pa_cons (pe_bltn (v := .ty "list") (by rfl) T.m_list (by decide +kernel) rfl) pa_nil))) (nomark _)) (pw_or1 (pt_cmpR op_ne (pe_callB call_isi (by rfl) T.m_isinstance PyProof.Rows.boot_isinstance (pa_cons (pv 1) (pa_cons (pe_bltn (v := .ty "tuple") (by rfl) T.m_tuple (by decide +kernel) rfl) pa_nil))) (pe_callB call_isi (by rfl) T.m_isinstance PyProof.Rows.boot_isinstance (pa_cons (pv 0) (pa_cons (pe_bltn (v := .ty "tuple") (by rfl) T.m_tuple (by decide +kernel) rfl) pa_nil))) (nomark _))))) (pss_one (ps_ret pe_bl)) pss_nil)
      (pss_one (ps_ret (pe_and (pe_cmpR op_eq (pe_callB call_len_seq (by rfl) T.m_len PySem.boot_len (pa_cons (pv 0) pa_nil)) (pe_callB call_len_seq (by rfl) T.m_len PySem.boot_len (pa_cons (pv 1) pa_nil)) (nomark _)) (pe_one (pe_callB (cr_all rfl) (by rfl) T.m_all PyProof.Rows.boot_all (pa_cons (pe_lc (own := [("_law_one", 3), ("_law_two", 4)]) (g := gTup K 2 (gCons (gName 3) (gCons (gName 4) gNil))) (tt := tYes) rfl sc_same.nd (RZ.pi_zipA (by rfl) T.m_zip (pa_cons (pv 0) (pa_cons (pv 1) pa_nil))) (blkOk_by (own := [("_law_one", 3), ("_law_two", 4)]) (N := ["_law_found", "_law_due", "_law_key", "_law_one", "_law_two"]) (sc := defScope s_same) (by decide +kernel)) (fun _ _ _ _ _ => pg_tup rfl (pgs_cons (pg_name (i := 3) sc_same.nd rfl (Or.inl rfl)) (pgs_cons (pg_name (i := 4) sc_same.nd rfl (Or.inl rfl)) pgs_nil))) (fun _ _ _ _ _ => pts_nil) (fun _ _ _ _ _ => (pe_call G (hr.mono (by omega)) (by rfl) T.g_same T.F_same.kp T.b_same .nil pass0 (pa_cons (pv 3) (pa_cons (pv 4) pa_nil))))) pa_nil))))))))))), ?_⟩
    have leafy : Leaf x y ∨ ∃ (n' : Nat) (a b : Addr) (xs ys : List V), n = n' + 1 ∧ x = .ref a ∧ y = .ref b ∧ ((H a = some (.lst xs) ∧ H b = some (.lst ys)) ∨ (H a = some (.tup xs) ∧ H b = some (.tup ys))) ∧ xs.length = ys.length ∧ xs.length ≤ 1000 ∧
        ∀ (i : Nat) (x y : V), xs[i]? = some x → ys[i]? = some y → Eqd H n' x y := by
      cases n with
      | zero => exact .inl hE
      | succ n' =>
        rcases hE with h | ⟨a, b, xs, ys, h⟩
        · exact .inl h
        · exact .inr ⟨n', a, b, xs, ys, rfl, h⟩
    rcases leafy with ⟨rfl, hl⟩ | ⟨n', a, b, xs, ys, rfl, rfl, rfl, hab, hlen, h1000, hsub⟩
    · refine ⟨_, rfl, rfl, _, rfl, ite2 (fun e => ?_) (fun e => ?_)⟩
      · have ex := of_decide_eq_true e
        subst ex
        exact ⟨_, rfl, rfl, q _ (Same.refl _)⟩
      · rcases hl with rfl | ⟨bb, rfl⟩ | ⟨i, rfl⟩ | ⟨z, rfl⟩
        · exact absurd (decide_eq_true rfl) e
        · refine ⟨_, rfl, _, _, _, _, _, rfl, .ty _, .base (.bl _), kit_ty (r := true) (by decide +kernel), _, rfl, iteT (iteT ?_)⟩
          refine ⟨_, rfl, _, _, _, _, _, rfl, .ty _, .base (.bl _), kit_ty (r := true) (by decide +kernel), _, rfl, iteT ?_⟩
          refine ⟨_, rfl, _, _, _, _, _, rfl, .ty _, .base (.bl _), kit_ty (r := true) (by decide +kernel), _, rfl, iteT ?_⟩
          refine ⟨_, rfl, _, rfl, rfl, ?_⟩
          rw [decide_eq_true rfl]
          exact q _ (Same.refl _)
        · refine ⟨_, rfl, _, _, _, _, _, rfl, .ty _, .base (.int _), kit_ty (r := false) (by decide +kernel), _, rfl, iteF ?_⟩
          refine ⟨_, rfl, _, _, _, _, _, rfl, .ty _, .base (.int _), kit_ty (r := false) (by decide +kernel), _, rfl, iteF ?_⟩
          refine ⟨_, rfl, two_line, fun p np => ?_⟩
          refine ⟨_, p, _, _, _, _, rfl, upd_same, .cons (.ty _) (.cons (.ty _) .nil), .base (.int _), kit2 (r1 := true) (r2 := false) (by decide +kernel) (by decide +kernel), _, rfl, iteT ?_⟩
          refine ⟨_, rfl, two_line, fun p2 np2 => ?_⟩
          refine ⟨_, p2, _, _, _, _, rfl, upd_same, .cons (.ty _) (.cons (.ty _) .nil), .base (.int _), kit2 (r1 := true) (r2 := false) (by decide +kernel) (by decide +kernel), _, rfl, iteT ?_⟩
          refine ⟨_, rfl, _, _, _, _, _, rfl, .ty _, .base (.int _), kit_ty (r := true) (by decide +kernel), ?_⟩
          refine ⟨_, rfl, _, _, _, _, _, rfl, .ty _, .base (.int _), kit_ty (r := true) (by decide +kernel), rfl, _, rfl, iteT ?_⟩
          refine ⟨_, rfl, _, rfl, rfl, ?_⟩
          rw [decide_eq_true rfl]
          exact q _ ((same_upd np).trans (same_upd np2))
        · refine ⟨_, rfl, _, _, _, _, _, rfl, .ty _, .base (.str _), kit_ty (r := false) (by decide +kernel), _, rfl, iteF ?_⟩
          refine ⟨_, rfl, _, _, _, _, _, rfl, .ty _, .base (.str _), kit_ty (r := false) (by decide +kernel), _, rfl, iteF ?_⟩
          refine ⟨_, rfl, two_line, fun p np => ?_⟩
          refine ⟨_, p, _, _, _, _, rfl, upd_same, .cons (.ty _) (.cons (.ty _) .nil), .base (.str _), kit2 (r1 := false) (r2 := true) (by decide +kernel) (by decide +kernel), _, rfl, iteT ?_⟩
          refine ⟨_, rfl, two_line, fun p2 np2 => ?_⟩
          refine ⟨_, p2, _, _, _, _, rfl, upd_same, .cons (.ty _) (.cons (.ty _) .nil), .base (.str _), kit2 (r1 := false) (r2 := true) (by decide +kernel) (by decide +kernel), _, rfl, iteT ?_⟩
          refine ⟨_, rfl, _, _, _, _, _, rfl, .ty _, .base (.str _), kit_ty (r := false) (by decide +kernel), ?_⟩
          refine ⟨_, rfl, _, _, _, _, _, rfl, .ty _, .base (.str _), kit_ty (r := false) (by decide +kernel), rfl, _, rfl, iteT ?_⟩
          refine ⟨_, rfl, _, rfl, rfl, ?_⟩
          rw [decide_eq_true rfl]
          exact q _ ((same_upd np).trans (same_upd np2))
    · refine ⟨_, rfl, rfl, _, rfl, ite2 (fun e => absurd (of_decide_eq_true e) (by intro z; cases z)) (fun e => ?_)⟩
      rcases hab with ⟨ha, hb⟩ | ⟨ha, hb⟩
      · refine ⟨_, rfl, _, _, _, _, _, rfl, .ty _, .base (.lst hb), kit_ty (r := false) (by decide +kernel), _, rfl, iteF ⟨_, rfl, _, _, _, _, _, rfl, .ty _, .base (.lst ha), kit_ty (r := false) (by decide +kernel), _, rfl, iteF ⟨_, rfl, two_line, fun p np => ?_⟩⟩⟩
        have s1 := same_upd (o := .tup [V.ty "int", V.ty "str"]) np
        refine ⟨_, p, _, _, _, _, rfl, upd_same, .cons (.ty _) (.cons (.ty _) .nil), .base (.lst (s1 _ _ hb)), kit2 (r1 := false) (r2 := false) (by decide +kernel) (by decide +kernel), _, rfl, iteF ?_⟩
        generalize upd H p (.tup [V.ty "int", V.ty "str"]) = H2 at s1
        have ha2 := s1 _ _ ha
        have hb2 := s1 _ _ hb
        refine ⟨_, rfl, _, _, _, _, _, rfl, .ty _, .base (.lst hb2), kit_ty (r := false) (by decide +kernel), _, rfl, iteF ?_⟩
        refine ⟨_, rfl, _, _, _, _, _, rfl, .ty _, .base (.lst hb2), kit_ty (r := true) (by decide +kernel), _, rfl, _, _, _, _, _, rfl, .ty _, .base (.lst ha2), kit_ty (r := true) (by decide +kernel), rfl, _, rfl, iteF ?_⟩
        refine ⟨_, rfl, _, _, _, _, _, rfl, .ty _, .base (.lst hb2), kit_ty (r := false) (by decide +kernel), _, rfl, _, _, _, _, _, rfl, .ty _, .base (.lst ha2), kit_ty (r := false) (by decide +kernel), rfl, _, rfl, iteF ?_⟩
        refine ⟨_, rfl, a, _, rfl, .inl (SqL.of ha2), _, rfl, b, _, rfl, .inl (SqL.of hb2), rfl, _, rfl, ?_⟩
        rw [hlen, decide_eq_true rfl]
        refine iteT ⟨_, rfl, _, rfl, a, b, xs, ys, rfl, .inl ⟨SqL.of ha2, SqL.of hb2, fun D nD => ?_⟩⟩
        refine ⟨fun i m H' => i + m = xs.length ∧ Same H2 H' ∧ H' D = some (.lst ((List.replicate i true).map V.bl)), ⟨xs.length, by omega, same_upd nD, upd_same⟩, fun i m H' hW => ?_⟩
        obtain ⟨hm, s2, hD⟩ := hW
        by_cases hi : i < xs.length
        · have hx : xs[i]? = some xs[i] := List.getElem?_eq_getElem hi
          have hy : ys[i]? = some ys[i] := List.getElem?_eq_getElem (by omega)
          refine .inr ⟨⟨_, _, _, _, SqL.of (s2 _ _ ha2), SqL.of (s2 _ _ hb2), hx, hy⟩, fun H'' => Same H2 H'' ∧ H'' D = some (.lst ((List.replicate (i + 1) true).map V.bl)), fun H'' h => ⟨m - 1, by omega, by omega, h⟩, fun v H'' hv => ?_⟩
          obtain ⟨T', x1, y1, rfl, nT, rfl, f1, f2⟩ := hv
          have ex : x1 = xs[i] := Option.some.inj ((f1 _ (SqL.of (s2 _ _ ha2))).symm.trans hx)
          have ey : y1 = ys[i] := Option.some.inj ((f2 _ (SqL.of (s2 _ _ hb2))).symm.trans hy)
          have s3 : Same H' (upd H' T' (.tup [x1, y1])) := same_upd nT
          refine ⟨T', [x1, y1], rfl, .inl (.inl upd_same), rfl, x1, [y1], rfl, y1, [], rfl, rfl, rfl, ?_⟩
          refine ⟨_, rfl, _, rfl, x1, y1, rfl, ?_, fun H4 s4 => ⟨_, s4 _ _ (s3 _ _ hD), ?_, ?_, ?_⟩⟩
          · subst ex ey
            exact Eqd.mono (s1.trans (s2.trans s3)) n' (hsub i _ _ hx hy)
          · rw [List.length_map, List.length_replicate]
            exact small1000 (by omega)
          · intro c o e
            rw [upd_ne (ne_of_none e nD)]
            exact s4 _ _ (s3 _ _ (s2 _ _ e))
          · rw [upd_same, List.replicate_succ', List.map_append]
            rfl
        · have ei : i = xs.length := by omega
          subst ei
          refine .inl ⟨⟨xs, ys, SqL.of (s2 _ _ ha2), SqL.of (s2 _ _ hb2), .inl (Nat.le_refl _)⟩, ?_⟩
          refine ⟨D, _, rfl, .inl (.inl hD), ?_⟩
          have all : ∀ k : Nat, (List.replicate k true).all id = true := fun k => by
            rw [List.all_replicate]
            split <;> rfl
          rw [all]
          exact q _ (s1.trans s2)
      · refine ⟨_, rfl, _, _, _, _, _, rfl, .ty _, .base (.tup hb), kit_ty (r := false) (by decide +kernel), _, rfl, iteF ⟨_, rfl, _, _, _, _, _, rfl, .ty _, .base (.tup ha), kit_ty (r := false) (by decide +kernel), _, rfl, iteF ⟨_, rfl, two_line, fun p np => ?_⟩⟩⟩
        have s1 := same_upd (o := .tup [V.ty "int", V.ty "str"]) np
        refine ⟨_, p, _, _, _, _, rfl, upd_same, .cons (.ty _) (.cons (.ty _) .nil), .base (.tup (s1 _ _ hb)), kit2 (r1 := false) (r2 := false) (by decide +kernel) (by decide +kernel), _, rfl, iteF ?_⟩
        generalize upd H p (.tup [V.ty "int", V.ty "str"]) = H2 at s1
        have ha2 := s1 _ _ ha
        have hb2 := s1 _ _ hb
        refine ⟨_, rfl, _, _, _, _, _, rfl, .ty _, .base (.tup hb2), kit_ty (r := false) (by decide +kernel), _, rfl, iteF ?_⟩
        refine ⟨_, rfl, _, _, _, _, _, rfl, .ty _, .base (.tup hb2), kit_ty (r := false) (by decide +kernel), _, rfl, _, _, _, _, _, rfl, .ty _, .base (.tup ha2), kit_ty (r := false) (by decide +kernel), rfl, _, rfl, iteF ?_⟩
        refine ⟨_, rfl, _, _, _, _, _, rfl, .ty _, .base (.tup hb2), kit_ty (r := true) (by decide +kernel), _, rfl, _, _, _, _, _, rfl, .ty _, .base (.tup ha2), kit_ty (r := true) (by decide +kernel), rfl, _, rfl, iteF ?_⟩
        refine ⟨_, rfl, a, _, rfl, .inr (SqT.of ha2), _, rfl, b, _, rfl, .inr (SqT.of hb2), rfl, _, rfl, ?_⟩
        rw [hlen, decide_eq_true rfl]
        refine iteT ⟨_, rfl, _, rfl, a, b, xs, ys, rfl, .inr ⟨SqT.of ha2, SqT.of hb2, fun D nD => ?_⟩⟩
        refine ⟨fun i m H' => i + m = xs.length ∧ Same H2 H' ∧ H' D = some (.lst ((List.replicate i true).map V.bl)), ⟨xs.length, by omega, same_upd nD, upd_same⟩, fun i m H' hW => ?_⟩
        obtain ⟨hm, s2, hD⟩ := hW
        by_cases hi : i < xs.length
        · have hx : xs[i]? = some xs[i] := List.getElem?_eq_getElem hi
          have hy : ys[i]? = some ys[i] := List.getElem?_eq_getElem (by omega)
          refine .inr ⟨⟨_, _, _, _, SqT.of (s2 _ _ ha2), SqT.of (s2 _ _ hb2), hx, hy⟩, fun H'' => Same H2 H'' ∧ H'' D = some (.lst ((List.replicate (i + 1) true).map V.bl)), fun H'' h => ⟨m - 1, by omega, by omega, h⟩, fun v H'' hv => ?_⟩
          obtain ⟨T', x1, y1, rfl, nT, rfl, f1, f2⟩ := hv
          have ex : x1 = xs[i] := Option.some.inj ((f1 _ (SqT.of (s2 _ _ ha2))).symm.trans hx)
          have ey : y1 = ys[i] := Option.some.inj ((f2 _ (SqT.of (s2 _ _ hb2))).symm.trans hy)
          have s3 : Same H' (upd H' T' (.tup [x1, y1])) := same_upd nT
          refine ⟨T', [x1, y1], rfl, .inl (.inl upd_same), rfl, x1, [y1], rfl, y1, [], rfl, rfl, rfl, ?_⟩
          refine ⟨_, rfl, _, rfl, x1, y1, rfl, ?_, fun H4 s4 => ⟨_, s4 _ _ (s3 _ _ hD), ?_, ?_, ?_⟩⟩
          · subst ex ey
            exact Eqd.mono (s1.trans (s2.trans s3)) n' (hsub i _ _ hx hy)
          · rw [List.length_map, List.length_replicate]
            exact small1000 (by omega)
          · intro c o e
            rw [upd_ne (ne_of_none e nD)]
            exact s4 _ _ (s3 _ _ (s2 _ _ e))
          · rw [upd_same, List.replicate_succ', List.map_append]
            rfl
        · have ei : i = xs.length := by omega
          subst ei
          refine .inl ⟨⟨xs, ys, SqT.of (s2 _ _ ha2), SqT.of (s2 _ _ hb2), .inl (Nat.le_refl _)⟩, ?_⟩
          refine ⟨D, _, rfl, .inl (.inl hD), ?_⟩
          have all : ∀ k : Nat, (List.replicate k true).all id = true := fun k => by
            rw [List.all_replicate]
            split <;> rfl
          rw [all]
          exact q _ (s1.trans s2)
theorem ok_same (T : Txt K mg fa fd) : ∀ n : Nat, FnOk P w K mg base CX0 (n + 1) (fa 151) (fd 151) ["_law_found", "_law_due"] (spS n)
  | 0 => none_of_false T.F_same sc_same
  | n + 1 => same_step T n (ok_same T n)
end
/-! ### more of lowest terms -/
theorem lowG_ne {u v : Int} (h : v ≠ 0) : lowG u v ≠ 0 := by
  have h1 := gcd_pos (u := u) h
  unfold lowG
  split <;> omega
theorem lowG_dvd_left (u v : Int) : lowG u v ∣ u := by
  unfold lowG
  split
  · exact Int.neg_dvd.mpr (Int.gcd_dvd_left _ _)
  · exact (Int.gcd_dvd_left _ _)
theorem lowG_dvd_right (u v : Int) : lowG u v ∣ v := by
  unfold lowG
  split
  · exact Int.neg_dvd.mpr (Int.gcd_dvd_right _ _)
  · exact (Int.gcd_dvd_right _ _)
theorem lowT_mul {u v : Int} (h : v ≠ 0) : u = lowG u v * lowT u v := by
  obtain ⟨t, ht⟩ := lowG_dvd_left u v
  unfold lowT
  generalize lowG u v = g at ht ⊢
  have hg : g ≠ 0 ∨ g = 0 := by omega
  rcases hg with hg | hg
  · rw [ht, Int.mul_fdiv_cancel_left _ hg]
  · rw [ht, hg, Int.zero_mul, Int.zero_mul]
theorem lowT_abs {u v : Int} (h : v ≠ 0) : (lowT u v).natAbs ≤ u.natAbs := by
  have e := lowT_mul (u := u) h
  have h2 : u.natAbs = (lowG u v).natAbs * (lowT u v).natAbs := by
    rw [← Int.natAbs_mul, ← e]
  have h3 : 1 ≤ (lowG u v).natAbs := by
    have := lowG_ne (u := u) h
    omega
  calc (lowT u v).natAbs = 1 * (lowT u v).natAbs := (Nat.one_mul _).symm
    _ ≤ (lowG u v).natAbs * (lowT u v).natAbs := Nat.mul_le_mul_right _ h3
    _ = u.natAbs := h2.symm
theorem lowD_mul {u v : Int} (h : v ≠ 0) : v = lowG u v * lowD u v := by
  obtain ⟨t, ht⟩ := lowG_dvd_right u v
  have hg := lowG_ne (u := u) h
  unfold lowD
  generalize lowG u v = g at ht hg ⊢
  rw [ht, Int.mul_fdiv_cancel_left _ hg]
theorem lowD_abs {u v : Int} (h : v ≠ 0) : (lowD u v).natAbs ≤ v.natAbs := by
  have e := lowD_mul (u := u) h
  have h2 : v.natAbs = (lowG u v).natAbs * (lowD u v).natAbs := by
    rw [← Int.natAbs_mul, ← e]
  have h3 : 1 ≤ (lowG u v).natAbs := by
    have := lowG_ne (u := u) h
    omega
  calc (lowD u v).natAbs = 1 * (lowD u v).natAbs := (Nat.one_mul _).symm
    _ ≤ (lowG u v).natAbs * (lowD u v).natAbs := Nat.mul_le_mul_right _ h3
    _ = v.natAbs := h2.symm
theorem lowD_pos {u v : Int} (h : v ≠ 0) : 0 < lowD u v := by
  have e := lowD_mul (u := u) h
  have h1 := gcd_pos (u := u) h
  have key : ∀ g d : Int, v = g * d → (0 < g ∧ 0 < v) ∨ (g < 0 ∧ v < 0) → 0 < d := fun g d ev hh => by
    rcases Int.lt_trichotomy d 0 with hd | hd | hd
    · rcases hh with ⟨h1, h2⟩ | ⟨h1, h2⟩
      · have := Int.mul_neg_of_pos_of_neg h1 hd
        omega
      · have := Int.mul_pos_of_neg_of_neg h1 hd
        omega
    · rw [hd, Int.mul_zero] at ev
      omega
    · exact hd
  refine key _ _ e ?_
  unfold lowG
  split
  · exact .inr ⟨by omega, by assumption⟩
  · exact .inl ⟨by omega, by omega⟩
theorem low_gcd {u v : Int} (hv : v ≠ 0) : Int.gcd (lowT u v) (lowD u v) = 1 := by
  have e1 := lowT_mul (u := u) hv
  have e2 := lowD_mul (u := u) hv
  have hg := gcd_pos (u := u) hv
  have e3 : Int.gcd u v = (lowG u v).natAbs * Int.gcd (lowT u v) (lowD u v) := by
    have : Int.gcd (lowG u v * lowT u v) (lowG u v * lowD u v) = (lowG u v).natAbs * Int.gcd (lowT u v) (lowD u v) := Int.gcd_mul_left _ _ _
    rw [← e1, ← e2] at this
    exact this
  have e4 : (lowG u v).natAbs = Int.gcd u v := by
    unfold lowG
    split <;> omega
  rw [e4] at e3
  have e5 : Int.gcd u v * 1 = Int.gcd u v * Int.gcd (lowT u v) (lowD u v) := by rw [Nat.mul_one]; exact e3
  exact (Nat.eq_of_mul_eq_mul_left hg e5).symm
/-! ### data in the heap -/
mutual
inductive Dt (z : Addr) (H : Hp) : V → PyData → Prop
  | non : Dt z H .non .none
  | bl (b : Bool) : Dt z H (.bl b) (.bool b)
  | int (i : Int) (h : i.natAbs.log2 < 4096) : Dt z H (.int i) (.int i)
  | str (x : Str) (h : x.length ≤ 1000) : Dt z H (.str x) (.str x)
  | lst {a : Addr} {xs : List V} {ds : List PyData} : H a = some (.lst xs) → a ≠ z → DtAll z H xs ds → Dt z H (.ref a) (.list ds)
  | tup {a : Addr} {xs : List V} {ds : List PyData} : H a = some (.tup xs) → DtAll z H xs ds → Dt z H (.ref a) (.tuple ds)
inductive DtAll (z : Addr) (H : Hp) : List V → List PyData → Prop
  | nil : DtAll z H [] []
  | cons {v : V} {vs : List V} {d : PyData} {ds : List PyData} : Dt z H v d → DtAll z H vs ds → DtAll z H (v :: vs) (d :: ds)
end
mutual
theorem Dt.via {z : Addr} {H H' : Hp} (s : ∀ a o, H a = some o → ((∃ xs, o = .lst xs) ∧ a ≠ z) ∨ (∃ xs, o = .tup xs) → H' a = some o) : ∀ (d : PyData) (v : V), Dt z H v d → Dt z H' v d
  | .none, _, h => by cases h; exact .non
  | .bool _, _, h => by cases h; exact .bl _
  | .int _, _, h => by
    cases h with
    | int _ hb => exact .int _ hb
  | .str _, _, h => by
    cases h with
    | str _ hx => exact .str _ hx
  | .list ds, _, h => by
    cases h with
    | lst h1 hz h2 => exact .lst (s _ _ h1 (.inl ⟨⟨_, rfl⟩, hz⟩)) hz (DtAll.via s ds _ h2)
  | .tuple ds, _, h => by
    cases h with
    | tup h1 h2 => exact .tup (s _ _ h1 (.inr ⟨_, rfl⟩)) (DtAll.via s ds _ h2)
  | .dict _, _, h => by cases h
theorem DtAll.via {z : Addr} {H H' : Hp} (s : ∀ a o, H a = some o → ((∃ xs, o = .lst xs) ∧ a ≠ z) ∨ (∃ xs, o = .tup xs) → H' a = some o) : ∀ (ds : List PyData) (vs : List V), DtAll z H vs ds → DtAll z H' vs ds
  | [], _, h => by cases h; exact .nil
  | d :: ds, _, h => by
    cases h with
    | cons h1 h2 => exact .cons (Dt.via s d _ h1) (DtAll.via s ds _ h2)
end
theorem Dt.same {z : Addr} {H H' : Hp} {v : V} {d : PyData} (h : Dt z H v d) (s : Same H H') : Dt z H' v d := Dt.via (fun a o e _ => s a o e) d v h
theorem DtAll.same {z : Addr} {H H' : Hp} {vs : List V} {ds : List PyData} (h : DtAll z H vs ds) (s : Same H H') : DtAll z H' vs ds := DtAll.via (fun a o e _ => s a o e) ds vs h
theorem DtAll.len {z : Addr} {H : Hp} : ∀ {vs : List V} {ds : List PyData}, DtAll z H vs ds → vs.length = ds.length
  | _, _, .nil => rfl
  | _, _, .cons _ h => congrArg (· + 1) (DtAll.len h)
mutual
theorem Dt.dp {K : PySem.W.Frag} {z : Addr} {H : Hp} : ∀ (d : PyData) (v : V), Dt z H v d → Dp K H v d
  | .none, _, h => by cases h; exact .non
  | .bool _, _, h => by cases h; exact .bl _
  | .int _, _, h => by cases h; exact .int _
  | .str _, _, h => by cases h; exact .str _
  | .list ds, _, h => by
    cases h with
    | lst h1 _ h2 => exact .lst (SqL.of h1) (DtAll.dp ds _ h2)
  | .tuple ds, _, h => by
    cases h with
    | tup h1 h2 => exact .tup (SqT.of h1) (DtAll.dp ds _ h2)
  | .dict _, _, h => by cases h
theorem DtAll.dp {K : PySem.W.Frag} {z : Addr} {H : Hp} : ∀ (ds : List PyData) (vs : List V), DtAll z H vs ds → DpAll K H vs ds
  | [], _, h => by cases h; exact .nil
  | d :: ds, _, h => by
    cases h with
    | cons h1 h2 => exact .cons (Dt.dp d _ h1) (DtAll.dp ds _ h2)
end
theorem Dt.but {z : Addr} {H H' : Hp} {v : V} {d : PyData} {c : Addr} (hF : FeedOk H z c) (b : But z H H') (h : Dt z H v d) : Dt z H' v d := by
  obtain ⟨ns, k, big, mark, ha, _⟩ := hF
  refine Dt.via (fun p o e g => b p o ?_ e) d v h
  rcases g with ⟨_, g⟩ | ⟨xs, rfl⟩
  · exact g
  · exact ne_of e ha (by intro z; cases z)
theorem dnewT {z : Addr} {H : Hp} {p : Addr} {vs : List V} {ds : List PyData} (n : H p = none) (h : DtAll z H vs ds) : Same H (upd H p (.tup vs)) ∧ Dt z (upd H p (.tup vs)) (.ref p) (.tuple ds) :=
  ⟨same_upd n, .tup upd_same (h.same (same_upd n))⟩
theorem dnewL {z : Addr} {H : Hp} {p : Addr} {vs : List V} {ds : List PyData} (n : H p = none) (hz : p ≠ z) (h : DtAll z H vs ds) : Same H (upd H p (.lst vs)) ∧ Dt z (upd H p (.lst vs)) (.ref p) (.list ds) :=
  ⟨same_upd n, .lst upd_same hz (h.same (same_upd n))⟩
theorem drow {z : Addr} {H : Hp} {p : Addr} {vs : List V} {ds : List PyData} (n : H p = none) (h : DtAll z H vs ds) : Same H (upd H p (.lst vs)) ∧ DtAll z (upd H p (.lst vs)) vs ds ∧ (upd H p (.lst vs)) p = some (.lst vs) :=
  ⟨same_upd n, h.same (same_upd n), upd_same⟩
theorem DtAll.mem {z : Addr} {H : Hp} : ∀ {vs : List V} {ds : List PyData} {v : V}, DtAll z H vs ds → v ∈ vs → ∃ d, d ∈ ds ∧ Dt z H v d
  | _, _, _, .cons (d := d) h r, e => by
    rcases List.mem_cons.mp e with rfl | e
    · exact ⟨d, List.mem_cons_self, h⟩
    · obtain ⟨d', h1, h2⟩ := DtAll.mem r e
      exact ⟨d', List.mem_cons_of_mem _ h1, h2⟩
def tagD : PyData → String
  | .none => "NoneType"
  | .bool _ => "bool"
  | .int _ => "int"
  | .str _ => "str"
  | .list _ => "list"
  | .tuple _ => "tuple"
  | .dict _ => "dict"
theorem Dt.ty {K : PySem.W.Frag} {z : Addr} {H : Hp} {v : V} {d : PyData} (h : Dt z H v d) : TyOf K H v (.type (tagD d)) := by
  cases h with
  | non => exact .non
  | bl b => exact .bl b
  | int i _ => exact .int i
  | str x _ => exact .str x
  | lst h _ _ => exact .lst h
  | tup h _ => exact .tup h
def isTup : PyData → Bool
  | .tuple _ => true
  | _ => false
def isTxt : PyData → Bool
  | .str _ => true
  | _ => false
def isInt : PyData → Bool
  | .int _ => true
  | _ => false
theorem kitTup {d : PyData} : kitB (tagD d) "tuple" = some (isTup d) := by cases d <;> rfl
theorem kitTxt {d : PyData} : kitB (tagD d) "str" = some (isTxt d) := by cases d <;> rfl
theorem Dt.split {z : Addr} {H : Hp} {v : V} {d : PyData} (h : Dt z H v d) : isTup d = false ∨ ∃ a xs ds, v = .ref a ∧ d = .tuple ds ∧ H a = some (.tup xs) ∧ DtAll z H xs ds := by
  cases h with
  | tup h1 h2 => exact .inr ⟨_, _, _, rfl, rfl, h1, h2⟩
  | non => exact .inl rfl
  | bl b => exact .inl rfl
  | int i _ => exact .inl rfl
  | str x _ => exact .inl rfl
  | lst h _ _ => exact .inl rfl
/-! ### what is a name, a fraction, a tie -/
def nameD : PyData → Bool
  | .str x => nameB x.cps.toList
  | _ => false
def ratD : PyData → Bool
  | .tuple [.int t, .int u] => decide (1 ≤ u) && decide (Int.gcd t u = 1)
  | _ => false
def nonz : PyData → Bool
  | .tuple (.int t :: _) => decide (t ≠ 0)
  | _ => false
def termD : PyData → Bool
  | .tuple [n, r] => nameD n && ratD r && nonz r
  | _ => false
def ltD : PyData → PyData → Bool
  | .tuple (.str x :: _), .tuple (.str y :: _) => decide (x.cps.toList < y.cps.toList)
  | _, _ => false
def termsD : PyData → Bool
  | .tuple [s] => termD s
  | .tuple [s, t] => termD s && termD t && ltD s t
  | _ => false
def tieD : PyData → Bool
  | .tuple [t, b] => termsD t && ratD b
  | _ => false
mutual
def noL : PyData → Bool
  | .list _ => false
  | .dict _ => false
  | .tuple ds => noLs ds
  | _ => true
def noLs : List PyData → Bool
  | [] => true
  | d :: ds => noL d && noLs ds
end
/-- tuples stay -/
def TT (H H' : Hp) : Prop := ∀ p xs, H p = some (.tup xs) → H' p = some (.tup xs)
theorem TT.of {H H' : Hp} (s : Same H H') : TT H H' := fun p _ e => s p _ e
theorem TT.but {a c : Addr} {H H' : Hp} (hF : FeedOk H a c) (b : But a H H') : TT H H' := fun p xs e => by
  obtain ⟨ns, k, big, mark, ha, _⟩ := hF
  exact b p _ (ne_of e ha (by intro z; cases z)) e
theorem TT.upd {H : Hp} {D : Addr} {ys zs : List V} (hD : H D = some (.lst ys)) : TT H (L2.upd H D (.lst zs)) := fun p xs e => by
  rw [upd_ne (ne_of e hD (by intro z; cases z))]
  exact e
theorem TT.trans {H H1 H2 : Hp} (h : TT H H1) (k : TT H1 H2) : TT H H2 := fun p xs e => k p xs (h p xs e)
mutual
theorem Dt.tups {z z' : Addr} {H H' : Hp} (s : TT H H') : ∀ (d : PyData) (v : V), noL d = true → Dt z H v d → Dt z' H' v d
  | .none, _, _, h => by cases h; exact .non
  | .bool _, _, _, h => by cases h; exact .bl _
  | .int _, _, _, h => by
    cases h with
    | int _ hb => exact .int _ hb
  | .str _, _, _, h => by
    cases h with
    | str _ hx => exact .str _ hx
  | .list ds, _, n, h => by
    unfold noL at n
    cases n
  | .tuple ds, _, n, h => by
    unfold noL at n
    cases h with
    | tup h1 h2 => exact .tup (s _ _ h1) (DtAll.tups s ds _ n h2)
  | .dict _, _, n, h => by cases h
theorem DtAll.tups {z z' : Addr} {H H' : Hp} (s : TT H H') : ∀ (ds : List PyData) (vs : List V), noLs ds = true → DtAll z H vs ds → DtAll z' H' vs ds
  | [], _, _, h => by cases h; exact .nil
  | d :: ds, _, n, h => by
    unfold noLs at n
    rw [Bool.and_eq_true] at n
    cases h with
    | cons h1 h2 => exact .cons (Dt.tups s d _ n.1 h1) (DtAll.tups s ds _ n.2 h2)
end
theorem DtAll.snoc {z : Addr} {H : Hp} : ∀ {vs : List V} {ds : List PyData} {v : V} {d : PyData}, DtAll z H vs ds → Dt z H v d → DtAll z H (vs ++ [v]) (ds ++ [d])
  | _, _, _, _, .nil, k => .cons k .nil
  | _, _, _, _, .cons h r, k => .cons h (DtAll.snoc r k)
theorem ratD_inv {d : PyData} (h : ratD d = true) : ∃ t u, d = .tuple [.int t, .int u] := by
  unfold ratD at h
  split at h
  · exact ⟨_, _, rfl⟩
  · cases h
theorem DtAll.at {z : Addr} {H : Hp} : ∀ {vs : List V} {ds : List PyData} (i : Nat) {x : V}, DtAll z H vs ds → vs[i]? = some x → ∃ d, ds[i]? = some d ∧ Dt z H x d
  | _, _, 0, _, .cons h _, e => ⟨_, rfl, by cases e; exact h⟩
  | _, _, i + 1, _, .cons _ h, e => DtAll.at i h e
def smallR : PyData → Bool
  | .tuple [.int t, .int u] => decide (t.natAbs ≤ 5 ∧ u.natAbs ≤ 3)
  | _ => false
def okR (r : PyData) : Prop := ratD r = true ∧ nonz r = true ∧ smallR r = true
theorem okR.noL {r : PyData} (h : okR r) : noL r = true := by
  obtain ⟨t, u, rfl⟩ := ratD_inv h.1
  rfl
abbrev trm1 (t : Str × PyData) : PyData := .tuple [.str t.1, t.2]
theorem noLs_trms : ∀ {ts : List (Str × PyData)}, (∀ t ∈ ts, okR t.2) → noLs (ts.map trm1) = true
  | [], _ => rfl
  | t :: ts, h => by
    have h1 := (h t List.mem_cons_self).noL
    have h2 := noLs_trms fun u hu => h u (List.mem_cons_of_mem _ hu)
    show (((true && (noL t.2 && true)) && noLs (ts.map trm1)) = true)
    rw [h1, h2]
    rfl
/-- terms: names and rates -/
abbrev trmD (ts : List (Str × PyData)) : PyData := .tuple (ts.map fun t => .tuple [.str t.1, t.2])
theorem tie_inv {z : Addr} {H : Hp} {v : V} {dd : List PyData} {b : PyData} (hv : Dt z H v (.tuple [.tuple dd, b])) : ∃ p t y xs, v = .ref p ∧ H p = some (.tup [.ref t, y]) ∧ H t = some (.tup xs) ∧ DtAll z H xs dd ∧ Dt z H y b := by
  match v, hv with
  | _, .tup hp (.cons (.tup ht hts) (.cons hb .nil)) => exact ⟨_, _, _, _, rfl, hp, ht, hts, hb⟩
theorem trm_inv {z : Addr} {H : Hp} {xs : List V} {n : Str} {r : PyData} {ds : List PyData} (h : DtAll z H xs (.tuple [.str n, r] :: ds)) : ∃ e rv xs', xs = .ref e :: xs' ∧ H e = some (.tup [.str n, rv]) ∧ Dt z H rv r := by
  match xs, h with
  | _, .cons (.tup he (.cons (.str _ _) (.cons hr .nil))) _ => exact ⟨_, _, _, rfl, he, hr⟩
/-! ### names in order -/
theorem S_of (x : Str) : SX.S x.cps.toList = x := by
  cases x
  rfl
theorem lt_tri : ∀ (x y : List Nat), ltCps y x = false → x ≠ y → ltCps x y = true
  | [], [], _, h => absurd rfl h
  | [], _ :: _, _, _ => rfl
  | _ :: _, [], h, _ => by cases h
  | a :: r, b :: t, h, n => by
    unfold ltCps at h ⊢
    rw [Bool.or_eq_false_iff, decide_eq_false_iff_not, Bool.and_eq_false_iff] at h
    rw [Bool.or_eq_true, decide_eq_true_eq, Bool.and_eq_true, beq_iff_eq]
    by_cases e : a = b
    · subst e
      refine .inr ⟨rfl, lt_tri r t ?_ fun z => n (by rw [z])⟩
      rcases h.2 with h | h
      · simp at h
      · exact h
    · exact .inl (by omega)
theorem sorted_two {x y : Str} (h : sortedS [x, y] = true) (n : x ≠ y) : decide (x.cps.toList < y.cps.toList) = true := by
  have h : (!ltCps y.cps.toList x.cps.toList && true) = true := h
  rw [Bool.and_true, Bool.not_eq_true'] at h
  rw [lt_meets]
  refine lt_tri _ _ h fun z => n ?_
  rw [← S_of x, ← S_of y, z]
theorem S_list (a : List Nat) : (SX.S a).cps.toList = a := by simp [SX.S]
section
variable {P : Program} {w : World} {K : PySem.W.Frag} {mg : Str → Option Value} {base : Heap} {fa : Nat → Addr} {fd : Nat → FuncData}
/-! ### InvalidRatio's making; common_divisor; ratio -/
theorem scI : FnScope ["self", "given"] ["self", "given"] (defScope (inClass (topS 3) 0)) := ⟨rfl, rfl, rfl, by decide +kernel, rfl, by decide +kernel, by decide +kernel⟩
theorem ok_InvalidRatio (T : Txt K mg fa fd) : FnOk P w K mg base CX0 1 (fa 1003) (fd 1003) ["self", "given"] (spInit1 K "given" "InvalidRatio") := by
  refine T.IInvalidRatio.ok scI (fun vs H Q E h => ?_) (fun cdv A outer s H vs Q E hr h => ?_)
  · obtain ⟨a, C, v, rfl, _⟩ := h
    rfl
  · obtain ⟨a, C, v, rfl, hC, h1, h2, ha, q⟩ := h
    refine ⟨_, pss_cons (ps_ost (pv 0) (pv 1)) (pss_one (ps_ost (pv 0) pe_str)), ?_⟩
    refine ⟨_, rfl, _, rfl, a, C, rfl, hC, h1, .inl ⟨ha, fun dx nd ne => ?_⟩⟩
    refine ⟨_, rfl, a, C, rfl, hC, h2, .inr ⟨dx, _, upd_same, ?_, by show 1 ≤ 900; decide, q dx nd ne⟩⟩
    rw [upd_ne ne, upd_same]
abbrev Bd (t : Int) : Prop := t.natAbs.log2 < 4096
theorem bits_bd {v : Nat} (h : v.log2 < 4096) : ¬ ((4096 : Int) < ((Builtin.Int.intBits (v : Int) : Nat) : Int)) := by
  unfold Builtin.Int.intBits
  rw [Int.natAbs_natCast]
  split <;> omega
def spDiv : Sp := fun vs H Q _ => ∃ x y : Int, vs = [.int x, .int y] ∧ (Bd x ∨ Bd y) ∧ Q (.int (Int.gcd x y : Nat)) H
theorem ok_p_common_divisor (T : Txt K mg fa fd) : FnOk P w K mg base CX0 1 (fa 20) (fd 20) ["one", "other"] spDiv := by
  refine T.F_p_common_divisor.ok sc_p_common_divisor (fun vs H Q E h => ?_) (fun cdv A outer s H vs Q E hr h => ?_)
  · obtain ⟨x, y, rfl, _⟩ := h
    rfl
  · obtain ⟨x, y, rfl, hb, q⟩ := h
    refine ⟨_, (pss_cons (ps_set (i := 0) sc_p_common_divisor.nd rfl (.inl rfl) (pe_callB call_abs (by rfl) T.m_abs PyProof.Rows.boot_abs (pa_cons (pv 0) pa_nil)))
      (pss_cons (ps_set (i := 1) sc_p_common_divisor.nd rfl (.inl rfl) (pe_callB call_abs (by rfl) T.m_abs PyProof.Rows.boot_abs (pa_cons (pv 1) pa_nil)))
      (C8.pss_cut (ps_if (pt_cmpR op_lt (pv 0) (pv 1) (nomark _)) (pss_one (ps_par (i := 0) (j := 1) (by rfl) sc_p_common_divisor.nd rfl rfl (by decide) rfl rfl (pa_cons (pv 1) (pa_cons (pv 0) pa_nil)) (by rfl))) pss_nil)
      (pss_cons (ps_while PassesOwn.never (pt_cmpR op_gt (pe_bits (pv 1)) (C8.pe_gc (by rfl) T.c_LONG) (nomark _)) (pss_one ps_never))
      (pss_cons (ps_while PassesOwn.never (pt_cmpR op_gt (pv 1) pe_int (nomark _)) (pss_one (ps_par (i := 0) (j := 1) (by rfl) sc_p_common_divisor.nd rfl rfl (by decide) rfl rfl (pa_cons (pv 1) (pa_cons (pe_op op_mod (pv 0) (pv 1)) pa_nil)) (by rfl))))
      (pss_one (ps_ret (pv 0)))))))), ?_⟩
    refine ⟨_, rfl, _, rfl, _, rfl, _, rfl, ?_⟩
    have ab : ∀ z : Int, (if z < 0 then -z else z) = (z.natAbs : Int) := fun z => by split <;> omega
    rw [ab, ab]
    refine ⟨fun σ H1 => H1 = H ∧ ∃ u v : Nat, σ = [some (.int (u : Int)), some (.int (v : Int))] ∧ v.log2 < 4096 ∧ Nat.gcd u v = Int.gcd x y, ?_, fun σ H1 hM => ?_⟩
    · refine ⟨_, rfl, _, rfl, _, _, rfl, rfl, _, rfl, ite2 (fun e => ?_) (fun e => ?_)⟩
      · have lt : (x.natAbs : Int) < (y.natAbs : Int) := of_decide_eq_true e
        refine ⟨_, rfl, _, rfl, _, _, rfl, rfl, y.natAbs, x.natAbs, rfl, ?_, Nat.gcd_comm _ _⟩
        rcases hb with hb | hb
        · exact hb
        · exact log2_mono (by omega) hb
      · have ge : ¬ (x.natAbs : Int) < (y.natAbs : Int) := fun z => e (decide_eq_true z)
        refine ⟨rfl, x.natAbs, y.natAbs, rfl, ?_, rfl⟩
        rcases hb with hb | hb
        · exact log2_mono (by omega) hb
        · exact hb
    obtain ⟨rfl, u0, v0, rfl, hv0, hg0⟩ := hM
    refine ⟨fun m σ H2 => σ = [some (.int (u0 : Int)), some (.int (v0 : Int))] ∧ H2 = H1, ⟨0, rfl, rfl⟩, fun m σ H2 hW => ?_⟩
    obtain ⟨rfl, rfl⟩ := hW
    refine ⟨_, rfl, _, rfl, _, _, rfl, rfl, _, rfl, ite2 (fun e => absurd (of_decide_eq_true e) (bits_bd hv0)) (fun _ => ?_)⟩
    refine ⟨fun m σ H1 => ∃ u v : Nat, m = v ∧ σ = [some (.int (u : Int)), some (.int (v : Int))] ∧ H1 = H2 ∧ Nat.gcd u v = Int.gcd x y, ⟨_, u0, v0, rfl, rfl, rfl, hg0⟩, fun m σ H1 hW => ?_⟩
    obtain ⟨u, v, rfl, rfl, rfl, hg⟩ := hW
    refine ⟨_, rfl, _, _, rfl, rfl, _, rfl, ite2 (fun e => ?_) (fun e => ?_)⟩
    · have hv : 0 < (m : Int) := of_decide_eq_true e
      refine ⟨fun σ' H' => ∃ m', m' < m ∧ ∃ u v : Nat, m' = v ∧ σ' = [some (.int (u : Int)), some (.int (v : Int))] ∧ H' = H1 ∧ Nat.gcd u v = Int.gcd x y, fun σ' H' h => h, ?_⟩
      refine ⟨_, rfl, _, rfl, _, rfl, _, _, rfl, rfl, hv, ?_⟩
      refine ⟨_, _, rfl, u % m, Nat.mod_lt _ (by omega), m, u % m, rfl, rfl, rfl, ?_⟩
      rw [← hg, Nat.gcd_comm m, ← Nat.gcd_rec, Nat.gcd_comm]
    · have hv : m = 0 := by
        have : ¬ 0 < (m : Int) := fun z => e (decide_eq_true z)
        omega
      subst hv
      refine ⟨_, rfl, ?_⟩
      rw [Nat.gcd_zero_right] at hg
      rw [hg]
      exact q
def spRatio (C : Addr) : Sp := fun vs H Q E => ∃ u v : Int, vs = [.int u, .int v] ∧ (v ≠ 0 → v.natAbs.log2 < 4096 ∧ ∀ p, H p = none → Q (.ref p) (upd H p (.tup [.int (lowT u v), .int (lowD u v)]))) ∧
  (v = 0 → ∀ d H', H d = none → Same H H' → H' d = some (.xd [("tag", .str "InvalidRatio"), ("given", .int 0)]) → E (.ref C) (some d) H')
theorem ok_p_ratio (T : Txt K mg fa fd) : FnOk P w K mg base (L2.CX P w) 3 (fa 21) (fd 21) ["top", "under"] (spRatio (fa 3)) := by
  refine T.F_p_ratio.ok sc_p_ratio (fun vs H Q E h => ?_) (fun cdv A outer s H vs Q E hr h => ?_)
  · obtain ⟨x, y, rfl, _⟩ := h
    rfl
  · obtain ⟨u, v, rfl, h1, h0⟩ := h
    refine ⟨_, (pss_cons (ps_if (pt_cmpR op_eq (pv 1) pe_int (nomark _)) (pss_one (ps_raise rfl (takes_of rfl rfl rfl rfl) (pmk_oex T.eInvalidRatio.oex T.eInvalidRatio.iC T.eInvalidRatio.tI (ok_InvalidRatio T) (hr.mono (by decide)) T.bIInvalidRatio .nil pass0 (by rfl) T.eInvalidRatio.gC (pa_cons pe_int pa_nil)))) pss_nil)
      (pss_cons (ps_set (i := 2) sc_p_ratio.nd rfl (.inl rfl) (pe_call (ok_p_common_divisor T) (hr.mono (by decide)) (by rfl) T.g_p_common_divisor T.F_p_common_divisor.kp T.b_p_common_divisor .nil pass0 (pa_cons (pv 0) (pa_cons (pv 1) pa_nil))))
      (C8.pss_cut (ps_if (pt_cmpR op_lt (pv 1) pe_int (nomark _)) (pss_one (ps_set (i := 2) sc_p_ratio.nd rfl (.inl rfl) (pe_un un_neg (pv 2)))) pss_nil)
      (pss_one (ps_ret (pe_tup (pa_cons (pe_op op_fdivG (pv 0) (pv 2)) (pa_cons (pe_op op_fdivG (pv 1) (pv 2)) pa_nil)))))))), ?_⟩
    refine ⟨_, rfl, rfl, _, rfl, ite2 (fun e => ?_) (fun e => ?_)⟩
    · have ev : v = 0 := V.int.inj (of_decide_eq_true e)
      refine ⟨by show 1 ≤ 1000; decide, fun a na => ⟨a, _, .int 0, rfl, T.eInvalidRatio.oex, T.nInvalidRatio_given, T.eInvalidRatio.tag, upd_same, fun dx nd ne => ⟨rfl, dx, _, ?_, upd_same, ?_, ?_⟩⟩⟩
      · rw [upd_ne ne.symm, upd_same]
      · rw [upd_ne ne] at nd
        exact nd
      · have nd' : H dx = none := by
          rw [upd_ne ne] at nd
          exact nd
        refine h0 ev dx _ nd' (Same.del na nd' fun b o hb q => ?_) upd_same
        rw [upd_ne (ne_of_none q nd'), upd_ne hb, upd_ne (ne_of_none q nd'), upd_ne hb]
        exact q
    · have ev : v ≠ 0 := fun z => e (decide_eq_true (by rw [z]))
      obtain ⟨h9, q⟩ := h1 ev
      refine ⟨_, rfl, _, rfl, u, v, rfl, .inr h9, ?_⟩
      refine ⟨fun σ H1 => H1 = H ∧ σ = [some (.int u), some (.int v), some (.int (lowG u v))], ?_, fun σ H1 hM => ?_⟩
      · refine ⟨_, rfl, _, _, rfl, rfl, _, rfl, ite2 (fun e => ?_) (fun e => ?_)⟩
        · refine ⟨_, rfl, _, rfl, rfl, ?_⟩
          unfold lowG
          rw [if_pos (of_decide_eq_true e)]
          rfl
        · refine ⟨rfl, ?_⟩
          unfold lowG
          rw [if_neg (fun z => e (decide_eq_true z))]
          rfl
      · obtain ⟨rfl, rfl⟩ := hM
        have hG := lowG_ok (u := u) ev h9
        exact ⟨_, rfl, _, rfl, _, _, rfl, rfl, hG, _, rfl, _, rfl, _, _, rfl, rfl, hG, two_line, q⟩
end
/-! ### texts of fractions: the plain mathematics -/
abbrev dig (c : Nat) : Bool := decide (48 ≤ c) && decide (c ≤ 57)
def isD (a : List Nat) : Bool := !a.isEmpty && a.all dig
def bodyM : List Nat → Bool
  | 45 :: _ => true
  | _ => false
def bodyL : List Nat → List Nat
  | 45 :: r => r
  | a => a
def cutL (a : List Nat) : List Nat × Bool × List Nat := match TL.par [47] [] a with
  | some (p, q) => (p, true, q)
  | none => (a, false, [])
def txtL (n d : Int) : List Nat := (if n < 0 then [45] else []) ++ (TL.numL n.natAbs ++ (if d = 1 then [] else 47 :: TL.numL d.natAbs))
def progN (t : List Nat) : Int := if bodyM t then -((NumText.digitsVal (cutL (bodyL t)).1 : Nat) : Int) else (NumText.digitsVal (cutL (bodyL t)).1 : Nat)
def progD (t : List Nat) : Int := if (cutL (bodyL t)).2.1 then ((NumText.digitsVal (cutL (bodyL t)).2.2 : Nat) : Int) else 1
def progR (t : List Nat) : Option (Int × Int) :=
  if !isD (cutL (bodyL t)).1 || ((cutL (bodyL t)).2.1 && !isD (cutL (bodyL t)).2.2) then none
  else if progD t = 0 then none
  else if txtL (lowT (progN t) (progD t)) (lowD (progN t) (progD t)) = t then some (lowT (progN t) (progD t), lowD (progN t) (progD t)) else none
def goodW (p : List Nat) : Bool := isD p && !(decide (1 < p.length) && p.head? == some 48)
def lawR (t : List Nat) : Option (Int × Int) :=
  if !goodW (cutL (bodyL t)).1 || ((cutL (bodyL t)).2.1 && !goodW (cutL (bodyL t)).2.2) then none
  else if ((cutL (bodyL t)).2.1 = true ∧ progD t < 2 ∨ Int.gcd (progN t) (progD t) ≠ 1) ∨ bodyM t = true ∧ progN t = 0 then none
  else some (progN t, progD t)
theorem gcd_low {u v : Int} (h : v ≠ 0) : Int.gcd (lowT u v) (lowD u v) = 1 := by
  have e1 := lowT_mul (u := u) h
  have e2 := lowD_mul (u := u) h
  have g0 := gcd_pos (u := u) h
  have e : Int.gcd u v = (lowG u v).natAbs * Int.gcd (lowT u v) (lowD u v) := by
    rw [← Int.gcd_mul_left, ← e1, ← e2]
  have hg : (lowG u v).natAbs = Int.gcd u v := by
    unfold lowG
    split <;> omega
  rw [hg] at e
  generalize Int.gcd (lowT u v) (lowD u v) = m at e
  generalize Int.gcd u v = g at e g0
  have : g * 1 = g * m := by rw [Nat.mul_one]; exact e
  exact (Nat.eq_of_mul_eq_mul_left g0 this).symm
theorem low_one {u v : Int} (h : 0 < v) (g : Int.gcd u v = 1) : lowT u v = u ∧ lowD u v = v := by
  have hG : lowG u v = 1 := by
    unfold lowG
    rw [if_neg (by omega), g]
    rfl
  unfold lowT lowD
  rw [hG]
  exact ⟨Int.fdiv_one u, Int.fdiv_one v⟩
theorem all_dig {a : List Nat} : a.all dig = true ↔ NumText.AllDigits a := by
  rw [List.all_eq_true]
  constructor
  · intro h c hc
    have z := h c hc
    unfold dig at z
    rw [Bool.and_eq_true, decide_eq_true_eq, decide_eq_true_eq] at z
    exact z
  · intro h c hc
    have z := h c hc
    unfold dig
    rw [Bool.and_eq_true, decide_eq_true_eq, decide_eq_true_eq]
    exact z
theorem isD_num (n : Nat) : isD (TL.numL n) = true := by
  unfold isD
  rw [Bool.and_eq_true]
  refine ⟨?_, all_dig.mpr (TL.numL_digits n)⟩
  have h := TL.numL_ne n
  cases e : TL.numL n with
  | nil => exact absurd e h
  | cons c r => rfl
theorem isD_iff {a : List Nat} : isD a = true ↔ a ≠ [] ∧ NumText.AllDigits a := by
  unfold isD
  rw [Bool.and_eq_true, all_dig]
  cases a with
  | nil => simp
  | cons c r => simp
theorem nat_char {c : Nat} (h : 48 ≤ c ∧ c ≤ 57) : (Char.ofNat c).toNat = c := by
  have : ∀ c : Nat, c ≤ 57 → 48 ≤ c → (Char.ofNat c).toNat = c := by decide
  exact this c h.2 h.1
theorem num_good {p : List Nat} (h : goodW p = true) : TL.numL (NumText.digitsVal p) = p := by
  unfold goodW at h
  rw [Bool.and_eq_true, isD_iff] at h
  obtain ⟨⟨h1, h2⟩, h3⟩ := h
  have back : ∀ l : List Nat, NumText.AllDigits l → (l.map Char.ofNat).map Char.toNat = l := fun l hl => by
    rw [List.map_map]
    conv => rhs; rw [← List.map_id l]
    exact List.map_congr_left fun c hc => nat_char (hl c hc)
  unfold TL.numL
  rw [NumText.toDigits_all p h2]
  cases p with
  | nil => exact absurd rfl h1
  | cons c r =>
    by_cases e : c = 48
    · subst e
      cases r with
      | nil => rfl
      | cons d r =>
        simp at h3
    · rw [List.dropWhile_cons, if_neg (by rw [beq_iff_eq]; exact e)]
      exact back (c :: r) h2
theorem numL_zero : TL.numL 0 = [48] := TL.numL_lt (by decide)
theorem numL_head {n : Nat} (h : 0 < n) : ∀ c r, TL.numL n = c :: r → 49 ≤ c := by
  induction n using Nat.strongRecOn with
  | _ n ih =>
    intro c r e
    by_cases hn : n < 10
    · rw [TL.numL_lt hn] at e
      injection e with e1 e2
      omega
    · rw [TL.numL_step (by omega)] at e
      cases e2 : TL.numL (n / 10) with
      | nil => exact absurd e2 (TL.numL_ne _)
      | cons c' r' =>
        rw [e2, List.cons_append] at e
        injection e with e3 e4
        have := ih (n / 10) (by omega) (by omega) c' r' e2
        omega
theorem good_num (n : Nat) : goodW (TL.numL n) = true := by
  unfold goodW
  rw [Bool.and_eq_true]
  refine ⟨isD_num n, ?_⟩
  by_cases h : n = 0
  · subst h
    rw [numL_zero]
    rfl
  · cases e : TL.numL n with
    | nil => exact absurd e (TL.numL_ne n)
    | cons c r =>
      have := numL_head (Nat.pos_of_ne_zero h) c r e
      have : (List.head? (c :: r) == some 48) = false := by
        show (some c == some 48) = false
        rw [beq_eq_false_iff_ne]
        intro z
        injection z with z
        omega
      rw [this]
      simp
theorem body_at (t : List Nat) : t = (if bodyM t then [45] else []) ++ bodyL t := by
  unfold bodyM bodyL
  split <;> simp_all
theorem body_minus (b : List Nat) : bodyM (45 :: b) = true ∧ bodyL (45 :: b) = b := ⟨rfl, rfl⟩
theorem body_num (n : Nat) (r : List Nat) : bodyM (TL.numL n ++ r) = false ∧ bodyL (TL.numL n ++ r) = TL.numL n ++ r := by
  cases e : TL.numL n with
  | nil => exact absurd e (TL.numL_ne n)
  | cons c l =>
    have hc : c ≠ 45 := by
      intro z
      have := TL.numL_free (n := n) (s := 45) (.inl (by decide))
      rw [e, z] at this
      exact this List.mem_cons_self
    rw [List.cons_append]
    unfold bodyM bodyL
    constructor
    · split
      · rename_i h
        injection h with h1 h2
        exact absurd h1 hc
      · rfl
    · split
      · rename_i h
        injection h with h1 h2
        exact absurd h1 hc
      · rfl
theorem cut_at (a : List Nat) : a = (cutL a).1 ++ (if (cutL a).2.1 then 47 :: (cutL a).2.2 else []) := by
  by_cases h : 47 ∈ a
  · obtain ⟨p, q, e, hp⟩ := List.eq_append_cons_of_mem h
    subst e
    have := SX.par_head (sep := []) q hp
    unfold cutL
    rw [show p ++ 47 :: q = p ++ (47 :: [] ++ q) from rfl, this]
    rfl
  · have := SX.par_head_none (c := 47) (sep := []) h
    unfold cutL
    rw [this]
    simp
theorem cut_num (n : Nat) : cutL (TL.numL n) = (TL.numL n, false, []) := by
  have := SX.par_head_none (c := 47) (sep := []) (p := TL.numL n) (TL.numL_free (.inl (by decide)))
  unfold cutL
  rw [this]
theorem cut_num2 (n : Nat) (q : List Nat) : cutL (TL.numL n ++ 47 :: q) = (TL.numL n, true, q) := by
  have := SX.par_head (c := 47) (sep := []) (p := TL.numL n) q (TL.numL_free (.inl (by decide)))
  unfold cutL
  rw [show TL.numL n ++ 47 :: q = TL.numL n ++ (47 :: [] ++ q) from rfl, this]
theorem parse_txt (n d : Int) (hd : 0 < d) : bodyM (txtL n d) = decide (n < 0) ∧ (cutL (bodyL (txtL n d))).1 = TL.numL n.natAbs ∧ (cutL (bodyL (txtL n d))).2.1 = decide (d ≠ 1) ∧ (d ≠ 1 → (cutL (bodyL (txtL n d))).2.2 = TL.numL d.natAbs) := by
  have hb : bodyM (txtL n d) = decide (n < 0) ∧ bodyL (txtL n d) = TL.numL n.natAbs ++ (if d = 1 then [] else 47 :: TL.numL d.natAbs) := by
    unfold txtL
    by_cases h : n < 0
    · rw [if_pos h, decide_eq_true h]
      exact body_minus _
    · rw [if_neg h, decide_eq_false h, List.nil_append]
      exact body_num _ _
  rw [hb.2]
  refine ⟨hb.1, ?_⟩
  by_cases h : d = 1
  · rw [if_pos h, List.append_nil, cut_num]
    exact ⟨rfl, (decide_eq_false (fun z => z h)).symm, fun z => absurd h z⟩
  · rw [if_neg h, cut_num2]
    exact ⟨rfl, (decide_eq_true h).symm, fun _ => rfl⟩
/-- the text's parts are those of the fraction -/
theorem parse_val (n d : Int) (hd : 0 < d) : progN (txtL n d) = n ∧ progD (txtL n d) = d := by
  obtain ⟨h1, h2, h3, h4⟩ := parse_txt n d hd
  unfold progN progD
  rw [h1, h2, h3, TL.numL_val]
  constructor
  · by_cases h : n < 0
    · rw [decide_eq_true h, if_pos rfl]
      omega
    · rw [decide_eq_false h, if_neg (by decide)]
      omega
  · by_cases h : d = 1
    · rw [decide_eq_false (fun z => z h), if_neg (by decide), h]
    · rw [decide_eq_true h, if_pos rfl, h4 h, TL.numL_val]
      omega
theorem law_txt (n d : Int) (hd : 0 < d) (g : Int.gcd n d = 1) : lawR (txtL n d) = some (n, d) := by
  obtain ⟨h1, h2, h3, h4⟩ := parse_txt n d hd
  obtain ⟨e1, e2⟩ := parse_val n d hd
  unfold lawR
  rw [e1, e2, h1, h2, h3, good_num]
  have c1 : ((!true) || (decide (d ≠ 1) && !goodW (cutL (bodyL (txtL n d))).2.2)) = false := by
    by_cases h : d = 1
    · rw [decide_eq_false (fun z => z h)]
      rfl
    · rw [h4 h, good_num]
      simp
  rw [c1, if_neg (by decide), if_neg ?_]
  rintro ((⟨z1, z2⟩ | z) | ⟨z1, z2⟩)
  · have := of_decide_eq_true z1
    omega
  · exact z g
  · have := of_decide_eq_true z1
    omega
theorem prog_txt (n d : Int) (hd : 0 < d) (g : Int.gcd n d = 1) : progR (txtL n d) = some (n, d) := by
  obtain ⟨h1, h2, h3, h4⟩ := parse_txt n d hd
  obtain ⟨e1, e2⟩ := parse_val n d hd
  obtain ⟨l1, l2⟩ := low_one hd g
  unfold progR
  rw [e1, e2, h2, h3, isD_num, l1, l2]
  have c1 : ((!true) || (decide (d ≠ 1) && !isD (cutL (bodyL (txtL n d))).2.2)) = false := by
    by_cases h : d = 1
    · rw [decide_eq_false (fun z => z h)]
      rfl
    · rw [h4 h, isD_num]
      simp
  rw [c1, if_neg (by decide), if_neg (by omega), if_pos rfl]
theorem prog_some {t : List Nat} {f : Int × Int} (h : progR t = some f) : t = txtL f.1 f.2 ∧ 0 < f.2 ∧ Int.gcd f.1 f.2 = 1 := by
  unfold progR at h
  split at h
  · cases h
  · split at h
    · cases h
    · rename_i h0
      split at h
      · rename_i e
        cases h
        exact ⟨e.symm, lowD_pos h0, gcd_low h0⟩
      · cases h
theorem law_some {t : List Nat} {f : Int × Int} (h : lawR t = some f) : t = txtL f.1 f.2 ∧ 0 < f.2 ∧ Int.gcd f.1 f.2 = 1 := by
  unfold lawR at h
  split at h
  · cases h
  · rename_i h1
    split at h
    · cases h
    · rename_i h2
      cases h
      have k1 : goodW (cutL (bodyL t)).1 = true := by
        cases e : goodW (cutL (bodyL t)).1
        · rw [e] at h1
          exact absurd rfl h1
        · rfl
      have k2 : (cutL (bodyL t)).2.1 = true → goodW (cutL (bodyL t)).2.2 = true := fun z => by
        cases e : goodW (cutL (bodyL t)).2.2
        · rw [e, z, k1] at h1
          exact absurd rfl h1
        · rfl
      have g1 : Int.gcd (progN t) (progD t) = 1 := by
        by_cases z : Int.gcd (progN t) (progD t) = 1
        · exact z
        · exact absurd (.inl (.inr z)) h2
      have d2 : (cutL (bodyL t)).2.1 = true → 2 ≤ progD t := fun z => by
        have : ¬ progD t < 2 := fun y => h2 (.inl (.inl ⟨z, y⟩))
        omega
      have m2 : bodyM t = true → progN t ≠ 0 := fun z y => h2 (.inr ⟨z, y⟩)
      have hd : 0 < progD t := by
        cases e : (cutL (bodyL t)).2.1
        · unfold progD
          rw [e, if_neg (by decide)]
          omega
        · have := d2 e
          omega
      refine ⟨?_, hd, g1⟩
      have p1 := num_good k1
      show t = txtL (progN t) (progD t)
      have sg : (if progN t < 0 then [45] else []) = (if bodyM t then [45] else ([] : List Nat)) := by
        cases e : bodyM t
        · have : ¬ progN t < 0 := by
            unfold progN
            rw [e]
            simp
          rw [if_neg this]
          rfl
        · have y := m2 e
          have : progN t < 0 := by
            unfold progN at y ⊢
            rw [e, if_pos rfl] at y ⊢
            omega
          rw [if_pos this]
          rfl
      have an : (progN t).natAbs = NumText.digitsVal (cutL (bodyL t)).1 := by
        unfold progN
        split <;> omega
      have sd : (if progD t = 1 then [] else 47 :: TL.numL (progD t).natAbs) = (if (cutL (bodyL t)).2.1 then 47 :: (cutL (bodyL t)).2.2 else []) := by
        cases e : (cutL (bodyL t)).2.1
        · have : progD t = 1 := by
            unfold progD
            rw [e]
            rfl
          rw [if_pos this]
          rfl
        · have y := d2 e
          have z : (progD t).natAbs = NumText.digitsVal (cutL (bodyL t)).2.2 := by
            unfold progD
            rw [e, if_pos rfl]
            omega
          rw [if_neg (by omega), z, num_good (k2 e)]
          rfl
      unfold txtL
      rw [sg, an, p1, sd, ← cut_at, ← body_at]
theorem prog_law (t : List Nat) : progR t = lawR t := by
  cases h : progR t with
  | some f =>
    obtain ⟨e, hd, g⟩ := prog_some h
    rw [e, law_txt f.1 f.2 hd g]
  | none =>
    cases h2 : lawR t with
    | none => rfl
    | some f =>
      obtain ⟨e, hd, g⟩ := law_some h2
      rw [e, prog_txt f.1 f.2 hd g] at h
      cases h
theorem small_line {n : Nat} (h : n ≤ 1000) : n ≤ sizeLine := Nat.le_trans h (Nat.le_of_lt (small1000 (Nat.le_refl _)))
theorem quote : (Str.ofString "'" : Str) = SX.S [39] := by decide +kernel
abbrev vS (a : List Nat) : V := .str (SX.S a)
/-! ### the texts' own words on lists of signs -/
theorem dash : (Str.ofString "-" : Str) = SX.S [45] := by decide +kernel
theorem stroke : (Str.ofString "/" : Str) = SX.S [47] := by decide +kernel
theorem nought : (Str.ofString "0" : Str) = SX.S [48] := by decide +kernel
theorem emptyS : (Str.ofString "" : Str) = SX.S [] := by decide +kernel
theorem uni_dig : ∀ c : Nat, c < 128 → Unicode.isDigit c = dig c := by decide +kernel
theorem ascii_dig (a : List Nat) : (Txt.isascii (SX.S a) && Txt.isdigit (SX.S a)) = isD a := by
  have e1 : Txt.isascii (SX.S a) = a.all (fun c => decide (c < 128)) := by
    unfold Txt.isascii
    rw [← Array.all_toList]
  have e2 : Txt.isdigit (SX.S a) = (!a.isEmpty && a.all Unicode.isDigit) := by
    unfold Txt.isdigit
    rw [← Array.all_toList, SX.S_len]
    cases a <;> rfl
  rw [e1, e2]
  unfold isD
  cases h : a.all (fun c => decide (c < 128))
  · cases h2 : a.all dig
    · simp
    · exfalso
      have h3 := all_dig.mp h2
      have : a.all (fun c => decide (c < 128)) = true := List.all_eq_true.mpr fun c hc => decide_eq_true (by have := h3 c hc; omega)
      rw [h] at this
      cases this
  · have h3 := List.all_eq_true.mp h
    have : a.all Unicode.isDigit = a.all dig := by
      rw [Bool.eq_iff_iff, List.all_eq_true, List.all_eq_true]
      exact ⟨fun q c hc => by rw [← uni_dig c (of_decide_eq_true (h3 c hc))]; exact q c hc, fun q c hc => by rw [uni_dig c (of_decide_eq_true (h3 c hc))]; exact q c hc⟩
    rw [this]
    rfl
theorem sub_one (c : Nat) (r : List Nat) : PySem.Builtin.Str.subAt (SX.S (c :: r)) (SX.S [45]) 0 = decide (c = 45) := by
  have e : (SX.S (c :: r)).cps.extract 0 (0 + (SX.S [45]).length) = [c].toArray := by
    rw [SX.S_len]
    simp [List.extract]
  show ((SX.S (c :: r)).cps.extract 0 (0 + (SX.S [45]).length) == (SX.S [45]).cps) = _
  rw [e]
  by_cases h : c = 45
  · subst h
    rfl
  · rw [decide_eq_false h, beq_eq_false_iff_ne]
    intro z
    exact h (List.cons.inj (congrArg Array.toList z)).1
theorem starts_minus (a : List Nat) : Txt.startswith (SX.S a) (SX.S [45]) = bodyM a := by
  cases a with
  | nil => rfl
  | cons c r =>
    unfold Txt.startswith
    rw [sub_one, SX.S_len, SX.S_len]
    have : decide (0 + [45].length ≤ (c :: r).length) = true := decide_eq_true (by simp)
    rw [this, Bool.true_and]
    unfold bodyM
    split
    · rename_i h
      injection h with h1 h2
      rw [h1]
      rfl
    · rename_i h
      exact decide_eq_false fun z => h r (by rw [z])
theorem rem_minus (a : List Nat) : Txt.removeprefix (SX.S a) (SX.S [45]) = SX.S (bodyL a) := by
  have e := eq_of_beq (PyProof.Rows.removeprefix_closes (SX.S a) (SX.S [45]))
  have e2 := starts_minus a
  unfold Txt.startswith at e2
  rw [e2] at e
  rw [e, SX.S_len, SX.S_len]
  cases a with
  | nil => rfl
  | cons c r =>
    cases h : bodyM (c :: r)
    · rw [if_neg (by decide)]
      unfold bodyM at h
      unfold bodyL
      split at h
      · cases h
      · rfl
    · rw [if_pos rfl]
      unfold bodyM at h
      split at h
      · rename_i h1
        injection h1 with h1 h2
        subst h1 h2
        unfold bodyL
        refine TL.ext_tl ?_
        show (((45 :: r).drop ((([45] : List Nat).length : Nat) : Int).toNat).take ((((45 :: r).length : Nat) : Int) - ((([45] : List Nat).length : Nat) : Int)).toNat) = r
        have : ((([45] : List Nat).length : Nat) : Int).toNat = 1 := rfl
        rw [this, List.drop_one, List.tail_cons]
        exact List.take_of_length_le (by simp only [List.length_cons, List.length_nil]; omega)
      · cases h
theorem cut_S (a : List Nat) : Txt.partition (SX.S a) (SX.S [47]) = (SX.S (cutL a).1, SX.S (if (cutL a).2.1 then [47] else []), SX.S (cutL a).2.2) := by
  unfold cutL
  cases h : TL.par [47] [] a with
  | none => exact SX.partition_none (by simp) h
  | some pq =>
    obtain ⟨p, q⟩ := pq
    exact SX.partition_some (by simp) h
def spD (f : PyData → Bool) : Sp := fun vs H Q _ => ∃ v d z, vs = [v] ∧ Dt z H v d ∧ Q (.bl (f d)) H
section
variable {P : Program} {w : World} {K : PySem.W.Frag} {mg : Str → Option Value} {base : Heap} {fa : Nat → Addr} {fd : Nat → FuncData}
theorem ok_p_is_name (T : Txt K mg fa fd) : FnOk P w K mg base CX0 1 (fa 86) (fd 86) ["text"] (spD nameD) := by
  refine T.F_p_is_name.ok sc_p_is_name (fun vs H Q E h => ?_) (fun cdv A outer s H vs Q E hr h => ?_)
  · obtain ⟨v, d, _, rfl, _⟩ := h
    rfl
  · obtain ⟨v, d, z, rfl, hv, q⟩ := h
    refine ⟨_, (pss_cons (ps_if (pt_not (pt_val (pe_callB call_isi (by rfl) T.m_isinstance PyProof.Rows.boot_isinstance (pa_cons (pv 0) (pa_cons (pe_bltn (v := .ty "str") (by rfl) T.m_str (by decide +kernel) rfl) pa_nil))))) (pss_one (ps_ret pe_bl)) pss_nil)
      (pss_cons (ps_set (i := 1) sc_p_is_name.nd rfl (.inl rfl) (pe_m1 PySem.F.slot_str_removesuffix PySem.F.type_str_removesuffix mt_removesuffix (pv 0) pe_str (by rfl) (by rfl) (by rfl)))
      (pss_cons (ps_if (pt_cmpR op_gt (pe_callB call_len_str (by rfl) T.m_len PySem.boot_len (pa_cons (pv 1) pa_nil)) (C8.pe_gc (by rfl) T.c_MOST_LETTERS) (nomark _)) (pss_one (ps_ret pe_bl)) pss_nil)
      (pss_one (ps_ret (pe_and (pe_m0 PySem.F.slot_str_isascii PySem.F.type_str_isascii mt_isascii (pv 1) (by rfl) (by rfl)) (pe_and (pe_m0 PySem.F.slot_str_isalpha PySem.F.type_str_isalpha mt_isalpha (pv 1) (by rfl) (by rfl)) (pe_one (pe_m0 PySem.F.slot_str_islower PySem.F.type_str_islower mt_islower (pv 1) (by rfl) (by rfl)))))))))), ?_⟩
    refine ⟨_, rfl, _, _, _, _, _, rfl, .ty _, .base hv.ty, kit_ty kitTxt, _, rfl, ?_⟩
    cases hv with
    | str x hx =>
      refine iteF ?_
      have q : Q (.bl (nameB x.cps.toList)) H := q
      generalize hc : x.cps.toList = a at q
      have ex : x = SX.S a := by rw [← hc, S_of]
      subst ex
      refine ⟨_, rfl, ⟨_, rfl⟩, _, _, rfl, rfl, small_line hx, _, rfl, _, rfl, ?_⟩
      have er : Txt.removesuffix (SX.S a) (Str.ofString "'") = SX.S (cutQ a) := by rw [quote, rem_quote]
      rw [er]
      have q : Q (.bl (decide ((cutQ a).length ≤ 6) && letB (cutQ a))) H := q
      have cut : (cutQ a).length ≤ 1000 := by
        rw [SX.S_len] at hx
        unfold cutQ
        split
        · rw [List.length_dropLast]
          omega
        · exact hx
      generalize cutQ a = b at q cut
      refine ⟨by rw [SX.S_len]; exact small_line cut, _, _, rfl, rfl, _, rfl, ite2 (fun e => ?_) (fun e => ?_)⟩
      · have e := of_decide_eq_true e
        rw [SX.S_len] at e
        rw [decide_eq_false (by omega)] at q
        exact q
      · have e : ¬ ((6 : Int) < ((SX.S b).length : Int)) := fun z => e (decide_eq_true z)
        rw [SX.S_len] at e
        rw [decide_eq_true (by omega), Bool.true_and, ← lower_letters] at q
        refine ⟨_, rfl, ⟨_, rfl⟩, _, rfl, rfl, trivial, _, rfl, ?_⟩
        cases e1 : Txt.isascii (SX.S b) with
        | false =>
          rw [e1] at q
          exact iteF q
        | true =>
          rw [e1, Bool.true_and] at q
          refine iteT ⟨_, rfl, ⟨_, rfl⟩, _, rfl, rfl, trivial, _, rfl, ?_⟩
          cases e2 : Txt.isalpha (SX.S b) with
          | false =>
            rw [e2] at q
            exact iteF q
          | true =>
            rw [e2, Bool.true_and] at q
            exact iteT ⟨_, rfl, ⟨_, rfl⟩, _, rfl, rfl, trivial, q⟩
    | non => exact iteT q
    | bl b => exact iteT q
    | int i _ => exact iteT q
    | lst h _ _ => exact iteT q
    | tup h _ => exact iteT q
end
section
variable {P : Program} {w : World} {K : PySem.W.Frag} {mg : Str → Option Value} {base : Heap} {fa : Nat → Addr} {fd : Nat → FuncData}
theorem ok_p_is_whole (T : Txt K mg fa fd) : FnOk P w K mg base CX0 1 (fa 18) (fd 18) ["thing"] (spD isInt) := by
  refine T.F_p_is_whole.ok sc_p_is_whole (fun vs H Q E h => ?_) (fun cdv A outer s H vs Q E hr h => ?_)
  · obtain ⟨v, d, _, rfl, _⟩ := h
    rfl
  · obtain ⟨v, d, z, rfl, hv, q⟩ := h
    refine ⟨_, (pss_one (ps_ret (pe_and (pe_callB call_isi (by rfl) T.m_isinstance PyProof.Rows.boot_isinstance (pa_cons (pv 0) (pa_cons (pe_bltn (v := .ty "int") (by rfl) T.m_int (by decide +kernel) rfl) pa_nil))) (pe_one (pe_not (pe_callB call_isi (by rfl) T.m_isinstance PyProof.Rows.boot_isinstance (pa_cons (pv 0) (pa_cons (pe_bltn (v := .ty "bool") (by rfl) T.m_bool (by decide +kernel) rfl) pa_nil)))))))), ?_⟩
    cases hv with
    | non => exact ⟨_, rfl, _, _, _, _, _, rfl, .ty _, .base .non, kit_ty (r := false) (by decide +kernel), _, rfl, iteF q⟩
    | bl b => exact ⟨_, rfl, _, _, _, _, _, rfl, .ty _, .base (.bl _), kit_ty (r := true) (by decide +kernel), _, rfl, iteT ⟨_, rfl, _, _, _, _, _, rfl, .ty _, .base (.bl _), kit_ty (r := true) (by decide +kernel), _, rfl, q⟩⟩
    | int i _ => exact ⟨_, rfl, _, _, _, _, _, rfl, .ty _, .base (.int _), kit_ty (r := true) (by decide +kernel), _, rfl, iteT ⟨_, rfl, _, _, _, _, _, rfl, .ty _, .base (.int _), kit_ty (r := false) (by decide +kernel), _, rfl, q⟩⟩
    | str x _ => exact ⟨_, rfl, _, _, _, _, _, rfl, .ty _, .base (.str _), kit_ty (r := false) (by decide +kernel), _, rfl, iteF q⟩
    | lst h _ _ => exact ⟨_, rfl, _, _, _, _, _, rfl, .ty _, .base (.lst h), kit_ty (r := false) (by decide +kernel), _, rfl, iteF q⟩
    | tup h _ => exact ⟨_, rfl, _, _, _, _, _, rfl, .ty _, .base (.tup h), kit_ty (r := false) (by decide +kernel), _, rfl, iteF q⟩
theorem ratD_pair (x y : PyData) : ratD (.tuple [x, y]) = (isInt x && (isInt y && ratD (.tuple [x, y]))) := by
  cases x <;> cases y <;> rfl
theorem ratD_one (x : PyData) : ratD (.tuple [x]) = false := by cases x <;> rfl
theorem ratD_many (x y z : PyData) (r : List PyData) : ratD (.tuple (x :: y :: z :: r)) = false := by cases x <;> cases y <;> rfl
theorem ok_p_is_ratio (T : Txt K mg fa fd) : FnOk P w K mg base CX0 2 (fa 22) (fd 22) ["thing"] (spD ratD) := by
  refine T.F_p_is_ratio.ok sc_p_is_ratio (fun vs H Q E h => ?_) (fun cdv A outer s H vs Q E hr h => ?_)
  · obtain ⟨v, d, _, rfl, _⟩ := h
    rfl
  · obtain ⟨v, d, z, rfl, hv, q⟩ := h
    refine ⟨_, (pss_cons (ps_if (PW.pt (pw_or (pt_not (pt_val (pe_callB call_isi (by rfl) T.m_isinstance PyProof.Rows.boot_isinstance (pa_cons (pv 0) (pa_cons (pe_bltn (v := .ty "tuple") (by rfl) T.m_tuple (by decide +kernel) rfl) pa_nil))))) (pw_or1 (pt_cmpR op_ne (pe_callB call_len_seq (by rfl) T.m_len PySem.boot_len (pa_cons (pv 0) pa_nil)) pe_int (nomark _))))) (pss_one (ps_ret pe_bl)) pss_nil)
      (pss_cons (ps_asg (pv 0) (pg_tup (by rfl) (pgs_cons (pg_name (i := 1) sc_p_is_ratio.nd rfl (.inl rfl)) (pgs_cons (pg_name (i := 2) sc_p_is_ratio.nd rfl (.inl rfl)) pgs_nil))))
      (pss_one (ps_ret (pe_and (pe_call (ok_p_is_whole T) (hr.mono (by decide)) (by rfl) T.g_p_is_whole T.F_p_is_whole.kp T.b_p_is_whole .nil pass0 (pa_cons (pv 1) pa_nil)) (pe_and (pe_call (ok_p_is_whole T) (hr.mono (by decide)) (by rfl) T.g_p_is_whole T.F_p_is_whole.kp T.b_p_is_whole .nil pass0 (pa_cons (pv 2) pa_nil)) (pe_and (pe_cmpR op_ge (pv 2) pe_int (nomark _)) (pe_one (pe_cmpR op_eq (pe_call (ok_p_common_divisor T) (hr.mono (by decide)) (by rfl) T.g_p_common_divisor T.F_p_common_divisor.kp T.b_p_common_divisor .nil pass0 (pa_cons (pv 1) (pa_cons (pv 2) pa_nil))) pe_int (nomark _)))))))))), ?_⟩
    refine ⟨_, rfl, _, _, _, _, _, rfl, .ty _, .base hv.ty, kit_ty kitTup, _, rfl, ?_⟩
    rcases hv.split with e | ⟨p, xs, ds, rfl, rfl, hp, hs⟩
    · rw [e]
      refine iteT (iteT ?_)
      have : ratD d = false := by cases d <;> first | rfl | cases e
      rw [this] at q
      exact q
    · refine iteF ⟨_, rfl, p, xs, rfl, .inr (SqT.of hp), rfl, _, rfl, ?_⟩
      rw [hs.len]
      match xs, ds, hs with
      | _, [], _ => exact iteT q
      | _, [x], _ =>
        rw [ratD_one] at q
        exact iteT q
      | _, x :: y :: z :: r, _ =>
        rw [ratD_many] at q
        rw [decide_eq_false (by simp; omega)]
        exact iteT q
      | _, [d1, d2], .cons (v := x) h1 (.cons (v := y) h2 .nil) =>
        rw [decide_eq_true (show V.int (([d1, d2] : List PyData).length : Int) = V.int 2 from rfl)]
        refine iteF ⟨_, rfl, p, _, rfl, SqT.of hp, rfl, x, [y], rfl, y, [], rfl, rfl, ?_⟩
        refine ⟨_, rfl, x, d1, _, rfl, h1, _, rfl, ?_⟩
        rw [ratD_pair] at q
        cases e1 : isInt d1 with
        | false =>
          rw [e1] at q
          exact iteF q
        | true =>
          rw [e1] at q
          refine iteT ⟨_, rfl, y, d2, _, rfl, h2, _, rfl, ?_⟩
          cases e2 : isInt d2 with
          | false =>
            rw [e2] at q
            exact iteF q
          | true =>
            rw [e2] at q
            cases h1 with
            | int t _ =>
              cases h2 with
              | int u hbu =>
                refine iteT ⟨_, rfl, _, _, rfl, rfl, _, rfl, ?_⟩
                have q : Q (.bl (decide (1 ≤ u) && decide (Int.gcd t u = 1))) H := q
                cases eu : decide (1 ≤ u) with
                | false =>
                  rw [eu] at q
                  exact iteF q
                | true =>
                  rw [eu] at q
                  refine iteT ⟨_, rfl, _, rfl, t, u, rfl, .inr hbu, rfl, ?_⟩
                  have e : decide (V.int (Int.gcd t u : Nat) = V.int 1) = decide (Int.gcd t u = 1) := by
                    rw [decide_eq_decide]
                    constructor
                    · intro h
                      have := V.int.inj h
                      omega
                    · intro h
                      rw [h]
                      rfl
                  rw [e]
                  exact q
              | _ => cases e2
            | _ => cases e1
end
/-! ### the mathematics of reduced ties -/
theorem lowT_self {u v : Int} (hv : v ≠ 0) : lowT u v * v = u * lowD u v := by
  have e1 := lowT_mul (u := u) hv
  have e2 := lowD_mul (u := u) hv
  generalize lowG u v = g at e1 e2
  generalize lowT u v = a at e1 ⊢
  generalize lowD u v = b at e2 ⊢
  subst e1 e2
  rw [← Int.mul_assoc, Int.mul_comm a g]
theorem lowG_scale (u v m : Int) (hm : m ≠ 0) : v ≠ 0 → lowG (u * m) (v * m) = lowG u v * m := fun hv => by
  have g : (Int.gcd (u * m) (v * m) : Int) = (Int.gcd u v : Int) * (m.natAbs : Int) := by
    rw [Int.gcd_mul_right]
    exact Int.natCast_mul _ _
  unfold lowG
  rw [g]
  rcases Int.lt_trichotomy m 0 with h | h | h
  · have em : (m.natAbs : Int) = -m := by omega
    rw [em, Int.mul_neg, Int.neg_neg]
    by_cases h2 : v < 0
    · have := Int.mul_pos_of_neg_of_neg h2 h
      rw [if_neg (by omega), if_pos h2, Int.neg_mul]
    · have := Int.mul_neg_of_pos_of_neg (show 0 < v by omega) h
      rw [if_pos this, if_neg h2]
  · exact absurd h hm
  · have em : (m.natAbs : Int) = m := by omega
    rw [em]
    by_cases h2 : v < 0
    · have := Int.mul_neg_of_neg_of_pos h2 h
      rw [if_pos this, if_pos h2, Int.neg_mul]
    · have := Int.mul_pos (show 0 < v by omega) h
      rw [if_neg (by omega), if_neg h2]
theorem fdiv_scale {g u m : Int} (hg : g ≠ 0) (hm : m ≠ 0) (hd : g ∣ u) : (u * m).fdiv (g * m) = u.fdiv g := by
  obtain ⟨t, rfl⟩ := hd
  have hgm : g * m ≠ 0 := Int.mul_ne_zero hg hm
  rw [Int.mul_fdiv_cancel_left _ hg, show g * t * m = g * m * t by rw [Int.mul_assoc, Int.mul_comm t m, Int.mul_assoc], Int.mul_fdiv_cancel_left _ hgm]
theorem lowT_scale {u v m : Int} (hm : m ≠ 0) (hv : v ≠ 0) : lowT (u * m) (v * m) = lowT u v := by
  unfold lowT
  rw [lowG_scale u v m hm hv]
  exact fdiv_scale (lowG_ne hv) hm (lowG_dvd_left u v)
theorem lowD_scale {u v m : Int} (hm : m ≠ 0) (hv : v ≠ 0) : lowD (u * m) (v * m) = lowD u v := by
  unfold lowD
  rw [lowG_scale u v m hm hv]
  exact fdiv_scale (lowG_ne hv) hm (lowG_dvd_right u v)
theorem lowG_one (u : Int) : lowG u 1 = 1 := by
  unfold lowG
  rw [if_neg (by decide), Int.gcd_one_right]
  rfl
theorem lowT_one (u : Int) : lowT u 1 = u := by
  unfold lowT
  rw [lowG_one, Int.fdiv_one]
theorem lowD_one (u : Int) : lowD u 1 = 1 := by
  unfold lowD
  rw [lowG_one]
  rfl
abbrev FR := Int × Int
def lowF (u v : Int) : FR := (lowT u v, lowD u v)
theorem low_cross {u v u' v' : Int} (hv : v ≠ 0) (hv' : v' ≠ 0) (h : u * v' = u' * v) : lowF u v = lowF u' v' := by
  unfold lowF
  rw [← lowT_scale hv' hv, ← lowD_scale hv' hv, h, ← lowT_scale (u := u') hv hv', ← lowD_scale (u := u') hv hv', Int.mul_comm v v']
/-- the least common denominator, as it is worked out -/
def lcmF (u : Int) : List FR → Int
  | [] => u
  | f :: r => lcmF ((u * f.2).fdiv (Int.gcd u f.2 : Nat)) r
def gcdF (L : Int) (g : Int) : List FR → Int
  | [] => g
  | f :: r => gcdF L (Int.gcd g (L.fdiv f.2 * f.1) : Nat) r
def scl (rs : List FR) : FR := lowF (lcmF 1 rs) (gcdF (lcmF 1 rs) 0 rs)
def redF (s f : FR) : FR := lowF (f.1 * s.1) (f.2 * s.2)
def gl (l : List Int) : Nat := l.foldr (fun m g => Nat.gcd m.natAbs g) 0
theorem gl_mul (A : Int) : ∀ l : List Int, gl (l.map (· * A)) = gl l * A.natAbs
  | [] => (Nat.zero_mul _).symm
  | m :: l => by
    show Nat.gcd (m * A).natAbs (gl (l.map (· * A))) = Nat.gcd m.natAbs (gl l) * A.natAbs
    rw [gl_mul A l, Int.natAbs_mul, Nat.gcd_mul_right]
theorem lcm_step {u d : Int} (hu : 0 < u) (hd : 0 < d) : 0 < (u * d).fdiv (Int.gcd u d : Nat) ∧ u ∣ (u * d).fdiv (Int.gcd u d : Nat) ∧ d ∣ (u * d).fdiv (Int.gcd u d : Nat) := by
  have gp : 0 < Int.gcd u d := gcd_pos (by omega)
  obtain ⟨a, ha⟩ := Int.gcd_dvd_left u d
  obtain ⟨b, hb⟩ := Int.gcd_dvd_right u d
  have g0 : ((Int.gcd u d : Nat) : Int) ≠ 0 := by omega
  have e : (u * d).fdiv (Int.gcd u d : Nat) = u * b := by
    rw [show u * d = ((Int.gcd u d : Nat) : Int) * (u * b) by
      rw [← Int.mul_assoc, Int.mul_comm _ u, Int.mul_assoc, ← hb]]
    exact Int.mul_fdiv_cancel_left _ g0
  have bp : 0 < b := by
    rcases Int.lt_trichotomy b 0 with h | h | h
    · have := Int.mul_neg_of_pos_of_neg (show (0 : Int) < (Int.gcd u d : Nat) by omega) h
      omega
    · rw [h, Int.mul_zero] at hb
      omega
    · exact h
  rw [e]
  refine ⟨Int.mul_pos hu bp, ⟨b, rfl⟩, ⟨a, ?_⟩⟩
  have : ((Int.gcd u d : Nat) : Int) * (u * b) = ((Int.gcd u d : Nat) : Int) * (d * a) := by
    calc ((Int.gcd u d : Nat) : Int) * (u * b) = u * (((Int.gcd u d : Nat) : Int) * b) := by rw [← Int.mul_assoc, Int.mul_comm _ u, Int.mul_assoc]
      _ = u * d := by rw [← hb]
      _ = d * u := Int.mul_comm ..
      _ = d * (((Int.gcd u d : Nat) : Int) * a) := by rw [← ha]
      _ = _ := by rw [← Int.mul_assoc, Int.mul_comm d, Int.mul_assoc]
  exact Int.eq_of_mul_eq_mul_left g0 this
theorem lcmF_ok : ∀ (rs : List FR) (u : Int), 0 < u → (∀ f ∈ rs, 0 < f.2) → 0 < lcmF u rs ∧ u ∣ lcmF u rs ∧ ∀ f ∈ rs, f.2 ∣ lcmF u rs
  | [], u, hu, _ => ⟨hu, ⟨1, (Int.mul_one u).symm⟩, fun _ h => nomatch h⟩
  | f :: r, u, hu, h => by
    have hf := h f List.mem_cons_self
    obtain ⟨h1, h2, h3⟩ := lcm_step hu hf
    obtain ⟨k1, k2, k3⟩ := lcmF_ok r _ h1 fun g hg => h g (List.mem_cons_of_mem _ hg)
    refine ⟨k1, Int.dvd_trans h2 k2, fun g hg => ?_⟩
    rcases List.mem_cons.mp hg with rfl | hg
    · exact Int.dvd_trans h3 k2
    · exact k3 g hg
theorem gcdF_gl (L : Int) : ∀ (rs : List FR) (g : Nat), gcdF L (g : Int) rs = (Nat.gcd g (gl (rs.map fun f => L.fdiv f.2 * f.1)) : Nat)
  | [], g => by
    show (g : Int) = (Nat.gcd g 0 : Nat)
    rw [Nat.gcd_zero_right]
  | f :: r, g => by
    show gcdF L (Int.gcd g (L.fdiv f.2 * f.1) : Nat) r = _
    rw [gcdF_gl L r]
    show ((Nat.gcd (Nat.gcd _ _) _ : Nat) : Int) = (Nat.gcd g (Nat.gcd _ _) : Nat)
    rw [Nat.gcd_assoc]
    rfl
theorem gl_dvd : ∀ (l : List Int) (m : Int), m ∈ l → (gl l : Int) ∣ m
  | a :: l, m, h => by
    have e1 : ((Nat.gcd a.natAbs (gl l) : Nat) : Int) ∣ a := Int.ofNat_dvd_left.mpr (Nat.gcd_dvd_left _ _)
    rcases List.mem_cons.mp h with rfl | h
    · exact e1
    · exact Int.dvd_trans (Int.natCast_dvd_natCast.mpr (Nat.gcd_dvd_right _ _)) (gl_dvd l m h)
/-- good rates -/
def RsOk (rs : List FR) : Prop := rs ≠ [] ∧ ∀ f ∈ rs, 0 < f.2 ∧ f.1 ≠ 0
theorem red_facts {rs : List FR} (h : RsOk rs) : ∃ L G : Int, 0 < L ∧ 0 < G ∧ lcmF 1 rs = L ∧ gcdF L 0 rs = G ∧ ∃ m : FR → Int, (∀ f ∈ rs, m f * G * f.2 = L * f.1) ∧ gl (rs.map m) = 1 := by
  obtain ⟨Lp, _, Ld⟩ := lcmF_ok rs 1 (by decide) fun f hf => (h.2 f hf).1
  have eG := gcdF_gl (lcmF 1 rs) rs 0
  rw [Nat.gcd_zero_left] at eG
  generalize lcmF 1 rs = L at Lp Ld eG ⊢
  have es : ∀ f ∈ rs, L.fdiv f.2 * f.1 * f.2 = L * f.1 ∧ L.fdiv f.2 * f.1 ≠ 0 := fun f hf => by
    obtain ⟨t, ht⟩ := Ld f hf
    have f0 : f.2 ≠ 0 := by have := (h.2 f hf).1; omega
    rw [ht, Int.mul_fdiv_cancel_left _ f0]
    refine ⟨by rw [Int.mul_comm f.2 t, Int.mul_right_comm], ?_⟩
    refine Int.mul_ne_zero (fun z => ?_) (h.2 f hf).2
    rw [z, Int.mul_zero] at ht
    omega
  have Gn : gl (rs.map fun f => L.fdiv f.2 * f.1) ≠ 0 := fun z => by
    obtain ⟨f, r, rfl⟩ : ∃ f r, rs = f :: r := by
      cases rs with
      | nil => exact absurd rfl h.1
      | cons f r => exact ⟨f, r, rfl⟩
    have := gl_dvd _ _ (List.mem_map_of_mem (f := fun f : FR => L.fdiv f.2 * f.1) (List.mem_cons_self (a := f) (l := r)))
    rw [z] at this
    exact (es f List.mem_cons_self).2 (Int.zero_dvd.mp this)
  refine ⟨L, gcdF L 0 rs, Lp, ?_, rfl, rfl, fun f => (L.fdiv f.2 * f.1).fdiv (gcdF L 0 rs), ?_, ?_⟩
  · rw [show gcdF L 0 rs = _ from eG]
    omega
  all_goals
    have eG : gcdF L 0 rs = _ := eG
    have dv : ∀ f ∈ rs, (L.fdiv f.2 * f.1).fdiv (gcdF L 0 rs) * gcdF L 0 rs = L.fdiv f.2 * f.1 := fun f hf => by
      have := gl_dvd _ _ (List.mem_map_of_mem (f := fun f : FR => L.fdiv f.2 * f.1) hf)
      rw [← eG] at this
      obtain ⟨t, ht⟩ := this
      rw [ht, Int.mul_fdiv_cancel_left _ (by rw [eG]; omega), Int.mul_comm]
  · intro f hf
    rw [dv f hf]
    exact (es f hf).1
  · have e2 := gl_mul (gcdF L 0 rs) (rs.map fun f => (L.fdiv f.2 * f.1).fdiv (gcdF L 0 rs))
    have cg : (rs.map fun f => (L.fdiv f.2 * f.1).fdiv (gcdF L 0 rs)).map (· * gcdF L 0 rs) = rs.map fun f => L.fdiv f.2 * f.1 := by
      rw [List.map_map]
      exact List.map_congr_left fun f hf => dv f hf
    rw [cg] at e2
    have e3 : (gcdF L 0 rs).natAbs = gl (rs.map fun f => L.fdiv f.2 * f.1) := by
      rw [eG]
      exact Int.natAbs_natCast _
    rw [e3] at e2
    have : 1 * gl (rs.map fun f => L.fdiv f.2 * f.1) = gl (rs.map fun f => (L.fdiv f.2 * f.1).fdiv (gcdF L 0 rs)) * gl (rs.map fun f => L.fdiv f.2 * f.1) := by rw [Nat.one_mul]; exact e2
    exact (Nat.eq_of_mul_eq_mul_right (by omega) this).symm
theorem cancel3 {k a b : Int} (hk : k ≠ 0) (h : k * a = k * b) : a = b := Int.eq_of_mul_eq_mul_left hk h
/-- a rate times the scale: a whole number -/
theorem redF_of {L G n d m : Int} (hL : 0 < L) (hG : 0 < G) (hd : 0 < d) (h : m * G * d = L * n) : redF (lowF L G) (n, d) = (m, 1) := by
  have e := lowT_self (u := L) (v := G) (by omega)
  have dp := lowD_pos (u := L) (v := G) (by omega)
  unfold redF lowF at *
  have := low_cross (u := n * lowT L G) (v := d * lowD L G) (u' := m) (v' := 1) (Int.mul_ne_zero (by omega) (by omega)) (by decide) ?_
  · unfold lowF at this
    rw [lowT_one, lowD_one] at this
    exact this
  · show n * lowT L G * 1 = m * (d * lowD L G)
    refine cancel3 (k := G) (by omega) ?_
    generalize lowT L G = a at *
    generalize lowD L G = b at *
    calc G * (n * a * 1) = n * (a * G) := by rw [Int.mul_one, Int.mul_comm G, Int.mul_assoc]
      _ = n * (L * b) := by rw [e]
      _ = L * n * b := by rw [← Int.mul_assoc, Int.mul_comm n L]
      _ = m * G * d * b := by rw [h]
      _ = G * (m * (d * b)) := by rw [Int.mul_comm m G, Int.mul_assoc, Int.mul_assoc]
theorem red_scaled {rs : List FR} (h : RsOk rs) {p q : Int} (hp : 0 < p) (hq : 0 < q) :
    RsOk (rs.map fun f => lowF (f.1 * p) (f.2 * q)) ∧ (∀ f ∈ rs, redF (scl (rs.map fun f => lowF (f.1 * p) (f.2 * q))) (lowF (f.1 * p) (f.2 * q)) = redF (scl rs) f) ∧
    ∀ b : FR, 0 < b.2 → redF (scl (rs.map fun f => lowF (f.1 * p) (f.2 * q))) (lowF (b.1 * p) (b.2 * q)) = redF (scl rs) b := by
  have fq : ∀ f ∈ rs, f.2 * q ≠ 0 := fun f hf => Int.mul_ne_zero (by have := (h.2 f hf).1; omega) (by omega)
  have h' : RsOk (rs.map fun f => lowF (f.1 * p) (f.2 * q)) := by
    refine ⟨fun z => h.1 (List.map_eq_nil_iff.mp z), fun g hg => ?_⟩
    obtain ⟨f, hf, rfl⟩ := List.mem_map.mp hg
    refine ⟨lowD_pos (fq f hf), fun z => ?_⟩
    have e := lowT_self (u := f.1 * p) (fq f hf)
    have z : lowT (f.1 * p) (f.2 * q) = 0 := z
    rw [z, Int.zero_mul] at e
    have dp := lowD_pos (u := f.1 * p) (fq f hf)
    exact (Int.mul_ne_zero (Int.mul_ne_zero (h.2 f hf).2 (by omega)) (by omega)) e.symm
  obtain ⟨L, G, Lp, Gp, eL, eG, m, hm, hg⟩ := red_facts h
  obtain ⟨L', G', Lp', Gp', eL', eG', m', hm', hg'⟩ := red_facts h'
  have es : scl rs = lowF L G := by unfold scl; rw [eL, eG]
  have es' : scl (rs.map fun f => lowF (f.1 * p) (f.2 * q)) = lowF L' G' := by unfold scl; rw [eL', eG']
  -- m' (G' q L) = m (L' p G)
  have key : ∀ f ∈ rs, m' (lowF (f.1 * p) (f.2 * q)) * (G' * q * L) = m f * (L' * p * G) := fun f hf => by
    have e1 := hm f hf
    have e2 := hm' _ (List.mem_map_of_mem (f := fun f : FR => lowF (f.1 * p) (f.2 * q)) hf)
    have e3 := lowT_self (u := f.1 * p) (fq f hf)
    have dp := lowD_pos (u := f.1 * p) (fq f hf)
    have fd := (h.2 f hf).1
    generalize m' (lowF (f.1 * p) (f.2 * q)) = M' at *
    change M' * G' * lowD (f.1 * p) (f.2 * q) = L' * lowT (f.1 * p) (f.2 * q) at e2
    generalize lowT (f.1 * p) (f.2 * q) = a at *
    generalize lowD (f.1 * p) (f.2 * q) = b at *
    generalize m f = M at *
    generalize f.1 = n at *
    generalize f.2 = d at *
    refine cancel3 (k := b * d) (Int.mul_ne_zero (by omega) (by omega)) ?_
    calc b * d * (M' * (G' * q * L)) = (M' * G' * b) * (d * q) * L := by ac_rfl
      _ = (L' * a) * (d * q) * L := by rw [e2]
      _ = L' * (a * (d * q)) * L := by ac_rfl
      _ = L' * (n * p * b) * L := by rw [e3]
      _ = L' * p * b * (L * n) := by ac_rfl
      _ = L' * p * b * (M * G * d) := by rw [e1]
      _ = b * d * (M * (L' * p * G)) := by ac_rfl
  have Bp : 0 < G' * q * L := Int.mul_pos (Int.mul_pos Gp' hq) Lp
  have Ap : 0 < L' * p * G := Int.mul_pos (Int.mul_pos Lp' hp) Gp
  have AB : G' * q * L = L' * p * G := by
    have g1 := gl_mul (G' * q * L) (rs.map fun f => m' (lowF (f.1 * p) (f.2 * q)))
    have g2 := gl_mul (L' * p * G) (rs.map m)
    have g3 : gl (rs.map fun f => m' (lowF (f.1 * p) (f.2 * q))) = 1 := by
      rw [List.map_map] at hg'
      exact hg'
    rw [g3, List.map_map, Nat.one_mul] at g1
    rw [hg, List.map_map, Nat.one_mul] at g2
    have g4 : rs.map ((· * (G' * q * L)) ∘ fun f => m' (lowF (f.1 * p) (f.2 * q))) = rs.map ((· * (L' * p * G)) ∘ m) := List.map_congr_left fun f hf => key f hf
    rw [g4, g2] at g1
    omega
  refine ⟨h', fun f hf => ?_, fun b hb => ?_⟩
  · have e := key f hf
    rw [AB] at e
    have e := Int.eq_of_mul_eq_mul_right (by omega) e
    rw [es, es', redF_of Lp Gp (h.2 f hf).1 (hm f hf), ← e]
    exact redF_of Lp' Gp' (lowD_pos (fq f hf)) (hm' _ (List.mem_map_of_mem (f := fun f : FR => lowF (f.1 * p) (f.2 * q)) hf))
  · rw [es, es']
    have bq : b.2 * q ≠ 0 := Int.mul_ne_zero (by omega) (by omega)
    have e3 := lowT_self (u := b.1 * p) bq
    have dp := lowD_pos (u := b.1 * p) bq
    have s1 := lowT_self (u := L) (v := G) (by omega)
    have s2 := lowT_self (u := L') (v := G') (by omega)
    have dp1 := lowD_pos (u := L) (v := G) (by omega)
    have dp2 := lowD_pos (u := L') (v := G') (by omega)
    unfold redF
    refine low_cross (Int.mul_ne_zero (show lowD (b.1 * p) (b.2 * q) ≠ 0 by omega) (show lowD L' G' ≠ 0 by omega)) (Int.mul_ne_zero (by omega) (show lowD L G ≠ 0 by omega)) ?_
    show lowT (b.1 * p) (b.2 * q) * lowT L' G' * (b.2 * lowD L G) = b.1 * lowT L G * (lowD (b.1 * p) (b.2 * q) * lowD L' G')
    generalize lowT (b.1 * p) (b.2 * q) = x at *
    generalize lowD (b.1 * p) (b.2 * q) = y at *
    generalize lowT L G = u at *
    generalize lowD L G = v at *
    generalize lowT L' G' = u' at *
    generalize lowD L' G' = v' at *
    refine cancel3 (k := q * G' * G) (Int.mul_ne_zero (Int.mul_ne_zero (by omega) (by omega)) (by omega)) ?_
    calc q * G' * G * (x * u' * (b.2 * v)) = (x * (b.2 * q)) * (u' * G') * (v * G) := by ac_rfl
      _ = (b.1 * p * y) * (L' * v') * (v * G) := by rw [e3, s2]
      _ = b.1 * y * v' * v * (L' * p * G) := by ac_rfl
      _ = b.1 * y * v' * v * (G' * q * L) := by rw [AB]
      _ = b.1 * (L * v) * y * v' * q * G' := by ac_rfl
      _ = b.1 * (u * G) * y * v' * q * G' := by rw [s1]
      _ = q * G' * G * (b.1 * u * (y * v')) := by ac_rfl
/-! ### sums of fractions -/
def addL (f g : FR) : FR := lowF (f.1 * g.2 + g.1 * f.2) (f.2 * g.2)
def subL (f g : FR) : FR := lowF (f.1 * g.2 - g.1 * f.2) (f.2 * g.2)
def mulL (f g : FR) : FR := lowF (f.1 * g.1) (f.2 * g.2)
def negF (f : FR) : FR := (-f.1, f.2)
def Nf (f : FR) : Prop := 0 < f.2 ∧ Int.gcd f.1 f.2 = 1
theorem nf_low {u v : Int} (h : v ≠ 0) : Nf (lowF u v) := ⟨lowD_pos h, low_gcd h⟩
theorem low_nf {f : FR} (h : Nf f) : lowF f.1 f.2 = f := by
  obtain ⟨a, b⟩ := low_one h.1 h.2
  unfold lowF
  rw [a, b]
theorem Nf.neg {f : FR} (h : Nf f) : Nf (negF f) := ⟨h.1, by show Int.gcd (-f.1) f.2 = 1; rw [Int.neg_gcd]; exact h.2⟩
theorem nf_01 : Nf (0, 1) := ⟨by decide, by decide⟩
theorem nf_11 : Nf (1, 1) := ⟨by decide, by decide⟩
theorem addL_nf {f g : FR} (hf : 0 < f.2) (hg : 0 < g.2) : Nf (addL f g) := nf_low (Int.mul_ne_zero (by omega) (by omega))
theorem subL_nf {f g : FR} (hf : 0 < f.2) (hg : 0 < g.2) : Nf (subL f g) := nf_low (Int.mul_ne_zero (by omega) (by omega))
theorem sub_add {a b c : FR} (ha : 0 < a.2) (hb : 0 < b.2) (hc : 0 < c.2) : addL (subL a b) (negF c) = subL a (addL b c) := by
  have v1 : a.2 * b.2 ≠ 0 := Int.mul_ne_zero (by omega) (by omega)
  have v2 : b.2 * c.2 ≠ 0 := Int.mul_ne_zero (by omega) (by omega)
  have e1 := lowT_self (u := a.1 * b.2 - b.1 * a.2) v1
  have e2 := lowT_self (u := b.1 * c.2 + c.1 * b.2) v2
  have p1 := lowD_pos (u := a.1 * b.2 - b.1 * a.2) v1
  have p2 := lowD_pos (u := b.1 * c.2 + c.1 * b.2) v2
  unfold addL subL negF
  unfold lowF at *
  dsimp only at *
  generalize lowT (a.1 * b.2 - b.1 * a.2) (a.2 * b.2) = t1 at *
  generalize lowD (a.1 * b.2 - b.1 * a.2) (a.2 * b.2) = d1 at *
  generalize lowT (b.1 * c.2 + c.1 * b.2) (b.2 * c.2) = t2 at *
  generalize lowD (b.1 * c.2 + c.1 * b.2) (b.2 * c.2) = d2 at *
  refine low_cross (Int.mul_ne_zero (by omega) (by omega)) (Int.mul_ne_zero (by omega) (by omega)) ?_
  refine Int.eq_of_mul_eq_mul_right (a := a.2 * b.2 * (b.2 * c.2)) (Int.mul_ne_zero v1 v2) ?_
  generalize a.1 = a1 at *
  generalize a.2 = a2 at *
  generalize b.1 = b1 at *
  generalize b.2 = b2 at *
  generalize c.1 = c1 at *
  generalize c.2 = c2 at *
  grind
theorem sub_zero {a : FR} (h : Nf a) : subL a (0, 1) = a := by
  unfold subL
  dsimp only
  rw [Int.mul_one, Int.zero_mul, Int.sub_zero, Int.mul_one]
  exact low_nf h
theorem lowF_neg {u v : Int} (h : v ≠ 0) : lowF (-u) v = negF (lowF u v) := by
  have n := (nf_low (u := u) h).neg
  rw [← low_nf n]
  have e := lowT_self (u := u) h
  have p := lowD_pos (u := u) h
  refine low_cross h (by show lowD u v ≠ 0; omega) ?_
  show -u * lowD u v = -lowT u v * v
  rw [Int.neg_mul, Int.neg_mul, e]
theorem sub_anti {a b : FR} (ha : 0 < a.2) (hb : 0 < b.2) : subL b a = negF (subL a b) := by
  unfold subL
  have v1 : a.2 * b.2 ≠ 0 := Int.mul_ne_zero (by omega) (by omega)
  rw [← lowF_neg v1, Int.mul_comm b.2 a.2]
  congr 1
  omega
theorem low_zero {u v : Int} (h : v ≠ 0) : (lowF u v).1 = 0 ↔ u = 0 := by
  have e := lowT_self (u := u) h
  have p := lowD_pos (u := u) h
  show lowT u v = 0 ↔ u = 0
  constructor
  · intro z
    rw [z, Int.zero_mul] at e
    rcases Int.mul_eq_zero.mp e.symm with y | y
    · exact y
    · omega
  · intro z
    subst z
    rw [Int.zero_mul] at e
    rcases Int.mul_eq_zero.mp e with y | y
    · exact y
    · exact absurd y h
theorem neg_neg {f : FR} : negF (negF f) = f := by
  unfold negF
  rw [Int.neg_neg]
/-- the rate of a name in a list of rates -/
abbrev It := List Nat × FR
def sumX (x : List Nat) (acc : FR) (l : List It) : FR := l.foldl (fun a it => if it.1 = x then addL a it.2 else a) acc
theorem sumX_nf (x : List Nat) : ∀ (l : List It) (acc : FR), Nf acc → (∀ it ∈ l, Nf it.2) → Nf (sumX x acc l)
  | [], _, h, _ => h
  | it :: l, acc, h, hl => by
    refine sumX_nf x l _ ?_ fun i hi => hl i (List.mem_cons_of_mem _ hi)
    show Nf (if it.1 = x then addL acc it.2 else acc)
    split
    · exact addL_nf h.1 (hl it List.mem_cons_self).1
    · exact h
theorem sumX_sub (x : List Nat) (a : FR) (ha : Nf a) : ∀ (l : List It) (b : FR), Nf b → (∀ it ∈ l, Nf it.2) → sumX x (subL a b) (l.map fun it => (it.1, negF it.2)) = subL a (sumX x b l)
  | [], _, _, _ => rfl
  | it :: l, b, hb, hl => by
    have h1 := hl it List.mem_cons_self
    have ih := fun b hb => sumX_sub x a ha l b hb fun i hi => hl i (List.mem_cons_of_mem _ hi)
    show sumX x (if it.1 = x then addL (subL a b) (negF it.2) else subL a b) _ = subL a (sumX x (if it.1 = x then addL b it.2 else b) l)
    split
    · rw [sub_add ha.1 hb.1 h1.1]
      exact ih _ (addL_nf hb.1 h1.1)
    · exact ih _ hb
theorem sumX_app (x : List Nat) (acc : FR) (l r : List It) : sumX x acc (l ++ r) = sumX x (sumX x acc l) r := List.foldl_append
theorem sumX_law (x : List Nat) {l r : List It} (hl : ∀ it ∈ l, Nf it.2) (hr : ∀ it ∈ r, Nf it.2) : sumX x (0, 1) (l ++ r.map fun it => (it.1, negF it.2)) = subL (sumX x (0, 1) l) (sumX x (0, 1) r) := by
  have h := sumX_nf x l (0, 1) nf_01 hl
  rw [sumX_app, ← sumX_sub x _ h r _ nf_01 hr, sub_zero h]
theorem sumX_none (x : List Nat) : ∀ (l : List It) (acc : FR), (∀ it ∈ l, it.1 ≠ x) → sumX x acc l = acc
  | [], _, _ => rfl
  | it :: l, acc, h => by
    show sumX x (if it.1 = x then _ else acc) l = acc
    rw [if_neg (h it List.mem_cons_self)]
    exact sumX_none x l acc fun i hi => h i (List.mem_cons_of_mem _ hi)
/-! ### sizes -/
def Bn (k : Nat) (f : FR) : Prop := f.1.natAbs < 2 ^ k ∧ f.2.natAbs < 2 ^ k
theorem Bn.mono {k j : Nat} {f : FR} (h : Bn k f) (l : k ≤ j) : Bn j f := ⟨Nat.lt_of_lt_of_le h.1 (Nat.pow_le_pow_right (by decide) l), Nat.lt_of_lt_of_le h.2 (Nat.pow_le_pow_right (by decide) l)⟩
theorem Bn.low {k : Nat} {u v : Int} (h : v ≠ 0) (h1 : u.natAbs < 2 ^ k) (h2 : v.natAbs < 2 ^ k) : Bn k (lowF u v) :=
  ⟨Nat.lt_of_le_of_lt (lowT_abs h) h1, Nat.lt_of_le_of_lt (lowD_abs h) h2⟩
theorem pow_mul_lt {k j a b : Nat} (h1 : a < 2 ^ k) (h2 : b < 2 ^ j) : a * b < 2 ^ (k + j) := by
  rw [Nat.pow_add]
  exact Nat.mul_lt_mul'' h1 h2
theorem Bn.add {k j : Nat} {f g : FR} (hf : Bn k f) (hg : Bn j g) (pf : 0 < f.2) (pg : 0 < g.2) : Bn (k + j + 1) (addL f g) := by
  refine Bn.low (Int.mul_ne_zero (by omega) (by omega)) ?_ ?_
  · have h1 : (f.1 * g.2).natAbs < 2 ^ (k + j) := by rw [Int.natAbs_mul]; exact pow_mul_lt hf.1 hg.2
    have h2 : (g.1 * f.2).natAbs < 2 ^ (k + j) := by rw [Int.natAbs_mul, Nat.mul_comm]; exact pow_mul_lt hf.2 hg.1
    have := Int.natAbs_add_le (f.1 * g.2) (g.1 * f.2)
    rw [Nat.pow_succ]
    omega
  · have h1 : (f.2 * g.2).natAbs < 2 ^ (k + j) := by rw [Int.natAbs_mul]; exact pow_mul_lt hf.2 hg.2
    rw [Nat.pow_succ]
    omega
theorem Bn.sub {k j : Nat} {f g : FR} (hf : Bn k f) (hg : Bn j g) (pf : 0 < f.2) (pg : 0 < g.2) : Bn (k + j + 1) (subL f g) := by
  refine Bn.low (Int.mul_ne_zero (by omega) (by omega)) ?_ ?_
  · have h1 : (f.1 * g.2).natAbs < 2 ^ (k + j) := by rw [Int.natAbs_mul]; exact pow_mul_lt hf.1 hg.2
    have h2 : (g.1 * f.2).natAbs < 2 ^ (k + j) := by rw [Int.natAbs_mul, Nat.mul_comm]; exact pow_mul_lt hf.2 hg.1
    have := Int.natAbs_sub_le (f.1 * g.2) (g.1 * f.2)
    rw [Nat.pow_succ]
    omega
  · have h1 : (f.2 * g.2).natAbs < 2 ^ (k + j) := by rw [Int.natAbs_mul]; exact pow_mul_lt hf.2 hg.2
    rw [Nat.pow_succ]
    omega
theorem Bn.mul {k j : Nat} {f g : FR} (hf : Bn k f) (hg : Bn j g) (pf : 0 < f.2) (pg : 0 < g.2) : Bn (k + j) (mulL f g) :=
  Bn.low (Int.mul_ne_zero (by omega) (by omega)) (by rw [Int.natAbs_mul]; exact pow_mul_lt hf.1 hg.1) (by rw [Int.natAbs_mul]; exact pow_mul_lt hf.2 hg.2)
theorem Bn.neg {k : Nat} {f : FR} (h : Bn k f) : Bn k (negF f) := ⟨by show (-f.1).natAbs < _; rw [Int.natAbs_neg]; exact h.1, h.2⟩
def bw (f : FR) : Nat := f.1.natAbs.log2 + f.2.natAbs.log2 + 1
theorem bw_bn (f : FR) : Bn (bw f) f := by
  have key : ∀ n : Nat, n < 2 ^ (n.log2 + 1) := fun n => Nat.lt_log2_self
  exact ⟨Nat.lt_of_lt_of_le (key _) (Nat.pow_le_pow_right (by decide) (by unfold bw; omega)), Nat.lt_of_lt_of_le (key _) (Nat.pow_le_pow_right (by decide) (by unfold bw; omega))⟩
def wIt (l : List It) : Nat := (l.map fun it => bw it.2 + 1).sum
theorem sumX_bn (x : List Nat) : ∀ (l : List It) (acc : FR) (k : Nat), Nf acc → Bn k acc → (∀ it ∈ l, Nf it.2) → Bn (k + wIt l) (sumX x acc l)
  | [], _, _, _, h, _ => h
  | it :: l, acc, k, hn, h, hl => by
    have h1 := hl it List.mem_cons_self
    have e : k + wIt (it :: l) = k + bw it.2 + 1 + wIt l := by
      unfold wIt
      rw [List.map_cons, List.sum_cons]
      omega
    rw [e]
    show Bn _ (sumX x (if it.1 = x then addL acc it.2 else acc) l)
    have hl' : ∀ i ∈ l, Nf i.2 := fun i hi => hl i (List.mem_cons_of_mem _ hi)
    split
    · exact sumX_bn x l _ _ (addL_nf hn.1 h1.1) (Bn.add h (bw_bn _) hn.1 h1.1) hl'
    · exact sumX_bn x l _ _ hn (h.mono (by omega)) hl'
theorem bn_01 : Bn 1 (0, 1) := ⟨by decide, by decide⟩
theorem log_bn {k : Nat} {z : Int} (h : z.natAbs < 2 ^ k) (hk : k ≤ 4096) : z.natAbs.log2 < 4096 ∨ z = 0 := by
  by_cases h0 : z.natAbs = 0
  · exact .inr (by omega)
  · exact .inl ((Nat.log2_lt h0).mpr (Nat.lt_of_lt_of_le h (Nat.pow_le_pow_right (by decide) hk)))
theorem log_lt {k : Nat} {n : Nat} (h : n < 2 ^ k) (hk : 0 < k) : n.log2 < k := by
  by_cases h0 : n = 0
  · rw [h0, Nat.log2_zero]
    exact hk
  · exact (Nat.log2_lt h0).mpr h
/-! ### walks over the keys of a dict -/
theorem for_keys {d : Addr} {od : Obj} {kvs : List (Key × V)} {g : TG} {tb : TS} {D : Ends} {σ : L2.St} {H : Hp} (Pv : Nat → L2.St → Hp → Prop) (h0 : Pv 0 σ H) (hf : ∀ i σ H, Pv i σ H → H d = some (.frz od (.dK kvs)))
    (hs : ∀ i k v σ H, kvs[i]? = some (k, v) → Pv i σ H → g (kV k) σ H fun σ2 H2 => tb { nx := Pv (i + 1), rt := D.rt, bk := D.nx, ct := Pv (i + 1) } σ2 H2) (hd : ∀ σ H, Pv kvs.length σ H → D.nx σ H) :
    ∃ W : Nat → Nat → L2.St → Hp → Prop, (∃ m, W 0 m σ H) ∧ ∀ i m σ H, W i m σ H →
      ((Itk d od kvs).stop i H ∧ D.nx σ H) ∨ ((Itk d od kvs).go i H ∧ ∃ N : L2.St → Hp → Prop, (∀ σ' H', N σ' H' → ∃ m', m' < m ∧ W (i + 1) m' σ' H') ∧ ∀ x H', (Itk d od kvs).yld i H x H' → g x σ H' fun σ2 H2 => tb { nx := N, rt := D.rt, bk := D.nx, ct := N } σ2 H2) := by
  refine ⟨fun i m σ H => m = kvs.length - i ∧ i ≤ kvs.length ∧ Pv i σ H, ⟨_, rfl, Nat.zero_le _, h0⟩, ?_⟩
  rintro i m σ H ⟨rfl, hi, p⟩
  by_cases hlt : i < kvs.length
  · refine .inr ⟨⟨hf _ _ _ p, hlt⟩, Pv (i + 1), fun σ' H' p' => ⟨kvs.length - (i + 1), by omega, rfl, hlt, p'⟩, fun y H' q => ?_⟩
    obtain ⟨e, k, v, hc, ev⟩ := q
    subst e ev
    exact hs i k v _ _ hc p
  · have e : i = kvs.length := by omega
    subst e
    exact .inl ⟨⟨hf _ _ _ p, Nat.le_refl _⟩, hd _ _ p⟩
theorem lc_keys {d : Addr} {od : Obj} {kvs : List (Key × V)} {g : TG} {tt : L2.TT} {te : TE} {vs : List Nat} {σ : L2.St} {H1 : Hp} {D : Addr} {Qd : Hp → Prop} (Pv : Nat → Hp → Prop) (h0 : Pv 0 (upd H1 D (.lst []))) (hf : ∀ i H, Pv i H → H d = some (.frz od (.dK kvs)))
    (hs : ∀ i k v H, kvs[i]? = some (k, v) → Pv i H → g (kV k) (wipe σ vs) H fun σ2 H2 => wipe σ2 vs = wipe σ vs ∧ tt σ2 H2 fun b H3 =>
      if b = true then te σ2 H3 fun y H4 => ∃ acc, H4 D = some (.lst acc) ∧ acc.length < sizeLine ∧ Pv (i + 1) (upd H4 D (.lst (acc ++ [y]))) else Pv (i + 1) H3) (hd : ∀ H, Pv kvs.length H → Qd H) :
    ∃ W : Nat → Nat → Hp → Prop, (∃ m, W 0 m (upd H1 D (.lst []))) ∧ ∀ i m H, W i m H →
      ((Itk d od kvs).stop i H ∧ Qd H) ∨ ((Itk d od kvs).go i H ∧ ∃ Nx : Hp → Prop, (∀ H', Nx H' → ∃ m', m' < m ∧ W (i + 1) m' H') ∧ ∀ y H', (Itk d od kvs).yld i H y H' → g y (wipe σ vs) H' fun σ2 H2 => wipe σ2 vs = wipe σ vs ∧ tt σ2 H2 fun b H3 =>
        if b = true then te σ2 H3 fun y H4 => ∃ acc, H4 D = some (.lst acc) ∧ acc.length < sizeLine ∧ Nx (upd H4 D (.lst (acc ++ [y]))) else Nx H3) := by
  refine ⟨fun i m H => m = kvs.length - i ∧ i ≤ kvs.length ∧ Pv i H, ⟨_, rfl, Nat.zero_le _, h0⟩, ?_⟩
  rintro i m H ⟨rfl, hi, p⟩
  by_cases hlt : i < kvs.length
  · refine .inr ⟨⟨hf _ _ p, hlt⟩, Pv (i + 1), fun H' p' => ⟨kvs.length - (i + 1), by omega, rfl, hlt, p'⟩, fun y H' q => ?_⟩
    obtain ⟨e, k, v, hc, ev⟩ := q
    subst e ev
    exact hs i k v _ hc p
  · have e : i = kvs.length := by omega
    subst e
    exact .inl ⟨⟨hf _ _ p, Nat.le_refl _⟩, hd _ p⟩
/-- all but what stands at b -/
def Ex (b : Addr) (H G : Hp) : Prop := ∀ c o, H c = some o → c ≠ b → G c = some o
theorem Ex.same {H G G' : Hp} {b : Addr} (h : Ex b H G) (s : Same G G') : Ex b H G' := fun c o e n => s _ _ (h c o e n)
theorem Ex.back {H G : Hp} {b : Addr} {u : HO} (h : Ex b H G) (hb : H b = some u) : Same H (upd G b u) := fun c o e => by
  by_cases n : c = b
  · subst n
    rw [hb] at e
    cases e
    exact upd_same
  · rw [upd_ne n]
    exact h c o e n
theorem Ex.upd {H G : Hp} {b d : Addr} {u : HO} (h : Ex b H G) (nd : H d = none) : Ex b H (upd G d u) := fun c o e n => by
  rw [upd_ne (ne_of_none e nd)]
  exact h c o e n
theorem not_take {N : List (List Nat)} (h : N.Nodup) {i : Nat} {x : List Nat} (e : N[i]? = some x) : x ∉ N.take i := fun m => by
  obtain ⟨j, ej⟩ := List.mem_iff_getElem?.mp m
  have hj := (List.getElem?_eq_some_iff.mp ej).1
  rw [List.length_take] at hj
  rw [List.getElem?_take_of_lt (by omega)] at ej
  obtain ⟨hi, ei⟩ := List.getElem?_eq_some_iff.mp e
  obtain ⟨hj2, ej2⟩ := List.getElem?_eq_some_iff.mp ej
  exact (List.pairwise_iff_getElem.mp h) j i hj2 hi (by omega) (by rw [ei, ej2])
theorem lcmF_app (u : Int) : ∀ l r : List FR, lcmF u (l ++ r) = lcmF (lcmF u l) r := fun l r => by
  induction l generalizing u with
  | nil => rfl
  | cons f l ih => exact ih _
theorem gcdF_app (L g : Int) : ∀ l r : List FR, gcdF L g (l ++ r) = gcdF L (gcdF L g l) r := fun l r => by
  induction l generalizing g with
  | nil => rfl
  | cons f l ih => exact ih _
theorem gcdF_nn (L : Int) : ∀ (rs : List FR) (g : Int), 0 ≤ g → 0 ≤ gcdF L g rs
  | [], _, h => h
  | _ :: r, _, _ => gcdF_nn L r _ (Int.natCast_nonneg _)
def BdF (f : FR) : Prop := Bn 800 f ∧ 0 < f.2
abbrev frP (f : FR) : PyData := .tuple [.int f.1, .int f.2]
abbrev tmP (t : List Nat × FR) : PyData := .tuple [.str (SX.S t.1), frP t.2]
abbrev tieP (tl : List (List Nat × FR)) (b : FR) : PyData := .tuple [.tuple (tl.map tmP), frP b]
def rts (tl : List (List Nat × FR)) : List FR := tl.map (·.2)
def redL (tl : List (List Nat × FR)) : List (List Nat × FR) := tl.map fun t => (t.1, redF (scl (rts tl)) t.2)
abbrev redP (tl : List (List Nat × FR)) (b : FR) : PyData := tieP (redL tl) (redF (scl (rts tl)) b)
def TlOk (tl : List (List Nat × FR)) : Prop := (tl.length = 1 ∨ tl.length = 2) ∧ ∀ t ∈ tl, t.2.1 ≠ 0 ∧ BdF t.2 ∧ t.1.length ≤ 7
theorem TlOk.rs {tl : List (List Nat × FR)} (h : TlOk tl) : RsOk (rts tl) := by
  refine ⟨fun z => ?_, fun f hf => ?_⟩
  · cases tl with
    | nil => have := h.1; simp at this
    | cons t r => cases z
  · obtain ⟨t, ht, rfl⟩ := List.mem_map.mp hf
    exact ⟨(h.2 t ht).2.1.2, (h.2 t ht).1⟩
theorem step_le {u d : Int} (hu : 0 < u) (hd : 0 < d) : (u * d).fdiv (Int.gcd u d : Nat) ≤ u * d := by
  have gp : 0 < Int.gcd u d := gcd_pos (by omega)
  have h := Int.mul_pos hu hd
  rw [Int.fdiv_eq_ediv_of_nonneg _ (by omega)]
  exact Int.ediv_le_self _ (by omega)
theorem tl_sizes {tl : List (List Nat × FR)} (h : TlOk tl) : ∀ i, 0 < lcmF 1 (rts (tl.take i)) ∧ (lcmF 1 (rts (tl.take i))).natAbs < 2 ^ 1600 := fun i => by
  have hd : ∀ f ∈ rts (tl.take i), 0 < f.2 ∧ f.2.natAbs < 2 ^ 800 := fun f hf => by
    obtain ⟨t, ht, rfl⟩ := List.mem_map.mp hf
    have := (h.2 t (List.mem_of_mem_take ht)).2.1
    exact ⟨this.2, this.1.2⟩
  have hl : (rts (tl.take i)).length ≤ 2 := by
    unfold rts
    rw [List.length_map, List.length_take]
    have := h.1
    omega
  refine ⟨(lcmF_ok _ 1 (by decide) fun f hf => (hd f hf).1).1, ?_⟩
  have one : ∀ f : FR, 0 < f.2 → (1 * f.2).fdiv (Int.gcd 1 f.2 : Nat) = f.2 := fun f _ => by
    rw [Int.one_mul, Int.gcd_comm, Int.gcd_one_right]
    exact Int.fdiv_one _
  match rts (tl.take i), hl, hd with
  | [], _, _ => exact Nat.lt_of_lt_of_le (show 1 < 2 ^ 1 by decide) (Nat.pow_le_pow_right (by decide) (by decide))
  | [f], _, hd =>
    show ((1 * f.2).fdiv _).natAbs < _
    rw [one f (hd f List.mem_cons_self).1]
    exact Nat.lt_of_lt_of_le (hd f List.mem_cons_self).2 (Nat.pow_le_pow_right (by decide) (by decide))
  | [f, g], _, hd =>
    show ((((1 * f.2).fdiv (Int.gcd 1 f.2 : Nat)) * g.2).fdiv (Int.gcd ((1 * f.2).fdiv (Int.gcd 1 f.2 : Nat)) g.2 : Nat)).natAbs < _
    have hf := hd f List.mem_cons_self
    have hg := hd g (List.mem_cons_of_mem _ List.mem_cons_self)
    rw [one f hf.1]
    have h1 := step_le hf.1 hg.1
    have h2 : 0 ≤ (f.2 * g.2).fdiv (Int.gcd f.2 g.2 : Nat) := by
      have := Int.mul_pos hf.1 hg.1
      rw [Int.fdiv_eq_ediv_of_nonneg _ (by omega)]
      exact Int.ediv_nonneg (by omega) (by omega)
    have h3 : (f.2 * g.2).natAbs < 2 ^ (800 + 800) := by rw [Int.natAbs_mul]; exact pow_mul_lt hf.2 hg.2
    exact Nat.lt_of_le_of_lt (show ((f.2 * g.2).fdiv (Int.gcd f.2 g.2 : Nat)).natAbs ≤ (f.2 * g.2).natAbs by omega) h3
  | _ :: _ :: _ :: _, h, _ => simp at h
theorem lcm_first {t : List Nat × FR} {r : List (List Nat × FR)} (h : TlOk (t :: r)) : ∃ e : Nat, e < 2 ^ 800 ∧ (lcmF 1 (rts (t :: r))).natAbs ≤ t.2.2.natAbs * e := by
  have one : ∀ f : FR, 0 < f.2 → (1 * f.2).fdiv (Int.gcd 1 f.2 : Nat) = f.2 := fun f _ => by
    rw [Int.one_mul, Int.gcd_comm, Int.gcd_one_right]
    exact Int.fdiv_one _
  have ht := (h.2 t List.mem_cons_self).2.1
  match r, h with
  | [], h =>
    refine ⟨1, Nat.lt_of_lt_of_le (show 1 < 2 ^ 1 by decide) (Nat.pow_le_pow_right (by decide) (by decide)), ?_⟩
    show ((1 * t.2.2).fdiv _).natAbs ≤ _
    rw [one t.2 ht.2, Nat.mul_one]
    exact Nat.le_refl _
  | [g], h =>
    have hg := (h.2 g (List.mem_cons_of_mem _ List.mem_cons_self)).2.1
    refine ⟨g.2.2.natAbs, hg.1.2, ?_⟩
    show ((((1 * t.2.2).fdiv (Int.gcd 1 t.2.2 : Nat)) * g.2.2).fdiv (Int.gcd ((1 * t.2.2).fdiv (Int.gcd 1 t.2.2 : Nat)) g.2.2 : Nat)).natAbs ≤ _
    rw [one t.2 ht.2, ← Int.natAbs_mul]
    have h1 := step_le ht.2 hg.2
    have h2 : 0 ≤ (t.2.2 * g.2.2).fdiv (Int.gcd t.2.2 g.2.2 : Nat) := by
      have := Int.mul_pos ht.2 hg.2
      rw [Int.fdiv_eq_ediv_of_nonneg _ (by omega)]
      exact Int.ediv_nonneg (by omega) (by omega)
    omega
  | _ :: _ :: _, h => exact absurd h.1 (by simp)
theorem scl_ok {tl : List (List Nat × FR)} (h : TlOk tl) : 0 < lcmF 1 (rts tl) ∧ (lcmF 1 (rts tl)).natAbs < 2 ^ 1600 ∧ 0 < gcdF (lcmF 1 (rts tl)) 0 (rts tl) ∧ (gcdF (lcmF 1 (rts tl)) 0 (rts tl)).natAbs < 2 ^ 1600 := by
  obtain ⟨L, G, Lp, Gp, eL, eG, m, hm, hg⟩ := red_facts h.rs
  have s := tl_sizes h tl.length
  rw [List.take_length] at s
  rw [eL] at s ⊢
  rw [eG]
  refine ⟨Lp, s.2, Gp, ?_⟩
  obtain ⟨t, r, rfl⟩ : ∃ t r, tl = t :: r := by
    cases tl with
    | nil => have := h.1; simp at this
    | cons t r => exact ⟨t, r, rfl⟩
  obtain ⟨e0, he0, hL⟩ := lcm_first h
  rw [eL] at hL
  have e := hm t.2 List.mem_cons_self
  have ht := h.2 t List.mem_cons_self
  have e2 : L.natAbs * t.2.1.natAbs = (m t.2 * t.2.2).natAbs * G.natAbs := by
    rw [← Int.natAbs_mul, ← Int.natAbs_mul, ← e, Int.mul_right_comm]
  have ne : (m t.2 * t.2.2).natAbs ≠ 0 := fun z => by
    rw [z, Nat.zero_mul] at e2
    have := Nat.mul_eq_zero.mp e2
    have := ht.1
    omega
  rw [Int.natAbs_mul] at e2 ne
  have mp : 0 < (m t.2).natAbs := Nat.pos_of_ne_zero fun z => ne (by rw [z, Nat.zero_mul])
  have dp : 0 < t.2.2.natAbs := Nat.pos_of_ne_zero fun z => ne (by rw [z, Nat.mul_zero])
  have h1 : t.2.2.natAbs * G.natAbs ≤ t.2.2.natAbs * (e0 * t.2.1.natAbs) := by
    refine Nat.le_trans ?_ (show L.natAbs * t.2.1.natAbs ≤ _ from Nat.le_trans (Nat.mul_le_mul_right _ hL) (Nat.le_of_eq (Nat.mul_assoc _ _ _)))
    rw [e2, Nat.mul_assoc]
    exact Nat.le_mul_of_pos_left _ mp
  have h2 := Nat.le_of_mul_le_mul_left h1 dp
  exact Nat.lt_of_le_of_lt h2 (pow_mul_lt (k := 800) (j := 800) he0 ht.2.1.1.1)
theorem scl_sm {tl : List (List Nat × FR)} (h : TlOk tl) : Bn 1600 (scl (rts tl)) ∧ 0 < (scl (rts tl)).2 ∧ 0 < (scl (rts tl)).1 := by
  obtain ⟨h1, h2, h3, h4⟩ := scl_ok h
  unfold scl lowF
  generalize lcmF 1 (rts tl) = L at *
  generalize gcdF L 0 (rts tl) = G at *
  have d := lowD_pos (u := L) (v := G) (by omega)
  have e := lowT_self (u := L) (v := G) (by omega)
  refine ⟨Bn.low (by omega) h2 h4, d, ?_⟩
  show 0 < lowT L G
  have := Int.mul_pos h1 d
  rw [← e] at this
  rcases Int.lt_trichotomy (lowT L G) 0 with h | h | h
  · have := Int.mul_neg_of_neg_of_pos h h3
    omega
  · rw [h, Int.zero_mul] at this
    omega
  · exact h
section
variable {P : Program} {w : World} {K : PySem.W.Frag} {mg : Str → Option Value} {base : Heap} {fa : Nat → Addr} {fd : Nat → FuncData}
theorem low_mul_bd {f g : FR} {k m : Nat} (hf : Bn k f) (hg : Bn m g) (hk : k + m ≤ 4096) (h : f.2 * g.2 ≠ 0) : Bd (lowT (f.1 * g.1) (f.2 * g.2)) ∧ Bd (lowD (f.1 * g.1) (f.2 * g.2)) := by
  have mm : ∀ {x y : Int}, x.natAbs < 2 ^ k → y.natAbs < 2 ^ m → (x * y).natAbs < 2 ^ 4096 := fun hx hy => by
    rw [Int.natAbs_mul]
    exact Nat.lt_of_lt_of_le (pow_mul_lt hx hy) (Nat.pow_le_pow_right (by decide) hk)
  exact ⟨log_lt (Nat.lt_of_le_of_lt (lowT_abs h) (mm hf.1 hg.1)) (by decide), log_lt (Nat.lt_of_le_of_lt (lowD_abs h) (mm hf.2 hg.2)) (by decide)⟩
theorem bd_bn {z : Int} {k : Nat} (h : z.natAbs < 2 ^ k) (hk : k ≤ 4096) : Bd z := log_lt (Nat.lt_of_lt_of_le h (Nat.pow_le_pow_right (by decide) hk)) (by decide)
theorem dt_fr {z : Addr} {H : Hp} {v : V} {f : FR} (h : Dt z H v (frP f)) : ∃ p, v = .ref p ∧ H p = some (.tup [.int f.1, .int f.2]) := by
  match v, h with
  | _, .tup hp (.cons (.int _ _) (.cons (.int _ _) .nil)) => exact ⟨_, rfl, hp⟩
theorem noLs_tm : ∀ l : List (List Nat × FR), noLs (l.map tmP) = true
  | [] => rfl
  | _ :: l => by
    show (true && noLs (l.map tmP)) = true
    rw [noLs_tm l]
    rfl
def spReduced : Sp := fun vs H Q _ => ∃ v tl b z, vs = [v] ∧ Dt z H v (tieP tl b) ∧ TlOk tl ∧ BdF b ∧ ∀ v' H', Same H H' → Dt z H' v' (redP tl b) → Q v' H'
end
/-! ### what is no tie -/
def BadL : List PyData → Prop
  | [] => True
  | d :: ds => tieD d = false ∧ BadL ds
theorem BadL.mem : ∀ {ds : List PyData} {d : PyData}, BadL ds → d ∈ ds → tieD d = false
  | _ :: _, _, h, e => by
    rcases List.mem_cons.mp e with rfl | e
    · exact h.1
    · exact BadL.mem h.2 e
def BadAll (z : Addr) (H : Hp) (vs : List V) : Prop := ∀ v ∈ vs, ∃ d, Dt z H v d ∧ tieD d = false
theorem badAll {z : Addr} {H : Hp} {vs : List V} {ds : List PyData} (all : DtAll z H vs ds) (h : BadL ds) : BadAll z H vs := fun v hv => by
  obtain ⟨d, hd, k⟩ := all.mem hv
  exact ⟨d, k, h.mem hd⟩
theorem BadAll.same {z : Addr} {H H' : Hp} {vs : List V} (h : BadAll z H vs) (s : Same H H') : BadAll z H' vs := fun v hv => by
  obtain ⟨d, k, e⟩ := h v hv
  exact ⟨d, k.same s, e⟩
theorem BadAll.app {z : Addr} {H : Hp} {vs us : List V} (h : BadAll z H vs) (k : BadAll z H us) : BadAll z H (vs ++ us) := fun v hv => by
  rcases List.mem_append.mp hv with e | e
  · exact h v e
  · exact k v e
theorem bad_rat {t b : PyData} (h : ratD b = false) : tieD (.tuple [t, b]) = false := by
  show (termsD t && ratD b) = false
  rw [h, Bool.and_false]
theorem bad_one {s b : PyData} (h : termD s = false) : tieD (.tuple [.tuple [s], b]) = false := by
  show (termD s && ratD b) = false
  rw [h]
  rfl
theorem bad_name {n r b : PyData} (h : nameD n = false) : tieD (.tuple [.tuple [.tuple [n, r]], b]) = false := bad_one (by
  show (nameD n && ratD r && nonz r) = false
  rw [h]
  rfl)
theorem bad_rate {n r b : PyData} (h : (ratD r && nonz r) = false) : tieD (.tuple [.tuple [.tuple [n, r]], b]) = false := bad_one (by
  show (nameD n && ratD r && nonz r) = false
  rw [Bool.and_assoc, h, Bool.and_false])
theorem bad_order {x y : Str} {r s b : PyData} (h : decide (x.cps.toList < y.cps.toList) = false) : tieD (.tuple [.tuple [.tuple [.str x, r], .tuple [.str y, s]], b]) = false := by
  show ((_ && _ && decide (x.cps.toList < y.cps.toList)) && _) = false
  rw [h, Bool.and_false]
  rfl
theorem bad_terms {ts : List (Str × PyData)} (h : ts.length = 1 ∨ ts.length = 2) : tieD (trmD ts) = false := by
  match ts, h with
  | [_], _ => rfl
  | [_, _], _ => rfl
  | [], h => simp at h
  | _ :: _ :: _ :: _, h => simp at h
theorem ltCps_self : ∀ x : List Nat, ltCps x x = false
  | [] => rfl
  | a :: r => by
    unfold ltCps
    rw [ltCps_self r, decide_eq_false (Nat.lt_irrefl a), Bool.and_false]
    rfl
theorem quotes (x : List Nat) : nameB (x ++ [39, 39]) = false := by
  have e : cutQ (x ++ [39, 39]) = x ++ [39] := by
    unfold cutQ
    have e1 : x ++ [39, 39] = (x ++ [39]) ++ [39] := by simp
    rw [e1, List.getLast?_append, List.getLast?_singleton, Option.some_or, if_pos rfl, List.dropLast_concat]
  unfold nameB letB
  rw [e, List.all_append]
  simp [lowc]
theorem catNew {z : Addr} {H : Hp} {p : Addr} {us vs : List V} {ds : List PyData} (n : H p = none) (all : DtAll z H vs ds) (hb : BadAll z H us) (h : BadL ds) : Same H (L2.upd H p (.lst (us ++ vs))) ∧ BadAll z (L2.upd H p (.lst (us ++ vs))) (us ++ vs) :=
  ⟨same_upd n, (hb.app (badAll all h)).same (same_upd n)⟩
section
variable {P : Program} {w : World} {K : PySem.W.Frag} {mg : Str → Option Value} {base : Heap} {fa : Nat → Addr} {fd : Nat → FuncData}
theorem termD_pair (n r : PyData) : termD (.tuple [n, r]) = (nameD n && (ratD r && nonz r)) := Bool.and_assoc _ _ _
theorem ok_p_is_term (T : Txt K mg fa fd) : FnOk P w K mg base CX0 3 (fa 87) (fd 87) ["thing"] (spD termD) := by
  refine T.F_p_is_term.ok sc_p_is_term (fun vs H Q E h => ?_) (fun cdv A outer s H vs Q E hr h => ?_)
  · obtain ⟨v, d, _, rfl, _⟩ := h
    rfl
  · obtain ⟨v, d, z, rfl, hv, q⟩ := h
    refine ⟨_, (pss_cons (ps_if (PW.pt (pw_or (pt_not (pt_val (pe_callB call_isi (by rfl) T.m_isinstance PyProof.Rows.boot_isinstance (pa_cons (pv 0) (pa_cons (pe_bltn (v := .ty "tuple") (by rfl) T.m_tuple (by decide +kernel) rfl) pa_nil))))) (pw_or1 (pt_cmpR op_ne (pe_callB call_len_seq (by rfl) T.m_len PySem.boot_len (pa_cons (pv 0) pa_nil)) pe_int (nomark _))))) (pss_one (ps_ret pe_bl)) pss_nil)
      (pss_one (ps_ret (pe_and (pe_call (ok_p_is_name T) (hr.mono (by decide)) (by rfl) T.g_p_is_name T.F_p_is_name.kp T.b_p_is_name .nil pass0 (pa_cons (pe_ix ix_tup (pv 0) pe_int (fun _ _ => rfl)) pa_nil)) (pe_and (pe_call (ok_p_is_ratio T) (hr.mono (by decide)) (by rfl) T.g_p_is_ratio T.F_p_is_ratio.kp T.b_p_is_ratio .nil pass0 (pa_cons (pe_ix ix_tup (pv 0) pe_int (fun _ _ => rfl)) pa_nil)) (pe_one (pe_cmpR op_ne (pe_ix ix_tup (pe_ix ix_tup (pv 0) pe_int (fun _ _ => rfl)) pe_int (fun _ _ => rfl)) pe_int (nomark _)))))))), ?_⟩
    refine ⟨_, rfl, _, _, _, _, _, rfl, .ty _, .base hv.ty, kit_ty kitTup, _, rfl, ?_⟩
    rcases hv.split with e | ⟨p, xs, ds, rfl, rfl, hp, hs⟩
    · rw [e]
      refine iteT (iteT ?_)
      have : termD d = false := by cases d <;> first | rfl | cases e
      rw [this] at q
      exact q
    · refine iteF ⟨_, rfl, p, xs, rfl, .inr (SqT.of hp), rfl, _, rfl, ?_⟩
      rw [hs.len]
      match xs, ds, hs with
      | _, [], _ => exact iteT q
      | _, [x], _ => exact iteT q
      | _, x :: y :: z :: r, _ =>
        rw [decide_eq_false (by simp; omega)]
        exact iteT q
      | _, [d1, d2], .cons (v := x) h1 (.cons (v := y) h2 .nil) =>
        rw [decide_eq_true (show V.int (([d1, d2] : List PyData).length : Int) = V.int 2 from rfl)]
        rw [termD_pair] at q
        refine iteF ⟨_, rfl, p, _, _, _, rfl, rfl, SqT.of hp, rfl, x, d1, _, rfl, h1, _, rfl, ?_⟩
        cases e1 : nameD d1 with
        | false =>
          rw [e1] at q
          exact iteF q
        | true =>
          rw [e1, Bool.true_and] at q
          refine iteT ⟨_, rfl, p, _, _, _, rfl, rfl, SqT.of hp, rfl, y, d2, _, rfl, h2, _, rfl, ?_⟩
          cases e2 : ratD d2 with
          | false =>
            rw [e2] at q
            exact iteF q
          | true =>
            rw [e2, Bool.true_and] at q
            obtain ⟨t, u, rfl⟩ := ratD_inv e2
            match y, h2 with
            | _, .tup hy (.cons (.int _ _) (.cons (.int _ _) .nil)) =>
              refine iteT ⟨_, rfl, p, _, _, _, rfl, rfl, SqT.of hp, rfl, _, _, _, _, rfl, rfl, SqT.of hy, rfl, rfl, ?_⟩
              have e : (!decide (V.int t = V.int 0)) = nonz (.tuple [.int t, .int u]) := by
                show _ = decide (t ≠ 0)
                by_cases h : t = 0
                · subst h
                  rfl
                · rw [decide_eq_false (fun z => h (V.int.inj z)), decide_eq_true h]
                  rfl
              rw [e]
              exact q
end
section
variable {P : Program} {w : World} {K : PySem.W.Frag} {mg : Str → Option Value} {base : Heap} {fa : Nat → Addr} {fd : Nat → FuncData}
def spDs (f : PyData → Bool) : Sp := fun vs H Q _ => ∃ v d z, vs = [v] ∧ Dt z H v d ∧ ∀ H', Same H H' → Q (.bl (f d)) H'
theorem termD_inv {d : PyData} (h : termD d = true) : ∃ n r, d = .tuple [.str n, r] := by
  unfold termD at h
  split at h
  · rename_i n r
    rw [Bool.and_eq_true, Bool.and_eq_true] at h
    have h1 := h.1.1
    unfold nameD at h1
    split at h1
    · exact ⟨_, _, rfl⟩
    · cases h1
  · cases h
theorem ok_p_are_terms (T : Txt K mg fa fd) : FnOk P w K mg base CX0 4 (fa 88) (fd 88) ["thing"] (spDs termsD) := by
  refine T.F_p_are_terms.ok sc_p_are_terms (fun vs H Q E h => ?_) (fun cdv A outer s H vs Q E hr h => ?_)
  · obtain ⟨v, d, _, rfl, _⟩ := h
    rfl
  · obtain ⟨v, d, z, rfl, hv, q⟩ := h
    refine ⟨_, (pss_cons (ps_if (PW.pt (pw_or (pt_not (pt_val (pe_callB call_isi (by rfl) T.m_isinstance PyProof.Rows.boot_isinstance (pa_cons (pv 0) (pa_cons (pe_bltn (v := .ty "tuple") (by rfl) T.m_tuple (by decide +kernel) rfl) pa_nil))))) (pw_or1 (pt_cmpR op_notIn_seq (pe_callB call_len_seq (by rfl) T.m_len PySem.boot_len (pa_cons (pv 0) pa_nil)) (pe_tup (pa_cons pe_int (pa_cons pe_int pa_nil))) (by rfl))))) (pss_one (ps_ret pe_bl)) pss_nil)
      (pss_cons (ps_if (pt_not (pt_val (pe_callB (cr_all rfl) (by rfl) T.m_all PyProof.Rows.boot_all (pa_cons (pe_lc (own := [("term", 1)]) (g := gName 1) (tt := tYes) rfl sc_p_are_terms.nd (pi_tup (pv 0)) (blkOk_by (own := [("term", 1)]) (N := ["thing", "term"]) (sc := defScope s_p_are_terms) (by decide +kernel)) (fun _ _ _ _ _ => pg_name (i := 1) sc_p_are_terms.nd rfl (Or.inl rfl)) (fun _ _ _ _ _ => pts_nil) (fun _ _ _ _ _ => (pe_call (ok_p_is_term T) (hr.mono (by decide)) (by rfl) T.g_p_is_term T.F_p_is_term.kp T.b_p_is_term .nil pass0 (pa_cons (pv 1) pa_nil)))) pa_nil)))) (pss_one (ps_ret pe_bl)) pss_nil)
      (pss_one (ps_ret (pe_or (pe_cmpR op_eq (pe_callB call_len_seq (by rfl) T.m_len PySem.boot_len (pa_cons (pv 0) pa_nil)) pe_int (nomark _)) (pe_one (pe_cmpR op_lt_str (pe_ix ix_tup (pe_ix ix_tup (pv 0) pe_int (fun _ _ => rfl)) pe_int (fun _ _ => rfl)) (pe_ix ix_tup (pe_ix ix_tup (pv 0) pe_int (fun _ _ => rfl)) pe_int (fun _ _ => rfl)) (nomark _)))))))), ?_⟩
    refine ⟨_, rfl, _, _, _, _, _, rfl, .ty _, .base hv.ty, kit_ty kitTup, _, rfl, ?_⟩
    rcases hv.split with e | ⟨p, xs, ds, rfl, rfl, hp, hs⟩
    · rw [e]
      refine iteT (iteT ?_)
      have q := q H (Same.refl _)
      have : termsD d = false := by cases d <;> first | rfl | cases e
      rw [this] at q
      exact q
    · refine iteF ⟨_, rfl, p, xs, rfl, .inr (SqT.of hp), two_line, fun p1 n1 => ⟨p1, _, rfl, .inr (SqT.of upd_same), rfl, rfl, _, rfl, ?_⟩⟩
      have s1 := same_upd (o := .tup [V.int 1, V.int 2]) n1
      generalize upd H p1 (.tup [V.int 1, V.int 2]) = H1 at s1
      have cnt : inV (V.int (xs.length : Int)) [V.int 1, V.int 2] = decide (ds.length = 1 ∨ ds.length = 2) := by
        rw [hs.len]
        match ds.length with
        | 0 => rfl
        | 1 => rfl
        | 2 => rfl
        | n + 3 =>
          rw [decide_eq_false (by omega)]
          have b1 : ((1 : Int) == ((n + 3 : Nat) : Int)) = false := beq_eq_false_iff_ne.mpr (by omega)
          have b2 : ((2 : Int) == ((n + 3 : Nat) : Int)) = false := beq_eq_false_iff_ne.mpr (by omega)
          show (((1 : Int) == ((n + 3 : Nat) : Int)) || (((2 : Int) == ((n + 3 : Nat) : Int)) || false)) = false
          rw [b1, b2]
          rfl
      show ite ((!inV (V.int (xs.length : Int)) [V.int 1, V.int 2]) = true) _ _
      rw [cnt]
      by_cases hl : ds.length = 1 ∨ ds.length = 2
      · rw [decide_eq_true hl]
        refine iteF ?_
        -- all
        refine ⟨_, rfl, p, rfl, ⟨_, SqT.of (s1 _ _ hp)⟩, fun D nD => ?_⟩
        have hs1 := hs.same s1
        have s2 : Same H (upd H1 D (.lst [])) := s1.trans (same_upd nD)
        refine lc_tup (K := K) (a := p) (xs := xs) (fun i H2 => Same H H2 ∧ H2 D = some (.lst (((ds.take i).map termD).map V.bl))) ⟨s2, upd_same⟩ (fun i H2 _ hq => SqT.of (hq.1 _ _ hp)) (fun i x H2 hx hq => ?_) (fun H2 hq => ?_)
        · obtain ⟨d, hd, hdt⟩ := DtAll.at i hs hx
          refine ⟨rfl, x, rfl, x, d, _, rfl, hdt.same hq.1, _, hq.2, ?_, ?_, ?_⟩
          · rw [List.length_map, List.length_map, List.length_take]
            exact small1000 (by omega)
          · exact fun b o e => by
              rw [upd_ne (ne_of_none (s1 _ _ e) nD)]
              exact hq.1 b o e
          · rw [upd_same, List.take_add_one, hd, List.map_append, List.map_append]
            rfl
        · rw [hs.len, List.take_length] at hq
          have hD := hq.2
          have s3 := hq.1
          refine ⟨D, _, rfl, .inl (.inl hD), _, rfl, ?_⟩
          have hp3 := s3 _ _ hp
          have hs3 := hs.same s3
          have q := q H2 s3
          cases e : ((ds.map termD).all id) with
          | false =>
            refine iteT ?_
            have : termsD (.tuple ds) = false := by
              match ds, hl, e with
              | [a], _, e => exact (Bool.and_true (termD a)).symm.trans e
              | [a, b], _, e =>
                have e : (termD a && (termD b && true)) = false := e
                rw [Bool.and_true] at e
                show (termD a && termD b && ltD a b) = false
                rw [e]
                rfl
              | _ :: _ :: _ :: _, h, _ => simp at h
            rw [this] at q
            exact q
          | true =>
            refine iteF ⟨_, rfl, p, _, rfl, .inr (SqT.of hp3), rfl, _, rfl, ?_⟩
            rw [hs3.len]
            match xs, ds, hl, e, hs3 with
            | [x], [a], _, e, _ =>
              have : termsD (.tuple [a]) = true := (Bool.and_true (termD a)).symm.trans e
              rw [this] at q
              exact iteT q
            | [x, y], [a, b], _, e, .cons h1 (.cons h2 .nil) =>
              have e : (termD a && (termD b && true)) = true := e
              rw [Bool.and_true, Bool.and_eq_true] at e
              obtain ⟨n1, r1, rfl⟩ := termD_inv e.1
              obtain ⟨n2, r2, rfl⟩ := termD_inv e.2
              match x, h1, y, h2 with
              | _, .tup hx (.cons (.str _ _) (.cons _ .nil)), _, .tup hy (.cons (.str _ _) (.cons _ .nil)) =>
                refine iteF ⟨_, rfl, p, _, _, _, rfl, rfl, SqT.of hp3, rfl, _, _, _, _, rfl, rfl, SqT.of hx, rfl, _, rfl, p, _, _, _, rfl, rfl, SqT.of hp3, rfl, _, _, _, _, rfl, rfl, SqT.of hy, rfl, _, _, rfl, rfl, ?_⟩
                have : termsD (.tuple [.tuple [.str n1, r1], .tuple [.str n2, r2]]) = decide (n1.cps.toList < n2.cps.toList) := by
                  show (_ && _ && _) = _
                  rw [e.1, e.2]
                  rfl
                rw [this] at q
                exact q
            | _, _ :: _ :: _ :: _, h, _, _ => simp at h
      · rw [decide_eq_false hl]
        refine iteT ?_
        have q := q H1 s1
        have : termsD (.tuple ds) = false := by
          match ds, hl with
          | [], _ => rfl
          | [_], h => exact absurd (.inl rfl) h
          | [_, _], h => exact absurd (.inr rfl) h
          | _ :: _ :: _ :: _, _ => rfl
        rw [this] at q
        exact q
end
section
variable {P : Program} {w : World} {K : PySem.W.Frag} {mg : Str → Option Value} {base : Heap} {fa : Nat → Addr} {fd : Nat → FuncData}
theorem ok_p_is_tie (T : Txt K mg fa fd) : FnOk P w K mg base CX0 5 (fa 89) (fd 89) ["thing"] (spDs tieD) := by
  refine T.F_p_is_tie.ok sc_p_is_tie (fun vs H Q E h => ?_) (fun cdv A outer s H vs Q E hr h => ?_)
  · obtain ⟨v, d, _, rfl, _⟩ := h
    rfl
  · obtain ⟨v, d, z, rfl, hv, q⟩ := h
    refine ⟨_, (pss_cons (ps_if (PW.pt (pw_or (pt_not (pt_val (pe_callB call_isi (by rfl) T.m_isinstance PyProof.Rows.boot_isinstance (pa_cons (pv 0) (pa_cons (pe_bltn (v := .ty "tuple") (by rfl) T.m_tuple (by decide +kernel) rfl) pa_nil))))) (pw_or1 (pt_cmpR op_ne (pe_callB call_len_seq (by rfl) T.m_len PySem.boot_len (pa_cons (pv 0) pa_nil)) pe_int (nomark _))))) (pss_one (ps_ret pe_bl)) pss_nil)
      (pss_one (ps_ret (pe_and (pe_call (ok_p_are_terms T) (hr.mono (by decide)) (by rfl) T.g_p_are_terms T.F_p_are_terms.kp T.b_p_are_terms .nil pass0 (pa_cons (pe_ix ix_tup (pv 0) pe_int (fun _ _ => rfl)) pa_nil)) (pe_one (pe_call (ok_p_is_ratio T) (hr.mono (by decide)) (by rfl) T.g_p_is_ratio T.F_p_is_ratio.kp T.b_p_is_ratio .nil pass0 (pa_cons (pe_ix ix_tup (pv 0) pe_int (fun _ _ => rfl)) pa_nil))))))), ?_⟩
    refine ⟨_, rfl, _, _, _, _, _, rfl, .ty _, .base hv.ty, kit_ty kitTup, _, rfl, ?_⟩
    rcases hv.split with e | ⟨p, xs, ds, rfl, rfl, hp, hs⟩
    · rw [e]
      refine iteT (iteT ?_)
      have q := q H (Same.refl _)
      have : tieD d = false := by cases d <;> first | rfl | cases e
      rw [this] at q
      exact q
    · refine iteF ⟨_, rfl, p, xs, rfl, .inr (SqT.of hp), rfl, _, rfl, ?_⟩
      rw [hs.len]
      have q0 := q H (Same.refl _)
      match xs, ds, hs with
      | _, [], _ => exact iteT q0
      | _, [x], _ => exact iteT q0
      | _, x :: y :: z :: r, _ =>
        rw [decide_eq_false (by simp; omega)]
        exact iteT q0
      | _, [d1, d2], .cons (v := x) h1 (.cons (v := y) h2 .nil) =>
        rw [decide_eq_true (show V.int (([d1, d2] : List PyData).length : Int) = V.int 2 from rfl)]
        refine iteF ⟨_, rfl, p, _, _, _, rfl, rfl, SqT.of hp, rfl, x, d1, _, rfl, h1, fun H1 s1 => ⟨_, rfl, ?_⟩⟩
        have q : Q (.bl (termsD d1 && ratD d2)) H1 := q H1 s1
        cases e1 : termsD d1 with
        | false =>
          rw [e1] at q
          exact iteF q
        | true =>
          rw [e1, Bool.true_and] at q
          exact iteT ⟨_, rfl, p, _, _, _, rfl, rfl, SqT.of (s1 _ _ hp), rfl, y, d2, _, rfl, h2.same s1, q⟩
def spNames : Sp := fun vs H Q _ => ∃ v ts b z, vs = [v] ∧ Dt z H v (.tuple [trmD ts, b]) ∧ ts.length ≤ 900 ∧ ∀ D H', H D = none → Same H H' → H' D = some (.lst (ts.map fun t => V.str t.1)) → Q (.ref D) H'
theorem ok_p_names_in (T : Txt K mg fa fd) : FnOk P w K mg base CX0 1 (fa 90) (fd 90) ["tie"] spNames := by
  refine T.F_p_names_in.ok sc_p_names_in (fun vs H Q E h => ?_) (fun cdv A outer s H vs Q E hr h => ?_)
  · obtain ⟨v, ts, b, _, rfl, _⟩ := h
    rfl
  · obtain ⟨v, ts, b, z, rfl, hv, hz, q⟩ := h
    refine ⟨_, (pss_one (ps_ret (pe_lc (own := [("name", 1), ("rate", 2)]) (g := gTup K 2 (gCons (gName 1) (gCons (gName 2) gNil))) (tt := tYes) rfl sc_p_names_in.nd (pi_tup (pe_ix ix_tup (pv 0) pe_int (fun _ _ => rfl))) (blkOk_by (own := [("name", 1), ("rate", 2)]) (N := ["tie", "name", "rate"]) (sc := defScope s_p_names_in) (by decide +kernel)) (fun _ _ _ _ _ => pg_tup rfl (pgs_cons (pg_name (i := 1) sc_p_names_in.nd rfl (Or.inl rfl)) (pgs_cons (pg_name (i := 2) sc_p_names_in.nd rfl (Or.inl rfl)) pgs_nil))) (fun _ _ _ _ _ => pts_nil) (fun _ _ _ _ _ => (pv 1))))), ?_⟩
    obtain ⟨p, t, y, xs, rfl, hp, ht, hts, _⟩ := tie_inv hv
    · refine ⟨_, rfl, p, _, _, _, rfl, rfl, SqT.of hp, rfl, t, rfl, ⟨_, SqT.of ht⟩, fun D nD => ?_⟩
      refine lc_tup (K := K) (a := t) (xs := xs) (fun i H2 => Same H H2 ∧ H2 D = some (.lst ((ts.take i).map fun t => V.str t.1))) ⟨same_upd nD, upd_same⟩ (fun i H2 _ hq => SqT.of (hq.1 _ _ ht)) (fun i x H2 hx hq => ?_) (fun H2 hq => ?_)
      · obtain ⟨d, hd, hdt⟩ := DtAll.at i hts hx
        rw [List.getElem?_map] at hd
        obtain ⟨⟨n, r⟩, he, rfl⟩ := Option.map_eq_some_iff.mp hd
        match x, hdt with
        | _, .tup (a := pp) hpp (.cons (.str _ _) (.cons _ .nil)) =>
          refine ⟨pp, _, rfl, .inl (.inl (hq.1 _ _ hpp)), rfl, _, _, rfl, _, _, rfl, rfl, rfl, _, rfl, _, hq.2, ?_, ?_, ?_⟩
          · rw [List.length_map, List.length_take]
            exact small1000 (by omega)
          · exact fun b o e => by
              rw [upd_ne (ne_of_none e nD)]
              exact hq.1 b o e
          · rw [upd_same, List.take_add_one, he, List.map_append]
            rfl
      · have e := hts.len
        rw [List.length_map] at e
        rw [e, List.take_length] at hq
        exact q D H2 nD hq.1 hq.2
end
/-! ### for i, x in enumerate(list) -/
theorem for_enum {K : PySem.W.Frag} {a : Addr} {xs : List V} {g : TG} {tb : TS} {D : Ends} {σ : L2.St} {H : Hp} (Pv : Nat → L2.St → Hp → Prop) (h0 : Pv 0 σ H) (hl : ∀ i σ H, i ≤ xs.length → Pv i σ H → SqL K H a xs)
    (hs : ∀ i x σ H T, xs[i]? = some x → Pv i σ H → H T = none → g (.ref T) σ (upd H T (.tup [.int (i : Nat), x])) fun σ2 H2 => tb { D with nx := Pv (i + 1), ct := Pv (i + 1), bk := D.nx } σ2 H2) (hd : ∀ σ H, Pv xs.length σ H → D.nx σ H) :
    ∃ W : Nat → Nat → L2.St → Hp → Prop, (∃ m, W 0 m σ H) ∧ ∀ i m σ H, W i m σ H →
      ((Ite K a).stop i H ∧ D.nx σ H) ∨ ((Ite K a).go i H ∧ ∃ N : L2.St → Hp → Prop, (∀ σ' H', N σ' H' → ∃ m', m' < m ∧ W (i + 1) m' σ' H') ∧ ∀ x H', (Ite K a).yld i H x H' → g x σ H' fun σ2 H2 => tb { D with nx := N, ct := N, bk := D.nx } σ2 H2) := by
  refine ⟨fun i m σ H => m + i = xs.length ∧ Pv i σ H, ⟨xs.length, rfl, h0⟩, ?_⟩
  intro i m σ H hw
  obtain ⟨hm, p⟩ := hw
  have q := hl i σ H (by omega) p
  cases m with
  | zero =>
    obtain rfl : i = xs.length := by omega
    exact .inl ⟨⟨xs, q, Nat.le_refl _⟩, hd σ H p⟩
  | succ m =>
    have lt : i < xs.length := by omega
    refine .inr ⟨⟨xs, xs[i], q, List.getElem?_eq_getElem lt⟩, Pv (i + 1), fun σ' H' p' => ⟨m, Nat.lt_succ_self m, by omega, p'⟩, fun v H' y => ?_⟩
    obtain ⟨T, x, rfl, nT, rfl, hx⟩ := y
    exact hs i x σ H T (hx xs q) p nT
/-! ### the first wrong name, the first wrong tie -/
def firstBad : Nat → List Str → List Str → Option Nat
  | _, _, [] => none
  | i, pre, x :: xs => if nameB x.cps.toList = true ∧ x ∉ pre then firstBad (i + 1) (pre ++ [x]) xs else some i
def optV : Option Nat → V
  | none => .non
  | some i => .int (i : Int)
def tieN : PyData → List Str
  | .tuple [.tuple ts, _] => ts.map fun t => match t with
    | .tuple (.str x :: _) => x
    | _ => Str.ofString ""
  | _ => []
def goodT (ns : List Str) (d : PyData) : Bool := tieD d && (tieN d).all fun x => decide (x ∈ ns)
def firstBadT (ns : List Str) : Nat → List PyData → Option Nat
  | _, [] => none
  | i, d :: ds => if goodT ns d = true then firstBadT ns (i + 1) ds else some i
theorem inV_strs (x : Str) : ∀ l : List Str, inV (V.str x) (l.map V.str) = decide (x ∈ l)
  | [] => rfl
  | y :: l => by
    show ((y == x) || inV (V.str x) (l.map V.str)) = _
    rw [inV_strs x l]
    by_cases h : y = x
    · subst h
      simp
    · have h2 : (y == x) = false := beq_eq_false_iff_ne.mpr h
      rw [h2, Bool.false_or]
      have h3 : ¬ x = y := fun z => h z.symm
      simp [h3]
theorem flat_strs : ∀ l : List Str, (l.map V.str).all flatV = true
  | [] => rfl
  | _ :: l => by
    show (true && (l.map V.str).all flatV) = true
    rw [flat_strs l]
    rfl
theorem cut_take (xs : List V) (i : Nat) (h : i ≤ xs.length) : cutV xs none (some (i : Int)) = xs.take i := by
  show (xs.drop 0).take (HT.sIx xs.length xs.length (some (i : Int)) - 0) = _
  rw [HT.sIx_nat, Nat.sub_zero, Nat.min_eq_left h]
  rfl
theorem SqL.sm {K : PySem.W.Frag} {H H' : Hp} {p : Addr} {xs : List V} (s : Same H H') (h : SqL K H p xs) : SqL K H' p xs := by
  rcases h with (q | ⟨o, q⟩) | q
  · exact .inl (.inl (s _ _ q))
  · exact .inl (.inr ⟨o, s _ _ q⟩)
  · exact .inr q
section
variable {P : Program} {w : World} {K : PySem.W.Frag} {mg : Str → Option Value} {base : Heap} {fa : Nat → Addr} {fd : Nat → FuncData}
def spFWN (K : PySem.W.Frag) : Sp := fun vs H Q _ => ∃ (L : Addr) (ns : List Str), vs = [.ref L] ∧ SqL K H L (ns.map V.str) ∧ ns.length ≤ 900 ∧ (∀ x ∈ ns, x.length ≤ 1000) ∧ ∀ H', Same H H' → Q (optV (firstBad 0 [] ns)) H'
theorem ok_p_first_wrong_name (T : Txt K mg fa fd) : FnOk P w K mg base CX0 3 (fa 136) (fd 136) ["names"] (spFWN K) := by
  refine T.F_p_first_wrong_name.ok sc_p_first_wrong_name (fun vs H Q E h => ?_) (fun cdv A outer s H vs Q E hr h => ?_)
  · obtain ⟨L, ns, rfl, _⟩ := h
    rfl
  · obtain ⟨L, ns, rfl, hL, hsz, hlen, q⟩ := h
    refine ⟨_, (pss_cons (ps_for PassesOwn.never rfl (pi_enum (by rfl) T.m_enumerate (pa_cons (pv 0) pa_nil)) (pg_tup (by rfl) (pgs_cons (pg_name (i := 1) sc_p_first_wrong_name.nd rfl (.inl rfl)) (pgs_cons (pg_name (i := 2) sc_p_first_wrong_name.nd rfl (.inl rfl)) pgs_nil))) (pss_one (ps_if (PW.pt (pw_or (pt_not (pt_val (pe_call (ok_p_is_name T) (hr.mono (by decide)) (by rfl) T.g_p_is_name T.F_p_is_name.kp T.b_p_is_name .nil pass0 (pa_cons (pv 2) pa_nil)))) (pw_or1 (pt_cmpR op_in_seq (pv 2) (pe_slice sl_list (pv 0) po_none (po_some (pv 1))) (by rfl))))) (pss_one (ps_ret (pv 1))) pss_nil)))
      (pss_one (ps_ret pe_non))), ?_⟩
    refine ⟨_, rfl, L, _, rfl, hL, for_enum (K := K) (a := L) (xs := ns.map V.str) (fun i σ G => Same H G ∧ firstBad 0 [] ns = firstBad i (ns.take i) (ns.drop i) ∧ ∃ y1 y2, σ = [some (.ref L), y1, y2]) ⟨Same.refl H, rfl, _, _, rfl⟩ (fun i σ G _ hq => SqL.sm hq.1 hL) (fun i x σ G T hx hq nT => ?_) (fun σ G hq => ?_)⟩
    · obtain ⟨sG, fb, y1, y2, rfl⟩ := hq
      rw [List.getElem?_map] at hx
      obtain ⟨n, hz, rfl⟩ := Option.map_eq_some_iff.mp hx
      have lt : i < ns.length := (List.getElem?_eq_some_iff.mp hz).1
      have dr : ns.drop i = n :: ns.drop (i + 1) := by
        rw [List.drop_eq_getElem_cons lt]
        congr 1
        exact (List.getElem?_eq_some_iff.mp hz).2
      rw [dr] at fb
      have sT := same_upd (o := .tup [V.int (i : Nat), .str n]) nT
      have s1 := sG.trans sT
      have mem : n ∈ ns := List.mem_of_getElem? hz
      refine ⟨T, _, rfl, SqT.of upd_same, rfl, _, _, rfl, _, _, rfl, rfl, ?_⟩
      refine ⟨_, rfl, _, _, 0, rfl, .str n (hlen n mem), _, rfl, ?_⟩
      have ret : (¬ (nameB n.cps.toList = true ∧ n ∉ ns.take i)) → ∀ G', Same H G' → Q (.int (i : Int)) G' := fun c G' s' => by
        have e : firstBad 0 [] ns = some i := by
          rw [fb]
          show (if _ then _ else _) = _
          rw [if_neg c]
        rw [e] at q
        exact q G' s'
      cases hb : nameB n.cps.toList with
      | false =>
        have hb' : nameD (.str n) = false := hb
        rw [hb']
        exact iteT (iteT ⟨_, rfl, ret (fun z => by rw [hb] at z; exact Bool.false_ne_true z.1) _ s1⟩)
      | true =>
        have hb' : nameD (.str n) = true := hb
        rw [hb']
        refine iteF ⟨_, rfl, _, rfl, _, rfl, _, rfl, L, _, rfl, SqL.sm s1 hL, fun p np => ?_⟩
        have sp := same_upd (o := .lst (cutV (ns.map V.str) none (some (i : Int)))) np
        have ec : cutV (ns.map V.str) none (some (i : Int)) = (ns.take i).map V.str := by
          rw [cut_take _ _ (by rw [List.length_map]; omega), List.map_take]
        refine ⟨p, _, rfl, .inl (SqL.of upd_same), rfl, ?_, _, rfl, ?_⟩
        · rw [ec]
          exact flat_strs _
        · rw [ec] at sp ⊢
          rw [inV_strs]
          by_cases hm : n ∈ ns.take i
          · rw [decide_eq_true hm]
            exact iteT ⟨_, rfl, ret (fun z => z.2 hm) _ (s1.trans sp)⟩
          · rw [decide_eq_false hm]
            refine iteF ⟨s1.trans sp, ?_, _, _, rfl⟩
            rw [fb, List.take_add_one, hz]
            show (if _ then _ else _) = _
            rw [if_pos ⟨hb, hm⟩]
            rfl
    · obtain ⟨sG, fb, y1, y2, rfl⟩ := hq
      rw [List.length_map, List.take_length, List.drop_length] at fb
      have e : optV (firstBad 0 [] ns) = .non := by
        rw [fb]
        rfl
      rw [e] at q
      exact q _ sG
end
theorem op_in_seqK {X : Cx} {K : PySem.W.Frag} (h : X.K = K) : OpR X (compareOp .In) (rIn K false) := h ▸ op_in_seq
theorem tieD_inv {d : PyData} (h : tieD d = true) : ∃ ts b, d = .tuple [trmD ts, b] ∧ ts.length ≤ 2 ∧ tieN d = ts.map fun t => t.1 := by
  unfold tieD at h
  split at h
  · rename_i t b
    rw [Bool.and_eq_true] at h
    have h1 := h.1
    unfold termsD at h1
    split at h1
    · rename_i s
      obtain ⟨n, r, rfl⟩ := termD_inv h1
      exact ⟨[(n, r)], b, rfl, by show 1 ≤ 2; decide, rfl⟩
    · rename_i s u
      rw [Bool.and_eq_true, Bool.and_eq_true] at h1
      obtain ⟨n, r, rfl⟩ := termD_inv h1.1.1
      obtain ⟨m, r2, rfl⟩ := termD_inv h1.1.2
      exact ⟨[(n, r), (m, r2)], b, rfl, Nat.le_refl 2, rfl⟩
    · cases h1
  · cases h
section
variable {P : Program} {w : World} {K : PySem.W.Frag} {mg : Str → Option Value} {base : Heap} {fa : Nat → Addr} {fd : Nat → FuncData}
def spFWT (K : PySem.W.Frag) : Sp := fun vs H Q _ => ∃ (T L : Addr) (us : List V) (ds : List PyData) (ns : List Str) (z : Addr), vs = [.ref T, .ref L] ∧ SqL K H T us ∧ DtAll z H us ds ∧ us.length ≤ 900 ∧ SqL K H L (ns.map V.str) ∧ ∀ H', Same H H' → Q (optV (firstBadT ns 0 ds)) H'
theorem ok_p_first_wrong_tie (T : Txt K mg fa fd) : FnOk P w K mg base CX0 6 (fa 137) (fd 137) ["ties", "names"] (spFWT K) := by
  refine T.F_p_first_wrong_tie.ok sc_p_first_wrong_tie (fun vs H Q E h => ?_) (fun cdv A outer s H vs Q E hr h => ?_)
  · obtain ⟨T0, L, us, ds, ns, z, rfl, _⟩ := h
    rfl
  · obtain ⟨T0, L, us, ds, ns, z, rfl, hT, hds, hsz, hL, q⟩ := h
    refine ⟨_, (pss_cons (ps_for PassesOwn.never rfl (pi_enum (by rfl) T.m_enumerate (pa_cons (pv 0) pa_nil)) (pg_tup (by rfl) (pgs_cons (pg_name (i := 2) sc_p_first_wrong_tie.nd rfl (.inl rfl)) (pgs_cons (pg_name (i := 3) sc_p_first_wrong_tie.nd rfl (.inl rfl)) pgs_nil))) (pss_one (ps_if (PW.pt (pw_or (pt_not (pt_val (pe_call (ok_p_is_tie T) (hr.mono (by decide)) (by rfl) T.g_p_is_tie T.F_p_is_tie.kp T.b_p_is_tie .nil pass0 (pa_cons (pv 3) pa_nil)))) (pw_or1 (pt_not (pt_val (pe_callB (cr_all rfl) (by rfl) T.m_all PyProof.Rows.boot_all (pa_cons (pe_lc (own := [("name", 4)]) (g := gName 4) (tt := tYes) rfl sc_p_first_wrong_tie.nd (pi_list (pe_call (ok_p_names_in T) (hr.mono (by decide)) (by rfl) T.g_p_names_in T.F_p_names_in.kp T.b_p_names_in .nil pass0 (pa_cons (pv 3) pa_nil))) (blkOk_by (own := [("name", 4)]) (N := ["ties", "names", "at", "tie", "name"]) (sc := defScope s_p_first_wrong_tie) (by decide +kernel)) (fun _ _ _ _ _ => pg_name (i := 4) sc_p_first_wrong_tie.nd rfl (Or.inl rfl)) (fun _ _ _ _ _ => pts_nil) (fun _ _ _ _ _ => (pe_cmpR (op_in_seqK (K := K) rfl) (pv 4) (pv 1) (by rfl)))) pa_nil))))))) (pss_one (ps_ret (pv 2))) pss_nil)))
      (pss_one (ps_ret pe_non))), ?_⟩
    refine ⟨_, rfl, T0, _, rfl, hT, for_enum (K := K) (a := T0) (xs := us) (fun i σ G => Same H G ∧ firstBadT ns 0 ds = firstBadT ns i (ds.drop i) ∧ ∃ y1 y2 y3, σ = [some (.ref T0), some (.ref L), y1, y2, y3]) ⟨Same.refl H, rfl, _, _, _, rfl⟩ (fun i σ G _ hq => SqL.sm hq.1 hT) (fun i x σ G T1 hx hq nT => ?_) (fun σ G hq => ?_)⟩
    · obtain ⟨sG, fb, y1, y2, y3, rfl⟩ := hq
      obtain ⟨d, hd, hdt⟩ := DtAll.at i hds hx
      have lt : i < ds.length := (List.getElem?_eq_some_iff.mp hd).1
      have dr : ds.drop i = d :: ds.drop (i + 1) := by
        rw [List.drop_eq_getElem_cons lt]
        congr 1
        exact (List.getElem?_eq_some_iff.mp hd).2
      rw [dr] at fb
      have sT := same_upd (o := .tup [V.int (i : Nat), x]) nT
      have s1 := sG.trans sT
      have ret : goodT ns d = false → ∀ G', Same H G' → Q (.int (i : Int)) G' := fun c G' s' => by
        have e : firstBadT ns 0 ds = some i := by
          rw [fb]
          show (if _ then _ else _) = _
          rw [if_neg (by rw [c]; exact Bool.false_ne_true)]
        rw [e] at q
        exact q G' s'
      refine ⟨T1, _, rfl, SqT.of upd_same, rfl, _, _, rfl, _, _, rfl, rfl, ?_⟩
      refine ⟨_, rfl, x, d, z, rfl, hdt.same s1, fun G2 s2 => ⟨_, rfl, ?_⟩⟩
      cases ht : tieD d with
      | false =>
        refine iteT (iteT ⟨_, rfl, ret ?_ _ (s1.trans s2)⟩)
        unfold goodT
        rw [ht]
        rfl
      | true =>
        obtain ⟨ts, b, ed, hl, en⟩ := tieD_inv ht
        have s12 := s1.trans s2
        refine iteF ⟨_, rfl, x, ts, b, z, rfl, by rw [← ed]; exact hdt.same s12, by omega, fun D H' nD s3 hD => ⟨D, rfl, ⟨_, SqL.of hD⟩, fun D2 nD2 => ?_⟩⟩
        have s13 := s12.trans s3
        refine lc_list (K := K) (a := D) (xs := ts.map fun t => V.str t.1) (fun j G3 => Same H' G3 ∧ G3 D2 = some (.lst (((ts.take j).map fun t => decide (t.1 ∈ ns)).map V.bl))) ⟨same_upd nD2, upd_same⟩ (fun j G3 _ hp => SqL.of (hp.1 _ _ hD)) (fun j y G3 hy hp => ?_) (fun G3 hp => ?_)
        · rw [List.getElem?_map] at hy
          obtain ⟨t, htz, rfl⟩ := Option.map_eq_some_iff.mp hy
          have jl := (List.getElem?_eq_some_iff.mp htz).1
          refine ⟨rfl, _, rfl, _, rfl, L, _, rfl, .inl (SqL.sm (s13.trans hp.1) hL), rfl, flat_strs _, _, hp.2, ?_, ?_, ?_⟩
          · rw [List.length_map, List.length_map, List.length_take]
            exact small1000 (by omega)
          · exact fun c o e => (upd_ne (ne_of_none e nD2)).trans (hp.1 c o e)
          · rw [upd_same, List.take_add_one, htz, inV_strs, List.map_append, List.map_append]
            rfl
        · rw [List.length_map, List.take_length] at hp
          have s14 := s13.trans hp.1
          refine ⟨D2, _, rfl, SqL.of hp.2, _, rfl, ?_⟩
          have ea : (ts.map fun t => decide (t.1 ∈ ns)).all id = goodT ns d := by
            unfold goodT
            rw [ht, en, Bool.true_and, List.all_map, List.all_map]
            rfl
          rw [ea]
          cases hg : goodT ns d with
          | false => exact iteT ⟨_, rfl, ret hg _ s14⟩
          | true =>
            refine iteF ⟨s14, ?_, _, _, _, rfl⟩
            rw [fb]
            show (if _ then _ else _) = _
            rw [if_pos hg]
    · obtain ⟨sG, fb, y1, y2, y3, rfl⟩ := hq
      rw [hds.len, List.drop_length] at fb
      have e : optV (firstBadT ns 0 ds) = .non := by
        rw [fb]
        rfl
      rw [e] at q
      exact q _ sG
end
section
variable {P : Program} {w : World} {K : PySem.W.Frag} {mg : Str → Option Value} {base : Heap} {fa : Nat → Addr} {fd : Nat → FuncData}
/-! ### what is told of an error -/
def tagsV (l : List String) : List V := l.map fun x => V.str (Str.ofString x)
def fieldOf (tag : Str) : Option Str :=
  if inV (.str tag) (tagsV ["InvalidRatio", "InvalidTimes", "InvalidLimit"]) = true then some "given" else
  if inV (.str tag) (tagsV ["InvalidRow", "InvalidTie", "InvalidWish", "ParseError"]) = true then some "at" else
  if inV (.str tag) (tagsV ["InvalidName", "SameName", "UnknownName"]) = true then some "name" else
  if inV (.str tag) (tagsV ["DuplicateLabel", "UnknownLabel"]) = true then some "label" else
  if decide (V.str tag = V.str "NotTied") = true then some "many" else
  if decide (V.str tag = V.str "CapacityExceeded") = true then some "most" else
  if decide (V.str tag = V.str "InvalidCommand") = true then some "first" else none
def FldOk (K : PySem.W.Frag) (C : Addr) (fs : List (Str × V)) (tag : Str) (v : V) : Prop := match fieldOf tag with
  | some n => PySem.W.findIn K (.ref C) n = some none ∧ fs.lookup n = some v
  | none => v = .non
def spField (K : PySem.W.Frag) (p : Addr × Obj) : Sp := fun vs H Q _ => vs = [.ref p.1] ∧ ∃ (C dd : Addr) (fs : List (Str × V)) (tag : Str) (v : V), Xat K p C dd ∧ PySem.W.findIn K (.ref C) "tag" = some none ∧ H dd = some (.xd fs) ∧ fs.lookup ("tag" : Str) = some (.str tag) ∧ FldOk K C fs tag v ∧
  ∀ H', Same H H' → Q v H'
theorem fld_of {K : PySem.W.Frag} {C : Addr} {fs : List (Str × V)} {tag : Str} {v : V} {n : Str} (h : FldOk K C fs tag v) (e : fieldOf tag = some n) : PySem.W.findIn K (.ref C) n = some none ∧ fs.lookup n = some v := by
  unfold FldOk at h
  rw [e] at h
  exact h
theorem fld_none {K : PySem.W.Frag} {C : Addr} {fs : List (Str × V)} {tag : Str} {v : V} (h : FldOk K C fs tag v) (e : fieldOf tag = none) : v = .non := by
  unfold FldOk at h
  rw [e] at h
  exact h
theorem ok_field (T : Txt K mg fa fd) : FnP P w K mg base 1 (fa 152) (fd 152) ["_law_e"] (spField K) := by
  refine fn_ofP T.F_field sc_field (fun p vs H Q E h => ?_) (fun cdv A outer s H vs Q p hr h => ?_)
  · obtain ⟨rfl, _⟩ := h
    rfl
  · obtain ⟨rfl, C, dd, fs, tag, v, X, ht, hd, lt, hf, q⟩ := h
    refine ⟨_, (pss_cons (ps_if (pt_cmpR op_in_seq (pe_xp (by exact List.mem_cons_self) (pv 0)) (pe_tup (pa_cons pe_str (pa_cons pe_str (pa_cons pe_str pa_nil)))) (by rfl)) (pss_one (ps_ret (pe_xp (by exact List.mem_cons_self) (pv 0)))) pss_nil)
      (pss_cons (ps_if (pt_cmpR op_in_seq (pe_xp (by exact List.mem_cons_self) (pv 0)) (pe_tup (pa_cons pe_str (pa_cons pe_str (pa_cons pe_str (pa_cons pe_str pa_nil))))) (by rfl)) (pss_one (ps_ret (pe_xp (by exact List.mem_cons_self) (pv 0)))) pss_nil)
      (pss_cons (ps_if (pt_cmpR op_in_seq (pe_xp (by exact List.mem_cons_self) (pv 0)) (pe_tup (pa_cons pe_str (pa_cons pe_str (pa_cons pe_str pa_nil)))) (by rfl)) (pss_one (ps_ret (pe_xp (by exact List.mem_cons_self) (pv 0)))) pss_nil)
      (pss_cons (ps_if (pt_cmpR op_in_seq (pe_xp (by exact List.mem_cons_self) (pv 0)) (pe_tup (pa_cons pe_str (pa_cons pe_str pa_nil))) (by rfl)) (pss_one (ps_ret (pe_xp (by exact List.mem_cons_self) (pv 0)))) pss_nil)
      (pss_cons (ps_if (pt_cmpR op_eq (pe_xp (by exact List.mem_cons_self) (pv 0)) pe_str (nomark _)) (pss_one (ps_ret (pe_xp (by exact List.mem_cons_self) (pv 0)))) pss_nil)
      (pss_cons (ps_if (pt_cmpR op_eq (pe_xp (by exact List.mem_cons_self) (pv 0)) pe_str (nomark _)) (pss_one (ps_ret (pe_xp (by exact List.mem_cons_self) (pv 0)))) pss_nil)
      (pss_one (ps_ret (pe_ifExp (pt_cmpR op_eq (pe_xp (by exact List.mem_cons_self) (pv 0)) pe_str (nomark _)) (pe_xp (by exact List.mem_cons_self) (pv 0)) pe_non))))))))), ?_⟩
    refine ⟨_, rfl, rfl, C, dd, fs, _, X, ht, hd, lt, Nat.le_of_lt (small1000 (by show 3 ≤ 1000; decide)), fun p1 n1 => ?_⟩
    have s1 := same_upd (o := .tup (tagsV ["InvalidRatio", "InvalidTimes", "InvalidLimit"])) n1
    refine ⟨p1, _, rfl, .inr (SqT.of upd_same), rfl, rfl, _, rfl, ite2 (fun e1 => ?_) (fun e1 => ?_)⟩
    · have hn := fld_of hf (show fieldOf tag = some "given" from if_pos e1)
      exact ⟨_, rfl, rfl, C, dd, fs, _, X, hn.1, s1 _ _ hd, hn.2, q _ s1⟩
    have hd1 := s1 _ _ hd
    refine ⟨_, rfl, rfl, C, dd, fs, _, X, ht, hd1, lt, Nat.le_of_lt (small1000 (by show 4 ≤ 1000; decide)), fun p2 n2 => ?_⟩
    have s2 := s1.trans (same_upd (o := .tup (tagsV ["InvalidRow", "InvalidTie", "InvalidWish", "ParseError"])) n2)
    refine ⟨p2, _, rfl, .inr (SqT.of upd_same), rfl, rfl, _, rfl, ite2 (fun e2 => ?_) (fun e2 => ?_)⟩
    · have hn := fld_of hf (show fieldOf tag = some "at" from (if_neg e1).trans (if_pos e2))
      exact ⟨_, rfl, rfl, C, dd, fs, _, X, hn.1, s2 _ _ hd, hn.2, q _ s2⟩
    have hd2 := s2 _ _ hd
    refine ⟨_, rfl, rfl, C, dd, fs, _, X, ht, hd2, lt, Nat.le_of_lt (small1000 (by show 3 ≤ 1000; decide)), fun p3 n3 => ?_⟩
    have s3 := s2.trans (same_upd (o := .tup (tagsV ["InvalidName", "SameName", "UnknownName"])) n3)
    refine ⟨p3, _, rfl, .inr (SqT.of upd_same), rfl, rfl, _, rfl, ite2 (fun e3 => ?_) (fun e3 => ?_)⟩
    · have hn := fld_of hf (show fieldOf tag = some "name" from (if_neg e1).trans ((if_neg e2).trans (if_pos e3)))
      exact ⟨_, rfl, rfl, C, dd, fs, _, X, hn.1, s3 _ _ hd, hn.2, q _ s3⟩
    have hd3 := s3 _ _ hd
    refine ⟨_, rfl, rfl, C, dd, fs, _, X, ht, hd3, lt, two_line, fun p4 n4 => ?_⟩
    have s4 := s3.trans (same_upd (o := .tup (tagsV ["DuplicateLabel", "UnknownLabel"])) n4)
    refine ⟨p4, _, rfl, .inr (SqT.of upd_same), rfl, rfl, _, rfl, ite2 (fun e4 => ?_) (fun e4 => ?_)⟩
    · have hn := fld_of hf (show fieldOf tag = some "label" from (if_neg e1).trans ((if_neg e2).trans ((if_neg e3).trans (if_pos e4))))
      exact ⟨_, rfl, rfl, C, dd, fs, _, X, hn.1, s4 _ _ hd, hn.2, q _ s4⟩
    have hd4 := s4 _ _ hd
    refine ⟨_, rfl, rfl, C, dd, fs, _, X, ht, hd4, lt, rfl, _, rfl, ite2 (fun e5 => ?_) (fun e5 => ?_)⟩
    · have hn := fld_of hf (show fieldOf tag = some "many" from (if_neg e1).trans ((if_neg e2).trans ((if_neg e3).trans ((if_neg e4).trans (if_pos e5)))))
      exact ⟨_, rfl, rfl, C, dd, fs, _, X, hn.1, hd4, hn.2, q _ s4⟩
    refine ⟨_, rfl, rfl, C, dd, fs, _, X, ht, hd4, lt, rfl, _, rfl, ite2 (fun e6 => ?_) (fun e6 => ?_)⟩
    · have hn := fld_of hf (show fieldOf tag = some "most" from (if_neg e1).trans ((if_neg e2).trans ((if_neg e3).trans ((if_neg e4).trans ((if_neg e5).trans (if_pos e6))))))
      exact ⟨_, rfl, rfl, C, dd, fs, _, X, hn.1, hd4, hn.2, q _ s4⟩
    refine ⟨_, rfl, rfl, C, dd, fs, _, X, ht, hd4, lt, rfl, _, rfl, ite2 (fun e7 => ?_) (fun e7 => ?_)⟩
    · have hn := fld_of hf (show fieldOf tag = some "first" from (if_neg e1).trans ((if_neg e2).trans ((if_neg e3).trans ((if_neg e4).trans ((if_neg e5).trans ((if_neg e6).trans (if_pos e7)))))))
      exact ⟨_, rfl, rfl, C, dd, fs, _, X, hn.1, hd4, hn.2, q _ s4⟩
    · have hn := fld_none hf (show fieldOf tag = none from (if_neg e1).trans ((if_neg e2).trans ((if_neg e3).trans ((if_neg e4).trans ((if_neg e5).trans ((if_neg e6).trans (if_neg e7)))))))
      rw [hn] at q
      exact q _ s4
end
section
variable {fa : Nat → Addr} {fd : Nat → FuncData}
/-- an error, as why tells of it -/
def WhyE (K : PySem.W.Frag) (Tie Miss : Addr) (Q : VK) : XK := fun cls d H' => ∃ (C dd : Addr) (fs : List (Str × V)) (tag : Str) (v : V), cls = .ref C ∧ d = some dd ∧ PySem.W.exmAny K (.ref C) [.ref Tie, .ref Miss] = some true ∧ XfC K C ∧ PySem.W.findIn K (.ref C) "tag" = some none ∧ H' dd = some (.xd fs) ∧
  fs.lookup ("tag" : Str) = some (.str tag) ∧ FldOk K C fs tag v ∧ ∀ p H'', Same H' H'' → H'' p = some (.tup [.str tag, v]) → Q (.ref p) H''
def TTWhy (K : PySem.W.Frag) (Tie Miss : Addr) : (XK → Hp → VK → Prop) → Hp → VK → Prop := fun tl H Q => ∀ (H1 : Hp) (Q' : VK) (E' : XK), Same H H1 → (∀ v H', (∀ p, H' p = none → Q (.ref p) (upd H' p (.tup [.str "", v]))) → Q' v H') →
  (∀ cls d H', WhyE K Tie Miss Q cls d H' → E' cls d H') → tl E' H1 Q'
def tSuite (K : PySem.W.Frag) : Addr → Value → Option Addr → TS := fun a cls d D σ H => ∃ (C dd : Addr) (fs : List (Str × V)) (tag : Str) (v : V), cls = .ref C ∧ d = some dd ∧ XfC K C ∧ PySem.W.findIn K (.ref C) "tag" = some none ∧ H dd = some (.xd fs) ∧
  fs.lookup ("tag" : Str) = some (.str tag) ∧ FldOk K C fs tag v ∧ (σ.length = 3 → σ[2]? = some (some (.ref a))) ∧ ∀ p H'', σ.length = 3 → Same H H'' → H'' p = some (.tup [.str tag, v]) → D.nx (σ.set 1 (some (.ref p))) H''
theorem why_gives {X : Cx} (T : Txt X.K X.mg fa fd) {k : Nat} (hr : Room (k + 2) X.A) {cdg : Value} {q : Str} : LamX.GivesTo X ["_law_ask", "_law_told", "_law_e"] "_law_why" (defScope s_why) (fa 153) cdg (defBody s_why) "_law_ask" q (TTWhy X.K (fa 2) (fa 10)) := by
  intro f c' s H Q tl act hc h
  have F : FnP X.prog X.w X.K X.mg X.base 1 (fa 152) (fd 152) ["_law_e"] (spField X.K) := ok_field T
  refine ⟨_, pss_cons (ps_set (i := 1) sc_why.nd rfl (.inl rfl) (pe_tup (pa_cons pe_str (pa_cons pe_non pa_nil))))
    (pss_cons (ps_try_tup (i := 2) (tb := fun W D σ H => ∃ Ech : XK, (∀ cls d σ' H', Ech cls d H' → W cls d σ' H') ∧ σ[0]? = some (some (.ref f)) ∧ H c' = some (LamX.CodeO c' q) ∧ tl Ech H fun v H' => [V.str "", v].length ≤ sizeLine ∧ ∀ p, H' p = none → D.nx (σ.set 1 (some (.ref p))) (upd H' p (.tup [.str "", v]))) (ts := tSuite X.K)
        rfl rfl sc_why.nd rfl rfl rfl T.gTieError rfl T.gMissing (fun W pn xe tk _ => ?_) (fun a oe cls d pn hz hf => ?_))
    (pss_one (ps_ret (pv 1)))), ?_⟩
  · refine ⟨fun pins s' σ H' D I h' => ?_⟩
    obtain ⟨Ech, hW, h1, h2, h3⟩ := h'
    exact (pss_one (ps_set (i := 1) sc_why.nd rfl (.inl rfl) (pe_tup (pa_cons pe_str (pa_cons (act W pn xe Ech _ _ tk hW) pa_nil))))).run pins s' σ H' D I ⟨h1, h2, h3⟩
  · refine ⟨fun pins s' σ H' D I h' => ?_⟩
    obtain ⟨C, dd, fs, tag, v, rfl, rfl, xf, ht, hd, lt, hv, h2, h3⟩ := h'
    have l3 : σ.length = 3 := I.len
    have h2 := h2 l3
    have hx : Xat X.K (a, oe) C dd := ⟨hz, hf, xf⟩
    refine (pss_one (ps_set (i := 1) sc_why.nd rfl (.inl rfl) (pe_tup (pa_cons (pe_xp (X := (cxOf C8.CX0 X.prog X.w X.K X.mg X.base ["_law_ask", "_law_told", "_law_e"] "_law_why" (defScope s_why) (fa 153) cdg X.A X.stack s H C8.E0).nox.suite a ((a, oe) :: pn)) (p := (a, oe)) (by exact List.mem_cons_self) (pv 2)) (pa_cons (pe_callP (X := (cxOf C8.CX0 X.prog X.w X.K X.mg X.base ["_law_ask", "_law_told", "_law_e"] "_law_why" (defScope s_why) (fa 153) cdg X.A X.stack s H C8.E0).nox.suite a ((a, oe) :: pn)) (p := (a, oe)) F ?_ (by exact List.mem_cons_self) (by rfl) T.g_field T.F_field.kp T.b_field (pa_cons (pv 2) pa_nil)) pa_nil))))).run pins s' σ H' D I ?_
    · have r := hr.deeper (envOfC "_law_why" (defScope s_why) s.heap.objs.size (fa 153) cdg)
      exact ⟨by have := r.dp; show (X.A.deeper (envOfC "_law_why" (defScope s_why) s.heap.objs.size (fa 153) cdg)).depth + 3 * 1 + 5 < recursionLimit; omega, by have := r.un; show (X.A.deeper (envOfC "_law_why" (defScope s_why) s.heap.objs.size (fa 153) cdg)).units + 16 * 1 + 200 < cLine; omega⟩
    · refine ⟨_, h2, rfl, C, dd, fs, _, hx, ht, hd, lt, _, h2, rfl, C, dd, fs, tag, v, hx, ht, hd, lt, hv, fun H2 s2 => ⟨two_line, fun p np => ?_⟩⟩
      exact h3 p _ l3 (s2.trans (same_upd np)) upd_same
  · refine ⟨two_line, fun p np => ⟨WhyE X.K (fa 2) (fa 10) Q, ?_, rfl, same_upd np _ _ hc, h _ _ _ (same_upd np) (fun v H' hQ => ⟨two_line, fun p np => ⟨_, rfl, hQ p np⟩⟩) fun _ _ _ z => z⟩⟩
    rintro cls d σ' H' ⟨C, dd, fs, tag, v, rfl, rfl, ha, xf, ht, hd, lt, hv, h3⟩
    refine ⟨ha, fun a na => ⟨C, dd, fs, tag, v, rfl, rfl, xf, ht, hd, lt, hv, fun l => ?_, fun p H'' l s2 hp => ?_⟩⟩
    · rw [List.length_set] at l
      rw [List.getElem?_set_self (by omega)]
    · rw [List.length_set] at l
      match σ', l with
      | [a0, a1, a2], _ => exact ⟨_, rfl, h3 p H'' s2 hp⟩
end
section
variable {fa : Nat → Addr} {fd : Nat → FuncData}
/-- why(lambda: body) -/
theorem pe_why {X : Cx} (T : Txt X.K X.mg fa fd) {c P : Addr} {k : Nat} {params : Arguments} {body : Expr} {scope : Scope} {t : XK → TE} {p lpos pos : Pos} (TB : LamX.TabB X.base X.mg c P) (hcode : X.env.code = .ref c) (hr : Room (k + 2) X.A) (hg : Gl X "_law_why") (L : LamX.LamS X.env.scope scope)
    (hbody : ∀ (A : Around) (outer : List Env) (s : Shared) (H : Hp) (E : XK) (f c' : Addr), Room k (A.deeper (LamX.lamEnv X scope s.heap.objs.size f c')) → PE (LamX.lamCx X A outer s H E scope f c') body (t E))
    (hdef : defaultsOf params X.env = ([], []) := by rfl) (hbind : ∀ (q : Str) (cl : List (Str × Addr)) (pm cv ctv : Value), bindArgs (PySem.W.kla_fn "<lambda>" q params body scope cl pm cv ctv) ⟨[], []⟩ = pure [] := by intros; rfl) :
    PE X (.Call (.Name "_law_why" p) [.Lambda params body scope lpos] [] pos) (LamX.tLam [(P, X.env.qual ++ "<lambda>")] (TTWhy X.K (fa 2) (fa 10)) t) := by
  obtain ⟨oc, od, kV, doc, pm, an, cdv, ct, osl, e, lk, hcd⟩ := T.F_why.ex
  rw [e] at lk
  have hb := T.b_why
  rw [e] at hb
  refine LamX.pe_lamcall (X := X) (T := [(P, X.env.qual ++ "<lambda>")]) (a := "_law_ask") (Ng := ["_law_ask", "_law_told", "_law_e"]) hg T.g_why T.F_why.kp lk hcd hb sc_why rfl (.inl rfl) (why_gives T hr) TB hcode List.mem_cons_self (fun q hq _ => ?_) hr L hdef hbind hbody
  rw [List.mem_singleton.mp hq]
end
/-! ### errors(asks) of a list of kept lambdas -/
theorem PE.imp {X : Cx} {e : Expr} {t t' : TE} (h : PE X e t) (f : ∀ σ H Q, t' σ H Q → t σ H Q) : PE X e t' := ⟨fun pins s σ H Q I q => h.run pins s σ H Q I (f _ _ _ q)⟩
theorem lq_paired_at {α β : Type} {R : α → β → Prop} : ∀ {xs : List α} {ys : List β} {i : Nat}, Paired R xs ys → i < xs.length → ∃ x y, xs[i]? = some x ∧ ys[i]? = some y ∧ R x y
  | _, _, i, .nil, h => absurd h (Nat.not_lt_zero i)
  | x :: _, y :: _, 0, .cons r _, _ => ⟨x, y, rfl, rfl, r⟩
  | _ :: _, _ :: _, i + 1, .cons _ t, h => lq_paired_at (i := i) t (Nat.lt_of_succ_lt_succ h)
theorem lq_paired_snoc {α β : Type} {R S : α → β → Prop} (k : ∀ a b, R a b → S a b) : ∀ {xs : List α} {ys : List β} {x : α} {y : β}, Paired R xs ys → S x y → Paired S (xs ++ [x]) (ys ++ [y])
  | _, _, _, _, .nil, h => .cons h .nil
  | _, _, _, _, .cons r t, h => .cons (k _ _ r) (lq_paired_snoc k t h)
theorem Same.keep2 {H H' : Hp} (s : Same H H') : EK.Keep2 H H' := fun b o e _ _ => s b o e
section
variable {fa : Nat → Addr} {fd : Nat → FuncData}
theorem TTWhy.imp {K : PySem.W.Frag} {Tie Miss : Addr} {tl : XK → Hp → VK → Prop} {H : Hp} {Q Q2 : VK} (h : TTWhy K Tie Miss tl H Q) (k : ∀ v H', Q v H' → Q2 v H') : TTWhy K Tie Miss tl H Q2 := by
  intro H1 Q' E' s hv he
  refine h H1 Q' E' s (fun v H' z => hv v H' fun p np => k _ _ (z p np)) fun cls d H' z => he cls d H' ?_
  obtain ⟨C, dd, fs, tag, v, e1, e2, e3, e4, e5, e6, e7, e8, e9⟩ := z
  exact ⟨C, dd, fs, tag, v, e1, e2, e3, e4, e5, e6, e7, e8, fun p H'' s2 hp => k _ _ (e9 p H'' s2 hp)⟩
def spWhyA (X : Cx) (σ : List (Option V)) (k : Nat) (fa : Nat → Addr) : Sp := fun vs H Q _ => ∃ (f : Addr) (t : XK → TE), vs = [.ref f] ∧ LqT X k t H f ∧ TTWhy X.K (fa 2) (fa 10) (fun E HZ Q' => LqT X k t HZ f ∧ CellsAt X σ HZ ∧ tRun X σ t E HZ Q') H Q
theorem ok_whyA {X : Cx} (T : Txt X.K X.mg fa fd) {σ : L2.St} {k : Nat} (ok : X.Ok) (len : σ.length = X.N.length) : FnOk X.prog X.w X.K X.mg X.base C8.CX0 (k + 4) (fa 153) (fd 153) ["_law_ask"] (spWhyA X σ k fa) := by
  refine ⟨fun vs H Q E h => ?_, fun A outer s H args us vs Q E hr e0 hb r h => ?_⟩
  · obtain ⟨f, t, rfl, _⟩ := h
    rfl
  · obtain ⟨f, t, rfl, hl, htt⟩ := h
    obtain ⟨oc, od, kV, doc, pm, an, cdv, ct, osl, e, lk, hcd⟩ := T.F_why.ex
    rw [e] at lk hb
    obtain ⟨d, ps, body, scope, L, B, hbody, dV, doc', pm', ct', c', h1, h2, h3⟩ := id hl
    refine LamX.run_ofS (N := ["_law_ask", "_law_told", "_law_e"]) (ps := ["_law_ask"]) lk hcd sc_why hr e0 hb r rfl fun hr' => ?_
    have gv := why_gives (X := { X with A := A, stack := outer }) T (k := k) (cdg := cdv) (q := X.env.qual ++ "<lambda>") (hr.mono (by omega))
    obtain ⟨t', p1, p2⟩ := gv f c' s H Q (fun E HZ Q' => LqT X k t HZ f ∧ CellsAt X σ HZ ∧ tRun X σ t E HZ Q') (fun W pn xe E2 q1 q2 tk hW => PE.imp (pe_lqact (X := X) (f := f) (t := t) (k := k) (i := 0) ok len tk hW (hr'.mono (by omega)) rfl (.inl rfl)) fun σ' H' Q' z => ⟨z.1, z.2.2⟩) h2 htt
    exact ⟨t', p1.nox, p2⟩
def spErrs (X : Cx) (σ : List (Option V)) (k : Nat) (fa : Nat → Addr) : Sp := fun vs H Q _ => ∃ (L : Addr) (fs : List Addr) (ts : List (XK → TE)) (res : List (Str × V)), vs = [.ref L] ∧ H L = some (.lst (fs.map V.ref)) ∧ fs.length ≤ 900 ∧ CellsAt X σ H ∧ Paired (fun f t => LqT X k t H f) fs ts ∧
  Paired (fun t (r : Str × V) => ∀ HZ, Same H HZ → TTWhy X.K (fa 2) (fa 10) (fun E HZ Q' => tRun X σ t E HZ Q') HZ (fun v H2 => Same HZ H2 ∧ ∃ p, v = .ref p ∧ H2 p = some (.tup [.str r.1, r.2]))) ts res ∧
  ∀ D ps H3, Same H H3 → H3 D = some (.lst (ps.map V.ref)) → Paired (fun p (r : Str × V) => H3 p = some (.tup [.str r.1, r.2])) ps res → Q (.ref D) H3
theorem CellsAt.same {X : Cx} {σ : L2.St} {H H' : Hp} (C : CellsAt X σ H) (s : Same H H') : CellsAt X σ H' := by
  refine ⟨fun c hc => ?_, fun i x v e1 e2 e3 => ?_⟩
  · obtain ⟨o, w, e, d⟩ := C.all c hc
    exact ⟨o, w, s _ _ e, d⟩
  · obtain ⟨c, o, u, g1, g2, g3, g4⟩ := C.at_ i x v e1 e2 e3
    exact ⟨c, o, u, g1, s _ _ g2, g3, g4⟩
theorem ok_errs {X : Cx} (T : Txt X.K X.mg fa fd) {σ0 : L2.St} {k : Nat} (ok : X.Ok) (len : σ0.length = X.N.length) : FnOk X.prog X.w X.K X.mg X.base CX0 (k + 6) (fa 154) (fd 154) ["_law_asks"] (spErrs X σ0 k fa) := by
  refine T.F_errors.ok sc_errors (fun vs H Q E h => ?_) (fun cdv A outer s H vs Q E hr h => ?_)
  · obtain ⟨L, fs, ts, res, rfl, _⟩ := h
    rfl
  · obtain ⟨L, fs, ts, res, rfl, hL, hsz, hC, hts, hres, q⟩ := h
    refine ⟨_, (pss_one (ps_ret (pe_lc (own := [("_law_ask", 1)]) (g := gName 1) (tt := tYes) rfl sc_errors.nd (pi_list (pv 0)) (blkOk_by (own := [("_law_ask", 1)]) (N := ["_law_asks", "_law_ask"]) (sc := defScope s_errors) (by decide +kernel)) (fun _ _ _ _ _ => pg_name (i := 1) sc_errors.nd rfl (Or.inl rfl)) (fun _ _ _ _ _ => pts_nil) (fun _ _ _ _ _ => (pe_call (ok_whyA T ok len (σ := σ0) (k := k)) (hr.mono (by omega)) (by rfl) T.g_why T.F_why.kp T.b_why .nil pass0 (pa_cons (pv 1) pa_nil)))))), ?_⟩
    refine ⟨_, rfl, L, rfl, ⟨_, SqL.of hL⟩, fun D nD => ?_⟩
    have sD : ∀ {G : Hp}, (∀ b o, b ≠ D → H b = some o → G b = some o) → Same H G := fun k b o e => k b o (ne_of_none e nD) e
    have lt : ts.length = fs.length := (Paired.length hts).symm
    refine lc_list (a := L) (xs := fs.map V.ref) (fun i G => (∀ b o, b ≠ D → H b = some o → G b = some o) ∧ ∃ ps : List Addr, G D = some (.lst (ps.map V.ref)) ∧ ps.length = i ∧ i ≤ fs.length ∧ Paired (fun p (r : Str × V) => G p = some (.tup [.str r.1, r.2])) ps (res.take i)) ⟨fun b o nb e => (upd_ne nb).trans e, [], upd_same, rfl, Nat.zero_le _, .nil⟩ (fun i G _ hq => SqL.of (sD hq.1 _ _ hL)) (fun i x G hx hq => ?_) (fun G hq => ?_)
    · obtain ⟨oth, ps, hD, hi, _, hps⟩ := hq
      have hil : i < fs.length := by
        have z := List.getElem?_eq_some_iff.mp hx
        obtain ⟨z, _⟩ := z
        rw [List.length_map] at z
        exact z
      obtain ⟨f, t, e1, e2, hl⟩ := lq_paired_at hts hil
      obtain ⟨t2, r, e3, e4, ht⟩ := lq_paired_at hres (lt ▸ hil)
      rw [e2] at e3
      cases e3
      rw [List.getElem?_map, e1] at hx
      cases hx
      have sG := sD oth
      refine ⟨rfl, _, rfl, f, t, rfl, hl.keep (Same.keep2 sG), ?_⟩
      intro H1 Q' E' s1 hv he
      refine ⟨hl.keep (Same.keep2 (sG.trans s1)), CellsAt.same hC (sG.trans s1), ?_⟩
      refine TTWhy.imp (ht G sG) ?_ H1 Q' E' s1 hv he
      rintro v H2 ⟨s2, p, rfl, hp⟩
      have hD2 := s2 _ _ hD
      have pD : p ≠ D := fun z => by
        rw [z, hD2] at hp
        cases hp
      refine ⟨_, hD2, small1000 (by rw [List.length_map]; omega), fun b o nb e => (upd_ne nb).trans (s2 _ _ (oth b o nb e)), ps ++ [p], ?_, by rw [List.length_append, hi]; rfl, hil, ?_⟩
      · rw [upd_same, List.map_append]
        rfl
      · rw [List.take_succ, e4]
        refine lq_paired_snoc (fun a b e => ?_) hps ((upd_ne pD).trans hp)
        have aD : a ≠ D := fun z => by
          rw [z, hD] at e
          cases e
        exact (upd_ne aD).trans (s2 _ _ e)
    · obtain ⟨oth, ps, hD, hi, _, hps⟩ := hq
      have l2 : res.length = fs.length := ((Paired.length hres).symm.trans lt)
      rw [List.length_map, ← l2, List.take_length] at hps
      exact q D ps G (sD oth) hD hps
end
/-! ### errors(asks), as the law calls it -/
section
variable {fa : Nat → Addr} {fd : Nat → FuncData}
/-- an error by its tag and its field -/
def ErrI (K : PySem.W.Frag) (fa : Nat → Addr) (cls : Value) (d : Option Addr) (H' : Hp) (r : Str × V) : Prop := ∃ (C dd : Addr) (fs : List (Str × V)), cls = .ref C ∧ d = some dd ∧ PySem.W.exmAny K (.ref C) [.ref (fa 2), .ref (fa 10)] = some true ∧ XfC K C ∧ PySem.W.findIn K (.ref C) "tag" = some none ∧ H' dd = some (.xd fs) ∧
  fs.lookup ("tag" : Str) = some (.str r.1) ∧ FldOk K C fs r.1 r.2
/-- what a kept lambda does: an error, or a value -/
def ErrT (X : Cx) (fa : Nat → Addr) (σ : List (Option V)) (t : XK → TE) (r : Str × V) (G : Hp) : Prop := ∀ (E' : XK) (Q' : VK),
  (∀ cls d H', Same G H' → ErrI X.K fa cls d H' r → E' cls d H') → (∀ v H', Same G H' → r = (("" : Str), v) → Q' v H') → t E' σ G Q'
theorem tells_of {X : Cx} {σ : L2.St} {t : XK → TE} {r : Str × V} {Hu HZ : Hp} {hh : Heap} (h : ∀ G, Same Hu G → ErrT X fa σ t r G) (s : Same (hpC X hh Hu) HZ) (nu : ∀ c, isC X c → Hu c = none) :
    TTWhy X.K (fa 2) (fa 10) (fun E HZ Q' => tRun X σ t E HZ Q') HZ (fun v H2 => Same HZ H2 ∧ ∃ p, v = .ref p ∧ H2 p = some (.tup [.str r.1, r.2])) := by
  intro H1 Q' E' s1 hv he
  have su : Same Hu (minC X H1) := fun b o e => by
    have nb : ¬ isC X b := fun z => by
      rw [nu b z] at e
      cases e
    rw [minC_n nb]
    exact s1 _ _ (s _ _ ((hpC_n nb).trans e))
  have back : ∀ H', Same (minC X H1) H' → Same H1 (putC X H1 H') := fun H' sG b o e => by
    by_cases z : isC X b
    · rw [putC_c z]
      exact e
    · rw [putC_n z]
      exact sG _ _ ((minC_n z).trans e)
  refine h (minC X H1) su _ _ (fun cls d H' sG hE nn => he cls d _ ?_) (fun v H' sG er nn => hv v _ fun p np => ?_)
  · obtain ⟨C, dd, fs, e1, e2, e3, e4, e5, e6, e7, e8⟩ := hE
    have nd : ¬ isC X dd := fun z => by
      rw [nn dd z] at e6
      cases e6
    exact ⟨C, dd, fs, r.1, r.2, e1, e2, e3, e4, e5, (putC_n nd).trans e6, e7, e8, fun p H'' s2 hp => ⟨s1.trans ((back H' sG).trans s2), p, rfl, hp⟩⟩
  · refine ⟨s1.trans ((back H' sG).trans (same_upd np)), p, rfl, ?_⟩
    rw [upd_same, er]
def tErrs (X : Cx) (k : Nat) (fa : Nat → Addr) (te : TE) : TE := fun σ H Q => te σ H fun x H1 => ∃ (L : Addr) (fs : List Addr) (ts : List (XK → TE)) (res : List (Str × V)), x = .ref L ∧ H1 L = some (.lst (fs.map V.ref)) ∧ fs.length ≤ 900 ∧ Paired (fun f t => LqT X k t H1 f) fs ts ∧
  Paired (fun t r => ∀ G, Same H1 G → ErrT X fa σ t r G) ts res ∧ ∀ D ps H3, Same H1 H3 → H3 D = some (.lst (ps.map V.ref)) → Paired (fun p (r : Str × V) => H3 p = some (.tup [.str r.1, r.2])) ps res → Q (.ref D) H3
theorem lq_paired_mono {α β : Type} {R S : α → β → Prop} (h : ∀ a b, R a b → S a b) : ∀ {xs : List α} {ys : List β}, Paired R xs ys → Paired S xs ys
  | _, _, .nil => .nil
  | _, _, .cons r t => .cons (h _ _ r) (lq_paired_mono h t)
theorem pe_errs {X : Cx} (T : Txt X.K X.mg fa fd) (hfn : ∀ x, X.fn x = true) {k : Nat} (hr : Room (k + 6) X.A) {e : Expr} {te : TE} {p pos : Pos} (hg : Gl X "_law_errors") (he : PE X e te)
    (hst : starEach [e] X.env = (false, eval e X.env) :: starEach [] X.env := by rfl) : PE X (.Call (.Name "_law_errors" p) [e] [] pos) (tErrs X k fa te) := by
  refine ⟨fun pins s σ H Q I h => ?_⟩
  refine wpAny_Call_Name_kw (ld_glob I hg T.g_errors ?_ (by decide))
  refine PySem.W.callWith_K (h₀ := X.base) I.ok.mod.kin T.F_errors.kp (thn ((pa_cons he pa_nil hst).run pos pins s σ H (fun vs H1 => match vs with
    | [x] => ∃ (L : Addr) (fs : List Addr) (ts : List (XK → TE)) (res : List (Str × V)), x = .ref L ∧ H1 L = some (.lst (fs.map V.ref)) ∧ fs.length ≤ 900 ∧ Paired (fun f t => LqT X k t H1 f) fs ts ∧
        Paired (fun t r => ∀ G, Same H1 G → ErrT X fa σ t r G) ts res ∧ ∀ D ps H3, Same H1 H3 → H3 D = some (.lst (ps.map V.ref)) → Paired (fun p (r : Str × V) => H3 p = some (.tup [.str r.1, r.2])) ps res → Q (.ref D) H3
    | _ => False) I h) fun us s1 hq => ?_) hst (by rfl)
  obtain ⟨vs, H1, I1, r, q⟩ := hq
  refine ⟨I1.kIn, ?_⟩
  match vs, q with
  | [x], q =>
    obtain ⟨L, fs, ts, res, rfl, hL, hsz, hts, hres, q⟩ := q
    have C := hpC_cells I1
    have nu : ∀ c, isC X c → H1 c = none := fun c ⟨y, e⟩ => I1.freeC y c e
    have kp := hpC_keep I1
    have notc : ∀ {H3 : Hp} {b : Addr} {o : HO}, Same (hpC X s1.heap H1) H3 → H3 b = some o → (∀ ob u, o ≠ .frz ob u) → ¬ isC X b := fun {H3 b o} s3 e n z => by
      obtain ⟨ob, w, e2, _⟩ := C.all b z
      rw [s3 _ _ e2] at e
      exact n _ _ (Option.some.inj e).symm
    have hl : (us ++ ([] : List Value)).length = (["_law_asks"] : List Str).length := by
      rw [List.append_nil, ← r.length]
      rfl
    have hb := T.b_errors s1 us I1.kIn hl
    rw [List.append_nil] at hb
    refine wpAny_call (codeAny_mono ((ok_errs T I1.ok I1.len (k := k)).run X.A X.stack s1 (hpC X s1.heap H1) ⟨us, []⟩ us [.ref L] (fun v H' => Q v (minC X H')) (fun _ _ _ => False) hr (hpC_env hfn I1) hb r
      ⟨L, fs, ts, res, rfl, kp _ _ hL, hsz, C, lq_paired_mono (fun f t h => LqT.keep h (Same.keep2 kp)) hts, lq_paired_mono (fun t r h HZ sZ => tells_of h sZ nu) hres, fun D ps H3 s3 hD hps => ?_⟩) fun r2 s2 hq2 => ?_)
    · refine q D ps _ (fun b o e => ?_) ?_ (lq_paired_mono (fun p r e => ?_) hps)
      · have nb : ¬ isC X b := fun z => by
          rw [nu b z] at e
          cases e
        rw [minC_n nb]
        exact s3 _ _ (kp _ _ e)
      · rw [minC_n (notc s3 hD fun _ _ z => by cases z)]
        exact hD
      · rw [minC_n (notc s3 e fun _ _ z => by cases z)]
        exact e
    · cases r2 with
      | error e => exact (show False from hq2).elim
      | ok fl =>
        cases fl with
        | ret u => exact hpC_after I1 hq2
        | next => exact False.elim hq2
        | brk => exact False.elim hq2
        | cont => exact False.elim hq2
end
def NameL (x : List Nat) : Prop := ∃ y, LW y ∧ (x = y ∨ x = y ++ [39])
section
variable {P : Program} {w : World} {K : PySem.W.Frag} {mg : Str → Option Value} {base : Heap} {fa : Nat → Addr} {fd : Nat → FuncData}
theorem small_log2 {v : Int} (h : v.natAbs ≤ 8000) : v.natAbs.log2 < 4096 := log2_mono (b := 8000) h (by decide +kernel)
theorem mid_of {m : Int} (h : 0 < m) (h2 : m ≤ 8000) : Mid m := ⟨h, Nat.lt_trans (small_log2 (by omega)) (by decide)⟩
theorem low_ratD {u v : Int} (hv : v ≠ 0) : ratD (.tuple [.int (lowT u v), .int (lowD u v)]) = true := by
  have h1 := lowD_pos (u := u) hv
  have h2 := low_gcd (u := u) hv
  show (decide (1 ≤ lowD u v) && decide (Int.gcd (lowT u v) (lowD u v) = 1)) = true
  rw [decide_eq_true (show 1 ≤ lowD u v by omega), decide_eq_true h2]
  rfl
theorem new_ne {H : Hp} {a c p : Addr} (h : FeedOk H a c) (n : H p = none) : p ≠ a := by
  obtain ⟨_, _, _, _, ha, _⟩ := h
  exact (ne_of_none ha n).symm
/-- a fraction -/
abbrev frD (t u : Int) : PyData := .tuple [.int t, .int u]
def RatAt (z : Addr) (H : Hp) (v : V) (t u : Int) : Prop := Dt z H v (frD t u) ∧ ratD (frD t u) = true
def spRate : Sp := fun vs H Q _ => ∃ (a c : Addr), vs = [.ref a] ∧ FeedOk H a c ∧ ∀ v t u H', FeedOk H' a c → But a H H' → RatAt a H' v t u → t ≠ 0 → t.natAbs ≤ 5 → u.natAbs ≤ 3 → Q v H'
theorem small_line' {n : Nat} (h : n ≤ 1000) : n ≤ sizeLine := small_line h
theorem ok_rate (T : Txt K mg fa fd) : FnOk P w K mg base CX0 3 (fa 161) (fd 161) ["_law_feed_here"] spRate := by
  refine T.F_rate.ok sc_rate (fun vs H Q E h => ?_) (fun cdv A outer s H vs Q E hr h => ?_)
  · obtain ⟨a, c, rfl, _⟩ := h
    rfl
  · obtain ⟨a, c, rfl, hF, q⟩ := h
    refine ⟨_, (pss_one (ps_ret (pe_call (ok_any T) (hr.mono (by decide)) (by rfl) T.g_any T.F_any.kp T.b_any .nil pass0 (pa_cons (pv 0) (pa_cons (pe_lst (pa_cons (pe_tup (pa_cons pe_int (pa_cons pe_int pa_nil))) (pa_cons (pe_tup (pa_cons (pe_un un_neg pe_int) (pa_cons pe_int pa_nil))) (pa_cons (pe_tup (pa_cons pe_int (pa_cons pe_int pa_nil))) (pa_cons (pe_tup (pa_cons pe_int (pa_cons pe_int pa_nil))) (pa_cons (pe_tup (pa_cons (pe_un un_neg pe_int) (pa_cons pe_int pa_nil))) (pa_cons (pe_tup (pa_cons pe_int (pa_cons pe_int pa_nil))) (pa_cons (pe_tup (pa_cons pe_int (pa_cons pe_int pa_nil))) (pa_cons (pe_tup (pa_cons (pe_un un_neg pe_int) (pa_cons pe_int pa_nil))) (pa_cons (pe_tup (pa_cons (pe_un un_neg pe_int) (pa_cons pe_int pa_nil))) (pa_cons (pe_tup (pa_cons pe_int (pa_cons pe_int pa_nil))) pa_nil))))))))))) pa_nil))))), ?_⟩
    refine ⟨_, rfl, (small_line (by decide : 2 ≤ 1000)), fun p1 n1 => ?_⟩
    obtain ⟨s1, d1⟩ := dnewT (z := a) n1 (.cons (.int 1 (by decide +kernel)) (.cons (.int 1 (by decide +kernel)) .nil))
    refine ⟨_, rfl, (small_line (by decide : 2 ≤ 1000)), fun p2 n2 => ?_⟩
    obtain ⟨s2, d2⟩ := dnewT (z := a) n2 (.cons (.int (-1) (by decide +kernel)) (.cons (.int 1 (by decide +kernel)) .nil))
    refine ⟨(small_line (by decide : 2 ≤ 1000)), fun p3 n3 => ?_⟩
    obtain ⟨s3, d3⟩ := dnewT (z := a) n3 (.cons (.int 1 (by decide +kernel)) (.cons (.int 1 (by decide +kernel)) .nil))
    refine ⟨(small_line (by decide : 2 ≤ 1000)), fun p4 n4 => ?_⟩
    obtain ⟨s4, d4⟩ := dnewT (z := a) n4 (.cons (.int 2 (by decide +kernel)) (.cons (.int 1 (by decide +kernel)) .nil))
    refine ⟨_, rfl, (small_line (by decide : 2 ≤ 1000)), fun p5 n5 => ?_⟩
    obtain ⟨s5, d5⟩ := dnewT (z := a) n5 (.cons (.int (-2) (by decide +kernel)) (.cons (.int 1 (by decide +kernel)) .nil))
    refine ⟨(small_line (by decide : 2 ≤ 1000)), fun p6 n6 => ?_⟩
    obtain ⟨s6, d6⟩ := dnewT (z := a) n6 (.cons (.int 3 (by decide +kernel)) (.cons (.int 1 (by decide +kernel)) .nil))
    refine ⟨(small_line (by decide : 2 ≤ 1000)), fun p7 n7 => ?_⟩
    obtain ⟨s7, d7⟩ := dnewT (z := a) n7 (.cons (.int 1 (by decide +kernel)) (.cons (.int 2 (by decide +kernel)) .nil))
    refine ⟨_, rfl, (small_line (by decide : 2 ≤ 1000)), fun p8 n8 => ?_⟩
    obtain ⟨s8, d8⟩ := dnewT (z := a) n8 (.cons (.int (-3) (by decide +kernel)) (.cons (.int 2 (by decide +kernel)) .nil))
    refine ⟨_, rfl, (small_line (by decide : 2 ≤ 1000)), fun p9 n9 => ?_⟩
    obtain ⟨s9, d9⟩ := dnewT (z := a) n9 (.cons (.int (-1) (by decide +kernel)) (.cons (.int 1 (by decide +kernel)) .nil))
    refine ⟨(small_line (by decide : 2 ≤ 1000)), fun p10 n10 => ?_⟩
    obtain ⟨s10, d10⟩ := dnewT (z := a) n10 (.cons (.int 5 (by decide +kernel)) (.cons (.int 3 (by decide +kernel)) .nil))
    refine ⟨(small_line (by decide : 10 ≤ 1000)), fun p11 n11 => ?_⟩
    obtain ⟨s11, all, hrw⟩ := drow (z := a) n11 (.cons (d1.same (s2.trans (s3.trans (s4.trans (s5.trans (s6.trans (s7.trans (s8.trans (s9.trans s10))))))))) (.cons (d2.same (s3.trans (s4.trans (s5.trans (s6.trans (s7.trans (s8.trans (s9.trans s10)))))))) (.cons (d3.same (s4.trans (s5.trans (s6.trans (s7.trans (s8.trans (s9.trans s10))))))) (.cons (d4.same (s5.trans (s6.trans (s7.trans (s8.trans (s9.trans s10)))))) (.cons (d5.same (s6.trans (s7.trans (s8.trans (s9.trans s10))))) (.cons (d6.same (s7.trans (s8.trans (s9.trans s10)))) (.cons (d7.same (s8.trans (s9.trans s10))) (.cons (d8.same (s9.trans s10)) (.cons (d9.same s10) (.cons d10 .nil))))))))))
    have sR := (s1.trans (s2.trans (s3.trans (s4.trans (s5.trans (s6.trans (s7.trans (s8.trans (s9.trans (s10.trans s11))))))))))
    refine ⟨a, c, p11, _, rfl, hF.same sR, hrw, new_ne (hF.same (s1.trans (s2.trans (s3.trans (s4.trans (s5.trans (s6.trans (s7.trans (s8.trans (s9.trans s10)))))))))) n11, by show 0 < 10; decide, by show 10 ≤ 1000; decide, fun v H2 hv hF2 b2 => ?_⟩
    obtain ⟨d, hd, h⟩ := all.mem hv
    have h2 := h.but (hF.same sR) b2
    have bb := (But.of (a := a) sR).trans b2
    simp only [List.mem_cons, List.not_mem_nil, or_false] at hd
    rcases hd with rfl | rfl | rfl | rfl | rfl | rfl | rfl | rfl | rfl | rfl <;> exact q _ _ _ _ hF2 bb ⟨h2, by decide +kernel⟩ (by decide) (by decide) (by decide)
end
theorem join_singles : ∀ cs : List Nat, TL.joinL [] (cs.map fun c => [c]) = cs
  | [] => rfl
  | [c] => rfl
  | c :: d :: r => by
    show [c] ++ ([] ++ TL.joinL [] ((d :: r).map fun c => [c])) = c :: d :: r
    rw [join_singles (d :: r)]
    rfl
theorem FeedOk.put {H : Hp} {a c p : Addr} {o : HO} (h : FeedOk H a c) (h1 : p ≠ a) (h2 : p ≠ c) : FeedOk (L2.upd H p o) a c := by
  obtain ⟨ns, k, big, mark, e1, e2, h3⟩ := h
  exact ⟨ns, k, big, mark, by rw [upd_ne h1.symm]; exact e1, by rw [upd_ne h2.symm]; exact e2, h3⟩
theorem but_none {a p : Addr} {H H' : Hp} (b : But a H H') (n : H' p = none) (ne : p ≠ a) : H p = none := by
  cases e : H p with
  | none => rfl
  | some o =>
    rw [b p o ne e] at n
    cases n
theorem But.updN {a p : Addr} {H H' : Hp} {o : HO} (b : But a H H') (n : H p = none) : But a H (L2.upd H' p o) := fun q x hq e => by
  rw [upd_ne (ne_of_none e n)]
  exact b q x hq e
theorem new_nc {H : Hp} {a c p : Addr} (h : FeedOk H a c) (n : H p = none) : p ≠ c := by
  obtain ⟨_, _, _, _, _, hc, _⟩ := h
  exact (ne_of_none hc n).symm
section
variable {P : Program} {w : World} {K : PySem.W.Frag} {mg : Str → Option Value} {base : Heap} {fa : Nat → Addr} {fd : Nat → FuncData}
def spWords : Sp := fun vs H Q _ => ∃ (a c : Addr) (m : Nat), vs = [.ref a, .int (m : Int)] ∧ FeedOk H a c ∧ m ≤ 6 ∧ ∀ (p : Addr) (ws : List (List Nat)) (H' : Hp), FeedOk H' a c → But a H H' → p ≠ a → H' p = some (.lst (ws.map vS)) → ws.length = m → ws.Nodup → (∀ x ∈ ws, LW x) → Q (.ref p) H'
theorem ok_words (T : Txt K mg fa fd) : FnOk P w K mg base CX0 3 (fa 162) (fd 162) ["_law_feed_here", "_law_many"] spWords := by
  refine T.F_words.ok sc_words (fun vs H Q E h => ?_) (fun cdv A outer s H vs Q E hr h => ?_)
  · obtain ⟨a, c, m, rfl, _⟩ := h
    rfl
  · obtain ⟨a, c, m, rfl, hF, hm, q⟩ := h
    refine ⟨_, (C8.pss_cut (ps_set (i := 2) sc_words.nd rfl (.inr rfl) pe_str)
      (C8.pss_cut (ps_set (i := 3) sc_words.nd rfl (.inr rfl) (pe_m1 PySem.F.slot_str_join PySem.F.type_str_join mt_join pe_str (pe_lc (own := [("_law_k", 8)]) (g := gName 8) (tt := tYes) rfl sc_words.nd (pi_range1 (by rfl) T.m_range (pa_cons (pe_call (ok_draw T) (hr.mono (by decide)) (by rfl) T.g_draw T.F_draw.kp T.b_draw .nil pass0 (pa_cons (pv 0) (pa_cons pe_int pa_nil))) pa_nil)) (blkOk_by (own := [("_law_k", 8)]) (N := ["_law_feed_here", "_law_many", "_law_letters", "_law_stem", "_law_spot", "_law_first", "_law_way", "_law_found", "_law_k"]) (sc := defScope s_words) (by decide +kernel)) (fun _ _ _ _ _ => pg_name (i := 8) sc_words.nd rfl (Or.inl rfl)) (fun _ _ _ _ _ => pts_nil) (fun _ _ _ _ _ => (pe_ix ix_str (pv 2) (pe_call (ok_draw T) (hr.mono (by decide)) (by rfl) T.g_draw T.F_draw.kp T.b_draw .nil pass0 (pa_cons (pv 0) (pa_cons pe_int pa_nil))) (fun _ _ => rfl)))) (by rfl) (by rfl) (by rfl)))
      (C8.pss_cut (ps_asg (pe_tup (pa_cons (pe_call (ok_draw T) (hr.mono (by decide)) (by rfl) T.g_draw T.F_draw.kp T.b_draw .nil pass0 (pa_cons (pv 0) (pa_cons (pe_op op_add (pe_callB call_len_str (by rfl) T.m_len PySem.boot_len (pa_cons (pv 3) pa_nil)) pe_int) pa_nil))) (pa_cons (pe_call (ok_draw T) (hr.mono (by decide)) (by rfl) T.g_draw T.F_draw.kp T.b_draw .nil pass0 (pa_cons (pv 0) (pa_cons pe_int pa_nil))) (pa_cons (pe_call (ok_draw T) (hr.mono (by decide)) (by rfl) T.g_draw T.F_draw.kp T.b_draw .nil pass0 (pa_cons (pv 0) (pa_cons pe_int pa_nil))) pa_nil)))) (pg_tup (by rfl) (pgs_cons (pg_name (i := 4) sc_words.nd rfl (.inr rfl)) (pgs_cons (pg_name (i := 5) sc_words.nd rfl (.inr rfl)) (pgs_cons (pg_name (i := 6) sc_words.nd rfl (.inl rfl)) pgs_nil)))))
      (C8.pss_cut (ps_setLc (i := 7) (own := [("_law_k", 8)]) (g := gName 8) (tt := tYes) rfl sc_words.nd rfl rfl (sw_true rfl rfl rfl (by decide +kernel)) (pi_range1 (by rfl) T.m_range (pa_cons (pv 1) pa_nil)) (blkOk_by (own := [("_law_k", 8)]) (N := ["_law_feed_here", "_law_many", "_law_letters", "_law_stem", "_law_spot", "_law_first", "_law_way", "_law_found", "_law_k"]) (sc := defScope s_words) (by decide +kernel)) (fun _ _ _ _ _ => pg_name (i := 8) sc_words.nd rfl (Or.inl rfl)) (fun _ _ _ _ _ => pts_nil) (fun _ _ _ _ _ => (pe_op op_add_str (pe_op op_add_str (pe_slice sl_str (pv 3) po_none (po_some (pv 4))) (pe_ix ix_str (pv 2) (pe_op op_mod (pe_callTy call_int1 (by rfl) T.m_int PySem.Pv.boot_int (pa_cons (pe_op op_add (pv 5) (pe_op op_mul pe_int (pv 8))) pa_nil)) pe_int) (fun _ _ => rfl))) (pe_slice sl_str (pv 3) (po_some (pv 4)) po_none))))
      (C8.pss_cut (ps_if (pt_cmpR op_eq (pv 6) pe_int (nomark _)) (C8.pss_cut (ps_setLc (i := 7) (own := [("_law_k", 8)]) (g := gName 8) (tt := tYes) rfl sc_words.nd rfl rfl (sw_true rfl rfl rfl (by decide +kernel)) (pi_range1 (by rfl) T.m_range (pa_cons (pv 1) pa_nil)) (blkOk_by (own := [("_law_k", 8)]) (N := ["_law_feed_here", "_law_many", "_law_letters", "_law_stem", "_law_spot", "_law_first", "_law_way", "_law_found", "_law_k"]) (sc := defScope s_words) (by decide +kernel)) (fun _ _ _ _ _ => pg_name (i := 8) sc_words.nd rfl (Or.inl rfl)) (fun _ _ _ _ _ => pts_nil) (fun _ _ _ _ _ => (pe_slice sl_str (pe_op op_add_str (pe_slice sl_str (pv 3) po_none (po_some pe_int)) (pe_op op_mul_str (pe_ix ix_str (pv 2) (pe_op op_mod (pe_callTy call_int1 (by rfl) T.m_int PySem.Pv.boot_int (pa_cons (pe_op op_add (pv 5) (pe_op op_mul pe_int (pv 8))) pa_nil)) pe_int) (fun _ _ => rfl)) (pe_op op_add pe_int (pe_op op_mod (pe_callTy call_int1 (by rfl) T.m_int PySem.Pv.boot_int (pa_cons (pe_op op_add (pv 8) (pv 5)) pa_nil)) pe_int)))) (po_some (pe_un un_neg pe_int)) po_none)))
      (pss_one (ps_set (i := 7) sc_words.nd rfl (.inl rfl) (pe_ifExp (pt_cmpR op_eq (pe_callB call_len_seq (by rfl) T.m_len PySem.boot_len (pa_cons (pe_callB (cr_sortedW rfl) (by rfl) T.m_sorted (by decide +kernel) (pa_cons (pe_callTy (cr_setS rfl) (by rfl) T.m_set (by decide +kernel) (pa_cons (pv 7) pa_nil)) pa_nil)) pa_nil)) (pv 1) (nomark _)) (pv 7) (pe_lc (own := [("_law_k", 8)]) (g := gName 8) (tt := tYes) rfl sc_words.nd (pi_range1 (by rfl) T.m_range (pa_cons (pv 1) pa_nil)) (blkOk_by (own := [("_law_k", 8)]) (N := ["_law_feed_here", "_law_many", "_law_letters", "_law_stem", "_law_spot", "_law_first", "_law_way", "_law_found", "_law_k"]) (sc := defScope s_words) (by decide +kernel)) (fun _ _ _ _ _ => pg_name (i := 8) sc_words.nd rfl (Or.inl rfl)) (fun _ _ _ _ _ => pts_nil) (fun _ _ _ _ _ => (pe_ix ix_str (pv 2) (pe_op op_mod (pe_callTy call_int1 (by rfl) T.m_int PySem.Pv.boot_int (pa_cons (pe_op op_add (pv 5) (pe_op op_mul pe_int (pv 8))) pa_nil)) pe_int) (fun _ _ => rfl)))))))) pss_nil)
      (pss_one (ps_ret (pv 7)))))))), ?_⟩
    refine ⟨fun σ H1 => H1 = H ∧ σ = [some (.ref a), some (.int m), some (.str ABC), none, none, none, none, none, none], ⟨rfl, rfl⟩, fun σ H1 hM => ?_⟩
    obtain ⟨rfl, rfl⟩ := hM
    -- stem
    refine ⟨fun σ H2 => FeedOk H2 a c ∧ But a H1 H2 ∧ ∃ st : List Nat, st.length ≤ 5 ∧ st.all lowc = true ∧ σ = [some (.ref a), some (.int m), some (.str ABC), some (vS st), none, none, none, none, none], ?_, fun σ H2 hM => ?_⟩
    · refine ⟨⟨_, rfl⟩, _, rfl, a, c, _, rfl, hF, mid_of (by decide) (by decide), fun r H2 r0 r1 hF2 b2 => ?_⟩
      refine ⟨r, rfl, by omega, by omega, fun D nD => ?_⟩
      obtain ⟨n, rfl⟩ := Int.eq_ofNat_of_zero_le r0
      have nDa := new_ne hF2 nD
      have nDc := new_nc hF2 nD
      have nD1 := but_none b2 nD nDa
      refine lc_range (n := n) (fun i H3 => FeedOk H3 a c ∧ But a H1 H3 ∧ ∃ st : List Nat, st.length = i ∧ st.all lowc = true ∧ H3 D = some (.lst (st.map fun c => vS [c]))) ⟨hF2.new nD, b2.updN nD1, [], rfl, rfl, upd_same⟩ (fun i H3 hi hp => ?_) (fun H3 hp => ?_)
      · obtain ⟨hF3, b3, st, hl, hs, hD⟩ := hp
        refine ⟨rfl, _, rfl, _, rfl, a, c, _, rfl, hF3, mid_of (by decide) (by decide), fun r2 H4 r3 r4 hF4 b4 => ?_⟩
        refine ⟨_, _, _, rfl, rfl, small_line (by decide), abc_at r3 r4, _, b4 _ _ nDa hD, ?_, hF4.put nDa nDc, (b3.trans b4).updN nD1, st ++ [97 + r2.toNat], ?_, ?_, ?_⟩
        · rw [List.length_map]
          exact small1000 (by omega)
        · rw [List.length_append, hl]
          rfl
        · rw [List.all_append, hs, Bool.true_and]
          simp [low_abc (show r2.toNat < 26 by omega)]
        · rw [upd_same, List.map_append]
          rfl
      · obtain ⟨hF3, b3, st, hl, hs, hD⟩ := hp
        have em : (st.map fun c => vS [c]) = (st.map fun c => SX.S [c]).map V.str := by rw [List.map_map]; rfl
        refine ⟨_, D, st.map fun c => SX.S [c], rfl, rfl, .inl (SqL.of (by rw [← em]; exact hD)), ?_, hF3, b3, st, by omega, hs, ?_⟩
        · have : ∀ l : List Nat, ((l.map fun c => SX.S [c]).map (·.length)).sum = l.length := fun l => by
            induction l with
            | nil => rfl
            | cons x l ih =>
              rw [List.map_cons, List.map_cons, List.sum_cons, ih, List.length_cons, SX.S_len]
              exact Nat.add_comm _ _
          rw [this, List.length_map]
          show st.length + st.length * 0 ≤ _
          omega
        · have e : Txt.join (Str.ofString "") (st.map fun c => SX.S [c]) = SX.S st := by
            have := SX.join_S [] (st.map fun c => [c])
            rw [join_singles, List.map_map] at this
            exact this
          rw [e]
          rfl
    · obtain ⟨hF2, b2, st, hst, hsl, rfl⟩ := hM
      -- spot, first, way
      refine ⟨fun σ H3 => FeedOk H3 a c ∧ But a H1 H3 ∧ ∃ (sp f : Nat) (wy : Int), f < 26 ∧ σ = [some (.ref a), some (.int m), some (.str ABC), some (vS st), some (.int sp), some (.int f), some (.int wy), none, none], ?_, fun σ H3 hM => ?_⟩
      · have sl : (SX.S st).length = st.length := SX.S_len st
        refine ⟨_, rfl, _, rfl, _, rfl, small_line (by omega), _, _, rfl, rfl, a, c, _, rfl, hF2, mid_of (by omega) (by omega), fun r H3 r0 r1 hF3 b3 => ?_⟩
        refine ⟨_, rfl, a, c, _, rfl, hF3, mid_of (by decide) (by decide), fun r2 H4 r3 r4 hF4 b4 => ?_⟩
        refine ⟨_, rfl, a, c, _, rfl, hF4, mid_of (by decide) (by decide), fun r5 H5 _ _ hF5 b5 => ?_⟩
        refine ⟨small_line (by show 3 ≤ 1000; decide), fun p np => ⟨p, _, rfl, .inl (.inl upd_same), rfl, _, _, rfl, _, _, rfl, _, _, rfl, rfl, ?_⟩⟩
        obtain ⟨sp, rfl⟩ := Int.eq_ofNat_of_zero_le r0
        obtain ⟨f, rfl⟩ := Int.eq_ofNat_of_zero_le r3
        exact ⟨hF5.new np, (b2.trans (b3.trans (b4.trans b5))).trans (But.of (same_upd np)), sp, f, r5, by omega, rfl⟩
      · clear hF2 b2 H2
        obtain ⟨hF3, b3, sp, f, wy, hf, rfl⟩ := hM
        -- found
        refine ⟨fun σ H4 => FeedOk H4 a c ∧ But a H1 H4 ∧ ∃ p, p ≠ a ∧ H4 p = some (.lst (((List.range m).map fun k => st.take sp ++ [five f k] ++ st.drop sp).map vS)) ∧ σ = [some (.ref a), some (.int m), some (.str ABC), some (vS st), some (.int sp), some (.int f), some (.int wy), some (.ref p), none], ?_, fun σ H4 hM => ?_⟩
        · refine ⟨_, rfl, _, rfl, by omega, by omega, fun D nD => ?_⟩
          have nDa := new_ne hF3 nD
          have nDc := new_nc hF3 nD
          have nD1 := but_none b3 nD nDa
          have sl : (SX.S st).length = st.length := SX.S_len st
          refine lc_range (n := m) (fun i H4 => FeedOk H4 a c ∧ But a H1 H4 ∧ H4 D = some (.lst (((List.range i).map fun k => st.take sp ++ [five f k] ++ st.drop sp).map vS))) ⟨hF3.new nD, b3.updN nD1, upd_same⟩ (fun i H4 hi hp => ?_) (fun H4 hp => ⟨hp.1, hp.2.1, D, nDa, hp.2.2, rfl⟩)
          obtain ⟨hF4, b4, hD⟩ := hp
          have m0 : (0 : Int) ≤ ((f : Int) + 5 * (0 + (i : Int))) % 26 := by omega
          have m1 : ((f : Int) + 5 * (0 + (i : Int))) % 26 < 26 := by omega
          have m2 : 97 + (((f : Int) + 5 * (0 + (i : Int))) % 26).toNat = five f i := by
            unfold five
            omega
          have it := abc_at m0 m1
          rw [m2] at it
          refine ⟨rfl, _, rfl, _, rfl, _, rfl, _, rfl, small_line (by omega), _, rfl, _, rfl, _, rfl, _, _, rfl, rfl, .inl (by decide), _, _, rfl, rfl, .inl ⟨_, rfl, _, _, rfl, rfl, (by show (0 : Int) < 26; decide), ?_⟩⟩
          refine ⟨_, _, _, rfl, rfl, small_line (by decide), it, _, _, rfl, rfl, ?_, _, rfl, _, rfl, _, rfl, _, rfl, small_line (by omega), _, _, rfl, rfl, ?_, _, hD, ?_, ?_, ?_, ?_⟩
          · rw [cut_to, SX.S_len, List.length_take]
            exact small_line (by show min sp st.length + 1 ≤ 1000; omega)
          · rw [cut_to, cut_from, show ({ cps := #[five f i] } : Str) = SX.S [five f i] from rfl, SX.S_cat, SX.S_len, SX.S_len, List.length_append, List.length_take, List.length_drop]
            exact small_line (by show min sp st.length + 1 + (st.length - sp) ≤ 1000; omega)
          · rw [List.length_map, List.length_map, List.length_range]
            exact small1000 (by omega)
          · exact hF4.put nDa nDc
          · exact b4.updN nD1
          · rw [upd_same, cut_to, cut_from, show ({ cps := #[five f i] } : Str) = SX.S [five f i] from rfl, SX.S_cat, SX.S_cat, List.range_succ, List.map_append, List.map_append]
            rfl
        · clear hF3 b3 H3
          obtain ⟨hF4, b4, p, npa, hp, rfl⟩ := hM
          have lw0 : ∀ x ∈ (List.range m).map fun k => st.take sp ++ [five f k] ++ st.drop sp, LW x := fun x hx => by
            obtain ⟨k, hk, rfl⟩ := List.mem_map.mp hx
            exact LW.put hst hsl (low_abc (Nat.mod_lt _ (by decide)))
          have nd0 : ((List.range m).map fun k => st.take sp ++ [five f k] ++ st.drop sp).Nodup := nodup_range_map fun i j hi hj e => five_inj (by omega) (by omega) (put_inj e)
          -- way
          refine ⟨fun σ H5 => ∃ (p : Addr) (ws : List (List Nat)), FeedOk H5 a c ∧ But a H1 H5 ∧ p ≠ a ∧ H5 p = some (.lst (ws.map vS)) ∧ ws.length = m ∧ ws.Nodup ∧ (∀ x ∈ ws, LW x) ∧ σ = [some (.ref a), some (.int m), some (.str ABC), some (vS st), some (.int sp), some (.int f), some (.int wy), some (.ref p), none], ?_, fun σ H5 hM => ?_⟩
          · refine ⟨_, rfl, rfl, _, rfl, ite2 (fun _ => ?_) (fun _ => ⟨p, _, hF4, b4, npa, hp, by rw [List.length_map, List.length_range], nd0, lw0, rfl⟩)⟩
            refine ⟨fun σ H5 => FeedOk H5 a c ∧ But a H1 H5 ∧ ∃ (p : Addr) (ws : List (List Nat)), p ≠ a ∧ H5 p = some (.lst (ws.map vS)) ∧ ws.length = m ∧ (∀ x ∈ ws, LW x) ∧ σ = [some (.ref a), some (.int m), some (.str ABC), some (vS st), some (.int sp), some (.int f), some (.int wy), some (.ref p), none], ?_, fun σ H5 hM => ?_⟩
            · refine ⟨_, rfl, _, rfl, by omega, by omega, fun D nD => ?_⟩
              have nDa := new_ne hF4 nD
              have nDc := new_nc hF4 nD
              have nD1 := but_none b4 nD nDa
              refine lc_range (n := m) (fun i H5 => FeedOk H5 a c ∧ But a H1 H5 ∧ ∃ ws : List (List Nat), ws.length = i ∧ (∀ x ∈ ws, LW x) ∧ H5 D = some (.lst (ws.map vS))) ⟨hF4.new nD, b4.updN nD1, [], rfl, (fun x h => by cases h), upd_same⟩ (fun i H5 hi hp => ?_) (fun H5 hp => by
                obtain ⟨h1, h2, ws, h3, h4, h5⟩ := hp
                exact ⟨h1, h2, D, ws, nDa, h5, h3, h4, rfl⟩)
              obtain ⟨hF5, b5, ws, hl, hw, hD⟩ := hp
              have m0 : (0 : Int) ≤ ((f : Int) + 7 * (0 + (i : Int))) % 26 := by omega
              have m1 : ((f : Int) + 7 * (0 + (i : Int))) % 26 < 26 := by omega
              have it := abc_at m0 m1
              have lc := low_abc (show (((f : Int) + 7 * (0 + (i : Int))) % 26).toNat < 26 by omega)
              generalize 97 + (((f : Int) + 7 * (0 + (i : Int))) % 26).toNat = cd at it lc
              have r0 : 0 ≤ (1 : Int) + ((0 + (i : Int)) + (f : Int)) % 4 := by omega
              have r1 : 1 ≤ ((1 : Int) + ((0 + (i : Int)) + (f : Int)) % 4).toNat := by omega
              have r2 : ((1 : Int) + ((0 + (i : Int)) + (f : Int)) % 4).toNat ≤ 4 := by omega
              have r3 : (1 : Int) + ((0 + (i : Int)) + (f : Int)) % 4 ≤ 4 := by omega
              have sl : (SX.S st).length = st.length := SX.S_len st
              refine ⟨rfl, _, rfl, _, rfl, _, rfl, small_line (by omega), _, rfl, _, rfl, _, rfl, _, _, rfl, rfl, .inl (by decide), _, _, rfl, rfl, .inl ⟨_, rfl, _, _, rfl, rfl, (by show (0 : Int) < 26; decide), ?_⟩⟩
              refine ⟨_, _, _, rfl, rfl, small_line (by decide), it, _, rfl, _, rfl, _, _, rfl, rfl, .inl ⟨_, rfl, _, _, rfl, rfl, (by show (0 : Int) < 4; decide), ?_⟩⟩
              refine ⟨_, _, rfl, rfl, _, _, rfl, rfl, mul_one1 rfl (by omega) (by omega), ?_⟩
              generalize (1 : Int) + ((0 + (i : Int)) + (f : Int)) % 4 = N at r0 r1 r2 r3
              have e1 : cutS (SX.S st) none (some 1) = SX.S (st.take 1) := cut_to st 1
              have e2 : Txt.mul { cps := #[cd] } N = SX.S (List.replicate N.toNat cd) := mul_rep cd N
              have l5 : (st.take 1 ++ List.replicate N.toNat cd).length ≤ 6 := (LW.rep (a := st) hsl lc r1 (by omega)).2.1
              have whole : cutS (cutS (SX.S st) none (some 1) ++ Txt.mul { cps := #[cd] } N) (some (-6)) none = SX.S (st.take 1 ++ List.replicate N.toNat cd) := by
                rw [e1, e2, SX.S_cat]
                exact cut_last _ (k := 6) l5 (by decide)
              refine ⟨_, _, rfl, rfl, ?_, _, rfl, _, rfl, _, rfl, ?_, _, hD, ?_, hF5.put nDa nDc, b5.updN nD1, ws ++ [st.take 1 ++ List.replicate N.toNat cd], ?_, ?_, ?_⟩
              · rw [e1, e2, SX.S_len, SX.S_len, ← List.length_append]
                exact small_line (by omega)
              · rw [e1, e2, SX.S_cat, SX.S_len]
                exact small_line (by omega)
              · rw [List.length_map]
                exact small1000 (by omega)
              · rw [List.length_append, hl]
                rfl
              · intro x hx
                rcases List.mem_append.mp hx with h | h
                · exact hw x h
                · rw [List.mem_singleton.mp h]
                  exact LW.rep hsl lc r1 (by omega)
              · rw [upd_same, List.map_append]
                exact congrArg (fun z => some (HO.lst (ws.map vS ++ [V.str z]))) whole
            · clear hF4 b4 hp npa p nd0 lw0 H4
              obtain ⟨hF5, b5, p, ws, npa, hp, hl, hw, rfl⟩ := hM
              have hpS : H5 p = some (.lst ((ws.map SX.S).map V.str)) := by
                rw [List.map_map]
                exact hp
              have il := insAll_len (ws.map SX.S) []
              rw [List.length_map] at il
              simp only [List.length_nil, Nat.add_zero] at il
              refine ⟨_, rfl, p, _, rfl, SqL.of hpS, by rw [List.length_map]; omega, fun q nq => ⟨q, _, rfl, upd_same, insAll_nodup _ List.nodup_nil, by omega, fun zs r pm _ nr => ?_⟩⟩
              refine ⟨r, _, rfl, .inl (SqL.of upd_same), _, rfl, rfl, _, rfl, ?_⟩
              have sq := same_upd (o := SetW P w q (insAll (ws.map SX.S) [])) nq
              have sr := same_upd (o := .lst (zs.map V.str)) nr
              have sx := sq.trans sr
              have hF7 := hF5.same sx
              have b7 := b5.trans (But.of (a := a) sx)
              have hp7 := sx _ _ hp
              generalize upd (upd H5 q (SetW P w q (insAll (ws.map SX.S) []))) r (.lst (zs.map V.str)) = H7 at hF7 b7 hp7 ⊢
              refine ite2 (fun e => ?_) (fun _ => ?_)
              · have e := V.int.inj (of_decide_eq_true e)
                rw [List.length_map] at e
                have el : (insAll (ws.map SX.S) []).length = (ws.map SX.S).length + ([] : List Str).length := by
                  rw [← pm.length_eq, List.length_map, List.length_nil]
                  omega
                exact ⟨_, rfl, p, ws, hF7, b7, npa, hp7, hl, nodup_S (ins_all_full _ _ el).1, hw, rfl⟩
              · refine ⟨_, rfl, _, rfl, by omega, by omega, fun D nD => ?_⟩
                have nDa := new_ne hF7 nD
                have nDc := new_nc hF7 nD
                have nD1 := but_none b7 nD nDa
                refine lc_range (n := m) (fun i H8 => FeedOk H8 a c ∧ But a H1 H8 ∧ H8 D = some (.lst (((List.range i).map fun k => [five f k]).map vS))) ⟨hF7.new nD, b7.updN nD1, upd_same⟩ (fun i H8 hi hp => ?_) (fun H8 hp => ?_)
                · obtain ⟨hF8, b8, hD⟩ := hp
                  have m0 : (0 : Int) ≤ ((f : Int) + 5 * (0 + (i : Int))) % 26 := by omega
                  have m1 : ((f : Int) + 5 * (0 + (i : Int))) % 26 < 26 := by omega
                  have m2 : 97 + (((f : Int) + 5 * (0 + (i : Int))) % 26).toNat = five f i := by
                    unfold five
                    omega
                  have it := abc_at m0 m1
                  rw [m2] at it
                  refine ⟨rfl, _, rfl, _, rfl, _, rfl, _, _, rfl, rfl, .inl (by decide), _, _, rfl, rfl, .inl ⟨_, rfl, _, _, rfl, rfl, (by show (0 : Int) < 26; decide), ?_⟩⟩
                  refine ⟨_, _, _, rfl, rfl, small_line (by decide), it, _, hD, ?_, hF8.put nDa nDc, b8.updN nD1, ?_⟩
                  · rw [List.length_map, List.length_map, List.length_range]
                    exact small1000 (by omega)
                  · rw [upd_same, List.range_succ, List.map_append, List.map_append]
                    rfl
                · obtain ⟨hF8, b8, hD⟩ := hp
                  refine ⟨D, _, hF8, b8, nDa, hD, by rw [List.length_map, List.length_range], nodup_range_map fun i j hi hj e => five_inj (by omega) (by omega) (List.cons.inj e).1, fun x hx => ?_, rfl⟩
                  obtain ⟨k, hk, rfl⟩ := List.mem_map.mp hx
                  exact LW.one (low_abc (Nat.mod_lt _ (by decide)))
          · obtain ⟨p, ws, hF5, b5, npa, hp, hl, hn, hw, rfl⟩ := hM
            exact ⟨_, rfl, q p ws H5 hF5 b5 npa hp hl hn hw⟩
end
abbrev Nm := List Nat
abbrev Tie := List It × FR
def RR : List FR := ([-5, -4, -3, -2, -1, 1, 2, 3, 4, 5] : List Int).flatMap fun t => (([1, 2, 3] : List Int).filter fun u => Int.gcd t u == 1).map fun u => (t, u)
theorem rr_in {t u : Int} (ht : t ≠ 0) (h5 : t.natAbs ≤ 5) (hu : 0 < u) (h3 : u.natAbs ≤ 3) (hg : Int.gcd t u = 1) : (t, u) ∈ RR := by
  unfold RR
  rw [List.mem_flatMap]
  refine ⟨t, ?_, ?_⟩
  · simp only [List.mem_cons, List.not_mem_nil, or_false]
    omega
  · rw [List.mem_map]
    refine ⟨u, List.mem_filter.mpr ⟨?_, ?_⟩, rfl⟩
    · simp only [List.mem_cons, List.not_mem_nil, or_false]
      omega
    · exact beq_iff_eq.mpr hg
theorem okr_rr {r : PyData} (h : okR r) : ∃ f ∈ RR, r = frP f := by
  obtain ⟨t, u, rfl⟩ := ratD_inv h.1
  have h1 : (decide (1 ≤ u) && decide (Int.gcd t u = 1)) = true := h.1
  simp only [Bool.and_eq_true, decide_eq_true_eq] at h1
  have h2 := h.2.1
  have h3 := h.2.2
  refine ⟨(t, u), rr_in ?_ ?_ (by omega) ?_ h1.2, rfl⟩
  · exact of_decide_eq_true (show decide (t ≠ 0) = true from h2)
  · exact (of_decide_eq_true (show decide (t.natAbs ≤ 5 ∧ u.natAbs ≤ 3) = true from h3)).1
  · exact (of_decide_eq_true (show decide (t.natAbs ≤ 5 ∧ u.natAbs ≤ 3) = true from h3)).2
theorem rr_bd : ∀ f ∈ RR, f.1 ≠ 0 ∧ BdF f := by
  have h : (RR.all fun f => decide (f.1 ≠ 0) && decide (0 < f.2) && decide (f.1.natAbs < 2 ^ 10) && decide (f.2.natAbs < 2 ^ 10)) = true := by decide +kernel
  intro f hf
  have := List.all_eq_true.mp h f hf
  simp only [Bool.and_eq_true, decide_eq_true_eq] at this
  exact ⟨this.1.1.1, Bn.mono (k := 10) ⟨this.1.2, this.2⟩ (by decide), this.1.1.2⟩
section
variable {P : Program} {w : World} {K : PySem.W.Frag} {mg : Str → Option Value} {base : Heap} {fa : Nat → Addr} {fd : Nat → FuncData}
/-! ### fractions, with numbers of any sort -/
theorem ok_p_ratio0 (T : Txt K mg fa fd) : FnOk P w K mg base CX0 3 (fa 21) (fd 21) ["top", "under"] spLow := by
  refine T.F_p_ratio.ok sc_p_ratio (fun vs H Q E h => ?_) (fun cdv A outer s H vs Q E hr h => ?_)
  · obtain ⟨x, y, rfl, _⟩ := h
    rfl
  · obtain ⟨u, v, rfl, ev, h9, q⟩ := h
    refine ⟨_, (pss_cons (ps_if (pt_cmpR op_eq (pv 1) pe_int (nomark _)) (pss_one ps_never) pss_nil)
      (pss_cons (ps_set (i := 2) sc_p_ratio.nd rfl (.inl rfl) (pe_call (ok_p_common_divisor T) (hr.mono (by decide)) (by rfl) T.g_p_common_divisor T.F_p_common_divisor.kp T.b_p_common_divisor .nil pass0 (pa_cons (pv 0) (pa_cons (pv 1) pa_nil))))
      (C8.pss_cut (ps_if (pt_cmpR op_lt (pv 1) pe_int (nomark _)) (pss_one (ps_set (i := 2) sc_p_ratio.nd rfl (.inl rfl) (pe_un un_neg (pv 2)))) pss_nil)
      (pss_one (ps_ret (pe_tup (pa_cons (pe_op op_fdivG (pv 0) (pv 2)) (pa_cons (pe_op op_fdivG (pv 1) (pv 2)) pa_nil)))))))), ?_⟩
    refine ⟨_, rfl, rfl, _, rfl, ite2 (fun e => absurd (V.int.inj (of_decide_eq_true e)) ev) (fun _ => ?_)⟩
    refine ⟨_, rfl, _, rfl, u, v, rfl, .inr h9, ?_⟩
    refine ⟨fun σ H1 => H1 = H ∧ σ = [some (.int u), some (.int v), some (.int (lowG u v))], ?_, fun σ H1 hM => ?_⟩
    · refine ⟨_, rfl, _, _, rfl, rfl, _, rfl, ite2 (fun e => ?_) (fun e => ?_)⟩
      · refine ⟨_, rfl, _, rfl, rfl, ?_⟩
        unfold lowG
        rw [if_pos (of_decide_eq_true e)]
        rfl
      · refine ⟨rfl, ?_⟩
        unfold lowG
        rw [if_neg (fun z => e (decide_eq_true z))]
        rfl
    · obtain ⟨rfl, rfl⟩ := hM
      have hG := lowG_ok (u := u) ev h9
      exact ⟨_, rfl, _, rfl, _, _, rfl, rfl, hG, _, rfl, _, rfl, _, _, rfl, rfl, hG, two_line, q⟩
theorem t0 {x y : V} : atI [x, y] 0 = some x := rfl
theorem t1 {x y : V} : atI [x, y] 1 = some y := rfl
abbrev FrK (K : PySem.W.Frag) (H : Hp) (p : Addr) (f : FR) : Prop := SqT K H p [.int f.1, .int f.2]
abbrev trF (f : FR) : HO := .tup [.int f.1, .int f.2]
theorem wide {k : Nat} {f g : FR} {x y : Int} (hk : k ≤ 2048) (h1 : x.natAbs < 2 ^ k) (h2 : y.natAbs < 2 ^ k) : CMulW x y := by
  have a := log_lt (n := x.natAbs) (k := 2048) (Nat.lt_of_lt_of_le h1 (Nat.pow_le_pow_right (by decide) hk)) (by decide)
  have b := log_lt (n := y.natAbs) (k := 2048) (Nat.lt_of_lt_of_le h2 (Nat.pow_le_pow_right (by decide) hk)) (by decide)
  show _ + _ < 1000000
  omega
theorem den9 {k : Nat} {x y : Int} (hk : k ≤ 2048) (h1 : x.natAbs < 2 ^ k) (h2 : y.natAbs < 2 ^ k) : (x * y).natAbs.log2 < 4096 := by
  rw [Int.natAbs_mul]
  exact log_lt (Nat.lt_of_lt_of_le (pow_mul_lt h1 h2) (Nat.pow_le_pow_right (by decide) (by omega))) (by decide)
def spBn (K : PySem.W.Frag) (G : FR → FR → FR) : Sp := fun vs H Q _ => ∃ (p q : Addr) (f g : FR), vs = [.ref p, .ref q] ∧ FrK K H p f ∧ FrK K H q g ∧ 0 < f.2 ∧ 0 < g.2 ∧ Bn 2048 f ∧ Bn 2048 g ∧ ∀ o, H o = none → Q (.ref o) (upd H o (trF (G f g)))
theorem ok_p_add (T : Txt K mg fa fd) : FnOk P w K mg base CX0 4 (fa 23) (fd 23) ["one", "other"] (spBn K addL) := by
  refine T.F_p_add.ok sc_p_add (fun vs H Q E h => ?_) (fun cdv A outer s H vs Q E hr h => ?_)
  · obtain ⟨p, q, f, g, rfl, _⟩ := h
    rfl
  · obtain ⟨p, r, f, g, rfl, hp, hr', pf, pg, sf, sg, q⟩ := h
    refine ⟨_, (pss_one (ps_ret (pe_call (ok_p_ratio0 T) (hr.mono (by decide)) (by rfl) T.g_p_ratio T.F_p_ratio.kp T.b_p_ratio .nil pass0 (pa_cons (pe_op op_add (pe_op op_mulW (pe_ix ix_tup (pv 0) pe_int (fun _ _ => rfl)) (pe_ix ix_tup (pv 1) pe_int (fun _ _ => rfl))) (pe_op op_mulW (pe_ix ix_tup (pv 1) pe_int (fun _ _ => rfl)) (pe_ix ix_tup (pv 0) pe_int (fun _ _ => rfl)))) (pa_cons (pe_op op_mulW (pe_ix ix_tup (pv 0) pe_int (fun _ _ => rfl)) (pe_ix ix_tup (pv 1) pe_int (fun _ _ => rfl))) pa_nil))))), ?_⟩
    exact ⟨_, rfl, p, _, _, _, rfl, rfl, hp, t0, _, rfl, r, _, _, _, rfl, rfl, hr', t1, _, _, rfl, rfl, wide (f := f) (g := g) (Nat.le_refl _) sf.1 sg.2,
      _, rfl, r, _, _, _, rfl, rfl, hr', t0, _, rfl, p, _, _, _, rfl, rfl, hp, t1, _, _, rfl, rfl, wide (f := f) (g := g) (Nat.le_refl _) sg.1 sf.2, _, _, rfl, rfl,
      _, rfl, p, _, _, _, rfl, rfl, hp, t1, _, rfl, r, _, _, _, rfl, rfl, hr', t1, _, _, rfl, rfl, wide (f := f) (g := g) (Nat.le_refl _) sf.2 sg.2, _, _, rfl, Int.mul_ne_zero (by omega) (by omega), den9 (Nat.le_refl _) sf.2 sg.2, q⟩
theorem ok_p_multiply (T : Txt K mg fa fd) : FnOk P w K mg base CX0 4 (fa 25) (fd 25) ["one", "other"] (spBn K mulL) := by
  refine T.F_p_multiply.ok sc_p_multiply (fun vs H Q E h => ?_) (fun cdv A outer s H vs Q E hr h => ?_)
  · obtain ⟨p, q, f, g, rfl, _⟩ := h
    rfl
  · obtain ⟨p, r, f, g, rfl, hp, hr', pf, pg, sf, sg, q⟩ := h
    refine ⟨_, (pss_one (ps_ret (pe_call (ok_p_ratio0 T) (hr.mono (by decide)) (by rfl) T.g_p_ratio T.F_p_ratio.kp T.b_p_ratio .nil pass0 (pa_cons (pe_op op_mulW (pe_ix ix_tup (pv 0) pe_int (fun _ _ => rfl)) (pe_ix ix_tup (pv 1) pe_int (fun _ _ => rfl))) (pa_cons (pe_op op_mulW (pe_ix ix_tup (pv 0) pe_int (fun _ _ => rfl)) (pe_ix ix_tup (pv 1) pe_int (fun _ _ => rfl))) pa_nil))))), ?_⟩
    exact ⟨_, rfl, p, _, _, _, rfl, rfl, hp, t0, _, rfl, r, _, _, _, rfl, rfl, hr', t0, _, _, rfl, rfl, wide (f := f) (g := g) (Nat.le_refl _) sf.1 sg.1,
      _, rfl, p, _, _, _, rfl, rfl, hp, t1, _, rfl, r, _, _, _, rfl, rfl, hr', t1, _, _, rfl, rfl, wide (f := f) (g := g) (Nat.le_refl _) sf.2 sg.2, _, _, rfl, Int.mul_ne_zero (by omega) (by omega), den9 (Nat.le_refl _) sf.2 sg.2, q⟩
theorem ok_plus (T : Txt K mg fa fd) : FnOk P w K mg base CX0 4 (fa 157) (fd 157) ["_law_one", "_law_two"] (spBn K addL) := by
  refine T.F_plus.ok sc_plus (fun vs H Q E h => ?_) (fun cdv A outer s H vs Q E hr h => ?_)
  · obtain ⟨p, q, f, g, rfl, _⟩ := h
    rfl
  · obtain ⟨p, r, f, g, rfl, hp, hr', pf, pg, sf, sg, q⟩ := h
    refine ⟨_, (pss_one (ps_ret (pe_call (ok_low T) (hr.mono (by decide)) (by rfl) T.g_low T.F_low.kp T.b_low .nil pass0 (pa_cons (pe_op op_add (pe_op op_mulW (pe_ix ix_tup (pv 0) pe_int (fun _ _ => rfl)) (pe_ix ix_tup (pv 1) pe_int (fun _ _ => rfl))) (pe_op op_mulW (pe_ix ix_tup (pv 1) pe_int (fun _ _ => rfl)) (pe_ix ix_tup (pv 0) pe_int (fun _ _ => rfl)))) (pa_cons (pe_op op_mulW (pe_ix ix_tup (pv 0) pe_int (fun _ _ => rfl)) (pe_ix ix_tup (pv 1) pe_int (fun _ _ => rfl))) pa_nil))))), ?_⟩
    exact ⟨_, rfl, p, _, _, _, rfl, rfl, hp, t0, _, rfl, r, _, _, _, rfl, rfl, hr', t1, _, _, rfl, rfl, wide (f := f) (g := g) (Nat.le_refl _) sf.1 sg.2,
      _, rfl, r, _, _, _, rfl, rfl, hr', t0, _, rfl, p, _, _, _, rfl, rfl, hp, t1, _, _, rfl, rfl, wide (f := f) (g := g) (Nat.le_refl _) sg.1 sf.2, _, _, rfl, rfl,
      _, rfl, p, _, _, _, rfl, rfl, hp, t1, _, rfl, r, _, _, _, rfl, rfl, hr', t1, _, _, rfl, rfl, wide (f := f) (g := g) (Nat.le_refl _) sf.2 sg.2, _, _, rfl, Int.mul_ne_zero (by omega) (by omega), den9 (Nat.le_refl _) sf.2 sg.2, q⟩
theorem ok_by (T : Txt K mg fa fd) : FnOk P w K mg base CX0 4 (fa 159) (fd 159) ["_law_one", "_law_two"] (spBn K mulL) := by
  refine T.F_by.ok sc_by (fun vs H Q E h => ?_) (fun cdv A outer s H vs Q E hr h => ?_)
  · obtain ⟨p, q, f, g, rfl, _⟩ := h
    rfl
  · obtain ⟨p, r, f, g, rfl, hp, hr', pf, pg, sf, sg, q⟩ := h
    refine ⟨_, (pss_one (ps_ret (pe_call (ok_low T) (hr.mono (by decide)) (by rfl) T.g_low T.F_low.kp T.b_low .nil pass0 (pa_cons (pe_op op_mulW (pe_ix ix_tup (pv 0) pe_int (fun _ _ => rfl)) (pe_ix ix_tup (pv 1) pe_int (fun _ _ => rfl))) (pa_cons (pe_op op_mulW (pe_ix ix_tup (pv 0) pe_int (fun _ _ => rfl)) (pe_ix ix_tup (pv 1) pe_int (fun _ _ => rfl))) pa_nil))))), ?_⟩
    exact ⟨_, rfl, p, _, _, _, rfl, rfl, hp, t0, _, rfl, r, _, _, _, rfl, rfl, hr', t0, _, _, rfl, rfl, wide (f := f) (g := g) (Nat.le_refl _) sf.1 sg.1,
      _, rfl, p, _, _, _, rfl, rfl, hp, t1, _, rfl, r, _, _, _, rfl, rfl, hr', t1, _, _, rfl, rfl, wide (f := f) (g := g) (Nat.le_refl _) sf.2 sg.2, _, _, rfl, Int.mul_ne_zero (by omega) (by omega), den9 (Nat.le_refl _) sf.2 sg.2, q⟩
def spNeg (K : PySem.W.Frag) : Sp := fun vs H Q _ => ∃ (p : Addr) (f : FR), vs = [.ref p] ∧ FrK K H p f ∧ ∀ o, H o = none → Q (.ref o) (upd H o (trF (negF f)))
theorem ok_minus (T : Txt K mg fa fd) : FnOk P w K mg base CX0 1 (fa 158) (fd 158) ["_law_one"] (spNeg K) := by
  refine T.F_minus.ok sc_minus (fun vs H Q E h => ?_) (fun cdv A outer s H vs Q E hr h => ?_)
  · obtain ⟨p, f, rfl, _⟩ := h
    rfl
  · obtain ⟨p, f, rfl, hp, q⟩ := h
    refine ⟨_, (pss_one (ps_ret (pe_tup (pa_cons (pe_un un_neg (pe_ix ix_tup (pv 0) pe_int (fun _ _ => rfl))) (pa_cons (pe_ix ix_tup (pv 0) pe_int (fun _ _ => rfl)) pa_nil))))), ?_⟩
    exact ⟨_, rfl, p, _, _, _, rfl, rfl, hp, t0, _, rfl, _, rfl, p, _, _, _, rfl, rfl, hp, t1, two_line, q⟩
end
theorem paired_mono {α β : Type} {R S : α → β → Prop} (h : ∀ a b, R a b → S a b) : ∀ {xs : List α} {ys : List β}, Paired R xs ys → Paired S xs ys
  | _, _, .nil => .nil
  | _, _, .cons r t => .cons (h _ _ r) (paired_mono h t)
theorem paired_snoc {α β : Type} {R : α → β → Prop} : ∀ {xs : List α} {ys : List β} {x : α} {y : β}, Paired R xs ys → R x y → Paired R (xs ++ [x]) (ys ++ [y])
  | _, _, _, _, .nil, h => .cons h .nil
  | _, _, _, _, .cons r t, h => .cons r (paired_snoc t h)
theorem paired_at {α β : Type} {R : α → β → Prop} : ∀ {xs : List α} {ys : List β} (i : Nat) {y : β}, Paired R xs ys → ys[i]? = some y → ∃ x, xs[i]? = some x ∧ R x y
  | _, _, 0, _, .cons r _, e => ⟨_, rfl, by cases e; exact r⟩
  | _, _, i + 1, _, .cons _ t, e => paired_at i t e
def Bf (N : Nat) (f : FR) : Prop := f.1.natAbs ≤ N ∧ 0 < f.2 ∧ f.2.natAbs ≤ N
def ValD (H : Hp) (d : Addr) (val : List Nat → FR) (ns : List (List Nat)) : Prop := ∃ kvs, H d = some (.dK kvs) ∧ ∀ x ∈ ns, Bf 10 (val x) ∧ ∃ p, valV kvs (.inr (SX.S x)) = some (.ref p) ∧ H p = some (.tup [.int (val x).1, .int (val x).2])
theorem ValD.same {H H' : Hp} {d : Addr} {val : List Nat → FR} {ns : List (List Nat)} (h : ValD H d val ns) (s : Same H H') : ValD H' d val ns := by
  obtain ⟨kvs, e, k⟩ := h
  refine ⟨kvs, s _ _ e, fun x hx => ?_⟩
  obtain ⟨b, p, e1, e2⟩ := k x hx
  exact ⟨b, p, e1, s _ _ e2⟩
/-! ### drawn values -/
theorem valV_not {kvs : List (Key × V)} {k : Key} (h : k ∉ kvs.map (·.1)) : valV kvs k = none := by
  induction kvs with
  | nil => rfl
  | cons p r ih =>
    rw [List.map_cons, List.mem_cons] at h
    rw [valV_neg (fun z => h (.inl z.symm))]
    exact ih fun z => h (.inr z)
theorem merge_nodup : ∀ (kvs acc : List (Key × V)), ((acc ++ kvs).map (·.1)).Nodup → mergeK acc kvs = acc ++ kvs
  | [], acc, _ => (List.append_nil acc).symm
  | kv :: kvs, acc, h => by
    have h1 : valV acc kv.1 = none := valV_not fun z => by
      rw [List.map_append, List.map_cons] at h
      exact (List.nodup_append.mp h).2.2 _ z _ List.mem_cons_self rfl
    show mergeK (putK acc kv.1 kv.2) kvs = _
    rw [putK_new _ h1, merge_nodup kvs (acc ++ [kv]) (by rw [List.append_assoc]; exact h), List.append_assoc]
    rfl
def okV (v : V) : Prop := False ∨ ∃ q, v = .ref q
def PointD (H : Hp) (d : Addr) (val : List Nat → FR) (ns : List (List Nat)) : Prop := ∃ kvs, H d = some (.dK kvs) ∧ (∀ e ∈ kvs, valV kvs e.1 = some e.2 ∧ okV e.2) ∧ ∀ x ∈ ns, Bf 10 (val x) ∧ ∃ p, valV kvs (.inr (SX.S x)) = some (.ref p) ∧ H p = some (.tup [.int (val x).1, .int (val x).2])
theorem PointD.val {H : Hp} {d : Addr} {val : List Nat → FR} {ns ms : List (List Nat)} (h : PointD H d val ns) (s : ∀ x ∈ ms, x ∈ ns) : ValD H d val ms := by
  obtain ⟨kvs, e, _, k⟩ := h
  exact ⟨kvs, e, fun x hx => k x (s x hx)⟩
theorem PointD.same {H H' : Hp} {d : Addr} {val : List Nat → FR} {ns : List (List Nat)} (h : PointD H d val ns) (s : Same H H') : PointD H' d val ns := by
  obtain ⟨kvs, e, g, k⟩ := h
  refine ⟨kvs, s _ _ e, g, fun x hx => ?_⟩
  obtain ⟨b, p, e1, e2⟩ := k x hx
  exact ⟨b, p, e1, s _ _ e2⟩
section
variable {P : Program} {w : World} {K : PySem.W.Frag} {mg : Str → Option Value} {base : Heap} {fa : Nat → Addr} {fd : Nat → FuncData}
def spPoint : Sp := fun vs H Q _ => ∃ (a c p : Addr) (ws : List (List Nat)), vs = [.ref a, .ref p] ∧ FeedOk H a c ∧ p ≠ a ∧ H p = some (.lst (ws.map vS)) ∧ ws.Nodup ∧ ws.length ≤ 6 ∧ ∀ d val H', FeedOk H' a c → But a H H' → PointD H' d val ws → Q (.ref d) H'
theorem ok_point (T : Txt K mg fa fd) : FnOk P w K mg base CX0 3 (fa 166) (fd 166) ["_law_feed_here", "_law_words_here"] spPoint := by
  refine T.F_point.ok sc_point (fun vs H Q E h => ?_) (fun cdv A outer s H vs Q E hr h => ?_)
  · obtain ⟨a, c, p, ws, rfl, _⟩ := h
    rfl
  · obtain ⟨a, c, p, ws, rfl, hF, npa, hp, hnd, hl, q⟩ := h
    refine ⟨_, (pss_one (ps_ret (pe_callTy (call_dictP rfl) (by rfl) T.m_dict (by decide +kernel) (pa_cons (pe_lc (own := [("_law_name", 2)]) (g := gName 2) (tt := tYes) rfl sc_point.nd (pi_list (pv 1)) (blkOk_by (own := [("_law_name", 2)]) (N := ["_law_feed_here", "_law_words_here", "_law_name"]) (sc := defScope s_point) (by decide +kernel)) (fun _ _ _ _ _ => pg_name (i := 2) sc_point.nd rfl (Or.inl rfl)) (fun _ _ _ _ _ => pts_nil) (fun _ _ _ _ _ => (pe_tup (pa_cons (pv 2) (pa_cons (pe_call (ok_any T) (hr.mono (by decide)) (by rfl) T.g_any T.F_any.kp T.b_any .nil pass0 (pa_cons (pv 0) (pa_cons (pe_lst (pa_cons (pe_tup (pa_cons pe_int (pa_cons pe_int pa_nil))) (pa_cons (pe_tup (pa_cons pe_int (pa_cons pe_int pa_nil))) (pa_cons (pe_tup (pa_cons pe_int (pa_cons pe_int pa_nil))) (pa_cons (pe_tup (pa_cons (pe_un un_neg pe_int) (pa_cons pe_int pa_nil))) (pa_cons (pe_tup (pa_cons pe_int (pa_cons pe_int pa_nil))) (pa_cons (pe_tup (pa_cons pe_int (pa_cons pe_int pa_nil))) (pa_cons (pe_tup (pa_cons (pe_un un_neg pe_int) (pa_cons pe_int pa_nil))) pa_nil)))))))) pa_nil))) pa_nil))))) pa_nil)))), ?_⟩
    refine ⟨_, rfl, p, rfl, ⟨_, SqL.of hp⟩, fun D nD => ?_⟩
    have nDa := new_ne hF nD
    have nDc := new_nc hF nD
    have npD : p ≠ D := ne_of_none hp nD
    refine lc_list (K := K) (a := p) (xs := ws.map vS) (fun i G => FeedOk G a c ∧ But a H G ∧ G p = some (.lst (ws.map vS)) ∧ ∃ (ps : List Addr) (kvs : List (Key × V)), G D = some (.lst (ps.map V.ref)) ∧ Paired (fun p kv => G p = some (.tup [kV kv.1, kv.2])) ps kvs ∧ kvs.map (·.1) = (ws.take i).map (fun x => (.inr (SX.S x) : Key)) ∧ ∀ kv ∈ kvs, ∃ (q : Addr) (f : FR), kv.2 = .ref q ∧ G q = some (.tup [.int f.1, .int f.2]) ∧ Bf 10 f)
      ⟨hF.new nD, But.of (same_upd nD), same_upd nD _ _ hp, [], [], upd_same, .nil, rfl, fun kv h => by cases h⟩ (fun i G _ hq => SqL.of hq.2.2.1) (fun i x G hx hq => ?_) (fun G hq => ?_)
    · obtain ⟨hG, bG, hpG, ps, kvs, hD, hpk, hkeys, hvals⟩ := hq
      rw [List.getElem?_map] at hx
      obtain ⟨x, hxz, rfl⟩ := Option.map_eq_some_iff.mp hx
      refine ⟨rfl, ?_⟩
      refine ⟨_, rfl, _, rfl, (small_line (by decide : 2 ≤ 1000)), fun p1 n1 => ?_⟩
      obtain ⟨s1, d1⟩ := dnewT (z := a) n1 (.cons (.int 0 (by decide +kernel)) (.cons (.int 1 (by decide +kernel)) .nil))
      refine ⟨(small_line (by decide : 2 ≤ 1000)), fun p2 n2 => ?_⟩
      obtain ⟨s2, d2⟩ := dnewT (z := a) n2 (.cons (.int 1 (by decide +kernel)) (.cons (.int 1 (by decide +kernel)) .nil))
      refine ⟨(small_line (by decide : 2 ≤ 1000)), fun p3 n3 => ?_⟩
      obtain ⟨s3, d3⟩ := dnewT (z := a) n3 (.cons (.int 2 (by decide +kernel)) (.cons (.int 1 (by decide +kernel)) .nil))
      refine ⟨_, rfl, (small_line (by decide : 2 ≤ 1000)), fun p4 n4 => ?_⟩
      obtain ⟨s4, d4⟩ := dnewT (z := a) n4 (.cons (.int (-1) (by decide +kernel)) (.cons (.int 1 (by decide +kernel)) .nil))
      refine ⟨(small_line (by decide : 2 ≤ 1000)), fun p5 n5 => ?_⟩
      obtain ⟨s5, d5⟩ := dnewT (z := a) n5 (.cons (.int 1 (by decide +kernel)) (.cons (.int 2 (by decide +kernel)) .nil))
      refine ⟨(small_line (by decide : 2 ≤ 1000)), fun p6 n6 => ?_⟩
      obtain ⟨s6, d6⟩ := dnewT (z := a) n6 (.cons (.int 3 (by decide +kernel)) (.cons (.int 1 (by decide +kernel)) .nil))
      refine ⟨_, rfl, (small_line (by decide : 2 ≤ 1000)), fun p7 n7 => ?_⟩
      obtain ⟨s7, d7⟩ := dnewT (z := a) n7 (.cons (.int (-5) (by decide +kernel)) (.cons (.int 3 (by decide +kernel)) .nil))
      refine ⟨(small_line (by decide : 7 ≤ 1000)), fun p8 n8 => ?_⟩
      obtain ⟨s8, all, hrw⟩ := drow (z := a) n8 (.cons (d1.same (s2.trans (s3.trans (s4.trans (s5.trans (s6.trans s7)))))) (.cons (d2.same (s3.trans (s4.trans (s5.trans (s6.trans s7))))) (.cons (d3.same (s4.trans (s5.trans (s6.trans s7)))) (.cons (d4.same (s5.trans (s6.trans s7))) (.cons (d5.same (s6.trans s7)) (.cons (d6.same s7) (.cons d7 .nil)))))))
      have sR := (s1.trans (s2.trans (s3.trans (s4.trans (s5.trans (s6.trans (s7.trans s8)))))))
      refine ⟨a, c, p8, _, rfl, hG.same sR, hrw, new_ne (hG.same (s1.trans (s2.trans (s3.trans (s4.trans (s5.trans (s6.trans s7))))))) n8, by show 0 < 7; decide, by show 7 ≤ 1000; decide, fun v H2 hv hF2 b2 => ?_⟩
      obtain ⟨d, hd, hdt⟩ := all.mem hv
      have hdt := hdt.but (hG.same sR) b2
      have bb := (But.of (a := a) sR).trans b2
      have tt := TT.but hG bb
      obtain ⟨f, rfl, hf⟩ : ∃ f : FR, d = frP f ∧ Bf 10 f := by
        simp only [List.mem_cons, List.not_mem_nil, or_false] at hd
        rcases hd with rfl | rfl | rfl | rfl | rfl | rfl | rfl
        · exact ⟨(0, 1), rfl, by unfold Bf; decide⟩
        · exact ⟨(1, 1), rfl, by unfold Bf; decide⟩
        · exact ⟨(2, 1), rfl, by unfold Bf; decide⟩
        · exact ⟨(-1, 1), rfl, by unfold Bf; decide⟩
        · exact ⟨(1, 2), rfl, by unfold Bf; decide⟩
        · exact ⟨(3, 1), rfl, by unfold Bf; decide⟩
        · exact ⟨(-5, 3), rfl, by unfold Bf; decide⟩
      obtain ⟨pf, rfl, hpf⟩ := dt_fr hdt
      refine ⟨two_line, fun e ne => ?_⟩
      have se := same_upd (o := .tup [vS x, .ref pf]) ne
      have hD2 := bb _ _ nDa hD
      have hD3 := se _ _ hD2
      have il : i < ws.length := (List.getElem?_eq_some_iff.mp hxz).1
      have kl : kvs.length = ps.length := (Paired.length hpk).symm
      have k2 : kvs.length ≤ 6 := by
        have := congrArg List.length hkeys
        rw [List.length_map, List.length_map, List.length_take] at this
        omega
      refine ⟨ps.map V.ref, hD3, by rw [List.length_map]; exact small1000 (by omega), (hF2.same se).put nDa nDc, ((bG.trans bb).trans (But.of se)).updN nD, ?_, ps ++ [e], kvs ++ [(.inr (SX.S x), .ref pf)], ?_, ?_, ?_, ?_⟩
      · rw [upd_ne npD]
        exact se _ _ (bb _ _ npa hpG)
      · rw [upd_same, List.map_append]
        rfl
      · have t2 := (tt.trans (TT.of se)).trans (TT.upd (zs := ps.map V.ref ++ [.ref e]) hD3)
        refine paired_snoc (paired_mono (fun a b h => t2 _ _ h) hpk) ?_
        exact TT.upd (zs := ps.map V.ref ++ [.ref e]) hD3 _ _ upd_same
      · rw [List.map_append, hkeys, List.take_add_one, hxz, List.map_append]
        rfl
      · intro kv hkv
        have t2 := (tt.trans (TT.of se)).trans (TT.upd (zs := ps.map V.ref ++ [.ref e]) hD3)
        rcases List.mem_append.mp hkv with h | h
        · obtain ⟨q, f, e1, e2, e3⟩ := hvals kv h
          exact ⟨q, f, e1, t2 _ _ e2, e3⟩
        · rw [List.mem_singleton.mp h]
          exact ⟨pf, f, rfl, TT.upd (zs := ps.map V.ref ++ [.ref e]) hD3 _ _ (se _ _ hpf), hf⟩
    · obtain ⟨hG, bG, hpG, ps, kvs, hD, hpk, hkeys, hvals⟩ := hq
      rw [List.length_map, List.take_length] at hkeys
      refine ⟨D, ps, kvs, rfl, SqL.of hD, paired_mono (fun a b h => SqT.of h) hpk, fun d nd => ?_⟩
      have nk : (kvs.map (·.1)).Nodup := by
        rw [hkeys]
        rw [List.Nodup, List.pairwise_map]
        exact List.Pairwise.imp (fun h z => h (S_inj (Sum.inr.inj z))) hnd
      rw [merge_nodup kvs [] nk]
      have sd := same_upd (o := .dK kvs) nd
      have pick : ∀ x, ∃ f : FR, x ∈ ws → Bf 10 f ∧ ∃ q, valV kvs (.inr (SX.S x)) = some (.ref q) ∧ G q = some (.tup [.int f.1, .int f.2]) := fun x => by
        by_cases hx : x ∈ ws
        · have : (.inr (SX.S x) : Key) ∈ kvs.map (·.1) := by
            rw [hkeys]
            exact List.mem_map_of_mem (f := fun x => (.inr (SX.S x) : Key)) hx
          obtain ⟨kv, hkv, ek⟩ := List.mem_map.mp this
          obtain ⟨q, f, e1, e2, e3⟩ := hvals kv hkv
          refine ⟨f, fun _ => ⟨e3, q, ?_, e2⟩⟩
          rw [← ek, val_nodup nk kv hkv, e1]
        · exact ⟨(0, 1), fun h => absurd h hx⟩
      obtain ⟨val, hval⟩ := Classical.axiomOfChoice pick
      refine q d val _ (hG.same sd) (bG.trans (But.of sd)) ⟨kvs, upd_same, fun e he => ⟨val_nodup nk e he, ?_⟩, fun x hx => ?_⟩
      · obtain ⟨q, f, e1, _, _⟩ := hvals e he
        exact .inr ⟨q, e1⟩
      · obtain ⟨h1, q, h2, h3⟩ := hval x hx
        exact ⟨h1, q, h2, sd _ _ h3⟩
end
def totF (val : List Nat → FR) (acc : FR) : List (List Nat × FR) → FR
  | [] => acc
  | t :: r => totF val (addL acc (mulL t.2 (val t.1))) r
theorem totF_app (val : List Nat → FR) : ∀ (l r : List (List Nat × FR)) (acc : FR), totF val acc (l ++ r) = totF val (totF val acc l) r
  | [], _, _ => rfl
  | _ :: l, r, _ => totF_app val l r _
theorem SqT.sm {K : PySem.W.Frag} {H H' : Hp} (s : Same H H') : ∀ p xs, SqT K H p xs → SqT K H' p xs := fun p xs h => by
  rcases h with (h | ⟨o, h⟩) | h
  · exact .inl (.inl (s _ _ h))
  · exact .inl (.inr ⟨o, s _ _ h⟩)
  · exact .inr h
theorem Bf.bn {f : FR} (h : Bf 10 f) : Bn 4 f := ⟨Nat.lt_of_le_of_lt h.1 (by decide), Nat.lt_of_le_of_lt h.2.2 (by decide)⟩
section
variable {P : Program} {w : World} {K : PySem.W.Frag} {mg : Str → Option Value} {base : Heap} {fa : Nat → Addr} {fd : Nat → FuncData}
def spTot (K : PySem.W.Frag) : Sp := fun vs H Q _ => ∃ (l d z : Addr) (xs : List V) (tl : List It) (val : List Nat → FR), vs = [.ref l, .ref d] ∧ SqT K H l xs ∧ DtAll z H xs (tl.map tmP) ∧ tl.length ≤ 2 ∧ (∀ t ∈ tl, Nf t.2 ∧ Bn 3 t.2) ∧ ValD H d val (tl.map (·.1)) ∧
  ∀ p H', Same H H' → FrK K H' p (totF val (0, 1) tl) → Nf (totF val (0, 1) tl) → Bn 40 (totF val (0, 1) tl) → Q (.ref p) H'
theorem ok_total (T : Txt K mg fa fd) : FnOk P w K mg base CX0 5 (fa 164) (fd 164) ["_law_terms", "_law_values"] (spTot K) := by
  refine T.F_total.ok sc_total (fun vs H Q E h => ?_) (fun cdv A outer s H vs Q E hr h => ?_)
  · obtain ⟨l, d, z, xs, tl, val, rfl, _⟩ := h
    rfl
  · obtain ⟨l, d, z, xs, tl, val, rfl, hl, hts, tl2, hok, hd, q⟩ := h
    refine ⟨_, (C8.pss_cut (ps_set (i := 2) sc_total.nd rfl (.inl rfl) (pe_tup (pa_cons pe_int (pa_cons pe_int pa_nil))))
      (C8.pss_cut (ps_for PassesOwn.never rfl (pi_tup (pv 0)) (pg_tup (by rfl) (pgs_cons (pg_name (i := 3) sc_total.nd rfl (.inl rfl)) (pgs_cons (pg_name (i := 4) sc_total.nd rfl (.inl rfl)) pgs_nil))) (pss_one (ps_set (i := 2) sc_total.nd rfl (.inl rfl) (pe_call (ok_plus T) (hr.mono (by decide)) (by rfl) T.g_plus T.F_plus.kp T.b_plus .nil pass0 (pa_cons (pv 2) (pa_cons (pe_call (ok_by T) (hr.mono (by decide)) (by rfl) T.g_by T.F_by.kp T.b_by .nil pass0 (pa_cons (pv 4) (pa_cons (pe_dget (Nat.lt_of_le_of_lt (Nat.add_le_add_left (by decide) _) hr.units) (pv 1) (pv 3) (fun _ _ => rfl)) pa_nil))) pa_nil))))))
      (pss_one (ps_ret (pv 2))))), ?_⟩
    have xl : xs.length = tl.length := by
      have := hts.len
      rw [List.length_map] at this
      exact this
    refine ⟨fun σ G => Same H G ∧ ∃ p, FrK K G p (0, 1) ∧ σ = [some (.ref l), some (.ref d), some (.ref p), none, none], ⟨two_line, fun p np => ⟨same_upd np, p, SqT.of upd_same, rfl⟩⟩, fun σ G hM => ?_⟩
    obtain ⟨s1, p0, hp0, rfl⟩ := hM
    refine ⟨fun σ G => Same H G ∧ ∃ p y3 y4, FrK K G p (totF val (0, 1) tl) ∧ Nf (totF val (0, 1) tl) ∧ Bn 40 (totF val (0, 1) tl) ∧ σ = [some (.ref l), some (.ref d), some (.ref p), y3, y4], ?_, fun σ G hM => ?_⟩
    · refine ⟨_, rfl, l, rfl, ⟨_, SqT.sm s1 _ _ hl⟩, for_tup (K := K) (a := l) (xs := xs) (fun i σ G => Same H G ∧ ∃ p y3 y4, FrK K G p (totF val (0, 1) (tl.take i)) ∧ Nf (totF val (0, 1) (tl.take i)) ∧ Bn (1 + 8 * i) (totF val (0, 1) (tl.take i)) ∧ σ = [some (.ref l), some (.ref d), some (.ref p), y3, y4]) ⟨s1, p0, _, _, hp0, nf_01, bn_01, rfl⟩ (fun i σ G _ hq => SqT.sm hq.1 _ _ hl) (fun i x σ G hx hq => ?_) (fun σ G hq => ?_)⟩
      · obtain ⟨sG, p, y3, y4, hp, np, bp, rfl⟩ := hq
        obtain ⟨dt, hdd, hdt⟩ := DtAll.at i hts hx
        rw [List.getElem?_map] at hdd
        obtain ⟨⟨n, f⟩, he, rfl⟩ := Option.map_eq_some_iff.mp hdd
        obtain ⟨nf, bf⟩ : Nf f ∧ Bn 3 f := hok _ (List.mem_of_getElem? he)
        have il : i < tl.length := (List.getElem?_eq_some_iff.mp he).1
        change Dt _ _ _ (.tuple [.str (SX.S n), frP f]) at hdt
        obtain ⟨kvs, hk, hkv⟩ := hd
        obtain ⟨bv, pv, ev, hpv⟩ := hkv n (List.mem_map_of_mem (f := fun t : List Nat × FR => t.1) (List.mem_of_getElem? he))
        match x, hdt with
        | _, .tup (a := pp) hpp (.cons (.str _ _) (.cons hr' .nil)) =>
          obtain ⟨pr, rfl, hpr⟩ := dt_fr hr'
          refine ⟨pp, _, rfl, .inl (.inl (sG _ _ hpp)), rfl, _, _, rfl, _, _, rfl, rfl, _, rfl, _, rfl, _, rfl, _, rfl, d, _, rfl, by rw [← ev]; exact DGet.k (k := Sum.inr (SX.S n)) (sG _ _ hk), ?_⟩
          refine ⟨pr, pv, f, val n, rfl, SqT.of (sG _ _ hpr), SqT.of (sG _ _ hpv), nf.1, bv.2.1, bf.mono (by decide), bv.bn.mono (by decide), fun e ne => ?_⟩
          have se := same_upd (o := trF (mulL f (val n))) ne
          have bm := bf.mul bv.bn nf.1 bv.2.1
          have nm : Nf (mulL f (val n)) := nf_low (Int.mul_ne_zero (by have := nf.1; omega) (by have := bv.2.1; omega))
          refine ⟨p, e, totF val (0, 1) (tl.take i), mulL f (val n), rfl, SqT.sm se _ _ hp, SqT.of upd_same, np.1, nm.1, bp.mono (by omega), bm.mono (by decide), fun e2 ne2 => ?_⟩
          have se2 := same_upd (o := trF (addL (totF val (0, 1) (tl.take i)) (mulL f (val n)))) ne2
          have et : totF val (0, 1) (tl.take (i + 1)) = addL (totF val (0, 1) (tl.take i)) (mulL f (val n)) := by
            rw [List.take_add_one, he]
            show totF val (0, 1) (tl.take i ++ [(n, f)]) = _
            rw [totF_app]
            rfl
          refine ⟨sG.trans (se.trans se2), e2, some (.str (SX.S n)), some (.ref pr), ?_, ?_, ?_, rfl⟩
          · rw [et]
            exact SqT.of upd_same
          · rw [et]
            exact addL_nf np.1 nm.1
          · rw [et]
            exact (bp.add bm np.1 nm.1).mono (by omega)
      · obtain ⟨sG, p, y3, y4, hp, np, bp, rfl⟩ := hq
        rw [xl] at bp
        rw [xl, List.take_length] at hp np
        rw [List.take_length] at bp
        exact ⟨sG, p, _, _, hp, np, bp.mono (by omega), rfl⟩
    obtain ⟨sG, p, y3, y4, hp, np, bp, rfl⟩ := hM
    exact ⟨_, rfl, q p G sG hp np bp⟩
end
/-- everything but lists stays -/
def NL (H H' : Hp) : Prop := ∀ c o, H c = some o → (∀ xs, o ≠ .lst xs) → H' c = some o
theorem NL.of {H H' : Hp} (s : Same H H') : NL H H' := fun c o e _ => s c o e
theorem NL.but {a c : Addr} {H H' : Hp} (hF : FeedOk H a c) (b : But a H H') : NL H H' := fun p o e n => by
  obtain ⟨ns, k, big, mark, ha, _⟩ := hF
  exact b p o (ne_of e ha (n _)) e
theorem NL.upd {H : Hp} {D : Addr} {ys zs : List V} (hD : H D = some (.lst ys)) : NL H (upd H D (.lst zs)) := fun p o e n => by
  rw [upd_ne (ne_of e hD (n _))]
  exact e
theorem NL.trans {H H1 H2 : Hp} (h : NL H H1) (k : NL H1 H2) : NL H H2 := fun p o e n => k p o (h p o e n) n
theorem NL.tt {H H' : Hp} (h : NL H H') : TT H H' := fun p xs e => h p _ e (by intro ys z; cases z)
theorem noL_tie (t : Tie) : noL (tieP t.1 t.2) = true := by
  show (noLs (t.1.map tmP) && (noL (frP t.2) && true)) = true
  rw [noLs_tm]
  rfl
def TieU (z : Addr) (H : Hp) (v : V) (t : Tie) : Prop := Dt z H v (tieP t.1 t.2)
theorem TieU.nl {z z' : Addr} {H H' : Hp} {v : V} {t : Tie} (h : TieU z H v t) (s : NL H H') : TieU z' H' v t := Dt.tups s.tt _ _ (noL_tie t) h
theorem PointD.nl {H H' : Hp} {d : Addr} {val : List Nat → FR} {ns : List (List Nat)} (h : PointD H d val ns) (s : NL H H') : PointD H' d val ns := by
  obtain ⟨kvs, e, g, k⟩ := h
  refine ⟨kvs, s _ _ e (by intro ys z; cases z), g, fun x hx => ?_⟩
  obtain ⟨b, p, e1, e2⟩ := k x hx
  exact ⟨b, p, e1, s _ _ e2 (by intro ys z; cases z)⟩
/-- bounds for both parts -/
def ND (N D : Nat) (f : FR) : Prop := f.1.natAbs ≤ N ∧ 0 < f.2 ∧ f.2.natAbs ≤ D
theorem ND.low {N D : Nat} {u v : Int} (hv : 0 < v) (h1 : u.natAbs ≤ N) (h2 : v.natAbs ≤ D) : ND N D (lowF u v) := by
  have a := lowT_abs (u := u) (v := v) (by omega)
  have b := lowD_abs (u := u) (v := v) (by omega)
  exact ⟨Nat.le_trans a h1, lowD_pos (by omega), Nat.le_trans b h2⟩
theorem ND.mul {N D M E : Nat} {f g : FR} (h : ND N D f) (k : ND M E g) : ND (N * M) (D * E) (mulL f g) := by
  refine ND.low (Int.mul_pos h.2.1 k.2.1) ?_ ?_
  · rw [Int.natAbs_mul]
    exact Nat.mul_le_mul h.1 k.1
  · rw [Int.natAbs_mul]
    exact Nat.mul_le_mul h.2.2 k.2.2
theorem ND.add {N D M E : Nat} {f g : FR} (h : ND N D f) (k : ND M E g) : ND (N * E + M * D) (D * E) (addL f g) := by
  refine ND.low (Int.mul_pos h.2.1 k.2.1) ?_ ?_
  · refine Nat.le_trans (Int.natAbs_add_le _ _) ?_
    rw [Int.natAbs_mul, Int.natAbs_mul]
    exact Nat.add_le_add (Nat.mul_le_mul h.1 k.2.2) (Nat.mul_le_mul k.1 h.2.2)
  · rw [Int.natAbs_mul]
    exact Nat.mul_le_mul h.2.2 k.2.2
theorem ND.mono {N D N' D' : Nat} {f : FR} (h : ND N D f) (a : N ≤ N') (b : D ≤ D') : ND N' D' f := ⟨Nat.le_trans h.1 a, h.2.1, Nat.le_trans h.2.2 b⟩
theorem rr_nd : ∀ f ∈ RR, ND 5 3 f := by
  have h : (RR.all fun f => decide (f.1.natAbs ≤ 5) && (decide (0 < f.2) && decide (f.2.natAbs ≤ 3))) = true := by decide +kernel
  intro f hf
  have := List.all_eq_true.mp h f hf
  simp only [Bool.and_eq_true, decide_eq_true_eq] at this
  exact this
theorem rr_nf : ∀ f ∈ RR, Nf f ∧ Bn 3 f := by
  have h : (RR.all fun f => (decide (0 < f.2) && decide (Int.gcd f.1 f.2 = 1)) && (decide (f.1.natAbs < 2 ^ 3) && decide (f.2.natAbs < 2 ^ 3))) = true := by decide +kernel
  intro f hf
  have := List.all_eq_true.mp h f hf
  simp only [Bool.and_eq_true, decide_eq_true_eq] at this
  exact this
theorem small_fr {f : FR} (h : f.1.natAbs < 8 ∧ f.2.natAbs < 3 + 1 ∧ 0 < f.2 ∧ Int.gcd f.1 f.2 = 1) : Nf f ∧ Bn 3 f ∧ ND 8 3 f := ⟨⟨h.2.2.1, h.2.2.2⟩, ⟨h.1, Nat.lt_of_lt_of_le h.2.1 (by decide)⟩, ⟨Nat.le_of_lt h.1, h.2.2.1, Nat.le_of_lt_succ h.2.1⟩⟩
theorem newTieU {z : Addr} {H : Hp} {v : V} {o pb : Addr} {tl : List It} {f : FR} (hts : Dt z H v (.tuple (tl.map tmP))) (hb : H pb = some (trF f)) (no : H o = none) (hB : Bd f.1 ∧ Bd f.2) : TieU z (upd H o (.tup [v, .ref pb])) (.ref o) (tl, f) := by
  have so := same_upd (o := HO.tup [v, .ref pb]) no
  exact .tup upd_same (.cons (hts.same so) (.cons (.tup (so _ _ hb) (.cons (.int _ hB.1) (.cons (.int _ hB.2) .nil))) .nil))
theorem noL_tl (tl : List It) : noL (.tuple (tl.map tmP)) = true := noLs_tm tl
/-! ### for i, x in enumerate(tuple) -/
section
open AutoSeq1 (wpAny_loadPart')
set_option maxHeartbeats 1000000 in
theorem en1_meets {v : Value} {ob : Obj} {G : Heap → Prop} (B : Begins v ob G) : Meets (Builtin.«enumerate.__new__» ⟨[.type "enumerate", v], []⟩) (fun _ R s => G s.heap ∧
      R (.ok (.ret (.ref (s.heap.push ob).objs.size))) { s with heap := (s.heap.push ob).push { cls := .type "enumerate", data := .fields #[.none, .bool false, .ref s.heap.objs.size, rawInt 0, .none, .none] } }) := .of_wp fun prog w A R s hG => by
  obtain ⟨hp, gg, dr, tk, os⟩ := s
  obtain ⟨g1, hG⟩ := hG
  have se := sub_enumerate
  have pit : ∀ {A' : Around} {E' : Value → Shared → Prop} {Q' : Value → Shared → Prop}, Q' (.ref hp.objs.size) ⟨hp.push ob, gg, dr, tk, os⟩ → wpAny (model prog w) A' (pyIter v) Q' E' ⟨hp, gg, dr, tk, os⟩ := fun q => B.iter prog w _ _ ⟨hp, gg, dr, tk, os⟩ _ g1 q
  wp_walk using pit
  refine wpAny_stack_any fun _ => wpAny_pure ?_
  split
  · rename_i c' _ _ _ _ _
    cases (c' == Value.type "enumerate") <;> (wp_walk using pit; exact ⟨_, rfl, hG⟩)
  · wp_walk using pit
    exact ⟨_, rfl, hG⟩
theorem en1_call {prog : Program} {w : World} {A : Around} {E : Value → Shared → Prop} {s : Shared} {v : Value} {ob : Obj} {G : Heap → Prop} {Q : Value → Shared → Prop} (B : Begins v ob G) (g1 : G s.heap)
    (q : ∀ h', IsEnum h' (s.heap.objs.size + 1) s.heap.objs.size 0 .none → h'.get? s.heap.objs.size = some ob → (∀ b o, s.heap.get? b = some o → h'.get? b = some o) → Q (.ref (s.heap.objs.size + 1)) { s with heap := h' }) :
    wpAny (model prog w) A (call (.type "enumerate") [v]) Q E s := by
  refine callType_new F.called_enumerate (by decide) (F.typeCall_enumerate_1 _) (F.newCall_enumerate_1 _) (fun x => F.args_object_init_2 x _) F.entry_enumerate_new (en1_meets B) ⟨g1, ?_⟩
  have z1 : (s.heap.push ob).objs.size = s.heap.objs.size + 1 := Heap.size_push ..
  have e1 := Heap.get?_push_size (s.heap.push ob) (o := { cls := .type "enumerate", data := .fields #[.none, .bool false, .ref s.heap.objs.size, rawInt 0, .none, .none] }) rfl
  show _ ∧ _
  rw [z1] at e1 ⊢
  exact ⟨⟨_, e1, rfl⟩, q _ e1 (Heap.get?_push_of_some _ (Heap.get?_push_size _ B.free)) fun b o x => Heap.get?_push_of_some _ (Heap.get?_push_of_some _ x)⟩
end
/-- each item of the tuple at a in a new pair -/
def IteT (K : PySem.W.Frag) (a : Addr) : L2.It :=
  ⟨fun i H => ∃ (xs : List V) (x : V), SqT K H a xs ∧ xs[i]? = some x, fun i H v H' => ∃ T x, v = .ref T ∧ H T = none ∧ H' = upd H T (.tup [.int (i : Nat), x]) ∧ ∀ ys, SqT K H a ys → ys[i]? = some x, fun i H => ∃ xs : List V, SqT K H a xs ∧ xs.length ≤ i⟩
theorem turn_enumT {P : Program} {w : World} {K : PySem.W.Frag} {elts : List Expr} {kk : Nat} {tpos : Pos} (a e it : Addr) :
    Turn P w K (.Tuple elts kk tpos) (IteT K a) [e, it] e (fun i h => (∃ v, IsEnum h e it ((i : Nat) : Int) v) ∧ h.IsTupleIter it a i ∧ e ≠ it ∧ e ≠ a ∧ a ≠ it) where
  mem := List.mem_cons_self
  obj := fun i h st b hb => by
    obtain ⟨⟨v0, he⟩, ⟨o, ho, hc, hd⟩, _⟩ := st
    rcases (by simpa using hb : b = e ∨ b = it) with rfl | rfl
    · exact ⟨_, he, fun v q => nomatch q⟩
    · exact ⟨o, ho, fun v q => by rw [hd] at q; cases q⟩
  keep := fun i h h' st k => by
    obtain ⟨⟨v0, he⟩, hit, n1, n2, n3⟩ := st
    exact ⟨⟨v0, k e List.mem_cons_self _ he⟩, hit.at fun o q => k it (List.mem_cons_of_mem _ List.mem_cons_self) o q, n1, n2, n3⟩
  item := by
    intro X hP hw hK hc i pins s σ H E I hf st hg
    cases hP
    cases hw
    cases hK
    obtain ⟨⟨v0, he⟩, hit, n1, n2, n3⟩ := st
    obtain ⟨xs, x, hq, hx⟩ := hg
    obtain ⟨us, rv, tp, hz⟩ := I.tuple hq
    obtain ⟨u, hu, ru⟩ := rv.get hx
    have le1 : e < s.heap.objs.size := Heap.lt_size he
    have le2 : it < s.heap.objs.size := by
      obtain ⟨_, q, _⟩ := hit
      exact Heap.lt_size q
    have tp' : s.heap.IsTuple a us.toArray := tp
    have hh : X.A.in1.handled = none := I.ok.hd hc
    refine wpAny_pyNext_enum_itemD (Draws.tuple hh it a n3 us.toArray) he ⟨hit, tp'⟩ (i := i) (by have := (List.getElem?_eq_some_iff.mp hu).1; simpa using this) n1 (by simp [n1, n2]) fun y h1 tk hy ho hst hT hsz hk => ?_
    have ey : y = u := by
      have hy' : us.toArray[i]? = some y := hy
      rw [List.getElem?_toArray, hu] at hy'
      exact (Option.some.inj hy').symm
    subst ey
    refine ⟨_, rfl, wpAny_letOwnedTupleGo_enum (s := { s with heap := h1, toks := tk + 1 }) ho fun h2 he2 sb => ?_⟩
    have hT2 : h2.get? s.heap.objs.size = some { cls := .type "tuple", data := .seq #[.int i tk, y] } := (sb.2 _ (Nat.ne_of_gt le1)).trans hT
    have newO : ObjOk X.prog X.w (upd H s.heap.objs.size (.tup [.int (i : Nat), x])) h2 s.heap.objs.size (.tup [.int (i : Nat), x]) :=
      ⟨by show 2 ≤ sizeLine; decide, [.int i tk, y], .cons ⟨_, rfl⟩ (.cons ru .nil), ⟨_, hT2, rfl, _, rfl⟩⟩
    have I1 : Inv X pins σ (upd H s.heap.objs.size (.tup [.int (i : Nat), x])) { s with heap := h2, toks := tk + 1 } :=
      I.turnedNew (ch := [e, it]) (fun b ob hb q => (sb.2 b (fun z => hb (by simp [z]))).trans (hk b ob (fun z => hb (by simp [z])) (fun z => hb (by simp [z])) q)) hf (Nat.le_refl _) newO
    refine ⟨.ref s.heap.objs.size, _, I1, rfl, ⟨_, x, rfl, I.hok.fresh (Nat.le_refl _), rfl, fun ys hy2 => by rw [I.tuple_inj hy2 hq]; exact hx⟩, ⟨⟨y, ?_⟩, hst.1.at fun o q => (sb.2 it (Ne.symm n1)).trans q, n1, n2, n3⟩, fun b hb => ?_⟩
    · rw [show ((i + 1 : Nat) : Int) = (i : Int) + 1 by omega]
      exact he2
    · have lb : b < s.heap.objs.size := by
        rcases (by simpa using hb : b = e ∨ b = it) with rfl | rfl
        · exact le1
        · exact le2
      rw [upd_ne (Nat.ne_of_lt lb)]
      exact (hf b hb).1
  done := by
    intro X hP hw hK hc i pins s σ H E I hf st hg
    cases hP
    cases hw
    cases hK
    obtain ⟨⟨v0, he⟩, hit, n1, n2, n3⟩ := st
    obtain ⟨xs, hq, hx⟩ := hg
    obtain ⟨us, rv, tp, hz⟩ := I.tuple hq
    have tp' : s.heap.IsTuple a us.toArray := tp
    obtain ⟨f0, f1, f2, f3, f4, f5⟩ := hf it (List.mem_cons_of_mem _ List.mem_cons_self)
    have hl := rv.length
    have hh : X.A.in1.handled = none := I.ok.hd hc
    have D0 : Draws X.prog X.w X.A.in1 it [it, a] 0 (fun _ _ => False) (fun _ h => h.IsTupleIter it a i ∧ h.IsTuple a us.toArray) := {
      live := fun _ _ st => by
        obtain ⟨o, ho, _⟩ := st.1
        exact ⟨o, ho⟩
      frame := fun _ _ _ st k => ⟨st.1.at fun o e => k it List.mem_cons_self o e, st.2.at fun o e => k a (List.mem_cons_of_mem _ List.mem_cons_self) o e⟩
      item := fun _ _ _ _ z => absurd z (Nat.not_lt_zero _)
      done := fun s Q E st q => wpAny_nextOf_tuple_end hh st.1 st.2 (by simp; omega) q }
    exact wpAny_pyNext_enum_endD D0 he ⟨hit, tp'⟩ fun h1 eb => ⟨rfl, I.turned (t' := s.toks) (fun b o hb q => eb b o (fun z => hb (by simp [z])) q) f0 f1 f3 f4 f5⟩
  self := fun A i s Q E st h => by
    obtain ⟨⟨_, he⟩, _⟩ := st
    exact wpAny_pyIter_enum he h
def iEnumT (K : PySem.W.Frag) (ta : TA) : TI := fun σ H R => ta σ H fun vs H1 => ∃ a xs, vs = [.ref a] ∧ SqT K H1 a xs ∧ R (IteT K a) H1
theorem pi_enumT {X : Cx} {e : Expr} {ta : TA} {p pos tpos : Pos} {elts : List Expr} {kk : Nat} (hg : Gl X "enumerate") (hm : X.mg "enumerate" = none) (ha : PA X [e] ta) (hs : starEach [e] X.env = [(false, eval e X.env)] := by rfl) :
    PI X (.Tuple elts kk tpos) (.Call (.Name "enumerate" p) [e] [] pos) (iEnumT X.K ta) := by
  refine ⟨fun pins s σ H R I h => ?_⟩
  refine Call_ (ld_blt I hg hm boot_enumerate (PyProof.Rows.callWith_type1 (thn (ha.run pos pins s σ H _ I h) fun us s1 ⟨vs, H1, I1, r1, a, xs, ex, hq, q⟩ => ?_) hs rfl))
  subst ex
  obtain ⟨u0, rfl, r0⟩ : ∃ u, us = [u] ∧ RelV (.ref a) u := by
    cases r1 with
    | cons r rr =>
      cases rr
      exact ⟨_, rfl, r⟩
  obtain rfl : u0 = Value.ref a := r0
  obtain ⟨its, rv, tp, hz⟩ := I1.tuple hq
  have tp' : s1.heap.IsTuple a its.toArray := tp
  have la : a < s1.heap.objs.size := by
    obtain ⟨o, q0, _⟩ := id tp'
    exact Heap.lt_size q0
  refine en1_call (begins_tuple a its.toArray) tp' fun h1 he ho hk => wpAny_pyIter_enum he ?_
  have I2 : Inv X pins σ H1 { s1 with heap := h1 } := I1.kept (t' := s1.toks) hk
  have nb : ∀ b ∈ [s1.heap.objs.size + 1, s1.heap.objs.size], s1.heap.objs.size ≤ b := fun b hb => by
    rcases (by simpa using hb : b = s1.heap.objs.size + 1 ∨ b = s1.heap.objs.size) with rfl | rfl
    · exact Nat.le_succ _
    · exact Nat.le_refl _
  exact ⟨s1.heap.objs.size + 1, [s1.heap.objs.size + 1, s1.heap.objs.size], _, _, H1, rfl, I2, turn_enumT a (s1.heap.objs.size + 1) s1.heap.objs.size,
    ⟨⟨.none, he⟩, ⟨_, ho, rfl, rfl⟩, Nat.succ_ne_self _, Nat.ne_of_gt (Nat.lt_succ_of_lt la), Nat.ne_of_lt la⟩, fun b hb => I1.fpOk (nb b hb) (I1.hok.fresh (nb b hb)), q⟩
theorem for_enumT {K : PySem.W.Frag} {a : Addr} {xs : List V} {g : TG} {tb : TS} {D : Ends} {σ : L2.St} {H : Hp} (Pv : Nat → L2.St → Hp → Prop) (h0 : Pv 0 σ H) (hl : ∀ i σ H, i ≤ xs.length → Pv i σ H → SqT K H a xs)
    (hs : ∀ i x σ H T, xs[i]? = some x → Pv i σ H → H T = none → g (.ref T) σ (upd H T (.tup [.int (i : Nat), x])) fun σ2 H2 => tb { D with nx := Pv (i + 1), ct := Pv (i + 1), bk := D.nx } σ2 H2) (hd : ∀ σ H, Pv xs.length σ H → D.nx σ H) :
    ∃ W : Nat → Nat → L2.St → Hp → Prop, (∃ m, W 0 m σ H) ∧ ∀ i m σ H, W i m σ H →
      ((IteT K a).stop i H ∧ D.nx σ H) ∨ ((IteT K a).go i H ∧ ∃ N : L2.St → Hp → Prop, (∀ σ' H', N σ' H' → ∃ m', m' < m ∧ W (i + 1) m' σ' H') ∧ ∀ x H', (IteT K a).yld i H x H' → g x σ H' fun σ2 H2 => tb { D with nx := N, ct := N, bk := D.nx } σ2 H2) := by
  refine ⟨fun i m σ H => m + i = xs.length ∧ Pv i σ H, ⟨xs.length, rfl, h0⟩, ?_⟩
  intro i m σ H hw
  obtain ⟨hm, p⟩ := hw
  have q := hl i σ H (by omega) p
  cases m with
  | zero =>
    obtain rfl : i = xs.length := by omega
    exact .inl ⟨⟨xs, q, Nat.le_refl _⟩, hd σ H p⟩
  | succ m =>
    have lt : i < xs.length := by omega
    refine .inr ⟨⟨xs, xs[i], q, List.getElem?_eq_getElem lt⟩, Pv (i + 1), fun σ' H' p' => ⟨m, Nat.lt_succ_self m, by omega, p'⟩, fun v H' y => ?_⟩
    obtain ⟨T, x, rfl, nT, rfl, hx⟩ := y
    exact hs i x σ H T (hx xs q) p nT
/-! ### len, repr, == of an own class's instance, by its own defs -/
section
variable {X : Cx} {CX : CXT} {C f : Addr} {fd : FuncData} {ps : List Str} {n : Nat} {sp : Sp} {E : XK}
theorem own_run (F : FnOk X.prog X.w X.K X.mg X.base CX n f fd ps sp) (hb : Binds X.K fd ps []) (hx : Passes CX X E) {A : Around} {pins : List (Addr × Obj)} {σ : L2.St} {H : Hp} {s : Shared} {vs : List V} {us : List Value} {Q : VK}
    (sb : L2.Sub X n A) (I : Inv X pins σ H s) (rv : Vals vs us) (h : sp vs H Q E) : wpAny (model X.prog X.w) A (call (.ref f) us) (EP X pins σ Q) X.xe s := by
  have e0 : Env0 X.prog X.w X.K X.mg X.base A X.stack s H := by
    have e := I.env0
    exact ⟨by rw [sb.fr]; exact e.frames, e.mod, e.bs, e.bsz, e.funs, e.frf, e.hok, e.bare⟩
  have hl := F.len _ _ _ _ h
  refine wpAny_call (codeAny_mono (F.run A X.stack s H ⟨us, []⟩ us vs Q E sb.room e0 (by
    have := hb s us I.kIn (by rw [List.append_nil, ← rv.length]; exact hl)
    simpa using this) rv h) fun r s' hq => ?_)
  cases r with
  | error e => exact hx pins σ H s e s' I hq
  | ok fl =>
    cases fl with
    | ret w => exact I.after hq
    | next => exact False.elim hq
    | brk => exact False.elim hq
    | cont => exact False.elim hq
theorem call_lenO (F : FnOk X.prog X.w X.K X.mg X.base CX n f fd ps sp) (hs : PySem.W.findIn X.K (.ref C) "__len__" = some (some (.ref f))) (hf : PySem.W.isFn X.K (.ref f) = true) (hb : Binds X.K fd ps []) (hx : Passes CX X E) (hr : Room (n + 1) X.A) :
    CallR X (.builtin "len") (fun xs H Q => ∃ a dx fs, xs = [.ref a] ∧ H a = some (.ins C dx fs) ∧ sp [.ref a] H (fun v H' => ∃ m : Nat, v = .int (m : Int) ∧ m ≤ 1000 ∧ Q v H') E) := by
  intro pins s σ H xs us Q I r h
  obtain ⟨a, dx, fs, rfl, ha, q⟩ := h
  obtain ⟨u, rfl, rx⟩ := vals1 r
  cases rx
  obtain ⟨mA, J, _⟩ := ins_get I.hok ha
  obtain ⟨od, J, _⟩ := J.look
  obtain ⟨m, hF⟩ := I.fr
  refine PySem.W.len_K hF I.ok.mod.kin J hs hf (wpAny_mono (own_run F hb hx (L2.Sub.in1 ⟨hr, rfl⟩) I (show Vals [V.ref a] [Value.ref a] from .cons rfl .nil) q) (fun v s' hv => ?_) fun _ _ y => y)
  obtain ⟨z, H', I', rz, k, rfl, hk, hq⟩ := hv
  obtain ⟨t, rfl⟩ := rz
  exact ⟨⟨by omega, by omega⟩, .int (k : Int), H', I'.tok _, ⟨_, rfl⟩, hq⟩
theorem call_reprO (F : FnOk X.prog X.w X.K X.mg X.base CX n f fd ps sp) (hs : PySem.W.findIn X.K (.ref C) "__repr__" = some (some (.ref f))) (hf : PySem.W.isFn X.K (.ref f) = true) (hb : Binds X.K fd ps []) (hx : Passes CX X E) (hr : Room (n + 1) X.A) :
    CallR X (.builtin "repr") (fun xs H Q => ∃ a dx fs, xs = [.ref a] ∧ H a = some (.ins C dx fs) ∧ sp [.ref a] H (fun v H' => (∃ z, v = .str z) ∧ Q v H') E) := by
  intro pins s σ H xs us Q I r h
  obtain ⟨a, dx, fs, rfl, ha, q⟩ := h
  obtain ⟨u, rfl, rx⟩ := vals1 r
  cases rx
  obtain ⟨mA, J, _⟩ := ins_get I.hok ha
  obtain ⟨od, J, _⟩ := J.look
  obtain ⟨m, hF⟩ := I.fr
  refine PySem.W.repr_K hr.in1.units0 hF I.ok.mod.kin J hs hf (wpAny_mono (own_run F hb hx (L2.Sub.in1 ⟨hr, rfl⟩) I (show Vals [V.ref a] [Value.ref a] from .cons rfl .nil) q) (fun v s' hv => ?_) fun _ _ y => y)
  obtain ⟨z, H', I', rz, ⟨x, rfl⟩, hq⟩ := hv
  obtain ⟨t, rfl⟩ := rz
  exact ⟨.str x, H', I', ⟨_, rfl⟩, hq⟩
/-- what stands on the right: an instance of the class, or a list -/
def EqR (C : Addr) (H : Hp) (y : V) : Prop := (∃ b dy gs, y = .ref b ∧ H b = some (.ins C dy gs)) ∨ ∃ b ys, y = .ref b ∧ H b = some (.lst ys)
theorem op_eqO (F : FnOk X.prog X.w X.K X.mg X.base CX n f fd ps sp) (hs : PySem.W.findIn X.K (.ref C) "__eq__" = some (some (.ref f))) (hf : PySem.W.isFn X.K (.ref f) = true) (hb : Binds X.K fd ps []) (hx : Passes CX X E) (hr : Room n X.A) :
    OpR X (compareOp .Eq) (fun x y H Q => ∃ a dx fs, x = .ref a ∧ H a = some (.ins C dx fs) ∧ EqR C H y ∧ sp [.ref a, y] H (fun v H' => (∃ b, v = .bl b) ∧ Q v H') E) := by
  intro pins s σ H x y v u Q I rx ry h
  obtain ⟨a, dx, fs, rfl, ha, hy, q⟩ := h
  cases rx
  obtain ⟨mA, J, _⟩ := ins_get I.hok ha
  obtain ⟨od, J, _⟩ := J.look
  obtain ⟨m, hF⟩ := I.fr
  have go : wpAny (model X.prog X.w) X.A (call (.ref f) [.ref a, u]) (EP X pins σ fun v H' => (∃ b, v = .bl b) ∧ Q v H') X.xe s := own_run F hb hx ⟨hr, rfl⟩ I (show Vals [V.ref a, y] [Value.ref a, u] from .cons rfl (.cons ry .nil)) q
  have back : ∀ r s', EP X pins σ (fun v H' => (∃ b, v = .bl b) ∧ Q v H') r s' → PySem.W.CmpBack (EP X pins σ Q) r s' := fun r s' hv => by
    obtain ⟨z, H', I', rz, ⟨b, rfl⟩, hq⟩ := hv
    cases rz
    exact ⟨.bl b, H', I', rfl, hq⟩
  rcases hy with ⟨b, dy, gs, rfl, hb'⟩ | ⟨b, ys, rfl, hb'⟩
  · cases ry
    obtain ⟨mB, J', _⟩ := ins_get I.hok hb'
    obtain ⟨od', J', _⟩ := J'.look
    exact PySem.W.cmp_K (op := .Eq) (tb := .ref C) hr.units0 hF I.ok.mod.kin J J'.type (by simp [PySem.W.notFirst]) hs hf (wpAny_mono go back fun _ _ y => y)
  · cases ry
    obtain ⟨its, _, pl, _⟩ := I.list (SqL.of hb' : SqL X.K H b ys)
    have ty : PySem.W.Looks (model X.prog X.w) s.heap (typeOf (.ref b)) (.type "list") := by
      obtain ⟨o, k, e, c, _⟩ := pl
      rw [← c]
      exact (PySem.W.Looks.ld (part := none) e).andThen .now
    exact PySem.W.cmp_K (op := .Eq) (tb := .type "list") hr.units0 hF I.ok.mod.kin J ty (by rfl) hs hf (wpAny_mono go back fun _ _ y => y)
end
theorem lw_uni {x : List Nat} (h : LW x) : PyData.strOk (SX.S x) = true := by
  unfold PyData.strOk
  show (x.toArray.all _) = true
  rw [List.all_toArray, List.all_eq_true]
  intro c hc
  have := List.all_eq_true.mp h.2.2 c hc
  unfold lowc at this
  rw [Bool.and_eq_true, decide_eq_true_eq, decide_eq_true_eq] at this
  exact decide_eq_true (by omega)
theorem lw_nm {x : List Nat} (h : LW x) : nameB x = true ∧ x.length ≤ 7 := by
  have := name_lw h (k := 0) (by decide)
  rw [List.replicate_zero, List.append_nil] at this
  exact this
theorem dws {K : PySem.W.Frag} (H : Hp) : ∀ l : List (List Nat), DpAll K H (l.map vS) (l.map fun x => PyData.str (SX.S x))
  | [] => .nil
  | _ :: l => .cons (.str _) (dws H l)
/-- a name as it may be drawn, with or without an apostrophe -/
def NX (x : List Nat) : Prop := PyData.strOk (SX.S x) = true ∧ (nameB x = true ∧ x.length ≤ 7)
theorem nx_lw {x : List Nat} (h : LW x) : NX x := ⟨lw_uni h, lw_nm h⟩
theorem nx_dash {x : List Nat} (h : LW x) : NX (x ++ [39]) := by
  have e := name_lw h (k := 1) (by decide)
  refine ⟨?_, e⟩
  have u := lw_uni h
  unfold PyData.strOk at u ⊢
  have u2 : (x.toArray.all fun c => decide (c < 0x110000)) = true := u
  show ((x ++ [39]).toArray.all fun c => decide (c < 0x110000)) = true
  rw [List.all_toArray] at u2 ⊢
  rw [List.all_append, u2]
  rfl
theorem lay_nx : ∀ l : List (List Nat), (∀ x ∈ l, NX x) → PyData.canLayAll0 (l.map fun x => PyData.str (SX.S x)) = true ∧ PyData.depthAll (l.map fun x => PyData.str (SX.S x)) ≤ 0
  | [], _ => ⟨rfl, Nat.zero_le _⟩
  | x :: l, h => by
    obtain ⟨h1, h2⟩ := lay_nx l fun y hy => h y (List.mem_cons_of_mem _ hy)
    constructor
    · show (PyData.strOk (SX.S x) && PyData.canLayAll0 (l.map fun x => PyData.str (SX.S x))) = true
      rw [(h x List.mem_cons_self).1, h1]
      rfl
    · rw [List.map_cons, PyData.depthAll.eq_2]
      have : (PyData.str (SX.S x)).depth = 0 := rfl
      omega
theorem shaped_nx {l : List (List Nat)} (h : ∀ x ∈ l, NX x) : SeqAt.shaped (.list (l.map fun x => PyData.str (SX.S x))) = true := by
  obtain ⟨h1, h2⟩ := lay_nx l h
  unfold SeqAt.shaped
  rw [PyData.canLay0.eq_5, PyData.depth.eq_1, h1, Bool.true_and, decide_eq_true_eq]
  omega
theorem iteFq {c : Bool} {A B : Prop} (h : c = false) (b : B) : ite (c = true) A B := by rw [h]; exact b
theorem iteTq {c : Bool} {A B : Prop} (h : c = true) (a : A) : ite (c = true) A B := by rw [h]; exact a
/-- a tie of a step, as the law draws it -/
structure TieG (ws : List (List Nat)) (t : Tie) : Prop where
  ln : t.1.length = 1 ∨ t.1.length = 2
  ws : ∀ u ∈ t.1, u.1 ∈ ws ∧ u.2 ∈ RR
  td : termsD (.tuple (t.1.map tmP)) = true
  nf : Nf t.2
  bn : Bn 3 t.2
/-! ### where names and ties go wrong -/
theorem fb_go : ∀ (xs : List Str) (i : Nat) (pre : List Str) (y : Str) (zs : List Str), (∀ x ∈ xs, nameB x.cps.toList = true) → (pre ++ xs).Nodup → (nameB y.cps.toList = false ∨ y ∈ pre ++ xs) → firstBad i pre (xs ++ y :: zs) = some (i + xs.length)
  | [], i, pre, y, zs, _, _, h => by
    have n : ¬ (nameB y.cps.toList = true ∧ y ∉ pre) := fun ⟨a, b⟩ => by
      rcases h with h | h
      · rw [a] at h
        cases h
      · rw [List.append_nil] at h
        exact b h
    show (if _ then _ else _) = _
    rw [if_neg n]
    rfl
  | x :: xs, i, pre, y, zs, hn, hd, h => by
    have c : nameB x.cps.toList = true ∧ x ∉ pre := ⟨hn x List.mem_cons_self, fun z => (List.nodup_append.mp hd).2.2 x z x List.mem_cons_self rfl⟩
    have e : pre ++ x :: xs = (pre ++ [x]) ++ xs := by rw [List.append_assoc]; rfl
    rw [e] at hd h
    have := fb_go xs (i + 1) (pre ++ [x]) y zs (fun u hu => hn u (List.mem_cons_of_mem _ hu)) hd h
    show (if _ then firstBad (i + 1) (pre ++ [x]) (xs ++ y :: zs) else _) = _
    rw [if_pos c, this, List.length_cons]
    congr 1
    omega
theorem fb_none : ∀ (xs : List Str) (i : Nat) (pre : List Str), (∀ x ∈ xs, nameB x.cps.toList = true) → (pre ++ xs).Nodup → firstBad i pre xs = none
  | [], _, _, _, _ => rfl
  | x :: xs, i, pre, hn, hd => by
    have c : nameB x.cps.toList = true ∧ x ∉ pre := ⟨hn x List.mem_cons_self, fun z => (List.nodup_append.mp hd).2.2 x z x List.mem_cons_self rfl⟩
    have e : pre ++ x :: xs = (pre ++ [x]) ++ xs := by rw [List.append_assoc]; rfl
    rw [e] at hd
    show (if _ then _ else _) = _
    rw [if_pos c]
    exact fb_none xs (i + 1) (pre ++ [x]) (fun u hu => hn u (List.mem_cons_of_mem _ hu)) hd
theorem fbt_go (ns : List Str) : ∀ (ds : List PyData) (i : Nat) (d : PyData) (es : List PyData), (∀ x ∈ ds, goodT ns x = true) → goodT ns d = false → firstBadT ns i (ds ++ d :: es) = some (i + ds.length)
  | [], i, d, es, _, h => by
    show (if _ then _ else _) = _
    rw [if_neg (by rw [h]; exact Bool.false_ne_true)]
    rfl
  | x :: ds, i, d, es, hn, h => by
    have := fbt_go ns ds (i + 1) d es (fun u hu => hn u (List.mem_cons_of_mem _ hu)) h
    show (if _ then firstBadT ns (i + 1) (ds ++ d :: es) else _) = _
    rw [if_pos (hn x List.mem_cons_self), this, List.length_cons]
    congr 1
    omega
theorem fbt_none (ns : List Str) : ∀ (ds : List PyData) (i : Nat), (∀ x ∈ ds, goodT ns x = true) → firstBadT ns i ds = none
  | [], _, _ => rfl
  | x :: ds, i, hn => by
    show (if _ then _ else _) = _
    rw [if_pos (hn x List.mem_cons_self)]
    exact fbt_none ns ds (i + 1) (fun u hu => hn u (List.mem_cons_of_mem _ hu))
theorem ratD_nf {f : FR} (h : Nf f) : ratD (frP f) = true := by
  show (decide (1 ≤ f.2) && decide (Int.gcd f.1 f.2 = 1)) = true
  rw [Bool.and_eq_true, decide_eq_true_eq, decide_eq_true_eq]
  exact ⟨h.1, h.2⟩
theorem good_drawn {ws : List Nm} {t : Tie} (h : TieG ws t) : goodT (ws.map SX.S) (tieP t.1 t.2) = true := by
  show ((termsD (.tuple (t.1.map tmP)) && ratD (frP t.2)) && ((t.1.map tmP).map _).all _) = true
  rw [h.td, ratD_nf h.nf, Bool.true_and, Bool.true_and, List.map_map, List.all_map, List.all_eq_true]
  intro u hu
  exact decide_eq_true (List.mem_map.mpr ⟨u.1, (h.ws u hu).1, rfl⟩)
theorem bad_by {ns : List Str} {d : PyData} (h : tieD d = false) : goodT ns d = false := by
  unfold goodT
  rw [h]
  rfl
abbrev frI (t u : Int) : PyData := .tuple [.int t, .int u]
def oneTie (x : Str) (r b : PyData) : PyData := .tuple [.tuple [.tuple [.str x, r]], b]
theorem bad_strange {ns : List Str} {x : Str} {r b : PyData} (h : x ∉ ns) : goodT ns (oneTie x r b) = false := by
  show (_ && (decide (x ∈ ns) && true)) = false
  rw [decide_eq_false h]
  simp
theorem good_one {ns : List Str} {x : Str} {r b : FR} (hx : x ∈ ns) (nx : nameB x.cps.toList = true) (nr : Nf r) (r0 : r.1 ≠ 0) (nb : Nf b) : goodT ns (oneTie x (frP r) (frP b)) = true := by
  have e : nameD (.str x) = true := nx
  show ((((nameD (.str x) && ratD (frP r)) && decide (r.1 ≠ 0)) && ratD (frP b)) && (decide (x ∈ ns) && true)) = true
  rw [e, ratD_nf nr, ratD_nf nb, decide_eq_true r0, decide_eq_true hx]
  rfl
def oddTs (s x : Str) : List PyData := [.none, .tuple [], .tuple [.tuple [], frI 0 1], .tuple [.tuple [.tuple [.str (Str.ofString "b"), frI 1 1], .tuple [.str (Str.ofString "a"), frI 1 1]], frI 0 1], oneTie s (frI 1 1) (frI 0 1), .str (Str.ofString "x <= 1"), .int 5,
  oneTie x (frI 0 1) (frI 0 1), oneTie x (frI 1 1) (frI 2 2), .list [.tuple [.tuple [.str x, frI 1 1]], frI 0 1]]
theorem odd_ties {ns : List Str} {s x : Str} (hs : s ∉ ns) : ∀ d ∈ oddTs s x, goodT ns d = false := by
  intro d hd
  simp only [oddTs, List.mem_cons, List.not_mem_nil, or_false] at hd
  rcases hd with rfl | rfl | rfl | rfl | rfl | rfl | rfl | rfl | rfl | rfl
  · exact bad_by rfl
  · exact bad_by rfl
  · exact bad_by rfl
  · exact bad_by (bad_order (by decide +kernel))
  · exact bad_strange hs
  · exact bad_by rfl
  · exact bad_by rfl
  · exact bad_by (bad_rate (by rfl))
  · exact bad_by (bad_rat (by decide +kernel))
  · exact bad_by rfl
def oddNs : List Str := ["", "A", "abcdefg", "a b", "'", "a''", "1"].map Str.ofString
theorem odd_names : ∀ x ∈ oddNs, nameB x.cps.toList = false ∧ x.length ≤ 7 := by
  have h : (oddNs.all fun x => !nameB x.cps.toList && decide (x.length ≤ 7)) = true := by decide +kernel
  intro x hx
  have := List.all_eq_true.mp h x hx
  rw [Bool.and_eq_true, Bool.not_eq_true', decide_eq_true_eq] at this
  exact this
/-! ### a name that is not among some -/
def tenNs : List Str := ["zz", "q", "yyy", "m", "vvvv", "kk", "j", "gg", "xwxwx", "n"].map Str.ofString
theorem fresh_of : ∀ (ws : List Str) (ts : List Str), ts.Nodup → ws.length < ts.length → ∃ t ∈ ts, t ∉ ws
  | [], t :: _, _, _ => ⟨t, List.mem_cons_self, fun z => by cases z⟩
  | [], [], _, h => absurd h (by simp)
  | w :: ws, ts, hn, h => by
    have n2 : (ts.erase w).Nodup := hn.erase w
    have l2 : ws.length < (ts.erase w).length := by
      by_cases e : w ∈ ts
      · rw [List.length_erase_of_mem e]
        rw [List.length_cons] at h
        omega
      · rw [List.erase_of_not_mem e]
        rw [List.length_cons] at h
        omega
    obtain ⟨t, ht, hw⟩ := fresh_of ws (ts.erase w) n2 l2
    have h2 := (hn.mem_erase_iff).mp ht
    refine ⟨t, h2.2, fun z => ?_⟩
    rcases List.mem_cons.mp z with q | q
    · exact h2.1 q
    · exact hw q
theorem ten_fresh {ws : List Str} (h : ws.length ≤ 9) : (tenNs.filter fun x => decide (x ∉ ws)) ≠ [] := by
  obtain ⟨t, ht, hw⟩ := fresh_of ws tenNs (by decide +kernel) (Nat.lt_of_le_of_lt h (by decide +kernel))
  intro e
  have : t ∈ tenNs.filter fun x => decide (x ∉ ws) := List.mem_filter.mpr ⟨ht, decide_eq_true hw⟩
  rw [e] at this
  cases this
def tenLs : List (List Nat) := [[122, 122], [113], [121, 121, 121], [109], [118, 118, 118, 118], [107, 107], [106], [103, 103], [120, 119, 120, 119, 120], [110]]
theorem ten_eq : tenNs = tenLs.map SX.S := by decide +kernel
theorem ten_lw : ∀ x ∈ tenLs, LW x := by
  have h : (tenLs.all fun x => decide (x ≠ []) && decide (x.length ≤ 6) && x.all lowc) = true := by decide +kernel
  intro x hx
  have := List.all_eq_true.mp h x hx
  rw [Bool.and_eq_true, Bool.and_eq_true, decide_eq_true_eq, decide_eq_true_eq] at this
  exact ⟨this.1.1, this.1.2, this.2⟩
theorem FnOk.or {P : Program} {w : World} {K : PySem.W.Frag} {mg : Str → Option Value} {base : Heap} {CX : CXT} {k : Nat} {f : Addr} {fd : FuncData} {ps : List Str} {sp sp' : Sp} (F : FnOk P w K mg base CX k f fd ps sp) (G : FnOk P w K mg base CX k f fd ps sp') : FnOk P w K mg base CX k f fd ps (fun vs H Q E => sp vs H Q E ∨ sp' vs H Q E) :=
  ⟨fun vs H Q E h => h.elim (F.len vs H Q E) (G.len vs H Q E), fun A outer s H args us vs Q E hr e b r h => h.elim (F.run A outer s H args us vs Q E hr e b r) (G.run A outer s H args us vs Q E hr e b r)⟩
theorem SqT_sm {K : PySem.W.Frag} {H H' : Hp} {p : Addr} {xs : List V} (s : Same H H') (h : SqT K H p xs) : SqT K H' p xs := by
  rcases h with (q | ⟨o, q⟩) | q
  · exact .inl (.inl (s _ _ q))
  · exact .inl (.inr ⟨o, s _ _ q⟩)
  · exact .inr q
section
variable {P : Program} {w : World} {K : PySem.W.Frag} {mg : Str → Option Value} {base : Heap} {fa : Nat → Addr} {fd : Nat → FuncData}
def spFWNT (K : PySem.W.Frag) : Sp := fun vs H Q _ => ∃ (L : Addr) (ns : List Str), vs = [.ref L] ∧ SqT K H L (ns.map V.str) ∧ ns.length ≤ 900 ∧ (∀ x ∈ ns, x.length ≤ 1000) ∧ ∀ H', Same H H' → Q (optV (firstBad 0 [] ns)) H'
theorem ok_p_first_wrong_nameT (T : Txt K mg fa fd) : FnOk P w K mg base CX0 3 (fa 136) (fd 136) ["names"] (spFWNT K) := by
  refine T.F_p_first_wrong_name.ok sc_p_first_wrong_name (fun vs H Q E h => ?_) (fun cdv A outer s H vs Q E hr h => ?_)
  · obtain ⟨L, ns, rfl, _⟩ := h
    rfl
  · obtain ⟨L, ns, rfl, hL, hsz, hlen, q⟩ := h
    refine ⟨_, (pss_cons (ps_for PassesOwn.never rfl (pi_enumT (by rfl) T.m_enumerate (pa_cons (pv 0) pa_nil)) (pg_tup (by rfl) (pgs_cons (pg_name (i := 1) sc_p_first_wrong_name.nd rfl (.inl rfl)) (pgs_cons (pg_name (i := 2) sc_p_first_wrong_name.nd rfl (.inl rfl)) pgs_nil))) (pss_one (ps_if (PW.pt (pw_or (pt_not (pt_val (pe_call (ok_p_is_name T) (hr.mono (by decide)) (by rfl) T.g_p_is_name T.F_p_is_name.kp T.b_p_is_name .nil pass0 (pa_cons (pv 2) pa_nil)))) (pw_or1 (pt_cmpR op_in_seq (pv 2) (pe_slice sl_tup (pv 0) po_none (po_some (pv 1))) (by rfl))))) (pss_one (ps_ret (pv 1))) pss_nil)))
      (pss_one (ps_ret pe_non))), ?_⟩
    refine ⟨_, rfl, L, _, rfl, hL, for_enumT (K := K) (a := L) (xs := ns.map V.str) (fun i σ G => Same H G ∧ firstBad 0 [] ns = firstBad i (ns.take i) (ns.drop i) ∧ ∃ y1 y2, σ = [some (.ref L), y1, y2]) ⟨Same.refl H, rfl, _, _, rfl⟩ (fun i σ G _ hq => SqT_sm hq.1 hL) (fun i x σ G T hx hq nT => ?_) (fun σ G hq => ?_)⟩
    · obtain ⟨sG, fb, y1, y2, rfl⟩ := hq
      rw [List.getElem?_map] at hx
      obtain ⟨n, hz, rfl⟩ := Option.map_eq_some_iff.mp hx
      have lt : i < ns.length := (List.getElem?_eq_some_iff.mp hz).1
      have dr : ns.drop i = n :: ns.drop (i + 1) := by
        rw [List.drop_eq_getElem_cons lt]
        congr 1
        exact (List.getElem?_eq_some_iff.mp hz).2
      rw [dr] at fb
      have sT := same_upd (o := .tup [V.int (i : Nat), .str n]) nT
      have s1 := sG.trans sT
      have mem : n ∈ ns := List.mem_of_getElem? hz
      refine ⟨T, _, rfl, SqT.of upd_same, rfl, _, _, rfl, _, _, rfl, rfl, ?_⟩
      refine ⟨_, rfl, _, _, 0, rfl, .str n (hlen n mem), _, rfl, ?_⟩
      have ret : (¬ (nameB n.cps.toList = true ∧ n ∉ ns.take i)) → ∀ G', Same H G' → Q (.int (i : Int)) G' := fun c G' s' => by
        have e : firstBad 0 [] ns = some i := by
          rw [fb]
          show (if _ then _ else _) = _
          rw [if_neg c]
        rw [e] at q
        exact q G' s'
      cases hb : nameB n.cps.toList with
      | false =>
        have hb' : nameD (.str n) = false := hb
        rw [hb']
        exact iteT (iteT ⟨_, rfl, ret (fun z => by rw [hb] at z; exact Bool.false_ne_true z.1) _ s1⟩)
      | true =>
        have hb' : nameD (.str n) = true := hb
        rw [hb']
        refine iteF ⟨_, rfl, _, rfl, _, rfl, _, rfl, L, _, rfl, SqT_sm s1 hL, ?_, fun p np => ?_⟩
        · intro z
          have z2 := z.2
          rw [HT.sIx_nat, List.length_map] at z2
          omega
        have sp := same_upd (o := .tup (cutV (ns.map V.str) none (some (i : Int)))) np
        have ec : cutV (ns.map V.str) none (some (i : Int)) = (ns.take i).map V.str := by
          rw [cut_take _ _ (by rw [List.length_map]; omega), List.map_take]
        refine ⟨p, _, rfl, .inr (SqT.of upd_same), rfl, ?_, _, rfl, ?_⟩
        · rw [ec]
          exact flat_strs _
        · rw [ec] at sp ⊢
          rw [inV_strs]
          by_cases hm : n ∈ ns.take i
          · rw [decide_eq_true hm]
            exact iteT ⟨_, rfl, ret (fun z => z.2 hm) _ (s1.trans sp)⟩
          · rw [decide_eq_false hm]
            refine iteF ⟨s1.trans sp, ?_, _, _, rfl⟩
            rw [fb, List.take_add_one, hz]
            show (if _ then _ else _) = _
            rw [if_pos ⟨hb, hm⟩]
            rfl
    · obtain ⟨sG, fb, y1, y2, rfl⟩ := hq
      rw [List.length_map, List.take_length, List.drop_length] at fb
      have e : optV (firstBad 0 [] ns) = .non := by
        rw [fb]
        rfl
      rw [e] at q
      exact q _ sG
/-- a list or a tuple -/
def SqB (K : PySem.W.Frag) (H : Hp) (a : Addr) (xs : List V) : Prop := SqL K H a xs ∨ SqT K H a xs
theorem SqB.sm {K : PySem.W.Frag} {H H' : Hp} {p : Addr} {xs : List V} (s : Same H H') (h : SqB K H p xs) : SqB K H' p xs := h.elim (fun q => .inl (SqL.sm s q)) fun q => .inr (SqT_sm s q)
def spFWNB (K : PySem.W.Frag) : Sp := fun vs H Q _ => ∃ (L : Addr) (ns : List Str), vs = [.ref L] ∧ SqB K H L (ns.map V.str) ∧ ns.length ≤ 900 ∧ (∀ x ∈ ns, x.length ≤ 1000) ∧ ∀ H', Same H H' → Q (optV (firstBad 0 [] ns)) H'
theorem ok_p_first_wrong_nameB (T : Txt K mg fa fd) : FnOk P w K mg base CX0 3 (fa 136) (fd 136) ["names"] (spFWNB K) :=
  (FnOk.or (ok_p_first_wrong_name T) (ok_p_first_wrong_nameT T)).imp fun vs H Q E ⟨L, ns, e, h, r⟩ => h.elim (fun h => .inl ⟨L, ns, e, h, r⟩) fun h => .inr ⟨L, ns, e, h, r⟩
end
section
variable {P : Program} {w : World} {K : PySem.W.Frag} {mg : Str → Option Value} {base : Heap} {fa : Nat → Addr} {fd : Nat → FuncData}
def spFWqL (K : PySem.W.Frag) : Sp := fun vs H Q _ => ∃ (T L : Addr) (us : List V) (ds : List PyData) (ns : List Str) (z : Addr), vs = [.ref T, .ref L] ∧ SqL K H T us ∧ DtAll z H us ds ∧ us.length ≤ 900 ∧ SqB K H L (ns.map V.str) ∧ ∀ H', Same H H' → Q (optV (firstBadT ns 0 ds)) H'
theorem ok_p_first_wrong_tieL (T : Txt K mg fa fd) : FnOk P w K mg base CX0 6 (fa 137) (fd 137) ["ties", "names"] (spFWqL K) := by
  refine T.F_p_first_wrong_tie.ok sc_p_first_wrong_tie (fun vs H Q E h => ?_) (fun cdv A outer s H vs Q E hr h => ?_)
  · obtain ⟨T0, L, us, ds, ns, z, rfl, _⟩ := h
    rfl
  · obtain ⟨T0, L, us, ds, ns, z, rfl, hT, hds, hsz, hL, q⟩ := h
    refine ⟨_, (pss_cons (ps_for PassesOwn.never rfl (pi_enum (by rfl) T.m_enumerate (pa_cons (pv 0) pa_nil)) (pg_tup (by rfl) (pgs_cons (pg_name (i := 2) sc_p_first_wrong_tie.nd rfl (.inl rfl)) (pgs_cons (pg_name (i := 3) sc_p_first_wrong_tie.nd rfl (.inl rfl)) pgs_nil))) (pss_one (ps_if (PW.pt (pw_or (pt_not (pt_val (pe_call (ok_p_is_tie T) (hr.mono (by decide)) (by rfl) T.g_p_is_tie T.F_p_is_tie.kp T.b_p_is_tie .nil pass0 (pa_cons (pv 3) pa_nil)))) (pw_or1 (pt_not (pt_val (pe_callB (cr_all rfl) (by rfl) T.m_all PyProof.Rows.boot_all (pa_cons (pe_lc (own := [("name", 4)]) (g := gName 4) (tt := tYes) rfl sc_p_first_wrong_tie.nd (pi_list (pe_call (ok_p_names_in T) (hr.mono (by decide)) (by rfl) T.g_p_names_in T.F_p_names_in.kp T.b_p_names_in .nil pass0 (pa_cons (pv 3) pa_nil))) (blkOk_by (own := [("name", 4)]) (N := ["ties", "names", "at", "tie", "name"]) (sc := defScope s_p_first_wrong_tie) (by decide +kernel)) (fun _ _ _ _ _ => pg_name (i := 4) sc_p_first_wrong_tie.nd rfl (Or.inl rfl)) (fun _ _ _ _ _ => pts_nil) (fun _ _ _ _ _ => (pe_cmpR (op_in_seqK (K := K) rfl) (pv 4) (pv 1) (by rfl)))) pa_nil))))))) (pss_one (ps_ret (pv 2))) pss_nil)))
      (pss_one (ps_ret pe_non))), ?_⟩
    refine ⟨_, rfl, T0, _, rfl, hT, for_enum (K := K) (a := T0) (xs := us) (fun i σ G => Same H G ∧ firstBadT ns 0 ds = firstBadT ns i (ds.drop i) ∧ ∃ y1 y2 y3, σ = [some (.ref T0), some (.ref L), y1, y2, y3]) ⟨Same.refl H, rfl, _, _, _, rfl⟩ (fun i σ G _ hq => SqL.sm hq.1 hT) (fun i x σ G T1 hx hq nT => ?_) (fun σ G hq => ?_)⟩
    · obtain ⟨sG, fb, y1, y2, y3, rfl⟩ := hq
      obtain ⟨d, hd, hdt⟩ := DtAll.at i hds hx
      have lt : i < ds.length := (List.getElem?_eq_some_iff.mp hd).1
      have dr : ds.drop i = d :: ds.drop (i + 1) := by
        rw [List.drop_eq_getElem_cons lt]
        congr 1
        exact (List.getElem?_eq_some_iff.mp hd).2
      rw [dr] at fb
      have sT := same_upd (o := .tup [V.int (i : Nat), x]) nT
      have s1 := sG.trans sT
      have ret : goodT ns d = false → ∀ G', Same H G' → Q (.int (i : Int)) G' := fun c G' s' => by
        have e : firstBadT ns 0 ds = some i := by
          rw [fb]
          show (if _ then _ else _) = _
          rw [if_neg (by rw [c]; exact Bool.false_ne_true)]
        rw [e] at q
        exact q G' s'
      refine ⟨T1, _, rfl, SqT.of upd_same, rfl, _, _, rfl, _, _, rfl, rfl, ?_⟩
      refine ⟨_, rfl, x, d, z, rfl, hdt.same s1, fun G2 s2 => ⟨_, rfl, ?_⟩⟩
      cases ht : tieD d with
      | false =>
        refine iteT (iteT ⟨_, rfl, ret ?_ _ (s1.trans s2)⟩)
        unfold goodT
        rw [ht]
        rfl
      | true =>
        obtain ⟨ts, b, ed, hl, en⟩ := tieD_inv ht
        have s12 := s1.trans s2
        refine iteF ⟨_, rfl, x, ts, b, z, rfl, by rw [← ed]; exact hdt.same s12, by omega, fun D H' nD s3 hD => ⟨D, rfl, ⟨_, SqL.of hD⟩, fun D2 nD2 => ?_⟩⟩
        have s13 := s12.trans s3
        refine lc_list (K := K) (a := D) (xs := ts.map fun t => V.str t.1) (fun j G3 => Same H' G3 ∧ G3 D2 = some (.lst (((ts.take j).map fun t => decide (t.1 ∈ ns)).map V.bl))) ⟨same_upd nD2, upd_same⟩ (fun j G3 _ hp => SqL.of (hp.1 _ _ hD)) (fun j y G3 hy hp => ?_) (fun G3 hp => ?_)
        · rw [List.getElem?_map] at hy
          obtain ⟨t, htz, rfl⟩ := Option.map_eq_some_iff.mp hy
          have jl := (List.getElem?_eq_some_iff.mp htz).1
          refine ⟨rfl, _, rfl, _, rfl, L, _, rfl, SqB.sm (s13.trans hp.1) hL, rfl, flat_strs _, _, hp.2, ?_, ?_, ?_⟩
          · rw [List.length_map, List.length_map, List.length_take]
            exact small1000 (by omega)
          · exact fun c o e => (upd_ne (ne_of_none e nD2)).trans (hp.1 c o e)
          · rw [upd_same, List.take_add_one, htz, inV_strs, List.map_append, List.map_append]
            rfl
        · rw [List.length_map, List.take_length] at hp
          have s14 := s13.trans hp.1
          refine ⟨D2, _, rfl, SqL.of hp.2, _, rfl, ?_⟩
          have ea : (ts.map fun t => decide (t.1 ∈ ns)).all id = goodT ns d := by
            unfold goodT
            rw [ht, en, Bool.true_and, List.all_map, List.all_map]
            rfl
          rw [ea]
          cases hg : goodT ns d with
          | false => exact iteT ⟨_, rfl, ret hg _ s14⟩
          | true =>
            refine iteF ⟨s14, ?_, _, _, _, rfl⟩
            rw [fb]
            show (if _ then _ else _) = _
            rw [if_pos hg]
    · obtain ⟨sG, fb, y1, y2, y3, rfl⟩ := hq
      rw [hds.len, List.drop_length] at fb
      have e : optV (firstBadT ns 0 ds) = .non := by
        rw [fb]
        rfl
      rw [e] at q
      exact q _ sG
def spFWqT (K : PySem.W.Frag) : Sp := fun vs H Q _ => ∃ (T L : Addr) (us : List V) (ds : List PyData) (ns : List Str) (z : Addr), vs = [.ref T, .ref L] ∧ SqT K H T us ∧ DtAll z H us ds ∧ us.length ≤ 900 ∧ SqB K H L (ns.map V.str) ∧ ∀ H', Same H H' → Q (optV (firstBadT ns 0 ds)) H'
theorem ok_p_first_wrong_tieT (T : Txt K mg fa fd) : FnOk P w K mg base CX0 6 (fa 137) (fd 137) ["ties", "names"] (spFWqT K) := by
  refine T.F_p_first_wrong_tie.ok sc_p_first_wrong_tie (fun vs H Q E h => ?_) (fun cdv A outer s H vs Q E hr h => ?_)
  · obtain ⟨T0, L, us, ds, ns, z, rfl, _⟩ := h
    rfl
  · obtain ⟨T0, L, us, ds, ns, z, rfl, hT, hds, hsz, hL, q⟩ := h
    refine ⟨_, (pss_cons (ps_for PassesOwn.never rfl (pi_enumT (by rfl) T.m_enumerate (pa_cons (pv 0) pa_nil)) (pg_tup (by rfl) (pgs_cons (pg_name (i := 2) sc_p_first_wrong_tie.nd rfl (.inl rfl)) (pgs_cons (pg_name (i := 3) sc_p_first_wrong_tie.nd rfl (.inl rfl)) pgs_nil))) (pss_one (ps_if (PW.pt (pw_or (pt_not (pt_val (pe_call (ok_p_is_tie T) (hr.mono (by decide)) (by rfl) T.g_p_is_tie T.F_p_is_tie.kp T.b_p_is_tie .nil pass0 (pa_cons (pv 3) pa_nil)))) (pw_or1 (pt_not (pt_val (pe_callB (cr_all rfl) (by rfl) T.m_all PyProof.Rows.boot_all (pa_cons (pe_lc (own := [("name", 4)]) (g := gName 4) (tt := tYes) rfl sc_p_first_wrong_tie.nd (pi_list (pe_call (ok_p_names_in T) (hr.mono (by decide)) (by rfl) T.g_p_names_in T.F_p_names_in.kp T.b_p_names_in .nil pass0 (pa_cons (pv 3) pa_nil))) (blkOk_by (own := [("name", 4)]) (N := ["ties", "names", "at", "tie", "name"]) (sc := defScope s_p_first_wrong_tie) (by decide +kernel)) (fun _ _ _ _ _ => pg_name (i := 4) sc_p_first_wrong_tie.nd rfl (Or.inl rfl)) (fun _ _ _ _ _ => pts_nil) (fun _ _ _ _ _ => (pe_cmpR (op_in_seqK (K := K) rfl) (pv 4) (pv 1) (by rfl)))) pa_nil))))))) (pss_one (ps_ret (pv 2))) pss_nil)))
      (pss_one (ps_ret pe_non))), ?_⟩
    refine ⟨_, rfl, T0, _, rfl, hT, for_enumT (K := K) (a := T0) (xs := us) (fun i σ G => Same H G ∧ firstBadT ns 0 ds = firstBadT ns i (ds.drop i) ∧ ∃ y1 y2 y3, σ = [some (.ref T0), some (.ref L), y1, y2, y3]) ⟨Same.refl H, rfl, _, _, _, rfl⟩ (fun i σ G _ hq => SqT_sm hq.1 hT) (fun i x σ G T1 hx hq nT => ?_) (fun σ G hq => ?_)⟩
    · obtain ⟨sG, fb, y1, y2, y3, rfl⟩ := hq
      obtain ⟨d, hd, hdt⟩ := DtAll.at i hds hx
      have lt : i < ds.length := (List.getElem?_eq_some_iff.mp hd).1
      have dr : ds.drop i = d :: ds.drop (i + 1) := by
        rw [List.drop_eq_getElem_cons lt]
        congr 1
        exact (List.getElem?_eq_some_iff.mp hd).2
      rw [dr] at fb
      have sT := same_upd (o := .tup [V.int (i : Nat), x]) nT
      have s1 := sG.trans sT
      have ret : goodT ns d = false → ∀ G', Same H G' → Q (.int (i : Int)) G' := fun c G' s' => by
        have e : firstBadT ns 0 ds = some i := by
          rw [fb]
          show (if _ then _ else _) = _
          rw [if_neg (by rw [c]; exact Bool.false_ne_true)]
        rw [e] at q
        exact q G' s'
      refine ⟨T1, _, rfl, SqT.of upd_same, rfl, _, _, rfl, _, _, rfl, rfl, ?_⟩
      refine ⟨_, rfl, x, d, z, rfl, hdt.same s1, fun G2 s2 => ⟨_, rfl, ?_⟩⟩
      cases ht : tieD d with
      | false =>
        refine iteT (iteT ⟨_, rfl, ret ?_ _ (s1.trans s2)⟩)
        unfold goodT
        rw [ht]
        rfl
      | true =>
        obtain ⟨ts, b, ed, hl, en⟩ := tieD_inv ht
        have s12 := s1.trans s2
        refine iteF ⟨_, rfl, x, ts, b, z, rfl, by rw [← ed]; exact hdt.same s12, by omega, fun D H' nD s3 hD => ⟨D, rfl, ⟨_, SqL.of hD⟩, fun D2 nD2 => ?_⟩⟩
        have s13 := s12.trans s3
        refine lc_list (K := K) (a := D) (xs := ts.map fun t => V.str t.1) (fun j G3 => Same H' G3 ∧ G3 D2 = some (.lst (((ts.take j).map fun t => decide (t.1 ∈ ns)).map V.bl))) ⟨same_upd nD2, upd_same⟩ (fun j G3 _ hp => SqL.of (hp.1 _ _ hD)) (fun j y G3 hy hp => ?_) (fun G3 hp => ?_)
        · rw [List.getElem?_map] at hy
          obtain ⟨t, htz, rfl⟩ := Option.map_eq_some_iff.mp hy
          have jl := (List.getElem?_eq_some_iff.mp htz).1
          refine ⟨rfl, _, rfl, _, rfl, L, _, rfl, SqB.sm (s13.trans hp.1) hL, rfl, flat_strs _, _, hp.2, ?_, ?_, ?_⟩
          · rw [List.length_map, List.length_map, List.length_take]
            exact small1000 (by omega)
          · exact fun c o e => (upd_ne (ne_of_none e nD2)).trans (hp.1 c o e)
          · rw [upd_same, List.take_add_one, htz, inV_strs, List.map_append, List.map_append]
            rfl
        · rw [List.length_map, List.take_length] at hp
          have s14 := s13.trans hp.1
          refine ⟨D2, _, rfl, SqL.of hp.2, _, rfl, ?_⟩
          have ea : (ts.map fun t => decide (t.1 ∈ ns)).all id = goodT ns d := by
            unfold goodT
            rw [ht, en, Bool.true_and, List.all_map, List.all_map]
            rfl
          rw [ea]
          cases hg : goodT ns d with
          | false => exact iteT ⟨_, rfl, ret hg _ s14⟩
          | true =>
            refine iteF ⟨s14, ?_, _, _, _, rfl⟩
            rw [fb]
            show (if _ then _ else _) = _
            rw [if_pos hg]
    · obtain ⟨sG, fb, y1, y2, y3, rfl⟩ := hq
      rw [hds.len, List.drop_length] at fb
      have e : optV (firstBadT ns 0 ds) = .non := by
        rw [fb]
        rfl
      rw [e] at q
      exact q _ sG
def spFWqB (K : PySem.W.Frag) : Sp := fun vs H Q _ => ∃ (T L : Addr) (us : List V) (ds : List PyData) (ns : List Str) (z : Addr), vs = [.ref T, .ref L] ∧ SqB K H T us ∧ DtAll z H us ds ∧ us.length ≤ 900 ∧ SqB K H L (ns.map V.str) ∧ ∀ H', Same H H' → Q (optV (firstBadT ns 0 ds)) H'
theorem ok_p_first_wrong_tieB (T : Txt K mg fa fd) : FnOk P w K mg base CX0 6 (fa 137) (fd 137) ["ties", "names"] (spFWqB K) :=
  (FnOk.or (ok_p_first_wrong_tieL T) (ok_p_first_wrong_tieT T)).imp fun vs H Q E ⟨T0, L, us, ds, ns, z, e, h, r⟩ => h.elim (fun h => .inl ⟨T0, L, us, ds, ns, z, e, h, r⟩) fun h => .inr ⟨T0, L, us, ds, ns, z, e, h, r⟩
end
theorem op_notIn_seqK {X : Cx} {K : PySem.W.Frag} (h : X.K = K) : OpR X (compareOp .NotIn) (rIn K true) := h ▸ op_notIn_seq
section
variable {P : Program} {w : World} {K : PySem.W.Frag} {mg : Str → Option Value} {base : Heap} {fa : Nat → Addr} {fd : Nat → FuncData}
def spStrange (K : PySem.W.Frag) : Sp := fun vs H Q _ => ∃ (p : Addr) (ws : List Str), vs = [.ref p] ∧ SqL K H p (ws.map V.str) ∧ ws.length ≤ 9 ∧ ∀ x H', x ∈ tenNs → x ∉ ws → Same H H' → Q (.str x) H'
theorem ok_strange (T : Txt K mg fa fd) : FnOk P w K mg base CX0 2 (fa 163) (fd 163) ["_law_words_here"] (spStrange K) := by
  refine T.F_strange.ok sc_strange (fun vs H Q E h => ?_) (fun cdv A outer s H vs Q E hr h => ?_)
  · obtain ⟨p, ws, rfl, _⟩ := h
    rfl
  · obtain ⟨p, ws, rfl, hp, hl, q⟩ := h
    refine ⟨_, (pss_one (ps_ret (pe_ix ix_list (pe_lc (own := [("_law_word", 1)]) (g := gName 1) (tt := _) rfl sc_strange.nd (pi_tup (pe_tup (pa_cons pe_str (pa_cons pe_str (pa_cons pe_str (pa_cons pe_str (pa_cons pe_str (pa_cons pe_str (pa_cons pe_str (pa_cons pe_str (pa_cons pe_str (pa_cons pe_str pa_nil)))))))))))) (blkOk_by (own := [("_law_word", 1)]) (N := ["_law_words_here", "_law_word"]) (sc := defScope s_strange) (by decide +kernel)) (fun _ _ _ _ _ => pg_name (i := 1) sc_strange.nd rfl (Or.inl rfl)) (fun _ _ _ _ _ => pts_one (pt_cmpR (op_notIn_seqK (K := K) rfl) (pv 1) (pv 0) (by rfl))) (fun _ _ _ _ _ => (pv 1))) pe_int (fun _ _ => rfl)))), ?_⟩
    refine ⟨small_line (by show 10 ≤ 1000; decide), fun t nt => ⟨t, rfl, ⟨_, SqT.of upd_same⟩, fun D nD => ?_⟩⟩
    have st := same_upd (o := .tup (tenNs.map V.str)) nt
    have e0 : ∀ i : Nat, i ≤ 10 → (((tenNs.take i).filter fun x => decide (x ∉ ws)).map V.str).length ≤ 10 := fun i hi => by
      rw [List.length_map]
      refine Nat.le_trans (List.length_filter_le _ _) ?_
      rw [List.length_take]
      omega
    refine lc_tup (K := K) (a := t) (xs := tenNs.map V.str) (fun i G => Same (upd H t (.tup (tenNs.map V.str))) G ∧ G D = some (.lst (((tenNs.take i).filter fun x => decide (x ∉ ws)).map V.str))) ⟨same_upd nD, upd_same⟩ (fun i G _ hq => SqT.of (hq.1 _ _ upd_same)) (fun i x G hx hq => ?_) (fun G hq => ?_)
    · rw [List.getElem?_map] at hx
      obtain ⟨x, hxz, rfl⟩ := Option.map_eq_some_iff.mp hx
      have il := (List.getElem?_eq_some_iff.mp hxz).1
      have i10 : i + 1 ≤ 10 := il
      refine ⟨rfl, _, rfl, _, rfl, p, _, rfl, .inl (SqL.sm (st.trans hq.1) hp), rfl, flat_strs _, ?_⟩
      rw [inV_strs]
      have step : (tenNs.take (i + 1)).filter (fun x => decide (x ∉ ws)) = (tenNs.take i).filter (fun x => decide (x ∉ ws)) ++ (if x ∈ ws then [] else [x]) := by
        rw [List.take_add_one, hxz, List.filter_append]
        congr 1
        by_cases c : x ∈ ws <;> simp [c]
      by_cases c : x ∈ ws
      · rw [decide_eq_true c]
        refine ⟨_, rfl, iteF ⟨hq.1, ?_⟩⟩
        rw [step, if_pos c, List.append_nil]
        exact hq.2
      · rw [decide_eq_false c]
        refine ⟨_, rfl, iteT ⟨_, rfl, _, hq.2, small1000 (Nat.le_trans (e0 i (by omega)) (by decide : 10 ≤ 1000)), fun b o e => (upd_ne (ne_of_none e nD)).trans (hq.1 _ _ e), ?_⟩⟩
        rw [upd_same, step, if_neg c, List.map_append]
        rfl
    · obtain ⟨sG, hD⟩ := hq
      rw [List.length_map, List.take_length] at hD
      cases e : tenNs.filter (fun x => decide (x ∉ ws)) with
      | nil => exact absurd e (ten_fresh hl)
      | cons x r =>
        have hm : x ∈ tenNs.filter (fun x => decide (x ∉ ws)) := by
          rw [e]
          exact List.mem_cons_self
        obtain ⟨h1, h2⟩ := List.mem_filter.mp hm
        rw [e] at hD
        exact ⟨D, _, _, _, rfl, rfl, SqL.of hD, at_of (j := 0) rfl rfl, q x G h1 (of_decide_eq_true h2) (st.trans sG)⟩
end
section
variable {P : Program} {w : World} {K : PySem.W.Frag} {mg : Str → Option Value} {base : Heap} {fa : Nat → Addr} {fd : Nat → FuncData}
/-- what a call of ascending comes back with -/
def AscQ (H : Hp) (Q : VK) (ns : List Str) : Prop := ∀ (p : Addr) (ms : List Str) (H' : Hp), Same H H' → H p = none → H' p = some (.lst (ms.map V.str)) → ms.Perm ns → sortedS ms = true → Q (.ref p) H'
def spAsL (K : PySem.W.Frag) : Sp := fun vs H Q _ => ∃ (L : Addr) (ns : List Str), vs = [.ref L] ∧ SqL K H L (ns.map V.str) ∧ ns.Nodup ∧ ns.length < 64 ∧ (∀ x ∈ ns, x.length ≤ 1000) ∧ AscQ H Q ns
theorem ok_p_ascendingL (T : Txt K mg fa fd) : FnOk P w K mg base CX0 1 (fa 110) (fd 110) ["names"] (spAsL K) := by
  refine T.F_p_ascending.ok sc_p_ascending (fun vs H Q E h => ?_) (fun cdv A outer s H vs Q E hr h => ?_)
  · obtain ⟨L, ns, rfl, _⟩ := h
    rfl
  · obtain ⟨L, ns, rfl, hL, nd, h64, hx, q⟩ := h
    refine ⟨_, (C8.pss_cut (ps_set (i := 1) sc_p_ascending.nd rfl (.inl rfl) (pe_lst pa_nil))
      (C8.pss_cut (ps_for PassesOwn.never rfl (pi_list (pe_callB cr_sortedS (by rfl) T.m_sorted (by decide +kernel) (pa_cons (pe_lc (own := [("one", 3)]) (g := gName 3) (tt := tYes) rfl sc_p_ascending.nd (pi_list (pv 0)) (blkOk_by (own := [("one", 3)]) (N := ["names", "found", "name", "one"]) (sc := defScope s_p_ascending) (by decide +kernel)) (fun _ _ _ _ _ => pg_name (i := 3) sc_p_ascending.nd rfl (Or.inl rfl)) (fun _ _ _ _ _ => pts_nil) (fun _ _ _ _ _ => (pe_callTy SkE.call_str_str (by rfl) T.m_str (by decide +kernel) (pa_cons (pv 3) pa_nil)))) pa_nil))) (pg_name (i := 2) sc_p_ascending.nd rfl (.inl rfl)) (pss_one (ps_if (pt_cmpR (op_notIn_seqK (K := K) rfl) (pv 2) (pv 1) (by rfl)) (pss_one (ps_expr (pe_bm PySem.F.plainAttrs_list PySem.F.slot_list_append PySem.F.type_list_append mt_append (pv 1) (pa_cons (pv 2) pa_nil)))) pss_nil)))
      (pss_one (ps_ret (pv 1))))), ?_⟩
    refine ⟨fun σ G => ∃ F, H F = none ∧ Same H G ∧ G F = some (.lst []) ∧ σ = [some (.ref L), some (.ref F), none, none], ⟨small_line (by show 0 ≤ 1000; decide), fun F nF => ⟨F, nF, same_upd nF, upd_same, rfl⟩⟩, fun σ G hM => ?_⟩
    obtain ⟨F, nF, sG, hF, rfl⟩ := hM
    refine ⟨fun σ G1 => ∃ ms y2 y3, (∀ b o, b ≠ F → H b = some o → G1 b = some o) ∧ G1 F = some (.lst (ms.map V.str)) ∧ ms.Perm ns ∧ sortedS ms = true ∧ σ = [some (.ref L), some (.ref F), y2, y3], ?_, fun σ G1 hM => ?_⟩
    · refine ⟨_, rfl, L, rfl, ⟨_, SqL.sm sG hL⟩, fun D nD => ?_⟩
      have nDF : D ≠ F := fun e => by rw [e, hF] at nD; cases nD
      refine lc_list (K := K) (a := L) (xs := ns.map V.str) (fun i G3 => Same G G3 ∧ G3 D = some (.lst ((ns.take i).map V.str))) ⟨same_upd nD, upd_same⟩ (fun i G3 _ hp => SqL.sm (sG.trans hp.1) hL) (fun i y G3 hy hp => ?_) (fun G3 hp => ?_)
      · rw [List.getElem?_map] at hy
        obtain ⟨x, hz, rfl⟩ := Option.map_eq_some_iff.mp hy
        have il := (List.getElem?_eq_some_iff.mp hz).1
        refine ⟨rfl, _, rfl, _, rfl, _, hp.2, ?_, fun c o e => (upd_ne (ne_of_none e nD)).trans (hp.1 c o e), ?_⟩
        · rw [List.length_map, List.length_take]
          exact small1000 (by omega)
        · rw [upd_same, List.take_add_one, hz, List.map_append]
          rfl
      · rw [List.length_map, List.take_length] at hp
        refine ⟨D, ns, rfl, SqL.of hp.2, h64, fun ys p perm srt np => ?_⟩
        have sp := same_upd (o := .lst (ys.map V.str)) np
        have ndy : ys.Nodup := perm.nodup_iff.mpr nd
        have hF3 := sp _ _ (hp.1 _ _ hF)
        have pF : p ≠ F := fun e => by rw [e, hp.1 _ _ hF] at np; cases np
        have s13 := (sG.trans hp.1).trans sp
        refine ⟨p, rfl, ⟨_, SqL.of upd_same⟩, for_list (K := K) (a := p) (xs := ys.map V.str) (fun i σ G4 => (∀ b o, b ≠ F → H b = some o → G4 b = some o) ∧ G4 F = some (.lst ((ys.take i).map V.str)) ∧ G4 p = some (.lst (ys.map V.str)) ∧ ∃ y2 y3, σ = [some (.ref L), some (.ref F), y2, y3])
          ⟨fun b o _ e => s13 b o e, hF3, upd_same, _, _, rfl⟩ (fun i σ G4 _ hq => SqL.of hq.2.2.1) (fun i y σ G4 hy hq => ?_) (fun σ G4 hq => ?_)⟩
        · rw [List.getElem?_map] at hy
          obtain ⟨x, hz, rfl⟩ := Option.map_eq_some_iff.mp hy
          have il := (List.getElem?_eq_some_iff.mp hz).1
          obtain ⟨oth, hF4, hp4, y2, y3, rfl⟩ := hq
          have fresh : x ∉ ys.take i := fun z => by
            obtain ⟨j, hj, ej⟩ := List.mem_iff_getElem.mp z
            rw [List.length_take] at hj
            rw [List.getElem_take] at ej
            have e2 := (List.getElem?_eq_some_iff.mp hz).2
            exact List.pairwise_iff_getElem.mp ndy j i (by omega) il (by omega) (ej.trans e2.symm)
          refine ⟨_, rfl, _, rfl, F, _, rfl, .inl (SqL.of hF4), rfl, flat_strs _, ?_⟩
          rw [inV_strs, decide_eq_false fresh]
          refine ⟨_, rfl, iteT ⟨_, rfl, .inl ⟨rfl, _, SqL.of hF4⟩, _, rfl, F, _, _, rfl, rfl, hF4, ?_, ?_⟩⟩
          · rw [List.length_map, List.length_take]
            exact small1000 (by have := perm.length_eq; omega)
          · refine ⟨fun b o nb e => (upd_ne nb).trans (oth b o nb e), ?_, (upd_ne pF).trans hp4, _, _, rfl⟩
            rw [upd_same, List.take_add_one, hz, List.map_append]
            rfl
        · obtain ⟨oth, hF4, hp4, y2, y3, rfl⟩ := hq
          rw [List.length_map, List.take_length] at hF4
          exact ⟨ys, _, _, oth, hF4, perm, srt, rfl⟩
    obtain ⟨ms, y2, y3, oth, hF1, hp, hs, rfl⟩ := hM
    exact ⟨_, rfl, q F ms G1 (fun b o e => oth b o (ne_of_none e nF) e) nF hF1 hp hs⟩
end
section
variable {P : Program} {w : World} {K : PySem.W.Frag} {mg : Str → Option Value} {base : Heap} {fa : Nat → Addr} {fd : Nat → FuncData}
def spAsT (K : PySem.W.Frag) : Sp := fun vs H Q _ => ∃ (L : Addr) (ns : List Str), vs = [.ref L] ∧ SqT K H L (ns.map V.str) ∧ ns.Nodup ∧ ns.length < 64 ∧ (∀ x ∈ ns, x.length ≤ 1000) ∧ AscQ H Q ns
theorem ok_p_ascendingT (T : Txt K mg fa fd) : FnOk P w K mg base CX0 1 (fa 110) (fd 110) ["names"] (spAsT K) := by
  refine T.F_p_ascending.ok sc_p_ascending (fun vs H Q E h => ?_) (fun cdv A outer s H vs Q E hr h => ?_)
  · obtain ⟨L, ns, rfl, _⟩ := h
    rfl
  · obtain ⟨L, ns, rfl, hL, nd, h64, hx, q⟩ := h
    refine ⟨_, (C8.pss_cut (ps_set (i := 1) sc_p_ascending.nd rfl (.inl rfl) (pe_lst pa_nil))
      (C8.pss_cut (ps_for PassesOwn.never rfl (pi_list (pe_callB cr_sortedS (by rfl) T.m_sorted (by decide +kernel) (pa_cons (pe_lc (own := [("one", 3)]) (g := gName 3) (tt := tYes) rfl sc_p_ascending.nd (pi_tup (pv 0)) (blkOk_by (own := [("one", 3)]) (N := ["names", "found", "name", "one"]) (sc := defScope s_p_ascending) (by decide +kernel)) (fun _ _ _ _ _ => pg_name (i := 3) sc_p_ascending.nd rfl (Or.inl rfl)) (fun _ _ _ _ _ => pts_nil) (fun _ _ _ _ _ => (pe_callTy SkE.call_str_str (by rfl) T.m_str (by decide +kernel) (pa_cons (pv 3) pa_nil)))) pa_nil))) (pg_name (i := 2) sc_p_ascending.nd rfl (.inl rfl)) (pss_one (ps_if (pt_cmpR (op_notIn_seqK (K := K) rfl) (pv 2) (pv 1) (by rfl)) (pss_one (ps_expr (pe_bm PySem.F.plainAttrs_list PySem.F.slot_list_append PySem.F.type_list_append mt_append (pv 1) (pa_cons (pv 2) pa_nil)))) pss_nil)))
      (pss_one (ps_ret (pv 1))))), ?_⟩
    refine ⟨fun σ G => ∃ F, H F = none ∧ Same H G ∧ G F = some (.lst []) ∧ σ = [some (.ref L), some (.ref F), none, none], ⟨small_line (by show 0 ≤ 1000; decide), fun F nF => ⟨F, nF, same_upd nF, upd_same, rfl⟩⟩, fun σ G hM => ?_⟩
    obtain ⟨F, nF, sG, hF, rfl⟩ := hM
    refine ⟨fun σ G1 => ∃ ms y2 y3, (∀ b o, b ≠ F → H b = some o → G1 b = some o) ∧ G1 F = some (.lst (ms.map V.str)) ∧ ms.Perm ns ∧ sortedS ms = true ∧ σ = [some (.ref L), some (.ref F), y2, y3], ?_, fun σ G1 hM => ?_⟩
    · refine ⟨_, rfl, L, rfl, ⟨_, SqT_sm sG hL⟩, fun D nD => ?_⟩
      have nDF : D ≠ F := fun e => by rw [e, hF] at nD; cases nD
      refine lc_tup (K := K) (a := L) (xs := ns.map V.str) (fun i G3 => Same G G3 ∧ G3 D = some (.lst ((ns.take i).map V.str))) ⟨same_upd nD, upd_same⟩ (fun i G3 _ hp => SqT_sm (sG.trans hp.1) hL) (fun i y G3 hy hp => ?_) (fun G3 hp => ?_)
      · rw [List.getElem?_map] at hy
        obtain ⟨x, hz, rfl⟩ := Option.map_eq_some_iff.mp hy
        have il := (List.getElem?_eq_some_iff.mp hz).1
        refine ⟨rfl, _, rfl, _, rfl, _, hp.2, ?_, fun c o e => (upd_ne (ne_of_none e nD)).trans (hp.1 c o e), ?_⟩
        · rw [List.length_map, List.length_take]
          exact small1000 (by omega)
        · rw [upd_same, List.take_add_one, hz, List.map_append]
          rfl
      · rw [List.length_map, List.take_length] at hp
        refine ⟨D, ns, rfl, SqL.of hp.2, h64, fun ys p perm srt np => ?_⟩
        have sp := same_upd (o := .lst (ys.map V.str)) np
        have ndy : ys.Nodup := perm.nodup_iff.mpr nd
        have hF3 := sp _ _ (hp.1 _ _ hF)
        have pF : p ≠ F := fun e => by rw [e, hp.1 _ _ hF] at np; cases np
        have s13 := (sG.trans hp.1).trans sp
        refine ⟨p, rfl, ⟨_, SqL.of upd_same⟩, for_list (K := K) (a := p) (xs := ys.map V.str) (fun i σ G4 => (∀ b o, b ≠ F → H b = some o → G4 b = some o) ∧ G4 F = some (.lst ((ys.take i).map V.str)) ∧ G4 p = some (.lst (ys.map V.str)) ∧ ∃ y2 y3, σ = [some (.ref L), some (.ref F), y2, y3])
          ⟨fun b o _ e => s13 b o e, hF3, upd_same, _, _, rfl⟩ (fun i σ G4 _ hq => SqL.of hq.2.2.1) (fun i y σ G4 hy hq => ?_) (fun σ G4 hq => ?_)⟩
        · rw [List.getElem?_map] at hy
          obtain ⟨x, hz, rfl⟩ := Option.map_eq_some_iff.mp hy
          have il := (List.getElem?_eq_some_iff.mp hz).1
          obtain ⟨oth, hF4, hp4, y2, y3, rfl⟩ := hq
          have fresh : x ∉ ys.take i := fun z => by
            obtain ⟨j, hj, ej⟩ := List.mem_iff_getElem.mp z
            rw [List.length_take] at hj
            rw [List.getElem_take] at ej
            have e2 := (List.getElem?_eq_some_iff.mp hz).2
            exact List.pairwise_iff_getElem.mp ndy j i (by omega) il (by omega) (ej.trans e2.symm)
          refine ⟨_, rfl, _, rfl, F, _, rfl, .inl (SqL.of hF4), rfl, flat_strs _, ?_⟩
          rw [inV_strs, decide_eq_false fresh]
          refine ⟨_, rfl, iteT ⟨_, rfl, .inl ⟨rfl, _, SqL.of hF4⟩, _, rfl, F, _, _, rfl, rfl, hF4, ?_, ?_⟩⟩
          · rw [List.length_map, List.length_take]
            exact small1000 (by have := perm.length_eq; omega)
          · refine ⟨fun b o nb e => (upd_ne nb).trans (oth b o nb e), ?_, (upd_ne pF).trans hp4, _, _, rfl⟩
            rw [upd_same, List.take_add_one, hz, List.map_append]
            rfl
        · obtain ⟨oth, hF4, hp4, y2, y3, rfl⟩ := hq
          rw [List.length_map, List.take_length] at hF4
          exact ⟨ys, _, _, oth, hF4, perm, srt, rfl⟩
    obtain ⟨ms, y2, y3, oth, hF1, hp, hs, rfl⟩ := hM
    exact ⟨_, rfl, q F ms G1 (fun b o e => oth b o (ne_of_none e nF) e) nF hF1 hp hs⟩
def spAsD (K : PySem.W.Frag) : Sp := fun vs H Q _ => ∃ (L : Addr) (ns : List Str) (kvs : List (Key × V)), vs = [.ref L] ∧ (H L = some (.dK kvs) ∧ kvs.map (·.1) = ns.map (fun x => (.inr x : Key))) ∧ ns.Nodup ∧ ns.length < 64 ∧ (∀ x ∈ ns, x.length ≤ 1000) ∧ AscQ H Q ns
theorem ok_p_ascendingD (T : Txt K mg fa fd) : FnOk P w K mg base CX0 1 (fa 110) (fd 110) ["names"] (spAsD K) := by
  refine T.F_p_ascending.ok sc_p_ascending (fun vs H Q E h => ?_) (fun cdv A outer s H vs Q E hr h => ?_)
  · obtain ⟨L, ns, kvs, rfl, _⟩ := h
    rfl
  · obtain ⟨L, ns, kvs, rfl, ⟨hk, hkeys⟩, nd, h64, hx, q⟩ := h
    refine ⟨_, (C8.pss_cut (ps_set (i := 1) sc_p_ascending.nd rfl (.inl rfl) (pe_lst pa_nil))
      (C8.pss_cut (ps_for PassesOwn.never rfl (pi_list (pe_callB cr_sortedS (by rfl) T.m_sorted (by decide +kernel) (pa_cons (pe_lock (pe_lc (own := [("one", 3)]) (g := gName 3) (tt := tYes) rfl sc_p_ascending.nd (pi_keys (pv 0)) (blkOk_by (own := [("one", 3)]) (N := ["names", "found", "name", "one"]) (sc := defScope s_p_ascending) (by decide +kernel)) (fun _ _ _ _ _ => pg_name (i := 3) sc_p_ascending.nd rfl (Or.inl rfl)) (fun _ _ _ _ _ => pts_nil) (fun _ _ _ _ _ => (pe_callTy SkE.call_str_str (by rfl) T.m_str (by decide +kernel) (pa_cons (pv 3) pa_nil))))) pa_nil))) (pg_name (i := 2) sc_p_ascending.nd rfl (.inl rfl)) (pss_one (ps_if (pt_cmpR (op_notIn_seqK (K := K) rfl) (pv 2) (pv 1) (by rfl)) (pss_one (ps_expr (pe_bm PySem.F.plainAttrs_list PySem.F.slot_list_append PySem.F.type_list_append mt_append (pv 1) (pa_cons (pv 2) pa_nil)))) pss_nil)))
      (pss_one (ps_ret (pv 1))))), ?_⟩
    refine ⟨fun σ G => ∃ F, H F = none ∧ Same H G ∧ G F = some (.lst []) ∧ σ = [some (.ref L), some (.ref F), none, none], ⟨small_line (by show 0 ≤ 1000; decide), fun F nF => ⟨F, nF, same_upd nF, upd_same, rfl⟩⟩, fun σ G hM => ?_⟩
    obtain ⟨F, nF, sG, hF, rfl⟩ := hM
    refine ⟨fun σ G1 => ∃ ms y2 y3, (∀ b o, b ≠ F → H b = some o → G1 b = some o) ∧ G1 F = some (.lst (ms.map V.str)) ∧ ms.Perm ns ∧ sortedS ms = true ∧ σ = [some (.ref L), some (.ref F), y2, y3], ?_, fun σ G1 hM => ?_⟩
    · have hkG := sG _ _ hk
      refine ⟨L, _, hkG, trivial, fun od => ?_⟩
      refine ⟨_, rfl, L, od, rfl, .inl ⟨kvs, upd_same, fun D nD => ?_⟩⟩
      have nDL : D ≠ L := fun e => by rw [e, upd_same] at nD; cases nD
      have nDG : G D = none := by
        rw [upd_ne nDL] at nD
        exact nD
      have nDF : D ≠ F := fun e => by rw [e, hF] at nDG; cases nDG
      have kl : kvs.length = ns.length := by
        have := congrArg List.length hkeys
        rwa [List.length_map, List.length_map] at this
      refine lc_keys (fun i G3 => G3 L = some (.frz od (.dK kvs)) ∧ Ex L G G3 ∧ G3 D = some (.lst ((ns.take i).map V.str))) ⟨?_, ?_, upd_same⟩ (fun i G3 h => h.1) (fun i k vv G3 hkv hp => ?_) (fun G3 hp => ?_)
      · rw [upd_ne nDL.symm]
        exact upd_same
      · exact fun c o e n => by
          rw [upd_ne (ne_of_none e nDG), upd_ne n]
          exact e
      · obtain ⟨hfL, ex, hD⟩ := hp
        have il := (List.getElem?_eq_some_iff.mp hkv).1
        obtain ⟨x, hz, rfl⟩ : ∃ x, ns[i]? = some x ∧ k = .inr x := by
          have e1 : (kvs.map (·.1))[i]? = some k := by rw [List.getElem?_map, hkv]; rfl
          rw [hkeys, List.getElem?_map] at e1
          obtain ⟨x, hx1, hx2⟩ := Option.map_eq_some_iff.mp e1
          exact ⟨x, hx1, hx2.symm⟩
        refine ⟨rfl, _, rfl, _, rfl, _, hD, ?_, ?_, ex.upd nDG, ?_⟩
        · rw [List.length_map, List.length_take]
          exact small1000 (by omega)
        · rw [upd_ne nDL.symm]
          exact hfL
        · rw [upd_same, List.take_add_one, hz, List.map_append]
          rfl
      · obtain ⟨hfL, ex, hD⟩ := hp
        rw [kl, List.take_length] at hD
        refine ⟨hfL, ?_⟩
        have sb : Same G (upd G3 L (.dK kvs)) := ex.back hkG
        have hD2 : upd G3 L (.dK kvs) D = some (.lst (ns.map V.str)) := by
          rw [upd_ne nDL]
          exact hD
        generalize upd G3 L (.dK kvs) = G3 at sb hD2
        have hp : Same G G3 ∧ G3 D = some (.lst (ns.map V.str)) := ⟨sb, hD2⟩
        refine ⟨D, ns, rfl, SqL.of hp.2, h64, fun ys p perm srt np => ?_⟩
        have sp := same_upd (o := .lst (ys.map V.str)) np
        have ndy : ys.Nodup := perm.nodup_iff.mpr nd
        have hF3 := sp _ _ (hp.1 _ _ hF)
        have pF : p ≠ F := fun e => by rw [e, hp.1 _ _ hF] at np; cases np
        have s13 := (sG.trans hp.1).trans sp
        refine ⟨p, rfl, ⟨_, SqL.of upd_same⟩, for_list (K := K) (a := p) (xs := ys.map V.str) (fun i σ G4 => (∀ b o, b ≠ F → H b = some o → G4 b = some o) ∧ G4 F = some (.lst ((ys.take i).map V.str)) ∧ G4 p = some (.lst (ys.map V.str)) ∧ ∃ y2 y3, σ = [some (.ref L), some (.ref F), y2, y3])
          ⟨fun b o _ e => s13 b o e, hF3, upd_same, _, _, rfl⟩ (fun i σ G4 _ hq => SqL.of hq.2.2.1) (fun i y σ G4 hy hq => ?_) (fun σ G4 hq => ?_)⟩
        · rw [List.getElem?_map] at hy
          obtain ⟨x, hz, rfl⟩ := Option.map_eq_some_iff.mp hy
          have il := (List.getElem?_eq_some_iff.mp hz).1
          obtain ⟨oth, hF4, hp4, y2, y3, rfl⟩ := hq
          have fresh : x ∉ ys.take i := fun z => by
            obtain ⟨j, hj, ej⟩ := List.mem_iff_getElem.mp z
            rw [List.length_take] at hj
            rw [List.getElem_take] at ej
            have e2 := (List.getElem?_eq_some_iff.mp hz).2
            exact List.pairwise_iff_getElem.mp ndy j i (by omega) il (by omega) (ej.trans e2.symm)
          refine ⟨_, rfl, _, rfl, F, _, rfl, .inl (SqL.of hF4), rfl, flat_strs _, ?_⟩
          rw [inV_strs, decide_eq_false fresh]
          refine ⟨_, rfl, iteT ⟨_, rfl, .inl ⟨rfl, _, SqL.of hF4⟩, _, rfl, F, _, _, rfl, rfl, hF4, ?_, ?_⟩⟩
          · rw [List.length_map, List.length_take]
            exact small1000 (by have := perm.length_eq; omega)
          · refine ⟨fun b o nb e => (upd_ne nb).trans (oth b o nb e), ?_, (upd_ne pF).trans hp4, _, _, rfl⟩
            rw [upd_same, List.take_add_one, hz, List.map_append]
            rfl
        · obtain ⟨oth, hF4, hp4, y2, y3, rfl⟩ := hq
          rw [List.length_map, List.take_length] at hF4
          exact ⟨ys, _, _, oth, hF4, perm, srt, rfl⟩
    obtain ⟨ms, y2, y3, oth, hF1, hp, hs, rfl⟩ := hM
    exact ⟨_, rfl, q F ms G1 (fun b o e => oth b o (ne_of_none e nF) e) nF hF1 hp hs⟩
/-- a list, a tuple, the keys of a dict -/
def SqN (K : PySem.W.Frag) (H : Hp) (L : Addr) (ns : List Str) : Prop := SqB K H L (ns.map V.str) ∨ ∃ kvs : List (Key × V), H L = some (.dK kvs) ∧ kvs.map (·.1) = ns.map (fun x => (.inr x : Key))
def spAsB (K : PySem.W.Frag) : Sp := fun vs H Q _ => ∃ (L : Addr) (ns : List Str), vs = [.ref L] ∧ SqN K H L ns ∧ ns.Nodup ∧ ns.length < 64 ∧ (∀ x ∈ ns, x.length ≤ 1000) ∧ AscQ H Q ns
theorem ok_p_ascendingB (T : Txt K mg fa fd) : FnOk P w K mg base CX0 1 (fa 110) (fd 110) ["names"] (spAsB K) :=
  (FnOk.or (FnOk.or (ok_p_ascendingL T) (ok_p_ascendingT T)) (ok_p_ascendingD T)).imp fun vs H Q E ⟨L, ns, e, h, r⟩ => by
    rcases h with (h | h) | ⟨kvs, h⟩
    · exact .inl (.inl ⟨L, ns, e, h, r⟩)
    · exact .inl (.inr ⟨L, ns, e, h, r⟩)
    · exact .inr ⟨L, ns, kvs, e, h, r⟩
end
section
variable {P : Program} {w : World} {K : PySem.W.Frag} {mg : Str → Option Value} {base : Heap} {fa : Nat → Addr} {fd : Nat → FuncData}
/-- what holds of a call Lot(names, ties) that is right -/
structure LotA (K : PySem.W.Frag) (H : Hp) (L T : Addr) (ns : List Str) (us : List V) : Prop where
  ln : SqB K H L (ns.map V.str)
  lt : SqB K H T us
  ds : ∃ z ds, DtAll z H us ds ∧ firstBadT ns 0 ds = none
  us : us.length ≤ 900
  fb : firstBad 0 [] ns = none
  nd : ns.Nodup
  sz : ns.length < 64
  lx : ∀ x ∈ ns, x.length ≤ 1000
theorem LotA.same {K : PySem.W.Frag} {H H' : Hp} {L T : Addr} {ns : List Str} {us : List V} (h : LotA K H L T ns us) (s : Same H H') : LotA K H' L T ns us := by
  obtain ⟨z, ds, a, b⟩ := h.ds
  exact ⟨h.ln.sm s, h.lt.sm s, ⟨z, ds, a.same s, b⟩, h.us, h.fb, h.nd, h.sz, h.lx⟩
/-- a lot in the heap -/
structure LotH (K : PySem.W.Frag) (C : Addr) (H : Hp) (x : Addr) (ns : List Str) (us : List V) : Prop where
  at_ : ∃ dx p1 p2 ms, H x = some (.ins C dx [("unknowns", .ref p1), ("bonds", .ref p2)]) ∧ SqT K H p1 (ms.map V.str) ∧ ms.Perm ns ∧ sortedS ms = true ∧ SqT K H p2 us
def spLotI (K : PySem.W.Frag) (C : Addr) : Sp := fun vs H Q _ => ∃ (self L T : Addr) (ns : List Str) (us : List V) (dx : Addr), vs = [.ref self, .ref L, .ref T] ∧ H self = some (.ins C dx []) ∧ LotA K H L T ns us ∧
  ∀ H', (∀ b o, b ≠ self → H b = some o → H' b = some o) → LotH K C H' self ns us → Q .non H'
theorem ok_p_LotInit (T : Txt K mg fa fd) : FnOk P w K mg base CX0 7 (fa 1500) (fd 1500) ["self", "names", "ties"] (spLotI K (fa 139)) := by
  refine T.F_LotInit.ok sc_p_LotInit (fun vs H Q E h => ?_) (fun cdv A outer s H vs Q E hr h => ?_)
  · obtain ⟨self, L, T0, ns, us, dx, rfl, _⟩ := h
    rfl
  · obtain ⟨self, L, T0, ns, us, dx, rfl, hself, hA, q⟩ := h
    refine ⟨_, PSs.nox (C8.pss_cut (ps_set (i := 3) sc_p_LotInit.nd rfl (.inl rfl) (pe_call (ok_p_first_wrong_nameB T) (hr.mono (by decide)) (by rfl) T.g_p_first_wrong_name T.F_p_first_wrong_name.kp T.b_p_first_wrong_name .nil pass0 (pa_cons (pv 1) pa_nil)))
      (C8.pss_cut (ps_if (pt_cmpR op_notN (pv 3) pe_non (nomark _)) (pss_one ps_never) pss_nil)
      (C8.pss_cut (ps_set (i := 3) sc_p_LotInit.nd rfl (.inl rfl) (pe_call (ok_p_first_wrong_tieB T) (hr.mono (by decide)) (by rfl) T.g_p_first_wrong_tie T.F_p_first_wrong_tie.kp T.b_p_first_wrong_tie .nil pass0 (pa_cons (pv 2) (pa_cons (pv 1) pa_nil))))
      (C8.pss_cut (ps_if (pt_cmpR op_notN (pv 3) pe_non (nomark _)) (pss_one ps_never) pss_nil)
      (C8.pss_cut (ps_fld (pv 0) (pe_callTy call_tuple_of (by rfl) T.m_tuple (by decide +kernel) (pa_cons (pe_call (ok_p_ascendingB T) (hr.mono (by decide)) (by rfl) T.g_p_ascending T.F_p_ascending.kp T.b_p_ascending .nil pass0 (pa_cons (pv 1) pa_nil)) pa_nil)) (by rfl))
      (pss_one (ps_fld (pv 0) (pe_callTy call_tuple_of (by rfl) T.m_tuple (by decide +kernel) (pa_cons (pv 2) pa_nil)) (by rfl)))))))), ?_⟩
    refine ⟨fun σ H1 => Same H H1 ∧ σ = [some (.ref self), some (.ref L), some (.ref T0), some .non], ⟨_, rfl, L, ns, rfl, hA.ln, by have := hA.sz; omega, hA.lx, fun H' s' => ⟨s', by rw [hA.fb]; rfl⟩⟩, fun σ H1 hM => ?_⟩
    obtain ⟨s1, rfl⟩ := hM
    refine ⟨fun σ H2 => Same H H2 ∧ σ = [some (.ref self), some (.ref L), some (.ref T0), some .non], ⟨_, rfl, rfl, _, rfl, iteF ⟨s1, rfl⟩⟩, fun σ H2 hM => ?_⟩
    obtain ⟨s2, rfl⟩ := hM
    have hA2 := hA.same s2
    obtain ⟨z, ds, hds, hbt⟩ := hA2.ds
    refine ⟨fun σ H3 => Same H H3 ∧ σ = [some (.ref self), some (.ref L), some (.ref T0), some .non], ⟨_, rfl, _, rfl, T0, L, us, ds, ns, z, rfl, hA2.lt, hds, hA2.us, hA2.ln, fun H' s' => ⟨s2.trans s', by rw [hbt]; rfl⟩⟩, fun σ H3 hM => ?_⟩
    obtain ⟨s3, rfl⟩ := hM
    refine ⟨fun σ H2 => Same H H2 ∧ σ = [some (.ref self), some (.ref L), some (.ref T0), some .non], ⟨_, rfl, rfl, _, rfl, iteF ⟨s3, rfl⟩⟩, fun σ H4 hM => ?_⟩
    obtain ⟨s4, rfl⟩ := hM
    have hA4 := hA.same s4
    refine ⟨fun σ G => ∃ p1 ms, (∀ b o, b ≠ self → H b = some o → G b = some o) ∧ G self = some (.ins (fa 139) dx [("unknowns", .ref p1)]) ∧ G p1 = some (.tup (ms.map V.str)) ∧ p1 ≠ self ∧ ms.Perm ns ∧ sortedS ms = true ∧ σ = [some (.ref self), some (.ref L), some (.ref T0), some .non], ?_, fun σ G hM => ?_⟩
    · refine ⟨_, rfl, L, ns, rfl, .inl hA4.ln, hA4.nd, hA4.sz, hA4.lx, fun p ms H5 s5 np hp perm srt => ?_⟩
      refine ⟨p, _, rfl, .inl ⟨SqL.of hp, fun p1 np1 => ?_⟩⟩
      have sp := same_upd (o := .tup (ms.map V.str)) np1
      have hs5 := (s4.trans s5) _ _ hself
      have hs6 := sp _ _ hs5
      have np1s : p1 ≠ self := fun e => by rw [e, hs5] at np1; cases np1
      refine ⟨_, rfl, self, _, dx, [], rfl, hs6, T.cl_Lot, T.na_Lot_unknowns, by show 0 < 1000; decide, p1, ms, fun b o nb e => (upd_ne nb).trans (((s4.trans s5).trans sp) _ _ e), upd_same, ?_, np1s, perm, srt, rfl⟩
      rw [upd_ne np1s, upd_same]
    obtain ⟨p1, ms, oth, hs, hp1, np1s, perm, srt, rfl⟩ := hM
    have ltG : SqB K G T0 us := by
      rcases hA.lt with h | h
      · refine .inl ?_
        rcases h with (e | ⟨o, e⟩) | e
        · exact .inl (.inl (oth _ _ (fun z => by rw [z, hself] at e; cases e) e))
        · exact .inl (.inr ⟨o, oth _ _ (fun z => by rw [z, hself] at e; cases e) e⟩)
        · exact .inr e
      · refine .inr ?_
        rcases h with (e | ⟨o, e⟩) | e
        · exact .inl (.inl (oth _ _ (fun z => by rw [z, hself] at e; cases e) e))
        · exact .inl (.inr ⟨o, oth _ _ (fun z => by rw [z, hself] at e; cases e) e⟩)
        · exact .inr e
    have fin : ∀ (p2 : Addr) (G2 : Hp), (∀ b o, G b = some o → G2 b = some o) → (∀ o, SqT K (upd G2 self o) p2 us) → Q .non (upd G2 self (.ins (fa 139) dx [("unknowns", .ref p1), ("bonds", .ref p2)])) := fun p2 G2 sg h2 => by
      refine q _ (fun b o nb e => (upd_ne nb).trans (sg _ _ (oth b o nb e))) ⟨dx, p1, p2, ms, upd_same, SqT.of ((upd_ne np1s).trans (sg _ _ hp1)), perm, srt, h2 _⟩
    refine ⟨_, rfl, T0, us, rfl, ?_⟩
    rcases ltG with h | h
    · refine .inl ⟨h, fun p2 np2 => ?_⟩
      have sp := same_upd (o := .tup us) np2
      have n2 : p2 ≠ self := fun e => by rw [e, hs] at np2; cases np2
      exact ⟨_, rfl, self, _, dx, _, rfl, sp _ _ hs, T.cl_Lot, T.na_Lot_bonds, by show 1 < 1000; decide, fin p2 _ sp fun o => SqT.of ((upd_ne n2).trans upd_same)⟩
    · refine .inr ⟨h, ?_⟩
      refine ⟨_, rfl, self, _, dx, _, rfl, hs, T.cl_Lot, T.na_Lot_bonds, by show 1 < 1000; decide, fin T0 _ (fun _ _ e => e) fun o => ?_⟩
      rcases h with (e | ⟨o, e⟩) | e
      · exact .inl (.inl ((upd_ne (fun z => by rw [z, hs] at e; cases e)).trans e))
      · exact .inl (.inr ⟨_, (upd_ne (fun z => by rw [z, hs] at e; cases e)).trans e⟩)
      · exact .inr e
end
theorem sqT_upd {K : PySem.W.Frag} {H : Hp} {a p : Addr} {o : HO} {xs : List V} (h : SqT K H a xs) (np : H p = none) : SqT K (upd H p o) a xs := SqT_sm (same_upd np) h
theorem LotH.same {K : PySem.W.Frag} {C x : Addr} {H H' : Hp} {ns : List Str} {us : List V} (h : LotH K C H x ns us) (s : Same H H') : LotH K C H' x ns us := by
  obtain ⟨dx, p1, p2, ms, h1, h2, h3, h4, h5⟩ := h.at_
  exact ⟨dx, p1, p2, ms, s _ _ h1, SqT_sm s h2, h3, h4, SqT_sm s h5⟩
theorem strlen_cat (a b : Str) : (a ++ b).length = a.length + b.length := by
  have h : (SX.S a.cps.toList ++ SX.S b.cps.toList).length = (SX.S a.cps.toList).length + (SX.S b.cps.toList).length := by
    rw [SX.S_cat, SX.S_len, SX.S_len, SX.S_len, List.length_append]
  rwa [S_of, S_of] at h
def numS (n : Nat) : Str := toString (n : Int)
section
variable {P : Program} {w : World} {K : PySem.W.Frag} {mg : Str → Option Value} {base : Heap} {fa : Nat → Addr} {fd : Nat → FuncData}
def spLNames (K : PySem.W.Frag) (C : Addr) : Sp := fun vs H Q _ => ∃ (x : Addr) (ns : List Str) (us : List V), vs = [.ref x] ∧ LotH K C H x ns us ∧ AscQ H Q ns
theorem ok_p_LotNames (T : Txt K mg fa fd) : FnOk P w K mg base CX0 1 (fa 1510) (fd 1510) ["self"] (spLNames K (fa 139)) := by
  refine T.F_LotNames.ok sc_p_LotNames (fun vs H Q E h => ?_) (fun cdv A outer s H vs Q E hr h => ?_)
  · obtain ⟨x, ns, us, rfl, _⟩ := h
    rfl
  · obtain ⟨x, ns, us, rfl, hL, q⟩ := h
    obtain ⟨dx, p1, p2, ms, h1, h2, h3, h4, h5⟩ := hL.at_
    refine ⟨_, (pss_one (ps_ret (pe_callTy call_list_of (by rfl) T.m_list (by decide +kernel) (pa_cons (pe_fld (pv 0) (by rfl)) pa_nil)))), ?_⟩
    exact ⟨_, rfl, _, _, dx, _, _, rfl, h1, T.cl_Lot, T.na_Lot_unknowns, rfl, p1, _, rfl, .inr h2, fun l nl => q l ms _ (same_upd nl) nl upd_same h3 h4⟩
def spLTies (K : PySem.W.Frag) (C : Addr) : Sp := fun vs H Q _ => ∃ (x : Addr) (ns : List Str) (us : List V), vs = [.ref x] ∧ LotH K C H x ns us ∧ ∀ p, H p = none → Q (.ref p) (upd H p (.lst us))
theorem ok_p_LotTies (T : Txt K mg fa fd) : FnOk P w K mg base CX0 1 (fa 1511) (fd 1511) ["self"] (spLTies K (fa 139)) := by
  refine T.F_LotTies.ok sc_p_LotTies (fun vs H Q E h => ?_) (fun cdv A outer s H vs Q E hr h => ?_)
  · obtain ⟨x, ns, us, rfl, _⟩ := h
    rfl
  · obtain ⟨x, ns, us, rfl, hL, q⟩ := h
    obtain ⟨dx, p1, p2, ms, h1, h2, h3, h4, h5⟩ := hL.at_
    refine ⟨_, (pss_one (ps_ret (pe_callTy call_list_of (by rfl) T.m_list (by decide +kernel) (pa_cons (pe_fld (pv 0) (by rfl)) pa_nil)))), ?_⟩
    exact ⟨_, rfl, _, _, dx, _, _, rfl, h1, T.cl_Lot, T.na_Lot_bonds, rfl, p2, _, rfl, .inr h5, fun l nl => q l nl⟩
end

theorem iteT' {c : Bool} {A B : Prop} (h : c = true) (a : A) : ite (c = true) A B := by rw [h]; exact a
theorem names_vs (ws : List Nm) : ws.map vS = (ws.map SX.S).map V.str := by
  rw [List.map_map]
  rfl
theorem bd_small {n : Nat} (h : n ≤ 10) : Bd (n : Int) := log2_mono (b := 10) (by rw [Int.natAbs_natCast]; exact h) (by decide +kernel)
theorem one_line : 1 ≤ sizeLine := small_line (by decide : 1 ≤ 1000)
theorem paired_ofR {α β : Type} {R : α → β → Prop} : ∀ {xs : List α} {ys : List β} {i : Nat} {y : β}, Paired R xs ys → ys[i]? = some y → ∃ x, xs[i]? = some x ∧ R x y
  | _, _, 0, _, .cons (a := a) h _, e => by
    cases e
    exact ⟨a, rfl, h⟩
  | _, _, i + 1, _, .cons _ t, e => paired_ofR (i := i) t e

theorem tie_inv9 {z : Addr} {H : Hp} {v : V} {t : Tie} (h : Dt z H v (tieP t.1 t.2)) : ∃ P0 pt pb xs, v = .ref P0 ∧ H P0 = some (.tup [.ref pt, .ref pb]) ∧ H pt = some (.tup xs) ∧ DtAll z H xs (t.1.map tmP) ∧ H pb = some (trF t.2) := by
  cases h with
  | tup g hs =>
    cases hs with
    | cons h1 hs =>
      cases hs with
      | cons h3 hs =>
        cases hs
        obtain ⟨pb, rfl, hpb⟩ := dt_fr h3
        cases h1 with
        | tup g1 h1 => exact ⟨_, _, pb, _, rfl, g, g1, h1, hpb⟩
section
variable {P : Program} {w : World} {K : PySem.W.Frag} {mg : Str → Option Value} {base : Heap} {fa : Nat → Addr} {fd : Nat → FuncData}
def ltF (f g : FR) : Bool := decide (f.1 * g.2 < g.1 * f.2)
def spUnder (K : PySem.W.Frag) : Sp := fun vs H Q _ => ∃ (p q : Addr) (f g : FR), vs = [.ref p, .ref q] ∧ FrK K H p f ∧ FrK K H q g ∧ Bn 2048 f ∧ Bn 2048 g ∧ Q (.bl (ltF f g)) H
theorem ok_under (T : Txt K mg fa fd) : FnOk P w K mg base CX0 1 (fa 160) (fd 160) ["_law_one", "_law_two"] (spUnder K) := by
  refine T.F_under.ok sc_under (fun vs H Q E h => ?_) (fun cdv A outer s H vs Q E hr h => ?_)
  · obtain ⟨p, q, f, g, rfl, _⟩ := h
    rfl
  · obtain ⟨p, r, f, g, rfl, hp, hr', sf, sg, q⟩ := h
    exact ⟨_, (pss_one (ps_ret (pe_cmpR op_lt (pe_op op_mulW (pe_ix ix_tup (pv 0) pe_int (fun _ _ => rfl)) (pe_ix ix_tup (pv 1) pe_int (fun _ _ => rfl))) (pe_op op_mulW (pe_ix ix_tup (pv 1) pe_int (fun _ _ => rfl)) (pe_ix ix_tup (pv 0) pe_int (fun _ _ => rfl))) (nomark _)))), _, rfl, p, _, _, _, rfl, rfl, hp, t0, _, rfl, r, _, _, _, rfl, rfl, hr', t1, _, _, rfl, rfl, wide (f := f) (g := g) (Nat.le_refl _) sf.1 sg.2,
      _, rfl, r, _, _, _, rfl, rfl, hr', t0, _, rfl, p, _, _, _, rfl, rfl, hp, t1, _, _, rfl, rfl, wide (f := f) (g := g) (Nat.le_refl _) sg.1 sf.2, _, _, rfl, rfl, q⟩
theorem ok_p_is_less (T : Txt K mg fa fd) : FnOk P w K mg base CX0 1 (fa 27) (fd 27) ["one", "other"] (spUnder K) := by
  refine T.F_p_is_less.ok sc_p_is_less (fun vs H Q E h => ?_) (fun cdv A outer s H vs Q E hr h => ?_)
  · obtain ⟨p, q, f, g, rfl, _⟩ := h
    rfl
  · obtain ⟨p, r, f, g, rfl, hp, hr', sf, sg, q⟩ := h
    exact ⟨_, (pss_one (ps_ret (pe_cmpR op_lt (pe_op op_mulW (pe_ix ix_tup (pv 0) pe_int (fun _ _ => rfl)) (pe_ix ix_tup (pv 1) pe_int (fun _ _ => rfl))) (pe_op op_mulW (pe_ix ix_tup (pv 1) pe_int (fun _ _ => rfl)) (pe_ix ix_tup (pv 0) pe_int (fun _ _ => rfl))) (nomark _)))), _, rfl, p, _, _, _, rfl, rfl, hp, t0, _, rfl, r, _, _, _, rfl, rfl, hr', t1, _, _, rfl, rfl, wide (f := f) (g := g) (Nat.le_refl _) sf.1 sg.2,
      _, rfl, r, _, _, _, rfl, rfl, hr', t0, _, rfl, p, _, _, _, rfl, rfl, hp, t1, _, _, rfl, rfl, wide (f := f) (g := g) (Nat.le_refl _) sg.1 sf.2, _, _, rfl, rfl, q⟩
end
section
variable {P : Program} {w : World} {K : PySem.W.Frag} {mg : Str → Option Value} {base : Heap} {fa : Nat → Addr} {fd : Nat → FuncData}
/-- a tie and a dict of values for its names -/
structure KpA (H : Hp) (tv : V) (d z : Addr) (t : Tie) (val : List Nat → FR) : Prop where
  tv : Dt z H tv (tieP t.1 t.2)
  ln : t.1.length ≤ 2
  rt : ∀ u ∈ t.1, Nf u.2 ∧ Bn 3 u.2
  bb : Bn 40 t.2
  vd : ValD H d val (t.1.map (·.1))
theorem KpA.same {H H' : Hp} {tv : V} {d z : Addr} {t : Tie} {val : List Nat → FR} (h : KpA H tv d z t val) (s : Same H H') : KpA H' tv d z t val := ⟨h.tv.same s, h.ln, h.rt, h.bb, h.vd.same s⟩
def kp (val : List Nat → FR) (t : Tie) : Bool := !ltF t.2 (totF val (0, 1) t.1)
def spKp : Sp := fun vs H Q _ => ∃ (tv : V) (d z : Addr) (t : Tie) (val : List Nat → FR), vs = [tv, .ref d] ∧ KpA H tv d z t val ∧ ∀ H', Same H H' → Q (.bl (kp val t)) H'
theorem ok_p_is_kept (T : Txt K mg fa fd) : FnOk P w K mg base CX0 5 (fa 92) (fd 92) ["tie", "values"] spKp := by
  refine T.F_p_is_kept.ok sc_p_is_kept (fun vs H Q E h => ?_) (fun cdv A outer s H vs Q E hr h => ?_)
  · obtain ⟨tv, d, z, t, val, rfl, _⟩ := h
    rfl
  · obtain ⟨tv, d, z, ⟨tl, tb⟩, val, rfl, ⟨ht, tl2, hok, hbb, hd⟩, q⟩ := h
    have tl2 : tl.length ≤ 2 := tl2
    have hok : ∀ u ∈ tl, Nf u.2 ∧ Bn 3 u.2 := hok
    have hbb : Bn 40 tb := hbb
    have hd : ValD H d val (tl.map (·.1)) := hd
    refine ⟨_, (C8.pss_cut (ps_asg (pv 0) (pg_tup (by rfl) (pgs_cons (pg_name (i := 2) sc_p_is_kept.nd rfl (.inl rfl)) (pgs_cons (pg_name (i := 3) sc_p_is_kept.nd rfl (.inl rfl)) pgs_nil))))
      (C8.pss_cut (ps_set (i := 4) sc_p_is_kept.nd rfl (.inl rfl) (C8.pe_gc (by rfl) T.c_ZERO))
      (C8.pss_cut (ps_for PassesOwn.never rfl (pi_tup (pv 2)) (pg_tup (by rfl) (pgs_cons (pg_name (i := 5) sc_p_is_kept.nd rfl (.inl rfl)) (pgs_cons (pg_name (i := 6) sc_p_is_kept.nd rfl (.inl rfl)) pgs_nil))) (pss_one (ps_set (i := 4) sc_p_is_kept.nd rfl (.inl rfl) (pe_call (ok_p_add T) (hr.mono (by decide)) (by rfl) T.g_p_add T.F_p_add.kp T.b_p_add .nil pass0 (pa_cons (pv 4) (pa_cons (pe_call (ok_p_multiply T) (hr.mono (by decide)) (by rfl) T.g_p_multiply T.F_p_multiply.kp T.b_p_multiply .nil pass0 (pa_cons (pv 6) (pa_cons (pe_dget (Nat.lt_of_le_of_lt (Nat.add_le_add_left (by decide) _) hr.units) (pv 1) (pv 5) (fun _ _ => rfl)) pa_nil))) pa_nil))))))
      (pss_one (ps_ret (pe_not (pe_call (ok_p_is_less T) (hr.mono (by decide)) (by rfl) T.g_p_is_less T.F_p_is_less.kp T.b_p_is_less .nil pass0 (pa_cons (pv 3) (pa_cons (pv 4) pa_nil))))))))), ?_⟩
    obtain ⟨P0, pt, pb, xs, rfl, gp, gt, hts, hpb⟩ := tie_inv9 ht
    have xl : xs.length = tl.length := by
      have := hts.len
      rw [List.length_map] at this
      exact this
    refine ⟨fun σ H1 => H1 = H ∧ σ = [some (.ref P0), some (.ref d), some (.ref pt), some (.ref pb), none, none, none], ⟨_, rfl, P0, _, rfl, .inl (.inl gp), rfl, _, _, rfl, _, _, rfl, rfl, rfl, rfl⟩, fun σ H1 hM => ?_⟩
    obtain ⟨rfl, rfl⟩ := hM
    refine ⟨fun σ H2 => H2 = H1 ∧ σ = [some (.ref P0), some (.ref d), some (.ref pt), some (.ref pb), some (.ref (fa 2000)), none, none], ⟨rfl, rfl⟩, fun σ H2 hM => ?_⟩
    obtain ⟨e2, rfl⟩ := hM
    subst e2
    have s1 : Same H2 H2 := Same.refl _
    refine ⟨fun σ G => Same H2 G ∧ ∃ p y3 y4, FrK K G p (totF val (0, 1) tl) ∧ Nf (totF val (0, 1) tl) ∧ Bn 40 (totF val (0, 1) tl) ∧ σ = [some (.ref P0), some (.ref d), some (.ref pt), some (.ref pb), some (.ref p), y3, y4], ?_, fun σ G hM => ?_⟩
    · refine ⟨_, rfl, pt, rfl, ⟨_, SqT.of gt⟩, for_tup (K := K) (a := pt) (xs := xs) (fun i σ G => Same H2 G ∧ ∃ p y3 y4, FrK K G p (totF val (0, 1) (tl.take i)) ∧ Nf (totF val (0, 1) (tl.take i)) ∧ Bn (1 + 8 * i) (totF val (0, 1) (tl.take i)) ∧ σ = [some (.ref P0), some (.ref d), some (.ref pt), some (.ref pb), some (.ref p), y3, y4]) ⟨s1, fa 2000, _, _, T.z_ZERO _, nf_01, bn_01, rfl⟩ (fun i σ G _ hq => SqT.of (hq.1 _ _ gt)) (fun i x σ G hx hq => ?_) (fun σ G hq => ?_)⟩
      · obtain ⟨sG, p, y3, y4, hp, np, bp, rfl⟩ := hq
        obtain ⟨dt, hdd, hdt⟩ := DtAll.at i hts hx
        rw [List.getElem?_map] at hdd
        obtain ⟨⟨n, f⟩, he, rfl⟩ := Option.map_eq_some_iff.mp hdd
        obtain ⟨nf, bf⟩ : Nf f ∧ Bn 3 f := hok _ (List.mem_of_getElem? he)
        have il : i < tl.length := (List.getElem?_eq_some_iff.mp he).1
        change Dt _ _ _ (.tuple [.str (SX.S n), frP f]) at hdt
        obtain ⟨kvs, hk, hkv⟩ := hd
        obtain ⟨bv, pv, ev, hpv⟩ := hkv n (List.mem_map_of_mem (f := fun t : List Nat × FR => t.1) (List.mem_of_getElem? he))
        match x, hdt with
        | _, .tup (a := pp) hpp (.cons (.str _ _) (.cons hr' .nil)) =>
          obtain ⟨pr, rfl, hpr⟩ := dt_fr hr'
          refine ⟨pp, _, rfl, .inl (.inl (sG _ _ hpp)), rfl, _, _, rfl, _, _, rfl, rfl, _, rfl, _, rfl, _, rfl, _, rfl, d, _, rfl, by rw [← ev]; exact DGet.k (k := Sum.inr (SX.S n)) (sG _ _ hk), ?_⟩
          refine ⟨pr, pv, f, val n, rfl, SqT.of (sG _ _ hpr), SqT.of (sG _ _ hpv), nf.1, bv.2.1, bf.mono (by decide), bv.bn.mono (by decide), fun e ne => ?_⟩
          have se := same_upd (o := trF (mulL f (val n))) ne
          have bm := bf.mul bv.bn nf.1 bv.2.1
          have nm : Nf (mulL f (val n)) := nf_low (Int.mul_ne_zero (by have := nf.1; omega) (by have := bv.2.1; omega))
          refine ⟨p, e, totF val (0, 1) (tl.take i), mulL f (val n), rfl, SqT.sm se _ _ hp, SqT.of upd_same, np.1, nm.1, bp.mono (by omega), bm.mono (by decide), fun e2 ne2 => ?_⟩
          have se2 := same_upd (o := trF (addL (totF val (0, 1) (tl.take i)) (mulL f (val n)))) ne2
          have et : totF val (0, 1) (tl.take (i + 1)) = addL (totF val (0, 1) (tl.take i)) (mulL f (val n)) := by
            rw [List.take_add_one, he]
            show totF val (0, 1) (tl.take i ++ [(n, f)]) = _
            rw [totF_app]
            rfl
          refine ⟨sG.trans (se.trans se2), e2, some (.str (SX.S n)), some (.ref pr), ?_, ?_, ?_, rfl⟩
          · rw [et]
            exact SqT.of upd_same
          · rw [et]
            exact addL_nf np.1 nm.1
          · rw [et]
            exact (bp.add bm np.1 nm.1).mono (by omega)
      · obtain ⟨sG, p, y3, y4, hp, np, bp, rfl⟩ := hq
        rw [xl] at bp
        rw [xl, List.take_length] at hp np
        rw [List.take_length] at bp
        exact ⟨sG, p, _, _, hp, np, bp.mono (by omega), rfl⟩
    obtain ⟨sG, p, y3, y4, hp, np, bp, rfl⟩ := hM
    exact ⟨_, rfl, _, rfl, pb, p, tb, totF val (0, 1) tl, rfl, SqT.of (sG _ _ hpb), hp, hbb.mono (by decide), bp.mono (by decide), _, rfl, q _ sG⟩
theorem ok_keeps (T : Txt K mg fa fd) : FnOk P w K mg base CX0 6 (fa 165) (fd 165) ["_law_tie", "_law_values"] spKp := by
  refine T.F_keeps.ok sc_keeps (fun vs H Q E h => ?_) (fun cdv A outer s H vs Q E hr h => ?_)
  · obtain ⟨tv, d, z, t, val, rfl, _⟩ := h
    rfl
  · obtain ⟨tv, d, z, t, val, rfl, ⟨ht, tl2, hok, hbb, hd⟩, q⟩ := h
    refine ⟨_, (pss_one (ps_ret (pe_not (pe_call (ok_under T) (hr.mono (by decide)) (by rfl) T.g_under T.F_under.kp T.b_under .nil pass0 (pa_cons (pe_ix ix_tup (pv 0) pe_int (fun _ _ => rfl)) (pa_cons (pe_call (ok_total T) (hr.mono (by decide)) (by rfl) T.g_total T.F_total.kp T.b_total .nil pass0 (pa_cons (pe_ix ix_tup (pv 0) pe_int (fun _ _ => rfl)) (pa_cons (pv 1) pa_nil))) pa_nil)))))), ?_⟩
    obtain ⟨P0, pt, pb, xs, rfl, gp, gt, hts, hpb⟩ := tie_inv9 ht
    exact ⟨_, rfl, P0, _, _, _, rfl, rfl, SqT.of gp, t1, _, rfl, P0, _, _, _, rfl, rfl, SqT.of gp, t0, _, rfl, pt, d, z, xs, t.1, val, rfl, SqT.of gt, hts, tl2, hok, hd, fun p H' s' hp np bp => ⟨pb, p, t.2, totF val (0, 1) t.1, rfl, SqT.of (s' _ _ hpb), hp, hbb.mono (by decide), bp.mono (by decide), _, rfl, q _ s'⟩⟩
end
/-! ### names in order, any number of them -/
def leN (a b : List Nat) : Prop := ltCps b a = false
theorem ltc (a b : List Nat) : ltCps a b = decide (a < b) := by
  have h := lt_meets (SX.S a) (SX.S b)
  rw [S_list, S_list] at h
  exact h.symm
theorem leN_iff {a b : List Nat} : leN a b ↔ a ≤ b := by
  unfold leN
  rw [ltc, decide_eq_false_iff_not, List.not_lt]
theorem leN_trans {a b c : List Nat} (h : leN a b) (k : leN b c) : leN a c := leN_iff.mpr (List.le_trans (leN_iff.mp h) (leN_iff.mp k))
theorem leN_anti {a b : List Nat} (h : leN a b) (k : leN b a) : a = b := by
  by_cases e : a = b
  · exact e
  · have := lt_tri a b h e
    rw [show ltCps a b = false from k] at this
    cases this
def leStr (a b : Str) : Prop := leN a.cps.toList b.cps.toList
theorem srt_pw : ∀ (l : List Str), sortedS l = true → l.Pairwise leStr
  | [], _ => .nil
  | [x], _ => List.pairwise_singleton _ _
  | x :: y :: r, h => by
    have h : (!ltCps y.cps.toList x.cps.toList && risingS y r) = true := h
    rw [Bool.and_eq_true, Bool.not_eq_true'] at h
    have ih := srt_pw (y :: r) h.2
    refine List.Pairwise.cons (fun z hz => ?_) ih
    rcases List.mem_cons.mp hz with rfl | hz
    · exact h.1
    · exact leN_trans h.1 ((List.pairwise_cons.mp ih).1 z hz)
theorem str_ext {a b : Str} (h : a.cps.toList = b.cps.toList) : a = b := by rw [← S_of a, ← S_of b, h]
theorem srt_unique {l r : List Str} (hl : l.Pairwise leStr) (hr : r.Pairwise leStr) (h : l.Perm r) : l = r :=
  List.Perm.eq_of_pairwise (fun _ _ _ _ h k => str_ext (leN_anti h k)) hl hr h
section
variable {P : Program} {w : World} {K : PySem.W.Frag} {mg : Str → Option Value} {base : Heap} {fa : Nat → Addr} {fd : Nat → FuncData}
theorem ties_same {z : Addr} {H H' : Hp} (s : Same H H') : ∀ {us : List V} {ties : List Tie}, Paired (TieU z H) us ties → Paired (TieU z H') us ties
  | _, _, .nil => .nil
  | _, _, .cons h t => .cons (h.same s) (ties_same s t)
/-- names as data: a list of texts is what it is -/
theorem eqvAll_two : ∀ l r : List Str, PyData.eqvAll (l.map PyData.str) (r.map PyData.str) = decide (l = r)
  | [], [] => rfl
  | [], _ :: _ => rfl
  | _ :: _, [] => rfl
  | x :: l, y :: r => by
    have e : PyData.eqv (.str x) (.str y) = decide (x = y) := by
      show (x == y) = _
      exact Bool.eq_iff_iff.mpr (by rw [beq_iff_eq, decide_eq_true_eq])
    show (PyData.eqv (.str x) (.str y) && PyData.eqvAll (l.map PyData.str) (r.map PyData.str)) = _
    rw [e, eqvAll_two l r, Bool.eq_iff_iff, Bool.and_eq_true, decide_eq_true_eq, decide_eq_true_eq, decide_eq_true_eq, List.cons.injEq]
theorem eqv_strs (l r : List Str) : PyData.eqv (.list (l.map PyData.str)) (.list (r.map PyData.str)) = decide (l = r) := eqvAll_two l r
theorem lay_strs : ∀ l : List Str, (∀ x ∈ l, PyData.strOk x = true) → PyData.canLayAll0 (l.map PyData.str) = true ∧ PyData.depthAll (l.map PyData.str) ≤ 0
  | [], _ => ⟨rfl, Nat.zero_le _⟩
  | x :: l, h => by
    obtain ⟨h1, h2⟩ := lay_strs l fun y hy => h y (List.mem_cons_of_mem _ hy)
    constructor
    · show (PyData.strOk x && PyData.canLayAll0 (l.map PyData.str)) = true
      rw [h x List.mem_cons_self, h1]
      rfl
    · rw [List.map_cons, PyData.depthAll.eq_2]
      have : (PyData.str x).depth = 0 := rfl
      omega
theorem shaped_strs {l : List Str} (h : ∀ x ∈ l, PyData.strOk x = true) : SeqAt.shaped (.list (l.map PyData.str)) = true := by
  obtain ⟨h1, h2⟩ := lay_strs l h
  unfold SeqAt.shaped
  rw [PyData.canLay0.eq_5, PyData.depth.eq_1, h1, Bool.true_and, decide_eq_true_eq]
  omega
def spLHolds (K : PySem.W.Frag) (C : Addr) : Sp := fun vs H Q _ => ∃ (x d : Addr) (ns : List Str) (us : List V) (z : Addr) (ties : List Tie) (kvs : List (Key × V)) (val : List Nat → FR), vs = [.ref x, .ref d] ∧ LotH K C H x ns us ∧ us.length = ties.length ∧ us.length ≤ 10 ∧
  H d = some (.dK kvs) ∧ kvs.map (·.1) = ns.map (fun x => (.inr x : Key)) ∧ ns.Nodup ∧ ns.length < 64 ∧ (∀ x ∈ ns, x.length ≤ 1000) ∧ (∀ x ∈ ns, PyData.strOk x = true) ∧ (∀ (i : Nat) (v : V) (t : Tie), us[i]? = some v → ties[i]? = some t → KpA H v d z t val) ∧ ∀ H', Same H H' → Q (.bl ((ties.map (kp val)).all id)) H'
theorem ok_p_LotHolds (T : Txt K mg fa fd) : FnOk P w K mg base CX0 6 (fa 1513) (fd 1513) ["self", "values"] (spLHolds K (fa 139)) := by
  refine T.F_LotHolds.ok sc_p_LotHolds (fun vs H Q E h => ?_) (fun cdv A outer s H vs Q E hr h => ?_)
  · obtain ⟨x, d, ns, us, z, ties, kvs, val, rfl, _⟩ := h
    rfl
  · obtain ⟨x, d, ns, us, z, ties, kvs, val, rfl, hL, ul, h10, hd, hk, nd, h64, hx, hok, hkp, q⟩ := h
    obtain ⟨dx, p1, p2, ms, h1, h2, h3, h4, h5⟩ := hL.at_
    refine ⟨_, (pss_cons (ps_if (pt_cmpR (op_neD hr.units) (pe_call (ok_p_ascendingB T) (hr.mono (by decide)) (by rfl) T.g_p_ascending T.F_p_ascending.kp T.b_p_ascending .nil pass0 (pa_cons (pv 1) pa_nil)) (pe_callTy call_list_of (by rfl) T.m_list (by decide +kernel) (pa_cons (pe_fld (pv 0) (by rfl)) pa_nil)) (nomark _)) (pss_one (ps_ret pe_bl)) pss_nil)
      (pss_one (ps_ret (pe_callB (cr_all rfl) (by rfl) T.m_all PyProof.Rows.boot_all (pa_cons (pe_lc (own := [("tie", 2)]) (g := gName 2) (tt := tYes) rfl sc_p_LotHolds.nd (pi_tup (pe_fld (pv 0) (by rfl))) (blkOk_by (own := [("tie", 2)]) (N := ["self", "values", "tie"]) (sc := defScope s_p_LotHolds) (by decide +kernel)) (fun _ _ _ _ _ => pg_name (i := 2) sc_p_LotHolds.nd rfl (Or.inl rfl)) (fun _ _ _ _ _ => pts_nil) (fun _ _ _ _ _ => (pe_call (ok_p_is_kept T) (hr.mono (by decide)) (by rfl) T.g_p_is_kept T.F_p_is_kept.kp T.b_p_is_kept .nil pass0 (pa_cons (pv 2) (pa_cons (pv 1) pa_nil))))) pa_nil))))), ?_⟩
    refine ⟨_, rfl, d, ns, rfl, .inr ⟨kvs, hd, hk⟩, nd, h64, hx, fun p ms' H1 s1 np hp perm srt => ?_⟩
    have em : ms' = ms := srt_unique (srt_pw _ srt) (srt_pw _ h4) (perm.trans h3.symm)
    subst em
    refine ⟨_, rfl, _, _, dx, _, _, rfl, s1 _ _ h1, T.cl_Lot, T.na_Lot_unknowns, rfl, p1, _, rfl, .inr (SqT_sm s1 h2), fun l nl => ?_⟩
    have sl := same_upd (o := .lst (ms'.map V.str)) nl
    have s2 := s1.trans sl
    have okm : ∀ x ∈ ms', PyData.strOk x = true := fun y hy => hok y (h3.mem_iff.mp hy)
    refine ⟨_, _, .lst (SqL.of (sl _ _ hp)) (dp_strs ms'), .lst (SqL.of upd_same) (dp_strs ms'), shaped_strs okm, shaped_strs okm, _, rfl, ?_⟩
    rw [eqv_strs, decide_eq_true rfl]
    refine iteF ?_
    refine ⟨_, rfl, _, _, dx, _, _, rfl, s2 _ _ h1, T.cl_Lot, T.na_Lot_bonds, rfl, p2, rfl, ⟨_, SqT_sm s2 h5⟩, fun D nD => ?_⟩
    refine lc_tup (K := K) (a := p2) (xs := us) (fun i G => Same (upd H1 l (.lst (ms'.map V.str))) G ∧ G D = some (.lst (((ties.take i).map (kp val)).map V.bl))) ⟨same_upd nD, upd_same⟩ (fun i G _ hq => SqT_sm (s2.trans hq.1) h5) (fun i y G hy hq => ?_) (fun G hq => ?_)
    · have il := (List.getElem?_eq_some_iff.mp hy).1
      obtain ⟨t, ht⟩ : ∃ t, ties[i]? = some t := ⟨_, List.getElem?_eq_getElem (by omega)⟩
      refine ⟨rfl, _, rfl, _, rfl, y, d, z, t, val, rfl, (hkp i y t hy ht).same (s2.trans hq.1), fun G2 s3 => ⟨_, s3 _ _ hq.2, ?_, fun b o e => (upd_ne (ne_of_none e nD)).trans (s3 _ _ (hq.1 _ _ e)), ?_⟩⟩
      · rw [List.length_map, List.length_map, List.length_take]
        exact small1000 (by omega)
      · rw [upd_same, List.take_add_one, ht, List.map_append, List.map_append]
        rfl
    · rw [ul, List.take_length] at hq
      exact ⟨D, _, rfl, SqL.of hq.2, q G (s2.trans hq.1)⟩
end
def layD (d : PyData) : Bool := d.canLay0 && decide (d.depth ≤ 4)
theorem lay_all : ∀ {ds : List PyData}, (∀ d ∈ ds, layD d = true) → PyData.canLayAll0 ds = true ∧ PyData.depthAll ds ≤ 5
  | [], _ => ⟨rfl, Nat.zero_le _⟩
  | d :: ds, h => by
    obtain ⟨h1, h2⟩ := lay_all fun e he => h e (List.mem_cons_of_mem _ he)
    have hd : (d.canLay0 && decide (d.depth ≤ 4)) = true := h d List.mem_cons_self
    rw [Bool.and_eq_true, decide_eq_true_eq] at hd
    constructor
    · show (d.canLay0 && PyData.canLayAll0 ds) = true
      rw [hd.1, h1]
      rfl
    · rw [PyData.depthAll.eq_2]
      omega
theorem shaped_lay {ds : List PyData} (h : ∀ d ∈ ds, layD d = true) : SeqAt.shaped (.list ds) = true := by
  obtain ⟨h1, h2⟩ := lay_all h
  unfold SeqAt.shaped
  rw [PyData.canLay0.eq_5, PyData.depth.eq_1, h1, Bool.true_and, decide_eq_true_eq]
  omega
theorem shaped_tup {ds : List PyData} (h : SeqAt.shaped (.list ds) = true) : SeqAt.shaped (.tuple ds) = true := by
  unfold SeqAt.shaped at h ⊢
  rw [PyData.canLay0.eq_5, PyData.depth.eq_1] at h
  rw [PyData.canLay0.eq_6, PyData.depth.eq_2]
  exact h
section
variable {P : Program} {w : World} {K : PySem.W.Frag} {mg : Str → Option Value} {base : Heap} {fa : Nat → Addr} {fd : Nat → FuncData}
def spPointK : Sp := fun vs H Q _ => ∃ (a c p : Addr) (ws : List (List Nat)), vs = [.ref a, .ref p] ∧ FeedOk H a c ∧ p ≠ a ∧ H p = some (.lst (ws.map vS)) ∧ ws.Nodup ∧ ws.length ≤ 6 ∧ ∀ d val H', FeedOk H' a c → But a H H' → PointD H' d val ws → (∃ kvs, H' d = some (.dK kvs) ∧ kvs.map (·.1) = ws.map (fun x => (.inr (SX.S x) : Key))) → Q (.ref d) H'
theorem ok_pointK (T : Txt K mg fa fd) : FnOk P w K mg base CX0 3 (fa 166) (fd 166) ["_law_feed_here", "_law_words_here"] spPointK := by
  refine T.F_point.ok sc_point (fun vs H Q E h => ?_) (fun cdv A outer s H vs Q E hr h => ?_)
  · obtain ⟨a, c, p, ws, rfl, _⟩ := h
    rfl
  · obtain ⟨a, c, p, ws, rfl, hF, npa, hp, hnd, hl, q⟩ := h
    refine ⟨_, (pss_one (ps_ret (pe_callTy (call_dictP rfl) (by rfl) T.m_dict (by decide +kernel) (pa_cons (pe_lc (own := [("_law_name", 2)]) (g := gName 2) (tt := tYes) rfl sc_point.nd (pi_list (pv 1)) (blkOk_by (own := [("_law_name", 2)]) (N := ["_law_feed_here", "_law_words_here", "_law_name"]) (sc := defScope s_point) (by decide +kernel)) (fun _ _ _ _ _ => pg_name (i := 2) sc_point.nd rfl (Or.inl rfl)) (fun _ _ _ _ _ => pts_nil) (fun _ _ _ _ _ => (pe_tup (pa_cons (pv 2) (pa_cons (pe_call (ok_any T) (hr.mono (by decide)) (by rfl) T.g_any T.F_any.kp T.b_any .nil pass0 (pa_cons (pv 0) (pa_cons (pe_lst (pa_cons (pe_tup (pa_cons pe_int (pa_cons pe_int pa_nil))) (pa_cons (pe_tup (pa_cons pe_int (pa_cons pe_int pa_nil))) (pa_cons (pe_tup (pa_cons pe_int (pa_cons pe_int pa_nil))) (pa_cons (pe_tup (pa_cons (pe_un un_neg pe_int) (pa_cons pe_int pa_nil))) (pa_cons (pe_tup (pa_cons pe_int (pa_cons pe_int pa_nil))) (pa_cons (pe_tup (pa_cons pe_int (pa_cons pe_int pa_nil))) (pa_cons (pe_tup (pa_cons (pe_un un_neg pe_int) (pa_cons pe_int pa_nil))) pa_nil)))))))) pa_nil))) pa_nil))))) pa_nil)))), ?_⟩
    refine ⟨_, rfl, p, rfl, ⟨_, SqL.of hp⟩, fun D nD => ?_⟩
    have nDa := new_ne hF nD
    have nDc := new_nc hF nD
    have npD : p ≠ D := ne_of_none hp nD
    refine lc_list (K := K) (a := p) (xs := ws.map vS) (fun i G => FeedOk G a c ∧ But a H G ∧ G p = some (.lst (ws.map vS)) ∧ ∃ (ps : List Addr) (kvs : List (Key × V)), G D = some (.lst (ps.map V.ref)) ∧ Paired (fun p kv => G p = some (.tup [kV kv.1, kv.2])) ps kvs ∧ kvs.map (·.1) = (ws.take i).map (fun x => (.inr (SX.S x) : Key)) ∧ ∀ kv ∈ kvs, ∃ (q : Addr) (f : FR), kv.2 = .ref q ∧ G q = some (.tup [.int f.1, .int f.2]) ∧ Bf 10 f)
      ⟨hF.new nD, But.of (same_upd nD), same_upd nD _ _ hp, [], [], upd_same, .nil, rfl, fun kv h => by cases h⟩ (fun i G _ hq => SqL.of hq.2.2.1) (fun i x G hx hq => ?_) (fun G hq => ?_)
    · obtain ⟨hG, bG, hpG, ps, kvs, hD, hpk, hkeys, hvals⟩ := hq
      rw [List.getElem?_map] at hx
      obtain ⟨x, hxz, rfl⟩ := Option.map_eq_some_iff.mp hx
      refine ⟨rfl, ?_⟩
      refine ⟨_, rfl, _, rfl, (small_line (by decide : 2 ≤ 1000)), fun p1 n1 => ?_⟩
      obtain ⟨s1, d1⟩ := dnewT (z := a) n1 (.cons (.int 0 (by decide +kernel)) (.cons (.int 1 (by decide +kernel)) .nil))
      refine ⟨(small_line (by decide : 2 ≤ 1000)), fun p2 n2 => ?_⟩
      obtain ⟨s2, d2⟩ := dnewT (z := a) n2 (.cons (.int 1 (by decide +kernel)) (.cons (.int 1 (by decide +kernel)) .nil))
      refine ⟨(small_line (by decide : 2 ≤ 1000)), fun p3 n3 => ?_⟩
      obtain ⟨s3, d3⟩ := dnewT (z := a) n3 (.cons (.int 2 (by decide +kernel)) (.cons (.int 1 (by decide +kernel)) .nil))
      refine ⟨_, rfl, (small_line (by decide : 2 ≤ 1000)), fun p4 n4 => ?_⟩
      obtain ⟨s4, d4⟩ := dnewT (z := a) n4 (.cons (.int (-1) (by decide +kernel)) (.cons (.int 1 (by decide +kernel)) .nil))
      refine ⟨(small_line (by decide : 2 ≤ 1000)), fun p5 n5 => ?_⟩
      obtain ⟨s5, d5⟩ := dnewT (z := a) n5 (.cons (.int 1 (by decide +kernel)) (.cons (.int 2 (by decide +kernel)) .nil))
      refine ⟨(small_line (by decide : 2 ≤ 1000)), fun p6 n6 => ?_⟩
      obtain ⟨s6, d6⟩ := dnewT (z := a) n6 (.cons (.int 3 (by decide +kernel)) (.cons (.int 1 (by decide +kernel)) .nil))
      refine ⟨_, rfl, (small_line (by decide : 2 ≤ 1000)), fun p7 n7 => ?_⟩
      obtain ⟨s7, d7⟩ := dnewT (z := a) n7 (.cons (.int (-5) (by decide +kernel)) (.cons (.int 3 (by decide +kernel)) .nil))
      refine ⟨(small_line (by decide : 7 ≤ 1000)), fun p8 n8 => ?_⟩
      obtain ⟨s8, all, hrw⟩ := drow (z := a) n8 (.cons (d1.same (s2.trans (s3.trans (s4.trans (s5.trans (s6.trans s7)))))) (.cons (d2.same (s3.trans (s4.trans (s5.trans (s6.trans s7))))) (.cons (d3.same (s4.trans (s5.trans (s6.trans s7)))) (.cons (d4.same (s5.trans (s6.trans s7))) (.cons (d5.same (s6.trans s7)) (.cons (d6.same s7) (.cons d7 .nil)))))))
      have sR := (s1.trans (s2.trans (s3.trans (s4.trans (s5.trans (s6.trans (s7.trans s8)))))))
      refine ⟨a, c, p8, _, rfl, hG.same sR, hrw, new_ne (hG.same (s1.trans (s2.trans (s3.trans (s4.trans (s5.trans (s6.trans s7))))))) n8, by show 0 < 7; decide, by show 7 ≤ 1000; decide, fun v H2 hv hF2 b2 => ?_⟩
      obtain ⟨d, hd, hdt⟩ := all.mem hv
      have hdt := hdt.but (hG.same sR) b2
      have bb := (But.of (a := a) sR).trans b2
      have tt := TT.but hG bb
      obtain ⟨f, rfl, hf⟩ : ∃ f : FR, d = frP f ∧ Bf 10 f := by
        simp only [List.mem_cons, List.not_mem_nil, or_false] at hd
        rcases hd with rfl | rfl | rfl | rfl | rfl | rfl | rfl
        · exact ⟨(0, 1), rfl, by unfold Bf; decide⟩
        · exact ⟨(1, 1), rfl, by unfold Bf; decide⟩
        · exact ⟨(2, 1), rfl, by unfold Bf; decide⟩
        · exact ⟨(-1, 1), rfl, by unfold Bf; decide⟩
        · exact ⟨(1, 2), rfl, by unfold Bf; decide⟩
        · exact ⟨(3, 1), rfl, by unfold Bf; decide⟩
        · exact ⟨(-5, 3), rfl, by unfold Bf; decide⟩
      obtain ⟨pf, rfl, hpf⟩ := dt_fr hdt
      refine ⟨two_line, fun e ne => ?_⟩
      have se := same_upd (o := .tup [vS x, .ref pf]) ne
      have hD2 := bb _ _ nDa hD
      have hD3 := se _ _ hD2
      have il : i < ws.length := (List.getElem?_eq_some_iff.mp hxz).1
      have kl : kvs.length = ps.length := (Paired.length hpk).symm
      have k2 : kvs.length ≤ 6 := by
        have := congrArg List.length hkeys
        rw [List.length_map, List.length_map, List.length_take] at this
        omega
      refine ⟨ps.map V.ref, hD3, by rw [List.length_map]; exact small1000 (by omega), (hF2.same se).put nDa nDc, ((bG.trans bb).trans (But.of se)).updN nD, ?_, ps ++ [e], kvs ++ [(.inr (SX.S x), .ref pf)], ?_, ?_, ?_, ?_⟩
      · rw [upd_ne npD]
        exact se _ _ (bb _ _ npa hpG)
      · rw [upd_same, List.map_append]
        rfl
      · have t2 := (tt.trans (TT.of se)).trans (TT.upd (zs := ps.map V.ref ++ [.ref e]) hD3)
        refine paired_snoc (paired_mono (fun a b h => t2 _ _ h) hpk) ?_
        exact TT.upd (zs := ps.map V.ref ++ [.ref e]) hD3 _ _ upd_same
      · rw [List.map_append, hkeys, List.take_add_one, hxz, List.map_append]
        rfl
      · intro kv hkv
        have t2 := (tt.trans (TT.of se)).trans (TT.upd (zs := ps.map V.ref ++ [.ref e]) hD3)
        rcases List.mem_append.mp hkv with h | h
        · obtain ⟨q, f, e1, e2, e3⟩ := hvals kv h
          exact ⟨q, f, e1, t2 _ _ e2, e3⟩
        · rw [List.mem_singleton.mp h]
          exact ⟨pf, f, rfl, TT.upd (zs := ps.map V.ref ++ [.ref e]) hD3 _ _ (se _ _ hpf), hf⟩
    · obtain ⟨hG, bG, hpG, ps, kvs, hD, hpk, hkeys, hvals⟩ := hq
      rw [List.length_map, List.take_length] at hkeys
      refine ⟨D, ps, kvs, rfl, SqL.of hD, paired_mono (fun a b h => SqT.of h) hpk, fun d nd => ?_⟩
      have nk : (kvs.map (·.1)).Nodup := by
        rw [hkeys]
        rw [List.Nodup, List.pairwise_map]
        exact List.Pairwise.imp (fun h z => h (S_inj (Sum.inr.inj z))) hnd
      rw [merge_nodup kvs [] nk]
      have sd := same_upd (o := .dK kvs) nd
      have pick : ∀ x, ∃ f : FR, x ∈ ws → Bf 10 f ∧ ∃ q, valV kvs (.inr (SX.S x)) = some (.ref q) ∧ G q = some (.tup [.int f.1, .int f.2]) := fun x => by
        by_cases hx : x ∈ ws
        · have : (.inr (SX.S x) : Key) ∈ kvs.map (·.1) := by
            rw [hkeys]
            exact List.mem_map_of_mem (f := fun x => (.inr (SX.S x) : Key)) hx
          obtain ⟨kv, hkv, ek⟩ := List.mem_map.mp this
          obtain ⟨q, f, e1, e2, e3⟩ := hvals kv hkv
          refine ⟨f, fun _ => ⟨e3, q, ?_, e2⟩⟩
          rw [← ek, val_nodup nk kv hkv, e1]
        · exact ⟨(0, 1), fun h => absurd h hx⟩
      obtain ⟨val, hval⟩ := Classical.axiomOfChoice pick
      refine q d val _ (hG.same sd) (bG.trans (But.of sd)) ⟨kvs, upd_same, fun e he => ⟨val_nodup nk e he, ?_⟩, fun x hx => ?_⟩ ⟨kvs, upd_same, hkeys⟩
      · obtain ⟨q, f, e1, _, _⟩ := hvals e he
        exact .inr ⟨q, e1⟩
      · obtain ⟨h1, q, h2, h3⟩ := hval x hx
        exact ⟨h1, q, h2, sd _ _ h3⟩
end
/-! ### sameness of data that stands twice -/
def wideD : Nat → PyData → Prop
  | n + 1, .tuple ds => ds.length ≤ 1000 ∧ ∀ d ∈ ds, wideD n d
  | n + 1, .list ds => ds.length ≤ 1000 ∧ ∀ d ∈ ds, wideD n d
  | 0, .tuple _ => False
  | 0, .list _ => False
  | _, .dict _ => False
  | _, .none => True
  | _, .bool _ => True
  | _, .int _ => True
  | _, .str _ => True
theorem DtAll.atV {z : Addr} {H : Hp} : ∀ {vs : List V} {ds : List PyData} (_ : DtAll z H vs ds) {i : Nat} {v : V}, vs[i]? = some v → ∃ d, ds[i]? = some d ∧ Dt z H v d
  | _, _, .cons h1 h2, 0, v, e => by
    cases e
    exact ⟨_, rfl, h1⟩
  | _, _, .cons h1 h2, i + 1, v, e => DtAll.atV h2 (i := i) e
theorem eqd_dt {H : Hp} {z z' : Addr} : ∀ (n : Nat) (d : PyData) (v w : V), wideD n d → Dt z H v d → Dt z' H w d → Eqd H n v w
  | n, .none, v, w, _, h1, h2 => by
    cases h1
    cases h2
    exact .leaf ⟨rfl, .inl rfl⟩
  | n, .bool b, v, w, _, h1, h2 => by
    cases h1
    cases h2
    exact .leaf ⟨rfl, .inr (.inl ⟨_, rfl⟩)⟩
  | n, .int i, v, w, _, h1, h2 => by
    cases h1
    cases h2
    exact .leaf ⟨rfl, .inr (.inr (.inl ⟨_, rfl⟩))⟩
  | n, .str x, v, w, _, h1, h2 => by
    cases h1
    cases h2
    exact .leaf ⟨rfl, .inr (.inr (.inr ⟨_, rfl⟩))⟩
  | n + 1, .tuple ds, v, w, ⟨l, q⟩, h1, h2 => by
    cases h1 with
    | tup g1 a1 =>
      cases h2 with
      | tup g2 a2 =>
        refine .inr ⟨_, _, _, _, rfl, rfl, .inr ⟨g1, g2⟩, a1.len.trans a2.len.symm, by rw [a1.len]; exact l, fun i x y e1 e2 => ?_⟩
        obtain ⟨d, hd, p1⟩ := DtAll.atV a1 e1
        obtain ⟨d', hd', p2⟩ := DtAll.atV a2 e2
        rw [hd] at hd'
        cases hd'
        exact eqd_dt n d x y (q d (List.mem_of_getElem? hd)) p1 p2
  | n + 1, .list ds, v, w, ⟨l, q⟩, h1, h2 => by
    cases h1 with
    | lst g1 _ a1 =>
      cases h2 with
      | lst g2 _ a2 =>
        refine .inr ⟨_, _, _, _, rfl, rfl, .inl ⟨g1, g2⟩, a1.len.trans a2.len.symm, by rw [a1.len]; exact l, fun i x y e1 e2 => ?_⟩
        obtain ⟨d, hd, p1⟩ := DtAll.atV a1 e1
        obtain ⟨d', hd', p2⟩ := DtAll.atV a2 e2
        rw [hd] at hd'
        cases hd'
        exact eqd_dt n d x y (q d (List.mem_of_getElem? hd)) p1 p2
theorem wide_fr (n : Nat) (f : FR) : wideD (n + 1) (frP f) := ⟨by show 2 ≤ 1000; decide, fun d hd => by
  rcases List.mem_cons.mp hd with rfl | hd
  · cases n <;> trivial
  · rw [List.mem_singleton.mp hd]
    cases n <;> trivial⟩
theorem wide_tie {tl : List It} {b : FR} (h : tl.length ≤ 2) : wideD 4 (tieP tl b) := by
  refine ⟨by show 2 ≤ 1000; decide, fun d hd => ?_⟩
  rcases List.mem_cons.mp hd with rfl | hd
  · refine ⟨by rw [List.length_map]; omega, fun d hd => ?_⟩
    obtain ⟨u, _, rfl⟩ := List.mem_map.mp hd
    refine ⟨by show 2 ≤ 1000; decide, fun d hd => ?_⟩
    rcases List.mem_cons.mp hd with rfl | hd
    · trivial
    · rw [List.mem_singleton.mp hd]
      exact wide_fr 0 _
  · rw [List.mem_singleton.mp hd]
    exact wide_fr 2 _
/-- two lists of the same data -/
theorem eqd_lists {H : Hp} {z z' a b : Addr} {us vs : List V} {ds : List PyData} (ha : H a = some (.lst us)) (hb : H b = some (.lst vs)) (h1 : DtAll z H us ds) (h2 : DtAll z' H vs ds) (l : ds.length ≤ 1000) (hw : ∀ d ∈ ds, wideD 4 d) : Eqd H 5 (.ref a) (.ref b) := by
  refine .inr ⟨a, b, us, vs, rfl, rfl, .inl ⟨ha, hb⟩, h1.len.trans h2.len.symm, by rw [h1.len]; exact l, fun i x y e1 e2 => ?_⟩
  obtain ⟨d, hd, p1⟩ := DtAll.atV h1 e1
  obtain ⟨d', hd', p2⟩ := DtAll.atV h2 e2
  rw [hd] at hd'
  cases hd'
  exact eqd_dt 4 d x y (hw d (List.mem_of_getElem? hd)) p1 p2
theorem ix_listK {X : Cx} {K : PySem.W.Frag} (h : X.K = K) : IxR X (rIxL K) := h ▸ ix_list
theorem sqT_nl {K : PySem.W.Frag} {H H' : Hp} {p : Addr} {xs : List V} (h : SqT K H p xs) (s : NL H H') : SqT K H' p xs := by
  rcases h with (e | ⟨o, e⟩) | e
  · exact .inl (.inl (s _ _ e (fun ys z => by cases z)))
  · exact .inl (.inr ⟨o, s _ _ e (fun ys z => by cases z)⟩)
  · exact .inr e
theorem LotH.nl {K : PySem.W.Frag} {C x : Addr} {H H' : Hp} {ns : List Str} {us : List V} (h : LotH K C H x ns us) (s : NL H H') : LotH K C H' x ns us := by
  obtain ⟨dx, p1, p2, ms, h1, h2, h3, h4, h5⟩ := h.at_
  exact ⟨dx, p1, p2, ms, s _ _ h1 (fun ys z => by cases z), sqT_nl h2 s, h3, h4, sqT_nl h5 s⟩
theorem LotH.perm {K : PySem.W.Frag} {C x : Addr} {H : Hp} {ns ns' : List Str} {us : List V} (h : LotH K C H x ns us) (p : ns.Perm ns') : LotH K C H x ns' us := by
  obtain ⟨dx, p1, p2, ms, h1, h2, h3, h4, h5⟩ := h.at_
  exact ⟨dx, p1, p2, ms, h1, h2, h3.trans p, h4, h5⟩
theorem tieU_nl {z z' : Addr} {H H' : Hp} (s : NL H H') : ∀ {us : List V} {ties : List Tie}, Paired (TieU z H) us ties → Paired (TieU z' H') us ties
  | _, _, .nil => .nil
  | _, _, .cons h t => .cons (h.nl s) (tieU_nl s t)
/-- a list that is not the feed's -/
def Ls (a : Addr) (H : Hp) (p : Addr) (xs : List V) : Prop := p ≠ a ∧ H p = some (.lst xs)
theorem Ls.but {a p : Addr} {H H' : Hp} {xs : List V} (h : Ls a H p xs) (b : But a H H') : Ls a H' p xs := ⟨h.1, b _ _ h.1 h.2⟩
abbrev nmS (ws : List Nm) : List Str := ws.map SX.S
theorem nmS_nd {ws : List Nm} (h : ws.Nodup) : (nmS ws).Nodup := by
  rw [List.Nodup, List.pairwise_map]
  exact List.Pairwise.imp (fun h z => h (S_inj z)) h
theorem nx_str {x : List Nat} (h : NX x) : nameB (SX.S x).cps.toList = true ∧ (SX.S x).length ≤ 1000 ∧ PyData.strOk (SX.S x) = true := by
  refine ⟨?_, ?_, h.1⟩
  · rw [S_list]
    exact h.2.1
  · rw [SX.S_len]
    have := h.2.2
    omega
theorem nmS_ok {ws : List Nm} (h : ∀ x ∈ ws, LW x) : ∀ y ∈ nmS ws, nameB y.cps.toList = true ∧ y.length ≤ 1000 ∧ PyData.strOk y = true := fun y hy => by
  obtain ⟨x, hx, rfl⟩ := List.mem_map.mp hy
  exact nx_str (nx_lw (h x hx))
theorem goodT_mono {ns ns' : List Str} {d : PyData} (h : goodT ns d = true) (s : ∀ x ∈ ns, x ∈ ns') : goodT ns' d = true := by
  unfold goodT at h ⊢
  rw [Bool.and_eq_true] at h ⊢
  refine ⟨h.1, List.all_eq_true.mpr fun x hx => decide_eq_true (s x (of_decide_eq_true (List.all_eq_true.mp h.2 x hx)))⟩
theorem lay_tms : ∀ tl : List It, (∀ u ∈ tl, PyData.strOk (SX.S u.1) = true) → PyData.canLayAll0 (tl.map tmP) = true ∧ PyData.depthAll (tl.map tmP) ≤ 2
  | [], _ => ⟨rfl, Nat.zero_le _⟩
  | u :: tl, h => by
    obtain ⟨h1, h2⟩ := lay_tms tl fun v hv => h v (List.mem_cons_of_mem _ hv)
    have hu := h u List.mem_cons_self
    constructor
    · show ((PyData.strOk (SX.S u.1) && ((frP u.2).canLay0 && true)) && PyData.canLayAll0 (tl.map tmP)) = true
      rw [hu, h1]
      rfl
    · rw [List.map_cons, PyData.depthAll.eq_2]
      have : (tmP u).depth = 2 := rfl
      omega
theorem lay_tie {tl : List It} {b : FR} (h : ∀ u ∈ tl, PyData.strOk (SX.S u.1) = true) : layD (tieP tl b) = true := by
  obtain ⟨h1, h2⟩ := lay_tms tl h
  have e1 : (PyData.tuple (tl.map tmP)).canLay0 = true := by
    rw [PyData.canLay0.eq_6]
    exact h1
  have e2 : (PyData.tuple (tl.map tmP)).depth ≤ 3 := by
    rw [PyData.depth.eq_2]
    omega
  show ((((PyData.tuple (tl.map tmP)).canLay0 && ((frP b).canLay0 && true))) && decide ((tieP tl b).depth ≤ 4)) = true
  rw [e1]
  have e3 : (tieP tl b).depth ≤ 4 := by
    show (PyData.tuple [PyData.tuple (tl.map tmP), frP b]).depth ≤ 4
    rw [PyData.depth.eq_2, PyData.depthAll.eq_2, PyData.depthAll.eq_2, PyData.depthAll.eq_1]
    have : (frP b).depth = 1 := rfl
    omega
  rw [decide_eq_true e3]
  rfl
theorem Eqd.up {H : Hp} : ∀ {n : Nat} {v w : V}, Eqd H n v w → Eqd H (n + 1) v w
  | 0, _, _, h => .leaf h
  | n + 1, _, _, h => by
    rcases h with h | ⟨a, b, xs, ys, e1, e2, h, l1, l2, r⟩
    · exact .inl h
    · exact .inr ⟨a, b, xs, ys, e1, e2, h, l1, l2, fun i x y h1 h2 => Eqd.up (r i x y h1 h2)⟩
theorem eqd_strs {H : Hp} {n : Nat} {a b : Addr} {l : List Str} (ha : H a = some (.lst (l.map V.str))) (hb : H b = some (.lst (l.map V.str))) (h : l.length ≤ 1000) : Eqd H (n + 1) (.ref a) (.ref b) := by
  refine .inr ⟨a, b, _, _, rfl, rfl, .inl ⟨ha, hb⟩, rfl, by rw [List.length_map]; exact h, fun i y z h1 h2 => ?_⟩
  have e : y = z := Option.some.inj (h1.symm.trans h2)
  subst e
  rw [List.getElem?_map] at h1
  obtain ⟨o, ho, rfl⟩ := Option.map_eq_some_iff.mp h1
  exact Eqd.leaf ⟨rfl, .inr (.inr (.inr ⟨_, rfl⟩))⟩
theorem prd_at {α β : Type} {R : α → β → Prop} : ∀ {xs : List α} {ys : List β} {i : Nat} {x : α}, Paired R xs ys → xs[i]? = some x → ∃ y, ys[i]? = some y ∧ R x y
  | _, _, 0, _, .cons (b := b) h _, e => by
    cases e
    exact ⟨b, rfl, h⟩
  | _, _, i + 1, _, .cons _ t, e => prd_at (i := i) t e
theorem low39 {x : Nm} (h : LW x) : (39 : Nat) ∉ x := fun z => by
  have := List.all_eq_true.mp h.2.2 _ z
  exact absurd this (by decide)
theorem vS_map (ws : List Nm) : ws.map vS = (nmS ws).map V.str := names_vs ws
theorem eqd_row {H : Hp} {n : Nat} {a b : Addr} {xs ys : List V} (ha : H a = some (.lst xs)) (hb : H b = some (.lst ys)) (l : xs.length ≤ 1000) (h : Paired (Eqd H n) xs ys) : Eqd H (n + 1) (.ref a) (.ref b) :=
  .inr ⟨a, b, xs, ys, rfl, rfl, .inl ⟨ha, hb⟩, Paired.length h, l, fun i x y h1 h2 => by
    obtain ⟨y', e, r⟩ := prd_at h h1
    rw [h2] at e
    cases e
    exact r⟩
theorem eqd_s {H : Hp} {n : Nat} (x : Str) : Eqd H n (.str x) (.str x) := Eqd.leaf ⟨rfl, .inr (.inr (.inr ⟨_, rfl⟩))⟩
theorem eqd_i {H : Hp} {n : Nat} (x : Int) : Eqd H n (.int x) (.int x) := Eqd.leaf ⟨rfl, .inr (.inr (.inl ⟨_, rfl⟩))⟩
theorem eqd_b {H : Hp} {n : Nat} (x : Bool) : Eqd H n (.bl x) (.bl x) := Eqd.leaf ⟨rfl, .inr (.inl ⟨_, rfl⟩)⟩
theorem num_len {n : Nat} (hn : n ≤ 900) : (numS n).length ≤ 3 := by
  have e : numS n = SX.S (TL.numL n) := SX.num_S n
  rw [e, SX.S_len]
  exact TL.numL_len (k := 3) (by decide) (Nat.lt_of_le_of_lt hn (by decide))
/-! ### != of an own class's instance, by its own __eq__ -/
theorem one_bind (self : Value) : bindSpecial (.builtin "object.__ne__") self = pure (.builtin "object.__ne__", [self]) := PySem.F.cmp_object.ne.bind self
section
variable {X : Cx} {CX : CXT} {C f : Addr} {fd : FuncData} {ps : List Str} {n : Nat} {sp : Sp} {E : XK}
theorem op_neO (F : FnOk X.prog X.w X.K X.mg X.base CX n f fd ps sp) (hs : PySem.W.findIn X.K (.ref C) "__eq__" = some (some (.ref f))) (hne : PySem.W.findIn X.K (.ref C) "__ne__" = some (some (.builtin "object.__ne__"))) (hm : PySem.W.mroIn X.K C (.type "object") = some true)
    (hf : PySem.W.isFn X.K (.ref f) = true) (hb : Binds X.K fd ps []) (hx : Passes CX X E) (hr : Room (n + 1) X.A) :
    OpR X (compareOp .NotEq) (fun x y H Q => ∃ a dx fs b dy gs, x = .ref a ∧ H a = some (.ins C dx fs) ∧ y = .ref b ∧ H b = some (.ins C dy gs) ∧ sp [.ref a, y] H (fun v H' => ∃ b, v = .bl b ∧ Q (.bl (!b)) H') E) := by
  intro pins s σ H x y v u Q I rx ry h
  obtain ⟨a, dx, fs, b, dy, gs, rfl, ha, rfl, hb', q⟩ := h
  cases rx
  cases ry
  obtain ⟨mA, J, _⟩ := ins_get I.hok ha
  obtain ⟨od, J, _⟩ := J.look
  obtain ⟨mB, J', _⟩ := ins_get I.hok hb'
  obtain ⟨od', J', _⟩ := J'.look
  obtain ⟨m, hF⟩ := I.fr
  have X0 := I.kIn
  have go : wpAny (model X.prog X.w) X.A.in1 (call (.ref f) [.ref a, .ref b]) (EP X pins σ fun v H' => ∃ b, v = .bl b ∧ Q (.bl (!b)) H') X.xe s := own_run F hb hx (L2.Sub.in1 ⟨hr, rfl⟩) I (show Vals [V.ref a, V.ref b] [Value.ref a, .ref b] from .cons rfl (.cons rfl .nil)) q
  have inner : wpAny (model X.prog X.w) X.A (call (.builtin "object.__ne__") [.ref a, .ref b]) (EP X pins σ fun v H' => (∃ b, v = .bl b) ∧ Q v H') X.xe s := by
    refine wpAny_call (codeAny_call_builtin PySem.F.cmp_object.ne.plain PySem.F.cmpEntry_ne (PySem.W.check_slot PySem.F.cmpKind_ne PySem.F.cmpSplit_ne (J.type.andThen (PySem.W.looks_mroIn X0 hm)) (PySem.F.cmpArgs_ne _ _) ?_))
    unfold Builtin.«object.__ne__»
    refine wpAny_bind (wpAny_pure ?_)
    dsimp only
    refine wpAny_bind (wpAny_cRoomFor hr.in1.units0 ?_)
    refine wpAny_bind (PySem.W.ifBound_K X0 J hs hf (wpAny_mono go (fun v s' hv => ?_) fun _ _ z => z))
    obtain ⟨z, H', I', rz, b', rfl, hq⟩ := hv
    cases rz
    dsimp only
    refine wpAny_bind (wpAny_truthy_bool ?_)
    exact wpAny_pure ⟨.bl (!b'), H', I', rfl, ⟨_, rfl⟩, hq⟩
  show wpAny (model X.prog X.w) X.A (richCompare .NotEq (.ref a) (.ref b)) (EP X pins σ Q) X.xe s
  unfold richCompare
  simp only [oneThing_ref]
  refine wpAny_holding (wpAny_bind (wpAny_cRoomFor hr.units0 ?_))
  refine wpAny_bind (J.type.here (wpAny_bind (J'.type.here ?_)))
  rw [show (Value.ref C != Value.ref C) = false from by simp]
  simp only [Bool.false_eq_true, if_false]
  refine wpAny_bind (wpAny_pure ?_)
  simp only [Bool.false_eq_true, if_false]
  have one : wpAny (model X.prog X.w) X.A (tryCompare (.ref a) "__ne__" (.ref b)) (fun r s' => ∃ v, r = some v ∧ EP X pins σ Q v s') X.xe s := by
    unfold tryCompare
    refine wpAny_bind ?_
    simp only [callSpecialIfBound?, bindSpecialIfBound?]
    refine wpAny_holding (wpAny_bind (wpAny_bind (wpAny_bind (J.type.here ((PySem.W.looks_findIn X0 hne).here ?_)))))
    refine wpAny_bind (wpAny_askSetting (wpAny_ite ?_))
    split
    · rw [one_bind]
      refine wpAny_bind (wpAny_pure (wpAny_pure ?_))
      refine wpAny_bind (wpAny_mono inner (fun v s' hv => ?_) fun _ _ z => z)
      obtain ⟨z, H', I', rz, ⟨b', rfl⟩, hq⟩ := hv
      cases rz
      exact wpAny_pure (wpAny_pure ⟨_, rfl, .bl b', H', I', rfl, hq⟩)
    · rw [one_bind]
      refine wpAny_tryCatch (wpAny_bind (wpAny_pure (wpAny_pure ?_)))
      refine wpAny_bind (wpAny_mono inner (fun v s' hv => ?_) fun _ _ z => z)
      obtain ⟨z, H', I', rz, ⟨b', rfl⟩, hq⟩ := hv
      cases rz
      exact wpAny_pure (wpAny_pure ⟨_, rfl, .bl b', H', I', rfl, hq⟩)
  refine wpAny_bind (wpAny_mono one (fun r s' z => ?_) fun _ _ e => e)
  obtain ⟨v, rfl, hq⟩ := z
  exact wpAny_pure hq
end
/-! ### sorted of two tuples that begin with texts -/
section
open PyProof.Rows.G
@[reducible] def natOrd2 : PyProof.Rows.KeyOrd where
  α := Nat
  blt a b := decide (a < b)
  irrefl a := by simp
  trans a b c h1 h2 := decide_eq_true (Nat.lt_trans (of_decide_eq_true h1) (of_decide_eq_true h2))
  negTrans a b c h := by
    have h := of_decide_eq_true h
    by_cases q : a < b
    · exact .inl (decide_eq_true q)
    · exact .inr (decide_eq_true (by omega))
  total a b h1 h2 := by
    have h1 := of_decide_eq_false h1
    have h2 := of_decide_eq_false h2
    show a = b
    omega
def twoKey (a b : Addr) : Value → Option Nat
  | .ref p => if p = a then some 0 else if p = b then some 1 else none
  | _ => none
@[reducible] def twoKind (a b : Addr) : PyProof.Rows.KeyKind where
  toKeyOrd := natOrd2
  keyOf := twoKey a b
  dflt := 0
variable {prog : Program} {w : World} {A : Around} {E : Value → Shared → Prop} {s : Shared}
theorem eqBool_refl {p : Addr} {Q : Bool → Shared → Prop} (h : Q true s) : wpAny (model prog w) A (eqBool (.ref p) (.ref p)) Q E s := by
  unfold eqBool
  have e : (Value.ref p == Value.ref p) = true := by simp
  refine wpAny_holding ?_
  rw [if_pos e]
  exact wpAny_bind (wpAny_rule (wpAny_pure h))
theorem twoKey_some {a b : Addr} {v : Value} {i : Nat} (h : twoKey a b v = some i) : (v = .ref a ∧ i = 0) ∨ (v = .ref b ∧ i = 1) := by
  cases v with
  | ref p =>
    have h2 : (if p = a then some 0 else if p = b then some 1 else none) = some i := h
    by_cases e : p = a
    · rw [if_pos e] at h2
      exact .inl ⟨by rw [e], (Option.some.inj h2).symm⟩
    · rw [if_neg e] at h2
      by_cases e2 : p = b
      · rw [if_pos e2] at h2
        exact .inr ⟨by rw [e2], (Option.some.inj h2).symm⟩
      · rw [if_neg e2] at h2
        cases h2
  | _ => cases h
/-- the first comes first -/
theorem two_ltAt {a b ra rb : Addr} {x y : Str} {t u : Tok} {na nb : Nat} (ab : a ≠ b) {oa ob : Obj} (ha : s.heap.get? a = some oa) (da : oa.data = .seq #[.str x t, .ref ra] na) (hb : s.heap.get? b = some ob) (db : ob.data = .seq #[.str y u, .ref rb] nb) (lt : x.cps.toList < y.cps.toList) :
    LtAt prog w s (twoKind a b) (PyProof.Rows.tuples' true) := by
  intro A E p q i j Q hp hq h
  have ne : ¬ x = y := fun z => by rw [z] at lt; exact List.lt_irrefl _ lt
  have nl : ¬ y.cps.toList < x.cps.toList := fun z => List.lt_irrefl _ (List.lt_trans lt z)
  rcases twoKey_some hp with ⟨rfl, rfl⟩ | ⟨rfl, rfl⟩ <;> rcases twoKey_some hq with ⟨rfl, rfl⟩ | ⟨rfl, rfl⟩
  · refine PySem.W.kat_lt ha da ha da ?_
    refine PySem.W.kat_cons (wpAny_eqBool_str ?_)
    rw [decide_eq_true rfl]
    refine PySem.W.kat_yes (PySem.W.kat_cons (eqBool_refl (PySem.W.kat_yes (PySem.W.kat_nil ?_))))
    exact h
  · refine PySem.W.kat_lt ha da hb db ?_
    refine PySem.W.kat_cons (wpAny_eqBool_str ?_)
    rw [decide_eq_false ne]
    refine PySem.W.kat_no (PyProof.Rows.oneLt_any_str ?_)
    rw [decide_eq_true lt]
    exact h
  · refine PySem.W.kat_lt hb db ha da ?_
    refine PySem.W.kat_cons (wpAny_eqBool_str ?_)
    rw [decide_eq_false (fun (z : y = x) => ne z.symm)]
    refine PySem.W.kat_no (PyProof.Rows.oneLt_any_str ?_)
    rw [decide_eq_false nl]
    exact h
  · refine PySem.W.kat_lt hb db hb db ?_
    refine PySem.W.kat_cons (wpAny_eqBool_str ?_)
    rw [decide_eq_true rfl]
    refine PySem.W.kat_yes (PySem.W.kat_cons (eqBool_refl (PySem.W.kat_yes (PySem.W.kat_nil ?_))))
    exact h
open PyProof.Rows in
theorem two_out {a b : Addr} {vs : List Value} {arr : Array Keyed} (ab : a ≠ b) (hv : vs = [.ref a, .ref b] ∨ vs = [.ref b, .ref a]) (hp : arr.Perm (pairsOf vs)) (hs : SortedToK (twoKind a b) arr (pairsOf vs).size) : arr.map (·.2) = #[Value.ref a, Value.ref b] := by
  have hl0 : arr.toList.Perm (vs.zip vs) := by
    have e := Array.perm_iff_toList_perm.mp hp
    rw [pairsOf_toList] at e
    exact e
  have hl : arr.toList.Perm [((Value.ref a, Value.ref a) : Keyed), (Value.ref b, Value.ref b)] := by
    rcases hv with rfl | rfl
    · exact hl0
    · exact hl0.trans (List.Perm.swap _ _ _)
  have hz : (pairsOf vs).size = 2 := by
    rw [pairsOf_size]
    rcases hv with rfl | rfl <;> rfl
  have hlen : arr.toList.length = 2 := hl.length_eq
  obtain ⟨x, y, hxy⟩ : ∃ x y, arr.toList = [x, y] := by
    match hm : arr.toList, hlen with
    | [x, y], _ => exact ⟨x, y, rfl⟩
  rw [hxy] at hl
  have nd : [x, y].Nodup := hl.nodup_iff.mpr (by simp [ab])
  have hx : x = (Value.ref a, Value.ref a) ∨ x = (Value.ref b, Value.ref b) := by
    have e := hl.mem_iff.mp (List.mem_cons_self : x ∈ [x, y])
    simpa using e
  have hy : y = (Value.ref a, Value.ref a) ∨ y = (Value.ref b, Value.ref b) := by
    have e := hl.mem_iff.mp (show y ∈ [x, y] by simp)
    simpa using e
  have e0 : arr[0]? = some x := by rw [← Array.getElem?_toList, hxy]; rfl
  have e1 : arr[1]? = some y := by rw [← Array.getElem?_toList, hxy]; rfl
  have k0 : KK (twoKind a b) arr 0 = (twoKey a b x.1).getD 0 := by unfold KK; rw [e0]
  have k1 : KK (twoKind a b) arr 1 = (twoKey a b y.1).getD 0 := by unfold KK; rw [e1]
  have s01 : decide ((twoKey a b y.1).getD 0 < (twoKey a b x.1).getD 0) = false := by
    have e := hs 0 1 (by omega) (by omega)
    rw [k0, k1] at e
    exact e
  have harr : arr = #[x, y] := Array.ext' hxy
  have ka : (twoKey a b (.ref a)).getD 0 = 0 := by simp [twoKey]
  have kb : (twoKey a b (.ref b)).getD 0 = 1 := by simp [twoKey, ab.symm]
  rw [harr]
  rcases hx with rfl | rfl <;> rcases hy with rfl | rfl
  · simp at nd
  · simp
  · dsimp only at s01
    rw [ka, kb] at s01
    exact absurd s01 (by decide)
  · simp at nd
end
section
variable {X : Cx}
open PyProof.Rows.G in
theorem cr_sortT2 : CallR X (.builtin "sorted") (fun vs H Q => ∃ (p a b ra rb : Addr) (x y : Str), vs = [.ref p] ∧ H p = some (.lst [.ref a, .ref b]) ∧ H a = some (.tup [.str x, .ref ra]) ∧ H b = some (.tup [.str y, .ref rb]) ∧ x.cps.toList ≠ y.cps.toList ∧
    ∀ q, H q = none → Q (.ref q) (upd H q (.lst (if x.cps.toList < y.cps.toList then [.ref a, .ref b] else [.ref b, .ref a])))) := by
  intro pins s σ H vs us Q I r h
  obtain ⟨p, a, b, ra, rb, x, y, rfl, hp, ha, hb, ne, q⟩ := h
  rw [Vals.ref1 r]
  obtain ⟨_, ia, rva, oa, hoa, ca, na, da⟩ := I.hok a _ ha
  obtain ⟨_, ib, rvb, ob, hob, cb, nb, db⟩ := I.hok b _ hb
  obtain ⟨its, rv, hl, _⟩ := I.list (SqL.of hp : SqL X.K H p _)
  obtain ⟨u1, u2, rfl, r1, r2⟩ := vals2 rv
  cases r1
  cases r2
  obtain ⟨v1, v2, rfl, r1, r2⟩ := vals2 rva
  obtain ⟨t1, rfl⟩ := r1
  cases r2
  obtain ⟨v1, v2, rfl, r1, r2⟩ := vals2 rvb
  obtain ⟨t2, rfl⟩ := r1
  cases r2
  have ab : a ≠ b := fun z => by
    subst z
    rw [hoa] at hob
    cases hob
    rw [da] at db
    injection db with e1 e2
    have e3 := congrArg Array.toList e1
    injection e3 with e4 e5
    injection e4 with e6 e7
    exact ne (by rw [e6])
  have ht : PyProof.Rows.TupsOf s.heap (fun _ => true) [.ref a, .ref b] [.str x t1, .str y t2] :=
    .cons ⟨a, oa, _, na, rfl, hoa, ca, da, rfl, (fun z => nomatch z), (fun _ => ⟨_, _, rfl⟩)⟩ (.cons ⟨b, ob, _, nb, rfl, hob, cb, db, rfl, (fun z => nomatch z), (fun _ => ⟨_, _, rfl⟩)⟩ .nil)
  have done : ∀ (lo hi : Addr) (out : Array Value), (if x.cps.toList < y.cps.toList then [V.ref a, V.ref b] else [V.ref b, V.ref a]) = [V.ref lo, V.ref hi] → out = #[Value.ref lo, Value.ref hi] →
      EP X pins σ Q (.ref (s.heap.objs.size + 1)) { s with heap := PyProof.Rows.sortedAll s.heap [.ref a, .ref b] out } := fun lo hi out e eo => by
    obtain ⟨ep, he'⟩ := PyProof.Rows.sortedAll_at s.heap [.ref a, .ref b] out
    have hlen : [V.ref lo, V.ref hi].length ≤ sizeLine := small64 (by show 2 < 64; decide)
    have q2 := q (s.heap.objs.size + 1) (I.hok.fresh (Nat.le_succ _))
    rw [e] at q2
    exact ⟨.ref _, _, I.laid (t' := s.toks) (o := .lst [V.ref lo, V.ref hi]) (fun _ _ => PyProof.Rows.sortedAll_old) (Nat.le_succ _) ⟨hlen, out.toList, ep, by rw [eo]; exact .cons rfl (.cons rfl .nil), by rw [Array.toArray_toList]; exact he'⟩, rfl, q2⟩
  have kind : ∀ (A : Around) (E : Value → Shared → Prop) (s2 : Shared) {Q : SortKind → Shared → Prop}, KeepsTups s.heap s2.heap → Q (PyProof.Rows.tuples' true) s2 → wpAny (model X.prog X.w) A (PyProof.Rows.keyKind' ([Value.ref a, .ref b] : List Value).toArray) Q E s2 :=
    fun A E s2 Q k hq => PyProof.Rows.tup_kind (by show 0 < 2; decide) (TupsOf.keep k ht) hq
  by_cases lt : x.cps.toList < y.cps.toList
  · rw [if_pos lt] at done
    refine sortedG (κ := twoKind a b) (kd := PyProof.Rows.tuples' true) hl.isList (fun p hp => ?_) (fun s2 k => two_ltAt ab (k _ _ hoa ca) da (k _ _ hob cb) db lt) (fun _ A E s2 => kind A E s2) (small64 (by show 2 < 64; decide)) fun st' h1 h2 _ => done a b _ rfl (two_out ab (.inl rfl) h1 h2)
    rw [PyProof.Rows.pairsOf_toList] at hp
    rcases List.mem_cons.mp hp with rfl | hp
    · exact ⟨0, by simp [twoKey]⟩
    · rw [List.mem_singleton.mp hp]
      exact ⟨1, by simp [twoKey, ab.symm]⟩
  · rw [if_neg lt] at done
    have gt : y.cps.toList < x.cps.toList := by
      by_cases gt : y.cps.toList < x.cps.toList
      · exact gt
      · exact absurd (List.le_antisymm (List.not_lt.mp gt) (List.not_lt.mp lt)) ne
    refine sortedG (κ := twoKind b a) (kd := PyProof.Rows.tuples' true) hl.isList (fun p hp => ?_) (fun s2 k => two_ltAt ab.symm (k _ _ hob cb) db (k _ _ hoa ca) da gt) (fun _ A E s2 => kind A E s2) (small64 (by show 2 < 64; decide)) fun st' h1 h2 _ => done b a _ rfl (two_out ab.symm (.inr rfl) h1 h2)
    rw [PyProof.Rows.pairsOf_toList] at hp
    rcases List.mem_cons.mp hp with rfl | hp
    · exact ⟨1, by simp [twoKey, ab]⟩
    · rw [List.mem_singleton.mp hp]
      exact ⟨0, by simp [twoKey]⟩
end
/-! ### names of steps -/
/-- an apostrophe at the end -/
def endQ (a : List Nat) : Bool := decide (a.getLast? = some 39)
theorem ends_quote (a : List Nat) : Txt.endswith (SX.S a) (SX.S [39]) = endQ a := by
  rcases List.eq_nil_or_concat a with rfl | ⟨b, c, rfl⟩
  · rfl
  · rw [List.concat_eq_append]
    unfold Txt.endswith
    have e1 : decide (0 + (SX.S [39]).length ≤ (SX.S (b ++ [c])).length) = true := by
      rw [SX.S_len, SX.S_len, List.length_append]
      exact decide_eq_true (by show 0 + 1 ≤ b.length + 1; omega)
    first
      | rw [e1, Bool.true_and, last_at]
      | (rw [Nat.zero_add] at e1; rw [e1, Bool.true_and, last_at])
    unfold endQ
    rw [List.getLast?_append, List.getLast?_singleton, Option.some_or]
    by_cases h : c = 39
    · rw [decide_eq_true h, decide_eq_true (by rw [h])]
    · rw [decide_eq_false h, decide_eq_false (fun z => h (Option.some.inj z))]
theorem ends_str (x : Str) : Txt.endswith x (Str.ofString "'") = endQ x.cps.toList := by
  have := ends_quote x.cps.toList
  rwa [S_of, ← quote] at this
/-- what a name of a step is -/
def stepN (x : Str) : Bool := nameB x.cps.toList && !endQ x.cps.toList
/-- the first name that is none, or there before, or beyond the third -/
def firstBadS : Nat → List Str → List Str → Option Nat
  | _, _, [] => none
  | i, pre, x :: r => if (stepN x = true ∧ x ∉ pre) ∧ i < 3 then firstBadS (i + 1) (pre ++ [x]) r else some i
abbrev prS (ns : List Str) : List Str := ns.map fun x => x ++ Str.ofString "'"
def PrQ (H : Hp) (Q : VK) (ns : List Str) : Prop := ∀ D H', H D = none → Same H H' → H' D = some (.lst ((prS ns).map V.str)) → Q (.ref D) H'
section
variable {P : Program} {w : World} {K : PySem.W.Frag} {mg : Str → Option Value} {base : Heap} {fa : Nat → Addr} {fd : Nat → FuncData}
def spPrB (K : PySem.W.Frag) : Sp := fun vs H Q _ => ∃ (L : Addr) (ns : List Str), vs = [.ref L] ∧ SqB K H L (ns.map V.str) ∧ ns.length ≤ 900 ∧ (∀ x ∈ ns, x.length ≤ 900) ∧ PrQ H Q ns
theorem ok_p_primedL (T : Txt K mg fa fd) : FnOk P w K mg base CX0 1 (fa 141) (fd 141) ["names"] (fun vs H Q _ => ∃ (L : Addr) (ns : List Str), vs = [.ref L] ∧ SqL K H L (ns.map V.str) ∧ ns.length ≤ 900 ∧ (∀ x ∈ ns, x.length ≤ 900) ∧ PrQ H Q ns) := by
  refine T.F_p_primed.ok sc_p_primed (fun vs H Q E h => ?_) (fun cdv A outer s H vs Q E hr h => ?_)
  · obtain ⟨L, ns, rfl, _⟩ := h
    rfl
  · obtain ⟨L, ns, rfl, hL, hsz, hlen, q⟩ := h
    refine ⟨_, (pss_one (ps_ret (pe_lc (own := [("name", 1)]) (g := gName 1) (tt := tYes) rfl sc_p_primed.nd (pi_list (pv 0)) (blkOk_by (own := [("name", 1)]) (N := ["names", "name"]) (sc := defScope s_p_primed) (by decide +kernel)) (fun _ _ _ _ _ => pg_name (i := 1) sc_p_primed.nd rfl (Or.inl rfl)) (fun _ _ _ _ _ => pts_nil) (fun _ _ _ _ _ => (pe_op op_add_str (pv 1) pe_str))))), ?_⟩
    refine ⟨_, rfl, L, rfl, ⟨_, hL⟩, fun D nD => ?_⟩
    refine lc_list (K := K) (a := L) (xs := ns.map V.str) (fun i G => Same H G ∧ G D = some (.lst (((ns.take i).map fun x => x ++ Str.ofString "'").map V.str))) ⟨same_upd nD, upd_same⟩ (fun i G _ hq => SqL.sm hq.1 hL) (fun i x G hx hq => ?_) (fun G hq => ?_)
    · rw [List.getElem?_map] at hx
      obtain ⟨n, hz, rfl⟩ := Option.map_eq_some_iff.mp hx
      have il := (List.getElem?_eq_some_iff.mp hz).1
      have ln := hlen n (List.mem_of_getElem? hz)
      refine ⟨rfl, _, rfl, _, _, rfl, rfl, small_line (by have : (Str.ofString "'" : Str).length = 1 := (by decide +kernel); omega), _, hq.2, small1000 (by rw [List.length_map, List.length_map, List.length_take]; omega), fun b o e => (upd_ne (ne_of_none e nD)).trans (hq.1 _ _ e), ?_⟩
      rw [upd_same, List.take_add_one, hz, List.map_append, List.map_append]
      rfl
    · rw [List.length_map, List.take_length] at hq
      exact q D G nD hq.1 hq.2
theorem ok_p_primedT (T : Txt K mg fa fd) : FnOk P w K mg base CX0 1 (fa 141) (fd 141) ["names"] (fun vs H Q _ => ∃ (L : Addr) (ns : List Str), vs = [.ref L] ∧ SqT K H L (ns.map V.str) ∧ ns.length ≤ 900 ∧ (∀ x ∈ ns, x.length ≤ 900) ∧ PrQ H Q ns) := by
  refine T.F_p_primed.ok sc_p_primed (fun vs H Q E h => ?_) (fun cdv A outer s H vs Q E hr h => ?_)
  · obtain ⟨L, ns, rfl, _⟩ := h
    rfl
  · obtain ⟨L, ns, rfl, hL, hsz, hlen, q⟩ := h
    refine ⟨_, (pss_one (ps_ret (pe_lc (own := [("name", 1)]) (g := gName 1) (tt := tYes) rfl sc_p_primed.nd (pi_tup (pv 0)) (blkOk_by (own := [("name", 1)]) (N := ["names", "name"]) (sc := defScope s_p_primed) (by decide +kernel)) (fun _ _ _ _ _ => pg_name (i := 1) sc_p_primed.nd rfl (Or.inl rfl)) (fun _ _ _ _ _ => pts_nil) (fun _ _ _ _ _ => (pe_op op_add_str (pv 1) pe_str))))), ?_⟩
    refine ⟨_, rfl, L, rfl, ⟨_, hL⟩, fun D nD => ?_⟩
    refine lc_tup (K := K) (a := L) (xs := ns.map V.str) (fun i G => Same H G ∧ G D = some (.lst (((ns.take i).map fun x => x ++ Str.ofString "'").map V.str))) ⟨same_upd nD, upd_same⟩ (fun i G _ hq => SqT_sm hq.1 hL) (fun i x G hx hq => ?_) (fun G hq => ?_)
    · rw [List.getElem?_map] at hx
      obtain ⟨n, hz, rfl⟩ := Option.map_eq_some_iff.mp hx
      have il := (List.getElem?_eq_some_iff.mp hz).1
      have ln := hlen n (List.mem_of_getElem? hz)
      refine ⟨rfl, _, rfl, _, _, rfl, rfl, small_line (by have : (Str.ofString "'" : Str).length = 1 := (by decide +kernel); omega), _, hq.2, small1000 (by rw [List.length_map, List.length_map, List.length_take]; omega), fun b o e => (upd_ne (ne_of_none e nD)).trans (hq.1 _ _ e), ?_⟩
      rw [upd_same, List.take_add_one, hz, List.map_append, List.map_append]
      rfl
    · rw [List.length_map, List.take_length] at hq
      exact q D G nD hq.1 hq.2
theorem ok_p_primedB (T : Txt K mg fa fd) : FnOk P w K mg base CX0 1 (fa 141) (fd 141) ["names"] (spPrB K) :=
  (FnOk.or (ok_p_primedL T) (ok_p_primedT T)).imp fun vs H Q E ⟨L, ns, e, h, r⟩ => h.elim (fun h => .inl ⟨L, ns, e, h, r⟩) fun h => .inr ⟨L, ns, e, h, r⟩
end
section
variable {P : Program} {w : World} {K : PySem.W.Frag} {mg : Str → Option Value} {base : Heap} {fa : Nat → Addr} {fd : Nat → FuncData}
theorem scIN : FnScope ["self", "name"] ["self", "name"] (defScope (inClass (topS 4) 0)) := ⟨rfl, rfl, rfl, by decide +kernel, rfl, by decide +kernel, by decide +kernel⟩
theorem ok_InvalidName (T : Txt K mg fa fd) : FnOk P w K mg base CX0 1 (fa 1004) (fd 1004) ["self", "name"] (spInit1 K "name" "InvalidName") := by
  refine T.IInvalidName.ok scIN (fun vs H Q E h => ?_) (fun cdv A outer s H vs Q E hr h => ?_)
  · obtain ⟨a, C, v, rfl, _⟩ := h
    rfl
  · obtain ⟨a, C, v, rfl, hC, h1, h2, ha, q⟩ := h
    refine ⟨_, pss_cons (ps_ost (pv 0) (pv 1)) (pss_one (ps_ost (pv 0) pe_str)), ?_⟩
    refine ⟨_, rfl, _, rfl, a, C, rfl, hC, h1, .inl ⟨ha, fun dx nd ne => ?_⟩⟩
    refine ⟨_, rfl, a, C, rfl, hC, h2, .inr ⟨dx, _, upd_same, ?_, by show 1 ≤ 900; decide, q dx nd ne⟩⟩
    rw [upd_ne ne, upd_same]
theorem scIT : FnScope ["self", "at"] ["self", "at"] (defScope (inClass (topS 5) 0)) := ⟨rfl, rfl, rfl, by decide +kernel, rfl, by decide +kernel, by decide +kernel⟩
theorem ok_InvalidTie (T : Txt K mg fa fd) : FnOk P w K mg base CX0 1 (fa 1005) (fd 1005) ["self", "at"] (spInit1 K "at" "InvalidTie") := by
  refine T.IInvalidTie.ok scIT (fun vs H Q E h => ?_) (fun cdv A outer s H vs Q E hr h => ?_)
  · obtain ⟨a, C, v, rfl, _⟩ := h
    rfl
  · obtain ⟨a, C, v, rfl, hC, h1, h2, ha, q⟩ := h
    refine ⟨_, pss_cons (ps_ost (pv 0) (pv 1)) (pss_one (ps_ost (pv 0) pe_str)), ?_⟩
    refine ⟨_, rfl, _, rfl, a, C, rfl, hC, h1, .inl ⟨ha, fun dx nd ne => ?_⟩⟩
    refine ⟨_, rfl, a, C, rfl, hC, h2, .inr ⟨dx, _, upd_same, ?_, by show 1 ≤ 900; decide, q dx nd ne⟩⟩
    rw [upd_ne ne, upd_same]
/-- an error with one field is raised from the heap H -/
def OneE (E : XK) (C : Addr) (H : Hp) (tag f : Str) (v : V) : Prop := ∀ d H', Same H H' → H' d = some (.xd [("tag", .str tag), (f, v)]) → E (.ref C) (some d) H'
theorem OneE.of {E : XK} {C : Addr} {H H2 : Hp} {tag f : Str} {v : V} (h : OneE E C H tag f v) (s : Same H H2) : OneE E C H2 tag f v := fun d H' s' e => h d H' (s.trans s') e
end

/-- what holds of a call Step(names, ties) that is right -/
structure StepA (K : PySem.W.Frag) (H : Hp) (L T : Addr) (ns : List Str) (us : List V) : Prop where
  ln : SqB K H L (ns.map V.str)
  lt : SqB K H T us
  ds : ∃ z ds, DtAll z H us ds ∧ firstBadT (ns ++ prS ns) 0 ds = none
  us : us.length ≤ 900
  fb : firstBadS 0 [] ns = none
  nd : ns.Nodup
  sz : ns.length ≤ 3
  lx : ∀ x ∈ ns, x.length ≤ 900
theorem StepA.same {K : PySem.W.Frag} {H H' : Hp} {L T : Addr} {ns : List Str} {us : List V} (h : StepA K H L T ns us) (s : Same H H') : StepA K H' L T ns us := by
  obtain ⟨z, ds, a, b⟩ := h.ds
  exact ⟨h.ln.sm s, h.lt.sm s, ⟨z, ds, a.same s, b⟩, h.us, h.fb, h.nd, h.sz, h.lx⟩
theorem cutT_no {i n : Nat} (il : i < n) : ¬ (HT.sIx n 0 none = 0 ∧ HT.sIx n n (some (i : Int)) = n) := fun z => by
  have z2 := z.2
  rw [HT.sIx_nat] at z2
  omega
section
variable {P : Program} {w : World} {K : PySem.W.Frag} {mg : Str → Option Value} {base : Heap} {fa : Nat → Addr} {fd : Nat → FuncData}
def spStepI (K : PySem.W.Frag) (C : Addr) : Sp := fun vs H Q _ => ∃ (self L T : Addr) (ns : List Str) (us : List V) (dx : Addr), vs = [.ref self, .ref L, .ref T] ∧ H self = some (.ins C dx []) ∧ StepA K H L T ns us ∧
  ∀ H', (∀ b o, b ≠ self → H b = some o → H' b = some o) → LotH K C H' self ns us → Q .non H'
def spStepS (S : PySem.W.Frag → Hp → Addr → List V → Prop) (K : PySem.W.Frag) (C : Addr) : Sp := fun vs H Q _ => ∃ (self L T : Addr) (ns : List Str) (us : List V) (dx : Addr), vs = [.ref self, .ref L, .ref T] ∧ H self = some (.ins C dx []) ∧ StepA K H L T ns us ∧ S K H L (ns.map V.str) ∧
  ∀ H', (∀ b o, b ≠ self → H b = some o → H' b = some o) → LotH K C H' self ns us → Q .non H'
theorem ok_p_StepInitL (T : Txt K mg fa fd) : FnOk P w K mg base CX0 7 (fa 1600) (fd 1600) ["self", "names", "ties"] (spStepS (fun K H L xs => SqL K H L xs) K (fa 146)) := by
  refine T.F_StepInit.ok sc_p_StepInit (fun vs H Q E h => ?_) (fun cdv A outer s H vs Q E hr h => ?_)
  · obtain ⟨self, L, T, ns, us, dx, rfl, _⟩ := h
    rfl
  · obtain ⟨self, L, T0, ns, us, dx, rfl, hself, hA, hL, q⟩ := h
    refine ⟨_, PSs.nox (C8.pss_cut (ps_for PassesOwn.never rfl (pi_enum (by rfl) T.m_enumerate (pa_cons (pv 1) pa_nil)) (pg_tup (by rfl) (pgs_cons (pg_name (i := 3) sc_p_StepInit.nd rfl (.inl rfl)) (pgs_cons (pg_name (i := 4) sc_p_StepInit.nd rfl (.inl rfl)) pgs_nil))) (pss_one (ps_if (PW.pt (pw_or (pt_not (pt_val (pe_call (ok_p_is_name T) (hr.mono (by decide)) (by rfl) T.g_p_is_name T.F_p_is_name.kp T.b_p_is_name .nil pass0 (pa_cons (pv 4) pa_nil)))) (pw_or (pt_val (pe_m1 PySem.F.slot_str_endswith PySem.F.type_str_endswith mt_endswith (pv 4) pe_str (by rfl) (by rfl) (by rfl))) (pw_or (pt_cmpR op_in_seq (pv 4) (pe_slice sl_list (pv 1) po_none (po_some (pv 3))) (by rfl)) (pw_or1 (pt_cmpR op_ge (pv 3) (pe_clsI T.most_Step.choose_spec.choose_spec (pe_glob (v := V.ref (fa 146)) (by rfl) T.g_Step rfl)) (nomark _))))))) (pss_one ps_never) pss_nil)))
      (C8.pss_cut (ps_set (i := 5) sc_p_StepInit.nd rfl (.inl rfl) (pe_call (ok_p_first_wrong_tieB T) (hr.mono (by decide)) (by rfl) T.g_p_first_wrong_tie T.F_p_first_wrong_tie.kp T.b_p_first_wrong_tie .nil pass0 (pa_cons (pv 2) (pa_cons (pe_op op_cat (pe_callTy call_list_of (by rfl) T.m_list (by decide +kernel) (pa_cons (pv 1) pa_nil)) (pe_call (ok_p_primedB T) (hr.mono (by decide)) (by rfl) T.g_p_primed T.F_p_primed.kp T.b_p_primed .nil pass0 (pa_cons (pv 1) pa_nil))) pa_nil))))
      (C8.pss_cut (ps_if (pt_cmpR op_notN (pv 5) pe_non (nomark _)) (pss_one ps_never) pss_nil)
      (C8.pss_cut (ps_fld (pv 0) (pe_callTy call_tuple_of (by rfl) T.m_tuple (by decide +kernel) (pa_cons (pe_call (ok_p_ascendingB T) (hr.mono (by decide)) (by rfl) T.g_p_ascending T.F_p_ascending.kp T.b_p_ascending .nil pass0 (pa_cons (pv 1) pa_nil)) pa_nil)) (by rfl))
      (pss_one (ps_fld (pv 0) (pe_callTy call_tuple_of (by rfl) T.m_tuple (by decide +kernel) (pa_cons (pv 2) pa_nil)) (by rfl))))))), ?_⟩
    refine ⟨fun σ H1 => Same H H1 ∧ ∃ y3 y4, σ = [some (.ref self), some (.ref L), some (.ref T0), y3, y4, none], ?_, fun σ H1 hM => ?_⟩
    · refine ⟨_, rfl, L, _, rfl, hL, for_enum (K := K) (a := L) (xs := ns.map V.str) (fun i σ G => Same H G ∧ firstBadS 0 [] ns = firstBadS i (ns.take i) (ns.drop i) ∧ ∃ y3 y4, σ = [some (.ref self), some (.ref L), some (.ref T0), y3, y4, none]) ⟨Same.refl H, rfl, _, _, rfl⟩ (fun i σ G _ hq => SqL.sm hq.1 hL) (fun i x σ G Tt hx hq nT => ?_) (fun σ G hq => ?_)⟩
      · obtain ⟨sG, fb, y3, y4, rfl⟩ := hq
        rw [List.getElem?_map] at hx
        obtain ⟨n, hz, rfl⟩ := Option.map_eq_some_iff.mp hx
        have lt : i < ns.length := (List.getElem?_eq_some_iff.mp hz).1
        have dr : ns.drop i = n :: ns.drop (i + 1) := by
          rw [List.drop_eq_getElem_cons lt]
          congr 1
          exact (List.getElem?_eq_some_iff.mp hz).2
        rw [dr, hA.fb] at fb
        have sT := same_upd (o := .tup [V.int (i : Nat), .str n]) nT
        have s1 := sG.trans sT
        have mem : n ∈ ns := List.mem_of_getElem? hz
        have ok : (stepN n = true ∧ n ∉ ns.take i) ∧ i < 3 := by
          apply Decidable.byContradiction
          intro z
          have e : firstBadS i (ns.take i) (n :: ns.drop (i + 1)) = some i := by
            show (if _ then _ else _) = _
            rw [if_neg z]
          rw [e] at fb
          cases fb
        have fb2 : firstBadS i (ns.take i) (n :: ns.drop (i + 1)) = firstBadS (i + 1) (ns.take (i + 1)) (ns.drop (i + 1)) := by
          show (if _ then _ else _) = _
          rw [if_pos ok, List.take_add_one, hz]
          rfl
        have hn := ok.1.1
        unfold stepN at hn
        rw [Bool.and_eq_true, Bool.not_eq_true'] at hn
        refine ⟨Tt, _, rfl, SqT.of upd_same, rfl, _, _, rfl, _, _, rfl, rfl, ?_⟩
        have hb' : nameD (.str n) = true := hn.1
        have l9 := hA.lx n mem
        refine ⟨_, rfl, _, _, 0, rfl, .str n (by omega), _, rfl, ?_⟩
        rw [hb']
        refine iteF ⟨_, rfl, ⟨_, rfl⟩, _, _, rfl, rfl, _, rfl, ?_⟩
        rw [ends_str, hn.2]
        refine iteF ⟨_, rfl, _, rfl, _, rfl, _, rfl, L, _, rfl, SqL.sm s1 hL, fun p np => ?_⟩
        have sp := same_upd (o := .lst (cutV (ns.map V.str) none (some (i : Int)))) np
        have ec : cutV (ns.map V.str) none (some (i : Int)) = (ns.take i).map V.str := by
          rw [cut_take _ _ (by rw [List.length_map]; omega), List.map_take]
        refine ⟨p, _, rfl, .inl (SqL.of upd_same), rfl, ?_, _, rfl, ?_⟩
        · rw [ec]
          exact flat_strs _
        · rw [ec] at sp ⊢
          rw [inV_strs, decide_eq_false ok.1.2]
          refine iteF ⟨_, rfl, rfl, _, _, rfl, rfl, _, rfl, ?_⟩
          rw [decide_eq_false (by omega)]
          exact iteF ⟨s1.trans sp, by rw [hA.fb, fb, fb2], _, _, rfl⟩
      · obtain ⟨sG, fb, y3, y4, rfl⟩ := hq
        exact ⟨sG, _, _, rfl⟩
    obtain ⟨s1, y3, y4, rfl⟩ := hM
    have hA1 := hA.same s1
    refine ⟨fun σ H2 => Same H H2 ∧ σ = [some (.ref self), some (.ref L), some (.ref T0), y3, y4, some .non], ?_, fun σ H2 hM => ?_⟩
    · obtain ⟨z, ds, hds, hbt⟩ := hA1.ds
      refine ⟨_, rfl, _, rfl, L, _, rfl, .inl (SqL.sm s1 hL), fun l nl => ?_⟩
      have sl := same_upd (o := .lst (ns.map V.str)) nl
      refine ⟨_, rfl, L, ns, rfl, hA1.ln.sm sl, by have := hA.sz; omega, hA.lx, fun D H3 nD s3 hD => ?_⟩
      refine ⟨l, D, _, _, rfl, rfl, s3 _ _ upd_same, hD, small_line (by have := hA.sz; rw [List.length_map, List.length_map, List.length_map]; omega), fun q2 nq2 => ?_⟩
      have s4 := sl.trans (s3.trans (same_upd (o := .lst (ns.map V.str ++ (prS ns).map V.str)) nq2))
      refine ⟨T0, q2, us, ds, ns ++ prS ns, z, rfl, hA1.lt.sm s4, hds.same s4, hA.us, .inl (SqL.of (by rw [upd_same, List.map_append])), fun H' s' => ⟨s1.trans (s4.trans s'), ?_⟩⟩
      rw [hbt]
      rfl
    obtain ⟨s2, rfl⟩ := hM
    have hA2 := hA.same s2
    refine ⟨fun σ H2 => Same H H2 ∧ σ = [some (.ref self), some (.ref L), some (.ref T0), y3, y4, some .non], ⟨_, rfl, rfl, _, rfl, iteF ⟨s2, rfl⟩⟩, fun σ H4 hM => ?_⟩
    obtain ⟨s4, rfl⟩ := hM
    have hA4 := hA.same s4
    refine ⟨fun σ G => ∃ p1 ms, (∀ b o, b ≠ self → H b = some o → G b = some o) ∧ G self = some (.ins (fa 146) dx [("unknowns", .ref p1)]) ∧ G p1 = some (.tup (ms.map V.str)) ∧ p1 ≠ self ∧ ms.Perm ns ∧ sortedS ms = true ∧ σ = [some (.ref self), some (.ref L), some (.ref T0), y3, y4, some .non], ?_, fun σ G hM => ?_⟩
    · refine ⟨_, rfl, L, ns, rfl, .inl hA4.ln, hA4.nd, by have := hA4.sz; omega, fun x hx => by have := hA4.lx x hx; omega, fun p ms H5 s5 np hp perm srt => ?_⟩
      refine ⟨p, _, rfl, .inl ⟨SqL.of hp, fun p1 np1 => ?_⟩⟩
      have sp := same_upd (o := .tup (ms.map V.str)) np1
      have hs5 := (s4.trans s5) _ _ hself
      have hs6 := sp _ _ hs5
      have np1s : p1 ≠ self := fun e => by rw [e, hs5] at np1; cases np1
      refine ⟨_, rfl, self, _, dx, [], rfl, hs6, T.cl_Step, T.na_Step_unknowns, by show 0 < 1000; decide, p1, ms, fun b o nb e => (upd_ne nb).trans (((s4.trans s5).trans sp) _ _ e), upd_same, ?_, np1s, perm, srt, rfl⟩
      rw [upd_ne np1s, upd_same]
    obtain ⟨p1, ms, oth, hs, hp1, np1s, perm, srt, rfl⟩ := hM
    have ltG : SqB K G T0 us := by
      rcases hA.lt with h | h
      · refine .inl ?_
        rcases h with (e | ⟨o, e⟩) | e
        · exact .inl (.inl (oth _ _ (fun z => by rw [z, hself] at e; cases e) e))
        · exact .inl (.inr ⟨o, oth _ _ (fun z => by rw [z, hself] at e; cases e) e⟩)
        · exact .inr e
      · refine .inr ?_
        rcases h with (e | ⟨o, e⟩) | e
        · exact .inl (.inl (oth _ _ (fun z => by rw [z, hself] at e; cases e) e))
        · exact .inl (.inr ⟨o, oth _ _ (fun z => by rw [z, hself] at e; cases e) e⟩)
        · exact .inr e
    have fin : ∀ (p2 : Addr) (G2 : Hp), (∀ b o, G b = some o → G2 b = some o) → (∀ o, SqT K (upd G2 self o) p2 us) → Q .non (upd G2 self (.ins (fa 146) dx [("unknowns", .ref p1), ("bonds", .ref p2)])) := fun p2 G2 sg h2 => by
      refine q _ (fun b o nb e => (upd_ne nb).trans (sg _ _ (oth b o nb e))) ⟨dx, p1, p2, ms, upd_same, SqT.of ((upd_ne np1s).trans (sg _ _ hp1)), perm, srt, h2 _⟩
    refine ⟨_, rfl, T0, us, rfl, ?_⟩
    rcases ltG with h | h
    · refine .inl ⟨h, fun p2 np2 => ?_⟩
      have sp := same_upd (o := .tup us) np2
      have n2 : p2 ≠ self := fun e => by rw [e, hs] at np2; cases np2
      exact ⟨_, rfl, self, _, dx, _, rfl, sp _ _ hs, T.cl_Step, T.na_Step_bonds, by show 1 < 1000; decide, fin p2 _ sp fun o => SqT.of ((upd_ne n2).trans upd_same)⟩
    · refine .inr ⟨h, ?_⟩
      refine ⟨_, rfl, self, _, dx, _, rfl, hs, T.cl_Step, T.na_Step_bonds, by show 1 < 1000; decide, fin T0 _ (fun _ _ e => e) fun o => ?_⟩
      rcases h with (e | ⟨o, e⟩) | e
      · exact .inl (.inl ((upd_ne (fun z => by rw [z, hs] at e; cases e)).trans e))
      · exact .inl (.inr ⟨_, (upd_ne (fun z => by rw [z, hs] at e; cases e)).trans e⟩)
      · exact .inr e
theorem ok_p_StepInitT (T : Txt K mg fa fd) : FnOk P w K mg base CX0 7 (fa 1600) (fd 1600) ["self", "names", "ties"] (spStepS (fun K H L xs => SqT K H L xs) K (fa 146)) := by
  refine T.F_StepInit.ok sc_p_StepInit (fun vs H Q E h => ?_) (fun cdv A outer s H vs Q E hr h => ?_)
  · obtain ⟨self, L, T, ns, us, dx, rfl, _⟩ := h
    rfl
  · obtain ⟨self, L, T0, ns, us, dx, rfl, hself, hA, hL, q⟩ := h
    refine ⟨_, PSs.nox (C8.pss_cut (ps_for PassesOwn.never rfl (pi_enumT (by rfl) T.m_enumerate (pa_cons (pv 1) pa_nil)) (pg_tup (by rfl) (pgs_cons (pg_name (i := 3) sc_p_StepInit.nd rfl (.inl rfl)) (pgs_cons (pg_name (i := 4) sc_p_StepInit.nd rfl (.inl rfl)) pgs_nil))) (pss_one (ps_if (PW.pt (pw_or (pt_not (pt_val (pe_call (ok_p_is_name T) (hr.mono (by decide)) (by rfl) T.g_p_is_name T.F_p_is_name.kp T.b_p_is_name .nil pass0 (pa_cons (pv 4) pa_nil)))) (pw_or (pt_val (pe_m1 PySem.F.slot_str_endswith PySem.F.type_str_endswith mt_endswith (pv 4) pe_str (by rfl) (by rfl) (by rfl))) (pw_or (pt_cmpR op_in_seq (pv 4) (pe_slice sl_tup (pv 1) po_none (po_some (pv 3))) (by rfl)) (pw_or1 (pt_cmpR op_ge (pv 3) (pe_clsI T.most_Step.choose_spec.choose_spec (pe_glob (v := V.ref (fa 146)) (by rfl) T.g_Step rfl)) (nomark _))))))) (pss_one ps_never) pss_nil)))
      (C8.pss_cut (ps_set (i := 5) sc_p_StepInit.nd rfl (.inl rfl) (pe_call (ok_p_first_wrong_tieB T) (hr.mono (by decide)) (by rfl) T.g_p_first_wrong_tie T.F_p_first_wrong_tie.kp T.b_p_first_wrong_tie .nil pass0 (pa_cons (pv 2) (pa_cons (pe_op op_cat (pe_callTy call_list_of (by rfl) T.m_list (by decide +kernel) (pa_cons (pv 1) pa_nil)) (pe_call (ok_p_primedB T) (hr.mono (by decide)) (by rfl) T.g_p_primed T.F_p_primed.kp T.b_p_primed .nil pass0 (pa_cons (pv 1) pa_nil))) pa_nil))))
      (C8.pss_cut (ps_if (pt_cmpR op_notN (pv 5) pe_non (nomark _)) (pss_one ps_never) pss_nil)
      (C8.pss_cut (ps_fld (pv 0) (pe_callTy call_tuple_of (by rfl) T.m_tuple (by decide +kernel) (pa_cons (pe_call (ok_p_ascendingB T) (hr.mono (by decide)) (by rfl) T.g_p_ascending T.F_p_ascending.kp T.b_p_ascending .nil pass0 (pa_cons (pv 1) pa_nil)) pa_nil)) (by rfl))
      (pss_one (ps_fld (pv 0) (pe_callTy call_tuple_of (by rfl) T.m_tuple (by decide +kernel) (pa_cons (pv 2) pa_nil)) (by rfl))))))), ?_⟩
    refine ⟨fun σ H1 => Same H H1 ∧ ∃ y3 y4, σ = [some (.ref self), some (.ref L), some (.ref T0), y3, y4, none], ?_, fun σ H1 hM => ?_⟩
    · refine ⟨_, rfl, L, _, rfl, hL, for_enumT (K := K) (a := L) (xs := ns.map V.str) (fun i σ G => Same H G ∧ firstBadS 0 [] ns = firstBadS i (ns.take i) (ns.drop i) ∧ ∃ y3 y4, σ = [some (.ref self), some (.ref L), some (.ref T0), y3, y4, none]) ⟨Same.refl H, rfl, _, _, rfl⟩ (fun i σ G _ hq => SqT_sm hq.1 hL) (fun i x σ G Tt hx hq nT => ?_) (fun σ G hq => ?_)⟩
      · obtain ⟨sG, fb, y3, y4, rfl⟩ := hq
        rw [List.getElem?_map] at hx
        obtain ⟨n, hz, rfl⟩ := Option.map_eq_some_iff.mp hx
        have lt : i < ns.length := (List.getElem?_eq_some_iff.mp hz).1
        have dr : ns.drop i = n :: ns.drop (i + 1) := by
          rw [List.drop_eq_getElem_cons lt]
          congr 1
          exact (List.getElem?_eq_some_iff.mp hz).2
        rw [dr, hA.fb] at fb
        have sT := same_upd (o := .tup [V.int (i : Nat), .str n]) nT
        have s1 := sG.trans sT
        have mem : n ∈ ns := List.mem_of_getElem? hz
        have ok : (stepN n = true ∧ n ∉ ns.take i) ∧ i < 3 := by
          apply Decidable.byContradiction
          intro z
          have e : firstBadS i (ns.take i) (n :: ns.drop (i + 1)) = some i := by
            show (if _ then _ else _) = _
            rw [if_neg z]
          rw [e] at fb
          cases fb
        have fb2 : firstBadS i (ns.take i) (n :: ns.drop (i + 1)) = firstBadS (i + 1) (ns.take (i + 1)) (ns.drop (i + 1)) := by
          show (if _ then _ else _) = _
          rw [if_pos ok, List.take_add_one, hz]
          rfl
        have hn := ok.1.1
        unfold stepN at hn
        rw [Bool.and_eq_true, Bool.not_eq_true'] at hn
        refine ⟨Tt, _, rfl, SqT.of upd_same, rfl, _, _, rfl, _, _, rfl, rfl, ?_⟩
        have hb' : nameD (.str n) = true := hn.1
        have l9 := hA.lx n mem
        refine ⟨_, rfl, _, _, 0, rfl, .str n (by omega), _, rfl, ?_⟩
        rw [hb']
        refine iteF ⟨_, rfl, ⟨_, rfl⟩, _, _, rfl, rfl, _, rfl, ?_⟩
        rw [ends_str, hn.2]
        refine iteF ⟨_, rfl, _, rfl, _, rfl, _, rfl, L, _, rfl, SqT_sm s1 hL, (by rw [List.length_map]; exact cutT_no lt), fun p np => ?_⟩
        have sp := same_upd (o := .tup (cutV (ns.map V.str) none (some (i : Int)))) np
        have ec : cutV (ns.map V.str) none (some (i : Int)) = (ns.take i).map V.str := by
          rw [cut_take _ _ (by rw [List.length_map]; omega), List.map_take]
        refine ⟨p, _, rfl, .inr (SqT.of upd_same), rfl, ?_, _, rfl, ?_⟩
        · rw [ec]
          exact flat_strs _
        · rw [ec] at sp ⊢
          rw [inV_strs, decide_eq_false ok.1.2]
          refine iteF ⟨_, rfl, rfl, _, _, rfl, rfl, _, rfl, ?_⟩
          rw [decide_eq_false (by omega)]
          exact iteF ⟨s1.trans sp, by rw [hA.fb, fb, fb2], _, _, rfl⟩
      · obtain ⟨sG, fb, y3, y4, rfl⟩ := hq
        exact ⟨sG, _, _, rfl⟩
    obtain ⟨s1, y3, y4, rfl⟩ := hM
    have hA1 := hA.same s1
    refine ⟨fun σ H2 => Same H H2 ∧ σ = [some (.ref self), some (.ref L), some (.ref T0), y3, y4, some .non], ?_, fun σ H2 hM => ?_⟩
    · obtain ⟨z, ds, hds, hbt⟩ := hA1.ds
      refine ⟨_, rfl, _, rfl, L, _, rfl, .inr (SqT_sm s1 hL), fun l nl => ?_⟩
      have sl := same_upd (o := .lst (ns.map V.str)) nl
      refine ⟨_, rfl, L, ns, rfl, hA1.ln.sm sl, by have := hA.sz; omega, hA.lx, fun D H3 nD s3 hD => ?_⟩
      refine ⟨l, D, _, _, rfl, rfl, s3 _ _ upd_same, hD, small_line (by have := hA.sz; rw [List.length_map, List.length_map, List.length_map]; omega), fun q2 nq2 => ?_⟩
      have s4 := sl.trans (s3.trans (same_upd (o := .lst (ns.map V.str ++ (prS ns).map V.str)) nq2))
      refine ⟨T0, q2, us, ds, ns ++ prS ns, z, rfl, hA1.lt.sm s4, hds.same s4, hA.us, .inl (SqL.of (by rw [upd_same, List.map_append])), fun H' s' => ⟨s1.trans (s4.trans s'), ?_⟩⟩
      rw [hbt]
      rfl
    obtain ⟨s2, rfl⟩ := hM
    have hA2 := hA.same s2
    refine ⟨fun σ H2 => Same H H2 ∧ σ = [some (.ref self), some (.ref L), some (.ref T0), y3, y4, some .non], ⟨_, rfl, rfl, _, rfl, iteF ⟨s2, rfl⟩⟩, fun σ H4 hM => ?_⟩
    obtain ⟨s4, rfl⟩ := hM
    have hA4 := hA.same s4
    refine ⟨fun σ G => ∃ p1 ms, (∀ b o, b ≠ self → H b = some o → G b = some o) ∧ G self = some (.ins (fa 146) dx [("unknowns", .ref p1)]) ∧ G p1 = some (.tup (ms.map V.str)) ∧ p1 ≠ self ∧ ms.Perm ns ∧ sortedS ms = true ∧ σ = [some (.ref self), some (.ref L), some (.ref T0), y3, y4, some .non], ?_, fun σ G hM => ?_⟩
    · refine ⟨_, rfl, L, ns, rfl, .inl hA4.ln, hA4.nd, by have := hA4.sz; omega, fun x hx => by have := hA4.lx x hx; omega, fun p ms H5 s5 np hp perm srt => ?_⟩
      refine ⟨p, _, rfl, .inl ⟨SqL.of hp, fun p1 np1 => ?_⟩⟩
      have sp := same_upd (o := .tup (ms.map V.str)) np1
      have hs5 := (s4.trans s5) _ _ hself
      have hs6 := sp _ _ hs5
      have np1s : p1 ≠ self := fun e => by rw [e, hs5] at np1; cases np1
      refine ⟨_, rfl, self, _, dx, [], rfl, hs6, T.cl_Step, T.na_Step_unknowns, by show 0 < 1000; decide, p1, ms, fun b o nb e => (upd_ne nb).trans (((s4.trans s5).trans sp) _ _ e), upd_same, ?_, np1s, perm, srt, rfl⟩
      rw [upd_ne np1s, upd_same]
    obtain ⟨p1, ms, oth, hs, hp1, np1s, perm, srt, rfl⟩ := hM
    have ltG : SqB K G T0 us := by
      rcases hA.lt with h | h
      · refine .inl ?_
        rcases h with (e | ⟨o, e⟩) | e
        · exact .inl (.inl (oth _ _ (fun z => by rw [z, hself] at e; cases e) e))
        · exact .inl (.inr ⟨o, oth _ _ (fun z => by rw [z, hself] at e; cases e) e⟩)
        · exact .inr e
      · refine .inr ?_
        rcases h with (e | ⟨o, e⟩) | e
        · exact .inl (.inl (oth _ _ (fun z => by rw [z, hself] at e; cases e) e))
        · exact .inl (.inr ⟨o, oth _ _ (fun z => by rw [z, hself] at e; cases e) e⟩)
        · exact .inr e
    have fin : ∀ (p2 : Addr) (G2 : Hp), (∀ b o, G b = some o → G2 b = some o) → (∀ o, SqT K (upd G2 self o) p2 us) → Q .non (upd G2 self (.ins (fa 146) dx [("unknowns", .ref p1), ("bonds", .ref p2)])) := fun p2 G2 sg h2 => by
      refine q _ (fun b o nb e => (upd_ne nb).trans (sg _ _ (oth b o nb e))) ⟨dx, p1, p2, ms, upd_same, SqT.of ((upd_ne np1s).trans (sg _ _ hp1)), perm, srt, h2 _⟩
    refine ⟨_, rfl, T0, us, rfl, ?_⟩
    rcases ltG with h | h
    · refine .inl ⟨h, fun p2 np2 => ?_⟩
      have sp := same_upd (o := .tup us) np2
      have n2 : p2 ≠ self := fun e => by rw [e, hs] at np2; cases np2
      exact ⟨_, rfl, self, _, dx, _, rfl, sp _ _ hs, T.cl_Step, T.na_Step_bonds, by show 1 < 1000; decide, fin p2 _ sp fun o => SqT.of ((upd_ne n2).trans upd_same)⟩
    · refine .inr ⟨h, ?_⟩
      refine ⟨_, rfl, self, _, dx, _, rfl, hs, T.cl_Step, T.na_Step_bonds, by show 1 < 1000; decide, fin T0 _ (fun _ _ e => e) fun o => ?_⟩
      rcases h with (e | ⟨o, e⟩) | e
      · exact .inl (.inl ((upd_ne (fun z => by rw [z, hs] at e; cases e)).trans e))
      · exact .inl (.inr ⟨_, (upd_ne (fun z => by rw [z, hs] at e; cases e)).trans e⟩)
      · exact .inr e
theorem ok_p_StepInit (T : Txt K mg fa fd) : FnOk P w K mg base CX0 7 (fa 1600) (fd 1600) ["self", "names", "ties"] (spStepI K (fa 146)) :=
  (FnOk.or (ok_p_StepInitL T) (ok_p_StepInitT T)).imp fun vs H Q E ⟨self, L, T0, ns, us, dx, e, h1, h2, q⟩ => h2.ln.elim (fun h => .inl ⟨self, L, T0, ns, us, dx, e, h1, h2, h, q⟩) fun h => .inr ⟨self, L, T0, ns, us, dx, e, h1, h2, h, q⟩
end
section
variable {P : Program} {w : World} {K : PySem.W.Frag} {mg : Str → Option Value} {base : Heap} {fa : Nat → Addr} {fd : Nat → FuncData}
/-- Step(names, ties), names or ties wrong -/
def spStepX (K : PySem.W.Frag) (C1 C2 : Addr) : Sp := fun vs H Q E => ∃ (self L : Addr) (w : V) (ns : List Str), vs = [.ref self, .ref L, w] ∧ SqL K H L (ns.map V.str) ∧ ns.length ≤ 900 ∧ (∀ x ∈ ns, x.length ≤ 900) ∧
  ((∃ i x, firstBadS 0 [] ns = some i ∧ ns[i]? = some x ∧ OneE E C1 H "InvalidName" "name" (.str x)) ∨
   (firstBadS 0 [] ns = none ∧ ∃ T us ds z j, w = .ref T ∧ SqL K H T us ∧ DtAll z H us ds ∧ us.length ≤ 900 ∧ firstBadT (ns ++ prS ns) 0 ds = some j ∧ OneE E C2 H "InvalidTie" "at" (.int (j : Int))))
theorem fbs_ge : ∀ (r : List Str) (i : Nat) (pre : List Str) (j : Nat), firstBadS i pre r = some j → i ≤ j
  | [], _, _, _, h => by cases h
  | x :: r, i, pre, j, h => by
    have h : (if (stepN x = true ∧ x ∉ pre) ∧ i < 3 then firstBadS (i + 1) (pre ++ [x]) r else some i) = some j := h
    split at h
    · have := fbs_ge r (i + 1) (pre ++ [x]) j h
      omega
    · cases h
      exact Nat.le_refl _
theorem ok_p_StepInitX (T : Txt K mg fa fd) : FnOk P w K mg base (L2.CX P w) 7 (fa 1600) (fd 1600) ["self", "names", "ties"] (spStepX K (fa 4) (fa 5)) := by
  refine T.F_StepInit.ok sc_p_StepInit (fun vs H Q E h => ?_) (fun cdv A outer s H vs Q E hr h => ?_)
  · obtain ⟨self, L, w', ns, rfl, _⟩ := h
    rfl
  · obtain ⟨self, L, w', ns, rfl, hL, hsz, hlen, h⟩ := h
    refine ⟨_, (C8.pss_cut (ps_for (passes_of rfl) rfl (pi_enum (by rfl) T.m_enumerate (pa_cons (pv 1) pa_nil)) (pg_tup (by rfl) (pgs_cons (pg_name (i := 3) sc_p_StepInit.nd rfl (.inl rfl)) (pgs_cons (pg_name (i := 4) sc_p_StepInit.nd rfl (.inl rfl)) pgs_nil))) (pss_one (ps_if (PW.pt (pw_or (pt_not (pt_val (pe_call (ok_p_is_name T) (hr.mono (by decide)) (by rfl) T.g_p_is_name T.F_p_is_name.kp T.b_p_is_name .nil pass0 (pa_cons (pv 4) pa_nil)))) (pw_or (pt_val (pe_m1 PySem.F.slot_str_endswith PySem.F.type_str_endswith mt_endswith (pv 4) pe_str (by rfl) (by rfl) (by rfl))) (pw_or (pt_cmpR op_in_seq (pv 4) (pe_slice sl_list (pv 1) po_none (po_some (pv 3))) (by rfl)) (pw_or1 (pt_cmpR op_ge (pv 3) (pe_clsI T.most_Step.choose_spec.choose_spec (pe_glob (v := V.ref (fa 146)) (by rfl) T.g_Step rfl)) (nomark _))))))) (pss_one (ps_raise rfl (takes_of rfl rfl rfl rfl) (pmk_oex T.eInvalidName.oex T.eInvalidName.iC T.eInvalidName.tI (ok_InvalidName T) (hr.mono (by decide)) T.bIInvalidName .nil pass0 (by rfl) T.eInvalidName.gC (pa_cons (pv 4) pa_nil)))) pss_nil)))
      (C8.pss_cut (ps_set (i := 5) sc_p_StepInit.nd rfl (.inl rfl) (pe_call (ok_p_first_wrong_tieB T) (hr.mono (by decide)) (by rfl) T.g_p_first_wrong_tie T.F_p_first_wrong_tie.kp T.b_p_first_wrong_tie .nil pass0 (pa_cons (pv 2) (pa_cons (pe_op op_cat (pe_callTy call_list_of (by rfl) T.m_list (by decide +kernel) (pa_cons (pv 1) pa_nil)) (pe_call (ok_p_primedB T) (hr.mono (by decide)) (by rfl) T.g_p_primed T.F_p_primed.kp T.b_p_primed .nil pass0 (pa_cons (pv 1) pa_nil))) pa_nil))))
      (C8.pss_cut (ps_if (pt_cmpR op_notN (pv 5) pe_non (nomark _)) (pss_one (ps_raise rfl (takes_of rfl rfl rfl rfl) (pmk_oex T.eInvalidTie.oex T.eInvalidTie.iC T.eInvalidTie.tI (ok_InvalidTie T) (hr.mono (by decide)) T.bIInvalidTie .nil pass0 (by rfl) T.eInvalidTie.gC (pa_cons (pv 5) pa_nil)))) pss_nil)
      (C8.pss_cut ps_never
      (pss_one ps_never))))), ?_⟩
    refine ⟨fun σ H1 => Same H H1 ∧ firstBadS 0 [] ns = none ∧ ∃ y3 y4, σ = [some (.ref self), some (.ref L), some w', y3, y4, none], ?_, fun σ H1 hM => ?_⟩
    · refine ⟨_, rfl, L, _, rfl, hL, for_enum (K := K) (a := L) (xs := ns.map V.str) (fun i σ G => Same H G ∧ firstBadS 0 [] ns = firstBadS i (ns.take i) (ns.drop i) ∧ ∃ y3 y4, σ = [some (.ref self), some (.ref L), some w', y3, y4, none]) ⟨Same.refl H, rfl, _, _, rfl⟩ (fun i σ G _ hq => SqL.sm hq.1 hL) (fun i x σ G Tt hx hq nT => ?_) (fun σ G hq => ?_)⟩
      · obtain ⟨sG, fb, y3, y4, rfl⟩ := hq
        rw [List.getElem?_map] at hx
        obtain ⟨n, hz, rfl⟩ := Option.map_eq_some_iff.mp hx
        have lt : i < ns.length := (List.getElem?_eq_some_iff.mp hz).1
        have dr : ns.drop i = n :: ns.drop (i + 1) := by
          rw [List.drop_eq_getElem_cons lt]
          congr 1
          exact (List.getElem?_eq_some_iff.mp hz).2
        rw [dr] at fb
        have sT := same_upd (o := .tup [V.int (i : Nat), .str n]) nT
        have s1 := sG.trans sT
        have mem : n ∈ ns := List.mem_of_getElem? hz
        -- it is raised where a name is wrong
        have bad : ¬ ((stepN n = true ∧ n ∉ ns.take i) ∧ i < 3) → OneE E (fa 4) H "InvalidName" "name" (.str n) := fun z => by
          have e : firstBadS i (ns.take i) (n :: ns.drop (i + 1)) = some i := by
            show (if _ then _ else _) = _
            rw [if_neg z]
          rw [e] at fb
          rcases h with ⟨i', x', e1, e2, e3⟩ | ⟨e1, _⟩
          · rw [fb] at e1
            cases e1
            rw [hz] at e2
            cases e2
            exact e3
          · rw [fb] at e1
            cases e1
        refine ⟨Tt, _, rfl, SqT.of upd_same, rfl, _, _, rfl, _, _, rfl, rfl, ?_⟩
        have l9 := hlen n mem
        refine ⟨_, rfl, _, _, 0, rfl, .str n (by omega), _, rfl, ?_⟩
        cases hb : nameB n.cps.toList with
        | false =>
          have hb' : nameD (.str n) = false := hb
          rw [hb']
          have he1 := (bad fun z => by have z1 := z.1.1; unfold stepN at z1; rw [hb] at z1; cases z1).of s1
          refine iteT (iteT ?_)
          refine ⟨_, rfl, by show 1 ≤ 1000; decide, fun a na => ⟨a, _, .str n, rfl, T.eInvalidName.oex, T.nInvalidName_name, T.eInvalidName.tag, upd_same, fun dx nd ne => ⟨rfl, dx, _, ?_, upd_same, ?_, ?_⟩⟩⟩
          · rw [upd_ne ne.symm, upd_same]
          · rw [upd_ne ne] at nd
            exact nd
          · have nd' : (upd G Tt (.tup [V.int (i : Nat), .str n]) : Hp) dx = none := by
              rw [upd_ne ne] at nd
              exact nd
            refine (he1) dx _ (Same.del na nd' fun b o hb q => ?_) upd_same
            rw [upd_ne (ne_of_none q nd'), upd_ne hb, upd_ne (ne_of_none q nd'), upd_ne hb]
            exact q
        | true =>
          have hb' : nameD (.str n) = true := hb
          rw [hb']
          refine iteF ⟨_, rfl, ⟨_, rfl⟩, _, _, rfl, rfl, _, rfl, ?_⟩
          rw [ends_str]
          cases hq : endQ n.cps.toList with
          | true =>
            have he1 := (bad fun z => by have z1 := z.1.1; unfold stepN at z1; rw [hq, hb] at z1; cases z1).of s1
            refine iteT (iteT ?_)
            refine ⟨_, rfl, by show 1 ≤ 1000; decide, fun a na => ⟨a, _, .str n, rfl, T.eInvalidName.oex, T.nInvalidName_name, T.eInvalidName.tag, upd_same, fun dx nd ne => ⟨rfl, dx, _, ?_, upd_same, ?_, ?_⟩⟩⟩
            · rw [upd_ne ne.symm, upd_same]
            · rw [upd_ne ne] at nd
              exact nd
            · have nd' : (upd G Tt (.tup [V.int (i : Nat), .str n]) : Hp) dx = none := by
                rw [upd_ne ne] at nd
                exact nd
              refine (he1) dx _ (Same.del na nd' fun b o hb q => ?_) upd_same
              rw [upd_ne (ne_of_none q nd'), upd_ne hb, upd_ne (ne_of_none q nd'), upd_ne hb]
              exact q
          | false =>
            have sn : stepN n = true := by unfold stepN; rw [hb, hq]; rfl
            refine iteF ⟨_, rfl, _, rfl, _, rfl, _, rfl, L, _, rfl, SqL.sm s1 hL, fun p np => ?_⟩
            have sp := same_upd (o := .lst (cutV (ns.map V.str) none (some (i : Int)))) np
            have ec : cutV (ns.map V.str) none (some (i : Int)) = (ns.take i).map V.str := by
              rw [cut_take _ _ (by rw [List.length_map]; omega), List.map_take]
            refine ⟨p, _, rfl, .inl (SqL.of upd_same), rfl, ?_, _, rfl, ?_⟩
            · rw [ec]
              exact flat_strs _
            · have s2 := s1.trans sp
              generalize upd (upd G Tt (.tup [V.int (i : Nat), .str n])) p (.lst (cutV (ns.map V.str) none (some (i : Int)))) = G2 at s2 ⊢
              rw [ec, inV_strs]
              by_cases hm : n ∈ ns.take i
              · rw [decide_eq_true hm]
                have he1 := (bad fun z => z.1.2 hm).of s2
                refine iteT (iteT ?_)
                refine ⟨_, rfl, by show 1 ≤ 1000; decide, fun a na => ⟨a, _, .str n, rfl, T.eInvalidName.oex, T.nInvalidName_name, T.eInvalidName.tag, upd_same, fun dx nd ne => ⟨rfl, dx, _, ?_, upd_same, ?_, ?_⟩⟩⟩
                · rw [upd_ne ne.symm, upd_same]
                · rw [upd_ne ne] at nd
                  exact nd
                · have nd' : (G2 : Hp) dx = none := by
                    rw [upd_ne ne] at nd
                    exact nd
                  refine (he1) dx _ (Same.del na nd' fun b o hb q => ?_) upd_same
                  rw [upd_ne (ne_of_none q nd'), upd_ne hb, upd_ne (ne_of_none q nd'), upd_ne hb]
                  exact q
              · rw [decide_eq_false hm]
                refine iteF ⟨_, rfl, rfl, _, _, rfl, rfl, _, rfl, ?_⟩
                by_cases h3 : i < 3
                · rw [decide_eq_false (by omega)]
                  have fb2 : firstBadS i (ns.take i) (n :: ns.drop (i + 1)) = firstBadS (i + 1) (ns.take (i + 1)) (ns.drop (i + 1)) := by
                    show (if _ then _ else _) = _
                    rw [if_pos ⟨⟨sn, hm⟩, h3⟩, List.take_add_one, hz]
                    rfl
                  exact iteF ⟨s2, fb.trans fb2, _, _, rfl⟩
                · rw [decide_eq_true (by omega)]
                  have he1 := (bad fun z => h3 z.2).of s2
                  refine iteT ?_
                  refine ⟨_, rfl, by show 1 ≤ 1000; decide, fun a na => ⟨a, _, .str n, rfl, T.eInvalidName.oex, T.nInvalidName_name, T.eInvalidName.tag, upd_same, fun dx nd ne => ⟨rfl, dx, _, ?_, upd_same, ?_, ?_⟩⟩⟩
                  · rw [upd_ne ne.symm, upd_same]
                  · rw [upd_ne ne] at nd
                    exact nd
                  · have nd' : (G2 : Hp) dx = none := by
                      rw [upd_ne ne] at nd
                      exact nd
                    refine (he1) dx _ (Same.del na nd' fun b o hb q => ?_) upd_same
                    rw [upd_ne (ne_of_none q nd'), upd_ne hb, upd_ne (ne_of_none q nd'), upd_ne hb]
                    exact q
      · obtain ⟨sG, fb, y3, y4, rfl⟩ := hq
        rw [List.length_map, List.take_length, List.drop_length] at fb
        exact ⟨sG, fb, _, _, rfl⟩
    obtain ⟨s1, e, y3, y4, rfl⟩ := hM
    rcases h with ⟨i, x, e1, _⟩ | ⟨_, T0, us, ds, z, j, rfl, hT, hds, hus, ej, he⟩
    · rw [e] at e1
      cases e1
    have hsz3 : ns.length ≤ 900 := hsz
    refine ⟨fun σ H3 => Same H H3 ∧ σ = [some (.ref self), some (.ref L), some (.ref T0), y3, y4, some (.int (j : Int))], ?_, fun σ H3 hM => ?_⟩
    · refine ⟨_, rfl, _, rfl, L, _, rfl, .inl (SqL.sm s1 hL), fun l nl => ?_⟩
      have sl := same_upd (o := .lst (ns.map V.str)) nl
      refine ⟨_, rfl, L, ns, rfl, .inl (SqL.sm (s1.trans sl) hL), hsz, hlen, fun D H3 nD s3 hD => ?_⟩
      refine ⟨l, D, _, _, rfl, rfl, s3 _ _ upd_same, hD, Nat.le_trans (by rw [List.length_map, List.length_map, List.length_map]; omega : _ ≤ 2000) (by decide), fun q2 nq2 => ?_⟩
      have s4 := sl.trans (s3.trans (same_upd (o := .lst (ns.map V.str ++ (prS ns).map V.str)) nq2))
      refine ⟨T0, q2, us, ds, ns ++ prS ns, z, rfl, .inl (SqL.sm (s1.trans s4) hT), hds.same (s1.trans s4), hus, .inl (SqL.of (by rw [upd_same, List.map_append])), fun H' s' => ⟨s1.trans (s4.trans s'), ?_⟩⟩
      rw [ej]
      rfl
    obtain ⟨s3, rfl⟩ := hM
    have he1 := he.of s3
    refine ⟨fun _ _ => False, ?_, fun _ _ z => z.elim⟩
    refine ⟨_, rfl, rfl, _, rfl, iteT ?_⟩
    refine ⟨_, rfl, by show 1 ≤ 1000; decide, fun a na => ⟨a, _, .int (j : Int), rfl, T.eInvalidTie.oex, T.nInvalidTie_at, T.eInvalidTie.tag, upd_same, fun dx nd ne => ⟨rfl, dx, _, ?_, upd_same, ?_, ?_⟩⟩⟩
    · rw [upd_ne ne.symm, upd_same]
    · rw [upd_ne ne] at nd
      exact nd
    · have nd' : (H3 : Hp) dx = none := by
        rw [upd_ne ne] at nd
        exact nd
      refine (he1) dx _ (Same.del na nd' fun b o hb q => ?_) upd_same
      rw [upd_ne (ne_of_none q nd'), upd_ne hb, upd_ne (ne_of_none q nd'), upd_ne hb]
      exact q
end
def stepShown (n m : Nat) : Str := ((((Str.empty ++ Str.ofString "Step(") ++ numS n) ++ Str.ofString " names, ") ++ numS m) ++ Str.ofString " ties)"
section
variable {P : Program} {w : World} {K : PySem.W.Frag} {mg : Str → Option Value} {base : Heap} {fa : Nat → Addr} {fd : Nat → FuncData}
theorem ok_p_StepNames (T : Txt K mg fa fd) : FnOk P w K mg base CX0 1 (fa 1610) (fd 1610) ["self"] (spLNames K (fa 146)) := by
  refine T.F_StepNames.ok sc_p_StepNames (fun vs H Q E h => ?_) (fun cdv A outer s H vs Q E hr h => ?_)
  · obtain ⟨x, ns, us, rfl, _⟩ := h
    rfl
  · obtain ⟨x, ns, us, rfl, hL, q⟩ := h
    obtain ⟨dx, p1, p2, ms, h1, h2, h3, h4, h5⟩ := hL.at_
    refine ⟨_, (pss_one (ps_ret (pe_callTy call_list_of (by rfl) T.m_list (by decide +kernel) (pa_cons (pe_fld (pv 0) (by rfl)) pa_nil)))), ?_⟩
    exact ⟨_, rfl, _, _, dx, _, _, rfl, h1, T.cl_Step, T.na_Step_unknowns, rfl, p1, _, rfl, .inr h2, fun l nl => q l ms _ (same_upd nl) nl upd_same h3 h4⟩
theorem ok_p_StepTies (T : Txt K mg fa fd) : FnOk P w K mg base CX0 1 (fa 1611) (fd 1611) ["self"] (spLTies K (fa 146)) := by
  refine T.F_StepTies.ok sc_p_StepTies (fun vs H Q E h => ?_) (fun cdv A outer s H vs Q E hr h => ?_)
  · obtain ⟨x, ns, us, rfl, _⟩ := h
    rfl
  · obtain ⟨x, ns, us, rfl, hL, q⟩ := h
    obtain ⟨dx, p1, p2, ms, h1, h2, h3, h4, h5⟩ := hL.at_
    refine ⟨_, (pss_one (ps_ret (pe_callTy call_list_of (by rfl) T.m_list (by decide +kernel) (pa_cons (pe_fld (pv 0) (by rfl)) pa_nil)))), ?_⟩
    exact ⟨_, rfl, _, _, dx, _, _, rfl, h1, T.cl_Step, T.na_Step_bonds, rfl, p2, _, rfl, .inr h5, fun l nl => q l nl⟩
def spLLen (K : PySem.W.Frag) (C : Addr) : Sp := fun vs H Q _ => ∃ (x : Addr) (ns : List Str) (us : List V), vs = [.ref x] ∧ LotH K C H x ns us ∧ Q (.int us.length) H
theorem ok_p_StepLen (T : Txt K mg fa fd) : FnOk P w K mg base CX0 1 (fa 1616) (fd 1616) ["self"] (spLLen K (fa 146)) := by
  refine T.F_StepLen.ok sc_p_StepLen (fun vs H Q E h => ?_) (fun cdv A outer s H vs Q E hr h => ?_)
  · obtain ⟨x, ns, us, rfl, _⟩ := h
    rfl
  · obtain ⟨x, ns, us, rfl, hL, q⟩ := h
    obtain ⟨dx, p1, p2, ms, h1, h2, h3, h4, h5⟩ := hL.at_
    refine ⟨_, (pss_one (ps_ret (pe_callB call_len_seq (by rfl) T.m_len PySem.boot_len (pa_cons (pe_fld (pv 0) (by rfl)) pa_nil)))), ?_⟩
    exact ⟨_, rfl, _, _, dx, _, _, rfl, h1, T.cl_Step, T.na_Step_bonds, rfl, p2, _, rfl, .inr h5, q⟩
def spLRepr (K : PySem.W.Frag) (C : Addr) : Sp := fun vs H Q _ => ∃ (x : Addr) (ns : List Str) (us : List V), vs = [.ref x] ∧ LotH K C H x ns us ∧ ns.length ≤ 900 ∧ us.length ≤ 900 ∧ Q (.str (stepShown ns.length us.length)) H
theorem ok_p_StepRepr (T : Txt K mg fa fd) : FnOk P w K mg base CX0 1 (fa 1617) (fd 1617) ["self"] (spLRepr K (fa 146)) := by
  refine T.F_StepRepr.ok sc_p_StepRepr (fun vs H Q E h => ?_) (fun cdv A outer s H vs Q E hr h => ?_)
  · obtain ⟨x, ns, us, rfl, _⟩ := h
    rfl
  · obtain ⟨x, ns, us, rfl, hL, z1, z2, q⟩ := h
    obtain ⟨dx, p1, p2, ms, h1, h2, h3, h4, h5⟩ := hL.at_
    refine ⟨_, (pss_one (ps_ret (pe_joined (.cons pe_str (.cons (pe_fmt (pe_callB call_len_seq (by rfl) T.m_len PySem.boot_len (pa_cons (pe_fld (pv 0) (by rfl)) pa_nil))) (.cons pe_str (.cons (pe_fmt (pe_callB call_len_seq (by rfl) T.m_len PySem.boot_len (pa_cons (pe_fld (pv 0) (by rfl)) pa_nil))) (.cons pe_str .nil)))))))), ?_⟩
    have ml := h3.length_eq
    refine ⟨_, rfl, ?_, _, rfl, _, _, dx, _, _, rfl, h1, T.cl_Step, T.na_Step_unknowns, rfl, p1, _, rfl, .inr h2, ?_⟩
    · exact small_line (by decide +kernel)
    · rw [List.length_map, ml]
      have bound : ∀ n : Nat, n ≤ 900 → (numS n).length ≤ 3 := fun n hn => by
        have e : numS n = SX.S (TL.numL n) := SX.num_S n
        rw [e, SX.S_len]
        exact TL.numL_len (k := 3) (by decide) (Nat.lt_of_le_of_lt hn (by decide))
      have l1 := bound _ z1
      have l2 := bound _ z2
      refine .inr ⟨_, rfl, log2_mono (b := 900) (by rw [Int.natAbs_natCast]; exact z1) (by decide +kernel), _, rfl, ?_, _, rfl, ?_, _, rfl, _, _, dx, _, _, rfl, h1, T.cl_Step, T.na_Step_bonds, rfl, p2, _, rfl, .inr h5, .inr ⟨_, rfl, log2_mono (b := 900) (by rw [Int.natAbs_natCast]; exact z2) (by decide +kernel), _, rfl, ?_, _, rfl, ?_, q⟩⟩
      all_goals
        have c1 : (Str.ofString "Step(").length = 5 := by decide +kernel
        have c2 : (Str.ofString " names, ").length = 8 := by decide +kernel
        have c3 : (Str.ofString " ties)").length = 6 := by decide +kernel
        have c0 : Str.empty.length = 0 := by decide +kernel
        have l1' : (toString (ns.length : Int) : Str).length ≤ 3 := l1
        have l2' : (toString (us.length : Int) : Str).length ≤ 3 := l2
        simp only [strlen_cat]
        exact small_line (by omega)
end

/-- what else is known of a step -/
structure StepF (H : Hp) (ns : List Str) (us : List V) : Prop where
  ds : ∃ z ds, DtAll z H us ds ∧ ∀ d ∈ ds, goodT (ns ++ prS ns) d = true
  us : us.length ≤ 900
  nm : ∀ x ∈ ns ++ prS ns, nameB x.cps.toList = true ∧ x.length ≤ 900
  nd : (ns ++ prS ns).Nodup
  sz : ns.length ≤ 3
theorem StepF.same {H H' : Hp} {ns : List Str} {us : List V} (h : StepF H ns us) (s : Same H H') : StepF H' ns us := by
  obtain ⟨z, ds, a, b⟩ := h.ds
  exact ⟨⟨z, ds, a.same s, b⟩, h.us, h.nm, h.nd, h.sz⟩
theorem prS_perm {ms ns : List Str} (p : ms.Perm ns) : (ms ++ prS ms).Perm (ns ++ prS ns) := p.append (p.map _)
section
variable {P : Program} {w : World} {K : PySem.W.Frag} {mg : Str → Option Value} {base : Heap} {fa : Nat → Addr} {fd : Nat → FuncData}
def spSAll (K : PySem.W.Frag) (C : Addr) : Sp := fun vs H Q _ => ∃ (x : Addr) (ns : List Str) (us : List V), vs = [.ref x] ∧ LotH K C H x ns us ∧ StepF H ns us ∧
  ∀ (q : Addr) (ms : List Str) (H' : Hp), Same H H' → H' q = some (.lst ((ms ++ prS ms).map V.str)) → ms.Perm ns → sortedS ms = true → Q (.ref q) H'
theorem ok_p_StepAll (T : Txt K mg fa fd) : FnOk P w K mg base CX0 2 (fa 1612) (fd 1612) ["self"] (spSAll K (fa 146)) := by
  refine T.F_StepAll.ok sc_p_StepAll (fun vs H Q E h => ?_) (fun cdv A outer s H vs Q E hr h => ?_)
  · obtain ⟨x, ns, us, rfl, _⟩ := h
    rfl
  · obtain ⟨x, ns, us, rfl, hL, hF, q⟩ := h
    obtain ⟨dx, p1, p2, ms, h1, h2, h3, h4, h5⟩ := hL.at_
    have ml : ms.length ≤ 3 := by rw [h3.length_eq]; exact hF.sz
    refine ⟨_, (pss_one (ps_ret (pe_op op_cat (pe_callTy call_list_of (by rfl) T.m_list (by decide +kernel) (pa_cons (pe_fld (pv 0) (by rfl)) pa_nil)) (pe_call (ok_p_primedB T) (hr.mono (by decide)) (by rfl) T.g_p_primed T.F_p_primed.kp T.b_p_primed .nil pass0 (pa_cons (pe_fld (pv 0) (by rfl)) pa_nil))))), ?_⟩
    refine ⟨_, rfl, _, _, dx, _, _, rfl, h1, T.cl_Step, T.na_Step_unknowns, rfl, p1, _, rfl, .inr h2, fun l nl => ?_⟩
    have sl := same_upd (o := .lst (ms.map V.str)) nl
    refine ⟨_, rfl, _, _, dx, _, _, rfl, sl _ _ h1, T.cl_Step, T.na_Step_unknowns, rfl, p1, ms, rfl, .inr (SqT_sm sl h2), by omega, fun y hy => (hF.nm y (List.mem_append_left _ (h3.mem_iff.mp hy))).2, fun D H3 nD s3 hD => ?_⟩
    refine ⟨l, D, _, _, rfl, rfl, s3 _ _ upd_same, hD, small_line (by rw [List.length_map, List.length_map, List.length_map]; omega), fun q2 nq2 => ?_⟩
    have s4 := sl.trans (s3.trans (same_upd (o := .lst (ms.map V.str ++ (prS ms).map V.str)) nq2))
    exact q q2 ms _ s4 (by rw [upd_same, List.map_append]) h3 h4
def spSLot (K : PySem.W.Frag) (C D : Addr) : Sp := fun vs H Q _ => ∃ (x : Addr) (ns : List Str) (us : List V), vs = [.ref x] ∧ LotH K C H x ns us ∧ StepF H ns us ∧
  ∀ (y : Addr) (H' : Hp), Same H H' → LotH K D H' y (ns ++ prS ns) us → Q (.ref y) H'
theorem ok_p_StepLot (T : Txt K mg fa fd) : FnOk P w K mg base CX0 9 (fa 1613) (fd 1613) ["self"] (spSLot K (fa 146) (fa 139)) := by
  refine T.F_StepLot.ok sc_p_StepLot (fun vs H Q E h => ?_) (fun cdv A outer s H vs Q E hr h => ?_)
  · obtain ⟨x, ns, us, rfl, _⟩ := h
    rfl
  · obtain ⟨x, ns, us, rfl, hL, hF, q⟩ := h
    refine ⟨_, (pss_one (ps_ret (pe_make T.mk_Lot (ok_p_LotInit T) (hr.mono (by decide)) (by rfl) T.g_Lot T.b_LotInit .nil pass0 (pa_cons (pe_meth0 (pv 0) T.cl_Step T.me_StepAll (ok_p_StepAll T) (hr.mono (by decide)) T.b_StepAll .nil pass0) (pa_cons (pe_fld (pv 0) (by rfl)) pa_nil))))), ?_⟩
    obtain ⟨dx, p1, p2, ms', h1, h2, h3, h4, h5⟩ := hL.at_
    refine ⟨_, rfl, x, dx, _, rfl, h1, rfl, x, ns, us, rfl, hL, hF, fun q1 ms H1 s1 hq1 perm srt => ?_⟩
    have hF1 := hF.same s1
    refine ⟨_, rfl, x, _, dx, _, _, rfl, s1 _ _ h1, T.cl_Step, T.na_Step_bonds, rfl, fun y dy ny ndy ne => ?_⟩
    have sh : Same H1 (upd (upd H1 dy (.own y)) y (.ins (fa 139) dy [])) := (same_upd ndy).trans (same_upd (by rw [upd_ne ne.symm]; exact ny))
    have pm := prS_perm perm
    have hmem : ∀ z, z ∈ ms ++ prS ms → nameB z.cps.toList = true ∧ z.length ≤ 900 := fun z hz => hF.nm z (pm.mem_iff.mp hz)
    obtain ⟨z, ds, hds, hg⟩ := hF1.ds
    have hnd : (ms ++ prS ms).Nodup := pm.nodup_iff.mpr hF.nd
    have hA : LotA K (upd (upd H1 dy (.own y)) y (.ins (fa 139) dy [])) q1 p2 (ms ++ prS ms) us := {
      ln := .inl (SqL.of (sh _ _ hq1))
      lt := .inr (SqT_sm (s1.trans sh) h5)
      ds := ⟨z, ds, hds.same sh, fbt_none _ _ 0 fun d hd => goodT_mono (hg d hd) fun u hu => pm.mem_iff.mpr hu⟩
      us := hF.us
      fb := fb_none _ 0 [] (fun u hu => (hmem u hu).1) (by rw [List.nil_append]; exact hnd)
      nd := hnd
      sz := by rw [pm.length_eq, List.length_append, List.length_map]; have := hF.sz; omega
      lx := fun u hu => by have := (hmem u hu).2; omega }
    refine ⟨y, q1, p2, ms ++ prS ms, us, dy, rfl, upd_same, hA, fun H' oth hL' => ⟨rfl, q y H' (fun b o e => ?_) ?_⟩⟩
    · have nb : b ≠ y := fun z => by rw [z, ] at e; rw [s1 _ _ e] at ny; cases ny
      exact oth b o nb (sh _ _ (s1 _ _ e))
    · obtain ⟨dx2, u1, u2, ms2, g1, g2, g3, g4, g5⟩ := hL'.at_
      exact ⟨dx2, u1, u2, ms2, g1, g2, g3.trans pm, g4, g5⟩
/-- a dict of values for names -/
def PtK (H : Hp) (d : Addr) (ks : List Str) (val : List Nat → FR) : Prop := ∃ kvs, H d = some (.dK kvs) ∧ kvs.map (·.1) = ks.map (fun x => (.inr x : Key)) ∧ ∀ x ∈ ks, Bf 10 (val x.cps.toList) ∧ ∃ p, valV kvs (.inr x) = some (.ref p) ∧ H p = some (.tup [.int (val x.cps.toList).1, .int (val x.cps.toList).2])
theorem PtK.same {H H' : Hp} {d : Addr} {ks : List Str} {val : List Nat → FR} (h : PtK H d ks val) (s : Same H H') : PtK H' d ks val := by
  obtain ⟨kvs, e, k, h⟩ := h
  refine ⟨kvs, s _ _ e, k, fun x hx => ?_⟩
  obtain ⟨b, p, e1, e2⟩ := h x hx
  exact ⟨b, p, e1, s _ _ e2⟩
/-- the values before and after in one -/
def val2 (u v : List Nat → FR) (n : List Nat) : FR := if endQ n = true then v n.dropLast else u n
theorem val2_no {u v : List Nat → FR} {n : List Nat} (h : endQ n = false) : val2 u v n = u n := by
  unfold val2
  rw [h]
  rfl
theorem str_quote (x : Str) : (x ++ Str.ofString "'").cps.toList = x.cps.toList ++ [39] := by
  have : x ++ Str.ofString "'" = SX.S (x.cps.toList ++ [39]) := by
    rw [quote, ← SX.S_cat, S_of]
  rw [this, S_list]
theorem val2_yes {u v : List Nat → FR} {x : Str} : val2 u v (x ++ Str.ofString "'").cps.toList = v x.cps.toList := by
  unfold val2
  have e : endQ (x.cps.toList ++ [39]) = true := by
    unfold endQ
    rw [List.getLast?_append, List.getLast?_singleton, Option.some_or]
    decide
  rw [str_quote, e, if_pos rfl, List.dropLast_concat]
theorem keysV {kvs : List (Key × V)} {ks : List Str} (h : kvs.map (·.1) = ks.map (fun x => (.inr x : Key))) {x : Str} (hx : x ∉ ks) : valV kvs (.inr x : Key) = none := by
  apply valV_not
  rw [h]
  intro z
  obtain ⟨y, hy, e⟩ := List.mem_map.mp z
  cases e
  exact hx hy
/-- after some of the second ones are put in -/
theorem put_step {G : Hp} {d : Addr} {ks : List Str} {val : List Nat → FR} {kvs : List (Key × V)} (hG : G d = some (.dK kvs)) (hk : kvs.map (·.1) = ks.map (fun x => (.inr x : Key)))
    (hv : ∀ x ∈ ks, Bf 10 (val x.cps.toList) ∧ ∃ p, valV kvs (.inr x) = some (.ref p) ∧ G p = some (.tup [.int (val x.cps.toList).1, .int (val x.cps.toList).2])) {y : Str} (ny : y ∉ ks) {p : Addr} (b : Bf 10 (val y.cps.toList)) (hp : G p = some (.tup [.int (val y.cps.toList).1, .int (val y.cps.toList).2])) :
    PtK (upd G d (.dK (putK kvs (.inr y) (.ref p)))) d (ks ++ [y]) val := by
  have vn := keysV hk ny
  have dn : ∀ q o, G q = some (.tup o) → q ≠ d := fun q o e z => by rw [z, hG] at e; cases e
  refine ⟨_, upd_same, ?_, fun x hx => ?_⟩
  · rw [putK_new _ vn, List.map_append, hk, List.map_append]
    rfl
  · rw [valV_put]
    rcases List.mem_append.mp hx with hx | hx
    · have e : ¬ (Sum.inr x : Key) = Sum.inr y := fun z => by cases z; exact ny hx
      rw [if_neg e]
      obtain ⟨b, q, e1, e2⟩ := hv x hx
      exact ⟨b, q, e1, (upd_ne (dn _ _ e2)).trans e2⟩
    · rw [List.mem_singleton.mp hx, if_pos rfl]
      exact ⟨b, p, rfl, (upd_ne (dn _ _ hp)).trans hp⟩
end
/-- what the ties of a step say of values -/
def KpT (H : Hp) (z : Addr) (ks : List Str) (us : List V) (ties : List Tie) : Prop := us.length = ties.length ∧ us.length ≤ 10 ∧ ∀ (i : Nat) (w : V) (t : Tie), us[i]? = some w → ties[i]? = some t →
  Dt z H w (tieP t.1 t.2) ∧ t.1.length ≤ 2 ∧ (∀ q ∈ t.1, Nf q.2 ∧ Bn 3 q.2) ∧ Bn 40 t.2 ∧ ∀ n ∈ t.1.map (·.1), SX.S n ∈ ks
theorem KpT.kpA {H : Hp} {z d : Addr} {ks ks' : List Str} {us : List V} {ties : List Tie} {val : List Nat → FR} (h : KpT H z ks us ties) (p : PtK H d ks' val) (hs : ∀ x ∈ ks, x ∈ ks') (i : Nat) (w : V) (t : Tie) (h1 : us[i]? = some w) (h2 : ties[i]? = some t) : KpA H w d z t val := by
  obtain ⟨a, b, c, e, f⟩ := h.2.2 i w t h1 h2
  refine ⟨a, b, c, e, ?_⟩
  obtain ⟨kvs, k1, k2, k3⟩ := p
  refine ⟨kvs, k1, fun n hn => ?_⟩
  have := k3 _ (hs _ (f n hn))
  rwa [S_list] at this
theorem KpT.same {H H' : Hp} {z : Addr} {ks : List Str} {us : List V} {ties : List Tie} (h : KpT H z ks us ties) (s : Same H H') : KpT H' z ks us ties :=
  ⟨h.1, h.2.1, fun i w t h1 h2 => by
    obtain ⟨a, b⟩ := h.2.2 i w t h1 h2
    exact ⟨a.same s, b⟩⟩
/-- names that end without an apostrophe, those with one behind them -/
structure NsQ (ns : List Str) : Prop where
  no : ∀ x ∈ ns, endQ x.cps.toList = false
  ok : ∀ x ∈ ns ++ prS ns, PyData.strOk x = true
theorem prS_inj {x y : Str} (h : x ++ Str.ofString "'" = y ++ Str.ofString "'") : x = y := by
  have := congrArg (fun z : Str => z.cps.toList) h
  simp only [str_quote] at this
  exact str_ext (List.append_cancel_right this)
theorem prS_new {ns ms : List Str} {x : Str} {i : Nat} (h : (ns ++ prS ns).Nodup) (p : ms.Perm ns) (hx : ms[i]? = some x) : x ++ Str.ofString "'" ∉ ns ++ prS (ms.take i) := fun z => by
  have hm : (ms ++ prS ms).Nodup := (prS_perm p).nodup_iff.mpr h
  have il := (List.getElem?_eq_some_iff.mp hx).1
  have mem : x ∈ ms := List.mem_of_getElem? hx
  obtain ⟨h1, h2, h3⟩ := List.nodup_append.mp hm
  rcases List.mem_append.mp z with z | z
  · exact h3 _ (p.mem_iff.mpr z) _ (List.mem_map_of_mem mem) rfl
  · obtain ⟨y, hy, e⟩ := List.mem_map.mp z
    have e := prS_inj e
    subst e
    have dr : ms.drop i = y :: ms.drop (i + 1) := by
      rw [List.drop_eq_getElem_cons il]
      congr 1
      exact (List.getElem?_eq_some_iff.mp hx).2
    have h4 := h1
    rw [← List.take_append_drop i ms, dr] at h4
    exact (List.nodup_append.mp h4).2.2 y hy y List.mem_cons_self rfl
section
variable {P : Program} {w : World} {K : PySem.W.Frag} {mg : Str → Option Value} {base : Heap} {fa : Nat → Addr} {fd : Nat → FuncData}
def spSAllow (K : PySem.W.Frag) (C : Addr) : Sp := fun vs H Q _ => ∃ (x d1 d2 : Addr) (ns : List Str) (us : List V) (u v : List Nat → FR) (ties : List Tie) (z : Addr), vs = [.ref x, .ref d1, .ref d2] ∧ LotH K C H x ns us ∧ StepF H ns us ∧ NsQ ns ∧ PtK H d1 ns u ∧ PtK H d2 ns v ∧ KpT H z (ns ++ prS ns) us ties ∧
  ∀ H', Same H H' → Q (.bl ((ties.map (kp (val2 u v))).all id)) H'
theorem ok_p_StepAllows (T : Txt K mg fa fd) : FnOk P w K mg base CX0 10 (fa 1614) (fd 1614) ["self", "before", "after"] (spSAllow K (fa 146)) := by
  refine T.F_StepAllows.ok sc_p_StepAllows (fun vs H Q E h => ?_) (fun cdv A outer s H vs Q E hr h => ?_)
  · obtain ⟨x, d1, d2, ns, us, u, v, ties, z, rfl, _⟩ := h
    rfl
  · obtain ⟨x, d1, d2, ns, us, u, v, ties, z, rfl, hL, hF, hN, hp1, hp2, hT, q⟩ := h
    obtain ⟨dx, p1, p2, ms, h1, h2, h3, h4, h5⟩ := hL.at_
    have ml : ms.length ≤ 3 := by rw [h3.length_eq]; exact hF.sz
    have ndn : ns.Nodup := (List.nodup_append.mp hF.nd).1
    have lx : ∀ y ∈ ns, y.length ≤ 1000 := fun y hy => by have := (hF.nm y (List.mem_append_left _ hy)).2; omega
    have okm : ∀ x ∈ ms, PyData.strOk x = true := fun y hy => hN.ok y (List.mem_append_left _ (h3.mem_iff.mp hy))
    refine ⟨_, (C8.pss_cut (ps_set (i := 3) sc_p_StepAllows.nd rfl (.inl rfl) (pe_callTy call_list_of (by rfl) T.m_list (by decide +kernel) (pa_cons (pe_fld (pv 0) (by rfl)) pa_nil)))
      (C8.pss_cut (ps_if (PW.pt (pw_or (pt_cmpR (op_neD hr.units) (pe_call (ok_p_ascendingB T) (hr.mono (by decide)) (by rfl) T.g_p_ascending T.F_p_ascending.kp T.b_p_ascending .nil pass0 (pa_cons (pv 1) pa_nil)) (pv 3) (nomark _)) (pw_or1 (pt_cmpR (op_neD hr.units) (pe_call (ok_p_ascendingB T) (hr.mono (by decide)) (by rfl) T.g_p_ascending T.F_p_ascending.kp T.b_p_ascending .nil pass0 (pa_cons (pv 2) pa_nil)) (pv 3) (nomark _))))) (pss_one (ps_ret pe_bl)) pss_nil)
      (C8.pss_cut (ps_set (i := 4) sc_p_StepAllows.nd rfl (.inl rfl) (pe_callTy call_dictD (by rfl) T.m_dict (by decide +kernel) (pa_cons (pv 1) pa_nil)))
      (C8.pss_cut (ps_for PassesOwn.never rfl (pi_list (pv 3)) (pg_name (i := 5) sc_p_StepAllows.nd rfl (.inl rfl)) (pss_one (ps_dput (Nat.lt_of_le_of_lt (Nat.add_le_add_left (by decide) _) hr.units) (pv 4) (pe_op op_add_str (pv 5) pe_str) (pe_dget (Nat.lt_of_le_of_lt (Nat.add_le_add_left (by decide) _) hr.units) (pv 2) (pv 5) (fun _ _ => rfl)) (by rfl))))
      (pss_one (ps_ret (pe_meth (pe_meth0 (pv 0) T.cl_Step T.me_StepLot (ok_p_StepLot T) (hr.mono (by decide)) T.b_StepLot .nil pass0) T.cl_Lot T.me_LotHolds (ok_p_LotHolds T) (hr.mono (by decide)) T.b_LotHolds .nil pass0 (pa_cons (pv 4) pa_nil)))))))), ?_⟩
    refine ⟨fun σ H1 => Same H H1 ∧ ∃ l, H1 l = some (.lst (ms.map V.str)) ∧ σ = [some (.ref x), some (.ref d1), some (.ref d2), some (.ref l), none, none], ⟨_, rfl, _, _, dx, _, _, rfl, h1, T.cl_Step, T.na_Step_unknowns, rfl, p1, _, rfl, .inr h2, fun l nl => ⟨same_upd nl, l, upd_same, rfl⟩⟩, fun σ H1 hM => ?_⟩
    obtain ⟨s1, l, hl, rfl⟩ := hM
    refine ⟨fun σ H2 => Same H H2 ∧ H2 l = some (.lst (ms.map V.str)) ∧ σ = [some (.ref x), some (.ref d1), some (.ref d2), some (.ref l), none, none], ?_, fun σ H2 hM => ?_⟩
    · obtain ⟨k1, hk1, hk2, hk3⟩ := hp1.same s1
      refine ⟨_, rfl, d1, ns, rfl, .inr ⟨k1, hk1, hk2⟩, ndn, by have := hF.sz; omega, lx, fun p ms' H2 s2 np hp perm srt => ?_⟩
      have em : ms' = ms := srt_unique (srt_pw _ srt) (srt_pw _ h4) (perm.trans h3.symm)
      subst em
      refine ⟨_, rfl, _, _, .lst (SqL.of hp) (dp_strs ms'), .lst (SqL.of (s2 _ _ hl)) (dp_strs ms'), shaped_strs okm, shaped_strs okm, _, rfl, ?_⟩
      rw [eqv_strs, decide_eq_true rfl]
      refine iteF ?_
      obtain ⟨k1, hk1, hk2, hk3⟩ := hp2.same (s1.trans s2)
      refine ⟨_, rfl, d2, ns, rfl, .inr ⟨k1, hk1, hk2⟩, ndn, by have := hF.sz; omega, lx, fun p9 ms2 H3 s3 np9 hp9 perm9 srt9 => ?_⟩
      have em : ms2 = ms' := srt_unique (srt_pw _ srt9) (srt_pw _ h4) (perm9.trans h3.symm)
      subst em
      refine ⟨_, rfl, _, _, .lst (SqL.of hp9) (dp_strs ms2), .lst (SqL.of (s3 _ _ (s2 _ _ hl))) (dp_strs ms2), shaped_strs okm, shaped_strs okm, _, rfl, ?_⟩
      rw [eqv_strs, decide_eq_true rfl]
      exact iteF ⟨s1.trans (s2.trans s3), s3 _ _ (s2 _ _ hl), rfl⟩
    obtain ⟨s2, hl2, rfl⟩ := hM
    have P1 := hp1.same s2
    obtain ⟨k1, hk1, hk2, hk3⟩ := P1
    refine ⟨fun σ H3 => ∃ d, H2 d = none ∧ H3 = upd H2 d (.dK k1) ∧ σ = [some (.ref x), some (.ref d1), some (.ref d2), some (.ref l), some (.ref d), none], ⟨_, rfl, d1, k1, rfl, .inl hk1, fun d nd => ⟨d, nd, rfl, rfl⟩⟩, fun σ H3 hM => ?_⟩
    obtain ⟨d, nd, rfl, rfl⟩ := hM
    have sd := same_upd (o := .dK k1) nd
    refine ⟨fun σ G => Same H2 G ∧ PtK G d (ns ++ prS ms) (val2 u v) ∧ ∃ y5, σ = [some (.ref x), some (.ref d1), some (.ref d2), some (.ref l), some (.ref d), y5], ?_, fun σ G hM => ?_⟩
    · refine ⟨_, rfl, l, rfl, ⟨_, SqL.of (sd _ _ hl2)⟩, for_list (K := K) (a := l) (xs := ms.map V.str) (fun i σ G => Same H2 G ∧ PtK G d (ns ++ prS (ms.take i)) (val2 u v) ∧ ∃ y5, σ = [some (.ref x), some (.ref d1), some (.ref d2), some (.ref l), some (.ref d), y5]) ⟨sd, ?_, _, rfl⟩ (fun i σ G _ hq => SqL.of (hq.1 _ _ hl2)) (fun i y σ G hy hq => ?_) (fun σ G hq => ?_)⟩
      · refine ⟨k1, upd_same, by rw [List.take_zero]; simpa using hk2, fun y hy => ?_⟩
        have hy : y ∈ ns := by simpa using hy
        rw [val2_no (hN.no y hy)]
        obtain ⟨b, p, e1, e2⟩ := hk3 y hy
        exact ⟨b, p, e1, sd _ _ e2⟩
      · obtain ⟨sG, hP, y5, rfl⟩ := hq
        rw [List.getElem?_map] at hy
        obtain ⟨n, hz, rfl⟩ := Option.map_eq_some_iff.mp hy
        have il := (List.getElem?_eq_some_iff.mp hz).1
        have mem : n ∈ ns := h3.mem_iff.mp (List.mem_of_getElem? hz)
        obtain ⟨kd, hkd, hkk, hkv⟩ := hP
        obtain ⟨k2, g1, g2, g3⟩ := hp2.same (s2.trans sG)
        obtain ⟨b, pv, e1, e2⟩ := g3 n mem
        have kl : kd.length < sizeLine := by
          have := congrArg List.length hkk
          rw [List.length_map, List.length_map, List.length_append, List.length_map, List.length_take] at this
          have := hF.sz
          exact small1000 (by omega)
        have fin := put_step (y := n ++ Str.ofString "'") (p := pv) hkd hkk hkv (prS_new hF.nd h3 hz) (by rw [val2_yes]; exact b) (by rw [val2_yes]; exact e2)
        have lq : (Str.ofString "'" : Str).length = 1 := by decide +kernel
        have ln := (hF.nm n (List.mem_append_left _ mem)).2
        refine ⟨_, rfl, _, rfl, d2, _, rfl, by rw [← e1]; exact DGet.k (k := (.inr n : Key)) g1, _, rfl, _, rfl, _, _, rfl, rfl, small_line (by omega), d, _, rfl, DPut.k (k := (.inr (n ++ Str.ofString "'") : Key)) hkd kl, ?_, ?_, _, rfl⟩
        · intro b o e
          exact (upd_ne (ne_of_none e nd)).trans (sG _ _ e)
        · rw [List.take_add_one, hz, show (some n).toList = [n] from rfl]
          rw [show prS (ms.take i ++ [n]) = prS (ms.take i) ++ [n ++ Str.ofString "'"] from List.map_append .., ← List.append_assoc]
          exact fin
      · obtain ⟨sG, hP, y5, rfl⟩ := hq
        rw [List.length_map, List.take_length] at hP
        exact ⟨sG, hP, _, rfl⟩
    obtain ⟨sG, hP, y5, rfl⟩ := hM
    have s3 := s2.trans sG
    obtain ⟨k3, g1, g2, g3⟩ := id hP
    refine ⟨_, rfl, x, dx, _, rfl, s3 _ _ h1, rfl, x, ns, us, rfl, hL.same s3, hF.same s3, fun y H5 s5 hy => ?_⟩
    have s6 := s3.trans s5
    obtain ⟨dy, q1, q2, ms2, f1, f2, f3, f4, f5⟩ := id hy.at_
    have pm : (ns ++ prS ns).Perm (ns ++ prS ms) := List.Perm.append_left _ ((h3.symm).map _)
    have hP5 := hP.same s5
    have hT5 := hT.same s6
    obtain ⟨k4, m1, m2, m3⟩ := id hP5
    refine ⟨y, dy, _, rfl, f1, rfl, _, rfl, y, d, ns ++ prS ms, us, z, ties, k4, val2 u v, rfl, hy.perm pm, hT5.1, hT5.2.1, m1, m2, pm.nodup_iff.mp hF.nd, ?_, fun u hu => ?_, fun u hu => hN.ok u (pm.mem_iff.mpr hu), fun i w t a b => hT5.kpA hP5 (fun u hu => pm.mem_iff.mp hu) i w t a b, fun H' s' => q H' (s6.trans s')⟩
    · rw [← pm.length_eq, List.length_append, List.length_map]
      have := hF.sz
      omega
    · have := (hF.nm u (pm.mem_iff.mpr hu)).2
      omega
end
theorem ties_dt {a : Addr} {H : Hp} : ∀ {us : List V} {ties : List Tie}, Paired (TieU a H) us ties → DtAll a H us (ties.map fun t => tieP t.1 t.2)
  | _, _, .nil => .nil
  | _, _, .cons h t => .cons h (ties_dt t)
theorem DtAll.cut {z : Addr} {H : Hp} : ∀ {vs : List V} {ds : List PyData} (n : Nat), DtAll z H vs ds → DtAll z H (vs.take n) (ds.take n) ∧ DtAll z H (vs.drop n) (ds.drop n)
  | _, _, 0, h => ⟨.nil, h⟩
  | _, _, n + 1, .nil => ⟨.nil, .nil⟩
  | _, _, n + 1, .cons h t => ⟨.cons h (DtAll.cut n t).1, (DtAll.cut n t).2⟩
/-- what K tells of the class besides -/
structure TxL (K : PySem.W.Frag) (mg : Str → Option Value) (fa : Nat → Addr) : Prop where
  m_repr : mg "repr" = none
  ic : C8.InsC K (fa 146)
  il : PySem.W.kitOne K (.type "list") (.ref (fa 146)) = some false
  ne : PySem.W.findIn K (.ref (fa 146)) "__ne__" = some (some (.builtin "object.__ne__"))
section
variable {P : Program} {w : World} {K : PySem.W.Frag} {mg : Str → Option Value} {base : Heap} {fa : Nat → Addr} {fd : Nat → FuncData}
/-- a lot with its ties as data -/
structure StepD (K : PySem.W.Frag) (C : Addr) (H : Hp) (x : Addr) (ns : List Str) (ds : List PyData) : Prop where
  ex : ∃ us, LotH K C H x ns us ∧ DpAll K H us ds
  ok : ∀ x ∈ ns, PyData.strOk x = true
  ly : ∀ d ∈ ds, layD d = true
def spSEq (K : PySem.W.Frag) (C : Addr) : Sp := fun vs H Q _ => ∃ (x y : Addr) (ns : List Str) (ds : List PyData), vs = [.ref x, .ref y] ∧ StepD K C H x ns ds ∧
  ((∃ ns', StepD K C H y ns' ds ∧ ns.Perm ns' ∧ ∀ H', Same H H' → Q (.bl true) H') ∨ (∃ ns' ds', StepD K C H y ns' ds' ∧ ns.length ≠ ns'.length ∧ ∀ H', Same H H' → Q (.bl false) H') ∨ (∃ ys, H y = some (.lst ys) ∧ ∀ H', Same H H' → Q (.bl false) H'))
theorem ok_p_StepEq (T : Txt K mg fa fd) (L : TxL K mg fa) : FnOk P w K mg base CX0 1 (fa 1615) (fd 1615) ["self", "other"] (spSEq K (fa 146)) := by
  refine T.F_StepEq.ok sc_p_StepEq (fun vs H Q E h => ?_) (fun cdv A outer s H vs Q E hr h => ?_)
  · obtain ⟨x, y, ns, ds, rfl, _⟩ := h
    rfl
  · obtain ⟨x, y, ns, ds, rfl, ⟨⟨us, hL, hus⟩, okx, lyx⟩, hc⟩ := h
    obtain ⟨dx, p1, p2, ms, h1, h2, h3, h4, h5⟩ := hL.at_
    refine ⟨_, (pss_one (ps_ret (pe_and (pe_callB call_isi (by rfl) T.m_isinstance PyProof.Rows.boot_isinstance (pa_cons (pv 1) (pa_cons (pe_glob (v := V.ref (fa 146)) (by rfl) T.g_Step rfl) pa_nil))) (pe_and (pe_cmpR (op_eqD hr.units) (pe_fld (pv 0) (by rfl)) (pe_fld (pv 1) (by rfl)) (nomark _)) (pe_one (pe_cmpR (op_eqD hr.units) (pe_fld (pv 0) (by rfl)) (pe_fld (pv 1) (by rfl)) (nomark _))))))), ?_⟩
    have okm : ∀ x ∈ ms, PyData.strOk x = true := fun y hy => okx y (h3.mem_iff.mp hy)
    have shm := shaped_tup (shaped_strs okm)
    have shd := shaped_tup (shaped_lay lyx)
    rcases hc with ⟨ns', ⟨⟨us', hL', hus'⟩, oky, lyy⟩, perm, q⟩ | ⟨ns', ds', ⟨⟨us', hL', hus'⟩, oky, lyy⟩, hne, q⟩ | ⟨ys, hy, q⟩
    · obtain ⟨dy, q1, q2, ms', g1, g2, g3, g4, g5⟩ := hL'.at_
      have em : ms' = ms := srt_unique (srt_pw _ g4) (srt_pw _ h4) (g3.trans (perm.symm.trans h3.symm))
      subst em
      refine ⟨_, rfl, .ref y, .ref (fa 146), .ref (fa 146), .ref (fa 146), true, rfl, .own _, .base (.ins g1 L.ic.cl L.ic.ha L.ic.hn L.ic.htk L.ic.hm), L.ic.me, ?_⟩
      refine ⟨_, rfl, iteT ⟨_, rfl, _, _, dx, _, _, rfl, h1, T.cl_Step, T.na_Step_unknowns, rfl, _, rfl, _, _, dy, _, _, rfl, g1, T.cl_Step, T.na_Step_unknowns, rfl, _, _, .tup h2 (dp_strs ms'), .tup g2 (dp_strs ms'), shm, shm, ?_⟩⟩
      rw [show PyData.eqv (.tuple (ms'.map PyData.str)) (.tuple (ms'.map PyData.str)) = true from SeqAt.eqv_refl _ (SeqAt.canLay_of_shaped shm)]
      refine ⟨_, rfl, iteT ⟨_, rfl, _, _, dx, _, _, rfl, h1, T.cl_Step, T.na_Step_bonds, rfl, _, rfl, _, _, dy, _, _, rfl, g1, T.cl_Step, T.na_Step_bonds, rfl, _, _, .tup h5 hus, .tup g5 hus', shd, shd, ?_⟩⟩
      rw [show PyData.eqv (.tuple ds) (.tuple ds) = true from SeqAt.eqv_refl _ (SeqAt.canLay_of_shaped shd)]
      exact q H (Same.refl H)
    · obtain ⟨dy, q1, q2, ms', g1, g2, g3, g4, g5⟩ := hL'.at_
      refine ⟨_, rfl, .ref y, .ref (fa 146), .ref (fa 146), .ref (fa 146), true, rfl, .own _, .base (.ins g1 L.ic.cl L.ic.ha L.ic.hn L.ic.htk L.ic.hm), L.ic.me, ?_⟩
      have okm' : ∀ x ∈ ms', PyData.strOk x = true := fun y hy => oky y (g3.mem_iff.mp hy)
      have ne : ms ≠ ms' := fun e => hne (by rw [← h3.length_eq, ← g3.length_eq, e])
      refine ⟨_, rfl, iteT ⟨_, rfl, _, _, dx, _, _, rfl, h1, T.cl_Step, T.na_Step_unknowns, rfl, _, rfl, _, _, dy, _, _, rfl, g1, T.cl_Step, T.na_Step_unknowns, rfl, _, _, .tup h2 (dp_strs ms), .tup g2 (dp_strs ms'), shm, shaped_tup (shaped_strs okm'), ?_⟩⟩
      rw [show PyData.eqv (.tuple (ms.map PyData.str)) (.tuple (ms'.map PyData.str)) = false from (eqvAll_two ms ms').trans (decide_eq_false ne)]
      exact ⟨_, rfl, iteF (q H (Same.refl H))⟩
    · refine ⟨_, rfl, .ref y, .ref (fa 146), .type "list", .ref (fa 146), false, rfl, .own _, .base (.lst hy), L.il, ?_⟩
      exact ⟨_, rfl, iteF (q H (Same.refl H))⟩
end
section
variable {P : Program} {w : World} {K : PySem.W.Frag} {mg : Str → Option Value} {base : Heap} {fa : Nat → Addr} {fd : Nat → FuncData}
/-- the two ties of a name that stays -/
def stayT (x : Str) : List Tie := [([(x.cps.toList, (1, 1)), (x.cps.toList ++ [39], (-1, 1))], (0, 1)), ([(x.cps.toList, (-1, 1)), (x.cps.toList ++ [39], (1, 1))], (0, 1))]
def stayL (ms : List Str) : List Tie := ms.flatMap stayT
def spStay (K : PySem.W.Frag) (C : Addr) : Sp := fun vs H Q _ => ∃ (L : Addr) (ns : List Str), vs = [.ref L] ∧ H L = some (.lst (ns.map V.str)) ∧ (∀ x ∈ ns, stepN x = true ∧ x.length ≤ 900) ∧ ns.Nodup ∧ ns.length ≤ 3 ∧
  ∀ (y : Addr) (ms : List Str) (us : List V) (z : Addr) (H' : Hp), Same H H' → LotH K C H' y ns us → ms.Perm ns → sortedS ms = true → Paired (fun v t => Dt z H' v (tieP t.1 t.2)) us (stayL ms) → Q (.ref y) H'
theorem fbs_none : ∀ (xs : List Str) (i : Nat) (pre : List Str), (∀ x ∈ xs, stepN x = true) → (pre ++ xs).Nodup → i + xs.length ≤ 3 → firstBadS i pre xs = none
  | [], _, _, _, _, _ => rfl
  | x :: xs, i, pre, hn, hd, hl => by
    rw [List.length_cons] at hl
    have c : (stepN x = true ∧ x ∉ pre) ∧ i < 3 := ⟨⟨hn x List.mem_cons_self, fun z => (List.nodup_append.mp hd).2.2 x z x List.mem_cons_self rfl⟩, by omega⟩
    have e : pre ++ x :: xs = (pre ++ [x]) ++ xs := by rw [List.append_assoc]; rfl
    rw [e] at hd
    show (if _ then _ else _) = _
    rw [if_pos c]
    exact fbs_none xs (i + 1) (pre ++ [x]) (fun u hu => hn u (List.mem_cons_of_mem _ hu)) hd (by omega)
theorem fbs_go : ∀ (xs : List Str) (i : Nat) (pre : List Str) (y : Str) (zs : List Str), (∀ x ∈ xs, stepN x = true) → (pre ++ xs).Nodup → i + xs.length ≤ 3 → (stepN y = false ∨ y ∈ pre ++ xs ∨ 3 ≤ i + xs.length) → firstBadS i pre (xs ++ y :: zs) = some (i + xs.length)
  | [], i, pre, y, zs, _, _, _, h => by
    have n : ¬ ((stepN y = true ∧ y ∉ pre) ∧ i < 3) := fun ⟨⟨a, b⟩, c⟩ => by
      rcases h with h | h | h
      · rw [a] at h
        cases h
      · rw [List.append_nil] at h
        exact b h
      · rw [List.length_nil] at h
        omega
    show (if _ then _ else _) = _
    rw [if_neg n]
    rfl
  | x :: xs, i, pre, y, zs, hn, hd, hl, h => by
    rw [List.length_cons] at hl h
    have c : (stepN x = true ∧ x ∉ pre) ∧ i < 3 := ⟨⟨hn x List.mem_cons_self, fun z => (List.nodup_append.mp hd).2.2 x z x List.mem_cons_self rfl⟩, by omega⟩
    have e : pre ++ x :: xs = (pre ++ [x]) ++ xs := by rw [List.append_assoc]; rfl
    rw [e] at hd h
    have := fbs_go xs (i + 1) (pre ++ [x]) y zs (fun u hu => hn u (List.mem_cons_of_mem _ hu)) hd (by omega) (h.imp id (Or.imp id fun z => by omega))
    show (if _ then firstBadS (i + 1) (pre ++ [x]) (xs ++ y :: zs) else _) = _
    rw [if_pos c, this, List.length_cons]
    congr 1
    omega
/-- Step(names) alone -/
theorem stepA_nil {H : Hp} {L D : Addr} {ns : List Str} (hL : SqB K H L (ns.map V.str)) (hD : SqT K H D []) (h : ∀ x ∈ ns, stepN x = true ∧ x.length ≤ 900) (nd : ns.Nodup) (sz : ns.length ≤ 3) : StepA K H L D ns [] where
  ln := hL
  lt := .inr hD
  ds := ⟨0, [], .nil, rfl⟩
  us := Nat.zero_le _
  fb := fbs_none ns 0 [] (fun x hx => (h x hx).1) (by rw [List.nil_append]; exact nd) (by omega)
  nd := nd
  sz := sz
  lx := fun x hx => (h x hx).2
theorem str_S (x : Str) : SX.S (x.cps.toList ++ [39]) = x ++ Str.ofString "'" := by rw [quote, ← SX.S_cat, S_of]
theorem lt_dash : ∀ l : List Nat, l < l ++ [39]
  | [] => List.Lex.nil
  | x :: l => List.Lex.cons (lt_dash l)
theorem terms_pair {x : Str} {f g : FR} (hx : nameB x.cps.toList = true) (hx' : nameB (x.cps.toList ++ [39]) = true) (nf : Nf f) (ng : Nf g) (f0 : f.1 ≠ 0) (g0 : g.1 ≠ 0) : termsD (.tuple ([(x.cps.toList, f), (x.cps.toList ++ [39], g)].map tmP)) = true := by
  have e1 : nameD (.str (SX.S x.cps.toList)) = true := by show nameB _ = true; rw [S_list]; exact hx
  have e2 : nameD (.str (SX.S (x.cps.toList ++ [39]))) = true := by show nameB _ = true; rw [S_list]; exact hx'
  have e3 : ltD (tmP (x.cps.toList, f)) (tmP (x.cps.toList ++ [39], g)) = true := by
    show decide ((SX.S x.cps.toList).cps.toList < (SX.S (x.cps.toList ++ [39])).cps.toList) = true
    rw [S_list, S_list, decide_eq_true (lt_dash _)]
  show ((nameD (.str (SX.S x.cps.toList)) && ratD (frP f) && decide (f.1 ≠ 0)) && (nameD (.str (SX.S (x.cps.toList ++ [39]))) && ratD (frP g) && decide (g.1 ≠ 0)) && ltD (tmP (x.cps.toList, f)) (tmP (x.cps.toList ++ [39], g))) = true
  rw [e1, e2, e3, ratD_nf nf, ratD_nf ng, decide_eq_true f0, decide_eq_true g0]
  rfl
theorem good_tie {ns : List Str} {t : Tie} (h1 : termsD (.tuple (t.1.map tmP)) = true) (h2 : Nf t.2) (h3 : ∀ u ∈ t.1, SX.S u.1 ∈ ns) : goodT ns (tieP t.1 t.2) = true := by
  show ((termsD (.tuple (t.1.map tmP)) && ratD (frP t.2)) && ((t.1.map tmP).map _).all _) = true
  rw [h1, ratD_nf h2, Bool.true_and, Bool.true_and, List.map_map, List.all_map, List.all_eq_true]
  intro u hu
  exact decide_eq_true (h3 u hu)
theorem nf_m1 : Nf (-1, 1) := by unfold Nf; decide
/-- what holds of the ties of names that stay -/
theorem stay_ok {x : Str} (hx : nameB x.cps.toList = true) (hx' : nameB (x.cps.toList ++ [39]) = true) : ∀ t ∈ stayT x, t.1.length = 2 ∧ (∀ q ∈ t.1, Nf q.2 ∧ Bn 3 q.2) ∧ Nf t.2 ∧ Bn 40 t.2 ∧ termsD (.tuple (t.1.map tmP)) = true ∧ ∀ u ∈ t.1, SX.S u.1 = x ∨ SX.S u.1 = x ++ Str.ofString "'" := by
  have b1 : Bn 3 ((1, 1) : FR) := by unfold Bn; decide
  have b2 : Bn 3 ((-1, 1) : FR) := by unfold Bn; decide
  have b3 : Bn 40 ((0, 1) : FR) := by unfold Bn; decide
  intro t ht
  rcases List.mem_cons.mp ht with rfl | ht
  · refine ⟨rfl, fun q hq => ?_, nf_01, b3, terms_pair hx hx' nf_11 nf_m1 (by decide) (by decide), fun u hu => ?_⟩
    · rcases List.mem_cons.mp hq with rfl | hq
      · exact ⟨nf_11, b1⟩
      · rw [List.mem_singleton.mp hq]
        exact ⟨nf_m1, b2⟩
    · rcases List.mem_cons.mp hu with rfl | hu
      · exact .inl (S_of x)
      · rw [List.mem_singleton.mp hu]
        exact .inr (str_S x)
  · rw [List.mem_singleton.mp ht]
    refine ⟨rfl, fun q hq => ?_, nf_01, b3, terms_pair hx hx' nf_m1 nf_11 (by decide) (by decide), fun u hu => ?_⟩
    · rcases List.mem_cons.mp hq with rfl | hq
      · exact ⟨nf_m1, b2⟩
      · rw [List.mem_singleton.mp hq]
        exact ⟨nf_11, b1⟩
    · rcases List.mem_cons.mp hu with rfl | hu
      · exact .inl (S_of x)
      · rw [List.mem_singleton.mp hu]
        exact .inr (str_S x)
theorem name_dash {x : Str} (h : stepN x = true) : nameB (x.cps.toList ++ [39]) = true := by
  unfold stepN at h
  rw [Bool.and_eq_true, Bool.not_eq_true'] at h
  obtain ⟨h1, h2⟩ := h
  have h2 : ¬ x.cps.toList.getLast? = some 39 := of_decide_eq_false h2
  have e : cutQ (x.cps.toList ++ [39]) = x.cps.toList := by
    unfold cutQ
    rw [List.getLast?_append, List.getLast?_singleton, Option.some_or, if_pos rfl, List.dropLast_concat]
  have e2 : cutQ x.cps.toList = x.cps.toList := by
    unfold cutQ
    rw [if_neg h2]
  unfold nameB at h1 ⊢
  rw [e]
  rwa [e2] at h1
theorem prd_mono {α β : Type} {R S : α → β → Prop} (h : ∀ a b, R a b → S a b) : ∀ {xs : List α} {ys : List β}, Paired R xs ys → Paired S xs ys := fun p => paired_mono h p
theorem stayL_snoc (ms : List Str) (x : Str) : stayL (ms ++ [x]) = stayL ms ++ stayT x := by
  unfold stayL
  rw [List.flatMap_append, List.flatMap_cons, List.flatMap_nil, List.append_nil]
theorem stayL_len : ∀ ms : List Str, (stayL ms).length = 2 * ms.length
  | [] => rfl
  | x :: ms => by
    unfold stayL
    rw [List.flatMap_cons, List.length_append, List.length_cons]
    have := stayL_len ms
    unfold stayL at this
    rw [this]
    show 2 + _ = _
    omega
theorem ok_p_StepStay (T : Txt K mg fa fd) : FnOk P w K mg base CX0 9 (fa 1601) (fd 1601) ["names"] (spStay K (fa 146)) := by
  refine T.F_StepStay.ok sc_p_StepStay (fun vs H Q E h => ?_) (fun cdv A outer s H vs Q E hr h => ?_)
  · obtain ⟨L, ns, rfl, _⟩ := h
    rfl
  · obtain ⟨L, ns, rfl, hL, hn, nd, sz, q⟩ := h
    refine ⟨_, (C8.pss_cut (ps_set (i := 1) sc_p_StepStay.nd rfl (.inl rfl) (T.b_StepInit1.elim fun ds hd => pe_make T.mk_Step (ok_p_StepInit T) (hr.mono (by decide)) (by rfl) T.g_Step hd.2 hd.1 pass0 (pa_cons (pv 0) pa_nil)))
      (C8.pss_cut (ps_set (i := 2) sc_p_StepStay.nd rfl (.inl rfl) (pe_lst pa_nil))
      (C8.pss_cut (ps_for PassesOwn.never rfl (pi_tup (pe_fld (pv 1) (by rfl))) (pg_name (i := 3) sc_p_StepStay.nd rfl (.inl rfl)) (C8.pss_cut (ps_expr (pe_bm PySem.F.plainAttrs_list PySem.F.slot_list_append PySem.F.type_list_append mt_append (pv 2) (pa_cons (pe_tup (pa_cons (pe_tup (pa_cons (pe_tup (pa_cons (pv 3) (pa_cons (pe_tup (pa_cons pe_int (pa_cons pe_int pa_nil))) pa_nil))) (pa_cons (pe_tup (pa_cons (pe_op op_add_str (pv 3) pe_str) (pa_cons (pe_tup (pa_cons (pe_un un_neg pe_int) (pa_cons pe_int pa_nil))) pa_nil))) pa_nil))) (pa_cons (pe_tup (pa_cons pe_int (pa_cons pe_int pa_nil))) pa_nil))) pa_nil)))
      (pss_one (ps_expr (pe_bm PySem.F.plainAttrs_list PySem.F.slot_list_append PySem.F.type_list_append mt_append (pv 2) (pa_cons (pe_tup (pa_cons (pe_tup (pa_cons (pe_tup (pa_cons (pv 3) (pa_cons (pe_tup (pa_cons (pe_un un_neg pe_int) (pa_cons pe_int pa_nil))) pa_nil))) (pa_cons (pe_tup (pa_cons (pe_op op_add_str (pv 3) pe_str) (pa_cons (pe_tup (pa_cons pe_int (pa_cons pe_int pa_nil))) pa_nil))) pa_nil))) (pa_cons (pe_tup (pa_cons pe_int (pa_cons pe_int pa_nil))) pa_nil))) pa_nil))))))
      (pss_one (ps_ret (pe_make T.mk_Step (ok_p_StepInit T) (hr.mono (by decide)) (by rfl) T.g_Step T.b_StepInit .nil pass0 (pa_cons (pv 0) (pa_cons (pv 2) pa_nil)))))))), ?_⟩
    refine ⟨fun σ H1 => Same H H1 ∧ ∃ x, LotH K (fa 146) H1 x ns [] ∧ σ = [some (.ref L), some (.ref x), none, none], ?_, fun σ H1 hM => ?_⟩
    · refine ⟨_, rfl, fun x dx nx ndx ne => ?_⟩
      have sh : Same H (upd (upd H dx (.own x)) x (.ins (fa 146) dx [])) := (same_upd ndx).trans (same_upd (by rw [upd_ne ne.symm]; exact nx))
      refine ⟨x, L, fa 1602, ns, [], dx, rfl, upd_same, stepA_nil (.inl (SqL.of (sh _ _ hL))) (T.z_StepInit _) hn nd sz, fun H' oth hL' => ⟨rfl, fun b o e => ?_, x, hL', rfl⟩⟩
      have nb : b ≠ x := fun z => by rw [z, nx] at e; cases e
      exact oth b o nb (sh _ _ e)
    obtain ⟨s1, x, hx, rfl⟩ := hM
    obtain ⟨dx, p1, p2, ms, h1, h2, h3, h4, h5⟩ := id hx.at_
    have ml : ms.length ≤ 3 := by rw [h3.length_eq]; exact sz
    have hms : ∀ y ∈ ms, stepN y = true ∧ y.length ≤ 900 := fun y hy => hn y (h3.mem_iff.mp hy)
    refine ⟨fun σ H2 => ∃ D, H1 D = none ∧ H2 = upd H1 D (.lst []) ∧ σ = [some (.ref L), some (.ref x), some (.ref D), none], ⟨by decide, fun D nD => ⟨D, nD, rfl, rfl⟩⟩, fun σ H2 hM => ?_⟩
    obtain ⟨D, nD, rfl, rfl⟩ := hM
    obtain ⟨a, _⟩ : ∃ a : Addr, True := ⟨0, trivial⟩
    have oth1 : ∀ {G : Hp}, (∀ b o, b ≠ D → H1 b = some o → G b = some o) → Same H1 G := fun k b o e => k b o (ne_of_none e nD) e
    refine ⟨fun σ G => (∀ b o, b ≠ D → H1 b = some o → G b = some o) ∧ ∃ us, G D = some (.lst us) ∧ Paired (fun v t => Dt a G v (tieP t.1 t.2)) us (stayL ms) ∧ ∃ y3, σ = [some (.ref L), some (.ref x), some (.ref D), y3], ?_, fun σ G hM => ?_⟩
    · refine ⟨_, rfl, x, _, dx, _, _, rfl, (same_upd nD) _ _ h1, T.cl_Step, T.na_Step_unknowns, rfl, p1, rfl, ⟨_, SqT_sm (same_upd nD) h2⟩, for_tup (K := K) (a := p1) (xs := ms.map V.str) (fun i σ G => (∀ b o, b ≠ D → H1 b = some o → G b = some o) ∧ ∃ us, G D = some (.lst us) ∧ Paired (fun v t => Dt a G v (tieP t.1 t.2)) us (stayL (ms.take i)) ∧ ∃ y3, σ = [some (.ref L), some (.ref x), some (.ref D), y3]) ⟨fun b o nb e => (upd_ne nb).trans e, [], upd_same, .nil, _, rfl⟩ (fun i σ G _ hq => SqT_sm (oth1 hq.1) h2) (fun i y σ G hy hq => ?_) (fun σ G hq => ?_)⟩
      · obtain ⟨oth, us, hD, hps, y3, rfl⟩ := hq
        rw [List.getElem?_map] at hy
        obtain ⟨n, hz, rfl⟩ := Option.map_eq_some_iff.mp hy
        have il := (List.getElem?_eq_some_iff.mp hz).1
        obtain ⟨sn, ln⟩ := hms n (List.mem_of_getElem? hz)
        have lq : (Str.ofString "'" : Str).length = 1 := by decide +kernel
        have lqq : n.length + (Str.ofString "'" : Str).length ≤ sizeLine := small_line (by omega)
        have lq7 : (n ++ Str.ofString "'").length ≤ 1000 := by rw [strlen_cat]; omega
        have hnm : Dt a G (.str n) (.str n) := .str n (by omega)
        have ul := Paired.length hps
        rw [stayL_len, List.length_take] at ul
        refine ⟨fun σ G2 => (∀ b o, b ≠ D → H1 b = some o → G2 b = some o) ∧ ∃ us, G2 D = some (.lst us) ∧ us.length ≤ 10 ∧ Paired (fun v t => Dt a G2 v (tieP t.1 t.2)) us (stayL (ms.take i) ++ [([(n.cps.toList, (1, 1)), (n.cps.toList ++ [39], (-1, 1))], (0, 1))]) ∧ σ = [some (.ref L), some (.ref x), some (.ref D), some (.str n)], ?_, fun σ G2 hM => ?_⟩
        · refine ⟨_, rfl, .inl ⟨rfl, _, SqL.of hD⟩, ?_⟩
          refine ⟨_, rfl, (small_line (by decide : 2 ≤ 1000)), fun t0_p1 t0_n1 => ?_⟩
          obtain ⟨t0_s1, t0_d1⟩ := dnewT (z := a) t0_n1 (.cons (.int 1 (by decide +kernel)) (.cons (.int 1 (by decide +kernel)) .nil))
          refine ⟨(small_line (by decide : 2 ≤ 1000)), fun t0_p2 t0_n2 => ?_⟩
          obtain ⟨t0_s2, t0_d2⟩ := dnewT (z := a) t0_n2 (.cons (hnm.same t0_s1) (.cons t0_d1 .nil))
          refine ⟨_, rfl, _, _, rfl, rfl, lqq, _, rfl, (small_line (by decide : 2 ≤ 1000)), fun t0_p3 t0_n3 => ?_⟩
          obtain ⟨t0_s3, t0_d3⟩ := dnewT (z := a) t0_n3 (.cons (.int (-1) (by decide +kernel)) (.cons (.int 1 (by decide +kernel)) .nil))
          refine ⟨(small_line (by decide : 2 ≤ 1000)), fun t0_p4 t0_n4 => ?_⟩
          obtain ⟨t0_s4, t0_d4⟩ := dnewT (z := a) t0_n4 (.cons (.str (n ++ Str.ofString "'") lq7) (.cons t0_d3 .nil))
          refine ⟨(small_line (by decide : 2 ≤ 1000)), fun t0_p5 t0_n5 => ?_⟩
          obtain ⟨t0_s5, t0_d5⟩ := dnewT (z := a) t0_n5 (.cons (t0_d2.same (t0_s3.trans t0_s4)) (.cons t0_d4 .nil))
          refine ⟨(small_line (by decide : 2 ≤ 1000)), fun t0_p6 t0_n6 => ?_⟩
          obtain ⟨t0_s6, t0_d6⟩ := dnewT (z := a) t0_n6 (.cons (.int 0 (by decide +kernel)) (.cons (.int 1 (by decide +kernel)) .nil))
          refine ⟨(small_line (by decide : 2 ≤ 1000)), fun t0_p7 t0_n7 => ?_⟩
          obtain ⟨t0_s7, t0_d7⟩ := dnewT (z := a) t0_n7 (.cons (t0_d5.same t0_s6) (.cons t0_d6 .nil))
          have sS := (t0_s1.trans (t0_s2.trans (t0_s3.trans (t0_s4.trans (t0_s5.trans (t0_s6.trans t0_s7))))))
          have hD2 := sS _ _ hD
          refine ⟨D, _, _, rfl, rfl, hD2, small1000 (by omega), fun b o nb e => (upd_ne nb).trans (sS _ _ (oth b o nb e)), _, upd_same, by rw [List.length_append]; show _ + 1 ≤ 10; omega, ?_, rfl⟩
          refine tieU_nl (z := a) (NL.upd hD2) (paired_snoc (tieU_nl (NL.of sS) hps) ?_)
          show Dt a _ _ (.tuple [.tuple [.tuple [.str (SX.S n.cps.toList), frP (1, 1)], .tuple [.str (SX.S (n.cps.toList ++ [39])), frP (-1, 1)]], frP (0, 1)])
          rw [S_of, str_S]
          exact t0_d7
        obtain ⟨oth2, us2, hD2, ul2, hps2, rfl⟩ := hM
        have hnm : Dt a G2 (.str n) (.str n) := .str n (by omega)
        refine ⟨_, rfl, .inl ⟨rfl, _, SqL.of hD2⟩, ?_⟩
        refine ⟨_, rfl, _, rfl, (small_line (by decide : 2 ≤ 1000)), fun t1_p1 t1_n1 => ?_⟩
        obtain ⟨t1_s1, t1_d1⟩ := dnewT (z := a) t1_n1 (.cons (.int (-1) (by decide +kernel)) (.cons (.int 1 (by decide +kernel)) .nil))
        refine ⟨(small_line (by decide : 2 ≤ 1000)), fun t1_p2 t1_n2 => ?_⟩
        obtain ⟨t1_s2, t1_d2⟩ := dnewT (z := a) t1_n2 (.cons (hnm.same t1_s1) (.cons t1_d1 .nil))
        refine ⟨_, rfl, _, _, rfl, rfl, lqq, (small_line (by decide : 2 ≤ 1000)), fun t1_p3 t1_n3 => ?_⟩
        obtain ⟨t1_s3, t1_d3⟩ := dnewT (z := a) t1_n3 (.cons (.int 1 (by decide +kernel)) (.cons (.int 1 (by decide +kernel)) .nil))
        refine ⟨(small_line (by decide : 2 ≤ 1000)), fun t1_p4 t1_n4 => ?_⟩
        obtain ⟨t1_s4, t1_d4⟩ := dnewT (z := a) t1_n4 (.cons (.str (n ++ Str.ofString "'") lq7) (.cons t1_d3 .nil))
        refine ⟨(small_line (by decide : 2 ≤ 1000)), fun t1_p5 t1_n5 => ?_⟩
        obtain ⟨t1_s5, t1_d5⟩ := dnewT (z := a) t1_n5 (.cons (t1_d2.same (t1_s3.trans t1_s4)) (.cons t1_d4 .nil))
        refine ⟨(small_line (by decide : 2 ≤ 1000)), fun t1_p6 t1_n6 => ?_⟩
        obtain ⟨t1_s6, t1_d6⟩ := dnewT (z := a) t1_n6 (.cons (.int 0 (by decide +kernel)) (.cons (.int 1 (by decide +kernel)) .nil))
        refine ⟨(small_line (by decide : 2 ≤ 1000)), fun t1_p7 t1_n7 => ?_⟩
        obtain ⟨t1_s7, t1_d7⟩ := dnewT (z := a) t1_n7 (.cons (t1_d5.same t1_s6) (.cons t1_d6 .nil))
        have sS := (t1_s1.trans (t1_s2.trans (t1_s3.trans (t1_s4.trans (t1_s5.trans (t1_s6.trans t1_s7))))))
        have hD3 := sS _ _ hD2
        refine ⟨D, _, _, rfl, rfl, hD3, small1000 (by omega), fun b o nb e => (upd_ne nb).trans (sS _ _ (oth2 b o nb e)), _, upd_same, ?_, _, rfl⟩
        rw [List.take_add_one, hz, show (some n).toList = [n] from rfl, stayL_snoc]
        have fin := paired_snoc (R := TieU a _) (tieU_nl (NL.of sS) hps2) (x := .ref t1_p7) (y := ([(n.cps.toList, (-1, 1)), (n.cps.toList ++ [39], (1, 1))], (0, 1))) (by
          show Dt a _ _ (.tuple [.tuple [.tuple [.str (SX.S n.cps.toList), frP (-1, 1)], .tuple [.str (SX.S (n.cps.toList ++ [39])), frP (1, 1)]], frP (0, 1)])
          rw [S_of, str_S]
          exact t1_d7)
        rw [List.append_assoc] at fin
        exact tieU_nl (z := a) (NL.upd hD3) fin
      · obtain ⟨oth, us, hD, hps, y3, rfl⟩ := hq
        rw [List.length_map, List.take_length] at hps
        exact ⟨oth, us, hD, hps, y3, rfl⟩
    obtain ⟨oth, us, hD, hps, y3, rfl⟩ := hM
    have ul := Paired.length hps
    rw [stayL_len] at ul
    refine ⟨_, rfl, _, rfl, fun y dy ny ndy ne => ?_⟩
    have sh : Same G (upd (upd G dy (.own y)) y (.ins (fa 146) dy [])) := (same_upd ndy).trans (same_upd (by rw [upd_ne ne.symm]; exact ny))
    have sG := oth1 oth
    have s2 := s1.trans sG
    have hA : StepA K (upd (upd G dy (.own y)) y (.ins (fa 146) dy [])) L D ns us := {
      ln := .inl (SqL.of (sh _ _ (s2 _ _ hL)))
      lt := .inl (SqL.of (sh _ _ hD))
      ds := ⟨a, _, ties_dt (tieU_nl (NL.of sh) hps), fbt_none _ _ 0 fun d hd => by
        obtain ⟨t, ht, rfl⟩ := List.mem_map.mp hd
        obtain ⟨w, hw, ht⟩ := List.mem_flatMap.mp ht
        have sn := (hms w hw).1
        have sn2 := sn
        unfold stepN at sn2
        rw [Bool.and_eq_true] at sn2
        obtain ⟨_, _, k3, _, k5, k6⟩ := stay_ok sn2.1 (name_dash sn) t ht
        refine good_tie k5 k3 fun u hu => ?_
        have hw' := h3.mem_iff.mp hw
        rcases k6 u hu with e | e
        · rw [e]
          exact List.mem_append_left _ hw'
        · rw [e]
          exact List.mem_append_right _ (List.mem_map_of_mem hw')⟩
      us := by omega
      fb := fbs_none ns 0 [] (fun x hx => (hn x hx).1) (by rw [List.nil_append]; exact nd) (by omega)
      nd := nd
      sz := sz
      lx := fun x hx => (hn x hx).2 }
    refine ⟨y, L, D, ns, us, dy, rfl, upd_same, hA, fun H' oth2 hL' => ⟨rfl, q y ms us a H' (fun b o e => ?_) hL' h3 h4 ?_⟩⟩
    · have e2 := s2 _ _ e
      have nb : b ≠ y := fun z => by rw [z, ny] at e2; cases e2
      exact oth2 b o nb (sh _ _ e2)
    · refine tieU_nl (z := a) (fun b o e _ => ?_) hps
      have nb : b ≠ y := fun z => by rw [z, ny] at e; cases e
      exact oth2 b o nb (sh _ _ e)
end
section
variable {P : Program} {w : World} {K : PySem.W.Frag} {mg : Str → Option Value} {base : Heap} {fa : Nat → Addr} {fd : Nat → FuncData}
def spStayX (K : PySem.W.Frag) (C1 : Addr) : Sp := fun vs H Q E => ∃ (L : Addr) (ns : List Str), vs = [.ref L] ∧ SqL K H L (ns.map V.str) ∧ ns.length ≤ 900 ∧ (∀ x ∈ ns, x.length ≤ 900) ∧ ∃ i x, firstBadS 0 [] ns = some i ∧ ns[i]? = some x ∧ OneE E C1 H "InvalidName" "name" (.str x)
theorem ok_p_StepStayX (T : Txt K mg fa fd) : FnOk P w K mg base (L2.CX P w) 9 (fa 1601) (fd 1601) ["names"] (spStayX K (fa 4)) := by
  refine T.F_StepStay.okX sc_p_StepStay (fun vs H Q E h => ?_) (fun cdv A outer s H vs Q E hr h => ?_)
  · obtain ⟨L, ns, rfl, _⟩ := h
    rfl
  · obtain ⟨L, ns, rfl, hL, hsz, hlen, i, x, e1, e2, he⟩ := h
    refine ⟨_, (C8.pss_cut (ps_set (i := 1) sc_p_StepStay.nd rfl (.inl rfl) (T.b_StepInit1.elim fun ds hd => pe_make T.mk_Step (ok_p_StepInitX T) (hr.mono (by decide)) (by rfl) T.g_Step hd.2 hd.1 (passes_call (takes_of rfl rfl rfl rfl) (fun _ _ _ _ h => h)) (pa_cons (pv 0) pa_nil)))
      (pss_cons ps_never
      (pss_cons ps_never
      (pss_one ps_never)))), ?_⟩
    refine ⟨fun _ _ => False, ?_, fun _ _ z => z.elim⟩
    refine ⟨_, rfl, fun y dx nx ndx ne => ?_⟩
    have sh : Same H (upd (upd H dx (.own y)) y (.ins (fa 146) dx [])) := (same_upd ndx).trans (same_upd (by rw [upd_ne ne.symm]; exact nx))
    exact ⟨y, L, .ref (fa 1602), ns, rfl, SqL.sm sh hL, hsz, hlen, .inl ⟨i, x, e1, e2, he.of sh⟩⟩
end
/-- the other way round -/
def negT (tl : List It) : List It := tl.map fun u => (u.1, negF u.2)
theorem negF_bd {f : FR} (h : Bd f.1) : Bd (negF f).1 := by
  show (-f.1).natAbs.log2 < _
  rw [Int.natAbs_neg]
  exact h
theorem dt_frB {z : Addr} {H : Hp} {v : V} {f : FR} (h : Dt z H v (frP f)) : Bd f.1 ∧ Bd f.2 := by
  match v, h with
  | _, .tup hp (.cons (.int _ h1) (.cons (.int _ h2) .nil)) => exact ⟨h1, h2⟩
theorem negT_len (tl : List It) : (negT tl).length = tl.length := List.length_map ..
theorem negT_take (tl : List It) (i : Nat) : negT (tl.take i) = (negT tl).take i := List.map_take
section
variable {P : Program} {w : World} {K : PySem.W.Frag} {mg : Str → Option Value} {base : Heap} {fa : Nat → Addr} {fd : Nat → FuncData}
def spValT : Sp := fun vs H Q _ => ∃ (v1 v2 : V) (z : Addr) (tl : List It) (b : FR), vs = [v1, v2] ∧ Dt z H v1 (.tuple (tl.map tmP)) ∧ Dt z H v2 (frP b) ∧ tl.length ≤ 10 ∧
  ∀ (D q1 q2 : Addr) (H' : Hp), Same H H' → H D = none → H' D = some (.lst [.ref q1, .ref q2]) → Dt z H' (.ref q1) (tieP tl b) → Dt z H' (.ref q2) (tieP (negT tl) (negF b)) → Q (.ref D) H'
theorem ok_value_ties (T : Txt K mg fa fd) : FnOk P w K mg base CX0 2 (fa 167) (fd 167) ["_law_terms", "_law_value"] spValT := by
  refine T.F_value_ties.ok sc_value_ties (fun vs H Q E h => ?_) (fun cdv A outer s H vs Q E hr h => ?_)
  · obtain ⟨v1, v2, z, tl, b, rfl, _⟩ := h
    rfl
  · obtain ⟨v1, v2, z, tl, b, rfl, h1, h2, hl, q⟩ := h
    refine ⟨_, (pss_one (ps_ret (pe_lst (pa_cons (pe_tup (pa_cons (pv 0) (pa_cons (pv 1) pa_nil))) (pa_cons (pe_tup (pa_cons (pe_callTy call_tuple_of (by rfl) T.m_tuple (by decide +kernel) (pa_cons (pe_lc (own := [("_law_name", 2), ("_law_rate_here", 3)]) (g := gTup K 2 (gCons (gName 2) (gCons (gName 3) gNil))) (tt := tYes) rfl sc_value_ties.nd (pi_tup (pv 0)) (blkOk_by (own := [("_law_name", 2), ("_law_rate_here", 3)]) (N := ["_law_terms", "_law_value", "_law_name", "_law_rate_here"]) (sc := defScope s_value_ties) (by decide +kernel)) (fun _ _ _ _ _ => pg_tup rfl (pgs_cons (pg_name (i := 2) sc_value_ties.nd rfl (Or.inl rfl)) (pgs_cons (pg_name (i := 3) sc_value_ties.nd rfl (Or.inl rfl)) pgs_nil))) (fun _ _ _ _ _ => pts_nil) (fun _ _ _ _ _ => (pe_tup (pa_cons (pv 2) (pa_cons (pe_call (ok_minus T) (hr.mono (by decide)) (by rfl) T.g_minus T.F_minus.kp T.b_minus .nil pass0 (pa_cons (pv 3) pa_nil)) pa_nil))))) pa_nil)) (pa_cons (pe_call (ok_minus T) (hr.mono (by decide)) (by rfl) T.g_minus T.F_minus.kp T.b_minus .nil pass0 (pa_cons (pv 1) pa_nil)) pa_nil))) pa_nil))))), ?_⟩
    obtain ⟨pb, rfl, hpb⟩ := dt_fr h2
    obtain ⟨pt, xs, rfl, hpt, hxs⟩ : ∃ pt xs, v1 = .ref pt ∧ H pt = some (.tup xs) ∧ DtAll z H xs (tl.map tmP) := by
      cases h1 with
      | tup g h => exact ⟨_, _, rfl, g, h⟩
    have xl : xs.length = tl.length := by
      have := hxs.len
      rw [List.length_map] at this
      exact this
    refine ⟨_, rfl, _, rfl, two_line, fun q1 n1 => ?_⟩
    have s1 := same_upd (o := .tup [V.ref pt, .ref pb]) n1
    refine ⟨_, rfl, pt, rfl, ⟨_, SqT.of (s1 _ _ hpt)⟩, fun D nD => ?_⟩
    refine lc_tup (K := K) (a := pt) (xs := xs) (fun i G => Same (upd H q1 (.tup [V.ref pt, .ref pb])) G ∧ ∃ vs, G D = some (.lst vs) ∧ DtAll z G vs ((negT (tl.take i)).map tmP)) ⟨same_upd nD, [], upd_same, .nil⟩ (fun i G _ hq => SqT.of (hq.1 _ _ (s1 _ _ hpt))) (fun i x G hx hq => ?_) (fun G hq => ?_)
    · obtain ⟨sG, vs, hD, hvs⟩ := hq
      obtain ⟨d, hd, hdt⟩ := DtAll.at i hxs hx
      rw [List.getElem?_map] at hd
      obtain ⟨⟨n, f⟩, he, rfl⟩ := Option.map_eq_some_iff.mp hd
      have il : i < tl.length := (List.getElem?_eq_some_iff.mp he).1
      have hdt : Dt z G x (.tuple [.str (SX.S n), frP f]) := Dt.same hdt (s1.trans sG)
      have vl := hvs.len
      rw [List.length_map] at vl
      unfold negT at vl
      rw [List.length_map, List.length_take] at vl
      cases hdt with
      | tup hp hs =>
        cases hs with
        | cons hs1 hs =>
          cases hs with
          | cons hs2 hs =>
            cases hs
            obtain ⟨pr, rfl, hpr⟩ := dt_fr hs2
            cases hs1 with
            | str _ hn =>
              refine ⟨_, _, rfl, .inl (.inl hp), rfl, _, _, rfl, _, _, rfl, rfl, rfl, _, rfl, _, rfl, pr, f, rfl, SqT.of hpr, fun o no => ?_⟩
              have bb := dt_frB hs2
              obtain ⟨se, de⟩ := dnewT (z := z) no (.cons (.int (negF f).1 (negF_bd bb.1)) (.cons (.int (negF f).2 bb.2) .nil))
              refine ⟨two_line, fun e2 ne2 => ?_⟩
              obtain ⟨se2, de2⟩ := dnewT (z := z) ne2 (.cons (.str (SX.S n) hn) (.cons de .nil))
              have hD2 := (se.trans se2) _ _ hD
              refine ⟨vs, hD2, small1000 (by omega), fun b o e => (by rw [upd_ne (ne_of_none e nD)]; exact (se.trans se2) _ _ (sG _ _ e)), vs ++ [.ref e2], upd_same, ?_⟩
              have er : negT (tl.take (i + 1)) = negT (tl.take i) ++ [(n, negF f)] := by
                rw [List.take_add_one, he]
                unfold negT
                rw [List.map_append]
                rfl
              rw [er, List.map_append]
              refine DtAll.snoc (hvs.tups ((TT.of (se.trans se2)).trans (TT.upd hD2)) _ _ (noLs_tm _)) ?_
              exact Dt.tups (TT.upd hD2) _ _ rfl de2
    · obtain ⟨sG, vs, hD, hvs⟩ := hq
      rw [xl, List.take_length] at hvs
      refine ⟨D, vs, rfl, .inl ⟨SqL.of hD, fun l nl => ?_⟩⟩
      obtain ⟨sl, dl⟩ := dnewT (z := z) nl hvs
      have s5 := s1.trans (sG.trans sl)
      have bb := dt_frB h2
      refine ⟨_, rfl, pb, b, rfl, SqT.of (s5 _ _ hpb), fun e ne => ?_⟩
      obtain ⟨se, de⟩ := dnewT (z := z) ne (.cons (.int (negF b).1 (negF_bd bb.1)) (.cons (.int (negF b).2 bb.2) .nil))
      refine ⟨two_line, fun o no => ?_⟩
      obtain ⟨so, d0⟩ := dnewT (z := z) no (.cons (dl.same se) (.cons de .nil))
      refine ⟨two_line, fun R nR => ?_⟩
      have sR := same_upd (o := .lst [V.ref q1, .ref o]) nR
      have s6 := sG.trans (sl.trans (se.trans (so.trans sR)))
      have nRH : H R = none := by
        cases e : H R with
        | none => rfl
        | some u =>
          rw [(s1.trans (sG.trans (sl.trans (se.trans so)))) _ _ e] at nR
          cases nR
      exact q R q1 o _ (s1.trans s6) nRH upd_same (.tup (s6 _ _ upd_same) (.cons (h1.same (s1.trans s6)) (.cons (h2.same (s1.trans s6)) .nil))) (d0.same sR)
end
theorem PtK.upd {G : Hp} {d b : Addr} {o : HO} {ks : List Str} {val : List Nat → FR} (h : PtK G d ks val) (nb : d ≠ b) (nt : ∀ xs, G b ≠ some (.tup xs)) : PtK (upd G b o) d ks val := by
  obtain ⟨kvs, e, k, h⟩ := h
  refine ⟨kvs, (upd_ne nb).trans e, k, fun x hx => ?_⟩
  obtain ⟨b, p, e1, e2⟩ := h x hx
  exact ⟨b, p, e1, (upd_ne fun z => nt _ (by rw [← z]; exact e2)).trans e2⟩
section
variable {P : Program} {w : World} {K : PySem.W.Frag} {mg : Str → Option Value} {base : Heap} {fa : Nat → Addr} {fd : Nat → FuncData}
def spVOf : Sp := fun vs H Q _ => ∃ (d1 d2 : Addr) (ns : List Str) (u v : List Nat → FR), vs = [.ref d1, .ref d2] ∧ PtK H d1 ns u ∧ PtK H d2 ns v ∧ NsQ ns ∧ (ns ++ prS ns).Nodup ∧ (∀ x ∈ ns, x.length ≤ 900) ∧ ns.length ≤ 3 ∧
  ∀ (d : Addr) (H' : Hp), Same H H' → PtK H' d (ns ++ prS ns) (val2 u v) → Q (.ref d) H'
theorem ok_values_of (T : Txt K mg fa fd) : FnOk P w K mg base CX0 1 (fa 169) (fd 169) ["_law_before", "_law_after"] spVOf := by
  refine T.F_values_of.ok sc_values_of (fun vs H Q E h => ?_) (fun cdv A outer s H vs Q E hr h => ?_)
  · obtain ⟨d1, d2, ns, u, v, rfl, _⟩ := h
    rfl
  · obtain ⟨d1, d2, ns, u, v, rfl, hp1, hp2, hN, nd, lx, sz, q⟩ := h
    refine ⟨_, (C8.pss_cut (ps_set (i := 2) sc_values_of.nd rfl (.inl rfl) (pe_callTy call_dictD (by rfl) T.m_dict (by decide +kernel) (pa_cons (pv 0) pa_nil)))
      (C8.pss_cut (ps_lock (ps_for PassesOwn.never rfl (pi_keys (pv 1)) (pg_name (i := 3) sc_values_of.nd rfl (.inl rfl)) (pss_one (ps_dput (Nat.lt_of_le_of_lt (Nat.add_le_add_left (by decide) _) hr.units) (pv 2) (pe_op op_add_str (pv 3) pe_str) (pe_dget (Nat.lt_of_le_of_lt (Nat.add_le_add_left (by decide) _) hr.units) (pv 1) (pv 3) (fun _ _ => rfl)) (by rfl)))))
      (pss_one (ps_ret (pv 2))))), ?_⟩
    obtain ⟨k1, hk1, hk2, hk3⟩ := id hp1
    obtain ⟨k2, g1, g2, g3⟩ := id hp2
    refine ⟨fun σ H1 => ∃ d, H d = none ∧ H1 = upd H d (.dK k1) ∧ σ = [some (.ref d1), some (.ref d2), some (.ref d), none], ⟨_, rfl, d1, k1, rfl, .inl hk1, fun d nd => ⟨d, nd, rfl, rfl⟩⟩, fun σ H1 hM => ?_⟩
    obtain ⟨d, dn, rfl, rfl⟩ := hM
    have sd := same_upd (o := .dK k1) dn
    have db : d ≠ d2 := fun z => by rw [z, g1] at dn; cases dn
    have gd := sd _ _ g1
    refine ⟨fun σ G => Same H G ∧ PtK G d (ns ++ prS ns) (val2 u v) ∧ ∃ y3, σ = [some (.ref d1), some (.ref d2), some (.ref d), y3], ?_, fun σ G hM => ?_⟩
    · refine ⟨d2, _, gd, trivial, fun od => ?_⟩
      refine ⟨_, rfl, d2, od, rfl, .inl ⟨k2, upd_same, for_keys (fun i σ G => G d2 = some (.frz od (.dK k2)) ∧ Ex d2 H G ∧ PtK G d (ns ++ prS (ns.take i)) (val2 u v) ∧ ∃ y3, σ = [some (.ref d1), some (.ref d2), some (.ref d), y3]) ⟨upd_same, ?_, ?_, _, rfl⟩ (fun i σ G h => h.1) (fun i k vv σ G hk hp => ?_) (fun σ G hp => ?_)⟩⟩
      · exact fun c o e n => by rw [upd_ne n]; exact sd _ _ e
      · refine PtK.upd ?_ db (fun xs z => by rw [gd] at z; cases z)
        refine ⟨k1, upd_same, by rw [List.take_zero]; simpa using hk2, fun y hy => ?_⟩
        have hy : y ∈ ns := by simpa using hy
        rw [val2_no (hN.no y hy)]
        obtain ⟨b, p, e1, e2⟩ := hk3 y hy
        exact ⟨b, p, e1, sd _ _ e2⟩
      · obtain ⟨hfb, ex, hP, y3, rfl⟩ := hp
        obtain ⟨n, hz, rfl⟩ : ∃ n, ns[i]? = some n ∧ k = .inr n := by
          have := congrArg (fun l : List Key => l[i]?) g2
          simp only [List.getElem?_map, hk, Option.map_some] at this
          obtain ⟨n, hn, e⟩ := Option.map_eq_some_iff.mp this.symm
          exact ⟨n, hn, e.symm⟩
        have mem : n ∈ ns := List.mem_of_getElem? hz
        obtain ⟨kd, hkd, hkk, hkv⟩ := hP
        obtain ⟨b, pv, e1, e2⟩ := g3 n mem
        have e2 : G pv = some (.tup [.int (v n.cps.toList).1, .int (v n.cps.toList).2]) := ex _ _ e2 fun z => by rw [z, g1] at e2; cases e2
        have kl : kd.length < sizeLine := by
          have := congrArg List.length hkk
          rw [List.length_map, List.length_map, List.length_append, List.length_map, List.length_take] at this
          exact small1000 (by omega)
        have fin := put_step (y := n ++ Str.ofString "'") (p := pv) hkd hkk hkv (prS_new nd (List.Perm.refl ns) hz) (by rw [val2_yes]; exact b) (by rw [val2_yes]; exact e2)
        have lq : (Str.ofString "'" : Str).length = 1 := by decide +kernel
        have ln := lx n mem
        refine ⟨_, rfl, _, rfl, d2, _, rfl, .inl ⟨k2, (.inr n : Key), .inr ⟨od, hfb⟩, rfl, e1.symm⟩, _, rfl, _, rfl, _, _, rfl, rfl, small_line (by omega), d, _, rfl, DPut.k (k := (.inr (n ++ Str.ofString "'") : Key)) hkd kl, ?_, ex.upd dn, ?_, _, rfl⟩
        · rw [upd_ne db.symm]
          exact hfb
        · rw [List.take_add_one, hz, show (some n).toList = [n] from rfl]
          rw [show prS (ns.take i ++ [n]) = prS (ns.take i) ++ [n ++ Str.ofString "'"] from List.map_append .., ← List.append_assoc]
          exact fin
      · obtain ⟨hfb, ex, hP, y3, rfl⟩ := hp
        have kl : k2.length = ns.length := by
          have := congrArg List.length g2
          rwa [List.length_map, List.length_map] at this
        rw [kl, List.take_length] at hP
        exact ⟨hfb, ex.back g1, hP.upd db (fun xs z => by rw [hfb] at z; cases z), _, rfl⟩
    obtain ⟨sG, hP, y3, rfl⟩ := hM
    exact ⟨_, rfl, q d G sG hP⟩
def spStT (K : PySem.W.Frag) : Sp := fun vs H Q _ => ∃ (L : Addr) (ns : List Str) (a : Addr), vs = [.ref L] ∧ SqL K H L (ns.map V.str) ∧ ns.length ≤ 3 ∧ (∀ x ∈ ns, x.length ≤ 900) ∧
  ∀ (F : Addr) (ms : List Str) (us : List V) (H' : Hp), Same H H' → H' F = some (.lst us) → ms.Perm ns → sortedS ms = true → Paired (TieU a H') us (stayL ms) → Q (.ref F) H'
theorem ok_stay_ties (T : Txt K mg fa fd) : FnOk P w K mg base CX0 3 (fa 170) (fd 170) ["_law_words_here"] (spStT K) := by
  refine T.F_stay_ties.ok sc_stay_ties (fun vs H Q E h => ?_) (fun cdv A outer s H vs Q E hr h => ?_)
  · obtain ⟨L, ns, a, rfl, _⟩ := h
    rfl
  · obtain ⟨L, ns, a, rfl, hL, sz, lx, q⟩ := h
    refine ⟨_, (C8.pss_cut (ps_set (i := 1) sc_stay_ties.nd rfl (.inl rfl) (pe_lst pa_nil))
      (C8.pss_cut (ps_for PassesOwn.never rfl (pi_list (pe_callB cr_sortedS (by rfl) T.m_sorted (by decide +kernel) (pa_cons (pv 0) pa_nil))) (pg_name (i := 2) sc_stay_ties.nd rfl (.inl rfl)) (pss_one (ps_set (i := 1) sc_stay_ties.nd rfl (.inl rfl) (pe_op op_cat (pv 1) (pe_call (ok_value_ties T) (hr.mono (by decide)) (by rfl) T.g_value_ties T.F_value_ties.kp T.b_value_ties .nil pass0 (pa_cons (pe_tup (pa_cons (pe_tup (pa_cons (pv 2) (pa_cons (pe_tup (pa_cons pe_int (pa_cons pe_int pa_nil))) pa_nil))) (pa_cons (pe_tup (pa_cons (pe_op op_add_str (pv 2) pe_str) (pa_cons (pe_tup (pa_cons (pe_un un_neg pe_int) (pa_cons pe_int pa_nil))) pa_nil))) pa_nil))) (pa_cons (pe_tup (pa_cons pe_int (pa_cons pe_int pa_nil))) pa_nil)))))))
      (pss_one (ps_ret (pv 1))))), ?_⟩
    refine ⟨fun σ H1 => ∃ F, H F = none ∧ H1 = upd H F (.lst []) ∧ σ = [some (.ref L), some (.ref F), none], ⟨by decide, fun D nD => ⟨D, nD, rfl, rfl⟩⟩, fun σ H1 hM => ?_⟩
    obtain ⟨F0, nF, rfl, rfl⟩ := hM
    have s1 := same_upd (o := .lst []) nF
    refine ⟨fun σ G => Same H G ∧ ∃ F us ms, G F = some (.lst us) ∧ ms.Perm ns ∧ sortedS ms = true ∧ Paired (TieU a G) us (stayL ms) ∧ ∃ y2, σ = [some (.ref L), some (.ref F), y2], ?_, fun σ G hM => ?_⟩
    · refine ⟨_, rfl, L, ns, rfl, SqL.sm s1 hL, by omega, fun ms p perm srt np => ?_⟩
      have ml : ms.length ≤ 3 := by rw [perm.length_eq]; exact sz
      have s2 := same_upd (o := .lst (ms.map V.str)) np
      refine ⟨p, rfl, ⟨_, SqL.of upd_same⟩, for_list (K := K) (a := p) (xs := ms.map V.str) (fun i σ G => Same (upd (upd H F0 (.lst [])) p (.lst (ms.map V.str))) G ∧ ∃ F us, G F = some (.lst us) ∧ Paired (TieU a G) us (stayL (ms.take i)) ∧ ∃ y2, σ = [some (.ref L), some (.ref F), y2]) ⟨Same.refl _, F0, [], s2 _ _ upd_same, .nil, _, rfl⟩ (fun i σ G _ hq => SqL.of (hq.1 _ _ upd_same)) (fun i y σ G hy hq => ?_) (fun σ G hq => ?_)⟩
      · obtain ⟨sG, F, us, hF, hps, y2, rfl⟩ := hq
        rw [List.getElem?_map] at hy
        obtain ⟨n, hz, rfl⟩ := Option.map_eq_some_iff.mp hy
        have il := (List.getElem?_eq_some_iff.mp hz).1
        have ln := lx n (perm.mem_iff.mp (List.mem_of_getElem? hz))
        have lq : (Str.ofString "'" : Str).length = 1 := by decide +kernel
        have lqq : n.length + (Str.ofString "'" : Str).length ≤ sizeLine := small_line (by omega)
        have lq7 : (n ++ Str.ofString "'").length ≤ 1000 := by rw [strlen_cat]; omega
        have hnm : Dt a G (.str n) (.str n) := .str n (by omega)
        have ul := Paired.length hps
        rw [stayL_len, List.length_take] at ul
        refine ⟨_, rfl, ?_⟩
        refine ⟨_, rfl, (small_line (by decide : 2 ≤ 1000)), fun tp1 tn1 => ?_⟩
        obtain ⟨ts1, td1⟩ := dnewT (z := a) tn1 (.cons (.int 1 (by decide +kernel)) (.cons (.int 1 (by decide +kernel)) .nil))
        refine ⟨(small_line (by decide : 2 ≤ 1000)), fun tp2 tn2 => ?_⟩
        obtain ⟨ts2, td2⟩ := dnewT (z := a) tn2 (.cons (hnm.same ts1) (.cons td1 .nil))
        refine ⟨_, rfl, _, _, rfl, rfl, lqq, _, rfl, (small_line (by decide : 2 ≤ 1000)), fun tp3 tn3 => ?_⟩
        obtain ⟨ts3, td3⟩ := dnewT (z := a) tn3 (.cons (.int (-1) (by decide +kernel)) (.cons (.int 1 (by decide +kernel)) .nil))
        refine ⟨(small_line (by decide : 2 ≤ 1000)), fun tp4 tn4 => ?_⟩
        obtain ⟨ts4, td4⟩ := dnewT (z := a) tn4 (.cons (.str (n ++ Str.ofString "'") lq7) (.cons td3 .nil))
        refine ⟨(small_line (by decide : 2 ≤ 1000)), fun tp5 tn5 => ?_⟩
        obtain ⟨ts5, td5⟩ := dnewT (z := a) tn5 (.cons (td2.same (ts3.trans ts4)) (.cons td4 .nil))
        refine ⟨(small_line (by decide : 2 ≤ 1000)), fun tp6 tn6 => ?_⟩
        obtain ⟨ts6, td6⟩ := dnewT (z := a) tn6 (.cons (.int 0 (by decide +kernel)) (.cons (.int 1 (by decide +kernel)) .nil))
        have sS := (ts1.trans (ts2.trans (ts3.trans (ts4.trans (ts5.trans ts6)))))
        refine ⟨_, _, a, [(n.cps.toList, (1, 1)), (n.cps.toList ++ [39], (-1, 1))], (0, 1), rfl, ?_, td6, by show 2 ≤ 10; decide, fun D q1 q2 H2 s3 nD hD d1 d2 => ?_⟩
        · show Dt a _ _ (.tuple [.tuple [.str (SX.S n.cps.toList), frP (1, 1)], .tuple [.str (SX.S (n.cps.toList ++ [39])), frP (-1, 1)]])
          rw [S_of, str_S]
          exact td5.same ts6
        · have s4 := sS.trans s3
          refine ⟨F, D, _, _, rfl, rfl, s4 _ _ hF, hD, small_line (by show us.length + 2 ≤ 1000; omega), fun F2 nF2 => ?_⟩
          have s5 := same_upd (o := .lst (us ++ [V.ref q1, .ref q2])) nF2
          refine ⟨sG.trans (s4.trans s5), F2, _, upd_same, ?_, _, rfl⟩
          rw [List.take_add_one, hz, show (some n).toList = [n] from rfl, stayL_snoc]
          have k1 := tieU_nl (z' := a) (NL.of (s4.trans s5)) hps
          have k2 := paired_snoc (R := TieU a _) (paired_snoc (R := TieU a _) k1 (show TieU a _ (.ref q1) ([(n.cps.toList, (1, 1)), (n.cps.toList ++ [39], (-1, 1))], (0, 1)) from d1.same s5)) (show TieU a _ (.ref q2) ([(n.cps.toList, (-1, 1)), (n.cps.toList ++ [39], (1, 1))], (0, 1)) from d2.same s5)
          rw [List.append_assoc, List.append_assoc] at k2
          exact k2
      · obtain ⟨sG, F, us, hF, hps, y2, rfl⟩ := hq
        rw [List.length_map, List.take_length] at hps
        exact ⟨s1.trans (s2.trans sG), F, us, ms, hF, perm, srt, hps, y2, rfl⟩
    obtain ⟨sG, F, us, ms, hF, perm, srt, hps, y2, rfl⟩ := hM
    exact ⟨_, rfl, q F ms us G sG hF perm srt hps⟩
end
abbrev wideN (ws : List Nm) : List Nm := ws ++ ws.map fun x => x ++ [39]
theorem bn_bd {f : FR} (h : Bn 3 f) : Bd f.1 ∧ Bd f.2 := ⟨log2_mono (b := 8) (Nat.le_of_lt h.1) (by decide +kernel), log2_mono (b := 8) (Nat.le_of_lt h.2) (by decide +kernel)⟩
theorem rr_neg : ∀ f ∈ RR, negF f ∈ RR := by decide +kernel
theorem nf_neg {f : FR} (h : Nf f) : Nf (negF f) := h.neg
theorem nameD_S {x : Nm} (h : nameB x = true) : nameD (.str (SX.S x)) = true := by show nameB _ = true; rw [S_list]; exact h
theorem term_rr {x : Nm} {f : FR} (hx : nameB x = true) (hf : f ∈ RR) : termD (tmP (x, f)) = true := by
  obtain ⟨n, b⟩ := rr_nf f hf
  have z := (rr_bd f hf).1
  show (nameD (.str (SX.S x)) && ratD (frP f) && decide (f.1 ≠ 0)) = true
  rw [nameD_S hx, ratD_nf n, decide_eq_true z]
  rfl
theorem lt_S {x y : Nm} {f g : FR} (h : x < y) : ltD (tmP (x, f)) (tmP (y, g)) = true := by
  show decide ((SX.S x).cps.toList < (SX.S y).cps.toList) = true
  rw [S_list, S_list, decide_eq_true h]
theorem terms_one {x : Nm} {f : FR} (hx : nameB x = true) (hf : f ∈ RR) : termsD (.tuple ([(x, f)].map tmP)) = true := term_rr hx hf
theorem terms_two {x y : Nm} {f g : FR} (hx : nameB x = true) (hy : nameB y = true) (hf : f ∈ RR) (hg : g ∈ RR) (h : x < y) : termsD (.tuple ([(x, f), (y, g)].map tmP)) = true := by
  show (termD (tmP (x, f)) && termD (tmP (y, g)) && ltD (tmP (x, f)) (tmP (y, g))) = true
  rw [term_rr hx hf, term_rr hy hg, lt_S h]
  rfl
theorem lw_name {x : Nm} (h : LW x) : nameB x = true := (lw_nm h).1
/-- the words of a step, with and without an apostrophe -/
theorem lw_last {x : Nm} (h : LW x) : endQ x = false := by
  unfold endQ
  refine decide_eq_false fun z => ?_
  have m := List.mem_of_getLast? z
  exact low39 h m
theorem lw_dash {x : Nm} (h : LW x) : nameB (x ++ [39]) = true := by
  have e : stepN (SX.S x) = true := by
    unfold stepN
    rw [S_list, lw_name h, lw_last h]
    rfl
  have := name_dash e
  rwa [S_list] at this
theorem neg_terms {tl : List It} (h : tl.length = 1 ∨ tl.length = 2) (hw : ∀ u ∈ tl, u.2 ∈ RR) (ht : termsD (.tuple (tl.map tmP)) = true) : termsD (.tuple ((negT tl).map tmP)) = true := by
  match tl, h with
  | [u], _ =>
    have ht : (nameD (.str (SX.S u.1)) && ratD (frP u.2) && decide (u.2.1 ≠ 0)) = true := ht
    rw [Bool.and_eq_true, Bool.and_eq_true] at ht
    have := hw u List.mem_cons_self
    have b := rr_nf _ (rr_neg _ this)
    show (nameD (.str (SX.S u.1)) && ratD (frP (negF u.2)) && decide ((negF u.2).1 ≠ 0)) = true
    rw [ht.1.1, ratD_nf b.1, decide_eq_true (rr_bd _ (rr_neg _ this)).1]
    rfl
  | [u, v], _ =>
    have ht : ((nameD (.str (SX.S u.1)) && ratD (frP u.2) && decide (u.2.1 ≠ 0)) && (nameD (.str (SX.S v.1)) && ratD (frP v.2) && decide (v.2.1 ≠ 0)) && decide ((SX.S u.1).cps.toList < (SX.S v.1).cps.toList)) = true := ht
    rw [Bool.and_eq_true, Bool.and_eq_true, Bool.and_eq_true, Bool.and_eq_true, Bool.and_eq_true, Bool.and_eq_true] at ht
    have h1 := hw u List.mem_cons_self
    have h2 := hw v (List.mem_cons_of_mem _ List.mem_cons_self)
    show ((nameD (.str (SX.S u.1)) && ratD (frP (negF u.2)) && decide ((negF u.2).1 ≠ 0)) && (nameD (.str (SX.S v.1)) && ratD (frP (negF v.2)) && decide ((negF v.2).1 ≠ 0)) && decide ((SX.S u.1).cps.toList < (SX.S v.1).cps.toList)) = true
    rw [ht.1.1.1.1, ht.1.2.1.1, ht.2, ratD_nf (rr_nf _ (rr_neg _ h1)).1, ratD_nf (rr_nf _ (rr_neg _ h2)).1, decide_eq_true (rr_bd _ (rr_neg _ h1)).1, decide_eq_true (rr_bd _ (rr_neg _ h2)).1]
    rfl
theorem negT_mem {tl : List It} {ws : List Nm} (h : ∀ u ∈ tl, u.1 ∈ ws ∧ u.2 ∈ RR) : ∀ u ∈ negT tl, u.1 ∈ ws ∧ u.2 ∈ RR := fun u hu => by
  obtain ⟨v, hv, rfl⟩ := List.mem_map.mp hu
  exact ⟨(h v hv).1, rr_neg _ (h v hv).2⟩
section
variable {P : Program} {w : World} {K : PySem.W.Frag} {mg : Str → Option Value} {base : Heap} {fa : Nat → Addr} {fd : Nat → FuncData}
def spStepT : Sp := fun vs H Q _ => ∃ (a c p : Addr) (ws : List Nm), vs = [.ref a, .ref p, .int 3] ∧ FeedOk H a c ∧ p ≠ a ∧ H p = some (.lst (ws.map vS)) ∧ ws ≠ [] ∧ ws.length ≤ 6 ∧ (∀ x ∈ ws, LW x) ∧
  ∀ (D : Addr) (us : List V) (ties : List Tie) (H' : Hp), FeedOk H' a c → But a H H' → D ≠ a → H D = none → H' D = some (.lst us) → Paired (TieU a H') us ties → (∀ t ∈ ties, TieG (wideN ws) t) → ties.length ≤ 6 → Q (.ref D) H'
theorem ok_step_ties (T : Txt K mg fa fd) : FnOk P w K mg base CX0 5 (fa 168) (fd 168) ["_law_feed_here", "_law_words_here", "_law_many"] spStepT := by
  refine T.F_step_ties.ok sc_step_ties (fun vs H Q E h => ?_) (fun cdv A outer s H vs Q E hr h => ?_)
  · obtain ⟨a, c, p, ws, rfl, _⟩ := h
    rfl
  · obtain ⟨a, c, p, ws, rfl, hF, npa, hp, hne, hl, hw, q⟩ := h
    refine ⟨_, (C8.pss_cut (ps_set (i := 3) sc_step_ties.nd rfl (.inl rfl) (pe_lst pa_nil))
      (C8.pss_cut (ps_for PassesOwn.never rfl (pi_range1 (by rfl) T.m_range (pa_cons (pe_call (ok_draw T) (hr.mono (by decide)) (by rfl) T.g_draw T.F_draw.kp T.b_draw .nil pass0 (pa_cons (pv 0) (pa_cons (pe_op op_add (pv 2) pe_int) pa_nil))) pa_nil)) (pg_name (i := 4) sc_step_ties.nd rfl (.inl rfl)) (C8.pss_cut (ps_par3 (i := 5) (j := 6) (l := 7) (by rfl) sc_step_ties.nd rfl rfl rfl (by decide) (by decide) (by decide) rfl rfl rfl (pa_cons (pe_call (ok_any T) (hr.mono (by decide)) (by rfl) T.g_any T.F_any.kp T.b_any .nil pass0 (pa_cons (pv 0) (pa_cons (pv 1) pa_nil))) (pa_cons (pe_call (ok_any T) (hr.mono (by decide)) (by rfl) T.g_any T.F_any.kp T.b_any .nil pass0 (pa_cons (pv 0) (pa_cons (pv 1) pa_nil))) (pa_cons (pe_call (ok_draw T) (hr.mono (by decide)) (by rfl) T.g_draw T.F_draw.kp T.b_draw .nil pass0 (pa_cons (pv 0) (pa_cons pe_int pa_nil))) pa_nil))) (by rfl))
      (C8.pss_cut (ps_par (i := 8) (j := 9) (by rfl) sc_step_ties.nd rfl rfl (by decide) rfl rfl (pa_cons (pe_call (ok_rate T) (hr.mono (by decide)) (by rfl) T.g_rate T.F_rate.kp T.b_rate .nil pass0 (pa_cons (pv 0) pa_nil)) (pa_cons (pe_call (ok_any T) (hr.mono (by decide)) (by rfl) T.g_any T.F_any.kp T.b_any .nil pass0 (pa_cons (pv 0) (pa_cons (pe_lst (pa_cons (pe_tup (pa_cons pe_int (pa_cons pe_int pa_nil))) (pa_cons (pe_tup (pa_cons pe_int (pa_cons pe_int pa_nil))) (pa_cons (pe_tup (pa_cons (pe_un un_neg pe_int) (pa_cons pe_int pa_nil))) (pa_cons (pe_tup (pa_cons pe_int (pa_cons pe_int pa_nil))) (pa_cons (pe_tup (pa_cons pe_int (pa_cons pe_int pa_nil))) pa_nil)))))) pa_nil))) pa_nil)) (by rfl))
      (C8.pss_cut (ps_set (i := 10) sc_step_ties.nd rfl (.inl rfl) (pe_call (ok_any T) (hr.mono (by decide)) (by rfl) T.g_any T.F_any.kp T.b_any .nil pass0 (pa_cons (pv 0) (pa_cons (pe_lst (pa_cons (pe_tup (pa_cons pe_int (pa_cons pe_int pa_nil))) (pa_cons (pe_tup (pa_cons (pe_un un_neg pe_int) (pa_cons pe_int pa_nil))) pa_nil))) pa_nil))))
      (C8.pss_cut (ps_if (pt_cmpR op_eq (pv 7) pe_int (nomark _)) (pss_one (ps_set (i := 11) sc_step_ties.nd rfl (.inl rfl) (pe_tup (pa_cons (pe_tup (pa_cons (pv 6) (pa_cons (pv 8) pa_nil))) pa_nil)))) (pss_one (ps_if (pt_cmpR op_eq (pv 7) pe_int (nomark _)) (pss_one (ps_set (i := 11) sc_step_ties.nd rfl (.inl rfl) (pe_tup (pa_cons (pe_tup (pa_cons (pe_op op_add_str (pv 5) pe_str) (pa_cons (pv 10) pa_nil))) pa_nil)))) (pss_one (ps_set (i := 11) sc_step_ties.nd rfl (.inl rfl) (pe_callTy call_tuple_of (by rfl) T.m_tuple (by decide +kernel) (pa_cons (pe_callB cr_sortT2 (by rfl) T.m_sorted (by decide +kernel) (pa_cons (pe_lst (pa_cons (pe_tup (pa_cons (pe_op op_add_str (pv 5) pe_str) (pa_cons (pv 10) pa_nil))) (pa_cons (pe_tup (pa_cons (pv 6) (pa_cons (pe_call (ok_minus T) (hr.mono (by decide)) (by rfl) T.g_minus T.F_minus.kp T.b_minus .nil pass0 (pa_cons (pv 8) pa_nil)) pa_nil))) pa_nil))) pa_nil)) pa_nil)))))))
      (C8.pss_cut (ps_expr (pe_bm PySem.F.plainAttrs_list PySem.F.slot_list_append PySem.F.type_list_append mt_append (pv 3) (pa_cons (pe_tup (pa_cons (pv 11) (pa_cons (pv 9) pa_nil))) pa_nil)))
      (pss_one (ps_if (pt_cmpR op_gt (pv 7) pe_int (nomark _)) (pss_one (ps_expr (pe_bm PySem.F.plainAttrs_list PySem.F.slot_list_append PySem.F.type_list_append mt_append (pv 3) (pa_cons (pe_tup (pa_cons (pe_callTy call_tuple_of (by rfl) T.m_tuple (by decide +kernel) (pa_cons (pe_lc (own := [("_law_name", 12), ("_law_part", 13)]) (g := gTup K 2 (gCons (gName 12) (gCons (gName 13) gNil))) (tt := tYes) rfl sc_step_ties.nd (pi_tup (pv 11)) (blkOk_by (own := [("_law_name", 12), ("_law_part", 13)]) (N := ["_law_feed_here", "_law_words_here", "_law_many", "_law_found", "_law_k", "_law_one", "_law_two", "_law_way", "_law_rate_here", "_law_bound", "_law_sign", "_law_terms", "_law_name", "_law_part"]) (sc := defScope s_step_ties) (by decide +kernel)) (fun _ _ _ _ _ => pg_tup rfl (pgs_cons (pg_name (i := 12) sc_step_ties.nd rfl (Or.inl rfl)) (pgs_cons (pg_name (i := 13) sc_step_ties.nd rfl (Or.inl rfl)) pgs_nil))) (fun _ _ _ _ _ => pts_nil) (fun _ _ _ _ _ => (pe_tup (pa_cons (pv 12) (pa_cons (pe_call (ok_minus T) (hr.mono (by decide)) (by rfl) T.g_minus T.F_minus.kp T.b_minus .nil pass0 (pa_cons (pv 13) pa_nil)) pa_nil))))) pa_nil)) (pa_cons (pe_call (ok_minus T) (hr.mono (by decide)) (by rfl) T.g_minus T.F_minus.kp T.b_minus .nil pass0 (pa_cons (pv 9) pa_nil)) pa_nil))) pa_nil)))) pss_nil))))))))
      (pss_one (ps_ret (pv 3))))), ?_⟩
    refine ⟨fun σ G => ∃ D, H D = none ∧ G = upd H D (.lst []) ∧ σ = [some (.ref a), some (.ref p), some (.int 3), some (.ref D), none, none, none, none, none, none, none, none, none, none], ⟨by decide, fun D nD => ⟨D, nD, rfl, rfl⟩⟩, fun σ G hM => ?_⟩
    obtain ⟨D, nD, rfl, rfl⟩ := hM
    have nDa := new_ne hF nD
    have nDc := new_nc hF nD
    have nDp : D ≠ p := (ne_of_none hp nD).symm
    have s1 := same_upd (o := HO.lst []) nD
    have wl : 0 < ws.length := List.length_pos_iff.mpr hne
    refine ⟨fun σ G => FeedOk G a c ∧ But a H G ∧ ∃ us ties, G D = some (.lst us) ∧ Paired (TieU a G) us ties ∧ (∀ t ∈ ties, TieG (wideN ws) t) ∧ ties.length ≤ 6 ∧ ∃ y4 y5 y6 y7 y8 y9 y10 y11 y12 y13, σ = [some (.ref a), some (.ref p), some (.int 3), some (.ref D), y4, y5, y6, y7, y8, y9, y10, y11, y12, y13], ?_, fun σ G hM => ?_⟩
    · refine ⟨_, rfl, _, rfl, _, _, rfl, rfl, a, c, _, rfl, hF.same s1, mid_of (by decide) (by decide), fun r H2 r0 r1 hF2 b2 => ?_⟩
      obtain ⟨n, rfl⟩ := Int.eq_ofNat_of_zero_le r0
      refine ⟨_, rfl, by omega, by omega, ?_⟩
      rw [Int.toNat_natCast]
      have b02 : But a H H2 := (But.of s1).trans b2
      refine for_range (n := n) (fun i σ G => FeedOk G a c ∧ But a H G ∧ G p = some (.lst (ws.map vS)) ∧ ∃ us ties, G D = some (.lst us) ∧ Paired (TieU a G) us ties ∧ (∀ t ∈ ties, TieG (wideN ws) t) ∧ ties.length ≤ 2 * i ∧ ∃ y4 y5 y6 y7 y8 y9 y10 y11 y12 y13, σ = [some (.ref a), some (.ref p), some (.int 3), some (.ref D), y4, y5, y6, y7, y8, y9, y10, y11, y12, y13])
        ⟨hF2, b02, b02 _ _ npa hp, [], [], b2 _ _ nDa upd_same, .nil, (fun t h => by cases h), Nat.zero_le _, _, _, _, _, _, _, _, _, _, _, rfl⟩ (fun i σ G hi hq => ?_) (fun σ G hq => ?_)
      · obtain ⟨hG, bG, hpG, us, ties, hDG, hT, hg, tl, y4, y5, y6, y7, y8, y9, y10, y11, y12, y13, rfl⟩ := hq
        have bnl : ∀ {G' : Hp}, But a G G' → NL G G' := fun b => NL.but hG b
        refine ⟨fun σ G1 => FeedOk G1 a c ∧ But a G G1 ∧ ∃ x y, x ∈ ws ∧ y ∈ ws ∧ ∃ k : Int, 0 ≤ k ∧ k < 5 ∧ σ = [some (.ref a), some (.ref p), some (.int 3), some (.ref D), some (.int (0 + (i : Int))), some (vS x), some (vS y), some (.int k), y8, y9, y10, y11, y12, y13], ?_, fun σ G1 hM => ?_⟩
        · refine ⟨_, rfl, _, rfl, a, c, p, _, rfl, hG, hpG, npa, by rw [List.length_map]; exact wl, by rw [List.length_map]; omega, fun v H3 hv hF3 b3 => ?_⟩
          obtain ⟨x, hx, rfl⟩ := List.mem_map.mp hv
          refine ⟨_, rfl, _, rfl, a, c, p, _, rfl, hF3, b3 _ _ npa hpG, npa, by rw [List.length_map]; exact wl, by rw [List.length_map]; omega, fun v H4 hv hF4 b4 => ?_⟩
          obtain ⟨y, hy, rfl⟩ := List.mem_map.mp hv
          refine ⟨_, rfl, a, c, _, rfl, hF4, mid_of (by decide) (by decide), fun k H5 k0 k1 hF5 b5 => ?_⟩
          exact ⟨_, _, _, rfl, hF5, (b3.trans b4).trans b5, x, y, hx, hy, k, k0, k1, rfl⟩
        obtain ⟨hG1, b1, x, y, hx, hy, k, k0, k1, rfl⟩ := hM
        refine ⟨fun σ G2 => FeedOk G2 a c ∧ But a G1 G2 ∧ ∃ pr f pb b, G2 pr = some (trF f) ∧ f ∈ RR ∧ G2 pb = some (trF b) ∧ Nf b ∧ Bn 3 b ∧ σ = [some (.ref a), some (.ref p), some (.int 3), some (.ref D), some (.int (0 + (i : Int))), some (vS x), some (vS y), some (.int k), some (.ref pr), some (.ref pb), y10, y11, y12, y13], ?_, fun σ G2 hM => ?_⟩
        · refine ⟨_, rfl, a, c, rfl, hG1, fun v t u H3 hF b3 hrt ht h5 h3 => ?_⟩
          obtain ⟨pr, rfl, hpr⟩ := dt_fr (f := (t, u)) hrt.1
          refine ⟨_, rfl, (small_line (by decide : 2 ≤ 1000)), fun p1 n1 => ?_⟩
          obtain ⟨s1, d1⟩ := dnewT (z := a) n1 (.cons (.int 0 (by decide +kernel)) (.cons (.int 1 (by decide +kernel)) .nil))
          refine ⟨(small_line (by decide : 2 ≤ 1000)), fun p2 n2 => ?_⟩
          obtain ⟨s2, d2⟩ := dnewT (z := a) n2 (.cons (.int 1 (by decide +kernel)) (.cons (.int 1 (by decide +kernel)) .nil))
          refine ⟨_, rfl, (small_line (by decide : 2 ≤ 1000)), fun p3 n3 => ?_⟩
          obtain ⟨s3, d3⟩ := dnewT (z := a) n3 (.cons (.int (-1) (by decide +kernel)) (.cons (.int 1 (by decide +kernel)) .nil))
          refine ⟨(small_line (by decide : 2 ≤ 1000)), fun p4 n4 => ?_⟩
          obtain ⟨s4, d4⟩ := dnewT (z := a) n4 (.cons (.int 2 (by decide +kernel)) (.cons (.int 1 (by decide +kernel)) .nil))
          refine ⟨(small_line (by decide : 2 ≤ 1000)), fun p5 n5 => ?_⟩
          obtain ⟨s5, d5⟩ := dnewT (z := a) n5 (.cons (.int 1 (by decide +kernel)) (.cons (.int 2 (by decide +kernel)) .nil))
          refine ⟨(small_line (by decide : 5 ≤ 1000)), fun p6 n6 => ?_⟩
          obtain ⟨s6, all, hrw⟩ := drow (z := a) n6 (.cons (d1.same (s2.trans (s3.trans (s4.trans s5)))) (.cons (d2.same (s3.trans (s4.trans s5))) (.cons (d3.same (s4.trans s5)) (.cons (d4.same s5) (.cons d5 .nil)))))
          have sR := (s1.trans (s2.trans (s3.trans (s4.trans (s5.trans s6)))))
          refine ⟨a, c, p6, _, rfl, hF.same sR, hrw, new_ne (hF.same (s1.trans (s2.trans (s3.trans (s4.trans s5))))) n6, by show 0 < 5; decide, by show 5 ≤ 1000; decide, fun v H4 hv hF4 b4 => ?_⟩
          obtain ⟨dd, hd, hdt⟩ := all.mem hv
          have hdt := hdt.but (hF.same sR) b4
          obtain ⟨b, rfl, hb⟩ : ∃ f : FR, dd = frP f ∧ Nf f ∧ Bn 3 f ∧ ND 8 3 f := by
            simp only [List.mem_cons, List.not_mem_nil, or_false] at hd
            rcases hd with rfl | rfl | rfl | rfl | rfl
            · exact ⟨(0, 1), rfl, small_fr (by decide)⟩
            · exact ⟨(1, 1), rfl, small_fr (by decide)⟩
            · exact ⟨(-1, 1), rfl, small_fr (by decide)⟩
            · exact ⟨(2, 1), rfl, small_fr (by decide)⟩
            · exact ⟨(1, 2), rfl, small_fr (by decide)⟩
          obtain ⟨pf, rfl, hpf⟩ := dt_fr hdt
          have hn : (t, u) ∈ RR := by
            obtain ⟨f, hf, e⟩ := okr_rr (r := frD t u) ⟨hrt.2, by show decide (t ≠ 0) = true; exact decide_eq_true ht, by show decide (t.natAbs ≤ 5 ∧ u.natAbs ≤ 3) = true; exact decide_eq_true ⟨h5, h3⟩⟩
            have e : frP (t, u) = frP f := e
            have e1 : (t, u) = f := by
              injection e with e
              injection e with e1 e2
              injection e1 with e1
              injection e2 with e2
              injection e2 with e2
              exact Prod.ext e1 e2
            rw [e1]
            exact hf
          have bb := (But.of sR).trans b4
          refine ⟨_, _, rfl, hF4, b3.trans bb, pr, (t, u), pf, b, ?_, hn, hpf, hb.1, hb.2.1, rfl⟩
          exact NL.but hF bb _ _ hpr (fun xs z => by cases z)
        obtain ⟨hG2, b2', pr, f, pb, b, hpr, hf, hpb, nb, bb, rfl⟩ := hM
        refine ⟨fun σ G3 => FeedOk G3 a c ∧ But a G2 G3 ∧ ∃ ps g, G3 ps = some (trF g) ∧ g ∈ RR ∧ σ = [some (.ref a), some (.ref p), some (.int 3), some (.ref D), some (.int (0 + (i : Int))), some (vS x), some (vS y), some (.int k), some (.ref pr), some (.ref pb), some (.ref ps), y11, y12, y13], ?_, fun σ G3 hM => ?_⟩
        · skip
          refine ⟨_, rfl, (small_line (by decide : 2 ≤ 1000)), fun p1 n1 => ?_⟩
          obtain ⟨s1, d1⟩ := dnewT (z := a) n1 (.cons (.int 1 (by decide +kernel)) (.cons (.int 1 (by decide +kernel)) .nil))
          refine ⟨_, rfl, (small_line (by decide : 2 ≤ 1000)), fun p2 n2 => ?_⟩
          obtain ⟨s2, d2⟩ := dnewT (z := a) n2 (.cons (.int (-1) (by decide +kernel)) (.cons (.int 1 (by decide +kernel)) .nil))
          refine ⟨(small_line (by decide : 2 ≤ 1000)), fun p3 n3 => ?_⟩
          obtain ⟨s3, all, hrw⟩ := drow (z := a) n3 (.cons (d1.same s2) (.cons d2 .nil))
          have sR := (s1.trans (s2.trans s3))
          refine ⟨a, c, p3, _, rfl, hG2.same sR, hrw, new_ne (hG2.same (s1.trans s2)) n3, by show 0 < 2; decide, by show 2 ≤ 1000; decide, fun v H4 hv hF4 b4 => ?_⟩
          obtain ⟨dd, hd, hdt⟩ := all.mem hv
          have hdt := hdt.but (hG2.same sR) b4
          obtain ⟨g, rfl, hg⟩ : ∃ f : FR, dd = frP f ∧ f ∈ RR := by
            simp only [List.mem_cons, List.not_mem_nil, or_false] at hd
            rcases hd with rfl | rfl
            · exact ⟨(1, 1), rfl, by decide +kernel⟩
            · exact ⟨(-1, 1), rfl, by decide +kernel⟩
          obtain ⟨pf, rfl, hpf⟩ := dt_fr hdt
          exact ⟨hF4, (But.of sR).trans b4, pf, g, hpf, hg, rfl⟩
        obtain ⟨hG3, b3, ps, g, hps, hg', rfl⟩ := hM
        have nl12 := NL.but hG1 b2'
        have nl23 := NL.but hG2 b3
        have hpr3 := nl23 _ _ hpr (fun xs z => by cases z)
        have hpb3 := nl23 _ _ hpb (fun xs z => by cases z)
        have bG3 : But a G G3 := b1.trans (b2'.trans b3)
        -- the terms
        refine ⟨fun σ G4 => Same G3 G4 ∧ ∃ (vt : V) (tl : List It), Dt a G4 vt (.tuple (tl.map tmP)) ∧ (tl.length = 1 ∨ tl.length = 2) ∧ (∀ u ∈ tl, u.1 ∈ wideN ws ∧ u.2 ∈ RR) ∧ termsD (.tuple (tl.map tmP)) = true ∧ σ = [some (.ref a), some (.ref p), some (.int 3), some (.ref D), some (.int (0 + (i : Int))), some (vS x), some (vS y), some (.int k), some (.ref pr), some (.ref pb), some (.ref ps), some vt, y12, y13], ?_, fun σ G4 hM => ?_⟩
        · have bdf := bn_bd (rr_nf f hf).2
          have bdg := bn_bd (rr_nf g hg').2
          have bdn := bn_bd (rr_nf _ (rr_neg f hf)).2
          have dR : Dt a G3 (.ref pr) (frP f) := .tup hpr3 (.cons (.int _ bdf.1) (.cons (.int _ bdf.2) .nil))
          have dS : Dt a G3 (.ref ps) (frP g) := .tup hps (.cons (.int _ bdg.1) (.cons (.int _ bdg.2) .nil))
          have lx := (hw x hx).2.1
          have ly := (hw y hy).2.1
          have lxs : (SX.S x).length = x.length := SX.S_len x
          have lys : (SX.S y).length = y.length := SX.S_len y
          have lq : (Str.ofString "'" : Str).length = 1 := by decide +kernel
          have eq : SX.S x ++ Str.ofString "'" = SX.S (x ++ [39]) := by rw [quote, SX.S_cat]
          have lxq : (SX.S (x ++ [39])).length ≤ 1000 := by rw [SX.S_len, List.length_append]; show _ + 1 ≤ 1000; omega
          have mx : x ++ [39] ∈ wideN ws := List.mem_append_right _ (List.mem_map_of_mem hx)
          have my : y ∈ wideN ws := List.mem_append_left _ hy
          refine ⟨_, rfl, rfl, _, rfl, ite2 (fun e => ?_) (fun e => ?_)⟩
          · refine ⟨_, rfl, _, rfl, two_line, fun q1 n1 => ?_⟩
            obtain ⟨t1, d1⟩ := dnewT (z := a) n1 (.cons (.str (SX.S y) (by omega)) (.cons dR .nil))
            refine ⟨one_line, fun q2 n2 => ?_⟩
            obtain ⟨t2, d2⟩ := dnewT (z := a) n2 (.cons d1 .nil)
            exact ⟨t1.trans t2, _, [(y, f)], d2, .inl rfl, fun u hu => by rw [List.mem_singleton.mp hu]; exact ⟨my, hf⟩, terms_one (lw_name (hw y hy)) hf, rfl⟩
          · refine ⟨_, rfl, rfl, _, rfl, ite2 (fun e => ?_) (fun e => ?_)⟩
            · refine ⟨_, rfl, _, _, rfl, rfl, small_line (by omega), _, rfl, two_line, fun q1 n1 => ?_⟩
              rw [eq]
              obtain ⟨t1, d1⟩ := dnewT (z := a) n1 (.cons (.str (SX.S (x ++ [39])) lxq) (.cons dS .nil))
              refine ⟨one_line, fun q2 n2 => ?_⟩
              obtain ⟨t2, d2⟩ := dnewT (z := a) n2 (.cons d1 .nil)
              exact ⟨t1.trans t2, _, [(x ++ [39], g)], d2, .inl rfl, fun u hu => by rw [List.mem_singleton.mp hu]; exact ⟨mx, hg'⟩, terms_one (lw_dash (hw x hx)) hg', rfl⟩
            · refine ⟨_, rfl, _, _, rfl, rfl, small_line (by omega), _, rfl, two_line, fun q1 n1 => ?_⟩
              rw [eq]
              obtain ⟨t1, d1⟩ := dnewT (z := a) n1 (.cons (.str (SX.S (x ++ [39])) lxq) (.cons dS .nil))
              refine ⟨_, rfl, _, rfl, pr, f, rfl, SqT.of (t1 _ _ hpr3), fun o no => ?_⟩
              obtain ⟨t2, d2⟩ := dnewT (z := a) no (.cons (.int (negF f).1 bdn.1) (.cons (.int (negF f).2 bdn.2) .nil))
              refine ⟨two_line, fun q2 n2 => ?_⟩
              obtain ⟨t3, d3⟩ := dnewT (z := a) n2 (.cons (.str (SX.S y) (by omega)) (.cons d2 .nil))
              refine ⟨two_line, fun L nL => ?_⟩
              have t4 := same_upd (o := .lst [V.ref q1, .ref q2]) nL
              have t14 := t2.trans (t3.trans t4)
              have ne : x ++ [39] ≠ y := fun z => low39 (hw y hy) (by rw [← z]; simp)
              refine ⟨L, q1, q2, _, _, SX.S (x ++ [39]), SX.S y, rfl, upd_same, t14 _ _ upd_same, t4 _ _ upd_same, by rw [S_list, S_list]; exact ne, fun S nS => ?_⟩
              rw [S_list, S_list]
              by_cases lt : x ++ [39] < y
              · rw [if_pos lt]
                have t5 := same_upd (o := .lst [V.ref q1, .ref q2]) nS
                refine ⟨S, _, rfl, .inl ⟨SqL.of upd_same, fun l nl => ?_⟩⟩
                obtain ⟨t6, d6⟩ := dnewT (z := a) nl (.cons (d1.same (t14.trans t5)) (.cons (d3.same (t4.trans t5)) .nil))
                refine ⟨t1.trans (t14.trans (t5.trans t6)), _, [(x ++ [39], g), (y, negF f)], d6, .inr rfl, fun u hu => ?_, terms_two (lw_dash (hw x hx)) (lw_name (hw y hy)) hg' (rr_neg f hf) lt, rfl⟩
                rcases List.mem_cons.mp hu with rfl | hu
                · exact ⟨mx, hg'⟩
                · rw [List.mem_singleton.mp hu]
                  exact ⟨my, rr_neg f hf⟩
              · rw [if_neg lt]
                have gt : y < x ++ [39] := by
                  by_cases gt : y < x ++ [39]
                  · exact gt
                  · exact absurd (List.le_antisymm (List.not_lt.mp gt) (List.not_lt.mp lt)) ne
                have t5 := same_upd (o := .lst [V.ref q2, .ref q1]) nS
                refine ⟨S, _, rfl, .inl ⟨SqL.of upd_same, fun l nl => ?_⟩⟩
                obtain ⟨t6, d6⟩ := dnewT (z := a) nl (.cons (d3.same (t4.trans t5)) (.cons (d1.same (t14.trans t5)) .nil))
                refine ⟨t1.trans (t14.trans (t5.trans t6)), _, [(y, negF f), (x ++ [39], g)], d6, .inr rfl, fun u hu => ?_, terms_two (lw_name (hw y hy)) (lw_dash (hw x hx)) (rr_neg f hf) hg' gt, rfl⟩
                rcases List.mem_cons.mp hu with rfl | hu
                · exact ⟨my, rr_neg f hf⟩
                · rw [List.mem_singleton.mp hu]
                  exact ⟨mx, hg'⟩
        obtain ⟨s4, vt, tl', hvt, hln, hwt, htd, rfl⟩ := hM
        have hG4 := hG3.same s4
        have hpb4 := s4 _ _ hpb3
        have bdb := bn_bd bb
        have dB : Dt a G4 (.ref pb) (frP b) := .tup hpb4 (.cons (.int _ bdb.1) (.cons (.int _ bdb.2) .nil))
        have nl4 := (bnl bG3).trans (NL.of s4)
        have hT4 := tieU_nl (z' := a) nl4 hT
        have hD4 := s4 _ _ (bG3 _ _ nDa hDG)
        have b4 : But a G G4 := bG3.trans (But.of s4)
        have tg : TieG (wideN ws) (tl', b) := ⟨hln, hwt, htd, nb, bb⟩
        have ul := Paired.length hT4
        -- the first tie
        refine ⟨fun σ G5 => FeedOk G5 a c ∧ NL G4 G5 ∧ G5 p = some (.lst (ws.map vS)) ∧ But a H G5 ∧ ∃ us ties, G5 D = some (.lst us) ∧ Paired (TieU a G5) us ties ∧ (∀ t ∈ ties, TieG (wideN ws) t) ∧ ties.length ≤ 2 * i + 1 ∧ σ = [some (.ref a), some (.ref p), some (.int 3), some (.ref D), some (.int (0 + (i : Int))), some (vS x), some (vS y), some (.int k), some (.ref pr), some (.ref pb), some (.ref ps), some vt, y12, y13], ?_, fun σ G5 hM => ?_⟩
        · refine ⟨_, rfl, .inl ⟨rfl, _, SqL.of hD4⟩, _, rfl, _, rfl, two_line, fun q1 n1 => ?_⟩
          obtain ⟨t1, d1⟩ := dnewT (z := a) n1 (.cons hvt (.cons dB .nil))
          have hD5 := t1 _ _ hD4
          refine ⟨D, _, _, rfl, rfl, hD5, small1000 (by omega), (hG4.same t1).put nDa nDc, (NL.of t1).trans (NL.upd hD5), (upd_ne nDp.symm).trans (t1 _ _ (s4 _ _ (bG3 _ _ npa hpG))), ?_, _, ties ++ [(tl', b)], upd_same, tieU_nl (NL.upd hD5) (paired_snoc (tieU_nl (NL.of t1) hT4) d1), fun t ht => ?_, by rw [List.length_append]; show _ + 1 ≤ _; omega, rfl⟩
          · intro b o nb e
            exact (upd_ne (ne_of_none e nD)).trans (t1 _ _ (b4 _ _ nb (bG _ _ nb e)))
          · rcases List.mem_append.mp ht with ht | ht
            · exact hg t ht
            · rw [List.mem_singleton.mp ht]
              exact tg
        obtain ⟨hG5, nl5, hp5, b5, us5, ties5, hD5, hT5, hg5, tl5, rfl⟩ := hM
        have ul5 := Paired.length hT5
        refine ⟨_, rfl, _, _, rfl, rfl, _, rfl, ite2 (fun e => ?_) (fun e => ?_)⟩
        · have hvt5 := Dt.tups (z' := a) nl5.tt _ _ (noL_tl tl') hvt
          have hpb5 := nl5 _ _ hpb4 (fun xs z => by cases z)
          obtain ⟨pt, xs, rfl, hpt, hxs⟩ : ∃ pt xs, vt = .ref pt ∧ G5 pt = some (.tup xs) ∧ DtAll a G5 xs (tl'.map tmP) := by
            cases hvt5 with
            | tup g h => exact ⟨_, _, rfl, g, h⟩
          have xl : xs.length = tl'.length := by
            have := hxs.len
            rw [List.length_map] at this
            exact this
          refine ⟨_, rfl, .inl ⟨rfl, _, SqL.of hD5⟩, ?_⟩
          refine ⟨_, rfl, pt, rfl, ⟨_, SqT.of hpt⟩, fun L nL => ?_⟩
          refine lc_tup (K := K) (a := pt) (xs := xs) (fun i G => Same G5 G ∧ ∃ vs, G L = some (.lst vs) ∧ DtAll a G vs ((negT (tl'.take i)).map tmP)) ⟨same_upd nL, [], upd_same, .nil⟩ (fun i G _ hq => SqT.of (hq.1 _ _ hpt)) (fun i x G hx hq => ?_) (fun G hq => ?_)
          · obtain ⟨sG, vs, hD, hvs⟩ := hq
            obtain ⟨d, hd, hdt⟩ := DtAll.at i hxs hx
            rw [List.getElem?_map] at hd
            obtain ⟨⟨n, f⟩, he, rfl⟩ := Option.map_eq_some_iff.mp hd
            have il : i < tl'.length := (List.getElem?_eq_some_iff.mp he).1
            have hdt : Dt a G x (.tuple [.str (SX.S n), frP f]) := Dt.same hdt sG
            have vl := hvs.len
            rw [List.length_map] at vl
            unfold negT at vl
            rw [List.length_map, List.length_take] at vl
            cases hdt with
            | tup hp hs =>
              cases hs with
              | cons hs1 hs =>
                cases hs with
                | cons hs2 hs =>
                  cases hs
                  obtain ⟨pr, rfl, hpr⟩ := dt_fr hs2
                  cases hs1 with
                  | str _ hn =>
                    refine ⟨_, _, rfl, .inl (.inl hp), rfl, _, _, rfl, _, _, rfl, rfl, rfl, _, rfl, _, rfl, pr, f, rfl, SqT.of hpr, fun o no => ?_⟩
                    have bb := dt_frB hs2
                    obtain ⟨se, de⟩ := dnewT (z := a) no (.cons (.int (negF f).1 (negF_bd bb.1)) (.cons (.int (negF f).2 bb.2) .nil))
                    refine ⟨two_line, fun e2 ne2 => ?_⟩
                    obtain ⟨se2, de2⟩ := dnewT (z := a) ne2 (.cons (.str (SX.S n) hn) (.cons de .nil))
                    have hD2 := (se.trans se2) _ _ hD
                    refine ⟨vs, hD2, small1000 (by omega), fun b o e => (by rw [upd_ne (ne_of_none e nL)]; exact (se.trans se2) _ _ (sG _ _ e)), vs ++ [.ref e2], upd_same, ?_⟩
                    have er : negT (tl'.take (i + 1)) = negT (tl'.take i) ++ [(n, negF f)] := by
                      rw [List.take_add_one, he]
                      unfold negT
                      rw [List.map_append]
                      rfl
                    rw [er, List.map_append]
                    refine DtAll.snoc (hvs.tups ((TT.of (se.trans se2)).trans (TT.upd hD2)) _ _ (noLs_tm _)) ?_
                    exact Dt.tups (TT.upd hD2) _ _ rfl de2
          · obtain ⟨sG, vs, hL, hvs⟩ := hq
            rw [xl, List.take_length] at hvs
            refine ⟨L, vs, rfl, .inl ⟨SqL.of hL, fun l nl => ?_⟩⟩
            obtain ⟨sl, dl⟩ := dnewT (z := a) nl hvs
            have s5 := sG.trans sl
            refine ⟨_, rfl, pb, b, rfl, SqT.of (s5 _ _ hpb5), fun e ne => ?_⟩
            obtain ⟨se, de⟩ := dnewT (z := a) ne (.cons (.int (negF b).1 (negF_bd bdb.1)) (.cons (.int (negF b).2 bdb.2) .nil))
            refine ⟨two_line, fun o no => ?_⟩
            obtain ⟨so, d0⟩ := dnewT (z := a) no (.cons (dl.same se) (.cons de .nil))
            have s6 := s5.trans (se.trans so)
            have hD6 := s6 _ _ hD5
            refine ⟨D, _, _, rfl, rfl, hD6, small1000 (by omega), (hG5.same s6).put nDa nDc, ?_, (upd_ne nDp.symm).trans (s6 _ _ hp5), _, ties5 ++ [(negT tl', negF b)], upd_same, tieU_nl (NL.upd hD6) (paired_snoc (tieU_nl (NL.of s6) hT5) d0), fun t ht => ?_, by rw [List.length_append]; show _ + 1 ≤ _; omega, _, _, _, _, _, _, _, _, _, _, rfl⟩
            · intro b o nb e
              exact (upd_ne (ne_of_none e nD)).trans (s6 _ _ (b5 _ _ nb e))
            · rcases List.mem_append.mp ht with ht | ht
              · exact hg5 t ht
              · rw [List.mem_singleton.mp ht]
                exact ⟨by rw [negT_len]; exact hln, negT_mem hwt, neg_terms hln (fun u hu => (hwt u hu).2) htd, nf_neg nb, bb.neg⟩
        · exact ⟨hG5, b5, hp5, us5, ties5, hD5, hT5, hg5, by omega, _, _, _, _, _, _, _, _, _, _, rfl⟩
      · obtain ⟨hG, bG, hpG, us, ties, hDG, hT, hg, tl, y4, y5, y6, y7, y8, y9, y10, y11, y12, y13, rfl⟩ := hq
        exact ⟨hG, bG, us, ties, hDG, hT, hg, by omega, _, _, _, _, _, _, _, _, _, _, rfl⟩
    obtain ⟨hG, bG, us, ties, hDG, hT, hg, tl, y4, y5, y6, y7, y8, y9, y10, y11, y12, y13, rfl⟩ := hM
    exact ⟨_, rfl, q D us ties G hG bG nDa nD hDG hT hg tl⟩
end
/-- the values of a point -/
def PV : List FR := [(0, 1), (1, 1), (2, 1), (-1, 1), (1, 2), (3, 1), (-5, 3)]
theorem pv_bf : ∀ f ∈ PV, Bf 10 f := by
  have h : (PV.all fun f => decide (f.1.natAbs ≤ 10 ∧ 0 < f.2 ∧ f.2.natAbs ≤ 10)) = true := by decide +kernel
  intro f hf
  have z : f.1.natAbs ≤ 10 ∧ 0 < f.2 ∧ f.2.natAbs ≤ 10 := of_decide_eq_true (List.all_eq_true.mp h f hf)
  exact z
section
variable {P : Program} {w : World} {K : PySem.W.Frag} {mg : Str → Option Value} {base : Heap} {fa : Nat → Addr} {fd : Nat → FuncData}
def spPointV : Sp := fun vs H Q _ => ∃ (a c p : Addr) (ws : List (List Nat)), vs = [.ref a, .ref p] ∧ FeedOk H a c ∧ p ≠ a ∧ H p = some (.lst (ws.map vS)) ∧ ws.Nodup ∧ ws.length ≤ 6 ∧ ∀ d val H', FeedOk H' a c → But a H H' → PtK H' d (nmS ws) val → (∀ x ∈ ws, val x ∈ PV) → Q (.ref d) H'
theorem ok_pointV (T : Txt K mg fa fd) : FnOk P w K mg base CX0 3 (fa 166) (fd 166) ["_law_feed_here", "_law_words_here"] spPointV := by
  refine T.F_point.ok sc_point (fun vs H Q E h => ?_) (fun cdv A outer s H vs Q E hr h => ?_)
  · obtain ⟨a, c, p, ws, rfl, _⟩ := h
    rfl
  · obtain ⟨a, c, p, ws, rfl, hF, npa, hp, hnd, hl, q⟩ := h
    refine ⟨_, (pss_one (ps_ret (pe_callTy (call_dictP rfl) (by rfl) T.m_dict (by decide +kernel) (pa_cons (pe_lc (own := [("_law_name", 2)]) (g := gName 2) (tt := tYes) rfl sc_point.nd (pi_list (pv 1)) (blkOk_by (own := [("_law_name", 2)]) (N := ["_law_feed_here", "_law_words_here", "_law_name"]) (sc := defScope s_point) (by decide +kernel)) (fun _ _ _ _ _ => pg_name (i := 2) sc_point.nd rfl (Or.inl rfl)) (fun _ _ _ _ _ => pts_nil) (fun _ _ _ _ _ => (pe_tup (pa_cons (pv 2) (pa_cons (pe_call (ok_any T) (hr.mono (by decide)) (by rfl) T.g_any T.F_any.kp T.b_any .nil pass0 (pa_cons (pv 0) (pa_cons (pe_lst (pa_cons (pe_tup (pa_cons pe_int (pa_cons pe_int pa_nil))) (pa_cons (pe_tup (pa_cons pe_int (pa_cons pe_int pa_nil))) (pa_cons (pe_tup (pa_cons pe_int (pa_cons pe_int pa_nil))) (pa_cons (pe_tup (pa_cons (pe_un un_neg pe_int) (pa_cons pe_int pa_nil))) (pa_cons (pe_tup (pa_cons pe_int (pa_cons pe_int pa_nil))) (pa_cons (pe_tup (pa_cons pe_int (pa_cons pe_int pa_nil))) (pa_cons (pe_tup (pa_cons (pe_un un_neg pe_int) (pa_cons pe_int pa_nil))) pa_nil)))))))) pa_nil))) pa_nil))))) pa_nil)))), ?_⟩
    refine ⟨_, rfl, p, rfl, ⟨_, SqL.of hp⟩, fun D nD => ?_⟩
    have nDa := new_ne hF nD
    have nDc := new_nc hF nD
    have npD : p ≠ D := ne_of_none hp nD
    refine lc_list (K := K) (a := p) (xs := ws.map vS) (fun i G => FeedOk G a c ∧ But a H G ∧ G p = some (.lst (ws.map vS)) ∧ ∃ (ps : List Addr) (kvs : List (Key × V)), G D = some (.lst (ps.map V.ref)) ∧ Paired (fun p kv => G p = some (.tup [kV kv.1, kv.2])) ps kvs ∧ kvs.map (·.1) = (ws.take i).map (fun x => (.inr (SX.S x) : Key)) ∧ ∀ kv ∈ kvs, ∃ (q : Addr) (f : FR), kv.2 = .ref q ∧ G q = some (.tup [.int f.1, .int f.2]) ∧ f ∈ PV)
      ⟨hF.new nD, But.of (same_upd nD), same_upd nD _ _ hp, [], [], upd_same, .nil, rfl, fun kv h => by cases h⟩ (fun i G _ hq => SqL.of hq.2.2.1) (fun i x G hx hq => ?_) (fun G hq => ?_)
    · obtain ⟨hG, bG, hpG, ps, kvs, hD, hpk, hkeys, hvals⟩ := hq
      rw [List.getElem?_map] at hx
      obtain ⟨x, hxz, rfl⟩ := Option.map_eq_some_iff.mp hx
      refine ⟨rfl, ?_⟩
      refine ⟨_, rfl, _, rfl, (small_line (by decide : 2 ≤ 1000)), fun p1 n1 => ?_⟩
      obtain ⟨s1, d1⟩ := dnewT (z := a) n1 (.cons (.int 0 (by decide +kernel)) (.cons (.int 1 (by decide +kernel)) .nil))
      refine ⟨(small_line (by decide : 2 ≤ 1000)), fun p2 n2 => ?_⟩
      obtain ⟨s2, d2⟩ := dnewT (z := a) n2 (.cons (.int 1 (by decide +kernel)) (.cons (.int 1 (by decide +kernel)) .nil))
      refine ⟨(small_line (by decide : 2 ≤ 1000)), fun p3 n3 => ?_⟩
      obtain ⟨s3, d3⟩ := dnewT (z := a) n3 (.cons (.int 2 (by decide +kernel)) (.cons (.int 1 (by decide +kernel)) .nil))
      refine ⟨_, rfl, (small_line (by decide : 2 ≤ 1000)), fun p4 n4 => ?_⟩
      obtain ⟨s4, d4⟩ := dnewT (z := a) n4 (.cons (.int (-1) (by decide +kernel)) (.cons (.int 1 (by decide +kernel)) .nil))
      refine ⟨(small_line (by decide : 2 ≤ 1000)), fun p5 n5 => ?_⟩
      obtain ⟨s5, d5⟩ := dnewT (z := a) n5 (.cons (.int 1 (by decide +kernel)) (.cons (.int 2 (by decide +kernel)) .nil))
      refine ⟨(small_line (by decide : 2 ≤ 1000)), fun p6 n6 => ?_⟩
      obtain ⟨s6, d6⟩ := dnewT (z := a) n6 (.cons (.int 3 (by decide +kernel)) (.cons (.int 1 (by decide +kernel)) .nil))
      refine ⟨_, rfl, (small_line (by decide : 2 ≤ 1000)), fun p7 n7 => ?_⟩
      obtain ⟨s7, d7⟩ := dnewT (z := a) n7 (.cons (.int (-5) (by decide +kernel)) (.cons (.int 3 (by decide +kernel)) .nil))
      refine ⟨(small_line (by decide : 7 ≤ 1000)), fun p8 n8 => ?_⟩
      obtain ⟨s8, all, hrw⟩ := drow (z := a) n8 (.cons (d1.same (s2.trans (s3.trans (s4.trans (s5.trans (s6.trans s7)))))) (.cons (d2.same (s3.trans (s4.trans (s5.trans (s6.trans s7))))) (.cons (d3.same (s4.trans (s5.trans (s6.trans s7)))) (.cons (d4.same (s5.trans (s6.trans s7))) (.cons (d5.same (s6.trans s7)) (.cons (d6.same s7) (.cons d7 .nil)))))))
      have sR := (s1.trans (s2.trans (s3.trans (s4.trans (s5.trans (s6.trans (s7.trans s8)))))))
      refine ⟨a, c, p8, _, rfl, hG.same sR, hrw, new_ne (hG.same (s1.trans (s2.trans (s3.trans (s4.trans (s5.trans (s6.trans s7))))))) n8, by show 0 < 7; decide, by show 7 ≤ 1000; decide, fun v H2 hv hF2 b2 => ?_⟩
      obtain ⟨d, hd, hdt⟩ := all.mem hv
      have hdt := hdt.but (hG.same sR) b2
      have bb := (But.of (a := a) sR).trans b2
      have tt := TT.but hG bb
      obtain ⟨f, rfl, hf⟩ : ∃ f : FR, d = frP f ∧ f ∈ PV := by
        simp only [List.mem_cons, List.not_mem_nil, or_false] at hd
        rcases hd with rfl | rfl | rfl | rfl | rfl | rfl | rfl
        · exact ⟨(0, 1), rfl, by decide⟩
        · exact ⟨(1, 1), rfl, by decide⟩
        · exact ⟨(2, 1), rfl, by decide⟩
        · exact ⟨(-1, 1), rfl, by decide⟩
        · exact ⟨(1, 2), rfl, by decide⟩
        · exact ⟨(3, 1), rfl, by decide⟩
        · exact ⟨(-5, 3), rfl, by decide⟩
      obtain ⟨pf, rfl, hpf⟩ := dt_fr hdt
      refine ⟨two_line, fun e ne => ?_⟩
      have se := same_upd (o := .tup [vS x, .ref pf]) ne
      have hD2 := bb _ _ nDa hD
      have hD3 := se _ _ hD2
      have il : i < ws.length := (List.getElem?_eq_some_iff.mp hxz).1
      have kl : kvs.length = ps.length := (Paired.length hpk).symm
      have k2 : kvs.length ≤ 6 := by
        have := congrArg List.length hkeys
        rw [List.length_map, List.length_map, List.length_take] at this
        omega
      refine ⟨ps.map V.ref, hD3, by rw [List.length_map]; exact small1000 (by omega), (hF2.same se).put nDa nDc, ((bG.trans bb).trans (But.of se)).updN nD, ?_, ps ++ [e], kvs ++ [(.inr (SX.S x), .ref pf)], ?_, ?_, ?_, ?_⟩
      · rw [upd_ne npD]
        exact se _ _ (bb _ _ npa hpG)
      · rw [upd_same, List.map_append]
        rfl
      · have t2 := (tt.trans (TT.of se)).trans (TT.upd (zs := ps.map V.ref ++ [.ref e]) hD3)
        refine paired_snoc (paired_mono (fun a b h => t2 _ _ h) hpk) ?_
        exact TT.upd (zs := ps.map V.ref ++ [.ref e]) hD3 _ _ upd_same
      · rw [List.map_append, hkeys, List.take_add_one, hxz, List.map_append]
        rfl
      · intro kv hkv
        have t2 := (tt.trans (TT.of se)).trans (TT.upd (zs := ps.map V.ref ++ [.ref e]) hD3)
        rcases List.mem_append.mp hkv with h | h
        · obtain ⟨q, f, e1, e2, e3⟩ := hvals kv h
          exact ⟨q, f, e1, t2 _ _ e2, e3⟩
        · rw [List.mem_singleton.mp h]
          exact ⟨pf, f, rfl, TT.upd (zs := ps.map V.ref ++ [.ref e]) hD3 _ _ (se _ _ hpf), hf⟩
    · obtain ⟨hG, bG, hpG, ps, kvs, hD, hpk, hkeys, hvals⟩ := hq
      rw [List.length_map, List.take_length] at hkeys
      refine ⟨D, ps, kvs, rfl, SqL.of hD, paired_mono (fun a b h => SqT.of h) hpk, fun d nd => ?_⟩
      have nk : (kvs.map (·.1)).Nodup := by
        rw [hkeys]
        rw [List.Nodup, List.pairwise_map]
        exact List.Pairwise.imp (fun h z => h (S_inj (Sum.inr.inj z))) hnd
      rw [merge_nodup kvs [] nk]
      have sd := same_upd (o := .dK kvs) nd
      have pick : ∀ x, ∃ f : FR, x ∈ ws → f ∈ PV ∧ ∃ q, valV kvs (.inr (SX.S x)) = some (.ref q) ∧ G q = some (.tup [.int f.1, .int f.2]) := fun x => by
        by_cases hx : x ∈ ws
        · have : (.inr (SX.S x) : Key) ∈ kvs.map (·.1) := by
            rw [hkeys]
            exact List.mem_map_of_mem (f := fun x => (.inr (SX.S x) : Key)) hx
          obtain ⟨kv, hkv, ek⟩ := List.mem_map.mp this
          obtain ⟨q, f, e1, e2, e3⟩ := hvals kv hkv
          refine ⟨f, fun _ => ⟨e3, q, ?_, e2⟩⟩
          rw [← ek, val_nodup nk kv hkv, e1]
        · exact ⟨(0, 1), fun h => absurd h hx⟩
      obtain ⟨val, hval⟩ := Classical.axiomOfChoice pick
      refine q d val _ (hG.same sd) (bG.trans (But.of sd)) ⟨kvs, upd_same, by rw [hkeys, List.map_map]; rfl, fun x hx => ?_⟩ fun x hx => (hval x hx).1
      obtain ⟨y, hy, rfl⟩ := List.mem_map.mp hx
      obtain ⟨h1, q, h2, h3⟩ := hval y hy
      rw [S_list]
      exact ⟨pv_bf _ h1, q, h2, sd _ _ h3⟩
end
theorem tabs_but {L : List (Addr × Str)} {H H' : Hp} {a c : Addr} (hF : FeedOk H a c) (b : But a H H') (t : LamX.Tabs L H) : LamX.Tabs L H' := fun p hp => by
  obtain ⟨ns, k, big, mark, ha, _⟩ := hF
  obtain ⟨ps, h1, h2, h3⟩ := t p hp
  refine ⟨ps, b _ _ (ne_of h1 ha (by intro z; cases z)) h1, h2, fun pos cv hc => ?_⟩
  obtain ⟨c', e1, e2⟩ := h3 pos cv hc
  exact ⟨c', e1, b _ _ (ne_of e2 ha (by intro z; unfold LamX.CodeO at z; cases z)) e2⟩
theorem FeedOk.ext {H H' : Hp} {a c : Addr} (h : FeedOk H a c) (s : LamX.ExtN H H') : FeedOk H' a c := by
  obtain ⟨ns, k, big, mark, h1, h2, h3⟩ := h
  exact ⟨ns, k, big, mark, s _ _ h1 (by intro ps z; cases z), s _ _ h2 (by intro ps z; cases z), h3⟩
theorem eqd_bl {H : Hp} {n : Nat} (b : Bool) : Eqd H n (.bl b) (.bl b) := Eqd.leaf ⟨rfl, .inr (.inl ⟨b, rfl⟩)⟩
def tbs (Pt : Addr) : List (Addr × Str) := [(Pt, (("law" : Str) ++ ".<locals>.") ++ "<lambda>")]

theorem Dt.ext {z : Addr} {H H' : Hp} {v : V} {d : PyData} (h : Dt z H v d) (x : LamX.ExtN H H') : Dt z H' v d := Dt.via (fun a o e k => x a o e (by
  rcases k with ⟨⟨xs, rfl⟩, _⟩ | ⟨xs, rfl⟩
  · intro ps z; cases z
  · intro ps z; cases z)) d v h
theorem DtAll.ext {z : Addr} {H H' : Hp} {v : List V} {d : List PyData} (h : DtAll z H v d) (x : LamX.ExtN H H') : DtAll z H' v d := DtAll.via (fun a o e k => x a o e (by
  rcases k with ⟨⟨xs, rfl⟩, _⟩ | ⟨xs, rfl⟩
  · intro ps z; cases z
  · intro ps z; cases z)) d v h
theorem DtAll.but {z : Addr} {H H' : Hp} {c : Addr} (hF : FeedOk H z c) (b : But z H H') : ∀ {vs : List V} {ds : List PyData}, DtAll z H vs ds → DtAll z H' vs ds
  | _, _, .nil => .nil
  | _, _, .cons h t => .cons (h.but hF b) (DtAll.but hF b t)
theorem tabs_lst {L : List (Addr × Str)} {H : Hp} {D : Addr} {xs : List V} {o : HO} (t : LamX.Tabs L H) (hD : H D = some (.lst xs)) : LamX.Tabs L (upd H D o) := fun p hp => by
  obtain ⟨ps, h1, h2, h3⟩ := t p hp
  refine ⟨ps, ?_, h2, fun pos cv hc => ?_⟩
  · rw [upd_ne (ne_of h1 hD (by intro z; cases z))]
    exact h1
  · obtain ⟨c', e1, e2⟩ := h3 pos cv hc
    refine ⟨c', e1, ?_⟩
    rw [upd_ne (ne_of e2 hD (by intro z; unfold LamX.CodeO at z; cases z))]
    exact e2
theorem keep_ext {H H' : Hp} (x : LamX.ExtN H H') : Keep2 H H' := fun b o e n _ => x b o e n
theorem keep_same {H H' : Hp} (x : Same H H') : Keep2 H H' := fun b o e _ _ => x b o e
theorem keep_lst {H : Hp} {D : Addr} {xs : List V} {o : HO} (hD : H D = some (.lst xs)) : Keep2 H (upd H D o) := fun b u e _ n => by
  rw [upd_ne (ne_of e hD (n _))]
  exact e
theorem ext_same {H H' : Hp} (x : Same H H') : LamX.ExtN H H' := fun b o e _ => x b o e
/-- a tuple of a tag and a field -/
def tgD (r : Str × PyData) : PyData := .tuple [.str r.1, r.2]
theorem dp_tags {K : PySem.W.Frag} {H : Hp} : ∀ {ps : List Addr} {res : List (Str × V)} {ds : List (Str × PyData)}, Paired (fun p (r : Str × V) => H p = some (.tup [.str r.1, r.2])) ps res → Paired (fun (r : Str × V) d => r.1 = d.1 ∧ Dp K H r.2 d.2) res ds → DpAll K H (ps.map V.ref) (ds.map tgD)
  | _, _, _, .nil, .nil => .nil
  | _, _, _, .cons (b := r) h t, .cons (b := d) k u => by
    obtain ⟨e, k⟩ := k
    refine .cons (.tup (SqT.of h) (.cons ?_ (.cons k .nil))) (dp_tags t u)
    rw [e]
    exact .str _
def spLaw (K : PySem.W.Frag) (Pt : Addr) : Sp := fun vs H Q _ => ∃ (a : Addr) (ns : List Int), vs = [.ref a] ∧ SqL K H a (ns.map V.int) ∧ ns.length ≤ 63 ∧ LamX.Tabs (tbs Pt) H ∧ ∀ H', Q (.bl true) H'
theorem Ls.ext {a p : Addr} {H H' : Hp} {xs : List V} (h : Ls a H p xs) (x : LamX.ExtN H H') : Ls a H' p xs := ⟨h.1, x _ _ h.2 (fun ps z => by cases z)⟩
theorem lay_tag {tag : Str} (h : PyData.strOk tag = true) (d : PyData) : PyData.canLay0 (.tuple [.str tag, d]) = (PyData.canLay0 d && true) := by
  have e : PyData.canLay0 (.tuple [.str tag, d]) = (PyData.strOk tag && (PyData.canLay0 d && true)) := rfl
  rw [e, h, Bool.true_and]
theorem tag1_sh {tag o : Str} (ht : PyData.strOk tag = true) (h : PyData.strOk o = true) : SeqAt.shaped (.tuple [.str tag, .str o]) = true := by
  unfold SeqAt.shaped
  have d : (PyData.tuple [.str tag, .str o]).depth = 1 := rfl
  have e1 : PyData.canLay0 (.str o) = PyData.strOk o := rfl
  rw [d, lay_tag ht, e1, h]
  decide
theorem sh_eqv {d : PyData} (h : SeqAt.shaped d = true) : PyData.eqv d d = true := SeqAt.eqv_refl _ (SeqAt.canLay_of_shaped h)
theorem low_ok {x : List Nat} (h : LW x) : PyData.strOk (SX.S x) = true := lw_uni h
section
variable {P : Program} {w : World} {K : PySem.W.Frag} {mg : Str → Option Value} {base : Heap} {fa : Nat → Addr} {fd : Nat → FuncData}
theorem errI_name (T : Txt K mg fa fd) {d : Addr} {H : Hp} {x : Str} (hd : H d = some (.xd [("tag", .str "InvalidName"), ("name", .str x)])) : ErrI K fa (.ref (fa 4)) (some d) H ("InvalidName", .str x) := by
  refine ⟨_, d, _, rfl, rfl, T.eInvalidName.any, T.eInvalidName.xf, T.eInvalidName.tag, hd, by rfl, ?_⟩
  unfold FldOk
  rw [show fieldOf "InvalidName" = some "name" by decide +kernel]
  exact ⟨T.nInvalidName_name, by rfl⟩
theorem errI_tie (T : Txt K mg fa fd) {d : Addr} {H : Hp} {i : Int} (hd : H d = some (.xd [("tag", .str "InvalidTie"), ("at", .int i)])) : ErrI K fa (.ref (fa 5)) (some d) H ("InvalidTie", .int i) := by
  refine ⟨_, d, _, rfl, rfl, T.eInvalidTie.any, T.eInvalidTie.xf, T.eInvalidTie.tag, hd, by rfl, ?_⟩
  unfold FldOk
  rw [show fieldOf "InvalidTie" = some "at" by decide +kernel]
  exact ⟨T.nInvalidTie_at, by rfl⟩
end
/-! ### two dicts whose values are data -/
def EqE (K : PySem.W.Frag) (H : Hp) (ls : List (Key × V)) (e : Key → Bool) (p : Key × V) : Prop := (valV ls p.1 = none ∧ e p.1 = false) ∨ ∃ (v' : V) (d d' : PyData), valV ls p.1 = some v' ∧ Dp K H p.2 d ∧ Dp K H v' d' ∧ SeqAt.shaped d = true ∧ SeqAt.shaped d' = true ∧ e p.1 = d.eqv d'
theorem hits_G {X : Cx} {pins : List (Addr × Obj)} {σ : L2.St} {H : Hp} {s : Shared} (I : L2.Inv X pins σ H s) (hu : X.A.in1.units + 64 < cLine) {kvs : List (Key × V)} {vb : List (Key × Value)} (rb : KV kvs vb) {e : Key → Bool} {ks : List (Key × V)} {va : List (Key × Value)} (ra : KV ks va) :
    (∀ p ∈ ks, EqE X.K H kvs e p) → PySem.W.KeqHits X.A.in1 s vb va (ks.all fun p => e p.1) := by
  unfold KV at ra
  induction ra with
  | nil => intro _; exact .nil
  | @cons p q ps qs h t ih =>
    intro hp
    obtain ⟨h1, h2⟩ := h
    obtain ⟨k, v⟩ := q
    have h1' : p.1 = k := h1
    have ih := ih fun p' hm => hp p' (List.mem_cons_of_mem _ hm)
    rw [List.all_cons]
    rcases hp p List.mem_cons_self with ⟨n, f⟩ | ⟨v', d, d', ev, dp1, dp2, s1, s2, f⟩
    · have rr : RelO none (valueAt vb p.1) := by rw [← n]; exact rb.val p.1
      rw [f, Bool.false_and]
      refine .miss ?_
      rw [← h1']
      cases hv : valueAt vb p.1 with
      | none => rfl
      | some y =>
        rw [hv] at rr
        cases rr
    · have rr : RelO (some v') (valueAt vb p.1) := by rw [← ev]; exact rb.val p.1
      obtain ⟨y, hy, ry⟩ := rr.some_of
      rw [h1'] at hy
      obtain ⟨as, r1⟩ := Dp.reads I d p.2 v dp1 h2
      obtain ⟨bs, r2⟩ := Dp.reads I d' v' y dp2 ry
      rw [f]
      exact .hit hy (PySem.W.keq_at r1 r2 s1 s2 hu) ih
def rEqDG (K : PySem.W.Frag) : R2 := fun x y H Q => ∃ (a b : Addr) (ks ls : List (Key × V)) (e : Key → Bool), x = .ref a ∧ y = .ref b ∧ H a = some (.dK ks) ∧ H b = some (.dK ls) ∧ (∀ p ∈ ks, EqE K H ls e p) ∧ Q (.bl (decide (ks.length = ls.length) && ks.all fun p => e p.1)) H
theorem op_eq_dictG {X : Cx} (hu : X.A.units + 65 < cLine) : OpR X (compareOp .Eq) (rEqDG X.K) := by
  intro pins s σ H x y v u Q I rx ry h
  obtain ⟨a, b, ks, ls, e, rfl, rfl, ea, eb, hp, q⟩ := h
  obtain rfl : v = Value.ref a := rx
  obtain rfl : u = Value.ref b := ry
  obtain ⟨_, ya, va, ra, da⟩ := (show ObjOk X.prog X.w H s.heap a (.dK ks) from I.hok a _ ea)
  obtain ⟨_, yb, vb, rb, db⟩ := (show ObjOk X.prog X.w H s.heap b (.dK ls) from I.hok b _ eb)
  have l1 : ks.length = va.length := ra.length
  have l2 : ls.length = vb.length := rb.length
  have hb : (va.length == vb.length && ks.all fun p => e p.1) = (decide (ks.length = ls.length) && ks.all fun p => e p.1) := by
    congr 1
    rw [← l1, ← l2]
    rfl
  exact PySem.W.keq_eq (knd := mixKind X.prog X.w) (r := ks.all fun p => e p.1) ya yb da db (by omega) (fun _ => hits_G I (show X.A.units + 1 + 64 < cLine by omega) rb ra hp) (fin_bl I q (by rw [hb]))
theorem room65 {k : Nat} {A : Around} (r : Room (k + 1) A) : A.units + 65 < cLine := by
  have := r.un
  omega
theorem op_eq_dictGK {X : Cx} {K : PySem.W.Frag} (h : X.K = K) (hu : X.A.units + 65 < cLine) : OpR X (compareOp .Eq) (rEqDG K) := h ▸ op_eq_dictG hu
/-- what comes to nothing -/
def le0 (f g : FR) : Bool := !ltF (0, 1) (addL (addL (0, 1) (mulL (1, 1) f)) (mulL (-1, 1) g))
def ge0 (f g : FR) : Bool := !ltF (0, 1) (addL (addL (0, 1) (mulL (-1, 1) f)) (mulL (1, 1) g))
theorem both0 : ∀ f ∈ PV, ∀ g ∈ PV, (le0 f g && ge0 f g) = decide (f = g) := by decide +kernel
theorem stay_kp {u v : List Nat → FR} {x : Str} (hx : endQ x.cps.toList = false) : (stayT x).map (kp (val2 u v)) = [le0 (u x.cps.toList) (v x.cps.toList), ge0 (u x.cps.toList) (v x.cps.toList)] := by
  have e1 : val2 u v x.cps.toList = u x.cps.toList := val2_no hx
  have e2 : val2 u v (x.cps.toList ++ [39]) = v x.cps.toList := by
    have := val2_yes (u := u) (v := v) (x := x)
    rwa [str_quote] at this
  unfold stayT kp le0 ge0 totF
  simp only [List.map_cons, List.map_nil, totF, e1, e2]
/-- a step that stays allows what is the same before and after -/
theorem stay_all {u v : List Nat → FR} : ∀ {ms : List Str}, (∀ x ∈ ms, endQ x.cps.toList = false ∧ u x.cps.toList ∈ PV ∧ v x.cps.toList ∈ PV) → (((stayL ms).map (kp (val2 u v))).all id) = ms.all fun x => decide (u x.cps.toList = v x.cps.toList)
  | [], _ => rfl
  | x :: ms, h => by
    obtain ⟨h1, h2, h3⟩ := h x List.mem_cons_self
    have ih := stay_all (ms := ms) fun y hy => h y (List.mem_cons_of_mem _ hy)
    have e : stayL (x :: ms) = stayT x ++ stayL ms := by unfold stayL; rw [List.flatMap_cons]
    rw [e, List.map_append, List.all_append, ih, stay_kp h1]
    show ((le0 (u x.cps.toList) (v x.cps.toList) && (ge0 (u x.cps.toList) (v x.cps.toList) && true)) && _) = (decide (u x.cps.toList = v x.cps.toList) && _)
    rw [← both0 _ h2 _ h3, Bool.and_true]
/-- the drawn words and ties -/
structure SW (ws : List Nm) (ties : List Tie) : Prop where
  ne : ws ≠ []
  ln : ws.length ≤ 3
  nd : ws.Nodup
  lw : ∀ x ∈ ws, LW x
  tg : ∀ t ∈ ties, TieG (wideN ws) t
  tl : ties.length ≤ 6
theorem prS_nm (ws : List Nm) : prS (nmS ws) = nmS (ws.map fun x => x ++ [39]) := by
  show (ws.map SX.S).map _ = (ws.map _).map SX.S
  rw [List.map_map, List.map_map]
  refine List.map_congr_left fun x _ => ?_
  show SX.S x ++ Str.ofString "'" = SX.S (x ++ [39])
  rw [quote, SX.S_cat]
theorem wide_nm (ws : List Nm) : nmS ws ++ prS (nmS ws) = nmS (wideN ws) := by
  rw [prS_nm]
  exact (List.map_append ..).symm
section
variable {ws : List Nm} {ties : List Tie}
theorem SW.st (h : SW ws ties) : ∀ x ∈ nmS ws, stepN x = true ∧ x.length ≤ 900 := fun x hx => by
  obtain ⟨y, hy, rfl⟩ := List.mem_map.mp hx
  refine ⟨?_, ?_⟩
  · unfold stepN
    rw [S_list, lw_name (h.lw y hy), lw_last (h.lw y hy)]
    rfl
  · rw [SX.S_len]
    have := (h.lw y hy).2.1
    omega
theorem SW.sl (h : SW ws ties) : (nmS ws).length ≤ 3 := by rw [List.length_map]; exact h.ln
theorem SW.no (h : SW ws ties) : ∀ x ∈ nmS ws, endQ x.cps.toList = false := fun x hx => by
  obtain ⟨y, hy, rfl⟩ := List.mem_map.mp hx
  rw [S_list]
  exact lw_last (h.lw y hy)
theorem SW.wd (h : SW ws ties) : (nmS ws ++ prS (nmS ws)).Nodup := by
  rw [wide_nm]
  refine nmS_nd (List.nodup_append.mpr ⟨h.nd, ?_, fun x hx y hy e => ?_⟩)
  · rw [List.Nodup, List.pairwise_map]
    exact List.Pairwise.imp (fun k z => k (List.append_cancel_right z)) h.nd
  · obtain ⟨z, _, rfl⟩ := List.mem_map.mp hy
    exact low39 (h.lw x hx) (by rw [e]; simp)
theorem SW.nm (h : SW ws ties) : ∀ x ∈ nmS ws ++ prS (nmS ws), nameB x.cps.toList = true ∧ x.length ≤ 900 := fun x hx => by
  rw [wide_nm] at hx
  obtain ⟨y, hy, rfl⟩ := List.mem_map.mp hx
  rw [S_list, SX.S_len]
  rcases List.mem_append.mp hy with hy | hy
  · have := (h.lw y hy).2.1
    exact ⟨lw_name (h.lw y hy), by omega⟩
  · obtain ⟨z, hz, rfl⟩ := List.mem_map.mp hy
    have := (h.lw z hz).2.1
    exact ⟨lw_dash (h.lw z hz), by rw [List.length_append]; show _ + 1 ≤ 900; omega⟩
theorem SW.ok (h : SW ws ties) : ∀ x ∈ nmS ws ++ prS (nmS ws), PyData.strOk x = true := fun x hx => by
  rw [wide_nm] at hx
  obtain ⟨y, hy, rfl⟩ := List.mem_map.mp hx
  rcases List.mem_append.mp hy with hy | hy
  · exact (nx_lw (h.lw y hy)).1
  · obtain ⟨z, hz, rfl⟩ := List.mem_map.mp hy
    exact (nx_dash (h.lw z hz)).1
theorem SW.nsq (h : SW ws ties) : NsQ (nmS ws) := ⟨h.no, h.ok⟩
theorem SW.good (h : SW ws ties) : ∀ t ∈ ties, goodT (nmS ws ++ prS (nmS ws)) (tieP t.1 t.2) = true := fun t ht => by
  have g := h.tg t ht
  refine good_tie g.td g.nf fun u hu => ?_
  rw [wide_nm]
  exact List.mem_map_of_mem (g.ws u hu).1
theorem SW.fb (h : SW ws ties) : firstBadS 0 [] (nmS ws) = none := fbs_none _ 0 [] (fun x hx => (h.st x hx).1) (by rw [List.nil_append]; exact nmS_nd h.nd) (by have := h.sl; omega)
theorem SW.fbt (h : SW ws ties) : firstBadT (nmS ws ++ prS (nmS ws)) 0 (ties.map fun t => tieP t.1 t.2) = none := fbt_none _ _ 0 fun d hd => by
  obtain ⟨t, ht, rfl⟩ := List.mem_map.mp hd
  exact h.good t ht
theorem SW.stepA (h : SW ws ties) {K : PySem.W.Frag} {G : Hp} {z L T : Addr} {us : List V} (hL : SqB K G L ((nmS ws).map V.str)) (hT : SqB K G T us) (ht : Paired (TieU z G) us ties) : StepA K G L T (nmS ws) us where
  ln := hL
  lt := hT
  ds := ⟨z, _, ties_dt ht, h.fbt⟩
  us := by have := Paired.length ht; have := h.tl; omega
  fb := h.fb
  nd := nmS_nd h.nd
  sz := h.sl
  lx := fun x hx => (h.st x hx).2
theorem SW.stepF (h : SW ws ties) {G : Hp} {z : Addr} {us : List V} (ht : Paired (TieU z G) us ties) : StepF G (nmS ws) us where
  ds := ⟨z, _, ties_dt ht, fun d hd => by
    obtain ⟨t, ht, rfl⟩ := List.mem_map.mp hd
    exact h.good t ht⟩
  us := by have := Paired.length ht; have := h.tl; omega
  nm := h.nm
  nd := h.wd
  sz := h.sl
theorem prd_both {α β : Type} {R : α → β → Prop} : ∀ {xs : List α} {ys : List β} (i : Nat) {x : α} {y : β}, Paired R xs ys → xs[i]? = some x → ys[i]? = some y → R x y
  | _, _, 0, _, _, .cons r _, e1, e2 => by cases e1; cases e2; exact r
  | _, _, i + 1, _, _, .cons _ t, e1, e2 => prd_both i t e1 e2
theorem SW.kpT (h : SW ws ties) {G : Hp} {z : Addr} {us : List V} (ht : Paired (TieU z G) us ties) : KpT G z (nmS ws ++ prS (nmS ws)) us ties := by
  refine ⟨Paired.length ht, by have := Paired.length ht; have := h.tl; omega, fun i w t e1 e2 => ?_⟩
  have g := h.tg t (List.mem_of_getElem? e2)
  refine ⟨prd_both (R := TieU z G) i ht e1 e2, by rcases g.ln with e | e <;> omega, fun q hq => rr_nf _ (g.ws q hq).2, g.bn.mono (by decide), fun n hn => ?_⟩
  obtain ⟨u, hu, rfl⟩ := List.mem_map.mp hn
  rw [wide_nm]
  exact List.mem_map_of_mem (g.ws u hu).1
/-- the ties that stay: what holds of them -/
theorem SW.stF (h : SW ws ties) {G : Hp} {z : Addr} {us : List V} {ms : List Str} (p : ms.Perm (nmS ws)) (ht : Paired (TieU z G) us (stayL ms)) : StepF G (nmS ws) us ∧ KpT G z (nmS ws ++ prS (nmS ws)) us (stayL ms) := by
  have ul := Paired.length ht
  rw [stayL_len, p.length_eq] at ul
  have sl := h.sl
  have key : ∀ t ∈ stayL ms, ∃ x ∈ nmS ws, t ∈ stayT x := fun t ht => by
    obtain ⟨x, hx, ht⟩ := List.mem_flatMap.mp ht
    exact ⟨x, p.mem_iff.mp hx, ht⟩
  have ok : ∀ x ∈ nmS ws, nameB x.cps.toList = true ∧ nameB (x.cps.toList ++ [39]) = true := fun x hx => by
    have s := (h.st x hx).1
    have s2 := s
    unfold stepN at s2
    rw [Bool.and_eq_true] at s2
    exact ⟨s2.1, name_dash s⟩
  have mem : ∀ x ∈ nmS ws, ∀ y, y = x ∨ y = x ++ Str.ofString "'" → y ∈ nmS ws ++ prS (nmS ws) := fun x hx y e => by
    rcases e with rfl | rfl
    · exact List.mem_append_left _ hx
    · exact List.mem_append_right _ (List.mem_map_of_mem hx)
  refine ⟨⟨⟨z, _, ties_dt ht, fun d hd => ?_⟩, by omega, h.nm, h.wd, h.sl⟩, Paired.length ht, by omega, fun i w t e1 e2 => ?_⟩
  · obtain ⟨t, ht, rfl⟩ := List.mem_map.mp hd
    obtain ⟨x, hx, hs⟩ := key t ht
    obtain ⟨_, _, k3, _, k5, k6⟩ := stay_ok (ok x hx).1 (ok x hx).2 t hs
    exact good_tie k5 k3 fun u hu => mem x hx _ (k6 u hu)
  · obtain ⟨x, hx, hs⟩ := key t (List.mem_of_getElem? e2)
    obtain ⟨k1, k2, k3, k4, k5, k6⟩ := stay_ok (ok x hx).1 (ok x hx).2 t hs
    refine ⟨prd_both (R := TieU z G) i ht e1 e2, by omega, k2, k4, fun n hn => ?_⟩
    obtain ⟨u, hu, rfl⟩ := List.mem_map.mp hn
    exact mem x hx _ (k6 u hu)
end
/-- what the law holds in the heap -/
structure SB (L : List (Addr × Str)) (a c pw pb : Addr) (ws : List Nm) (us : List V) (ties : List Tie) (G : Hp) : Prop where
  f : FeedOk G a c
  tt : LamX.Tabs L G
  w : Ls a G pw (ws.map vS)
  b : Ls a G pb us
  t : Paired (TieU a G) us ties
section
variable {L : List (Addr × Str)} {a c pw pb : Addr} {ws : List Nm} {us : List V} {ties : List Tie}
theorem SB.same {G G' : Hp} (h : SB L a c pw pb ws us ties G) (s : Same G G') : SB L a c pw pb ws us ties G' := ⟨h.f.same s, h.tt.ext s, ⟨h.w.1, s _ _ h.w.2⟩, ⟨h.b.1, s _ _ h.b.2⟩, tieU_nl (NL.of s) h.t⟩
theorem SB.but {G G' : Hp} (h : SB L a c pw pb ws us ties G) (f : FeedOk G' a c) (b : But a G G') : SB L a c pw pb ws us ties G' := ⟨f, tabs_but h.f b h.tt, h.w.but b, h.b.but b, tieU_nl (NL.but h.f b) h.t⟩
end
theorem stepH_but {K : PySem.W.Frag} {C x a c : Addr} {H H' : Hp} {ns : List Str} {us : List V} (h : LotH K C H x ns us) (hF : FeedOk H a c) (b : But a H H') : LotH K C H' x ns us := h.nl (NL.but hF b)
theorem PtK.but {H H' : Hp} {a c d : Addr} {ks : List Str} {val : List Nat → FR} (h : PtK H d ks val) (hF : FeedOk H a c) (b : But a H H') : PtK H' d ks val := by
  obtain ⟨kvs, e, k, h⟩ := h
  refine ⟨kvs, NL.but hF b _ _ e (fun xs z => by cases z), k, fun x hx => ?_⟩
  obtain ⟨b', p, e1, e2⟩ := h x hx
  exact ⟨b', p, e1, NL.but hF b _ _ e2 (fun xs z => by cases z)⟩
theorem stepShown_eq (n m : Nat) : stepShown n m = (((Str.ofString "Step(" ++ numS n) ++ Str.ofString " names, ") ++ numS m) ++ Str.ofString " ties)" := by
  unfold stepShown
  rw [show Str.empty ++ Str.ofString "Step(" = Str.ofString "Step(" by decide +kernel]
theorem sl_listK {X : Cx} {K : PySem.W.Frag} (h : X.K = K) : SlR X (rSlL K) := h ▸ sl_list
theorem ties_wide {ws : List Nm} {ties : List Tie} (h : ∀ t ∈ ties, TieG ws t) : ∀ d ∈ ties.map (fun t => tieP t.1 t.2), wideD 4 d := fun d hd => by
  obtain ⟨t, ht, rfl⟩ := List.mem_map.mp hd
  exact wide_tie (by have := (h t ht).ln; omega)
theorem eqv_fr (f g : FR) : PyData.eqv (frP f) (frP g) = decide (f = g) := by
  show ((f.1 == g.1) && ((f.2 == g.2) && true)) = _
  rw [Bool.and_true, Bool.eq_iff_iff, Bool.and_eq_true, beq_iff_eq, beq_iff_eq, decide_eq_true_eq]
  exact ⟨fun h => Prod.ext h.1 h.2, fun h => by rw [h]; exact ⟨rfl, rfl⟩⟩
theorem shaped_fr (f : FR) : SeqAt.shaped (frP f) = true := by
  unfold SeqAt.shaped
  have e : PyData.canLay0 (frP f) = true := rfl
  have d : (frP f).depth = 1 := rfl
  rw [e, d]
  rfl
/-- whether the same stands at a key -/
def eqE (u v : List Nat → FR) : Key → Bool
  | .inr x => decide (u x.cps.toList = v x.cps.toList)
  | _ => true
theorem all_keys {kvs : List (Key × V)} {ks : List Str} (h : kvs.map (·.1) = ks.map (fun x => (.inr x : Key))) (u v : List Nat → FR) : (kvs.all fun p => eqE u v p.1) = ks.all fun x => decide (u x.cps.toList = v x.cps.toList) := by
  have e : (kvs.all fun p => eqE u v p.1) = (kvs.map (·.1)).all (eqE u v) := by rw [List.all_map]; rfl
  rw [e, h, List.all_map]
  rfl
theorem pt_eqE {K : PySem.W.Frag} {H : Hp} {d1 d2 : Addr} {ks : List Str} {u v : List Nat → FR} {k1 k2 : List (Key × V)} (nd : ks.Nodup) (h1 : k1.map (·.1) = ks.map (fun x => (.inr x : Key)))
    (g1 : ∀ x ∈ ks, Bf 10 (u x.cps.toList) ∧ ∃ p, valV k1 (.inr x) = some (.ref p) ∧ H p = some (.tup [.int (u x.cps.toList).1, .int (u x.cps.toList).2]))
    (g2 : ∀ x ∈ ks, Bf 10 (v x.cps.toList) ∧ ∃ p, valV k2 (.inr x) = some (.ref p) ∧ H p = some (.tup [.int (v x.cps.toList).1, .int (v x.cps.toList).2])) : ∀ p ∈ k1, EqE K H k2 (eqE u v) p := fun p hp => by
  have nk : (k1.map (·.1)).Nodup := by
    rw [h1, List.Nodup, List.pairwise_map]
    exact List.Pairwise.imp (fun h z => h (Sum.inr.inj z)) nd
  have hm : p.1 ∈ k1.map (·.1) := List.mem_map_of_mem hp
  rw [h1] at hm
  obtain ⟨x, hx, ex⟩ := List.mem_map.mp hm
  obtain ⟨_, p1, e1, e2⟩ := g1 x hx
  obtain ⟨_, p2, e3, e4⟩ := g2 x hx
  have ev := val_nodup nk p hp
  rw [← ex, e1] at ev
  refine .inr ⟨.ref p2, frP (u x.cps.toList), frP (v x.cps.toList), by rw [← ex]; exact e3, ?_, .tup (SqT.of e4) (.cons (.int _) (.cons (.int _) .nil)), shaped_fr _, shaped_fr _, ?_⟩
  · rw [← Option.some.inj ev]
    exact .tup (SqT.of e2) (.cons (.int _) (.cons (.int _) .nil))
  · rw [← ex, eqv_fr]
    rfl
theorem all_perm {α : Type} {l r : List α} (p : l.Perm r) (f : α → Bool) : l.all f = r.all f := by
  rw [Bool.eq_iff_iff, List.all_eq_true, List.all_eq_true]
  exact ⟨fun h x hx => h x (p.mem_iff.mpr hx), fun h x hx => h x (p.mem_iff.mp hx)⟩
/-! ### what is wrong -/
def oddS (w0 : Nm) : List Str := [Str.ofString "", Str.ofString "A", Str.ofString "x'", Str.ofString "abcdefg", SX.S w0 ++ Str.ofString "'"]
theorem dash_q (w0 : Nm) : SX.S w0 ++ Str.ofString "'" = SX.S (w0 ++ [39]) := by rw [quote, SX.S_cat]
theorem endQ_dash (x : Nm) : endQ (x ++ [39]) = true := by
  unfold endQ
  rw [List.getLast?_append, List.getLast?_singleton, Option.some_or]
  decide
theorem odd_s {w0 : Nm} (h : LW w0) {o : Str} (ho : o ∈ oddS w0) : stepN o = false ∧ o.length ≤ 8 ∧ PyData.strOk o = true := by
  have h4 : ([Str.ofString "", Str.ofString "A", Str.ofString "x'", Str.ofString "abcdefg"].all fun o => !stepN o && (decide (o.length ≤ 8) && PyData.strOk o)) = true := by decide +kernel
  have e : oddS w0 = [Str.ofString "", Str.ofString "A", Str.ofString "x'", Str.ofString "abcdefg"] ++ [SX.S w0 ++ Str.ofString "'"] := rfl
  rw [e] at ho
  rcases List.mem_append.mp ho with ho | ho
  · have := List.all_eq_true.mp h4 o ho
    rw [Bool.and_eq_true, Bool.and_eq_true, Bool.not_eq_true', decide_eq_true_eq] at this
    exact this
  · rw [List.mem_singleton.mp ho, dash_q]
    refine ⟨?_, ?_, (nx_dash h).1⟩
    · unfold stepN
      rw [S_list, endQ_dash, Bool.not_true, Bool.and_false]
    · rw [SX.S_len, List.length_append]
      have := h.2.1
      show _ + 1 ≤ 8
      omega
def badS (st : Str) (w0 : Nm) : List PyData := [.none, oneTie st (frI 1 1) (frI 0 1), oneTie (SX.S w0 ++ Str.ofString "'") (frI 0 1) (frI 0 1), .tuple []]
theorem ten_no {st : Str} (h : st ∈ tenNs) {ws : List Nm} (hn : st ∉ nmS ws) : st ∉ nmS ws ++ prS (nmS ws) := fun z => by
  rcases List.mem_append.mp z with z | z
  · exact hn z
  · obtain ⟨y, _, e⟩ := List.mem_map.mp z
    rw [ten_eq] at h
    obtain ⟨x, hx, rfl⟩ := List.mem_map.mp h
    have e2 := congrArg (fun s : Str => endQ s.cps.toList) e
    simp only [str_quote, endQ_dash, S_list] at e2
    rw [lw_last (ten_lw x hx)] at e2
    cases e2
theorem bad_s {st : Str} {w0 : Nm} {ns : List Str} (hs : st ∉ ns) : ∀ d ∈ badS st w0, goodT ns d = false := by
  intro d hd
  simp only [badS, List.mem_cons, List.not_mem_nil, or_false] at hd
  rcases hd with rfl | rfl | rfl | rfl
  · exact bad_by rfl
  · exact bad_strange hs
  · exact bad_by (bad_rate (by rfl))
  · exact bad_by rfl
def dueS (o : Str) (j : Int) : List (Str × PyData) := [("InvalidName", .str o), ("InvalidTie", .int j), ("InvalidName", .str (Str.ofString "d")), ("InvalidName", .str (Str.ofString "a"))]
theorem dueS_sh {o : Str} (h : PyData.strOk o = true) (j : Int) : SeqAt.shaped (.list ((dueS o j).map tgD)) = true := by
  unfold SeqAt.shaped
  have e : PyData.canLay0 (.list ((dueS o j).map tgD)) = (PyData.canLay0 (.tuple [.str "InvalidName", .str o]) && (PyData.canLay0 (.tuple [.str "InvalidTie", .int j]) && (PyData.canLay0 (.tuple [.str "InvalidName", .str (Str.ofString "d")]) && (PyData.canLay0 (.tuple [.str "InvalidName", .str (Str.ofString "a")]) && true)))) := rfl
  have d : (PyData.list ((dueS o j).map tgD)).depth = 2 := rfl
  rw [e, d, lay_tag (by decide +kernel), lay_tag (by decide +kernel), lay_tag (by decide +kernel), lay_tag (by decide +kernel)]
  have e1 : PyData.canLay0 (.str o) = PyData.strOk o := rfl
  have e2 : PyData.canLay0 (.int j) = true := rfl
  have e3 : PyData.canLay0 (.str (Str.ofString "d")) = true := by decide +kernel
  have e4 : PyData.canLay0 (.str (Str.ofString "a")) = true := by decide +kernel
  rw [e1, e2, e3, e4, h]
  decide
section
variable {ws : List Nm} {ties : List Tie}
theorem SW.lateS (h : SW ws ties) (k : Nat) {y : Str} (hy : stepN y = false) (hl : y.length ≤ 900) : ∃ i, firstBadS 0 [] ((ws.take k).map SX.S ++ y :: (ws.drop k).map SX.S) = some i ∧ ((ws.take k).map SX.S ++ y :: (ws.drop k).map SX.S)[i]? = some y := by
  have l3 := h.ln
  refine ⟨_, fbs_go _ 0 [] y _ (fun x hx => (h.st x (by rw [List.map_take] at hx; exact List.mem_of_mem_take hx)).1) ?_ ?_ (.inl hy), ?_⟩
  · rw [List.nil_append, List.map_take]
    exact (List.take_sublist k _).nodup (nmS_nd h.nd)
  · rw [List.length_map, List.length_take]
    omega
  · rw [Nat.zero_add, List.getElem?_append_right (Nat.le_refl _), Nat.sub_self]
    rfl
theorem SW.late_len (h : SW ws ties) (k : Nat) {y : Str} (hy : y.length ≤ 900) : ((ws.take k).map SX.S ++ y :: (ws.drop k).map SX.S).length ≤ 900 ∧ ∀ x ∈ (ws.take k).map SX.S ++ y :: (ws.drop k).map SX.S, x.length ≤ 900 := by
  refine ⟨?_, fun x hx => ?_⟩
  · have := h.ln
    rw [List.length_append, List.length_cons, List.length_map, List.length_map, List.length_take, List.length_drop]
    omega
  · rcases List.mem_append.mp hx with z | z
    · exact (h.st x (by rw [List.map_take] at z; exact List.mem_of_mem_take z)).2
    · rcases List.mem_cons.mp z with rfl | z
      · exact hy
      · exact (h.st x (by rw [List.map_drop] at z; exact List.mem_of_mem_drop z)).2
end
theorem tieD_ok {t : Tie} {ws : List Nm} (h : ∀ x ∈ ws, LW x) (g : TieG (wideN ws) t) : layD (tieP t.1 t.2) = true := lay_tie fun u hu => by
  rcases List.mem_append.mp (g.ws u hu).1 with z | z
  · exact (nx_lw (h _ z)).1
  · obtain ⟨y, hy, e⟩ := List.mem_map.mp z
    rw [← e]
    exact (nx_dash (h y hy)).1
theorem cut_drop (xs : List V) (i : Nat) (h : i ≤ xs.length) : cutV xs (some (i : Int)) none = xs.drop i := by
  show (xs.drop (HT.sIx xs.length 0 (some (i : Int)))).take (xs.length - HT.sIx xs.length 0 (some (i : Int))) = _
  rw [HT.sIx_nat, Nat.min_eq_left h]
  exact List.take_of_length_le (by rw [List.length_drop]; exact Nat.le_refl _)
theorem DtAll.app {z : Addr} {H : Hp} : ∀ {us vs : List V} {ds es : List PyData}, DtAll z H us ds → DtAll z H vs es → DtAll z H (us ++ vs) (ds ++ es)
  | _, _, _, _, .nil, k => k
  | _, _, _, _, .cons h t, k => .cons h (DtAll.app t k)
theorem noLs_all : ∀ {l : List PyData}, (∀ d ∈ l, noL d = true) → noLs l = true
  | [], _ => rfl
  | d :: l, h => by
    show (noL d && noLs l) = true
    rw [h d List.mem_cons_self, noLs_all fun e he => h e (List.mem_cons_of_mem _ he)]
    rfl
theorem bad_noL {st : Str} {w0 : Nm} : ∀ d ∈ badS st w0, noL d = true := by
  intro d hd
  simp only [badS, List.mem_cons, List.not_mem_nil, or_false] at hd
  rcases hd with rfl | rfl | rfl | rfl <;> rfl
theorem bent_noL {ties : List Tie} {bd : PyData} (h : noL bd = true) (j : Nat) : noLs ((ties.map fun t => tieP t.1 t.2).take j ++ bd :: (ties.map fun t => tieP t.1 t.2).drop j) = true := noLs_all fun d hd => by
  have tt : ∀ d ∈ ties.map (fun t => tieP t.1 t.2), noL d = true := fun d hd => by
    obtain ⟨t, _, rfl⟩ := List.mem_map.mp hd
    exact noL_tie t
  rcases List.mem_append.mp hd with hd | hd
  · exact tt d (List.mem_of_mem_take hd)
  · rcases List.mem_cons.mp hd with rfl | hd
    · exact h
    · exact tt d (List.mem_of_mem_drop hd)
theorem iteF' {c : Bool} {A B : Prop} (h : c = false) (b : B) : ite (c = true) A B := by rw [h]; exact b
section
variable {P : Program} {w : World} {K : PySem.W.Frag} {mg : Str → Option Value} {base : Heap} {fa : Nat → Addr} {fd : Nat → FuncData}
theorem ok_p_law (T : Txt K mg fa fd) (LX : TxL K mg fa) {c Pt : Addr} (FL : FunC K "law" s_p_law (fa 171) (fd 171) c) (TB : LamX.TabB base mg c Pt) : FnOk P w K mg base CX0 17 (fa 171) (fd 171) ["_law_script"] (spLaw K Pt) := by
  refine FL.ok sc_p_law (fun vs H Q E h => ?_) (fun A outer s H vs Q E hr h => ?_)
  · obtain ⟨a, ns, rfl, _⟩ := h
    rfl
  · obtain ⟨s0, ns, rfl, hS, hlen, hT0, q⟩ := h
    refine ⟨_, (C8.pss_cut (ps_set (i := 1) sc_p_law.nd rfl (.inl rfl) (pe_call (ok_feed T) (hr.mono (by decide)) (by rfl) T.g_feed T.F_feed.kp T.b_feed .nil pass0 (pa_cons (pv 0) pa_nil)))
      (C8.pss_cut (ps_for PassesOwn.never rfl (pi_range1 (by rfl) T.m_range (pa_cons pe_int pa_nil)) (pg_name (i := 2) sc_p_law.nd rfl (.inl rfl)) (C8.pss_cut (ps_set (i := 19) sc_p_law.nd rfl (.inr rfl) (pe_call (ok_words T) (hr.mono (by decide)) (by rfl) T.g_words T.F_words.kp T.b_words .nil pass0 (pa_cons (pv 1) (pa_cons (pe_op op_add pe_int (pe_call (ok_draw T) (hr.mono (by decide)) (by rfl) T.g_draw T.F_draw.kp T.b_draw .nil pass0 (pa_cons (pv 1) (pa_cons pe_int pa_nil)))) pa_nil))))
      (C8.pss_cut (ps_set (i := 3) sc_p_law.nd rfl (.inl rfl) (pe_call (ok_step_ties T) (hr.mono (by decide)) (by rfl) T.g_step_ties T.F_step_ties.kp T.b_step_ties .nil pass0 (pa_cons (pv 1) (pa_cons (pv 19) (pa_cons pe_int pa_nil)))))
      (C8.pss_cut (ps_set (i := 4) sc_p_law.nd rfl (.inl rfl) (pe_ifExp (pt_cmpR op_eq (pe_call (ok_draw T) (hr.mono (by decide)) (by rfl) T.g_draw T.F_draw.kp T.b_draw .nil pass0 (pa_cons (pv 1) (pa_cons pe_int pa_nil))) pe_int (nomark _)) (pe_make T.mk_Step (ok_p_StepInit T) (hr.mono (by decide)) (by rfl) T.g_Step T.b_StepInit .nil pass0 (pa_cons (pv 19) (pa_cons (pv 3) pa_nil))) (pe_makeK0 T.mk_Step (ok_p_StepInit T) (hr.mono (by decide)) (by rfl) T.g_Step T.kb_StepInit pass0 (pk_cons (pe_callTy call_tuple_of (by rfl) T.m_tuple (by decide +kernel) (pa_cons (pv 3) pa_nil)) (pk_cons (pe_callTy call_tuple_of (by rfl) T.m_tuple (by decide +kernel) (pa_cons (pv 19) pa_nil)) pk_nil)))))
      (C8.pss_cut (ps_set (i := 5) sc_p_law.nd rfl (.inl rfl) (pe_callB cr_sortedS (by rfl) T.m_sorted (by decide +kernel) (pa_cons (pe_op op_cat (pv 19) (pe_lc (own := [("_law_name", 20)]) (g := gName 20) (tt := tYes) rfl sc_p_law.nd (pi_list (pv 19)) (blkOk_by (own := [("_law_name", 20)]) (N := ["_law_script", "_law_feed_here", "_law_turn", "_law_bonds", "_law_made", "_law_wide", "_law_told", "_law_shown", "_law_again", "_law_before", "_law_after", "_law_due", "_law_stays", "_law_bad", "_law_spot", "_law_asks", "_law_at", "_law_bent", "_law_odd", "_law_words_here", "_law_name", "_law_tie"]) (sc := defScope s_p_law) (by decide +kernel)) (fun _ _ _ _ _ => pg_name (i := 20) sc_p_law.nd rfl (Or.inl rfl)) (fun _ _ _ _ _ => pts_nil) (fun _ _ _ _ _ => (pe_op op_add_str (pv 20) pe_str)))) pa_nil)))
      (C8.pss_cut (ps_set (i := 6) sc_p_law.nd rfl (.inl rfl) (pe_lst (pa_cons (pe_meth0 (pv 4) T.cl_Step T.me_StepNames (ok_p_StepNames T) (hr.mono (by decide)) T.b_StepNames .nil pass0) (pa_cons (pe_meth0 (pv 4) T.cl_Step T.me_StepTies (ok_p_StepTies T) (hr.mono (by decide)) T.b_StepTies .nil pass0) (pa_cons (pe_meth0 (pe_meth0 (pv 4) T.cl_Step T.me_StepLot (ok_p_StepLot T) (hr.mono (by decide)) T.b_StepLot .nil pass0) T.cl_Lot T.me_LotNames (ok_p_LotNames T) (hr.mono (by decide)) T.b_LotNames .nil pass0) (pa_cons (pe_meth0 (pe_meth0 (pv 4) T.cl_Step T.me_StepLot (ok_p_StepLot T) (hr.mono (by decide)) T.b_StepLot .nil pass0) T.cl_Lot T.me_LotTies (ok_p_LotTies T) (hr.mono (by decide)) T.b_LotTies .nil pass0) (pa_cons (pe_callB (call_lenO (ok_p_StepLen T) T.me_StepLen.at_ T.me_StepLen.fn T.b_StepLen pass0 (hr.mono (by decide))) (by rfl) T.m_len PySem.boot_len (pa_cons (pv 4) pa_nil)) (pa_cons (pe_callB (call_reprO (ok_p_StepRepr T) T.me_StepRepr.at_ T.me_StepRepr.fn T.b_StepRepr pass0 (hr.mono (by decide))) (by rfl) LX.m_repr (by decide +kernel) (pa_cons (pv 4) pa_nil)) (pa_cons (pe_clsI T.most_Step.choose_spec.choose_spec (pe_glob (v := V.ref (fa 146)) (by rfl) T.g_Step rfl)) pa_nil)))))))))
      (C8.pss_cut (ps_set (i := 7) sc_p_law.nd rfl (.inl rfl) (pe_op op_add_str (pe_op op_add_str (pe_op op_add_str (pe_op op_add_str pe_str (pe_callTy call_str_int (by rfl) T.m_str (by decide +kernel) (pa_cons (pe_callB call_len_seq (by rfl) T.m_len PySem.boot_len (pa_cons (pv 19) pa_nil)) pa_nil))) pe_str) (pe_callTy call_str_int (by rfl) T.m_str (by decide +kernel) (pa_cons (pe_callB call_len_seq (by rfl) T.m_len PySem.boot_len (pa_cons (pv 3) pa_nil)) pa_nil))) pe_str))
      (C8.pss_cut (ps_if (pt_not (pt_val (pe_call (ok_same T 8) (hr.mono (by decide)) (by rfl) T.g_same T.F_same.kp T.b_same .nil pass0 (pa_cons (pv 6) (pa_cons (pe_lst (pa_cons (pe_callB cr_sortedS (by rfl) T.m_sorted (by decide +kernel) (pa_cons (pv 19) pa_nil)) (pa_cons (pv 3) (pa_cons (pv 5) (pa_cons (pv 3) (pa_cons (pe_callB call_len_seq (by rfl) T.m_len PySem.boot_len (pa_cons (pv 3) pa_nil)) (pa_cons (pv 7) (pa_cons pe_int pa_nil)))))))) pa_nil))))) (pss_one (ps_ret pe_bl)) pss_nil)
      (C8.pss_cut (ps_for PassesOwn.never rfl (pi_range1 (by rfl) T.m_range (pa_cons pe_int pa_nil)) (pg_name (i := 8) sc_p_law.nd rfl (.inl rfl)) (C8.pss_cut (ps_asg (pe_tup (pa_cons (pe_call (ok_pointV T) (hr.mono (by decide)) (by rfl) T.g_point T.F_point.kp T.b_point .nil pass0 (pa_cons (pv 1) (pa_cons (pv 19) pa_nil))) (pa_cons (pe_call (ok_pointV T) (hr.mono (by decide)) (by rfl) T.g_point T.F_point.kp T.b_point .nil pass0 (pa_cons (pv 1) (pa_cons (pv 19) pa_nil))) pa_nil))) (pg_tup (by rfl) (pgs_cons (pg_name (i := 9) sc_p_law.nd rfl (.inr rfl)) (pgs_cons (pg_name (i := 10) sc_p_law.nd rfl (.inr rfl)) pgs_nil))))
      (C8.pss_cut (ps_set (i := 11) sc_p_law.nd rfl (.inl rfl) (pe_callB (cr_all rfl) (by rfl) T.m_all PyProof.Rows.boot_all (pa_cons (pe_lc (own := [("_law_tie", 21)]) (g := gName 21) (tt := tYes) rfl sc_p_law.nd (pi_list (pv 3)) (blkOk_by (own := [("_law_tie", 21)]) (N := ["_law_script", "_law_feed_here", "_law_turn", "_law_bonds", "_law_made", "_law_wide", "_law_told", "_law_shown", "_law_again", "_law_before", "_law_after", "_law_due", "_law_stays", "_law_bad", "_law_spot", "_law_asks", "_law_at", "_law_bent", "_law_odd", "_law_words_here", "_law_name", "_law_tie"]) (sc := defScope s_p_law) (by decide +kernel)) (fun _ _ _ _ _ => pg_name (i := 21) sc_p_law.nd rfl (Or.inl rfl)) (fun _ _ _ _ _ => pts_nil) (fun _ _ _ _ _ => (pe_call (ok_keeps T) (hr.mono (by decide)) (by rfl) T.g_keeps T.F_keeps.kp T.b_keeps .nil pass0 (pa_cons (pv 21) (pa_cons (pe_call (ok_values_of T) (hr.mono (by decide)) (by rfl) T.g_values_of T.F_values_of.kp T.b_values_of .nil pass0 (pa_cons (pv 9) (pa_cons (pv 10) pa_nil))) pa_nil))))) pa_nil)))
      (C8.pss_cut (ps_set (i := 12) sc_p_law.nd rfl (.inl rfl) (pe_smeth (pe_glob (v := V.ref (fa 146)) (by rfl) T.g_Step rfl) T.sm_Step.choose_spec.choose_spec (ok_p_StepStay T) (hr.mono (by decide)) T.b_StepStay .nil pass0 (pa_cons (pv 19) pa_nil)))
      (pss_one (ps_if (pt_not (pt_val (pe_call (ok_same T 8) (hr.mono (by decide)) (by rfl) T.g_same T.F_same.kp T.b_same .nil pass0 (pa_cons (pe_lst (pa_cons (pe_meth (pv 4) T.cl_Step T.me_StepAllows (ok_p_StepAllows T) (hr.mono (by decide)) T.b_StepAllows .nil pass0 (pa_cons (pv 9) (pa_cons (pv 10) pa_nil))) (pa_cons (pe_meth (pv 12) T.cl_Step T.me_StepAllows (ok_p_StepAllows T) (hr.mono (by decide)) T.b_StepAllows .nil pass0 (pa_cons (pv 9) (pa_cons (pv 10) pa_nil))) (pa_cons (pe_meth (pv 12) T.cl_Step T.me_StepAllows (ok_p_StepAllows T) (hr.mono (by decide)) T.b_StepAllows .nil pass0 (pa_cons (pv 10) (pa_cons (pv 10) pa_nil))) pa_nil)))) (pa_cons (pe_lst (pa_cons (pv 11) (pa_cons (pe_cmpR (op_eq_dictGK (K := K) rfl (room65 hr)) (pv 9) (pv 10) (nomark _)) (pa_cons pe_bl pa_nil)))) pa_nil))))) (pss_one (ps_ret pe_bl)) pss_nil))))))
      (C8.pss_cut (ps_if (PW.pt (pw_or (pt_not (pt_val (pe_call (ok_same T 8) (hr.mono (by decide)) (by rfl) T.g_same T.F_same.kp T.b_same .nil pass0 (pa_cons (pe_meth0 (pe_smeth (pe_glob (v := V.ref (fa 146)) (by rfl) T.g_Step rfl) T.sm_Step.choose_spec.choose_spec (ok_p_StepStay T) (hr.mono (by decide)) T.b_StepStay .nil pass0 (pa_cons (pe_revL (pv 19)) pa_nil)) T.cl_Step T.me_StepTies (ok_p_StepTies T) (hr.mono (by decide)) T.b_StepTies .nil pass0) (pa_cons (pe_call (ok_stay_ties T) (hr.mono (by decide)) (by rfl) T.g_stay_ties T.F_stay_ties.kp T.b_stay_ties .nil pass0 (pa_cons (pv 19) pa_nil)) pa_nil))))) (pw_or (pt_cmpR (op_eqO (ok_p_StepEq T LX) T.me_StepEq.at_ T.me_StepEq.fn T.b_StepEq pass0 (hr.mono (by decide))) (pv 4) (pv 3) (nomark _)) (pw_or1 (pt_cmpR (op_neO (ok_p_StepEq T LX) T.me_StepEq.at_ LX.ne LX.ic.hm T.me_StepEq.fn T.b_StepEq pass0 (hr.mono (by decide))) (pv 4) (pe_make T.mk_Step (ok_p_StepInit T) (hr.mono (by decide)) (by rfl) T.g_Step T.b_StepInit .nil pass0 (pa_cons (pv 19) (pa_cons (pv 3) pa_nil))) (nomark _)))))) (pss_one (ps_ret pe_bl)) pss_nil)
      (C8.pss_cut (ps_asg (pe_tup (pa_cons (pe_call (ok_draw T) (hr.mono (by decide)) (by rfl) T.g_draw T.F_draw.kp T.b_draw .nil pass0 (pa_cons (pv 1) (pa_cons (pe_op op_add (pe_callB call_len_seq (by rfl) T.m_len PySem.boot_len (pa_cons (pv 19) pa_nil)) pe_int) pa_nil))) (pa_cons (pe_call (ok_any T) (hr.mono (by decide)) (by rfl) T.g_any T.F_any.kp T.b_any .nil pass0 (pa_cons (pv 1) (pa_cons (pe_lst (pa_cons pe_str (pa_cons pe_str (pa_cons pe_str (pa_cons pe_str (pa_cons (pe_op op_add_str (pe_ix (ix_listK (K := K) rfl) (pv 19) pe_int (fun _ _ => rfl)) pe_str) pa_nil)))))) pa_nil))) pa_nil))) (pg_tup (by rfl) (pgs_cons (pg_name (i := 16) sc_p_law.nd rfl (.inr rfl)) (pgs_cons (pg_name (i := 18) sc_p_law.nd rfl (.inr rfl)) pgs_nil))))
      (C8.pss_cut (ps_set (i := 13) sc_p_law.nd rfl (.inl rfl) (pe_call (ok_any T) (hr.mono (by decide)) (by rfl) T.g_any T.F_any.kp T.b_any .nil pass0 (pa_cons (pv 1) (pa_cons (pe_lst (pa_cons pe_non (pa_cons (pe_tup (pa_cons (pe_tup (pa_cons (pe_tup (pa_cons (pe_call (ok_strange T) (hr.mono (by decide)) (by rfl) T.g_strange T.F_strange.kp T.b_strange .nil pass0 (pa_cons (pv 19) pa_nil)) (pa_cons (pe_tup (pa_cons pe_int (pa_cons pe_int pa_nil))) pa_nil))) pa_nil)) (pa_cons (pe_tup (pa_cons pe_int (pa_cons pe_int pa_nil))) pa_nil))) (pa_cons (pe_tup (pa_cons (pe_tup (pa_cons (pe_tup (pa_cons (pe_op op_add_str (pe_ix (ix_listK (K := K) rfl) (pv 19) pe_int (fun _ _ => rfl)) pe_str) (pa_cons (pe_tup (pa_cons pe_int (pa_cons pe_int pa_nil))) pa_nil))) pa_nil)) (pa_cons (pe_tup (pa_cons pe_int (pa_cons pe_int pa_nil))) pa_nil))) (pa_cons (pe_tup pa_nil) pa_nil))))) pa_nil))))
      (C8.pss_cut (ps_set (i := 14) sc_p_law.nd rfl (.inl rfl) (pe_call (ok_draw T) (hr.mono (by decide)) (by rfl) T.g_draw T.F_draw.kp T.b_draw .nil pass0 (pa_cons (pv 1) (pa_cons (pe_op op_add (pe_callB call_len_seq (by rfl) T.m_len PySem.boot_len (pa_cons (pv 3) pa_nil)) pe_int) pa_nil))))
      (C8.pss_cut (ps_set (i := 17) sc_p_law.nd rfl (.inr rfl) (pe_op op_cat (pe_op op_cat (pe_slice sl_list (pv 3) po_none (po_some (pv 14))) (pe_lst (pa_cons (pv 13) pa_nil))) (pe_slice sl_list (pv 3) (po_some (pv 14)) po_none)))
      (pss_cons (ps_set (i := 15) sc_p_law.nd rfl (.inl rfl) (pe_lst (pa_cons (pe_lq TB rfl List.mem_cons_self (fun q hq _ => by rw [List.mem_singleton.mp hq]) (lamQ_by (by show lamQB ["_law_script", "_law_feed_here", "_law_turn", "_law_bonds", "_law_made", "_law_wide", "_law_told", "_law_shown", "_law_again", "_law_before", "_law_after", "_law_due", "_law_stays", "_law_bad", "_law_spot", "_law_asks", "_law_at", "_law_bent", "_law_odd", "_law_words_here", "_law_name", "_law_tie"] (defScope s_p_law) _ = true; decide +kernel)) ⟨fun _ => [], (fun _ y h => absurd h (by simp)), fun _ _ _ _ _ _ _ => ⟨fun _ => rfl, fun h => nomatch h⟩⟩ (k := 10) (fun A outer s H E f c2 hr2 => (pe_make T.mk_Step (ok_p_StepInitX T) (hr2.mono (by decide)) (by rfl) T.g_Step T.b_StepInit .nil (passes_call (takes_of rfl rfl rfl rfl) (fun _ _ _ _ h => h)) (pa_cons (pe_op op_cat (pe_op op_cat (pe_slice (sl_listK (K := K) rfl) (pv 19) po_none (po_some (pv 16))) (pe_lst (pa_cons (pv 18) pa_nil))) (pe_slice (sl_listK (K := K) rfl) (pv 19) (po_some (pv 16)) po_none)) (pa_cons (pv 17) pa_nil))))) (pa_cons (pe_lqD TB rfl List.mem_cons_self (fun q hq _ => by rw [List.mem_singleton.mp hq]) (lamQ_by (by show lamQB ["_law_script", "_law_feed_here", "_law_turn", "_law_bonds", "_law_made", "_law_wide", "_law_told", "_law_shown", "_law_again", "_law_before", "_law_after", "_law_due", "_law_stays", "_law_bad", "_law_spot", "_law_asks", "_law_at", "_law_bent", "_law_odd", "_law_words_here", "_law_name", "_law_tie"] (defScope s_p_law) _ = true; decide +kernel)) ⟨fun its => [("_law_a", its.headD Value.none)], (fun its y h => by rw [List.mem_singleton.mp h]; rfl), fun _ _ _ _ _ _ _ => ⟨(fun h => nomatch h), fun _ T => ⟨_, rfl, fun u => rfl⟩⟩⟩ (k := 10) (fun A outer s H E f c2 hr2 => (pe_make T.mk_Step (ok_p_StepInitX T) (hr2.mono (by decide)) (by rfl) T.g_Step T.b_StepInit .nil (passes_call (takes_of rfl rfl rfl rfl) (fun _ _ _ _ h => h)) (pa_cons (pv 19) (pa_cons (pv 17) pa_nil))))) (pa_cons (pe_lqD TB rfl List.mem_cons_self (fun q hq _ => by rw [List.mem_singleton.mp hq]) (lamQ_by (by show lamQB ["_law_script", "_law_feed_here", "_law_turn", "_law_bonds", "_law_made", "_law_wide", "_law_told", "_law_shown", "_law_again", "_law_before", "_law_after", "_law_due", "_law_stays", "_law_bad", "_law_spot", "_law_asks", "_law_at", "_law_bent", "_law_odd", "_law_words_here", "_law_name", "_law_tie"] (defScope s_p_law) _ = true; decide +kernel)) ⟨fun its => [("_law_b", its.headD Value.none)], (fun its y h => by rw [List.mem_singleton.mp h]; rfl), fun _ _ _ _ _ _ _ => ⟨(fun h => nomatch h), fun _ T => ⟨_, rfl, fun u => rfl⟩⟩⟩ (k := 10) (fun A outer s H E f c2 hr2 => (T.b_StepInit1.elim fun ds hd => pe_make T.mk_Step (ok_p_StepInitX T) (hr2.mono (by decide)) (by rfl) T.g_Step hd.2 hd.1 (passes_call (takes_of rfl rfl rfl rfl) (fun _ _ _ _ h => h)) (pa_cons (pe_lst (pa_cons pe_str (pa_cons pe_str (pa_cons pe_str (pa_cons pe_str pa_nil))))) pa_nil)))) pa_nil)))))
      (pss_cons (ps_expr (pe_bm PySem.F.plainAttrs_list PySem.F.slot_list_append PySem.F.type_list_append mt_append (pv 15) (pa_cons (pe_lqD TB rfl List.mem_cons_self (fun q hq _ => by rw [List.mem_singleton.mp hq]) (lamQ_by (by show lamQB ["_law_script", "_law_feed_here", "_law_turn", "_law_bonds", "_law_made", "_law_wide", "_law_told", "_law_shown", "_law_again", "_law_before", "_law_after", "_law_due", "_law_stays", "_law_bad", "_law_spot", "_law_asks", "_law_at", "_law_bent", "_law_odd", "_law_words_here", "_law_name", "_law_tie"] (defScope s_p_law) _ = true; decide +kernel)) ⟨fun its => [("_law_c", its.headD Value.none)], (fun its y h => by rw [List.mem_singleton.mp h]; rfl), fun _ _ _ _ _ _ _ => ⟨(fun h => nomatch h), fun _ T => ⟨_, rfl, fun u => rfl⟩⟩⟩ (k := 10) (fun A outer s H E f c2 hr2 => (pe_smeth (pe_glob (v := V.ref (fa 146)) (by rfl) T.g_Step rfl) T.sm_Step.choose_spec.choose_spec (ok_p_StepStayX T) (hr2.mono (by decide)) T.b_StepStay .nil (passes_call (takes_of rfl rfl rfl rfl) (fun _ _ _ _ h => h)) (pa_cons (pe_lst (pa_cons pe_str (pa_cons pe_str pa_nil))) pa_nil)))) pa_nil)))
      (pss_one (ps_if (pt_cmpR (op_neD hr.units) (pe_errs T (fun _ => rfl) (k := 10) (hr.mono (by decide)) (by rfl) (pv 15)) (pe_lst (pa_cons (pe_tup (pa_cons pe_str (pa_cons (pv 18) pa_nil))) (pa_cons (pe_tup (pa_cons pe_str (pa_cons (pv 14) pa_nil))) (pa_cons (pe_tup (pa_cons pe_str (pa_cons pe_str pa_nil))) (pa_cons (pe_tup (pa_cons pe_str (pa_cons pe_str pa_nil))) pa_nil))))) (nomark _)) (pss_one (ps_ret pe_bl)) pss_nil))))))))))))))))))
      (pss_one (ps_ret pe_bl)))), ?_⟩
    refine ⟨fun σ H1 => ∃ a c, σ = [some (.ref s0), some (.ref a), none, none, none, none, none, none, none, none, none, none, none, none, none, none, none, none, none, none, none, none] ∧ FeedOk H1 a c ∧ LamX.Tabs (tbs Pt) H1, ⟨_, rfl, s0, ns, rfl, hS, hlen, fun a c H1 _ _ s1 hF => ⟨a, c, rfl, hF, hT0.ext s1⟩⟩, fun σ H1 hM => ?_⟩
    obtain ⟨a, c, rfl, hF, hT1⟩ := hM
    refine ⟨fun σ H2 => ∃ y2 y3 y4 y5 y6 y7 y8 y9 y10 y11 y12 y13 y14 y15 y16 y17 y18 y19 y20 y21, σ = [some (.ref s0), some (.ref a), y2, y3, y4, y5, y6, y7, y8, y9, y10, y11, y12, y13, y14, y15, y16, y17, y18, y19, y20, y21], ?_, fun σ H2 hM => ?_⟩
    · refine ⟨3, rfl, by decide, by decide, for_range (n := 3) (fun i σ H2 => FeedOk H2 a c ∧ LamX.Tabs (tbs Pt) H2 ∧ ∃ y2 y3 y4 y5 y6 y7 y8 y9 y10 y11 y12 y13 y14 y15 y16 y17 y18 y19 y20 y21, σ = [some (.ref s0), some (.ref a), y2, y3, y4, y5, y6, y7, y8, y9, y10, y11, y12, y13, y14, y15, y16, y17, y18, y19, y20, y21]) ⟨hF, hT1, _, _, _, _, _, _, _, _, _, _, _, _, _, _, _, _, _, _, _, _, rfl⟩ (fun i σ H2 hi hp => ?_) (fun σ H2 hp => hp.2.2)⟩
      obtain ⟨hF2, hT2, y2, y3, y4, y5, y6, y7, y8, y9, y10, y11, y12, y13, y14, y15, y16, y17, y18, y19, y20, y21, rfl⟩ := hp
      -- words
      refine ⟨fun σ H3 => FeedOk H3 a c ∧ LamX.Tabs (tbs Pt) H3 ∧ ∃ (p : Addr) (ws : List Nm) (y2 : Option V), Ls a H3 p (ws.map vS) ∧ ws ≠ [] ∧ ws.length ≤ 3 ∧ ws.Nodup ∧ (∀ x ∈ ws, LW x) ∧ σ = [some (.ref s0), some (.ref a), y2, y3, y4, y5, y6, y7, y8, y9, y10, y11, y12, y13, y14, y15, y16, y17, y18, some (.ref p), y20, y21], ?_, fun σ H3 hM => ?_⟩
      · refine ⟨_, rfl, _, rfl, a, c, _, rfl, hF2, mid_of (by decide) (by decide), fun r H3 r0 r1 hF3 b3 => ?_⟩
        obtain ⟨n, rfl⟩ := Int.eq_ofNat_of_zero_le r0
        refine ⟨_, _, rfl, rfl, a, c, 1 + n, by rw [Int.natCast_add]; rfl, hF3, by omega, fun p ws H4 hF4 b4 npa hp hl hn hw => ?_⟩
        exact ⟨hF4, tabs_but hF3 b4 (tabs_but hF2 b3 hT2), p, ws, _, ⟨npa, hp⟩, fun z => by rw [z] at hl; have : 0 = 1 + n := hl; omega, by omega, hn, hw, rfl⟩
      clear hF2 hT2 y2 H2
      obtain ⟨hF3, hT3, pw, ws, y2, hpw, hne, hl3, hnd, hlw, rfl⟩ := hM
      -- bonds
      refine ⟨fun σ H4 => ∃ (pb : Addr) (us : List V) (ties : List Tie), SB (tbs Pt) a c pw pb ws us ties H4 ∧ pb ≠ pw ∧ SW ws ties ∧ σ = [some (.ref s0), some (.ref a), y2, some (.ref pb), y4, y5, y6, y7, y8, y9, y10, y11, y12, y13, y14, y15, y16, y17, y18, some (.ref pw), y20, y21], ?_, fun σ H4 hM => ?_⟩
      · refine ⟨_, rfl, _, rfl, a, c, pw, ws, rfl, hF3, hpw.1, hpw.2, hne, by omega, hlw, fun D us ties H4 hF4 b4 nDa nD hD hT hg hl6 => ?_⟩
        exact ⟨D, us, ties, ⟨hF4, tabs_but hF3 b4 hT3, hpw.but b4, ⟨nDa, hD⟩, hT⟩, (ne_of_none hpw.2 nD).symm, ⟨hne, hl3, hnd, hlw, hg, hl6⟩, rfl⟩
      clear hF3 hT3 hpw hne hl3 hnd hlw
      obtain ⟨pb, us, ties, B, nbw, hP, rfl⟩ := hM
      -- made
      refine ⟨fun σ H5 => SB (tbs Pt) a c pw pb ws us ties H5 ∧ ∃ x : Addr, LotH K (fa 146) H5 x (nmS ws) us ∧ σ = [some (.ref s0), some (.ref a), y2, some (.ref pb), some (.ref x), y5, y6, y7, y8, y9, y10, y11, y12, y13, y14, y15, y16, y17, y18, some (.ref pw), y20, y21], ?_, fun σ H5 hM => ?_⟩
      · refine ⟨_, rfl, a, c, _, rfl, B.f, mid_of (by decide) (by decide), fun r G2 r0 r1 f2 b2 => ⟨rfl, _, rfl, ite2 (fun e => ?_) (fun e => ?_)⟩⟩
        · have B2 := B.but f2 b2
          refine ⟨_, rfl, _, rfl, fun x dx nx ndx ne => ?_⟩
          have s2 := (same_upd (o := .own x) ndx).trans (same_upd (o := .ins (fa 146) dx []) (H := upd G2 dx (.own x)) ((upd_ne ne.symm).trans nx))
          have B3 := B2.same s2
          refine ⟨x, pw, pb, _, us, dx, rfl, upd_same, hP.stepA (.inl (SqL.of (by rw [← vS_map]; exact B3.w.2))) (.inl (SqL.of B3.b.2)) B3.t, fun H' oth hL => ⟨rfl, ?_⟩⟩
          have keep : Same G2 H' := fun b o e => oth b o (ne_of_none e nx) (s2 _ _ e)
          exact ⟨B2.same keep, x, hL, rfl⟩
        · have B2 := B.but f2 b2
          refine ⟨_, rfl, pb, _, rfl, .inl ⟨SqL.of B2.b.2, fun t1 n1 => ?_⟩⟩
          have s1 := same_upd (o := .tup us) n1
          refine ⟨_, rfl, pw, _, rfl, .inl ⟨SqL.of (s1 _ _ B2.w.2), fun t2 n2 => ⟨rfl, rfl, fun x dx nx ndx ne => ?_⟩⟩⟩
          have sq := same_upd (o := .tup (ws.map vS)) n2
          have h1 := sq _ _ (upd_same : upd G2 t1 (.tup us) t1 = _)
          have h2 : upd (upd G2 t1 (.tup us)) t2 (.tup (ws.map vS)) t2 = some (.tup ((nmS ws).map V.str)) := by rw [upd_same, vS_map]
          have s12 := s1.trans sq
          generalize upd (upd G2 t1 (.tup us)) t2 (.tup (ws.map vS)) = G3 at sq h1 h2 s12 nx ndx ⊢
          have s2 := (same_upd (o := .own x) ndx).trans (same_upd (o := .ins (fa 146) dx []) (H := upd G3 dx (.own x)) ((upd_ne ne.symm).trans nx))
          have B3 := B2.same (s12.trans s2)
          refine ⟨x, t2, t1, nmS ws, us, dx, rfl, upd_same, hP.stepA (.inr (SqT.of (s2 _ _ h2))) (.inr (SqT.of (s2 _ _ h1))) B3.t, fun H' oth hL => ⟨rfl, ?_⟩⟩
          have keep : Same G2 H' := fun b o e => oth b o (ne_of_none (s12 _ _ e) nx) (s2 _ _ (s12 _ _ e))
          exact ⟨B2.same keep, x, hL, rfl⟩
      clear B
      obtain ⟨B, x, hx, rfl⟩ := hM
      have wl := hP.sl
      have l6 := hP.tl
      have ul := Paired.length B.t
      -- wide
      refine ⟨fun σ H6 => Same H5 H6 ∧ ∃ (pz : Addr) (mz : List Str), H6 pz = some (.lst (mz.map V.str)) ∧ mz.Perm (nmS ws ++ prS (nmS ws)) ∧ sortedS mz = true ∧ σ = [some (.ref s0), some (.ref a), y2, some (.ref pb), some (.ref x), some (.ref pz), y6, y7, y8, y9, y10, y11, y12, y13, y14, y15, y16, y17, y18, some (.ref pw), y20, y21], ?_, fun σ H6 hM => ?_⟩
      · have wl9 : ∀ y ∈ nmS ws, y.length ≤ 900 := fun y hy => (hP.st y hy).2
        have lq : (Str.ofString "'" : Str).length = 1 := by decide +kernel
        refine ⟨_, rfl, _, rfl, pw, rfl, ⟨_, SqL.of B.w.2⟩, fun D nD => ?_⟩
        refine lc_list (K := K) (a := pw) (xs := ws.map vS) (fun i G => Same H5 G ∧ G D = some (.lst (((prS (nmS ws)).take i).map V.str))) ⟨same_upd nD, upd_same⟩ (fun i G _ hq => SqL.of (hq.1 _ _ B.w.2)) (fun i y G hy hq => ?_) (fun G hq => ?_)
        · rw [List.getElem?_map] at hy
          obtain ⟨n, hz, rfl⟩ := Option.map_eq_some_iff.mp hy
          have il := (List.getElem?_eq_some_iff.mp hz).1
          have ln := wl9 (SX.S n) (List.mem_map_of_mem (List.mem_of_getElem? hz))
          have hz2 : (prS (nmS ws))[i]? = some (SX.S n ++ Str.ofString "'") := by
            show ((nmS ws).map _)[i]? = _
            rw [List.getElem?_map, List.getElem?_map, hz]
            rfl
          refine ⟨rfl, _, rfl, _, _, rfl, rfl, small_line (by omega), _, hq.2, small1000 (by rw [List.length_map, List.length_take, List.length_map]; omega), fun b o e => (upd_ne (ne_of_none e nD)).trans (hq.1 _ _ e), ?_⟩
          rw [upd_same, List.take_add_one, hz2, List.map_append]
          rfl
        · have el : (ws.map vS).length = (prS (nmS ws)).length := by rw [List.length_map, List.length_map, List.length_map]
          rw [el, List.take_length] at hq
          refine ⟨pw, D, _, _, rfl, rfl, hq.1 _ _ B.w.2, hq.2, small_line (by rw [List.length_map, List.length_map, List.length_map]; have := hP.ln; omega), fun q1 nq1 => ?_⟩
          have s1 := same_upd (o := .lst (ws.map vS ++ (prS (nmS ws)).map V.str)) nq1
          have e1 : ws.map vS ++ (prS (nmS ws)).map V.str = (nmS ws ++ prS (nmS ws)).map V.str := by rw [List.map_append, vS_map]
          refine ⟨q1, nmS ws ++ prS (nmS ws), rfl, SqL.of (by rw [upd_same, e1]), by rw [List.length_append, show (prS (nmS ws)).length = (nmS ws).length from List.length_map ..]; omega, fun ys l pm sr nl => ?_⟩
          exact ⟨hq.1.trans (s1.trans (same_upd nl)), l, ys, upd_same, pm, sr, rfl⟩
      obtain ⟨s56, pz, mz, hpz, pmz, srz, rfl⟩ := hM
      replace B := B.same s56
      replace hx := hx.same s56
      clear s56 y5
      -- told
      have hF := hP.stepF B.t
      refine ⟨fun σ G => Same H6 G ∧ ∃ (D p1 p2 p3 p4 : Addr) (ms ml : List Str), G D = some (.lst [.ref p1, .ref p2, .ref p3, .ref p4, .int us.length, .str (stepShown ws.length us.length), .int 3]) ∧ G p1 = some (.lst (ms.map V.str)) ∧ G p2 = some (.lst us) ∧ G p3 = some (.lst (ml.map V.str)) ∧ G p4 = some (.lst us) ∧ ms.Perm (nmS ws) ∧ sortedS ms = true ∧ ml.Perm (nmS ws ++ prS (nmS ws)) ∧ sortedS ml = true ∧ σ = [some (.ref s0), some (.ref a), y2, some (.ref pb), some (.ref x), some (.ref pz), some (.ref D), y7, y8, y9, y10, y11, y12, y13, y14, y15, y16, y17, y18, some (.ref pw), y20, y21], ?_, fun σ G hM => ?_⟩
      · obtain ⟨dx, q1, q2, ms0, g1, g2, g3, g4, g5⟩ := id hx.at_
        refine ⟨_, rfl, x, dx, _, rfl, g1, rfl, x, _, us, rfl, hx, fun p1 ms G1 s1 n1 hp1 perm srt => ?_⟩
        refine ⟨_, rfl, x, dx, _, rfl, s1 _ _ g1, rfl, x, _, us, rfl, hx.same s1, fun p2 n2 => ?_⟩
        have k2 := same_upd (o := .lst us) n2
        have s2 := s1.trans k2
        have hp12 := k2 _ _ hp1
        have hp22 : upd G1 p2 (.lst us) p2 = some (.lst us) := upd_same
        generalize upd G1 p2 (.lst us) = G2 at s2 hp12 hp22 ⊢
        refine ⟨_, rfl, x, dx, _, rfl, s2 _ _ g1, rfl, x, nmS ws, us, rfl, hx.same s2, hF.same s2, fun l1 G3 s3 hl1 => ?_⟩
        obtain ⟨dl, u1, u2, msl, f1, f2, f3, f4, f5⟩ := id hl1.at_
        refine ⟨l1, dl, _, rfl, f1, rfl, l1, _, us, rfl, hl1, fun p3 ml G4 s4 n4 hp3 perm3 srt3 => ?_⟩
        have s24 := s2.trans (s3.trans s4)
        refine ⟨_, rfl, x, dx, _, rfl, s24 _ _ g1, rfl, x, nmS ws, us, rfl, hx.same s24, hF.same s24, fun l2 G5 s5 hl2 => ?_⟩
        obtain ⟨dl2, v1, v2, msl2, f1', f2', f3', f4', f5'⟩ := id hl2.at_
        refine ⟨l2, dl2, _, rfl, f1', rfl, l2, _, us, rfl, hl2, fun p4 n6 => ?_⟩
        have k6 := same_upd (o := .lst us) n6
        have hp46 : upd G5 p4 (.lst us) p4 = some (.lst us) := upd_same
        have s56 := s5.trans k6
        generalize upd G5 p4 (.lst us) = G6 at s56 hp46 ⊢
        have s6 := s24.trans s56
        refine ⟨_, rfl, x, dx, _, rfl, s6 _ _ g1, x, _, us, rfl, hx.same s6, us.length, rfl, by omega, ?_⟩
        refine ⟨_, rfl, x, dx, _, rfl, s6 _ _ g1, x, _, us, rfl, hx.same s6, by omega, by omega, ⟨_, rfl⟩, rfl, small_line (by show 7 ≤ 1000; decide), fun D nD => ?_⟩
        have k7 := same_upd (o := .lst [V.ref p1, .ref p2, .ref p3, .ref p4, .int us.length, .str (stepShown (nmS ws).length us.length), .int 3]) nD
        have s27 := s3.trans (s4.trans (s56.trans k7))
        exact ⟨s6.trans k7, D, p1, p2, p3, p4, ms, ml, by rw [upd_same, List.length_map], s27 _ _ hp12, s27 _ _ hp22, (s56.trans k7) _ _ hp3, k7 _ _ hp46, perm, srt, perm3, srt3, rfl⟩
      obtain ⟨s67, D, p1, p2, p3, p4, ms, ml, hD, h1, h2, h3, h4, pm1, sr1, pm3, sr3, rfl⟩ := hM
      have B7 := B.same s67
      have hx7 := hx.same s67
      have hpz7 := s67 _ _ hpz
      clear B hx hpz hF s67
      -- shown
      refine ⟨fun σ H10 => H10 = G ∧ σ = [some (.ref s0), some (.ref a), y2, some (.ref pb), some (.ref x), some (.ref pz), some (.ref D), some (.str (stepShown ws.length us.length)), y8, y9, y10, y11, y12, y13, y14, y15, y16, y17, y18, some (.ref pw), y20, y21], ?_, fun σ H10 hM => ?_⟩
      · have c1 : (Str.ofString "Step(").length = 5 := by decide +kernel
        have c2 : (Str.ofString " names, ").length = 8 := by decide +kernel
        have c3 : (Str.ofString " ties)").length = 6 := by decide +kernel
        have w4 := hP.ln
        have l1 : (numS ws.length).length ≤ 3 := num_len (by omega)
        have l2 : (numS us.length).length ≤ 3 := num_len (by omega)
        have lb : ∀ n : Nat, n ≤ 900 → ((n : Int)).natAbs.log2 < 1920 := fun n hn => log2_mono (b := 900) (by rw [Int.natAbs_natCast]; exact hn) (by decide +kernel)
        refine ⟨_, rfl, pw, _, rfl, .inl (SqL.of B7.w.2), ?_⟩
        rw [List.length_map]
        have l1' : (Str.ofString (toString ((ws.length : Nat) : Int))).length ≤ 3 := l1
        have l2' : (Str.ofString (toString ((us.length : Nat) : Int))).length ≤ 3 := l2
        refine ⟨_, rfl, lb _ (by omega), _, _, rfl, rfl, small_line (by omega), _, _, rfl, rfl, small_line (by rw [strlen_cat]; omega), _, rfl, pb, _, rfl, .inl (SqL.of B7.b.2), _, rfl, lb _ (by omega), _, _, rfl, rfl, small_line (by rw [strlen_cat, strlen_cat]; omega), _, _, rfl, rfl, small_line (by rw [strlen_cat, strlen_cat, strlen_cat]; omega), rfl, ?_⟩
        rw [stepShown_eq]
        rfl
      obtain ⟨e10, rfl⟩ := hM
      subst e10
      -- all that was told is so
      refine ⟨fun σ G' => Same H10 G' ∧ σ = [some (.ref s0), some (.ref a), y2, some (.ref pb), some (.ref x), some (.ref pz), some (.ref D), some (.str (stepShown ws.length us.length)), y8, y9, y10, y11, y12, y13, y14, y15, y16, y17, y18, some (.ref pw), y20, y21], ?_, fun σ G' hM => ?_⟩
      · refine ⟨_, rfl, _, rfl, pw, nmS ws, rfl, SqL.of (by rw [B7.w.2, vS_map]), by omega, fun ys l pm sr nl => ?_⟩
        have sl := same_upd (o := .lst (ys.map V.str)) nl
        refine ⟨_, rfl, _, rfl, _, rfl, _, rfl, pb, _, rfl, .inl (SqL.of (sl _ _ B7.b.2)), _, rfl, small_line (by show 7 ≤ 1000; decide), fun e ne => ?_⟩
        have se := same_upd (o := .lst [V.ref l, .ref pb, .ref pz, .ref pb, .int us.length, .str (stepShown ws.length us.length), .int 3]) ne
        have ey : ys = ms := srt_unique (srt_pw _ sr) (srt_pw _ sr1) (pm.trans pm1.symm)
        have ez : ml = mz := srt_unique (srt_pw _ sr3) (srt_pw _ srz) (pm3.trans pmz.symm)
        have s2 := sl.trans se
        have mlen : ms.length ≤ 1000 := by rw [pm1.length_eq]; omega
        have mzl : mz.length ≤ 1000 := by rw [pmz.length_eq, List.length_append, show (prS (nmS ws)).length = (nmS ws).length from List.length_map ..]; omega
        have eqU : ∀ p, H10 p = some (.lst us) → Eqd (upd (upd H10 l (.lst (ys.map V.str))) e (.lst [V.ref l, .ref pb, .ref pz, .ref pb, .int us.length, .str (stepShown ws.length us.length), .int 3])) 6 (.ref p) (.ref pb) := fun p hp =>
          Eqd.up (eqd_lists (s2 _ _ hp) (s2 _ _ B7.b.2) ((ties_dt B7.t).same s2) ((ties_dt B7.t).same s2) (by rw [List.length_map]; omega) (ties_wide hP.tg))
        refine ⟨_, _, rfl, eqd_row (s2 _ _ hD) upd_same (by show 7 ≤ 1000; decide) (.cons ?_ (.cons (eqU _ h2) (.cons ?_ (.cons (eqU _ h4) (.cons (eqd_i _) (.cons (eqd_s _) (.cons (eqd_i _) .nil))))))), fun H' s' => ⟨_, rfl, iteF ⟨s2.trans s', rfl⟩⟩⟩
        · exact eqd_strs (l := ms) (s2 _ _ h1) (by rw [← ey]; exact se _ _ upd_same) mlen
        · exact eqd_strs (l := mz) (by rw [← ez]; exact s2 _ _ h3) (s2 _ _ hpz7) mzl
      obtain ⟨s10, rfl⟩ := hM
      have B := B7.same s10
      have hx := hx7.same s10
      clear B7 hx7 hpz7 hD h1 h2 h3 h4 s10
      -- what is allowed
      refine ⟨fun σ G1 => SB (tbs Pt) a c pw pb ws us ties G1 ∧ LotH K (fa 146) G1 x (nmS ws) us ∧ ∃ (y5 y6 y7 y8 y9 y10 y11 y12 y13 y20 y21 : Option V), σ = [some (.ref s0), some (.ref a), y2, some (.ref pb), some (.ref x), y5, y6, y7, y8, y9, y10, y11, y12, y13, y14, y15, y16, y17, y18, some (.ref pw), y20, y21], ?_, fun σ G1 hM => ?_⟩
      · refine ⟨3, rfl, by decide, by decide, for_range (n := 3) (fun i σ G1 => SB (tbs Pt) a c pw pb ws us ties G1 ∧ LotH K (fa 146) G1 x (nmS ws) us ∧ ∃ (y5 y6 y7 y8 y9 y10 y11 y12 y13 y20 y21 : Option V), σ = [some (.ref s0), some (.ref a), y2, some (.ref pb), some (.ref x), y5, y6, y7, y8, y9, y10, y11, y12, y13, y14, y15, y16, y17, y18, some (.ref pw), y20, y21]) ⟨B, hx, _, _, _, _, _, _, _, _, _, _, _, rfl⟩ (fun i σ H2 hi hp => ?_) (fun σ H2 hp => hp)⟩
        clear B hx
        obtain ⟨B, hx, y5, y6, y7, y8, y9, y10, y11, y12, y13, y20, y21, rfl⟩ := hp
        -- before, after
        refine ⟨fun σ G2 => SB (tbs Pt) a c pw pb ws us ties G2 ∧ LotH K (fa 146) G2 x (nmS ws) us ∧ ∃ (d1 d2 : Addr) (u v : List Nat → FR) (y8 : Option V), PtK G2 d1 (nmS ws) u ∧ PtK G2 d2 (nmS ws) v ∧ (∀ x ∈ ws, u x ∈ PV) ∧ (∀ x ∈ ws, v x ∈ PV) ∧ σ = [some (.ref s0), some (.ref a), y2, some (.ref pb), some (.ref x), y5, y6, y7, y8, some (.ref d1), some (.ref d2), y11, y12, y13, y14, y15, y16, y17, y18, some (.ref pw), y20, y21], ?_, fun σ G2 hM => ?_⟩
        · refine ⟨_, rfl, _, rfl, a, c, pw, ws, rfl, B.f, B.w.1, B.w.2, hP.nd, by have := hP.ln; omega, fun d1 u G2 f2 b2 hp1 hu => ?_⟩
          have B2 := B.but f2 b2
          refine ⟨_, rfl, _, rfl, a, c, pw, ws, rfl, f2, B2.w.1, B2.w.2, hP.nd, by have := hP.ln; omega, fun d2 v G3 f3 b3 hp2 hv => ⟨two_line, fun q1 n1 => ?_⟩⟩
          have s1 := same_upd (o := .tup [V.ref d1, .ref d2]) n1
          have B3 := (B2.but f3 b3).same s1
          refine ⟨q1, _, rfl, .inl (.inl upd_same), rfl, _, _, rfl, _, _, rfl, rfl, B3, ?_, d1, d2, u, v, _, (hp1.but f2 b3).same s1, hp2.same s1, hu, hv, rfl⟩
          exact ((stepH_but hx B.f b2).nl (NL.but f2 b3)).same s1
        clear B hx
        obtain ⟨B, hx, d1, d2, u, v, y8, hu1, hv1, hu, hv, rfl⟩ := hM
        have kT := hP.kpT B.t
        -- due
        refine ⟨fun σ G3 => Same G2 G3 ∧ ∃ y21, σ = [some (.ref s0), some (.ref a), y2, some (.ref pb), some (.ref x), y5, y6, y7, y8, some (.ref d1), some (.ref d2), some (.bl ((ties.map (kp (val2 u v))).all id)), y12, y13, y14, y15, y16, y17, y18, some (.ref pw), y20, y21], ?_, fun σ G3 hM => ?_⟩
        · refine ⟨_, rfl, pb, rfl, ⟨_, SqL.of B.b.2⟩, fun DD nDD => ?_⟩
          refine lc_list (K := K) (a := pb) (xs := us) (fun i G => Same G2 G ∧ G DD = some (.lst (((ties.take i).map (kp (val2 u v))).map V.bl))) ⟨same_upd nDD, upd_same⟩ (fun i G _ hq => SqL.of (hq.1 _ _ B.b.2)) (fun i y G hy hq => ?_) (fun G hq => ?_)
          · have il := (List.getElem?_eq_some_iff.mp hy).1
            obtain ⟨t, ht⟩ : ∃ t, ties[i]? = some t := ⟨_, List.getElem?_eq_getElem (by omega)⟩
            refine ⟨rfl, _, rfl, _, rfl, _, rfl, d1, d2, nmS ws, u, v, rfl, hu1.same hq.1, hv1.same hq.1, hP.nsq, hP.wd, fun y hy => (hP.st y hy).2, wl, fun dd G4 s4 hp4 => ?_⟩
            have s24 := hq.1.trans s4
            refine ⟨y, dd, a, t, val2 u v, rfl, (kT.same s24).kpA hp4 (fun _ z => z) i y t hy ht, fun G5 s5 => ⟨_, (s4.trans s5) _ _ hq.2, ?_, fun b o e => (upd_ne (ne_of_none e nDD)).trans ((s24.trans s5) _ _ e), ?_⟩⟩
            · rw [List.length_map, List.length_map, List.length_take]
              exact small1000 (by omega)
            · rw [upd_same, List.take_add_one, ht, List.map_append, List.map_append]
              rfl
          · rw [ul, List.take_length] at hq
            exact ⟨DD, _, rfl, SqL.of hq.2, hq.1, _, rfl⟩
        obtain ⟨s23, y21', rfl⟩ := hM
        have kT3 := kT.same s23
        replace B := B.same s23
        replace hx := hx.same s23
        replace hu1 := hu1.same s23
        replace hv1 := hv1.same s23
        clear kT s23
        -- stays
        refine ⟨fun σ G4 => Same G3 G4 ∧ ∃ (y : Addr) (mt : List Str) (ut : List V), LotH K (fa 146) G4 y (nmS ws) ut ∧ mt.Perm (nmS ws) ∧ Paired (TieU a G4) ut (stayL mt) ∧ σ = [some (.ref s0), some (.ref a), y2, some (.ref pb), some (.ref x), y5, y6, y7, y8, some (.ref d1), some (.ref d2), some (.bl ((ties.map (kp (val2 u v))).all id)), some (.ref y), y13, y14, y15, y16, y17, y18, some (.ref pw), y20, y21'], ?_, fun σ G4 hM => ?_⟩
        · refine ⟨rfl, _, rfl, pw, nmS ws, rfl, by rw [B.w.2, vS_map], hP.st, nmS_nd hP.nd, wl, fun y mt ut z G4 s4 hL pm sr hT => ?_⟩
          exact ⟨s4, y, mt, ut, hL, pm, tieU_nl (NL.of (Same.refl _)) hT, rfl⟩
        obtain ⟨s34, y, mt, ut, hy, pmt, hyt, rfl⟩ := hM
        have kT4 := kT3.same s34
        replace B := B.same s34
        replace hx := hx.same s34
        replace hu1 := hu1.same s34
        replace hv1 := hv1.same s34
        clear kT3 s34
        have hF4 := hP.stepF B.t
        obtain ⟨sF4, sT4⟩ := hP.stF pmt hyt
        obtain ⟨dx, q1, q2, ms0, g1, g2, g3, g4, g5⟩ := id hx.at_
        obtain ⟨dy, r1, r2, ms1, j1, j2, j3, j4, j5⟩ := id hy.at_
        -- all three
        refine ⟨_, rfl, x, dx, _, rfl, g1, rfl, _, rfl, _, rfl, x, d1, d2, nmS ws, us, u, v, ties, a, rfl, hx, hF4, hP.nsq, hu1, hv1, kT4, fun G5 s5 => ?_⟩
        refine ⟨_, rfl, y, dy, _, rfl, s5 _ _ j1, rfl, _, rfl, _, rfl, y, d1, d2, nmS ws, ut, u, v, stayL mt, a, rfl, hy.same s5, sF4.same s5, hP.nsq, hu1.same s5, hv1.same s5, sT4.same s5, fun G6 s6 => ?_⟩
        have s56 := s5.trans s6
        refine ⟨_, rfl, y, dy, _, rfl, s56 _ _ j1, rfl, _, rfl, _, rfl, y, d2, d2, nmS ws, ut, v, v, stayL mt, a, rfl, hy.same s56, sF4.same s56, hP.nsq, hv1.same s56, hv1.same s56, sT4.same s56, fun G7 s7 => ?_⟩
        have s57 := s56.trans s7
        refine ⟨small_line (by show 3 ≤ 1000; decide), fun e1 n1 => ?_⟩
        have t1 := same_upd (o := .lst [V.bl ((ties.map (kp (val2 u v))).all id), .bl (((stayL mt).map (kp (val2 u v))).all id), .bl (((stayL mt).map (kp (val2 v v))).all id)]) n1
        obtain ⟨k1, a1, a2, a3⟩ := id (hu1.same (s57.trans t1))
        obtain ⟨k2, b1, b2, b3⟩ := id (hv1.same (s57.trans t1))
        refine ⟨_, rfl, _, rfl, _, rfl, d1, d2, k1, k2, eqE u v, rfl, rfl, a1, b1, pt_eqE (d1 := d1) (d2 := d2) (nmS_nd hP.nd) a2 a3 b3, small_line (by show 3 ≤ 1000; decide), fun e2 n2 => ?_⟩
        have kl : k1.length = k2.length := by
          have z1 := congrArg List.length a2
          have z2 := congrArg List.length b2
          rw [List.length_map, List.length_map] at z1 z2
          omega
        have inN : ∀ z ∈ mt, endQ z.cps.toList = false ∧ u z.cps.toList ∈ PV ∧ v z.cps.toList ∈ PV := fun z hz => by
          have hz := pmt.mem_iff.mp hz
          obtain ⟨n, hn, rfl⟩ := List.mem_map.mp hz
          refine ⟨hP.no _ hz, ?_, ?_⟩
          · rw [S_list]; exact hu n hn
          · rw [S_list]; exact hv n hn
        have f2 : ((stayL mt).map (kp (val2 u v))).all id = (decide (k1.length = k2.length) && k1.all fun p => eqE u v p.1) := by
          rw [decide_eq_true kl, Bool.true_and, all_keys a2, stay_all inN, all_perm pmt]
        have f3 : ((stayL mt).map (kp (val2 v v))).all id = true := by
          rw [stay_all fun z hz => ⟨(inN z hz).1, (inN z hz).2.2, (inN z hz).2.2⟩, List.all_eq_true]
          exact fun z _ => decide_eq_true rfl
        have t2 := same_upd (o := .lst [V.bl ((ties.map (kp (val2 u v))).all id), .bl (decide (k1.length = k2.length) && k1.all fun p => eqE u v p.1), .bl true]) n2
        refine ⟨_, _, rfl, eqd_row (t2 _ _ upd_same) upd_same (by show 3 ≤ 1000; decide) (.cons (eqd_b _) (.cons ?_ (.cons ?_ .nil))), fun H' s' => ⟨_, rfl, iteF ?_⟩⟩
        · rw [f2]
          exact eqd_b _
        · rw [f3]
          exact eqd_b _
        · have sz := s57.trans (t1.trans (t2.trans s'))
          exact ⟨B.same sz, hx.same sz, _, _, _, _, _, _, _, _, _, _, _, rfl⟩
      clear B hx
      obtain ⟨B, hx, y5, y6, y7, y8, y9, y10, y11, y12, y13, y20, y21, rfl⟩ := hM
      -- what stays, and what is equal
      refine ⟨fun σ G2 => SB (tbs Pt) a c pw pb ws us ties G2 ∧ σ = [some (.ref s0), some (.ref a), y2, some (.ref pb), some (.ref x), y5, y6, y7, y8, y9, y10, y11, y12, y13, y14, y15, y16, y17, y18, some (.ref pw), y20, y21], ?_, fun σ G2 hM => ?_⟩
      · refine ⟨rfl, _, rfl, pw, _, rfl, SqL.of B.w.2, fun r1 nr1 => ?_⟩
        have s1 := same_upd (o := .lst (ws.map vS).reverse) nr1
        have er : (ws.map vS).reverse = ((nmS ws).reverse).map V.str := by rw [vS_map, List.map_reverse]
        have pr := List.reverse_perm (nmS ws)
        refine ⟨r1, (nmS ws).reverse, rfl, by rw [upd_same, er], fun x hx => hP.st x (pr.mem_iff.mp hx), pr.nodup_iff.mpr (nmS_nd hP.nd), by rw [List.length_reverse]; exact wl, fun y mt ut z G3 s3 hL pmt srt hyt => ?_⟩
        obtain ⟨dy, u1, u2, ms1, j1, j2, j3, j4, j5⟩ := id hL.at_
        refine ⟨y, dy, _, rfl, j1, rfl, y, _, ut, rfl, hL, fun l1 nl1 => ?_⟩
        have k1 := same_upd (o := .lst ut) nl1
        have sA := s1.trans (s3.trans k1)
        have hl1 : upd G3 l1 (.lst ut) l1 = some (.lst ut) := upd_same
        have hyt1 := tieU_nl (z' := a) (NL.of k1) hyt
        generalize upd G3 l1 (.lst ut) = G4 at sA hl1 hyt1 ⊢
        refine ⟨_, rfl, pw, nmS ws, a, rfl, SqL.of (by rw [sA _ _ B.w.2, vS_map]), wl, fun x hx => (hP.st x hx).2, fun F m2 u9 G5 s5 hF9 pm2 sr2 ht2 => ?_⟩
        have em : m2 = mt := srt_unique (srt_pw _ sr2) (srt_pw _ srt) (pm2.trans (pmt.trans pr).symm)
        subst em
        have ln9 : (stayL m2).length ≤ 6 := by rw [stayL_len, pm2.length_eq]; omega
        refine ⟨_, _, rfl, Eqd.up (Eqd.up (eqd_lists (s5 _ _ hl1) hF9 (ties_dt (tieU_nl (z' := a) (NL.of s5) hyt1)) (ties_dt ht2) (by rw [List.length_map]; omega) fun d hd => ?_)), fun G6 s6 => ⟨_, rfl, iteF ?_⟩⟩
        · obtain ⟨t, ht, rfl⟩ := List.mem_map.mp hd
          obtain ⟨x, hx, hs⟩ := List.mem_flatMap.mp ht
          have sn := (hP.st x (pm2.mem_iff.mp hx)).1
          have sn2 := sn
          unfold stepN at sn2
          rw [Bool.and_eq_true] at sn2
          exact wide_tie (by rw [(stay_ok sn2.1 (name_dash sn) t hs).1]; exact Nat.le_refl _)
        have s16 := sA.trans (s5.trans s6)
        have B6 := B.same s16
        have hx6 := hx.same s16
        obtain ⟨dx, q1, q2, ms0, g1, g2, g3, g4, g5⟩ := id hx6.at_
        have lyd : ∀ d ∈ ties.map (fun t => tieP t.1 t.2), layD d = true := fun d hd => by
          obtain ⟨t, ht, rfl⟩ := List.mem_map.mp hd
          exact tieD_ok hP.lw (hP.tg t ht)
        have okn : ∀ x ∈ nmS ws, PyData.strOk x = true := fun x hx => hP.ok x (List.mem_append_left _ hx)
        have xD : ∀ (G : Hp) (y : Addr), SB (tbs Pt) a c pw pb ws us ties G → LotH K (fa 146) G y (nmS ws) us → StepD K (fa 146) G y (nmS ws) (ties.map fun t => tieP t.1 t.2) := fun G y B h => ⟨⟨us, h, DtAll.dp _ _ (ties_dt B.t)⟩, okn, lyd⟩
        refine ⟨_, rfl, _, rfl, x, dx, _, rfl, g1, .inr ⟨pb, us, rfl, B6.b.2⟩, x, pb, nmS ws, _, rfl, xD _ _ B6 hx6, .inr (.inr ⟨us, B6.b.2, fun G7 s7 => ⟨⟨_, rfl⟩, _, rfl, iteF ?_⟩⟩)⟩
        have B7 := B6.same s7
        have hx7 := hx6.same s7
        refine ⟨_, rfl, _, rfl, _, rfl, fun z dz nz ndz ne => ?_⟩
        have s2 := (same_upd (o := .own z) ndz).trans (same_upd (o := .ins (fa 146) dz []) (H := upd G7 dz (.own z)) ((upd_ne ne.symm).trans nz))
        have B8 := B7.same s2
        refine ⟨z, pw, pb, nmS ws, us, dz, rfl, upd_same, hP.stepA (.inl (SqL.of (by rw [← vS_map]; exact B8.w.2))) (.inl (SqL.of B8.b.2)) B8.t, fun G8 oth hL => ⟨rfl, ?_⟩⟩
        have keep : Same G7 G8 := fun b o e => oth b o (ne_of_none e nz) (s2 _ _ e)
        have B9 := B7.same keep
        have hx9 := hx7.same keep
        obtain ⟨dz', v1, v2, ms2, m1, m2, m3, m4, m5⟩ := id hL.at_
        refine ⟨x, dx, _, z, dz', _, rfl, keep _ _ (s7 _ _ g1), rfl, m1, x, z, nmS ws, _, rfl, xD _ _ B9 hx9, .inl ⟨nmS ws, xD _ _ B9 hL, List.Perm.refl _, fun G10 s10 => ⟨true, rfl, _, rfl, iteF ?_⟩⟩⟩
        exact ⟨B9.same s10, rfl⟩
      clear B hx
      obtain ⟨B, rfl⟩ := hM
      -- at, odd
      obtain ⟨w0, wr, rfl⟩ : ∃ w0 wr, ws = w0 :: wr := by
        cases ws with
        | nil => exact absurd rfl hP.ne
        | cons w0 wr => exact ⟨w0, wr, rfl⟩
      have hwl := hP.lw w0 List.mem_cons_self
      have at0 : atI ((w0 :: wr).map vS) ((0 : Nat) : Int) = some (vS w0) := atI_nat rfl
      have w6 := hwl.2.1
      have lq : (Str.ofString "'" : Str).length = 1 := by decide +kernel
      have w0qq : (SX.S w0).length + (Str.ofString "'" : Str).length ≤ sizeLine := small_line (by rw [SX.S_len]; omega)
      have w0q7 : (SX.S w0 ++ Str.ofString "'").length ≤ 1000 := by rw [strlen_cat, SX.S_len]; omega
      have l3 := hP.ln
      refine ⟨fun σ H5 => SB (tbs Pt) a c pw pb (w0 :: wr) us ties H5 ∧ ∃ (k : Nat) (o : Str), k ≤ (w0 :: wr).length ∧ o ∈ oddS w0 ∧ σ = [some (.ref s0), some (.ref a), y2, some (.ref pb), some (.ref x), y5, y6, y7, y8, y9, y10, y11, y12, y13, y14, y15, some (.int (k : Int)), y17, some (.str o), some (.ref pw), y20, y21], ?_, fun σ H5 hM => ?_⟩
      · refine ⟨_, rfl, _, rfl, pw, _, rfl, .inl (SqL.of B.w.2), _, _, rfl, rfl, a, c, _, rfl, B.f, mid_of (by rw [List.length_map]; omega) (by rw [List.length_map]; omega), fun r H5 r0 r1 hF5 b5 => ?_⟩
        obtain ⟨k, rfl⟩ := Int.eq_ofNat_of_zero_le r0
        have B5 := B.but hF5 b5
        refine ⟨_, rfl, _, rfl, pw, _, _, _, rfl, rfl, SqL.of B5.w.2, at0, _, _, rfl, rfl, w0qq, small_line (by show 5 ≤ 1000; decide), fun e ne => ?_⟩
        have se := same_upd (o := .lst ((oddS w0).map V.str)) ne
        have B6 := B5.same se
        refine ⟨a, c, e, (oddS w0).map V.str, rfl, B6.f, upd_same, new_ne hF5 ne, by show 0 < 5; decide, by show 5 ≤ 1000; decide, fun v H6 hv hF6 b6 => ⟨two_line, fun e2 ne2 => ?_⟩⟩
        obtain ⟨o, ho, rfl⟩ := List.mem_map.mp hv
        have s2 := same_upd (o := .tup [V.int (k : Int), .str o]) ne2
        rw [List.length_map] at r1
        exact ⟨e2, _, rfl, .inl (.inl upd_same), rfl, _, _, rfl, _, _, rfl, rfl, (B6.but hF6 b6).same s2, k, o, by omega, ho, rfl⟩
      clear B
      obtain ⟨B, k, o, hk, ho, rfl⟩ := hM
      obtain ⟨oN, oL, oK⟩ := odd_s hwl ho
      -- bad
      refine ⟨fun σ H6 => SB (tbs Pt) a c pw pb (w0 :: wr) us ties H6 ∧ ∃ (v : V) (d : PyData), Dt a H6 v d ∧ goodT (nmS (w0 :: wr) ++ prS (nmS (w0 :: wr))) d = false ∧ noL d = true ∧ σ = [some (.ref s0), some (.ref a), y2, some (.ref pb), some (.ref x), y5, y6, y7, y8, y9, y10, y11, y12, some v, y14, y15, some (.int (k : Int)), y17, some (.str o), some (.ref pw), y20, y21], ?_, fun σ H6 hM => ?_⟩
      · refine ⟨_, rfl, _, rfl, pw, nmS (w0 :: wr), rfl, SqL.of (by rw [B.w.2, vS_map]), by omega, fun st Gs hst1 hst2 ss => ?_⟩
        have Bs := B.same ss
        have hw0 := Bs.w.2
        have hFb := Bs.f
        have stl : st.length ≤ 1000 := by
          rw [ten_eq] at hst1
          obtain ⟨x, hx, rfl⟩ := List.mem_map.mp hst1
          rw [SX.S_len]
          have := (ten_lw x hx).2.1
          omega
        refine ⟨(small_line (by decide : 2 ≤ 1000)), fun p1 n1 => ?_⟩
        obtain ⟨s1, d1⟩ := dnewT (z := a) n1 (.cons (.int 1 (by decide +kernel)) (.cons (.int 1 (by decide +kernel)) .nil))
        refine ⟨(small_line (by decide : 2 ≤ 1000)), fun p2 n2 => ?_⟩
        obtain ⟨s2, d2⟩ := dnewT (z := a) n2 (.cons (.str st stl) (.cons d1 .nil))
        refine ⟨(small_line (by decide : 1 ≤ 1000)), fun p3 n3 => ?_⟩
        obtain ⟨s3, d3⟩ := dnewT (z := a) n3 (.cons d2 .nil)
        refine ⟨(small_line (by decide : 2 ≤ 1000)), fun p4 n4 => ?_⟩
        obtain ⟨s4, d4⟩ := dnewT (z := a) n4 (.cons (.int 0 (by decide +kernel)) (.cons (.int 1 (by decide +kernel)) .nil))
        refine ⟨(small_line (by decide : 2 ≤ 1000)), fun p5 n5 => ?_⟩
        obtain ⟨s5, d5⟩ := dnewT (z := a) n5 (.cons (d3.same s4) (.cons d4 .nil))
        refine ⟨_, rfl, pw, _, _, _, rfl, rfl, SqL.of ((s1.trans (s2.trans (s3.trans (s4.trans s5)))) _ _ hw0), at0, _, _, rfl, rfl, w0qq, (small_line (by decide : 2 ≤ 1000)), fun p6 n6 => ?_⟩
        obtain ⟨s6, d6⟩ := dnewT (z := a) n6 (.cons (.int 0 (by decide +kernel)) (.cons (.int 1 (by decide +kernel)) .nil))
        refine ⟨(small_line (by decide : 2 ≤ 1000)), fun p7 n7 => ?_⟩
        obtain ⟨s7, d7⟩ := dnewT (z := a) n7 (.cons (.str (SX.S w0 ++ Str.ofString "'") w0q7) (.cons d6 .nil))
        refine ⟨(small_line (by decide : 1 ≤ 1000)), fun p8 n8 => ?_⟩
        obtain ⟨s8, d8⟩ := dnewT (z := a) n8 (.cons d7 .nil)
        refine ⟨(small_line (by decide : 2 ≤ 1000)), fun p9 n9 => ?_⟩
        obtain ⟨s9, d9⟩ := dnewT (z := a) n9 (.cons (.int 0 (by decide +kernel)) (.cons (.int 1 (by decide +kernel)) .nil))
        refine ⟨(small_line (by decide : 2 ≤ 1000)), fun p10 n10 => ?_⟩
        obtain ⟨s10, d10⟩ := dnewT (z := a) n10 (.cons (d8.same s9) (.cons d9 .nil))
        refine ⟨(small_line (by decide : 0 ≤ 1000)), fun p11 n11 => ?_⟩
        obtain ⟨s11, d11⟩ := dnewT (z := a) n11 .nil
        refine ⟨(small_line (by decide : 4 ≤ 1000)), fun p12 n12 => ?_⟩
        obtain ⟨s12, all, hrw⟩ := drow (z := a) n12 (.cons .non (.cons (d5.same (s6.trans (s7.trans (s8.trans (s9.trans (s10.trans s11)))))) (.cons (d10.same s11) (.cons d11 .nil))))
        have sR := (s1.trans (s2.trans (s3.trans (s4.trans (s5.trans (s6.trans (s7.trans (s8.trans (s9.trans (s10.trans (s11.trans s12)))))))))))
        have BR := Bs.same sR
        refine ⟨a, c, p12, _, rfl, BR.f, hrw, new_ne (hFb.same (s1.trans (s2.trans (s3.trans (s4.trans (s5.trans (s6.trans (s7.trans (s8.trans (s9.trans (s10.trans s11))))))))))) n12, by show 0 < 4; decide, by show 4 ≤ 1000; decide, fun v H7 hv hF7 b7 => ?_⟩
        obtain ⟨d, hd, hdt⟩ := all.mem hv
        exact ⟨BR.but hF7 b7, v, d, hdt.but BR.f b7, bad_s (w0 := w0) (ten_no hst1 hst2) d hd, bad_noL d hd, rfl⟩
      clear B
      obtain ⟨B, bv, bd, hbv, hbd, nbd, rfl⟩ := hM
      -- spot
      refine ⟨fun σ H7 => SB (tbs Pt) a c pw pb (w0 :: wr) us ties H7 ∧ Dt a H7 bv bd ∧ ∃ j : Nat, j ≤ ties.length ∧ σ = [some (.ref s0), some (.ref a), y2, some (.ref pb), some (.ref x), y5, y6, y7, y8, y9, y10, y11, y12, some bv, some (.int (j : Int)), y15, some (.int (k : Int)), y17, some (.str o), some (.ref pw), y20, y21], ?_, fun σ H7 hM => ?_⟩
      · refine ⟨_, rfl, _, rfl, pb, _, rfl, .inl (SqL.of B.b.2), _, _, rfl, rfl, a, c, _, rfl, B.f, mid_of (by omega) (by omega), fun r H7 r0 r1 hF7 b7 => ?_⟩
        obtain ⟨j, rfl⟩ := Int.eq_ofNat_of_zero_le r0
        exact ⟨B.but hF7 b7, hbv.but B.f b7, j, by omega, rfl⟩
      clear B hbv
      obtain ⟨B, hbv, j, hj, rfl⟩ := hM
      -- bent
      have jl : j ≤ us.length := by omega
      have hus := ties_dt B.t
      refine ⟨fun σ H8 => Same H7 H8 ∧ ∃ (pe : Addr) (vs : List V), Ls a H8 pe vs ∧ DtAll a H8 vs ((ties.map fun t => tieP t.1 t.2).take j ++ bd :: (ties.map fun t => tieP t.1 t.2).drop j) ∧ vs.length ≤ 900 ∧ σ = [some (.ref s0), some (.ref a), y2, some (.ref pb), some (.ref x), y5, y6, y7, y8, y9, y10, y11, y12, some bv, some (.int (j : Int)), y15, some (.int (k : Int)), some (.ref pe), some (.str o), some (.ref pw), y20, y21], ?_, fun σ H8 hM => ?_⟩
      · refine ⟨_, rfl, _, rfl, _, rfl, pb, _, rfl, SqL.of B.b.2, fun q1 n1 => ⟨_, rfl, one_line, fun q2 n2 => ?_⟩⟩
        rw [cut_take _ _ jl] at n2 ⊢
        have s1 := same_upd (o := .lst (us.take j)) n1
        have s2 := same_upd (o := .lst [bv]) n2
        refine ⟨q1, q2, _, _, rfl, rfl, s2 _ _ upd_same, upd_same, small_line (by rw [List.length_take]; show min _ _ + 1 ≤ 1000; omega), fun q3 n3 => ?_⟩
        have s3 := same_upd (o := .lst (us.take j ++ [bv])) n3
        have s13 := s1.trans (s2.trans s3)
        refine ⟨_, rfl, _, rfl, _, rfl, pb, _, rfl, SqL.of (s13 _ _ B.b.2), fun q4 n4 => ?_⟩
        rw [cut_drop _ _ jl]
        have s4 := same_upd (o := .lst (us.drop j)) n4
        refine ⟨q3, q4, _, _, rfl, rfl, s4 _ _ upd_same, upd_same, small_line (by rw [List.length_append, List.length_take, List.length_drop]; show min _ _ + 1 + _ ≤ 1000; omega), fun q5 n5 => ?_⟩
        have s5 := same_upd (o := .lst (us.take j ++ [bv] ++ us.drop j)) n5
        have sz := s13.trans (s4.trans s5)
        refine ⟨sz, q5, _, ⟨new_ne (B.f.same (s13.trans s4)) n5, upd_same⟩, ?_, ?_, rfl⟩
        · have hz := hus.same sz
          obtain ⟨c1, c2⟩ := DtAll.cut j hz
          have := (c1.app (.cons (hbv.same sz) .nil)).app c2
          have e : (ties.map fun t => tieP t.1 t.2).take j ++ bd :: (ties.map fun t => tieP t.1 t.2).drop j = (ties.map fun t => tieP t.1 t.2).take j ++ [bd] ++ (ties.map fun t => tieP t.1 t.2).drop j := by
            rw [List.append_assoc]
            rfl
          rw [e]
          exact this
        · rw [List.length_append, List.length_append, List.length_take, List.length_drop]
          show min _ _ + 1 + _ ≤ 900
          omega
      obtain ⟨s78, pe, bs, hpe, hbs, hbl, rfl⟩ := hM
      replace B := B.same s78
      clear hus hbv s78
      have hp := B.w
      have hF8 := B.f
      have hT8 := B.tt
      clear B
      -- asked
      refine ⟨hT8, fun f1 G1 e1 t1 l1 => ?_⟩
      refine ⟨t1, fun f2 G2 e2 t2 l2 => ?_⟩
      refine ⟨t2, fun f3 G3 e3 t3 l3 => ?_⟩
      refine ⟨small_line (by show 3 ≤ 1000; decide), fun A nA => ?_⟩
      have sA := same_upd (o := .lst [V.ref f1, .ref f2, .ref f3]) nA
      refine ⟨_, rfl, .inl ⟨rfl, _, SqL.of upd_same⟩, t3.ext sA, fun f4 G5 e4 t4 l4 => ?_⟩
      have hA5 : G5 A = some (.lst [V.ref f1, .ref f2, .ref f3]) := e4 _ _ upd_same (fun ps z => by cases z)
      refine ⟨A, _, _, rfl, rfl, hA5, small1000 (by show 3 ≤ 1000; decide), ?_⟩
      have nAa : A ≠ a := new_ne (hF8.ext (e1.trans (e2.trans e3))) nA
      have nAc : A ≠ c := new_nc (hF8.ext (e1.trans (e2.trans e3))) nA
      have x35 := (ext_same sA).trans e4
      have x15 := e1.trans (e2.trans (e3.trans x35))
      have hFg := (hF8.ext x15).put (p := A) (o := .lst ([V.ref f1, .ref f2, .ref f3] ++ [V.ref f4])) nAa nAc
      have hTg := tabs_lst (o := .lst ([V.ref f1, .ref f2, .ref f3] ++ [V.ref f4])) t4 hA5
      have pA : pw ≠ A := ne_of_none (hp.ext (e1.trans (e2.trans e3))).2 nA
      have eA : pe ≠ A := ne_of_none (hpe.ext (e1.trans (e2.trans e3))).2 nA
      have hp : Ls a (upd G5 A (.lst ([V.ref f1, .ref f2, .ref f3] ++ [V.ref f4]))) pw ((w0 :: wr).map vS) := ⟨hp.1, by
        rw [upd_ne pA]
        exact (hp.ext x15).2⟩
      have hpe : Ls a (upd G5 A (.lst ([V.ref f1, .ref f2, .ref f3] ++ [V.ref f4]))) pe bs := ⟨hpe.1, by
        rw [upd_ne eA]
        exact (hpe.ext x15).2⟩
      have noLb : True := trivial
      have kA := keep_lst (o := .lst ([V.ref f1, .ref f2, .ref f3] ++ [V.ref f4])) hA5
      have kt : ∀ {H1 H2 H3 : Hp}, Keep2 H1 H2 → Keep2 H2 H3 → Keep2 H1 H3 := fun x y b o e n m => y b o (x b o e n m) n m
      have hbs := (hbs.ext x15)
      have l1 := l1.keep (kt (keep_ext (e2.trans (e3.trans x35))) kA)
      have l2 := l2.keep (kt (keep_ext (e3.trans x35)) kA)
      have l3 := l3.keep (kt (keep_ext x35) kA)
      have l4 := l4.keep kA
      have hbs := hbs.tups (z' := a) (TT.upd (zs := [V.ref f1, .ref f2, .ref f3] ++ [V.ref f4]) hA5) _ _ (bent_noL nbd j)
      have hA : (upd G5 A (.lst ([V.ref f1, .ref f2, .ref f3] ++ [V.ref f4]))) A = some (.lst [V.ref f1, .ref f2, .ref f3, .ref f4]) := upd_same
      clear hF8 hT8 e1 e2 e3 e4 t1 t2 t3 t4 kA sA hA5 x35 x15 nA nAa nAc pA eA kt noLb
      generalize upd G5 A (.lst ([V.ref f1, .ref f2, .ref f3] ++ [V.ref f4])) = Hb at hFg hTg hp hpe hbs l1 l2 l3 l4 hA ⊢
      refine ⟨_, rfl, A, [f1, f2, f3, f4], [_, _, _, _], [("InvalidName", .str o), ("InvalidTie", .int j), ("InvalidName", .str (Str.ofString "d")), ("InvalidName", .str (Str.ofString "a"))], rfl, hA, by show 4 ≤ 900; decide, .cons l1 (.cons l2 (.cons l3 (.cons l4 .nil))), .cons ?_ (.cons ?_ (.cons ?_ (.cons ?_ .nil))), fun D9 ps H13 s13 hD2 hps => ?_⟩
      · intro G sG E' Q' hE hQ
        have kl : k ≤ ((w0 :: wr).map vS).length := by rw [List.length_map]; exact hk
        refine ⟨_, rfl, _, rfl, _, rfl, pw, _, rfl, SqL.of (sG _ _ hp.2), fun q1 n1 => ⟨_, rfl, one_line, fun q2 n2 => ?_⟩⟩
        rw [cut_take _ _ kl] at n2 ⊢
        have s1 := same_upd (o := .lst (((w0 :: wr).map vS).take k)) n1
        have s2 := same_upd (o := .lst [V.str o]) n2
        refine ⟨q1, q2, _, _, rfl, rfl, s2 _ _ upd_same, upd_same, small_line (by rw [List.length_take, List.length_map]; show min _ _ + 1 ≤ 1000; omega), fun q3 n3 => ?_⟩
        have s3 := same_upd (o := .lst (((w0 :: wr).map vS).take k ++ [V.str o])) n3
        have s13 := s1.trans (s2.trans s3)
        refine ⟨_, rfl, _, rfl, _, rfl, pw, _, rfl, SqL.of (s13 _ _ (sG _ _ hp.2)), fun q4 n4 => ?_⟩
        rw [cut_drop _ _ kl]
        have s4 := same_upd (o := .lst (((w0 :: wr).map vS).drop k)) n4
        refine ⟨q3, q4, _, _, rfl, rfl, s4 _ _ upd_same, upd_same, small_line (by rw [List.length_append, List.length_take, List.length_drop, List.length_map]; show min _ _ + 1 + _ ≤ 1000; omega), fun q5 n5 => ?_⟩
        have s5 := same_upd (o := .lst (((w0 :: wr).map vS).take k ++ [V.str o] ++ ((w0 :: wr).map vS).drop k)) n5
        refine ⟨_, rfl, fun y dy ny ndy ne => ?_⟩
        have sh := (same_upd (o := .own y) ndy).trans (same_upd (o := .ins (fa 146) dy []) (H := upd _ dy (.own y)) ((upd_ne ne.symm).trans ny))
        obtain ⟨i9, hb1, hb2⟩ := hP.lateS k oN (by omega)
        obtain ⟨ll1, ll2⟩ := hP.late_len k (y := o) (by omega)
        have sz := s13.trans (s4.trans (s5.trans sh))
        refine ⟨y, q5, _, _, rfl, SqL.of ((sh _ _ upd_same).trans ?_), ll1, ll2, .inl ⟨i9, o, hb1, hb2, fun dd H' s' e => hE _ _ _ (sz.trans s') (errI_name T e)⟩⟩
        rw [names_vs, ← List.map_take, ← List.map_drop, ← List.map_take, ← List.map_drop, List.map_append, List.map_cons, List.append_assoc]
        rfl
      · intro G sG E' Q' hE hQ
        refine ⟨_, rfl, _, rfl, fun y dy ny ndy ne => ?_⟩
        have sh := (same_upd (o := .own y) ndy).trans (same_upd (o := .ins (fa 146) dy []) (H := upd _ dy (.own y)) ((upd_ne ne.symm).trans ny))
        have gt : ∀ d ∈ (ties.map fun t => tieP t.1 t.2).take j, goodT (nmS (w0 :: wr) ++ prS (nmS (w0 :: wr))) d = true := fun d hd => by
          obtain ⟨t, ht, rfl⟩ := List.mem_map.mp (List.mem_of_mem_take hd)
          exact hP.good t ht
        have ft := fbt_go _ _ 0 bd ((ties.map fun t => tieP t.1 t.2).drop j) gt hbd
        rw [Nat.zero_add, List.length_take, List.length_map, Nat.min_eq_left hj] at ft
        refine ⟨y, pw, _, nmS (w0 :: wr), rfl, SqL.of (by rw [sh _ _ (sG _ _ hp.2), vS_map]), by omega, fun x hx => (hP.st x hx).2, .inr ⟨hP.fb, pe, bs, _, a, j, rfl, SqL.of (sh _ _ (sG _ _ hpe.2)), hbs.same (sG.trans sh), hbl, ft, fun dd H' s' e => hE _ _ _ (sh.trans s') (errI_tie T e)⟩⟩
      · intro G sG E' Q' hE hQ
        refine ⟨small_line (by show 4 ≤ 1000; decide), fun l nl => fun y dy ny ndy ne => ?_⟩
        have s1 := same_upd (o := .lst ([Str.ofString "a", Str.ofString "b", Str.ofString "c", Str.ofString "d"].map V.str)) nl
        have sh := (same_upd (o := .own y) ndy).trans (same_upd (o := .ins (fa 146) dy []) (H := upd _ dy (.own y)) ((upd_ne ne.symm).trans ny))
        refine ⟨y, l, _, [Str.ofString "a", Str.ofString "b", Str.ofString "c", Str.ofString "d"], rfl, SqL.of (sh _ _ upd_same), by show 4 ≤ 900; decide, by decide +kernel, .inl ⟨3, Str.ofString "d", by decide +kernel, rfl, fun dd H' s' e => hE _ _ _ (s1.trans (sh.trans s')) (errI_name T e)⟩⟩
      · intro G sG E' Q' hE hQ
        refine ⟨rfl, small_line (by show 2 ≤ 1000; decide), fun l nl => ?_⟩
        have s1 := same_upd (o := .lst ([Str.ofString "a", Str.ofString "a"].map V.str)) nl
        exact ⟨l, [Str.ofString "a", Str.ofString "a"], rfl, SqL.of upd_same, by show 2 ≤ 900; decide, by decide +kernel, 1, Str.ofString "a", by decide +kernel, rfl, fun dd H' s' e => hE _ _ _ (s1.trans s') (errI_name T e)⟩
      · have hFg := hFg.same s13
        have hod : Dt a H13 (.str o) (.str o) := .str o (by omega)
        have hsp : Dt a H13 (.int (j : Int)) (.int (j : Int)) := .int _ (log2_mono (b := 10) (by rw [Int.natAbs_natCast]; omega) (by decide +kernel))
        refine ⟨_, rfl, (small_line (by decide : 2 ≤ 1000)), fun p1 n1 => ?_⟩
        obtain ⟨s1, d1⟩ := dnewT (z := a) n1 (.cons (.str (Str.ofString "InvalidName") (by decide +kernel)) (.cons hod .nil))
        refine ⟨_, rfl, (small_line (by decide : 2 ≤ 1000)), fun p2 n2 => ?_⟩
        obtain ⟨s2, d2⟩ := dnewT (z := a) n2 (.cons (.str (Str.ofString "InvalidTie") (by decide +kernel)) (.cons (hsp.same s1) .nil))
        refine ⟨(small_line (by decide : 2 ≤ 1000)), fun p3 n3 => ?_⟩
        obtain ⟨s3, d3⟩ := dnewT (z := a) n3 (.cons (.str (Str.ofString "InvalidName") (by decide +kernel)) (.cons (.str (Str.ofString "d") (by decide +kernel)) .nil))
        refine ⟨(small_line (by decide : 2 ≤ 1000)), fun p4 n4 => ?_⟩
        obtain ⟨s4, d4⟩ := dnewT (z := a) n4 (.cons (.str (Str.ofString "InvalidName") (by decide +kernel)) (.cons (.str (Str.ofString "a") (by decide +kernel)) .nil))
        refine ⟨(small_line (by decide : 4 ≤ 1000)), fun p5 n5 => ?_⟩
        obtain ⟨s5, d5⟩ := dnewL (z := a) n5 (new_ne (hFg.same (s1.trans (s2.trans (s3.trans s4)))) n5) (.cons (d1.same (s2.trans (s3.trans s4))) (.cons (d2.same (s3.trans s4)) (.cons (d3.same s4) (.cons d4 .nil))))
        have sD := (s1.trans (s2.trans (s3.trans (s4.trans s5))))
        have sh2 := dueS_sh oK (j : Int)
        have hps2 := lq_paired_mono (fun p (r : Str × V) e => sD _ _ e) hps
        refine ⟨_, _, .lst (SqL.of (sD _ _ hD2)) (dp_tags hps2 (.cons ⟨rfl, .str _⟩ (.cons ⟨rfl, .int _⟩ (.cons ⟨rfl, .str _⟩ (.cons ⟨rfl, .str _⟩ .nil))))), Dt.dp _ _ d5, sh2, sh2, _, rfl, ?_⟩
        refine iteF' (by rw [Bool.not_eq_false']; exact sh_eqv sh2) ?_
        have sz := s13.trans sD
        exact ⟨hFg.same sD, hTg.ext sz, _, _, _, _, _, _, _, _, _, _, _, _, _, _, _, _, _, _, _, _, rfl⟩
    obtain ⟨y2, y3, y4, y5, y6, y7, y8, y9, y10, y11, y12, y13, y14, y15, y16, y17, y18, y19, y20, y21, rfl⟩ := hM
    exact q _
end
set_option maxHeartbeats 0 in
theorem all_hk {w : World} {K : PySem.W.Frag} {h : Heap} {mg : Str → Option Value} {fl : Addr} (c : SaysY hA hFn hE h K) (G : h.Ns mainGlobals mg) (hfa : mg "law" = some (.ref fl)) :
    LamX.LawAtS PySem.Challenge.rw_tiespan_k34_steps_return_what_they_are_m w K CX0 17 63 "_law_script" mg fl h := by
  have KX := c.kin
  have e := hfa.symm.trans (He.glo_ok KX G (c.fact 40 (f := .glo "law") rfl))
  cases e
  obtain ⟨fd18, D18⟩ := c.get 0 (d := hd18) rfl
  have F18 : Fun K "is_whole" "is_whole" s_p_is_whole (He.ga K "is_whole") fd18 := fun_of D18
  obtain ⟨fd20, D20⟩ := c.get 1 (d := hd20) rfl
  have F20 : Fun K "common_divisor" "common_divisor" s_p_common_divisor (He.ga K "common_divisor") fd20 := fun_of D20
  obtain ⟨fd21, D21⟩ := c.get 2 (d := hd21) rfl
  have F21 : FunD K "ratio" "ratio" (defArgs s_p_ratio) (defBody s_p_ratio) (defScope s_p_ratio) [V.int 1] [] (He.ga K "ratio") fd21 := D21
  obtain ⟨fd22, D22⟩ := c.get 3 (d := hd22) rfl
  have F22 : Fun K "is_ratio" "is_ratio" s_p_is_ratio (He.ga K "is_ratio") fd22 := fun_of D22
  obtain ⟨fd23, D23⟩ := c.get 4 (d := hd23) rfl
  have F23 : Fun K "add" "add" s_p_add (He.ga K "add") fd23 := fun_of D23
  obtain ⟨fd25, D25⟩ := c.get 5 (d := hd25) rfl
  have F25 : Fun K "multiply" "multiply" s_p_multiply (He.ga K "multiply") fd25 := fun_of D25
  obtain ⟨fd27, D27⟩ := c.get 6 (d := hd27) rfl
  have F27 : Fun K "is_less" "is_less" s_p_is_less (He.ga K "is_less") fd27 := fun_of D27
  obtain ⟨fd86, D86⟩ := c.get 7 (d := hd86) rfl
  have F86 : Fun K "is_name" "is_name" s_p_is_name (He.ga K "is_name") fd86 := fun_of D86
  obtain ⟨fd87, D87⟩ := c.get 8 (d := hd87) rfl
  have F87 : Fun K "is_term" "is_term" s_p_is_term (He.ga K "is_term") fd87 := fun_of D87
  obtain ⟨fd88, D88⟩ := c.get 9 (d := hd88) rfl
  have F88 : Fun K "are_terms" "are_terms" s_p_are_terms (He.ga K "are_terms") fd88 := fun_of D88
  obtain ⟨fd89, D89⟩ := c.get 10 (d := hd89) rfl
  have F89 : Fun K "is_tie" "is_tie" s_p_is_tie (He.ga K "is_tie") fd89 := fun_of D89
  obtain ⟨fd90, D90⟩ := c.get 11 (d := hd90) rfl
  have F90 : Fun K "names_in" "names_in" s_p_names_in (He.ga K "names_in") fd90 := fun_of D90
  obtain ⟨fd92, D92⟩ := c.get 12 (d := hd92) rfl
  have F92 : Fun K "is_kept" "is_kept" s_p_is_kept (He.ga K "is_kept") fd92 := fun_of D92
  obtain ⟨fd110, D110⟩ := c.get 13 (d := hd110) rfl
  have F110 : Fun K "ascending" "ascending" s_p_ascending (He.ga K "ascending") fd110 := fun_of D110
  obtain ⟨fd136, D136⟩ := c.get 14 (d := hd136) rfl
  have F136 : Fun K "first_wrong_name" "first_wrong_name" s_p_first_wrong_name (He.ga K "first_wrong_name") fd136 := fun_of D136
  obtain ⟨fd137, D137⟩ := c.get 15 (d := hd137) rfl
  have F137 : Fun K "first_wrong_tie" "first_wrong_tie" s_p_first_wrong_tie (He.ga K "first_wrong_tie") fd137 := fun_of D137
  obtain ⟨fd141, D141⟩ := c.get 16 (d := hd141) rfl
  have F141 : Fun K "primed" "primed" s_p_primed (He.ga K "primed") fd141 := fun_of D141
  obtain ⟨fd148, D148⟩ := c.get 17 (d := hd148) rfl
  have F148 : Fun K "_law_feed" "_law_feed" s_feed (He.ga K "_law_feed") fd148 := fun_of D148
  obtain ⟨fd149, D149⟩ := c.get 18 (d := hd149) rfl
  have F149 : Fun K "_law_draw" "_law_draw" s_draw (He.ga K "_law_draw") fd149 := fun_of D149
  obtain ⟨fd150, D150⟩ := c.get 19 (d := hd150) rfl
  have F150 : Fun K "_law_any" "_law_any" s_any (He.ga K "_law_any") fd150 := fun_of D150
  obtain ⟨fd151, D151⟩ := c.get 20 (d := hd151) rfl
  have F151 : Fun K "_law_same" "_law_same" s_same (He.ga K "_law_same") fd151 := fun_of D151
  obtain ⟨fd152, D152⟩ := c.get 21 (d := hd152) rfl
  have F152 : Fun K "_law_field" "_law_field" s_field (He.ga K "_law_field") fd152 := fun_of D152
  obtain ⟨fd153, D153⟩ := c.get 22 (d := hd153) rfl
  have F153 : Fun K "_law_why" "_law_why" s_why (He.ga K "_law_why") fd153 := fun_of D153
  obtain ⟨fd154, D154⟩ := c.get 23 (d := hd154) rfl
  have F154 : Fun K "_law_errors" "_law_errors" s_errors (He.ga K "_law_errors") fd154 := fun_of D154
  obtain ⟨fd155, D155⟩ := c.get 24 (d := hd155) rfl
  have F155 : Fun K "_law_gcd" "_law_gcd" s_gcd (He.ga K "_law_gcd") fd155 := fun_of D155
  obtain ⟨fd156, D156⟩ := c.get 25 (d := hd156) rfl
  have F156 : Fun K "_law_low" "_law_low" s_low (He.ga K "_law_low") fd156 := fun_of D156
  obtain ⟨fd157, D157⟩ := c.get 26 (d := hd157) rfl
  have F157 : Fun K "_law_plus" "_law_plus" s_plus (He.ga K "_law_plus") fd157 := fun_of D157
  obtain ⟨fd158, D158⟩ := c.get 27 (d := hd158) rfl
  have F158 : Fun K "_law_minus" "_law_minus" s_minus (He.ga K "_law_minus") fd158 := fun_of D158
  obtain ⟨fd159, D159⟩ := c.get 28 (d := hd159) rfl
  have F159 : Fun K "_law_by" "_law_by" s_by (He.ga K "_law_by") fd159 := fun_of D159
  obtain ⟨fd160, D160⟩ := c.get 29 (d := hd160) rfl
  have F160 : Fun K "_law_under" "_law_under" s_under (He.ga K "_law_under") fd160 := fun_of D160
  obtain ⟨fd161, D161⟩ := c.get 30 (d := hd161) rfl
  have F161 : Fun K "_law_rate" "_law_rate" s_rate (He.ga K "_law_rate") fd161 := fun_of D161
  obtain ⟨fd162, D162⟩ := c.get 31 (d := hd162) rfl
  have F162 : Fun K "_law_words" "_law_words" s_words (He.ga K "_law_words") fd162 := fun_of D162
  obtain ⟨fd163, D163⟩ := c.get 32 (d := hd163) rfl
  have F163 : Fun K "_law_strange" "_law_strange" s_strange (He.ga K "_law_strange") fd163 := fun_of D163
  obtain ⟨fd164, D164⟩ := c.get 33 (d := hd164) rfl
  have F164 : Fun K "_law_total" "_law_total" s_total (He.ga K "_law_total") fd164 := fun_of D164
  obtain ⟨fd165, D165⟩ := c.get 34 (d := hd165) rfl
  have F165 : Fun K "_law_keeps" "_law_keeps" s_keeps (He.ga K "_law_keeps") fd165 := fun_of D165
  obtain ⟨fd166, D166⟩ := c.get 35 (d := hd166) rfl
  have F166 : Fun K "_law_point" "_law_point" s_point (He.ga K "_law_point") fd166 := fun_of D166
  obtain ⟨fd167, D167⟩ := c.get 36 (d := hd167) rfl
  have F167 : Fun K "_law_value_ties" "_law_value_ties" s_value_ties (He.ga K "_law_value_ties") fd167 := fun_of D167
  obtain ⟨fd168, D168⟩ := c.get 37 (d := hd168) rfl
  have F168 : Fun K "_law_step_ties" "_law_step_ties" s_step_ties (He.ga K "_law_step_ties") fd168 := fun_of D168
  obtain ⟨fd169, D169⟩ := c.get 38 (d := hd169) rfl
  have F169 : Fun K "_law_values_of" "_law_values_of" s_values_of (He.ga K "_law_values_of") fd169 := fun_of D169
  obtain ⟨fd170, D170⟩ := c.get 39 (d := hd170) rfl
  have F170 : Fun K "_law_stay_ties" "_law_stay_ties" s_stay_ties (He.ga K "_law_stay_ties") fd170 := fun_of D170
  obtain ⟨fd171, D171⟩ := c.get 40 (d := hd171) rfl
  have F171 : Fun K "law" "law" s_p_law (He.ga K "law") fd171 := fun_of D171
  obtain ⟨fd1003, D1003⟩ := c.get 41 (d := hd1003) rfl
  have F1003 : Fun K "__init__" "InvalidRatio.__init__" (inClass (topS 3) 0) (He.ma K (He.ga K "InvalidRatio") "__init__") fd1003 := fun_of D1003
  obtain ⟨fd1004, D1004⟩ := c.get 42 (d := hd1004) rfl
  have F1004 : Fun K "__init__" "InvalidName.__init__" (inClass (topS 4) 0) (He.ma K (He.ga K "InvalidName") "__init__") fd1004 := fun_of D1004
  obtain ⟨fd1005, D1005⟩ := c.get 43 (d := hd1005) rfl
  have F1005 : Fun K "__init__" "InvalidTie.__init__" (inClass (topS 5) 0) (He.ma K (He.ga K "InvalidTie") "__init__") fd1005 := fun_of D1005
  obtain ⟨fd1500, D1500⟩ := c.get 44 (d := hd1500) rfl
  have F1500 : FunD K "__init__" "Lot.__init__" (defArgs s_p_LotInit) (defBody s_p_LotInit) (defScope s_p_LotInit) [V.ref (He.dflAt ("Lot", some "__init__") 0 K)] [] (He.ma K (He.ga K "Lot") "__init__") fd1500 := D1500
  obtain ⟨fd1510, D1510⟩ := c.get 45 (d := hd1510) rfl
  have F1510 : Fun K "names" "Lot.names" s_p_LotNames (He.ma K (He.ga K "Lot") "names") fd1510 := fun_of D1510
  obtain ⟨fd1511, D1511⟩ := c.get 46 (d := hd1511) rfl
  have F1511 : Fun K "ties" "Lot.ties" s_p_LotTies (He.ma K (He.ga K "Lot") "ties") fd1511 := fun_of D1511
  obtain ⟨fd1513, D1513⟩ := c.get 47 (d := hd1513) rfl
  have F1513 : Fun K "holds" "Lot.holds" s_p_LotHolds (He.ma K (He.ga K "Lot") "holds") fd1513 := fun_of D1513
  obtain ⟨fd1600, D1600⟩ := c.get 48 (d := hd1600) rfl
  have F1600 : FunD K "__init__" "Step.__init__" (defArgs s_p_StepInit) (defBody s_p_StepInit) (defScope s_p_StepInit) [V.ref (He.dflAt ("Step", some "__init__") 0 K)] [] (He.ma K (He.ga K "Step") "__init__") fd1600 := D1600
  obtain ⟨fd1601, D1601⟩ := c.get 49 (d := hd1601) rfl
  have F1601 : Fun K "stay" "Step.stay" s_p_StepStay (smF "Step" "stay" K) fd1601 := fun_of D1601
  obtain ⟨fd1610, D1610⟩ := c.get 50 (d := hd1610) rfl
  have F1610 : Fun K "names" "Step.names" s_p_StepNames (He.ma K (He.ga K "Step") "names") fd1610 := fun_of D1610
  obtain ⟨fd1611, D1611⟩ := c.get 51 (d := hd1611) rfl
  have F1611 : Fun K "ties" "Step.ties" s_p_StepTies (He.ma K (He.ga K "Step") "ties") fd1611 := fun_of D1611
  obtain ⟨fd1612, D1612⟩ := c.get 52 (d := hd1612) rfl
  have F1612 : Fun K "everyone" "Step.everyone" s_p_StepAll (He.ma K (He.ga K "Step") "everyone") fd1612 := fun_of D1612
  obtain ⟨fd1613, D1613⟩ := c.get 53 (d := hd1613) rfl
  have F1613 : Fun K "lot" "Step.lot" s_p_StepLot (He.ma K (He.ga K "Step") "lot") fd1613 := fun_of D1613
  obtain ⟨fd1614, D1614⟩ := c.get 54 (d := hd1614) rfl
  have F1614 : Fun K "allows" "Step.allows" s_p_StepAllows (He.ma K (He.ga K "Step") "allows") fd1614 := fun_of D1614
  obtain ⟨fd1615, D1615⟩ := c.get 55 (d := hd1615) rfl
  have F1615 : Fun K "__eq__" "Step.__eq__" s_p_StepEq (He.ma K (He.ga K "Step") "__eq__") fd1615 := fun_of D1615
  obtain ⟨fd1616, D1616⟩ := c.get 56 (d := hd1616) rfl
  have F1616 : Fun K "__len__" "Step.__len__" s_p_StepLen (He.ma K (He.ga K "Step") "__len__") fd1616 := fun_of D1616
  obtain ⟨fd1617, D1617⟩ := c.get 57 (d := hd1617) rfl
  have F1617 : Fun K "__repr__" "Step.__repr__" s_p_StepRepr (He.ma K (He.ga K "Step") "__repr__") fd1617 := fun_of D1617
  have Bn21 : Binds K fd21 ["top", "under"] [] := by
    obtain ⟨ds, v, b⟩ := F21.binds1 (ps := ["top", "under"]) 2 1 (by simp) rfl fun T kV doc pm an cdv ct us its h1 h2 => match us, its, h1, h2 with | [_, _], [_], _, _ => ⟨_, rfl, rfl⟩
    cases v
    exact b
  have Bd21 := F21.binds1 (ps := ["top", "under"]) 1 0 (by simp) rfl fun T kV doc pm an cdv ct us its h1 h2 => match us, its, h1, h2 with | [_], [_], _, _ => ⟨_, rfl, rfl⟩
  have FC : FunC K "law" s_p_law (He.ga K "law") fd171 (He.cT K lawD).1 := funC_of D171
  have E3 : ErrC K mg "InvalidRatio" (He.ga K "InvalidRatio") (He.ga K "TieError") (He.ga K "Missing") (He.ma K (He.ga K "InvalidRatio") "__init__") := errB_ok KX G (c.own 0 (b := errB "InvalidRatio") rfl)
  have E4 : ErrC K mg "InvalidName" (He.ga K "InvalidName") (He.ga K "TieError") (He.ga K "Missing") (He.ma K (He.ga K "InvalidName") "__init__") := errB_ok KX G (c.own 1 (b := errB "InvalidName") rfl)
  have E5 : ErrC K mg "InvalidTie" (He.ga K "InvalidTie") (He.ga K "TieError") (He.ga K "Missing") (He.ma K (He.ga K "InvalidTie") "__init__") := errB_ok KX G (c.own 2 (b := errB "InvalidTie") rfl)
  have Bn1500 : Binds K (fd1500) ["self", "names", "ties"] [] := by
    obtain ⟨ds, v, b⟩ := F1500.binds1 (ps := ["self", "names", "ties"]) 3 1 (by simp) rfl fun T kV doc pm an cdv ct us its h1 h2 => match us, its, h1, h2 with | [_, _, _], [_], _, _ => ⟨_, rfl, rfl⟩
    cases v
    exact b
  have Bd1500 := F1500.binds1 (ps := ["self", "names", "ties"]) 2 0 (by simp) rfl fun T kV doc pm an cdv ct us its h1 h2 => match us, its, h1, h2 with | [_, _], [_], _, _ => ⟨_, rfl, rfl⟩
  have KB1500 : KBn K (fd1500) ["self", "names", "ties"] 1 ["ties", "names"] (fun us ws => us ++ [ws.getD 1 Value.none, ws.getD 0 Value.none]) (fun vs zs => vs ++ [zs.getD 1 V.non, zs.getD 0 V.non]) := by
    obtain ⟨oc, od, dV, kV, doc, pm, an, cdv, ct, osl, z, lk, hcd, hD, hK⟩ := F1500.ex
    rcases hD with ⟨z2, _⟩ | ⟨_, T, o, its, m, z3, lT, oT, rT⟩
    · cases z2
    · cases rT with
      | cons r1 rT =>
        cases rT
        subst z z3
        exact ⟨fun s us ws X hu hw => match us, ws, hu, hw with | [_], [a, b], _, _ => BindsTo.of_looks fun M => looks_items X lT oT (.of_pure rfl), fun r1 r2 => r1.append (swap_rel r1 r2)⟩
  have Bn1600 : Binds K (fd1600) ["self", "names", "ties"] [] := by
    obtain ⟨ds, v, b⟩ := F1600.binds1 (ps := ["self", "names", "ties"]) 3 1 (by simp) rfl fun T kV doc pm an cdv ct us its h1 h2 => match us, its, h1, h2 with | [_, _, _], [_], _, _ => ⟨_, rfl, rfl⟩
    cases v
    exact b
  have Bd1600 := F1600.binds1 (ps := ["self", "names", "ties"]) 2 0 (by simp) rfl fun T kV doc pm an cdv ct us its h1 h2 => match us, its, h1, h2 with | [_, _], [_], _, _ => ⟨_, rfl, rfl⟩
  have KB1600 : KBn K (fd1600) ["self", "names", "ties"] 1 ["ties", "names"] (fun us ws => us ++ [ws.getD 1 Value.none, ws.getD 0 Value.none]) (fun vs zs => vs ++ [zs.getD 1 V.non, zs.getD 0 V.non]) := by
    obtain ⟨oc, od, dV, kV, doc, pm, an, cdv, ct, osl, z, lk, hcd, hD, hK⟩ := F1600.ex
    rcases hD with ⟨z2, _⟩ | ⟨_, T, o, its, m, z3, lT, oT, rT⟩
    · cases z2
    · cases rT with
      | cons r1 rT =>
        cases rT
        subst z z3
        exact ⟨fun s us ws X hu hw => match us, ws, hu, hw with | [_], [a, b], _, _ => BindsTo.of_looks fun M => looks_items X lT oT (.of_pure rfl), fun r1 r2 => r1.append (swap_rel r1 r2)⟩
  have T : Txt K mg (fun i => match i with
      | 18 => He.ga K "is_whole"
      | 20 => He.ga K "common_divisor"
      | 21 => He.ga K "ratio"
      | 22 => He.ga K "is_ratio"
      | 23 => He.ga K "add"
      | 25 => He.ga K "multiply"
      | 27 => He.ga K "is_less"
      | 86 => He.ga K "is_name"
      | 87 => He.ga K "is_term"
      | 88 => He.ga K "are_terms"
      | 89 => He.ga K "is_tie"
      | 90 => He.ga K "names_in"
      | 92 => He.ga K "is_kept"
      | 110 => He.ga K "ascending"
      | 136 => He.ga K "first_wrong_name"
      | 137 => He.ga K "first_wrong_tie"
      | 141 => He.ga K "primed"
      | 148 => He.ga K "_law_feed"
      | 149 => He.ga K "_law_draw"
      | 150 => He.ga K "_law_any"
      | 151 => He.ga K "_law_same"
      | 152 => He.ga K "_law_field"
      | 153 => He.ga K "_law_why"
      | 154 => He.ga K "_law_errors"
      | 155 => He.ga K "_law_gcd"
      | 156 => He.ga K "_law_low"
      | 157 => He.ga K "_law_plus"
      | 158 => He.ga K "_law_minus"
      | 159 => He.ga K "_law_by"
      | 160 => He.ga K "_law_under"
      | 161 => He.ga K "_law_rate"
      | 162 => He.ga K "_law_words"
      | 163 => He.ga K "_law_strange"
      | 164 => He.ga K "_law_total"
      | 165 => He.ga K "_law_keeps"
      | 166 => He.ga K "_law_point"
      | 167 => He.ga K "_law_value_ties"
      | 168 => He.ga K "_law_step_ties"
      | 169 => He.ga K "_law_values_of"
      | 170 => He.ga K "_law_stay_ties"
      | 171 => He.ga K "law"
      | 2 => He.ga K "TieError"
      | 10 => He.ga K "Missing"
      | 3 => He.ga K "InvalidRatio"
      | 1003 => He.ma K (He.ga K "InvalidRatio") "__init__"
      | 4 => He.ga K "InvalidName"
      | 1004 => He.ma K (He.ga K "InvalidName") "__init__"
      | 5 => He.ga K "InvalidTie"
      | 1005 => He.ma K (He.ga K "InvalidTie") "__init__"
      | 2000 => He.ga K "ZERO"
      | 139 => He.ga K "Lot"
      | 1500 => He.ma K (He.ga K "Lot") "__init__"
      | 1502 => He.dflAt ("Lot", some "__init__") 0 K
      | 1510 => He.ma K (He.ga K "Lot") "names"
      | 1511 => He.ma K (He.ga K "Lot") "ties"
      | 1513 => He.ma K (He.ga K "Lot") "holds"
      | 146 => He.ga K "Step"
      | 1600 => He.ma K (He.ga K "Step") "__init__"
      | 1602 => He.dflAt ("Step", some "__init__") 0 K
      | 1601 => smF "Step" "stay" K
      | 1610 => He.ma K (He.ga K "Step") "names"
      | 1611 => He.ma K (He.ga K "Step") "ties"
      | 1612 => He.ma K (He.ga K "Step") "everyone"
      | 1613 => He.ma K (He.ga K "Step") "lot"
      | 1614 => He.ma K (He.ga K "Step") "allows"
      | 1615 => He.ma K (He.ga K "Step") "__eq__"
      | 1616 => He.ma K (He.ga K "Step") "__len__"
      | 1617 => He.ma K (He.ga K "Step") "__repr__"
      | _ => He.ga K "law") (fun i => match i with
      | 18 => fd18
      | 20 => fd20
      | 21 => fd21
      | 22 => fd22
      | 23 => fd23
      | 25 => fd25
      | 27 => fd27
      | 86 => fd86
      | 87 => fd87
      | 88 => fd88
      | 89 => fd89
      | 90 => fd90
      | 92 => fd92
      | 110 => fd110
      | 136 => fd136
      | 137 => fd137
      | 141 => fd141
      | 148 => fd148
      | 149 => fd149
      | 150 => fd150
      | 151 => fd151
      | 152 => fd152
      | 153 => fd153
      | 154 => fd154
      | 155 => fd155
      | 156 => fd156
      | 157 => fd157
      | 158 => fd158
      | 159 => fd159
      | 160 => fd160
      | 161 => fd161
      | 162 => fd162
      | 163 => fd163
      | 164 => fd164
      | 165 => fd165
      | 166 => fd166
      | 167 => fd167
      | 168 => fd168
      | 169 => fd169
      | 170 => fd170
      | 171 => fd171
      | 1003 => fd1003
      | 1004 => fd1004
      | 1005 => fd1005
      | 1500 => fd1500
      | 1510 => fd1510
      | 1511 => fd1511
      | 1513 => fd1513
      | 1600 => fd1600
      | 1601 => fd1601
      | 1610 => fd1610
      | 1611 => fd1611
      | 1612 => fd1612
      | 1613 => fd1613
      | 1614 => fd1614
      | 1615 => fd1615
      | 1616 => fd1616
      | 1617 => fd1617
      | _ => fd171) := {
    F_p_is_whole := F18, g_p_is_whole := He.glo_ok KX G (c.fact 0 (f := .glo "is_whole") rfl)
    b_p_is_whole := F18.binds (ps := ["thing"]) fun _ _ _ _ _ _ us hl => match us, hl with | [_], _ => rfl
    F_p_common_divisor := F20, g_p_common_divisor := He.glo_ok KX G (c.fact 1 (f := .glo "common_divisor") rfl)
    b_p_common_divisor := F20.binds (ps := ["one", "other"]) fun _ _ _ _ _ _ us hl => match us, hl with | [_, _], _ => rfl
    F_p_ratio := F21, g_p_ratio := He.glo_ok KX G (c.fact 2 (f := .glo "ratio") rfl)
    b_p_ratio := Bn21, d_p_ratio := Bd21
    F_p_is_ratio := F22, g_p_is_ratio := He.glo_ok KX G (c.fact 3 (f := .glo "is_ratio") rfl)
    b_p_is_ratio := F22.binds (ps := ["thing"]) fun _ _ _ _ _ _ us hl => match us, hl with | [_], _ => rfl
    F_p_add := F23, g_p_add := He.glo_ok KX G (c.fact 4 (f := .glo "add") rfl)
    b_p_add := F23.binds (ps := ["one", "other"]) fun _ _ _ _ _ _ us hl => match us, hl with | [_, _], _ => rfl
    F_p_multiply := F25, g_p_multiply := He.glo_ok KX G (c.fact 5 (f := .glo "multiply") rfl)
    b_p_multiply := F25.binds (ps := ["one", "other"]) fun _ _ _ _ _ _ us hl => match us, hl with | [_, _], _ => rfl
    F_p_is_less := F27, g_p_is_less := He.glo_ok KX G (c.fact 6 (f := .glo "is_less") rfl)
    b_p_is_less := F27.binds (ps := ["one", "other"]) fun _ _ _ _ _ _ us hl => match us, hl with | [_, _], _ => rfl
    F_p_is_name := F86, g_p_is_name := He.glo_ok KX G (c.fact 7 (f := .glo "is_name") rfl)
    b_p_is_name := F86.binds (ps := ["text"]) fun _ _ _ _ _ _ us hl => match us, hl with | [_], _ => rfl
    F_p_is_term := F87, g_p_is_term := He.glo_ok KX G (c.fact 8 (f := .glo "is_term") rfl)
    b_p_is_term := F87.binds (ps := ["thing"]) fun _ _ _ _ _ _ us hl => match us, hl with | [_], _ => rfl
    F_p_are_terms := F88, g_p_are_terms := He.glo_ok KX G (c.fact 9 (f := .glo "are_terms") rfl)
    b_p_are_terms := F88.binds (ps := ["thing"]) fun _ _ _ _ _ _ us hl => match us, hl with | [_], _ => rfl
    F_p_is_tie := F89, g_p_is_tie := He.glo_ok KX G (c.fact 10 (f := .glo "is_tie") rfl)
    b_p_is_tie := F89.binds (ps := ["thing"]) fun _ _ _ _ _ _ us hl => match us, hl with | [_], _ => rfl
    F_p_names_in := F90, g_p_names_in := He.glo_ok KX G (c.fact 11 (f := .glo "names_in") rfl)
    b_p_names_in := F90.binds (ps := ["tie"]) fun _ _ _ _ _ _ us hl => match us, hl with | [_], _ => rfl
    F_p_is_kept := F92, g_p_is_kept := He.glo_ok KX G (c.fact 12 (f := .glo "is_kept") rfl)
    b_p_is_kept := F92.binds (ps := ["tie", "values"]) fun _ _ _ _ _ _ us hl => match us, hl with | [_, _], _ => rfl
    F_p_ascending := F110, g_p_ascending := He.glo_ok KX G (c.fact 13 (f := .glo "ascending") rfl)
    b_p_ascending := F110.binds (ps := ["names"]) fun _ _ _ _ _ _ us hl => match us, hl with | [_], _ => rfl
    F_p_first_wrong_name := F136, g_p_first_wrong_name := He.glo_ok KX G (c.fact 14 (f := .glo "first_wrong_name") rfl)
    b_p_first_wrong_name := F136.binds (ps := ["names"]) fun _ _ _ _ _ _ us hl => match us, hl with | [_], _ => rfl
    F_p_first_wrong_tie := F137, g_p_first_wrong_tie := He.glo_ok KX G (c.fact 15 (f := .glo "first_wrong_tie") rfl)
    b_p_first_wrong_tie := F137.binds (ps := ["ties", "names"]) fun _ _ _ _ _ _ us hl => match us, hl with | [_, _], _ => rfl
    F_p_primed := F141, g_p_primed := He.glo_ok KX G (c.fact 16 (f := .glo "primed") rfl)
    b_p_primed := F141.binds (ps := ["names"]) fun _ _ _ _ _ _ us hl => match us, hl with | [_], _ => rfl
    F_feed := F148, g_feed := He.glo_ok KX G (c.fact 17 (f := .glo "_law_feed") rfl)
    b_feed := F148.binds (ps := ["_law_script"]) fun _ _ _ _ _ _ us hl => match us, hl with | [_], _ => rfl
    F_draw := F149, g_draw := He.glo_ok KX G (c.fact 18 (f := .glo "_law_draw") rfl)
    b_draw := F149.binds (ps := ["_law_feed_here", "_law_many"]) fun _ _ _ _ _ _ us hl => match us, hl with | [_, _], _ => rfl
    F_any := F150, g_any := He.glo_ok KX G (c.fact 19 (f := .glo "_law_any") rfl)
    b_any := F150.binds (ps := ["_law_feed_here", "_law_row"]) fun _ _ _ _ _ _ us hl => match us, hl with | [_, _], _ => rfl
    F_same := F151, g_same := He.glo_ok KX G (c.fact 20 (f := .glo "_law_same") rfl)
    b_same := F151.binds (ps := ["_law_found", "_law_due"]) fun _ _ _ _ _ _ us hl => match us, hl with | [_, _], _ => rfl
    F_field := F152, g_field := He.glo_ok KX G (c.fact 21 (f := .glo "_law_field") rfl)
    b_field := F152.binds (ps := ["_law_e"]) fun _ _ _ _ _ _ us hl => match us, hl with | [_], _ => rfl
    F_why := F153, g_why := He.glo_ok KX G (c.fact 22 (f := .glo "_law_why") rfl)
    b_why := F153.binds (ps := ["_law_ask"]) fun _ _ _ _ _ _ us hl => match us, hl with | [_], _ => rfl
    F_errors := F154, g_errors := He.glo_ok KX G (c.fact 23 (f := .glo "_law_errors") rfl)
    b_errors := F154.binds (ps := ["_law_asks"]) fun _ _ _ _ _ _ us hl => match us, hl with | [_], _ => rfl
    F_gcd := F155, g_gcd := He.glo_ok KX G (c.fact 24 (f := .glo "_law_gcd") rfl)
    b_gcd := F155.binds (ps := ["_law_one", "_law_two"]) fun _ _ _ _ _ _ us hl => match us, hl with | [_, _], _ => rfl
    F_low := F156, g_low := He.glo_ok KX G (c.fact 25 (f := .glo "_law_low") rfl)
    b_low := F156.binds (ps := ["_law_upper", "_law_lower"]) fun _ _ _ _ _ _ us hl => match us, hl with | [_, _], _ => rfl
    F_plus := F157, g_plus := He.glo_ok KX G (c.fact 26 (f := .glo "_law_plus") rfl)
    b_plus := F157.binds (ps := ["_law_one", "_law_two"]) fun _ _ _ _ _ _ us hl => match us, hl with | [_, _], _ => rfl
    F_minus := F158, g_minus := He.glo_ok KX G (c.fact 27 (f := .glo "_law_minus") rfl)
    b_minus := F158.binds (ps := ["_law_one"]) fun _ _ _ _ _ _ us hl => match us, hl with | [_], _ => rfl
    F_by := F159, g_by := He.glo_ok KX G (c.fact 28 (f := .glo "_law_by") rfl)
    b_by := F159.binds (ps := ["_law_one", "_law_two"]) fun _ _ _ _ _ _ us hl => match us, hl with | [_, _], _ => rfl
    F_under := F160, g_under := He.glo_ok KX G (c.fact 29 (f := .glo "_law_under") rfl)
    b_under := F160.binds (ps := ["_law_one", "_law_two"]) fun _ _ _ _ _ _ us hl => match us, hl with | [_, _], _ => rfl
    F_rate := F161, g_rate := He.glo_ok KX G (c.fact 30 (f := .glo "_law_rate") rfl)
    b_rate := F161.binds (ps := ["_law_feed_here"]) fun _ _ _ _ _ _ us hl => match us, hl with | [_], _ => rfl
    F_words := F162, g_words := He.glo_ok KX G (c.fact 31 (f := .glo "_law_words") rfl)
    b_words := F162.binds (ps := ["_law_feed_here", "_law_many"]) fun _ _ _ _ _ _ us hl => match us, hl with | [_, _], _ => rfl
    F_strange := F163, g_strange := He.glo_ok KX G (c.fact 32 (f := .glo "_law_strange") rfl)
    b_strange := F163.binds (ps := ["_law_words_here"]) fun _ _ _ _ _ _ us hl => match us, hl with | [_], _ => rfl
    F_total := F164, g_total := He.glo_ok KX G (c.fact 33 (f := .glo "_law_total") rfl)
    b_total := F164.binds (ps := ["_law_terms", "_law_values"]) fun _ _ _ _ _ _ us hl => match us, hl with | [_, _], _ => rfl
    F_keeps := F165, g_keeps := He.glo_ok KX G (c.fact 34 (f := .glo "_law_keeps") rfl)
    b_keeps := F165.binds (ps := ["_law_tie", "_law_values"]) fun _ _ _ _ _ _ us hl => match us, hl with | [_, _], _ => rfl
    F_point := F166, g_point := He.glo_ok KX G (c.fact 35 (f := .glo "_law_point") rfl)
    b_point := F166.binds (ps := ["_law_feed_here", "_law_words_here"]) fun _ _ _ _ _ _ us hl => match us, hl with | [_, _], _ => rfl
    F_value_ties := F167, g_value_ties := He.glo_ok KX G (c.fact 36 (f := .glo "_law_value_ties") rfl)
    b_value_ties := F167.binds (ps := ["_law_terms", "_law_value"]) fun _ _ _ _ _ _ us hl => match us, hl with | [_, _], _ => rfl
    F_step_ties := F168, g_step_ties := He.glo_ok KX G (c.fact 37 (f := .glo "_law_step_ties") rfl)
    b_step_ties := F168.binds (ps := ["_law_feed_here", "_law_words_here", "_law_many"]) fun _ _ _ _ _ _ us hl => match us, hl with | [_, _, _], _ => rfl
    F_values_of := F169, g_values_of := He.glo_ok KX G (c.fact 38 (f := .glo "_law_values_of") rfl)
    b_values_of := F169.binds (ps := ["_law_before", "_law_after"]) fun _ _ _ _ _ _ us hl => match us, hl with | [_, _], _ => rfl
    F_stay_ties := F170, g_stay_ties := He.glo_ok KX G (c.fact 39 (f := .glo "_law_stay_ties") rfl)
    b_stay_ties := F170.binds (ps := ["_law_words_here"]) fun _ _ _ _ _ _ us hl => match us, hl with | [_], _ => rfl
    F_p_law := F171, g_p_law := He.glo_ok KX G (c.fact 40 (f := .glo "law") rfl)
    b_p_law := F171.binds (ps := ["_law_script"]) fun _ _ _ _ _ _ us hl => match us, hl with | [_], _ => rfl
    eInvalidRatio := E3, IInvalidRatio := F1003
    bIInvalidRatio := F1003.binds (ps := ["self", "given"]) fun _ _ _ _ _ _ us hl => match us, hl with | [_, _], _ => rfl
    nInvalidRatio_given := He.noat_ok (c.fact 43 (f := .noat "InvalidRatio" "given") rfl)
    eInvalidName := E4, IInvalidName := F1004
    bIInvalidName := F1004.binds (ps := ["self", "name"]) fun _ _ _ _ _ _ us hl => match us, hl with | [_, _], _ => rfl
    nInvalidName_name := He.noat_ok (c.fact 44 (f := .noat "InvalidName" "name") rfl)
    eInvalidTie := E5, IInvalidTie := F1005
    bIInvalidTie := F1005.binds (ps := ["self", "at"]) fun _ _ _ _ _ _ us hl => match us, hl with | [_, _], _ => rfl
    nInvalidTie_at := He.noat_ok (c.fact 45 (f := .noat "InvalidTie" "at") rfl)
    gTieError := He.glo_ok KX G (c.fact 41 (f := .glo "TieError") rfl), gMissing := He.glo_ok KX G (c.fact 42 (f := .glo "Missing") rfl)
    m_int := He.free_ok KX G (c.fact 49 (f := .free "int") rfl)
    m_len := He.free_ok KX G (c.fact 50 (f := .free "len") rfl)
    m_abs := He.free_ok KX G (c.fact 51 (f := .free "abs") rfl)
    m_range := He.free_ok KX G (c.fact 52 (f := .free "range") rfl)
    m_zip := He.free_ok KX G (c.fact 53 (f := .free "zip") rfl)
    m_all := He.free_ok KX G (c.fact 54 (f := .free "all") rfl)
    m_isinstance := He.free_ok KX G (c.fact 55 (f := .free "isinstance") rfl)
    m_bool := He.free_ok KX G (c.fact 56 (f := .free "bool") rfl)
    m_str := He.free_ok KX G (c.fact 57 (f := .free "str") rfl)
    m_tuple := He.free_ok KX G (c.fact 58 (f := .free "tuple") rfl)
    m_list := He.free_ok KX G (c.fact 59 (f := .free "list") rfl)
    m_dict := He.free_ok KX G (c.fact 60 (f := .free "dict") rfl)
    m_sorted := He.free_ok KX G (c.fact 61 (f := .free "sorted") rfl)
    m_set := He.free_ok KX G (c.fact 62 (f := .free "set") rfl)
    m_enumerate := He.free_ok KX G (c.fact 63 (f := .free "enumerate") rfl)
    c_LONG := intC KX G (c.fact 46 rfl)
    c_ZERO := refC KX G (c.fact 47 (f := .glo "ZERO") rfl)
    c_MOST_LETTERS := intC KX G (c.fact 48 rfl)
    z_ZERO := fun H => tupY_ok (c.own 3 (b := fun K => tupY K (He.ga K "ZERO") [V.int 0, V.int 1]) rfl) H
    F_LotInit := F1500, b_LotInit := Bn1500, b_LotInit1 := Bd1500, kb_LotInit := KB1500
    z_LotInit := fun H => tupY_ok (c.own 5 (b := fun K => tupY K (He.dflAt ("Lot", some "__init__") 0 K) []) rfl) H
    mk_Lot := mkB_ok (c.own 4 (b := mkB (fun K => He.ga K "Lot") (fun K => He.ma K (He.ga K "Lot") "__init__")) rfl), g_Lot := He.glo_ok KX G (c.fact 64 (f := .glo "Lot") rfl)
    cl_Lot := He.cls_ok (c.fact 65 (f := .cls "Lot") rfl), na_Lot_unknowns := He.noat_ok (c.fact 66 (f := .noat "Lot" "unknowns") rfl), na_Lot_bonds := He.noat_ok (c.fact 67 (f := .noat "Lot" "bonds") rfl)
    F_LotNames := F1510, me_LotNames := He.meth_ok (c.fact 68 (f := .meth "Lot" "names") rfl)
    b_LotNames := F1510.binds (ps := ["self"]) fun _ _ _ _ _ _ us hl => match us, hl with | [_], _ => rfl
    F_LotTies := F1511, me_LotTies := He.meth_ok (c.fact 69 (f := .meth "Lot" "ties") rfl)
    b_LotTies := F1511.binds (ps := ["self"]) fun _ _ _ _ _ _ us hl => match us, hl with | [_], _ => rfl
    F_LotHolds := F1513, me_LotHolds := He.meth_ok (c.fact 70 (f := .meth "Lot" "holds") rfl)
    b_LotHolds := F1513.binds (ps := ["self", "values"]) fun _ _ _ _ _ _ us hl => match us, hl with | [_, _], _ => rfl
    F_StepInit := F1600, b_StepInit := Bn1600, b_StepInit1 := Bd1600, kb_StepInit := KB1600
    z_StepInit := fun H => tupY_ok (c.own 8 (b := fun K => tupY K (He.dflAt ("Step", some "__init__") 0 K) []) rfl) H
    F_StepStay := F1601, b_StepStay := F1601.binds (ps := ["names"]) fun _ _ _ _ _ _ us hl => match us, hl with | [_], _ => rfl
    sm_Step := smB_ok (c.own 6 (b := smB "Step" "stay") rfl)
    mk_Step := mkB_ok (c.own 7 (b := mkB (fun K => He.ga K "Step") (fun K => He.ma K (He.ga K "Step") "__init__")) rfl), g_Step := He.glo_ok KX G (c.fact 71 (f := .glo "Step") rfl)
    cl_Step := He.cls_ok (c.fact 72 (f := .cls "Step") rfl), na_Step_unknowns := He.noat_ok (c.fact 73 (f := .noat "Step" "unknowns") rfl), na_Step_bonds := He.noat_ok (c.fact 74 (f := .noat "Step" "bonds") rfl)
    F_StepNames := F1610, me_StepNames := He.meth_ok (c.fact 75 (f := .meth "Step" "names") rfl)
    b_StepNames := F1610.binds (ps := ["self"]) fun _ _ _ _ _ _ us hl => match us, hl with | [_], _ => rfl
    F_StepTies := F1611, me_StepTies := He.meth_ok (c.fact 76 (f := .meth "Step" "ties") rfl)
    b_StepTies := F1611.binds (ps := ["self"]) fun _ _ _ _ _ _ us hl => match us, hl with | [_], _ => rfl
    F_StepAll := F1612, me_StepAll := He.meth_ok (c.fact 77 (f := .meth "Step" "everyone") rfl)
    b_StepAll := F1612.binds (ps := ["self"]) fun _ _ _ _ _ _ us hl => match us, hl with | [_], _ => rfl
    F_StepLot := F1613, me_StepLot := He.meth_ok (c.fact 78 (f := .meth "Step" "lot") rfl)
    b_StepLot := F1613.binds (ps := ["self"]) fun _ _ _ _ _ _ us hl => match us, hl with | [_], _ => rfl
    F_StepAllows := F1614, me_StepAllows := He.meth_ok (c.fact 79 (f := .meth "Step" "allows") rfl)
    b_StepAllows := F1614.binds (ps := ["self", "before", "after"]) fun _ _ _ _ _ _ us hl => match us, hl with | [_, _, _], _ => rfl
    F_StepEq := F1615, me_StepEq := He.meth_ok (c.fact 80 (f := .meth "Step" "__eq__") rfl)
    b_StepEq := F1615.binds (ps := ["self", "other"]) fun _ _ _ _ _ _ us hl => match us, hl with | [_, _], _ => rfl
    F_StepLen := F1616, me_StepLen := He.meth_ok (c.fact 81 (f := .meth "Step" "__len__") rfl)
    b_StepLen := F1616.binds (ps := ["self"]) fun _ _ _ _ _ _ us hl => match us, hl with | [_], _ => rfl
    F_StepRepr := F1617, me_StepRepr := He.meth_ok (c.fact 82 (f := .meth "Step" "__repr__") rfl)
    b_StepRepr := F1617.binds (ps := ["self"]) fun _ _ _ _ _ _ us hl => match us, hl with | [_], _ => rfl
    most_Step := clsiB_ok (c.own 10 (b := clsiB "Step" "MOST" 3) rfl)
  }
  have hi := insB_ok (T.cl_Step : Cls K (He.ga K "Step")) (c.own 9 (b := insB "Step") rfl)
  refine ⟨_, [He.cT K lawD], spLaw K (He.cT K lawD).2, fun p hp => by rw [List.mem_singleton.mp hp]; exact c.tab, fun p hp => by rw [List.mem_singleton.mp hp]; exact c.out, fun p hp => by rw [List.mem_singleton.mp hp]; exact PySem.W.codeHd_of_K KX c.hd, fun s u => D171.bindsA (ps := ["_law_script"]) (fun _ _ _ _ _ _ us hl => match us, hl with | [_], _ => rfl) s [u] rfl, fun H a ns hl _ hT hS => ⟨a, ns, rfl, hS, hl, fun p hp => by rw [List.mem_singleton.mp hp]; exact LamX.TabS.nil (hT _ List.mem_cons_self), fun _ => rfl⟩, fun base _ _ TB => ok_p_law T ⟨He.free_ok KX G (c.fact 83 (f := .free "repr") rfl), hi.1, hi.2, He.eqO_ok (c.own 11 (b := neB "Step") rfl)⟩ FC (TB _ List.mem_cons_self)⟩
end T8
open PySem PySem.W PySem.Calls PyProof.Rows
set_option maxHeartbeats 0 in
theorem PySem.Challenge.cw_tiespan_k34_steps_return_what_they_are_m_holds : PySem.Challenge.rw_tiespan_k34_steps_return_what_they_are_m.Holds := by
  w_on; o_law
  refine HandSHeadRun.head_any (r := T8.hR) (q := T8.hQ) (H := T8.hk) (ob := T8.hob) (M := 12000) (loose := T8.hN) (d := HandSHeadRun.topDef T8.hR.prog 171) (kwd := []) T8.hob_eq
    (by kernel_rfl) (fun s => by kernel_rfl) T8.hrun (by kernel_rfl) (by kernel_rfl) (by kernel_rfl) (by rfl) (by first | assumption | decide +kernel) (by decide +kernel) ⟨rfl, rfl, rfl, rfl, rfl, by decide +kernel⟩ ?hw ?hc
  case hw => w_witness2
  case hc =>
    refine LamX.walk_ofTsE (l := PySem.Challenge.rw_tiespan_k34_steps_return_what_they_are_m) (n := 63) (k := 17) (x := "_law_script") (CX := fun _ => L2.CX0) rfl (by decide) (by kernel_rfl) ⟨rfl, by decide, by decide⟩ ?F (fun _ _ _ _ _ z => z)
    intro w mg fa h Y G hmg0
    obtain ⟨K, c⟩ := Y
    have hmg : mg ("law" : PySem.Str) = some (.ref fa) := by
      have e : (HandSHeadRun.topDef T8.hR.prog 171).name = ("law" : PySem.Str) := by kernel_rfl
      rw [← e]
      exact hmg0
    exact ⟨K, c.kin, T8.all_hk (w := w) c G hmg⟩

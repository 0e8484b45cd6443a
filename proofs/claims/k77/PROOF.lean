import PyProof.Rows.All
import Wide.All
import OpenK.AllK
import Wide.FinOn
import HandS.Base
import HandS.Call
import HandS.List
import HandS.Comp
import HandS.Ends
import HandS.Words
import HandS.WordsList
import HandS.Codes
import HandS.Wide
import HandS.Iter
import HandS.Zip
import HandS.Star
import HandS.More
import HandS.IsInst
import HandS.Conv
import HandS.NoneIn
import HandS.WideBits
import HandS.WordsExc
import HandS.Exc
import HandS.TryMany
import HandS.HotCalls
import HandS.ExcInit
import HandS.ExcField
import HandS.Lambda
import HandS.EndTab
import HandS.Defaults
import KE.KNest
import HandS.Text
import HandS.StrMore
import KE.IntTextText
import HandS.Style
import PyProof.ListStr
import PyProof.StrBlock2
import HandS.SetTxt0
import HandS.Set
import HandS.Strs
import HandS.Dict
import HandS.DictComp
import HandS.RaiseMore
import HandS.Deep
import HandS.TupMul
import HandS.Finally
import KE.KDictPairs
import HandS.Replace
import KE.KDflt
import HandS.ExcValue
import HandS.ExcIs
import HandS.ClsMeth
import HandS.MakeKw
import HandS.MakeKwOnly
import HandS.Property
import KE.GoesEnum
import HandS.OwnEq
import HandS.FStr
import HandS.ExcBuiltin
import HandS.MethStar
import HandS.WrittenGet
import KE.KExcInit
import HandS.WordsDict
import KE.KStateDown
import KE.KNest
import KE.KNestM
import HandS.Head0
import HandS.Head1
import HandS.Head2
import HandS.HeadHook1
import HandS.HeadHook2
import HandS.HeadHook3
import HandS.HeadHook4
import HandS.HeadWalk
import KE.HeadEqs
import Open.FastRun
import PySem.Challenge.RW_tiespan_k77_values_of_other_kinds
set_option Elab.async false
set_option linter.all false
set_option maxRecDepth 100000
set_option maxHeartbeats 4000000
namespace EK
open PySem PySem.Spec PyProof.Rows L2
/-! ### try: body, except (c1, c2) as n: suite, and what stands behind it is not reached -/
theorem flyingZ_push {B h : Heap} {l : List Env} {e : Addr} {Z : Obj → Prop} (x : PySem.HandSPX.FlyingZ B l e Z h) (o : Obj) : PySem.HandSPX.FlyingZ B l e Z (h.push o) := by
  obtain ⟨h1, h2, h3, oe, vs, tb, ot, ts, a1, a2, a3, a4, a5, a6, a7, a8, a9⟩ := x
  exact ⟨fun b u q => Heap.get?_push_of_some _ (h1 b u q), h2, h3.of_keeps fun b u q _ => ⟨u, Heap.get?_push_of_some _ q, rfl⟩, oe, vs, tb, ot, ts, Heap.get?_push_of_some _ a1, a2, a3, a4, a5, a6, Heap.get?_push_of_some _ a7, a8, a9⟩
/-- the wish: the clause takes it -/
def wTup (K : PySem.W.Frag) (c1 c2 : Value) (i : Nat) (ts : Addr → Value → Option Addr → TS) (D : Ends) : WX := fun cls d σ H =>
  PySem.W.exmAny K cls [c1, c2] = some true ∧ ∀ a, H a = none → ts a cls d { nx := fun σ' H' => D.nx (σ'.set i none) H', rt := D.rt, bk := fun σ' H' => D.bk (σ'.set i none) H', ct := fun σ' H' => D.ct (σ'.set i none) H' } (σ.set i (some (.ref a))) H
theorem ps_try_tup {X : Cx} {x1 x2 n : Str} {c1 c2 : Value} {i kk : Nat} {body suite : List Stmt} {b₀ : Stmt} {np1 np2 tpos pos pos' : Pos} {tb : WX → TS} {ts : Addr → Value → Option Addr → TS} {hds : List ExceptHandler}
    (hs : X.stack = X.env :: X.outer) (hf : X.env.frame = some X.env.locals) (hN : X.N.Nodup) (hi : X.N[i]? = some n) (hln : X.env.kindOf n = some .local) (h1 : Gl X x1) (m1 : X.mg x1 = some c1) (h2 : Gl X x2) (m2 : X.mg x2 = some c2)
    (hb : ∀ (W : WX) (pn : List (Addr × Obj)) (xe : Value → Shared → Prop), Takes (X.tr pn xe) W → PassesOwn (model X.prog X.w) X.A X.env xe → PSs (X.tr pn xe) body (tb W))
    (hsu : ∀ (a : Addr) (oe : Obj) (cls : Value) (d : Option Addr) (pn : List (Addr × Obj)), Zc cls d oe → (∃ vs, oe.data = .fields vs) → PSs (X.suite a ((a, oe) :: pn)) (b₀ :: suite) (ts a cls d))
    (d1 : (x1 == ("__debug__" : Str)) = false := by decide) (d2 : (x2 == ("__debug__" : Str)) = false := by decide) :
    PS X (.Try body (.ExceptHandler (some (.Tuple [.Name x1 np1, .Name x2 np2] kk tpos)) (some n) (b₀ :: suite) pos' :: hds) [] [] pos) (fun D σ H => tb (wTup X.K c1 c2 i ts D) D σ H) := by
  refine ⟨fun pins s σ H D I h => ?_⟩
  have ok := I.ok
  have hfr : X.A.frames = some (X.env :: X.outer) := by rw [ok.frames, hs]
  have hloc : Loc X.env.scope n := .inl hln
  refine wpAny_Try_except (wpAny_mono ((hb (wTup X.K c1 c2 i ts D) (X.pn ++ pins) (fun e s₁ => wpAny (model X.prog X.w) X.A (noteFrame e X.env) (fun _ s₂ => wpAny (model X.prog X.w) X.A (setFlight e none) (fun _ s₃ =>
    wpAny (model X.prog X.w) X.A (handleBy e X.env (.ExceptHandler (some (.Tuple [.Name x1 np1, .Name x2 np2] kk tpos)) (some n) (b₀ :: suite) pos' :: hds)) (SP X pins D) X.xe s₃) X.xe s₂) X.xe s₁) (fun u s' xx => ?_) PassesOwn.looking).run [] s σ H D (I.toTry _) h) (fun f s1 hsp => ?_) (fun e s1 he => he))
  · obtain ⟨a, B, sI, pins', σ', H', cls, d, rfl, J', nb, up, sky, na, os, ag, hb1, hyes⟩ := xx
    have J : Inv X pins σ' H' sI := J'.ofTry ok
    have sky' : Sky B (X.env :: X.outer) a (Zc cls d) X.env.locals s'.heap := by rw [← hs]; exact sky
    show wpAny (model X.prog X.w) X.A (noteFrame (.ref a) X.env) _ _ _
    refine Sky.land Zc.steady hfr hf sky' fun h3 fl3 up3 => ?_
    have J3 : Inv X pins σ' H' { s' with heap := h3 } := J.landed nb fl3.1 (up.trans up3) os ag
    obtain ⟨oe3, vs3, he3, hz3, hd3⟩ := fl3.there
    have nfr : a ∉ frs (X.env :: X.outer) := fun hm => by
      obtain ⟨_, o', e', hnf⟩ := fl3.2.2.1.mem hm
      rw [he3] at e'
      cases e'
      exact hnf _ hd3
    have nL : a ≠ X.env.locals := fun z => nfr (List.mem_filterMap.mpr ⟨X.env, List.mem_cons_self, by rw [hf, z]⟩)
    have nF : a ∉ X.fs := fun hm => by
      obtain ⟨e, he, q⟩ := List.mem_filterMap.mp hm
      exact nfr (List.mem_filterMap.mpr ⟨e, List.mem_cons_of_mem _ he, q⟩)
    have S3 := J3.suite he3 hd3 na nL nF
    refine wpAny_handleBy_cons (codeAny_handlers_test ?_) (by intro q; cases q)
    refine wpAny_Tuple ?_
    refine wpAny_items_cons (ld_glob (X := X.suite a ((a, oe3) :: (X.pn ++ pins))) S3 h1 m1 ?_ d1)
    refine wpAny_items_cons (ld_glob (X := X.suite a ((a, oe3) :: (X.pn ++ pins))) S3 h2 m2 ?_ d2)
    refine wpAny_items_nil ⟨Nat.le_trans (by decide : 2 ≤ 1000) (Nat.le_of_lt (small1000 (Nat.le_refl _))), ?_⟩
    have kp : ∀ q o, h3.get? q = some o → (h3.push { cls := .type "tuple", data := .seq [c1, c2].toArray }).get? q = some o := fun _ _ z => Heap.get?_push_of_some _ z
    have LT : PySem.W.Looks (model X.prog X.w) (h3.push { cls := .type "tuple", data := .seq [c1, c2].toArray }) (typeOf (.ref a)) cls := fun A Q E s k q => wpAny_typeOf_ref (k _ _ (kp _ _ he3)) (by rw [hz3.1]; exact q)
    refine (PySem.W.exm_tup2 (M := model X.prog X.w) (J3.kIn.keeps kp) LT (Heap.get?_push_size h3 rfl) hb1).here ?_
    have up3p := (up.trans up3).trans (Heap.UpToSlots.of_keeps kp)
    have fl3p := flyingZ_push fl3 { cls := .type "tuple", data := .seq [c1, c2].toArray }
    generalize h3.push { cls := .type "tuple", data := .seq [c1, c2].toArray } = g3 at up3p fl3p
    refine codeAny_handlers_suite_as ?_
    refine PySem.HandSPX.lands_againZ fl3p fun h4 fl4 up4 => ?_
    have J4 : Inv X pins σ' H' { s' with heap := h4 } := J.landed nb fl4.1 (up3p.trans up4) os ag
    obtain ⟨oe4, vs4, he4, hz4, hd4⟩ := fl4.there
    have S4 := J4.suite he4 hd4 na nL nF
    refine store_ok (X := X.suite a ((a, oe4) :: (X.pn ++ pins))) (v := .ref a) S4 hN hi hloc rfl (fun s5 S5 => ?_) (.inr hln)
    refine wpAny_mono ((hsu a oe4 cls d (X.pn ++ pins) hz4 ⟨_, hd4⟩).run [] s5 _ H' _ S5 (hyes a na)) (fun f s6 hsp => ?_) (fun _ _ z => False.elim z)
    have end_ : ∀ {σ6 : L2.St} {H6 : Hp} {Q : Shared → Prop}, Inv (X.suite a ((a, oe4) :: (X.pn ++ pins))) [] σ6 H6 s6 → (∀ s7, Inv X pins (σ6.set i none) H6 s7 → Q s7) →
        wpAny (model X.prog X.w) X.A (do bindName X.env n .none; unbindBehindTheSuite X.env n pos') (fun _ s7 => Q s7) X.xe s6 := fun {σ6 H6 Q} S6 hq => gone_ok (S6.unsuite ok) hN hi hln hq
    cases f with
    | next =>
      obtain ⟨σ6, H6, S6, q6⟩ := hsp
      exact end_ S6 fun s7 J7 => ⟨_, _, J7, q6⟩
    | brk =>
      obtain ⟨σ6, H6, S6, q6⟩ := hsp
      exact end_ S6 fun s7 J7 => ⟨_, _, J7, q6⟩
    | cont =>
      obtain ⟨σ6, H6, S6, q6⟩ := hsp
      exact end_ S6 fun s7 J7 => ⟨_, _, J7, q6⟩
    | ret u =>
      obtain ⟨v6, σ6, H6, S6, r6, q6⟩ := hsp
      exact end_ S6 fun s7 J7 => ⟨_, _, _, J7, r6, q6⟩
  · cases f with
    | next =>
      obtain ⟨σ', H', J', q⟩ := hsp
      exact wpAny_execs_nil ⟨σ', H', J'.ofTry ok, q⟩
    | brk =>
      obtain ⟨σ', H', J', q⟩ := hsp
      exact ⟨σ', H', J'.ofTry ok, q⟩
    | cont =>
      obtain ⟨σ', H', J', q⟩ := hsp
      exact ⟨σ', H', J'.ofTry ok, q⟩
    | ret u =>
      obtain ⟨v, σ', H', J', r, q⟩ := hsp
      exact ⟨v, σ', H', J'.ofTry ok, r, q⟩
/-! ### defs that are called where an exception is handled, and read it; nothing is raised there -/
structure FnP (P : Program) (w : World) (K : PySem.W.Frag) (mg : Str → Option Value) (base : Heap) (k : Nat) (f : Addr) (fd : FuncData) (ps : List Str) (sp : Addr × Obj → Sp) : Prop where
  len : ∀ p vs H Q E, sp p vs H Q E → vs.length = ps.length
  run : ∀ (A : Around) (outer : List Env) (s : Shared) (H : Hp) (args : Args) (us : List Value) (vs : List V) (Q : VK) (p : Addr × Obj), L2H.RoomH k A → L2H.PinOk outer H s p → Env0 P w K mg base A outer s H → BindsTo s fd args (ps.zip us) → Vals vs us → sp p vs H Q E0 →
    codeAny (model P w) A (.call (.ref f) args) (CR CX0 outer P w H s Q E0) s
theorem fn_ofP {P : Program} {w : World} {K : PySem.W.Frag} {mg : Str → Option Value} {base : Heap} {k : Nat} {x : Str} {st : Stmt} {f : Addr} {fd : FuncData} {N ps : List Str} {sp : Addr × Obj → Sp} (F : Fun K x x st f fd) (S : FnScope N ps (defScope st))
    (len : ∀ p vs H Q E, sp p vs H Q E → vs.length = ps.length)
    (hbody : ∀ (cdv : Value) (A : Around) (outer : List Env) (s : Shared) (H : Hp) (vs : List V) (Q : VK) (p : Addr × Obj), L2H.RoomH k (A.deeper (envOfC x (defScope st) s.heap.objs.size f cdv)) → sp p vs H Q E0 →
      ∃ t, PSs (L2H.cxH CX0 P w K mg base N x (defScope st) f cdv A outer s H E0 p) (defBody st) t ∧ t { nx := fun _ H' => Q .non H', rt := Q } (L2.start N vs) H) : FnP P w K mg base (k + 1) f fd ps sp := by
  obtain ⟨oc, od, kV, doc, pm, an, cdv, ct, osl, rfl, lk, hcd⟩ := F.ex
  refine ⟨len, fun A outer s H args us vs Q p hr hpin e0 hb r hsp => ?_⟩
  have hl := len _ _ _ _ _ hsp
  have KX : K.In s.heap := e0.mod.kin.keeps fun b o e => (e0.bs b o e).1
  have lim : s.heap.NoLimit := e0.mod.nolimit.keeps fun b o e => (e0.bs b o e).1
  refine codeAny_call_function hr.depth (KX _ _ lk) rfl S.co S.gen rfl (PySem.W.codeRec_of KX hcd) (hb _ _ _ _ ?_)
  refine wpAny_newFunctionEnv_cells S.kind (fun ⟨n, v⟩ hy => ?_) fun env he s1 xc => ?_
  · rcases S.par n (List.of_mem_zip hy).1 with q | q
    · exact .inl q
    · exact .inr ⟨q, PySem.W.cellsFrom_some _ _ _ (.inl q)⟩
  · subst he
    refine ⟨lim.keeps xc.toInCall.keep, codeAny_func ?_⟩
    obtain ⟨t, ht, hq⟩ := hbody cdv A outer s H vs Q p (hr.deeper _) hsp
    refine wpAny_mono (ht.run [] s1 (L2.start N vs) H _ (L2H.inv_startH S hpin e0 hl r xc) hq) (fun fl s' hs => ?_) fun e s' hs => hs
    cases fl with
    | ret u =>
      obtain ⟨v, σ', H', J, rv, q⟩ := hs
      exact ⟨v, H', J.os, J.bare, J.base, J.hok, rv, q⟩
    | next =>
      obtain ⟨σ', H', J, q⟩ := hs
      exact ⟨.non, H', J.os, J.bare, J.base, J.hok, rfl, q⟩
    | brk =>
      obtain ⟨_, _, _, q⟩ := hs
      exact False.elim q
    | cont =>
      obtain ⟨_, _, _, q⟩ := hs
      exact False.elim q
theorem pe_callP {X : Cx} {k : Nat} {f : Addr} {fd : FuncData} {ps : List Str} {sp : Addr × Obj → Sp} {x : Str} {q pos : Pos} {e : Expr} {es : List Expr} {t : TA} {p : Addr × Obj} (F : FnP X.prog X.w X.K X.mg X.base k f fd ps sp) (hr : L2H.RoomH k X.A) (hp : p ∈ X.pn) (hg : Gl X x) (hm : X.mg x = some (.ref f))
    (hk : PySem.W.keepIn X.K (.ref f) = true) (hb : Binds X.K fd ps []) (ha : PA X (e :: es) t) (hdb : (x == ("__debug__" : Str)) = false := by decide) (he : starEach (e :: es) X.env = (false, eval e X.env) :: starEach es X.env := by rfl) (hpl : (backTo pos (starEach es X.env)).any (·.1) = false := by rfl) :
    PE X (.Call (.Name x q) (e :: es) [] pos) (fun σ H Q => t σ H fun vs H1 => sp p vs H1 Q E0) := by
  refine ⟨fun pins s σ H Q I h => wpAny_Call_Name_kw (ld_glob I hg hm (PySem.W.callWith_K (h₀ := X.base) I.ok.mod.kin hk (thn (ha.run pos pins s σ H _ I h) fun us s1 ⟨vs, H1, I1, r, q1⟩ => ⟨I1.kIn, ?_⟩) he hpl) hdb)⟩
  have hl : us.length = ps.length := by rw [← r.length]; exact F.len _ _ _ _ _ q1
  have b := hb s1 us I1.kIn (by rw [List.append_nil]; exact hl)
  rw [List.append_nil] at b
  have P1 := I1.pin p (List.mem_append_left _ hp)
  have hpin : L2H.PinOk X.stack H1 s1 p := ⟨P1.1, P1.2.1, fun hm => (List.mem_cons.mp (I1.stkSub p.1 hm)).elim P1.2.2.1 P1.2.2.2.1, P1.2.2.2.2⟩
  refine wpAny_call (codeAny_mono (F.run X.A X.stack s1 H1 ⟨us, []⟩ us vs Q p hr hpin I1.env0 b r q1) fun r s' hq => ?_)
  cases r with
  | error e => exact (show False from hq).elim
  | ok fl =>
    cases fl with
    | ret u => exact I1.after hq
    | next => exact False.elim hq
    | brk => exact False.elim hq
    | cont => exact False.elim hq
/-- what is told of the exception at p: its class, its own dict, the fields -/
structure Xat (K : PySem.W.Frag) (p : Addr × Obj) (C dd : Addr) : Prop where
  z : Zc (.ref C) (some dd) p.2
  fl : ∃ vs, p.2.data = .fields vs
  xf : XfC K C
def tXp (K : PySem.W.Frag) (p : Addr × Obj) (n : Str) (te : TE) : TE := fun σ H Q => te σ H fun x H1 => x = .ref p.1 ∧ ∃ (C dd : Addr) (fs : List (Str × V)) (v : V), Xat K p C dd ∧ PySem.W.findIn K (.ref C) n = some none ∧ H1 dd = some (.xd fs) ∧ fs.lookup n = some v ∧ Q v H1
theorem pe_xp {X : Cx} {p : Addr × Obj} {e : Expr} {te : TE} {pos : Pos} {n : Str} (hp : p ∈ X.pn) (he : PE X e te) (hb : attributeBase e n X.env (eval e X.env) = eval e X.env := by rfl) : PE X (.Attribute e n pos) (tXp X.K p n te) := by
  refine ⟨fun pins s σ H Q I h => attr_of hb (thn (he.run pins s σ H _ I h) fun u s1 hh => ?_)⟩
  obtain ⟨x, H1, I1, rx, ex, C, dd, fs, v, T, hno, ea, l, q⟩ := hh
  subst ex
  obtain rfl : u = Value.ref p.1 := rx
  obtain ⟨ha, _⟩ := I1.pin p (List.mem_append_left _ hp)
  obtain ⟨vs, hd⟩ := T.fl
  have hx : ObjOk X.prog X.w H1 s1.heap dd (.xd fs) := I1.hok dd _ ea
  obtain ⟨mA, hns, hr⟩ := hx
  obtain ⟨od, ho, hl⟩ := lookIn_ns hns
  obtain ⟨u, hu, ru⟩ := RelO.some_of (v := v) (o := mA n) (by rw [← l]; exact hr n)
  have J : PySem.W.InstAt s1.heap p.1 p.2 C (some od) := ⟨ha, T.z.1, by unfold PySem.W.notCls; rw [hd] <;> rfl, by rw [T.z.2]; exact ho⟩
  exact PySem.HandSPX.exc_get I1.kIn J T.xf.ga T.xf.gg T.xf.exC (PySem.W.findObj_own T.xf.hdC hno rfl (by rw [hl, hu])) (handed_of ru) ⟨v, H1, I1.tok _, ru, q⟩
/-! ### own errors: what K tells of a class, making one, what why tells of it -/
structure ErrC (K : PySem.W.Frag) (mg : Str → Option Value) (x : Str) (C Tie Miss fI : Addr) : Prop where
  oex : OexC K C
  xf : XfC K C
  gC : mg x = some (.ref C)
  tag : PySem.W.findIn K (.ref C) "tag" = some none
  any : PySem.W.exmAny K (.ref C) [.ref Tie, .ref Miss] = some true
  iC : PySem.W.findIn K (.ref C) "__init__" = some (some (.ref fI))
  tI : PySem.W.typeIn K (.ref fI) = some (.type "function")
/-- __init__(self, v): self.n = v; self.tag = x -/
def spInit1 (K : PySem.W.Frag) (n x : Str) : Sp := fun vs H Q _ => ∃ (a C : Addr) (v : V), vs = [.ref a, v] ∧ OexC K C ∧ PySem.W.findIn K (.ref C) n = some none ∧ PySem.W.findIn K (.ref C) "tag" = some none ∧ H a = some (exo a C none) ∧
  ∀ dx, H dx = none → dx ≠ a → Q .non (upd (upd (upd H dx (exd dx [(n, v)])) a (exo a C (some dx))) dx (exd dx [("tag", .str x), (n, v)]))
def spInit0 (K : PySem.W.Frag) (x : Str) : Sp := fun vs H Q _ => ∃ (a C : Addr), vs = [.ref a] ∧ OexC K C ∧ PySem.W.findIn K (.ref C) "tag" = some none ∧ H a = some (exo a C none) ∧
  ∀ dx, H dx = none → dx ≠ a → Q .non (upd (upd H dx (exd dx [("tag", .str x)])) a (exo a C (some dx)))
theorem Same.del {H H2 : Hp} {a d : Addr} {o : HO} (na : H a = none) (nd : H d = none) (h : ∀ b u, b ≠ a → H b = some u → H2 b = some u) : Same H (upd (del H2 a) d o) := fun b u e => by
  rw [upd_ne (ne_of_none e nd), del_ne (ne_of_none e na)]
  exact h b u (ne_of_none e na) e
/-! ### a def whose code object is known -/
structure FunC (K : PySem.W.Frag) (x : Str) (st : Stmt) (f : Addr) (fd : FuncData) (c : Addr) : Prop where
  ex : ∃ (oc : Value) (od : Option Addr) (kV doc pm : Value) (an : Option Addr) (ct : Value) (osl : Array (Option Value)),
    fd = PySem.W.fnOf x x (defArgs st) (defBody st) (defScope st) .none kV doc pm an (.ref c) ct ∧ K.lookup f = some ⟨oc, od, .func fd, osl⟩ ∧ PySem.W.codeIn K (.ref c) x = true
theorem FunC.ok {P : Program} {w : World} {K : PySem.W.Frag} {mg : Str → Option Value} {base : Heap} {x : Str} {st : Stmt} {f c : Addr} {fd : FuncData} {N ps : List Str} {k : Nat} {sp : Sp} (F : FunC K x st f fd c) (S : FnScope N ps (defScope st)) (len : ∀ vs H Q E, sp vs H Q E → vs.length = ps.length)
    (hbody : ∀ (A : Around) (outer : List Env) (s : Shared) (H : Hp) (vs : List V) (Q : VK) (E : XK), Room k (A.deeper (envOfC x (defScope st) s.heap.objs.size f (.ref c))) → sp vs H Q E →
      ∃ t, PSs (cxOf CX0 P w K mg base N x (defScope st) f (.ref c) A outer s H E).nox (defBody st) t ∧ t { nx := fun _ H' => Q .non H', rt := Q } (L2.start N vs) H) : FnOk P w K mg base CX0 (k + 1) f fd ps sp := by
  obtain ⟨oc, od, kV, doc, pm, an, ct, osl, rfl, lk, hcd⟩ := F.ex
  refine fn_of lk hcd S len fun A outer s H vs Q E hr hsp => ?_
  obtain ⟨t, h, q⟩ := hbody A outer s H vs Q E hr hsp
  exact ⟨t, h.nox, q⟩
theorem ExtN.same {H H' : Hp} (s : Same H H') : LamX.ExtN H H' := fun b o e _ => s b o e
/-! ### the end with tables -/
theorem walk_T {l : PySem.W.OpenLaw} {n k : Nat} {q : Program} {loose : List Str} {XP : (Str → Option Value) → Heap → Prop} {YP : World → Heap → Prop} {d : DefRec} {K : Params → PySem.W.Frag} {CX : World → CXT} {x : Str}
    (hn : l.most = some n) (hn2 : n ≤ sizeLine) (hdf : d.params.defaults = []) (hr : Room k callerA) (hY : ∀ (w : World) (h : Heap), YP w h → (K w.params).In h)
    (F : ∀ (w : World) (lo : List Str) (mean : ExcName → Option Value) (mg mb : Str → Option Value) (fa : Addr) (h : Heap), Top q lo mean mg mb h → (K w.params).In h → mg d.name = some (.ref fa) → LamX.LawAtS l w (K w.params) (CX w) k n x mg fa h)
    (hCX : ∀ (w : World) (H : Hp) (s : Shared) (e : Value) (s' : Shared), CX w [] H s (fun _ _ _ => False) e s' → False) :
    PySem.W.WalkO q loose XP YP l.row.toRowW d [] (fun f vs => PySem.call f vs) := by
  refine Att.attach_callB hn hdf fun w s₀ s₁ mg mb fa o pm cd doc a vs ns G Y ho hd hcd hmg hobj hints hlen hbits hg => ?_
  have KX := hY w _ Y
  obtain ⟨fd, cs, sp, hT, nT, C, hb, hsp, hF⟩ := F w _ _ mg mb fa _ G.T KX hmg
  exact LamX.law_callTs KX G.T.g G.T.b G.T.builtins G.T.nolimit hg hT nT C G.T.bmain hobj hints (Nat.le_trans hlen hn2) hr hF hb (fun H hH hS => hsp H a ns hlen hbits hH hS) fun H e s' => hCX w H s₁ e s'
theorem exm_by {K : PySem.W.Frag} {S : Addr} {cls : Value} {b : Bool} (h1 : PySem.W.subIn K (.ref S) (.type "BaseException") = some true) (h2 : PySem.W.isClsIn K S = true) (h3 : PySem.W.typeIn K (.ref S) = some (.type "type")) (h4 : PySem.W.subIn K cls (.ref S) = some b) :
    PySem.W.exmOne K cls (.ref S) = some b := by
  have e1 : (PySem.W.subIn K (.ref S) (.type "BaseException") == some true) = true := by rw [h1] <;> rfl
  have e2 : ((PySem.W.clsIn K S).isSome && PySem.W.typeIn K (.ref S) == some (.type "type")) = true := by
    have h2' : (PySem.W.clsIn K S).isSome = true := h2
    rw [h2', h3] <;> rfl
  unfold PySem.W.exmOne PySem.W.kitCls
  rw [if_pos e1]
  exact (if_pos e2).trans h4
theorem exm_any {K : PySem.W.Frag} {c1 c2 cls : Value} (h1 : PySem.W.exmOne K cls c1 = some true) (h2 : PySem.W.exmOne K cls c2 = some false) : PySem.W.exmAny K cls [c1, c2] = some true := by
  unfold PySem.W.exmAny PySem.W.exmAny PySem.W.exmAny
  rw [h1, h2]
  rfl
/-! ### calls with keywords alone -/
theorem pe_callN0 {X : Cx} {CX : CXT} {k : Nat} {f : Addr} {fd : FuncData} {ps ks : List Str} {sp : Sp} {E : XK} {x : Str} {p pos : Pos} {kws : List Keyword} {tk : TA} {g : List Value → List Value → List Value} {gV : List V → List V → List V}
    (F : FnOk X.prog X.w X.K X.mg X.base CX k f fd ps sp) (hr : Room k X.A) (hg : Gl X x) (hm : X.mg x = some (.ref f)) (hk : PySem.W.keepIn X.K (.ref f) = true) (hb : KBn X.K fd ps 0 ks g gV) (hx : Passes CX X E) (hkw : PK X kws tk)
    (hall : (backToKw pos (keywordEach kws X.env)).all (·.1.isSome) = true := by rfl) (hks : (backToKw pos (keywordEach kws X.env)).filterMap (·.1) = ks := by rfl) (hdb : (x == ("__debug__" : Str)) = false := by decide)
    (hpl : ((backTo pos (starEach [] X.env)).any (·.1) || (backToKw pos (keywordEach kws X.env)).any (·.1.isNone)) = false := by rfl) :
    PE X (.Call (.Name x p) [] kws pos) (fun σ H Q => tk σ H fun zs H2 => zs.length = ks.length ∧ sp (gV [] zs) H2 Q E) := by
  refine ⟨fun pins s σ H Q I h => wpAny_Call_Name_kw (ld_glob I hg hm (PySem.W.callWith_KW0 (h₀ := X.base) I.ok.mod.kin hk hall (thn (hkw.run pos pins s σ H _ I h) fun ws s2 ⟨zs, H2, I2, rz, l2, q2⟩ => ⟨I2.kIn, ?_⟩) hpl) hdb)⟩
  rw [hks]
  exact run_fnN (us := []) (vs := []) F hr hb hx I2 .nil rz rfl l2 q2
/-- two values in the other order -/
theorem swap_rel : ∀ {vs : List V} {us : List Value} {zs : List V} {ws : List Value}, Vals vs us → Vals zs ws → Vals [zs.getD 1 .non, zs.getD 0 .non] [ws.getD 1 Value.none, ws.getD 0 Value.none]
  | _, _, _, _, _, .nil => .cons rfl (.cons rfl .nil)
  | _, _, _, _, _, .cons r .nil => .cons rfl (.cons r .nil)
  | _, _, _, _, _, .cons r (.cons r2 _) => .cons r2 (.cons r .nil)
/-! ### an error as a value -/
/-- at a: an exception whose object is known -/
def ExV (oe : Obj) (a : Addr) : HO := .ext fun h => h.get? a = some oe
theorem exv_ok {P : Program} {w : World} {H : Hp} {h : Heap} {a : Addr} {oe : Obj} (e : h.get? a = some oe) : ObjOk P w H h a (ExV oe a) := ⟨e, ⟨_, e⟩, fun _ _ z k => k _ z⟩
theorem exv_at {P : Program} {w : World} {H : Hp} {h : Heap} {a : Addr} {oe : Obj} (hok : HOk P w H h) (e : H a = some (ExV oe a)) : h.get? a = some oe := by
  have x : ObjOk P w H h a (.ext fun h => h.get? a = some oe) := hok a _ e
  exact x.1
/-- C(..) of an error class, its object kept -/
theorem pe_exv {X : Cx} {e : Expr} {t : L2.St → Hp → XK → Prop} (h : PMk X e t) : PE X e (fun σ H Q => t σ H fun cls d H' => ∀ (a : Addr) (oe : Obj), Zc cls d oe → (∃ vs, oe.data = .fields vs) → H' a = none → Q (.ref a) (upd H' a (ExV oe a))) := by
  refine ⟨fun pins s σ H Q I q => wpAny_mono (h pins s σ H _ I q) (fun v s1 hm => ?_) fun _ _ z => z⟩
  obtain ⟨a, oe, vs, sI, H', cls, d, rfl, J, k, ga, ha, hz, hd, h1, na, os, ag, r, qq⟩ := hm
  have J2 := J.laidN (t' := s1.toks) (a := a) (o := ExV oe a) k ga na (exv_ok ha)
  exact ⟨.ref a, _, ⟨J2.ok, os.trans J2.os, ag, J2.base, J2.loc, J2.cell, J2.free, J2.freeC, J2.pin, J2.hok, J2.len⟩, rfl, qq a oe hz ⟨vs, hd⟩ na⟩
/-- an attribute of it -/
def tXv (K : PySem.W.Frag) (n : Str) (te : TE) : TE := fun σ H Q => te σ H fun x H1 => ∃ (a : Addr) (oe : Obj) (C dd : Addr) (fs : List (Str × V)) (v : V), x = .ref a ∧ H1 a = some (ExV oe a) ∧ Xat K (a, oe) C dd ∧ PySem.W.findIn K (.ref C) n = some none ∧ H1 dd = some (.xd fs) ∧ fs.lookup n = some v ∧ Q v H1
theorem pe_xv {X : Cx} {e : Expr} {te : TE} {pos : Pos} {n : Str} (he : PE X e te) (hb : attributeBase e n X.env (eval e X.env) = eval e X.env := by rfl) : PE X (.Attribute e n pos) (tXv X.K n te) := by
  refine ⟨fun pins s σ H Q I h => attr_of hb (thn (he.run pins s σ H _ I h) fun u s1 hh => ?_)⟩
  obtain ⟨x, H1, I1, rx, a, oe, C, dd, fs, v, ex, hv, T, hno, ea, l, q⟩ := hh
  subst ex
  obtain rfl : u = Value.ref a := rx
  have ha := exv_at I1.hok hv
  obtain ⟨vs, hd⟩ := T.fl
  have hx : ObjOk X.prog X.w H1 s1.heap dd (.xd fs) := I1.hok dd _ ea
  obtain ⟨mA, hns, hr⟩ := hx
  obtain ⟨od, ho, hl⟩ := lookIn_ns hns
  obtain ⟨u, hu, ru⟩ := RelO.some_of (v := v) (o := mA n) (by rw [← l]; exact hr n)
  have J : PySem.W.InstAt s1.heap a oe C (some od) := ⟨ha, T.z.1, by unfold PySem.W.notCls; rw [hd] <;> rfl, by rw [T.z.2]; exact ho⟩
  exact PySem.HandSPX.exc_get I1.kIn J T.xf.ga T.xf.gg T.xf.exC (PySem.W.findObj_own T.xf.hdC hno rfl (by rw [hl, hu])) (handed_of ru) ⟨v, H1, I1.tok _, ru, q⟩
/-! ### lambdas that are kept: made as values, called later -/
section
open PySem.W LamX PySem.Calls
/-- the names of a kept lambda: captured ones, globals, and its own parameters (which the maker does not name) -/
structure LamQ (N : List Str) (sc scope : Scope) : Prop where
  kind : scope.kind = .function
  co : scope.isCoroutine = false
  gen : scope.isGenerator = false
  own : ∀ y ∈ scope.names, y.2 ≠ .cell ∧ (y.2 = .local → y.1 ∉ N)
  free : ∀ y ∈ scope.names, y.2 = .free → sc.names.lookup y.1 = some .cell ∨ sc.names.lookup y.1 = some .free
def lamQB (N : List Str) (sc scope : Scope) : Bool :=
  (decide (scope.kind = .function) && (!scope.isCoroutine && !scope.isGenerator)) && scope.names.all fun y => (!decide (y.2 = .cell) && (!decide (y.2 = .local) || !decide (y.1 ∈ N))) && (!decide (y.2 = .free) || (decide (sc.names.lookup y.1 = some .cell) || decide (sc.names.lookup y.1 = some .free)))
theorem lamQ_by {N : List Str} {sc scope : Scope} (h : lamQB N sc scope = true) : LamQ N sc scope := by
  unfold lamQB at h
  rw [Bool.and_eq_true, Bool.and_eq_true, Bool.and_eq_true, decide_eq_true_eq, Bool.not_eq_true', Bool.not_eq_true'] at h
  obtain ⟨⟨h1, h2, h3⟩, h4⟩ := h
  have each := List.all_eq_true.mp h4
  refine ⟨h1, h2, h3, fun y hy => ⟨fun e => ?_, fun e m => ?_⟩, fun y hy e => ?_⟩
  · have z := each y hy
    simp [e] at z
  · have z := each y hy
    simp [e, m] at z
  · have z := each y hy
    simpa [e] using z
theorem LamQ.has {X : Cx} {scope : Scope} (L : LamQ X.N X.env.scope scope) (ok : X.Ok) {y : Str × NameKind} (hy : y ∈ scope.names) (e : y.2 = .free) : ∃ c, X.env.cells.lookup y.1 = some c :=
  (L.free y hy e).elim (fun k => ok.has _ (.inl k)) fun k => ok.has _ (.inr k)
/-- the object of a lambda -/
abbrev lqO (q : Str) (ps : Arguments) (b : Expr) (sc : Scope) (cl : List (Str × Addr)) (dV doc pm : Value) (c' : Addr) (ct : Value) : Obj := kdv_obj "<lambda>" q ps (.expr b) sc cl dV doc pm c' ct
/-- no default, or the one default 0 in its tuple -/
def DfltAt (H : Hp) (dV : Value) : Bool → Prop
  | false => dV = .none
  | true => ∃ T, dV = .ref T ∧ H T = some (.tup [V.int 0])
def LqAt (X : Cx) (H : Hp) (d : Bool) (ps : Arguments) (b : Expr) (sc : Scope) (f : Addr) : Prop := ∃ (dV doc pm ct : Value) (c' : Addr),
  H f = some (ExV (lqO (X.env.qual ++ "<lambda>") ps b sc (cloFrom X.env.cells sc.names []) dV doc pm c' ct) f) ∧ H c' = some (CodeO c' (X.env.qual ++ "<lambda>")) ∧ DfltAt H dV d
theorem exv_ne_tbl {o : Obj} {a : Addr} (ps : Array Value) : ExV o a ≠ .tbl ps := fun z => by
  unfold ExV at z
  cases z
theorem exv_ne_lst {o : Obj} {a : Addr} (xs : List V) : ExV o a ≠ .lst xs := fun z => by
  unfold ExV at z
  cases z
theorem codeO_ne_lst {c : Addr} {q : Str} (xs : List V) : CodeO c q ≠ .lst xs := fun z => by
  unfold CodeO at z
  cases z
/-- what neither is a list nor a table stays -/
def Keep2 (H H' : Hp) : Prop := ∀ b o, H b = some o → (∀ ps, o ≠ .tbl ps) → (∀ xs, o ≠ .lst xs) → H' b = some o
theorem LqAt.keep {X : Cx} {H H' : Hp} {d : Bool} {ps : Arguments} {b : Expr} {sc : Scope} {f : Addr} (h : LqAt X H d ps b sc f) (k : Keep2 H H') : LqAt X H' d ps b sc f := by
  obtain ⟨dV, doc, pm, ct, c', h1, h2, h3⟩ := h
  refine ⟨dV, doc, pm, ct, c', k _ _ h1 exv_ne_tbl exv_ne_lst, k _ _ h2 codeO_ne codeO_ne_lst, ?_⟩
  cases d with
  | false => exact h3
  | true =>
    obtain ⟨T, e, h3⟩ := h3
    exact ⟨T, e, k _ _ h3 (fun ps z => by cases z) fun xs z => by cases z⟩
section
variable {X : Cx} {pins : List (Addr × Obj)} {σ : L2.St} {H : Hp} {s : Shared}
theorem lq_sup {H : Hp} {a : Addr} {o : HO} (n : H a = none) : ∀ b u, H b = some u → upd H a o b = some u := fun b u e => (upd_ne (ne_of_none e n)).trans e
/-- the function object laid -/
theorem lq_lay {H1 : Hp} {s1 : Shared} {o : Obj} {h2 : Heap} {tk : Nat} (I1 : Inv X pins σ H1 s1) (hf : o.isFreed = false) (eh : h2 = s1.heap.push o) : Inv X pins σ (upd H1 s1.heap.objs.size (ExV o s1.heap.objs.size)) { s1 with heap := h2, toks := tk } := by
  subst eh
  exact I1.laid (fun b u e => Heap.get?_push_of_some _ e) (Nat.le_refl _) (exv_ok (Heap.get?_push_size _ hf))
/-- a lambda is made, its default given -/
theorem lq_make {T : List (Addr × Str)} {c P : Addr} {params : Arguments} {body : Expr} {scope : Scope} {pos : Pos} {dV : Value} {d : Bool} {E : Value → Shared → Prop} {Q : Value → Shared → Prop} (I : Inv X pins σ H s) (TB : TabB X.base X.mg c P) (hcode : X.env.code = .ref c)
    (hm : (P, X.env.qual ++ "<lambda>") ∈ T) (hu : ∀ p ∈ T, p.1 = P → p.2 = X.env.qual ++ "<lambda>") (hT : Tabs T H) (hfree : ∀ y ∈ scope.names, y.2 = .free → ∃ c, X.env.cells.lookup y.1 = some c) (hd : DfltAt H dV d)
    (go : ∀ (f : Addr) (H2 : Hp) (s' : Shared), Inv X pins σ H2 s' → ExtN H H2 → Tabs T H2 → LqAt X H2 d params body scope f → Q (.ref f) s') :
    wpAny (model X.prog X.w) X.A (makeTail "<lambda>" (X.env.qual ++ "<lambda>") params (.expr body) scope X.env dV .none none pos pos.line) Q E s := by
  obtain ⟨ps, hP, ht, ha⟩ := hT _ hm
  have bP : s.heap.BuiltinsAt X.mg P := TB.bm.keeps I.bk
  have hP' : s.heap.get? P = some { cls := .none, data := .fields ps } := I.hok P _ hP
  have last : ∀ (c' : Addr) (doc ctv : Value) (H1 : Hp) (h1 : Heap) (tk : Nat), Inv X pins σ H1 { s with heap := h1, toks := tk } → ExtN H H1 → Tabs T H1 → H1 c' = some (CodeO c' (X.env.qual ++ "<lambda>")) →
      Q (.ref h1.objs.size) { s with heap := h1.push (lqO (X.env.qual ++ "<lambda>") params body scope (cloFrom X.env.cells scope.names []) dV doc ((X.mg "__name__").getD .none) c' ctv), toks := tk } := by
    intro c' doc ctv H1 h1 tk I1 e1 t1 hc1
    have nf : H1 h1.objs.size = none := I1.hok.fresh (Nat.le_refl _)
    have sm : ∀ b u, H1 b = some u → (upd H1 h1.objs.size (ExV (lqO (X.env.qual ++ "<lambda>") params body scope (cloFrom X.env.cells scope.names []) dV doc ((X.mg "__name__").getD .none) c' ctv) h1.objs.size)) b = some u := lq_sup nf
    refine go h1.objs.size _ _ (lq_lay (s1 := { s with heap := h1, toks := tk }) (tk := tk) I1 rfl rfl) (e1.trans (ExtN.of sm)) (t1.ext sm) ⟨_, _, _, _, _, upd_same, sm _ _ hc1, ?_⟩
    cases d with
    | false => exact hd
    | true =>
      obtain ⟨D, e, hd⟩ := hd
      exact ⟨D, e, sm _ _ (e1 _ _ hd (fun _ z => by cases z))⟩
  cases hc : codeAmong pos ps.toList with
  | none =>
    refine kdv_makeTail (mg := X.mg) (c := c) (P := P) (ps := ps) (closure_ok hfree) I.ok.glob (I.mod.glob.keeps I.bk) hcode (TB.code.keeps I.bk) hP' ht hc TB.gP bP fun c' ctv doc h' tk hx hge hlt hrec htb => ?_
    obtain ⟨c2, oc, vs, t, e2, hoc, hdt, hv⟩ := hrec
    cases e2
    have nC : H c' = none := I.hok.fresh hge
    have I1 := inv_table (t' := tk) (more := #[rawInt pos.line, rawInt pos.col, .ref c']) (h' := h') (c := c') (q := X.env.qual ++ "<lambda>") I hP hx htb hge ⟨oc, vs, t, hoc, hdt, hv⟩
    have hE : ExtN H (upd (upd H P (.tbl (ps ++ #[rawInt pos.line, rawInt pos.col, .ref c']))) c' (CodeO c' (X.env.qual ++ "<lambda>"))) := by
      intro b o e n
      have b1 : b ≠ P := fun z => n ps (Option.some.inj (e.symm.trans (by rw [z]; exact hP)))
      rw [upd_ne (ne_of_none e nC), upd_ne b1]
      exact e
    refine last c' doc ctv _ _ _ I1 hE (fun p hp => ?_) upd_same
    by_cases hb : p.1 = P
    · have eL : (ps ++ #[rawInt pos.line, rawInt pos.col, .ref c']).toList = ps.toList ++ [rawInt pos.line, rawInt pos.col, .ref c'] := by simp
      rw [hu p hp hb, hb]
      refine ⟨_, (upd_ne (ne_of_none hP nC)).trans upd_same, eL ▸ PySem.TriplesOk_snoc _ _ _ _ ht, fun p' cv hcv => ?_⟩
      rw [eL] at hcv
      rcases among_app _ ht hcv with z | z
      · obtain ⟨c0, e1, e2⟩ := ha p' cv z
        exact ⟨c0, e1, hE _ _ e2 codeO_ne⟩
      · exact ⟨c', z, upd_same⟩
    · obtain ⟨ps', a1, a2, a3⟩ := hT p hp
      refine ⟨ps', (upd_ne (ne_of_none a1 nC)).trans ((upd_ne hb).trans a1), a2, fun p' cv hcv => ?_⟩
      obtain ⟨c0, e1, e2⟩ := a3 p' cv hcv
      exact ⟨c0, e1, hE _ _ e2 codeO_ne⟩
  | some cv =>
    obtain ⟨c', e, hco⟩ := ha pos cv hc
    subst e
    refine kdv_makeTailHit (mg := X.mg) (c := c) (P := P) (ps := ps) (closure_ok hfree) I.ok.glob (I.mod.glob.keeps I.bk) hcode (TB.code.keeps I.bk) hP' ht hc bP fun ctv doc h' tk hx hsz => ?_
    exact last c' doc ctv H h' tk (I.kept hx) (ExtN.refl H) hT hco
end
end
/-! ### a kept lambda is entered -/
section
open PySem.W LamX PySem.Calls
/-- an address of a cell of the maker's -/
def isC (X : Cx) (c : Addr) : Prop := ∃ x, X.env.cells.lookup x = some c
open Classical in
/-- without the maker's cells -/
noncomputable def minC (X : Cx) (H : Hp) : Hp := fun b => if isC X b then none else H b
open Classical in
/-- with the cells as they stand in G -/
noncomputable def putC (X : Cx) (G H : Hp) : Hp := fun b => if isC X b then G b else H b
theorem minC_c {X : Cx} {H : Hp} {b : Addr} (h : isC X b) : minC X H b = none := if_pos h
theorem minC_n {X : Cx} {H : Hp} {b : Addr} (h : ¬ isC X b) : minC X H b = H b := if_neg h
theorem putC_c {X : Cx} {G H : Hp} {b : Addr} (h : isC X b) : putC X G H b = G b := if_pos h
theorem putC_n {X : Cx} {G H : Hp} {b : Addr} (h : ¬ isC X b) : putC X G H b = H b := if_neg h
/-- the maker's cells stand in the heap, with the values of its names -/
structure CellsAt (X : Cx) (σ : List (Option V)) (H : Hp) : Prop where
  all : ∀ c, isC X c → ∃ o w, H c = some (.frz o (.own 0)) ∧ o.data = .cell w
  at_ : ∀ (i : Nat) (x : Str) (v : V), X.N[i]? = some x → σ[i]? = some (some v) → (X.env.scope.names.lookup x = some .cell ∨ X.env.scope.names.lookup x = some .free) → ∃ c o u, X.env.cells.lookup x = some c ∧ H c = some (.frz o (.own 0)) ∧ o.data = .cell (some u) ∧ RelV v u
section
variable {X : Cx} {σ : L2.St} {HZ H' : Hp} {s : Shared}
theorem CellsAt.not_own (C : CellsAt X σ HZ) {b a : Addr} (h : HZ b = some (.own a)) : ¬ isC X b := fun z => by
  obtain ⟨o, w, e, _⟩ := C.all b z
  rw [h] at e
  cases e
theorem CellsAt.not_tup (C : CellsAt X σ HZ) {b : Addr} {xs : List V} (h : HZ b = some (.tup xs)) : ¬ isC X b := fun z => by
  obtain ⟨o, w, e, _⟩ := C.all b z
  rw [h] at e
  cases e
theorem CellsAt.not_tbl (C : CellsAt X σ HZ) {b : Addr} {xs : Array Value} (h : HZ b = some (.tbl xs)) : ¬ isC X b := fun z => by
  obtain ⟨o, w, e, _⟩ := C.all b z
  rw [h] at e
  cases e
theorem CellsAt.not_none (C : CellsAt X σ HZ) {b : Addr} (h : HZ b = none) : ¬ isC X b := fun z => by
  obtain ⟨o, w, e, _⟩ := C.all b z
  rw [h] at e
  cases e
theorem minC_none {b : Addr} (h : HZ b = none) : minC X HZ b = none := by
  by_cases z : isC X b
  · exact minC_c z
  · rw [minC_n z, h]
theorem minC_hok {P : Program} {w : World} {h : Heap} (C : CellsAt X σ HZ) (hok : HOk P w HZ h) : HOk P w (minC X HZ) h := by
  intro a o e
  have na : ¬ isC X a := fun z => by
    rw [minC_c z] at e
    cases e
  rw [minC_n na] at e
  refine (hok a o e).stay (fun b u _ q => q) (fun b q => ?_) fun b xs q => ?_
  · rw [minC_n (C.not_own q)]
    exact q
  · rw [minC_n (C.not_tup q)]
    exact q
theorem minC_env {P : Program} {w : World} {K : PySem.W.Frag} {mg : Str → Option Value} {base : Heap} {A : Around} {outer : List Env} (C : CellsAt X σ HZ) (e0 : Env0 P w K mg base A outer s HZ) : Env0 P w K mg base A outer s (minC X HZ) :=
  ⟨e0.frames, e0.mod, fun b o e => ⟨(e0.bs b o e).1, minC_none (e0.bs b o e).2⟩, e0.bsz, e0.funs, fun b hb => minC_none (e0.frf b hb), minC_hok C e0.hok, e0.bare⟩
/-- behind the lambda: the cells are put back -/
theorem putC_un {P : Program} {w : World} {K : PySem.W.Frag} {mg : Str → Option Value} {base : Heap} {A : Around} {outer : List Env} {h' : Heap} (C : CellsAt X σ HZ) (e0 : Env0 P w K mg base A outer s HZ) (un : Un (frs outer) [] (minC X HZ) H' s.heap h') :
    (∀ c, isC X c → H' c = none) ∧ Un (frs outer) [] HZ (putC X HZ H') s.heap h' := by
  have cell : ∀ c, isC X c → ∃ o, HZ c = some (.frz o (.own 0)) ∧ s.heap.get? c = some o := fun c hc => by
    obtain ⟨o, w, e, _⟩ := C.all c hc
    exact ⟨o, e, (show s.heap.get? c = some o ∧ _ from e0.hok c _ e).1⟩
  refine ⟨fun c hc => ?_, ⟨fun b o q n => un.keep b o q (minC_none n), fun b o q n => un.slot b o q (minC_none n), fun b o q n hx => ?_, un.there, fun b xs q => ?_, fun b o u q => ?_, fun b ps q => ?_⟩⟩
  · obtain ⟨o, e, g⟩ := cell c hc
    exact un.free c o g (minC_c hc) (by simp)
  · rw [putC_n (C.not_none n)]
    exact un.free b o q (minC_none n) hx
  · have nb := C.not_tup q
    rw [putC_n nb]
    exact un.tups b xs ((minC_n nb).trans q)
  · by_cases z : isC X b
    · rw [putC_c z]
      exact q
    · rw [putC_n z]
      exact un.frzs b o u ((minC_n z).trans q)
  · have nb := C.not_tbl q
    obtain ⟨more, e⟩ := un.tbls b ps ((minC_n nb).trans q)
    exact ⟨more, (putC_n nb).trans e⟩
theorem putC_hok {P : Program} {w : World} {h' : Heap} (C : CellsAt X σ HZ) (none_ : ∀ c, isC X c → H' c = none) (cells : ∀ c o, HZ c = some (.frz o (.own 0)) → isC X c → h'.get? c = some o) (hok : HOk P w H' h') : HOk P w (putC X HZ H') h' := by
  intro a o e
  by_cases z : isC X a
  · rw [putC_c z] at e
    obtain ⟨o1, w1, e1, _⟩ := C.all a z
    rw [e1] at e
    cases e
    exact ⟨cells a o1 e1 z, o1, cells a o1 e1 z⟩
  · rw [putC_n z] at e
    have out : ∀ {b : Addr} {u : HO}, H' b = some u → putC X HZ H' b = some u := fun {b u} q => by
      have nb : ¬ isC X b := fun y => by
        rw [none_ b y] at q
        cases q
      exact (putC_n nb).trans q
    exact (hok a o e).stay (fun b u _ q => q) (fun b q => out q) fun b xs q => out q
end
section
variable {X : Cx} {σ : L2.St} {HZ : Hp} {s1 : Shared}
theorem lq_start {A : Around} {outer : List Env} {E : XK} {scope : Scope} {f c' : Addr} {h₁ : Heap} {tk : Nat} {binds : List (Str × Value)} (ok : X.Ok) (len : σ.length = X.N.length) (L : LamQ X.N X.env.scope scope) (e0 : Env0 X.prog X.w X.K X.mg X.base A outer s1 HZ) (hd : A.handled = none)
    (C : CellsAt X σ HZ) (hns : h₁.Ns s1.heap.objs.size fun y => binds.reverse.lookup y) (kp : ∀ b o, s1.heap.get? b = some o → h₁.get? b = some o) :
    Inv (lamCx X A outer s1 (minC X HZ) E scope f c') [] σ (minC X HZ) { s1 with heap := h₁, toks := tk } := by
  have e1 := minC_env C e0
  have cm : ∀ {y c}, (cloFrom X.env.cells scope.names []).lookup y = some c → X.env.cells.lookup y = some c := by
    intro y c e
    rcases cloFrom_mem (PySem.mem_of_lookup e) with hm | ⟨h1, h2⟩
    · cases hm
    · obtain ⟨c1, hc⟩ := L.has ok h1 rfl
      have hc' : X.env.cells.lookup y = some c1 := hc
      have h3 : c = c1 := by
        rw [h2, hc'] <;> rfl
      exact h3 ▸ hc'
  have look : ∀ {y}, scope.names.lookup y = some .free → ∃ c, (cloFrom X.env.cells scope.names []).lookup y = some c := by
    intro y hl
    have hy : (y, NameKind.free) ∈ scope.names := PySem.mem_of_lookup hl
    exact mem_lookup (cloFrom_has (cells := X.env.cells) (acc := []) hy)
  have inC : ∀ {y c}, (cloFrom X.env.cells scope.names []).lookup y = some c → isC X c := fun {y c} e => ⟨y, cm e⟩
  have cellK : ∀ {c : Addr} {o : Obj} {v : Option Value}, HZ c = some (.frz o (.own 0)) → o.data = .cell v → h₁.IsCell c v := by
    intro c o v e d
    have g : s1.heap.get? c = some o ∧ _ := e0.hok c _ e
    exact ⟨o, kp _ _ g.1, d⟩
  have noA : ∀ b : Addr, b ∉ (lamCx X A outer s1 (minC X HZ) E scope f c').ex := fun b z => absurd (show b ∈ ([] : List Addr) from z) (by simp)
  refine ⟨⟨e1.mod, L.kind, rfl, rfl, Nat.le_refl _, fun y z c q1 q2 => ok.inj y z c (cm q1) (cm q2), fun y hy => ?_, fun y c z _ => ?_, fun _ => hd, Around.frames_deeper e1.frames, .inr ⟨rfl, rfl⟩, fun b z => absurd z (noA b), e1.bs, e1.bsz, fun b _ _ => noA b, fun b z => absurd z (noA b), e1.funs, e1.frf⟩,
    rfl, e1.bare, Un.kept kp, ⟨_, hns, fun i y v q1 q2 q3 => ?_⟩, fun y c e => ?_, e1.hok.fresh (Nat.le_refl _), fun y c e => minC_c (inC e), fun q hq => absurd (show q ∈ ([] : List (Addr × Obj)) ++ [] from hq) (by simp), e1.hok.kept kp, len⟩
  · have hy : scope.names.lookup y = some .cell ∨ scope.names.lookup y = some .free := hy
    rcases hy with hy | hy
    · exact absurd rfl (L.own _ (PySem.mem_of_lookup hy)).1
    · exact look hy
  · have z : false = true := z
    cases z
  · have q3 : Vis scope y := q3
    rcases q3 with k | k | k
    · exact absurd (List.mem_of_getElem? q1) ((L.own _ (PySem.mem_of_lookup k)).2 rfl)
    · exact absurd rfl (L.own _ (PySem.mem_of_lookup k)).1
    · obtain ⟨c2, h2⟩ := look k
      obtain ⟨c, o, u, g1, g2, g3, g4⟩ := C.at_ i y v q1 q2 (L.free _ (PySem.mem_of_lookup k) rfl)
      have c1 := cm h2
      rw [c1] at g1
      cases g1
      exact ⟨u, g4, .inr ⟨.inr k, c2, h2, cellK g2 g3⟩⟩
  · obtain ⟨o, w, g1, g2⟩ := C.all c (inC e)
    exact ⟨w, cellK g1 g2⟩
/-- how the lambda takes no argument; d: it has a default -/
def LqBind (ps : Arguments) (sc : Scope) (d : Bool) : Prop := ∃ binds : List Value → List (Str × Value), (∀ its, ∀ y ∈ binds its, sc.names.lookup y.1 = some .local) ∧
  ∀ (q : Str) (b : Expr) (cl : List (Str × Addr)) (doc pm cdv ct : Value), (d = false → bindArgs (kdv_fn "<lambda>" q ps (.expr b) sc cl .none doc pm cdv ct) ⟨[], []⟩ = pure (binds [])) ∧
   (d = true → ∀ T : Addr, ∃ k, bindArgs (kdv_fn "<lambda>" q ps (.expr b) sc cl (.ref T) doc pm cdv ct) ⟨[], []⟩ = seqItems? (.ref T) >>= k ∧ ∀ u, k (some #[u]) = pure (binds [u]))
end
end
/-! ### a kept lambda is called -/
section
open PySem.W LamX PySem.Calls
section
variable {X : Cx} {σ : L2.St} {HZ : Hp} {s : Shared}
theorem lq_items {its : List Value} {T : Addr} {k : Option (Array Value) → Sem (List (Str × Value))} {r : List (Str × Value)} {A : Around} {Q : List (Str × Value) → Shared → Prop} {E : Value → Shared → Prop} {P : Program} {w : World} {ob : Obj} {n : Nat}
    (ho : s.heap.get? T = some ob) (hd : ob.data = .seq its.toArray n) (e : k (some its.toArray) = pure r) (q : Q r s) : wpAny (model P w) A (seqItems? (.ref T) >>= k) Q E s := by
  refine wpAny_bind (wpAny_seqItems ho hd ?_)
  rw [e]
  exact wpAny_pure q
/-- from any place: the lambda at f is called -/
theorem lq_call {k : Nat} {A : Around} {outer : List Env} {d : Bool} {ps : Arguments} {body : Expr} {scope : Scope} {t : XK → TE} {f : Addr} {Q : VK} {E : XK} (ok : X.Ok) (len : σ.length = X.N.length) (L : LamQ X.N X.env.scope scope) (B : LqBind ps scope d)
    (hbody : ∀ (A : Around) (outer : List Env) (s : Shared) (H : Hp) (E : XK) (f c' : Addr), Room k (A.deeper (lamEnv X scope s.heap.objs.size f c')) → PE (lamCx X A outer s H E scope f c') body (t E))
    (hr : Room (k + 1) A) (e0 : Env0 X.prog X.w X.K X.mg X.base A outer s HZ) (C : CellsAt X σ HZ) (hf : LqAt X HZ d ps body scope f)
    (h : t (fun cls d H' => (∀ c, isC X c → H' c = none) → E cls d (putC X HZ H')) σ (minC X HZ) (fun v H' => (∀ c, isC X c → H' c = none) → Q v (putC X HZ H'))) :
    codeAny (model X.prog X.w) A (.call (.ref f) ⟨[], []⟩) (CR (L2.CX X.prog X.w) outer X.prog X.w HZ s Q E) s := by
  obtain ⟨dV, doc, pm, ct, c', h1, h2, h3⟩ := hf
  have ho := exv_at e0.hok h1
  obtain ⟨⟨oc, vs, tq, hoc, hdc, hvc⟩, _, _⟩ := e0.hok c' _ h2
  have cell : ∀ c o, HZ c = some (.frz o (.own 0)) → isC X c → s.heap.get? c = some o ∧ c ∉ frs outer := fun c o e hc => by
    refine ⟨(show s.heap.get? c = some o ∧ _ from e0.hok c _ e).1, fun z => ?_⟩
    rw [e0.frf c z] at e
    cases e
  refine PySem.W.kla_callFunE hr.depth ho rfl L.co L.gen rfl ⟨c', oc, vs, tq, rfl, hoc, hdc, hvc⟩ ?_
  obtain ⟨binds, b1, bB⟩ := B
  obtain ⟨b2, b3⟩ := bB (X.env.qual ++ "<lambda>") body (cloFrom X.env.cells scope.names []) doc pm (.ref c') ct
  have lim : s.heap.NoLimit := e0.mod.nolimit.keeps fun b o e => (e0.bs b o e).1
  have go : ∀ its : List Value, wpAny (model X.prog X.w) A.in1 (newFunctionEnv scope mainGlobals (cloFrom X.env.cells scope.names []) (binds its) ((X.env.qual ++ "<lambda>") ++ ".<locals>.") (some f) (.ref c') none builtinsNs)
      (fun env s₂ => s₂.heap.NoLimit ∧ codeAny (model X.prog X.w) A (.expr body env) (CR (L2.CX X.prog X.w) outer X.prog X.w HZ s Q E) s₂) (fun e s' => CR (L2.CX X.prog X.w) outer X.prog X.w HZ s Q E (.error e) s') s := by
    intro its
    refine wpAny_newFunctionEnv (fun y hy => (L.own y hy).1) (b1 its) (fun h₁ hns hsb => ⟨lim.fresh _ hsb, ?_⟩) L.kind
    show codeAny _ _ (.expr body (lamEnv X scope s.heap.objs.size f c')) _ _
    have kp : ∀ b o, s.heap.get? b = some o → h₁.get? b = some o := fun b o e => hsb.extBut b o (Nat.ne_of_lt (Heap.lt_size e)) (Heap.get?_push_of_some _ e)
    have J := lq_start (E := fun cls d H' => (∀ c, isC X c → H' c = none) → E cls d (putC X HZ H')) (f := f) (c' := c') (tk := s.toks + (binds its).length) ok len L e0 hr.hd C hns kp
    refine PySem.W.kla_codeExpr (wpAny_mono ((hbody A outer s (minC X HZ) _ f c' (hr.deeper _)).run [] _ _ _ _ J h) (fun v s' hq => ?_) fun e s' hq => ?_)
    · obtain ⟨w', H', J', rv, q⟩ := hq
      obtain ⟨nn, un⟩ := putC_un C e0 J'.base
      refine ⟨w', putC X HZ H', J'.os, J'.bare, un, putC_hok C nn (fun c o e hc => ?_) J'.hok, rv, q nn⟩
      obtain ⟨g1, g2⟩ := cell c o e hc
      exact J'.base.keep c o g1 (minC_c hc) g2 (fun z => absurd (show c ∈ ([] : List Addr) from z) (by simp))
    · refine wpAny_mono hq (fun _ s2 z => ?_) fun e2 s2 z => ?_
      all_goals
        obtain ⟨a, B0, H', cls, d, rfl, fl, hok, ub, na, os, ag, hE⟩ := z
        have nn : ∀ c, isC X c → H' c = none := fun c hc => by
          obtain ⟨o, w, e, _⟩ := C.all c hc
          exact ub.free c o (cell c o e hc).1 (minC_c hc)
        have B1 : ∀ c o, HZ c = some (.frz o (.own 0)) → isC X c → B0.get? c = some o := fun c o e hc => ub.keep c o (cell c o e hc).1 (minC_c hc) (cell c o e hc).2
        refine ⟨a, B0, putC X HZ H', cls, d, rfl, fl, putC_hok C nn B1 hok, ⟨fun b o q n => ub.keep b o q (minC_none n), ub.slot, fun b o q n => ?_, ub.there, fun b xs q => ?_, fun b o u q => ?_, fun b ps q => ?_⟩, ?_, os, ag, hE nn⟩
        · rw [putC_n (C.not_none n)]
          exact ub.free b o q (minC_none n)
        · have nb := C.not_tup q
          rw [putC_n nb]
          exact ub.tups b xs ((minC_n nb).trans q)
        · by_cases y : isC X b
          · rw [putC_c y]
            exact q
          · rw [putC_n y]
            exact ub.frzs b o u ((minC_n y).trans q)
        · have nb := C.not_tbl q
          obtain ⟨more, e⟩ := ub.tbls b ps ((minC_n nb).trans q)
          exact ⟨more, (putC_n nb).trans e⟩
        · by_cases y : isC X a
          · obtain ⟨o, w, e, _⟩ := C.all a y
            have g := B1 a o e y
            rw [fl.2.1] at g
            cases g
          · rw [putC_n y]
            exact na
  cases d with
  | false =>
    obtain rfl : dV = .none := h3
    rw [show bindArgs _ _ = _ from b2 rfl]
    exact wpAny_pure (go _)
  | true =>
    obtain ⟨T, e, hT⟩ := h3
    subst e
    obtain ⟨k', e1, e2⟩ := b3 rfl T
    rw [show bindArgs _ _ = _ from e1]
    obtain ⟨_, its, rv, ob, g1, g2, n, g3⟩ := (show ObjOk X.prog X.w HZ s.heap T (.tup [V.int 0]) from e0.hok T _ hT)
    cases rv with
    | cons r1 r2 =>
      cases r2
      exact lq_items (its := [_]) g1 g3 (e2 _) (go _)
end
/-! ### the lambda as a value -/
/-- at f: a lambda without arguments that is read as t tells -/
def LqT (X : Cx) (k : Nat) (t : XK → TE) (H : Hp) (f : Addr) : Prop := ∃ (d : Bool) (ps : Arguments) (body : Expr) (scope : Scope), LamQ X.N X.env.scope scope ∧ LqBind ps scope d ∧
  (∀ (A : Around) (outer : List Env) (s : Shared) (H : Hp) (E : XK) (f c' : Addr), Room k (A.deeper (lamEnv X scope s.heap.objs.size f c')) → PE (lamCx X A outer s H E scope f c') body (t E)) ∧ LqAt X H d ps body scope f
theorem LqT.keep {X : Cx} {k : Nat} {t : XK → TE} {H H' : Hp} {f : Addr} (h : LqT X k t H f) (s : Keep2 H H') : LqT X k t H' f := by
  obtain ⟨d, ps, body, scope, L, B, b, l⟩ := h
  exact ⟨d, ps, body, scope, L, B, b, l.keep s⟩
def tLq (X : Cx) (T : List (Addr × Str)) (k : Nat) (t : XK → TE) : TE := fun _ H Q => Tabs T H ∧ ∀ f H2, ExtN H H2 → Tabs T H2 → LqT X k t H2 f → Q (.ref f) H2
section
variable {X : Cx} {T : List (Addr × Str)} {c P : Addr} {k : Nat} {params : Arguments} {body : Expr} {scope : Scope} {pos : Pos} {t : XK → TE}
theorem pe_lq (TB : TabB X.base X.mg c P) (hcode : X.env.code = .ref c) (hm : (P, X.env.qual ++ "<lambda>") ∈ T) (hu : ∀ p ∈ T, p.1 = P → p.2 = X.env.qual ++ "<lambda>") (L : LamQ X.N X.env.scope scope) (B : LqBind params scope false)
    (hbody : ∀ (A : Around) (outer : List Env) (s : Shared) (H : Hp) (E : XK) (f c' : Addr), Room k (A.deeper (lamEnv X scope s.heap.objs.size f c')) → PE (lamCx X A outer s H E scope f c') body (t E))
    (hdef : defaultsOf params X.env = ([], []) := by rfl) : PE X (.Lambda params body scope pos) (tLq X T k t) := by
  refine ⟨fun pins s σ H Q I h => ?_⟩
  refine PySem.W.kla_eval hdef ?_
  rw [makeFunction_eq, List.zip_nil_right, List.filterMap_nil]
  simp only [List.isEmpty_nil, if_true, pure_bind]
  exact lq_make I TB hcode hm hu h.1 (fun y hy e => L.has I.ok hy e) (d := false) rfl fun f H2 s' I2 e1 t1 l => ⟨.ref f, H2, I2, rfl, h.2 f H2 e1 t1 ⟨false, params, body, scope, L, B, hbody, l⟩⟩
theorem pe_lqD {j : Nat} {cp : Pos} (TB : TabB X.base X.mg c P) (hcode : X.env.code = .ref c) (hm : (P, X.env.qual ++ "<lambda>") ∈ T) (hu : ∀ p ∈ T, p.1 = P → p.2 = X.env.qual ++ "<lambda>") (L : LamQ X.N X.env.scope scope) (B : LqBind params scope true)
    (hbody : ∀ (A : Around) (outer : List Env) (s : Shared) (H : Hp) (E : XK) (f c' : Addr), Room k (A.deeper (lamEnv X scope s.heap.objs.size f c')) → PE (lamCx X A outer s H E scope f c') body (t E))
    (hdef : defaultsOf params X.env = ([eval (.Constant (.int 0) j cp) X.env], []) := by rfl) : PE X (.Lambda params body scope pos) (tLq X T k t) := by
  refine ⟨fun pins s σ H Q I h => ?_⟩
  rw [arm_eval_Lambda, hdef]
  show wpAny _ _ (do let dv ← evalAll [eval (.Constant (.int 0) j cp) X.env]; let kdv ← holding dv (evalAllOpt []); makeFunction "<lambda>" (X.env.qual ++ "<lambda>") params (.expr body) scope X.env dv kdv [] pos pos.line) _ _ s
  refine wpAny_bind (wpAny_evalAll_cons (thn ((pe_int (X := X) (i := 0)).run pins s σ H (fun v H1 => v = .int 0 ∧ H1 = H) I ⟨rfl, rfl⟩) fun u s1 hq => ?_))
  obtain ⟨v, H1, I1, r1, rfl, rfl⟩ := hq
  refine wpAny_evalAll_nil (wpAny_bind (wpAny_holding (wpAny_pure ?_)))
  rw [makeFunction_eq, List.zip_nil_right, List.filterMap_nil]
  simp only [List.isEmpty_nil, if_true, pure_bind]
  rw [if_neg (show ¬ (([u] : List Value).isEmpty = true) from Bool.false_ne_true)]
  refine wpAny_bind (wpAny_newTextTuple ?_)
  have I2 : Inv X pins σ (upd H1 s1.heap.objs.size (.tup [V.int 0])) { s1 with heap := s1.heap.push { cls := .type "tuple", data := .seq [u].toArray }, toks := s1.toks } :=
    I1.laid (fun b w e => Heap.get?_push_of_some _ e) (Nat.le_refl _) ⟨Nat.le_trans (by decide : 1 ≤ 1000) (Nat.le_of_lt (small1000 (Nat.le_refl _))), [u], .cons r1 .nil, _, Heap.get?_push_size _ rfl, rfl, _, rfl⟩
  have nn : H1 s1.heap.objs.size = none := I1.hok.fresh (Nat.le_refl _)
  have sm := lq_sup (o := .tup [V.int 0]) nn
  exact lq_make I2 TB hcode hm hu (h.1.ext sm) (fun y hy e => L.has I.ok hy e) (d := true) ⟨_, rfl, upd_same⟩ fun f H2 s' I3 e1 t1 l => ⟨.ref f, H2, I3, rfl, h.2 f H2 ((ExtN.of sm).trans e1) t1 ⟨true, params, body, scope, L, B, hbody, l⟩⟩
end
end
/-! ### .. by a name of any def, and out of the maker -/
section
open PySem.W LamX PySem.Calls
/-- what the caller sees of a kept lambda's run -/
def tRun (X : Cx) (σ : List (Option V)) (t : XK → TE) (E : XK) (HZ : Hp) (Q : VK) : Prop := t (fun cls d H' => (∀ c, isC X c → H' c = none) → E cls d (putC X HZ H')) σ (minC X HZ) (fun v H' => (∀ c, isC X c → H' c = none) → Q v (putC X HZ H'))
section
variable {X : Cx} {σ : L2.St}
theorem pe_lqact {CXg : CXT} {Eg : XK} {Ng : List Str} {qg : Str} {sg : Scope} {g : Addr} {cdg : Value} {A0 : Around} {outer0 : List Env} {sE : Shared} {HE : Hp} {pn : List (Addr × Obj)} {xe : Value → Shared → Prop} {W : WX} {E : XK} {p1 p2 : Pos} {i k : Nat} {a : Str} {f : Addr} {t : XK → TE}
    (ok : X.Ok) (len : σ.length = X.N.length) (tk : Takes ((cxOf CXg X.prog X.w X.K X.mg X.base Ng qg sg g cdg A0 outer0 sE HE Eg).tr pn xe) W) (hW : ∀ cls d σ' H', E cls d H' → W cls d σ' H') (hr : Room (k + 1) (A0.deeper (envOfC qg sg sE.heap.objs.size g cdg)))
    (hN : Ng[i]? = some a) (hv : Vis sg a) (hd : (a == ("__debug__" : Str)) = false := by decide) (hcd : (a == ("__classdict__" : Str)) = false := by decide) :
    PE ((cxOf CXg X.prog X.w X.K X.mg X.base Ng qg sg g cdg A0 outer0 sE HE Eg).tr pn xe) (.Call (.Name a p1) [] [] p2)
      (fun σZ HZ Q => σZ[i]? = some (some (.ref f)) ∧ LqT X k t HZ f ∧ CellsAt X σ HZ ∧ tRun X σ t E HZ Q) := by
  refine ⟨fun pinsZ sZ σZ HZ Q IZ h => ?_⟩
  obtain ⟨hs, ⟨d, ps, body, scope, L, B, hbody, hl⟩, C, ht⟩ := h
  refine wpAny_Call_Name_kw (thn ((pe_var (pos := p1) (i := i) hN hv hd hcd).run pinsZ sZ σZ HZ (fun v H1 => v = .ref f ∧ H1 = HZ) IZ ⟨.ref f, hs, rfl, rfl⟩) fun u s1 hq => ?_)
  obtain ⟨v, H1, I1, r1, rfl, rfl⟩ := hq
  cases (show u = Value.ref f from r1)
  obtain ⟨dV, doc, pm, ct, c', h1, _⟩ := id hl
  refine PySem.W.callWith_F0 ⟨_, _, _, _, exv_at I1.hok h1⟩ ?_
  refine wpAny_call (codeAny_mono (lq_call (X := X) (E := E) (Q := Q) ok len L B hbody hr I1.env0 C hl ht) fun r s' hq => ?_)
  have hx : Passes (L2.CX X.prog X.w) ((cxOf CXg X.prog X.w X.K X.mg X.base Ng qg sg g cdg A0 outer0 sE HE Eg).tr pn xe) E := passes_call tk hW
  cases r with
  | error e => exact hx pinsZ σZ H1 s1 e s' I1 hq
  | ok fl =>
    cases fl with
    | ret u => exact I1.after hq
    | next => exact False.elim hq
    | brk => exact False.elim hq
    | cont => exact False.elim hq
end
/-! ### the maker calls a def with its cells told -/
open Classical in
/-- with the maker's cells as they stand in h -/
noncomputable def hpC (X : Cx) (h : Heap) (H : Hp) : Hp := fun b => if isC X b then (match h.get? b with | some o => some (.frz o (.own 0)) | none => none) else H b
theorem hpC_n {X : Cx} {h : Heap} {H : Hp} {b : Addr} (z : ¬ isC X b) : hpC X h H b = H b := if_neg z
theorem hpC_c {X : Cx} {h : Heap} {H : Hp} {b : Addr} {o : Obj} (z : isC X b) (e : h.get? b = some o) : hpC X h H b = some (.frz o (.own 0)) := by
  unfold hpC
  rw [if_pos z, e]
section
variable {X : Cx} {pins : List (Addr × Obj)} {σ : L2.St} {H : Hp} {s : Shared}
theorem hpC_cells (I : Inv X pins σ H s) : CellsAt X σ (hpC X s.heap H) := by
  refine ⟨fun c hc => ?_, fun i x v e1 e2 e3 => ?_⟩
  · obtain ⟨x, e⟩ := id hc
    obtain ⟨w, o, ho, hd⟩ := I.cell x c e
    exact ⟨o, w, hpC_c hc ho, hd⟩
  · obtain ⟨m, hn, hl⟩ := I.loc
    obtain ⟨u, r, q⟩ := hl i x v e1 e2 (e3.elim (fun z => .inr (.inl z)) fun z => .inr (.inr z))
    rcases q with ⟨k', _⟩ | ⟨_, c, e', o, ho, hd⟩
    · have k' : X.env.scope.names.lookup x = some .local := k'
      rcases e3 with k2 | k2 <;> rw [k2] at k' <;> cases k'
    · exact ⟨c, o, u, e', hpC_c ⟨x, e'⟩ ho, hd, r⟩
theorem hpC_keep (I : Inv X pins σ H s) : ∀ b o, H b = some o → hpC X s.heap H b = some o := fun b o e => by
  have nb : ¬ isC X b := fun ⟨x, z⟩ => by
    rw [I.freeC x b z] at e
    cases e
  rw [hpC_n nb]
  exact e
theorem hpC_hok (I : Inv X pins σ H s) : HOk X.prog X.w (hpC X s.heap H) s.heap := by
  intro a o e
  by_cases z : isC X a
  · obtain ⟨x, ex⟩ := id z
    obtain ⟨w, ob, ho, hd⟩ := I.cell x a ex
    rw [hpC_c z ho] at e
    cases e
    exact ⟨ho, ob, ho⟩
  · rw [hpC_n z] at e
    exact (I.hok a o e).stay (fun b u _ q => q) (fun b q => hpC_keep I _ _ q) fun b xs q => hpC_keep I _ _ q
theorem cell_out (hfn : ∀ x, X.fn x = true) (I : Inv X pins σ H s) {b : Addr} (z : isC X b) : X.base.get? b = none ∧ b ∉ frs X.stack := by
  obtain ⟨x, e⟩ := z
  have ge : X.s_0.heap.objs.size ≤ b := I.ok.cab x b (hfn x) e
  have out : b ∉ frs X.outer := fun hb => by
    obtain ⟨_, o, ho, _⟩ := I.ok.funs.mem hb
    exact Nat.lt_irrefl _ (Nat.lt_of_lt_of_le (Heap.lt_size ho) ge)
  refine ⟨Heap.get?_none_of_le (Nat.le_trans I.ok.bsz ge), ?_⟩
  rcases I.ok.stk with h | ⟨h, hf⟩
  · rw [h]
    exact out
  · rw [h]
    intro hb
    have hb' : b ∈ (X.env :: X.outer).filterMap (·.frame) := hb
    rw [List.filterMap_cons, hf] at hb'
    rcases List.mem_cons.mp hb' with e2 | e2
    · obtain ⟨v, o, ho, hd⟩ := I.cell x b e
      obtain ⟨m, ⟨o2, es, ep, ho2, hd2, _⟩, _⟩ := I.loc
      rw [e2, ho2] at ho
      cases ho
      rw [hd2] at hd
      cases hd
    · exact out e2
theorem hpC_env (hfn : ∀ x, X.fn x = true) (I : Inv X pins σ H s) : Env0 X.prog X.w X.K X.mg X.base X.A X.stack s (hpC X s.heap H) := by
  have e0 := I.env0
  refine ⟨e0.frames, e0.mod, fun b o e => ⟨(e0.bs b o e).1, ?_⟩, e0.bsz, e0.funs, fun b hb => ?_, hpC_hok I, e0.bare⟩
  · have nb : ¬ isC X b := fun z => by
      have q := (cell_out hfn I z).1
      rw [e] at q
      cases q
    rw [hpC_n nb]
    exact (e0.bs b o e).2
  · have nb : ¬ isC X b := fun z => (cell_out hfn I z).2 hb
    rw [hpC_n nb]
    exact e0.frf b hb
theorem hpC_after {Q : VK} {u : Value} {s' : Shared} (I : Inv X pins σ H s) (h : CE X.stack X.prog X.w (hpC X s.heap H) s (fun v H' => Q v (minC X H')) u s') : EP X pins σ Q u s' := by
  obtain ⟨v, H', os, bare, un, hok, r, q⟩ := h
  have C := hpC_cells I
  have back : ∀ c, isC X c → ∃ o, H' c = some (.frz o (.own 0)) ∧ hpC X s.heap H c = some (.frz o (.own 0)) := fun c hc => by
    obtain ⟨o, w, e, _⟩ := C.all c hc
    exact ⟨o, un.frzs c o _ e, e⟩
  have nn : ∀ {b : Addr} {o : HO}, H b = some o → ¬ isC X b := fun {b o} e ⟨x, z⟩ => by
    rw [I.freeC x b z] at e
    cases e
  refine I.after ⟨v, minC X H', os, bare, ⟨fun b o g n hf hx => ?_, fun b o g n hf hx => ?_, fun b o g n hx => ?_, un.there, fun b xs e => ?_, fun b o u e => ?_, fun b ps e => ?_⟩, ?_, r, q⟩
  · by_cases z : isC X b
    · obtain ⟨o1, e1, e2⟩ := back b z
      have g1 : s.heap.get? b = some o1 ∧ _ := hpC_hok I b _ e2
      have g2 : s'.heap.get? b = some o1 ∧ _ := hok b _ e1
      rw [g1.1] at g
      cases g
      exact g2.1
    · exact un.keep b o g ((hpC_n z).trans n) hf hx
  · by_cases z : isC X b
    · obtain ⟨o1, e1, e2⟩ := back b z
      have g1 : s.heap.get? b = some o1 ∧ _ := hpC_hok I b _ e2
      have g2 : s'.heap.get? b = some o1 ∧ _ := hok b _ e1
      rw [g1.1] at g
      cases g
      exact ⟨o.slots, g2.1⟩
    · exact un.slot b o g ((hpC_n z).trans n) hf hx
  · by_cases z : isC X b
    · exact minC_c z
    · rw [minC_n z]
      exact un.free b o g ((hpC_n z).trans n) hx
  · rw [minC_n (nn e)]
    exact un.tups b xs ((hpC_n (nn e)).trans e)
  · rw [minC_n (nn e)]
    exact un.frzs b o u ((hpC_n (nn e)).trans e)
  · rw [minC_n (nn e)]
    exact un.tbls b ps ((hpC_n (nn e)).trans e)
  · intro a o e
    have na : ¬ isC X a := fun z => by
      rw [minC_c z] at e
      cases e
    rw [minC_n na] at e
    have nc : ∀ {b : Addr} {u : HO}, H' b = some u → (∀ o v, u ≠ .frz o v) → minC X H' b = some u := fun {b u} e2 n2 => by
      have nb : ¬ isC X b := fun z => by
        obtain ⟨o1, e1, _⟩ := back b z
        rw [e1] at e2
        exact n2 _ _ (Option.some.inj e2).symm
      rw [minC_n nb]
      exact e2
    exact (hok a o e).stay (fun b u _ q => q) (fun b q => nc q fun _ _ z => by cases z) fun b xs q => nc q fun _ _ z => by cases z
theorem minC_hpC (I : Inv X pins σ H s) : minC X (hpC X s.heap H) = H := by
  funext b
  by_cases z : isC X b
  · rw [minC_c z]
    obtain ⟨x, e⟩ := z
    exact (I.freeC x b e).symm
  · rw [minC_n z, hpC_n z]
end
end
/-! ### a static method, called of its class -/
structure SMet (K : PySem.W.Frag) (C : Addr) (mc : Value) (m : Str) (p g : Addr) : Prop where
  rd : PySem.W.readsIn K C mc = true
  ga : PySem.W.specialIn K (.ref C) "__getattribute__" = some (some (.builtin "type.__getattribute__"))
  at_ : PySem.W.findCls K (.ref C) mc m = some (.get (.builtin "staticmethod.__get__") (.ref p) .none (.ref C))
  rc : ∃ rest, PySem.W.recIn K p "staticmethod" = some (.ref g :: rest)
  kp : PySem.W.keepIn K (.ref g) = true
def tSMeth (C : Addr) (sp : Sp) (dvs : List V) (E : XK) (ta : TE) (t : TA) : TE := fun σ H Q => ta σ H fun x H1 => x = .ref C ∧ t σ H1 fun vs H2 => sp (vs ++ dvs) H2 Q E
theorem pe_smeth {X : Cx} {CX : CXT} {k : Nat} {C p g : Addr} {mc : Value} {fd : FuncData} {ps : List Str} {ds : List Value} {dvs : List V} {sp : Sp} {E : XK} {o e : Expr} {es : List Expr} {m : Str} {pos apos : Pos} {ta : TE} {t : TA} {pl : Sem Bool} (he : PE X o ta) (c : SMet X.K C mc m p g)
    (F : FnOk X.prog X.w X.K X.mg X.base CX k g fd ps sp) (hr : Room k X.A) (hb : Binds X.K fd ps ds) (hd : Vals dvs ds) (hx : Passes CX X E) (ha : PA X (e :: es) t)
    (hst : starEach (e :: es) X.env = (false, eval e X.env) :: starEach es X.env := by rfl) (hpl : (backTo pos (starEach es X.env)).any (·.1) = false := by rfl)
    (ht : eval (.Call (.Attribute o m apos) (e :: es) [] pos) X.env = (do
      let ov ← eval o X.env
      standAt apos.atName
      let (f, first) ← holding [ov] (getMethod ov m pl)
      callWith pos f first (backTo pos (starEach (e :: es) X.env)) (backToKw pos (keywordEach [] X.env))) := by rfl) :
    PE X (.Call (.Attribute o m apos) (e :: es) [] pos) (tSMeth C sp dvs E ta t) := by
  refine ⟨fun pins s σ H Q I h => ?_⟩
  refine PySem.W.methodCall_KW (pl := pl) (thn (he.run pins s σ H _ I h) fun u s1 ⟨x, H1, I1, rx, ex, q⟩ => ?_) ht
  subst ex
  cases (show u = Value.ref C from rx)
  obtain ⟨rest, hp⟩ := c.rc
  refine PySem.W.method_cls I1.kIn c.ga (PySem.W.cls_bind I1.kIn c.rd c.at_ (wpAny_call (PySem.W.sm_get (s := { s1 with toks := s1.toks + 1 }) I1.kIn hp (PySem.W.handed_on rfl ?_))))
  have I2 : Inv X pins σ H1 { s1 with toks := s1.toks + 1 } := I1.tok _
  refine PySem.W.callWith_K (h₀ := X.base) I2.ok.mod.kin c.kp (thn (ha.run pos pins _ σ H1 _ I2 q) fun us s3 ⟨vs, H2, I3, rv, q2⟩ => ⟨I3.kIn, ?_⟩) hst hpl
  exact run_fn F hr hb hd hx I3 rv q2
/-! ### a number kept in a class -/
structure ClsI (K : PySem.W.Frag) (C : Addr) (mc : Value) (m : Str) (i : Int) (t : Tok) : Prop where
  rd : PySem.W.readsIn K C mc = true
  at_ : PySem.W.findCls K (.ref C) mc m = some (.val (.int i t))
theorem pe_clsI {X : Cx} {C : Addr} {mc : Value} {o : Expr} {m : Str} {i : Int} {t : Tok} {pos : Pos} {ta : TE} (c : ClsI X.K C mc m i t) (he : PE X o ta) (hb : attributeBase o m X.env (eval o X.env) = eval o X.env := by rfl) :
    PE X (.Attribute o m pos) (fun σ H Q => ta σ H fun x H1 => x = .ref C ∧ Q (.int i) H1) := by
  refine ⟨fun pins s σ H Q I h => ?_⟩
  refine attr_of hb (thn (he.run pins s σ H _ I h) fun u s1 ⟨x, H1, I1, rx, ex, q⟩ => ?_)
  subst ex
  cases (show u = Value.ref C from rx)
  exact PySem.W.cls_value I1.kIn c.rd c.at_ rfl ⟨.int i, H1, I1.tok _, ⟨_, rfl⟩, q⟩
/-! ### list(text); text * number -/
theorem call_list_text {X : Cx} (hc : X.calm = true) : CallR X (.type "list") (fun xs H Q => ∃ z : Str, xs = [.str z] ∧ z.length ≤ sizeLine ∧ ∀ p, H p = none → Q (.ref p) (upd H p (.lst (z.cps.toList.map fun c => V.str ⟨#[c]⟩)))) := by
  intro pn s σ H xs us Q I r h
  obtain ⟨z, e, hz, q⟩ := h
  subst e
  obtain ⟨u, eu, rx⟩ := vals1 r
  subst eu
  obtain ⟨t, rfl⟩ := rx
  refine call_list_str (I.ok.hd hc) z t (fun h' tk acc' c' hkeep hS hacc => ?_) hz
  refine ⟨.ref s.heap.objs.size, upd H s.heap.objs.size (.lst (z.cps.toList.map fun c => V.str ⟨#[c]⟩)), I.laid hkeep (Nat.le_refl _) (show ObjOk X.prog X.w _ _ _ (.lst (z.cps.toList.map fun c => V.str ⟨#[c]⟩)) from ⟨?_, acc'.toList, c', ?_, ?_⟩), rfl, q _ (I.hok.fresh (Nat.le_refl _))⟩
  · rw [List.length_map]
    exact hz
  · refine vals_of_idx _ _ (by rw [List.length_map, Array.length_toList, Array.length_toList, hacc.1]) fun j v hj => ?_
    obtain ⟨c, u, hc2, rfl⟩ := hacc.2 j v (by rw [← Array.getElem?_toList]; exact hj)
    refine ⟨.str ⟨#[c]⟩, ?_, ⟨_, rfl⟩⟩
    rw [List.getElem?_map, Array.getElem?_toList, hc2]
    rfl
  · exact hS
theorem op_mul_str {X : Cx} : OpR X (binaryOp .Mult) (fun x y H Q => ∃ (z : Str) (n : Int), x = .str z ∧ y = .int n ∧ MulOk z n ∧ Q (.str (Txt.mul z n)) H) := by
  intro pn s σ H x y v u Q I rx ry h
  obtain ⟨z, n, rfl, rfl, hz, q⟩ := h
  obtain ⟨t, rfl⟩ := rx
  obtain ⟨t', rfl⟩ := ry
  exact PySem.SB.mul hz fun t' tk => ⟨.str (Txt.mul z n), H, I.tok _, ⟨_, rfl⟩, q⟩
/-! ### sets of texts: what an add keeps -/
open PySem.Froz
structure TxW (P : Program) (w : World) (D : SD) (l : List Str) : Prop where
  ok : TxOk P w D l
  ris : Ris D.2.2.place.toList
  led : w.params.followText "set-order" = true ∨ D.2.2.led = true
theorem tail_keeps {ep : Nat} {es : Array (Int × Value)} {t : SetTable} {b : Bool} (r : Ris t.place.toList) : Ris (tailTx ep es t b).2.2.place.toList ∧ (tailTx ep es t b).2.2.led = t.led := by
  unfold tailTx
  split
  · exact ⟨relayAll_ris t es _, relayAll_led t es _⟩
  · exact ⟨r, rfl⟩
theorem add_keeps {D : SD} {h : Int} {v : Value} (r : Ris D.2.2.place.toList) : Ris (addTx h v D).2.2.place.toList ∧ (addTx h v D).2.2.led = D.2.2.led := by
  have r1 := layNew_ris D.2.2 D.1 h v r
  have l1 := layNew_led D.2.2 D.1 h v
  have key : ∀ t : SetTable, Ris t.place.toList → t.led = D.2.2.led → Ris (if t.plain = true then { t with plain := false } else t).place.toList ∧ (if t.plain = true then { t with plain := false } else t).led = D.2.2.led := fun t a b => by
    split <;> exact ⟨a, b⟩
  obtain ⟨k1, k2⟩ := key _ r1 l1
  obtain ⟨t1, t2⟩ := tail_keeps (ep := D.2.1) (es := (layNew D.2.2 D.1 h v).1) (b := (layNew D.2.2 D.1 h v).2.2.1) k1
  exact ⟨t1, t2.trans k2⟩
theorem TxW.add {P : Program} {w : World} {D : SD} {l : List Str} {k : Str} (u : Tok) (F : TxW P w D l) : TxW P w (addTx (hashStr w k) (.str k u) D) (k :: l) := by
  obtain ⟨a, b⟩ := add_keeps (D := D) (h := hashStr w k) (v := .str k u) F.ris
  exact ⟨add_ok u F.ok, a, F.led.imp id fun z => b.trans z⟩
section
variable {A : Around} {s : Shared} {P : Program} {w : World} {E : Value → Shared → Prop}
/-- a text that is there already -/
theorem add_there {a : Addr} {T : String} {D : SD} {l : List Str} {k : Str} {u : Tok} {Q : Bool → Shared → Prop} (ho : s.heap.get? a = some (sObj T D)) (F : TxOk P w D l) (hk : k ∈ l) (hb : l.length < scanBound)
    (h : Q false s) : wpAny (model P w) A (setAddHashed a (.str k u) (hashStr w k)) Q E s := by
  obtain ⟨es, ep, t⟩ := D
  obtain ⟨el, mem, sz, fit⟩ := F
  obtain ⟨e, he, hp⟩ := (mem k).mp hk
  have small : es.size < scanBound := Nat.lt_of_le_of_lt (Nat.le_of_eq sz) hb
  obtain ⟨j, hj⟩ : ∃ j, List.findIdx? (fun e => (strKind P w).is k e.2) es.toList = some j := by
    cases q : List.findIdx? (fun e => (strKind P w).is k e.2) es.toList with
    | some j => exact ⟨j, rfl⟩
    | none =>
      have c := List.findIdx?_eq_none_iff.mp q e he
      rw [hp] at c
      cases c
  unfold setAddHashed; unfold setAddHashedIn
  refine wpAny_holding (wpAny_bind (wpAny_setState_of ho (ep := ep) (es := es) (t := t) rfl fit ?_))
  dsimp only
  rw [byScan_of rfl small el, if_pos rfl]
  unfold setAddByScan
  refine wpAny_bind (wpAny_bind (wpAny_rule (wpAny_bind (wpAny_setScan_of (knd := strKind P w) (k := k) (is_str k u) ho rfl fit el ?_))))
  rw [hj]
  exact wpAny_pure <| wpAny_pure h
/-- either way -/
def ins (k : Str) (l : List Str) : List Str := if k ∈ l then l else k :: l
theorem add_any {a : Addr} {T : String} {D : SD} {l : List Str} {k : Str} {u : Tok} {Q : Bool → Shared → Prop} (ho : s.heap.get? a = some (sObj T D)) (F : TxW P w D l) (hb : l.length + 1 < scanBound)
    (h : ∀ b h' D', TxW P w D' (ins k l) → h'.get? a = some (sObj T D') → (∀ c o, c ≠ a → s.heap.get? c = some o → h'.get? c = some o) → h'.objs.size = s.heap.objs.size → Q b { s with heap := h' }) : wpAny (model P w) A (setAddHashed a (.str k u) (hashStr w k)) Q E s := by
  by_cases hk : k ∈ l
  · refine add_there ho F.ok hk (by omega) (h false s.heap D ?_ ho (fun _ _ _ e => e) rfl)
    unfold ins
    rw [if_pos hk]
    exact F
  · refine add_x ho F.ok hk hb (h true _ _ ?_ (get_upd _ ho rfl) (fun c o hc e => ?_) ?_)
    · unfold ins
      rw [if_neg hk]
      exact F.add u
    · exact (Heap.get?_update_other _ _ (Ne.symm hc)).trans e
    · exact Heap.size_update _ _ _
end
def insAll : List Str → List Str → List Str
  | [], l => l
  | x :: xs, l => insAll xs (ins x l)
theorem ins_len (x : Str) (l : List Str) : (ins x l).length ≤ l.length + 1 := by
  unfold ins
  split
  · omega
  · exact Nat.le_refl _
theorem ins_mem (x y : Str) (l : List Str) : y ∈ ins x l ↔ y = x ∨ y ∈ l := by
  unfold ins
  split
  · rename_i h
    exact ⟨.inr, fun z => z.elim (fun e => e ▸ h) id⟩
  · exact List.mem_cons
theorem ins_nodup {x : Str} {l : List Str} (h : l.Nodup) : (ins x l).Nodup := by
  unfold ins
  split
  · exact h
  · rename_i n
    exact List.nodup_cons.mpr ⟨n, h⟩
theorem insAll_mem (y : Str) : ∀ xs l : List Str, y ∈ insAll xs l ↔ y ∈ xs ∨ y ∈ l
  | [], l => by simp [insAll]
  | x :: xs, l => by
    show y ∈ insAll xs (ins x l) ↔ _
    rw [insAll_mem y xs, ins_mem, List.mem_cons]
    constructor
    · rintro (h | h | h)
      · exact .inl (.inr h)
      · exact .inl (.inl h)
      · exact .inr h
    · rintro ((h | h) | h)
      · exact .inr (.inl h)
      · exact .inl h
      · exact .inr (.inr h)
theorem insAll_nodup : ∀ (xs : List Str) {l : List Str}, l.Nodup → (insAll xs l).Nodup
  | [], _, h => h
  | _ :: xs, _, h => insAll_nodup xs (ins_nodup h)
theorem insAll_len : ∀ (xs l : List Str), (insAll xs l).length ≤ xs.length + l.length
  | [], l => by simp [insAll]
  | x :: xs, l => by
    have h1 := insAll_len xs (ins x l)
    have h2 := ins_len x l
    show (insAll xs (ins x l)).length ≤ xs.length + 1 + l.length
    omega
section
variable {prog : Program} {w : World} {A : Around} {R : Result → Shared → Prop} {I : Addr} {fp wr : List Addr} {G : Array GenState → Array GenState → Prop} {n : Nat} {Pv : Nat → Value → Prop} {St : Nat → Shared → Prop}
theorem upd_loop (W : WalksS prog w A.in1 I fp wr G n Pv St) (a : Addr) (hf : a ∉ fp) (xs : List Str) (hl : xs.length = n) (hv : ∀ i v, Pv i v → ∃ t, v = .str (xs.getD i Str.empty) t) (hb : n + 1 < scanBound) :
    ∀ (k i : Nat) (s : Shared) (D : SD) (l : List Str), n - i = k → i ≤ n → l.length ≤ i → St i s → s.heap.get? a = some (sObj "set" D) → TxW prog w D l →
      (∀ s' D', Moved (a :: wr) G s s' → s'.heap.get? a = some (sObj "set" D') → TxW prog w D' (insAll (xs.drop i) l) → R (.ok (.ret .none)) s') →
      codeAny (model prog w) A (.builtin "set.update.loop" ⟨[.ref a, .ref I], []⟩) R s := by
  have haw : a ∉ wr := fun h => hf (W.sub _ h)
  have more : ∀ b ∈ wr, b ∈ a :: wr := fun b h => List.mem_cons_of_mem _ h
  intro k
  induction k with
  | zero =>
    intro i s D l hk hi _ hst ho F hR
    have e : i = n := by omega
    refine codeAny_builtin PyProof.Rows.F.entry_set_update_loop (by
      rw [(Around.under_plainId PyProof.Rows.F.plain_set_update_loop _)]
      refine wpAny_bind (W.done s _ _ (e ▸ hst) fun s' hm => wpAny_pure (hR s' D (hm.mono more) (hm.heap a _ haw ho) ?_))
      rw [e, ← hl, List.drop_length]
      exact F)
  | succ k ih =>
    intro i s D l hk hi hll hst ho F hR
    have lt : i < n := by omega
    refine codeAny_builtin PyProof.Rows.F.entry_set_update_loop (by
      rw [(Around.under_plainId PyProof.Rows.F.plain_set_update_loop _)]
      refine wpAny_bind (W.item i s _ _ lt hst fun v s1 hp hst1 hm => ?_)
      obtain ⟨t, rfl⟩ := hv i v hp
      have ho1 := hm.heap a _ haw ho
      show wpAny _ A.in1 (holding [Value.str (xs.getD i Str.empty) t] (setAdd a (.str (xs.getD i Str.empty) t)) >>= _) _ _ s1
      refine wpAny_bind (wpAny_holding (by
        unfold setAdd
        refine wpAny_holding (wpAny_bind ((strKind prog w).pyHash (k := xs.getD i Str.empty) (is_str _ _) ?_))
        refine add_any (s := { s1 with toks := s1.toks + 1 }) ho1 F (by omega) fun b h2 D2 F2 ho2 oth sz => ?_
        have hd : xs.drop i = xs.getD i Str.empty :: xs.drop (i + 1) := by
          have : i < xs.length := by omega
          rw [List.drop_eq_getElem_cons this]
          congr 1
          rw [List.getD_eq_getElem?_getD, List.getElem?_eq_getElem this]
          rfl
        have il := ins_len (xs.getD i Str.empty) l
        refine wpAny_pure ⟨plainId_quiet PyProof.Rows.F.plain_set_update_loop _, ih (i + 1) _ D2 _ (by omega) lt (by omega) (W.frame _ s1 _ _ hst1 (Nat.le_succ _) fun b hb o e => oth b o (fun z => hf (z ▸ hb)) e) ho2 F2 fun s3 D3 hm3 ho3 F3 => ?_⟩
        refine hR s3 D3 (Moved.trans W.gtrans ((hm.mono more).then_heap (Nat.le_succ _) fun b o hb e => oth b o (fun z => hb (by rw [z]; exact List.mem_cons_self)) e) hm3) ho3 ?_
        rw [hd]
        exact F3)))
end
section
variable {A : Around} {s : Shared} {prog : Program} {w : World} {E : Value → Shared → Prop}
/-- a new set's table -/
abbrev tb0 (w : World) : SetTable := .fresh 0 0 (!w.params.followText "set-order")
theorem new_keeps (P : Program) (w : World) : TxW P w (#[], 0, tb0 w) [] := by
  refine ⟨TxOk.nil (by rfl), List.Pairwise.nil, ?_⟩
  show (_ ∨ (!w.params.followText "set-order") = true)
  cases w.params.followText "set-order" <;> simp
theorem code_new1 (x : Value) {Q₁ : Value → Shared → Prop} (h : Q₁ (.ref s.heap.objs.size) { s with heap := s.heap.push (sObj "set" (#[], 0, tb0 w)) }) :
    codeAny (model prog w) A (.call (.builtin "set.__new__") ⟨[.type "set", x], []⟩) (wants Q₁ E) s := by
  refine codeAny_of_tree (wpAny_bind (wpAny_of_eq (PySem.F.newCall_set_1 x) (wpAny_pure ⟨plainId_quiet PySem.F.plain_set_new _, codeAny_builtin PySem.F.entry_set_new (by
    rw [Around.under_plainId PySem.F.plain_set_new _]
    unfold Builtin.«set.__new__»; unfold Builtin.Frozenset.newClass
    have self := PySem.sub_set_self
    obtain ⟨hp0, g0, d0, tk0, os0⟩ := s
    dsimp only
    wp_walk
    refine wpAny_askSetting (wpAny_pure (by
      dsimp only
      simp only [newObj]
      exact wpAny_bind (wpAny_alloc (wpAny_pure (wpAny_pure h))))))⟩)))
theorem str_at : ∀ {us : List Value} {ys : List Str}, StrsAre us ys → ∀ (i : Nat) (v : Value), us[i]? = some v → ∃ t, v = .str (ys.getD i Str.empty) t
  | _, _, .cons y t _, 0, v, e => ⟨t, (Option.some.inj e).symm⟩
  | _, _, .cons _ _ r, i + 1, v, e => str_at r i v e
theorem call_set_texts {l : Addr} {items : Array Value} {xs : List Str} {Q : Value → Shared → Prop} (hh : A.handled = none) (hl : s.heap.IsList l items) (hi : StrsAre items.toList xs) (hb : xs.length + 1 < scanBound)
    (h : ∀ (h' : Heap) (tk : Nat) (D : SD), TxW prog w D (insAll xs []) → h'.get? s.heap.objs.size = some (sObj "set" D) → (∀ b o, b < s.heap.objs.size → s.heap.get? b = some o → h'.get? b = some o) → Q (.ref s.heap.objs.size) { s with heap := h', toks := tk }) :
    (wpAny (model prog w) A (call (.type "set") [.ref l]) Q E s) := by
  obtain ⟨c, tl, mro⟩ := PySem.F.called_set.mro
  have made := PySem.F.called_set.made; have subs := PySem.F.called_set.sub
  refine wpAny_call (codeAny_of_tree (wpAny_pure ⟨Code.quiet_builtin _ (by decide +kernel), codeAny_builtin PySem.F.entry_type_call (by
    rw [(Around.under_plain (weight_type_call_type "set" [.ref l] []) rfl)]
    have n1 := PySem.F.called_set.notType; have n2 := PySem.F.called_set.canCreate; have n3 := PySem.F.typeCall_set_1 (.ref l)
    repeat (any_goals first | assumption | wp_step)
    refine codeAny_mono (code_new1 (.ref l) (E := E) (Q₁ := fun obj s1 => obj = .ref s.heap.objs.size ∧ s1 = { s with heap := s.heap.push (sObj "set" (#[], 0, tb0 w)) }) ⟨rfl, rfl⟩) fun r s1 hr => ?_
    match r, hr with
    | .error e, hr => exact hr
    | .ok (.ret obj), hr =>
      obtain ⟨rfl, rfl⟩ := hr
      have hN : (s.heap.push (sObj "set" (#[], 0, tb0 w))).get? s.heap.objs.size = some (sObj "set" (#[], 0, tb0 w)) := Heap.get?_push_size _ rfl
      have hT : Shared.TypeIs { s with heap := s.heap.push (sObj "set" (#[], 0, tb0 w)) } (.ref s.heap.objs.size) "set" := ⟨_, hN, rfl⟩
      have i1 := PySem.F.called_set.init.lookup; have i2 := PySem.F.called_set.init.bind (.ref s.heap.objs.size)
      repeat (any_goals first | assumption | wp_step)
      refine codeAny_mono (codeAny_call_builtin (R := wants (fun r s2 => r = .none ∧ ∃ h' tk D, s2 = { s with heap := h', toks := tk } ∧ TxW prog w D (insAll xs []) ∧ h'.get? s.heap.objs.size = some (sObj "set" D) ∧
          (∀ b o, b < s.heap.objs.size → s.heap.get? b = some o → h'.get? b = some o)) E) PySem.F.called_set.init.plain PySem.F.entry_set_init (check_set_init_1 hT ?_)) fun r2 s2 hr2 => ?_
      · obtain ⟨⟨oc, od, da, os⟩, ho, hc, nl, hd⟩ := hl
        simp only at hc hd
        subst hc hd
        have ho2 : (s.heap.push (sObj "set" (#[], 0, tb0 w))).get? l = some { cls := .type "list", dict := od, data := .seq items nl, slots := os } := Heap.get?_push_of_some _ ho
        have q1 := PySem.F.sub_list_set; have q2 := PySem.F.sub_list_frozenset; have q3 : (Value.type "list" == Value.type "dict") = false := by decide
        have hl1 : (s.heap.push (sObj "set" (#[], 0, tb0 w))).IsList l items := ⟨_, ho2, rfl, nl, rfl⟩
        unfold Builtin.«set.__init__»; unfold noKeywords; unfold Builtin.Frozenset.updateFrom
        generalize hPI : pyIter = PI
        wp_walk
        subst hPI
        refine wpAny_pyIter_list hl1 (wpAny_bind (wpAny_runValue ?_))
        have lS : l < s.heap.objs.size := Heap.lt_size ho
        have h3 : A.in1.in1.in1.handled = none := by simp [hh]
        have neI : l ≠ (s.heap.push (sObj "set" (#[], 0, tb0 w))).objs.size := by
          rw [Heap.size_push]
          exact Nat.ne_of_lt (Nat.lt_succ_of_lt lS)
        have nfp : s.heap.objs.size ∉ [(s.heap.push (sObj "set" (#[], 0, tb0 w))).objs.size, l] := by
          rw [Heap.size_push]
          intro z
          rcases (List.mem_cons.mp z) with z | z
          · omega
          · rw [List.mem_singleton] at z
            exact absurd z (Nat.ne_of_gt lS)
        have len : xs.length = items.size := by rw [← StrsAre.len_eq hi, Array.length_toList]
        refine upd_loop ((Walks.list h3 _ l neI items).toS) s.heap.objs.size nfp xs len (fun i v hv => str_at hi i v (by rw [Array.getElem?_toList]; exact hv)) (by omega) (items.size - 0) 0 _ (#[], 0, tb0 w) [] (by omega) (Nat.zero_le _) (Nat.le_refl _)
          ⟨⟨_, Heap.get?_push_size _ rfl, rfl, rfl⟩, hl1.push _⟩ (Heap.get?_push_of_some _ hN) (new_keeps _ _) fun s3 D3 hm ho3 F3 => ?_
        obtain ⟨h', g', d', tk', os'⟩ := s3
        obtain rfl : g' = s.gens := hm.gens
        obtain rfl : d' = s.drawn := hm.drawn
        obtain rfl : os' = s.os := hm.os
        refine wpAny_pure (wpAny_pure ⟨rfl, h', tk', D3, rfl, F3, ho3, fun b o hb e => hm.heap b o (fun z => ?_) (Heap.get?_push_of_some _ (Heap.get?_push_of_some _ e))⟩)
        rcases (List.mem_cons.mp z) with z | z
        · exact absurd z (Nat.ne_of_lt hb)
        · rw [List.mem_singleton, Heap.size_push] at z
          exact absurd z (Nat.ne_of_lt (Nat.lt_succ_of_lt hb))
      · match r2, hr2 with
        | .error e, hr2 => exact hr2
        | .ok (.ret v), hr2 =>
          obtain ⟨rfl, h', tk, D, rfl, F, ho3, hold⟩ := hr2
          repeat (any_goals first | assumption | wp_step)
          exact h _ _ _ F ho3 hold
        | .ok .next, hr2 => exact hr2.elim
        | .ok .brk, hr2 => exact hr2.elim
        | .ok .cont, hr2 => exact hr2.elim
    | .ok .next, hr => exact hr.elim
    | .ok .brk, hr => exact hr.elim
    | .ok .cont, hr => exact hr.elim)⟩))
end
/-- the set at a holds the texts l -/
def SetW (P : Program) (w : World) (a : Addr) (l : List Str) : HO := .ext fun h => ∃ D, h.get? a = some (sObj "set" D) ∧ TxW P w D l
theorem setW_ok {P : Program} {w : World} {H : Hp} {h : Heap} {a : Addr} {D : SD} {l : List Str} (ho : h.get? a = some (sObj "set" D)) (F : TxW P w D l) : ObjOk P w H h a (SetW P w a l) :=
  ⟨⟨D, ho, F⟩, ⟨_, ho⟩, fun h1 h2 z k => by
    obtain ⟨D', e, F'⟩ := z
    exact ⟨D', k _ e, F'⟩⟩
theorem perm_of : ∀ (l ys : List Str), l.Nodup → (∀ y ∈ l, y ∈ ys) → ys.length = l.length → ys.Perm l
  | [], ys, _, _, e => by
    rw [List.length_eq_zero_iff.mp e]
  | y :: l, ys, n, h, e => by
    obtain ⟨n1, n2⟩ := List.nodup_cons.mp n
    obtain ⟨p, q, rfl⟩ := List.append_of_mem (h y List.mem_cons_self)
    have pm : (p ++ y :: q).Perm (y :: (p ++ q)) := List.perm_middle
    refine pm.trans (List.Perm.cons y (perm_of l (p ++ q) n2 (fun z hz => ?_) ?_))
    · have zy : z ≠ y := fun c => n1 (c ▸ hz)
      rcases List.mem_append.mp (h z (List.mem_cons_of_mem _ hz)) with c | c
      · exact List.mem_append_left _ c
      · rcases List.mem_cons.mp c with c | c
        · exact absurd c zy
        · exact List.mem_append_right _ c
    · simp only [List.length_append, List.length_cons] at e ⊢
      omega
theorem strs_are : ∀ (vs : List Value), (∀ v ∈ vs, ∃ y t, v = Value.str y t) → ∃ ys, StrsAre vs ys
  | [], _ => ⟨[], .nil⟩
  | v :: vs, h => by
    obtain ⟨y, t, rfl⟩ := h _ List.mem_cons_self
    obtain ⟨ys, r⟩ := strs_are vs fun u hu => h u (List.mem_cons_of_mem _ hu)
    exact ⟨y :: ys, .cons y t r⟩
theorem strs_mem : ∀ {vs : List Value} {ys : List Str}, StrsAre vs ys → ∀ y t, Value.str y t ∈ vs → y ∈ ys
  | _, _, .cons z u r, y, t, h => by
    rcases (List.mem_cons.mp h) with e | e
    · injection e with e1 e2
      rw [e1]
      exact List.mem_cons_self
    · exact List.mem_cons_of_mem _ (strs_mem r y t e)
section
variable {X : Cx}
/-- set(xs), xs a list of texts -/
theorem cr_setS (hc : X.calm = true) : CallR X (.type "set") (fun vs H Q => ∃ (p : Addr) (ys : List Str), vs = [.ref p] ∧ SqL X.K H p (ys.map V.str) ∧ ys.length ≤ 1000 ∧ ∀ q, H q = none → Q (.ref q) (upd H q (SetW X.prog X.w q (insAll ys [])))) := by
  intro pn s σ H vs us Q I r h
  obtain ⟨p, ys, rfl, hq, hz, q⟩ := h
  rw [Vals.ref1 r]
  obtain ⟨its, rv, pl, _⟩ := I.list hq
  refine call_set_texts (I.ok.hd hc) pl.isList (by simpa using L2.strsAre_of rv) (by unfold scanBound; omega) fun h' tk D F ho keep => ?_
  exact ⟨.ref _, _, I.laid (t' := tk) (fun b o e => keep b o (Heap.lt_size e) e) (Nat.le_refl _) (setW_ok ho F), rfl, q _ (I.hok.fresh (Nat.le_refl _))⟩
/-- sorted(S), S a set of texts -/
theorem cr_sortedW (hc : X.calm = true) : CallR X (.builtin "sorted") (fun vs H Q => ∃ (a : Addr) (l : List Str), vs = [.ref a] ∧ H a = some (SetW X.prog X.w a l) ∧ l.Nodup ∧ l.length < 64 ∧
    ∀ (ys : List Str) (p : Addr), ys.Perm l → sortedS ys = true → H p = none → Q (.ref p) (upd H p (.lst (ys.map V.str)))) := by
  intro pn s σ H vs us Q I r h
  obtain ⟨a, l, rfl, ha, nd, l64, q⟩ := h
  rw [Vals.ref1 r]
  obtain ⟨⟨es, ep, t⟩, ho, F⟩ := (I.hok a _ ha).1
  have sz : es.size = l.length := F.ok.sz
  have small : es.size < scanBound := by unfold scanBound; omega
  refine Calls.call_function_entry PyProof.Rows.kind_sorted PyProof.Rows.plain_sorted PyProof.Rows.entry_sorted (PyProof.Rows.args_sorted1 _) (by
    unfold Builtin.«sorted»
    refine wpAny_bind (m := checkCount "sorted" 1 1 _) (wpAny_pure (wpAny_bind (collect_set (A := X.A.in1) (I.ok.hd hc) ⟨_, ho, rfl, rfl⟩ F.ok.fit small F.ris F.led fun s1 out k1 hz g1 o1 pm => ?_)))
    have all : ∀ v ∈ out, ∃ y u, v = Value.str y u := fun v hv => by
      obtain ⟨e, he, rfl⟩ := List.mem_map.mp (pm.mem_iff.mp hv)
      obtain ⟨⟨k, hk, _⟩, _⟩ := F.ok.el e he
      obtain ⟨u, ev⟩ := Value.isStrOf_shape (x := k) (v := e.2) hk
      exact ⟨k, u, ev⟩
    obtain ⟨zs, hS⟩ := strs_are out all
    have len : out.length = es.size := by rw [pm.length_eq, List.length_map, Array.length_toList]
    have zl : zs.length = l.length := by rw [← hS.len_eq, len, sz]
    have zp : zs.Perm l := perm_of l zs nd (fun y hy => by
      obtain ⟨e, he, z⟩ := (F.ok.mem y).mp hy
      obtain ⟨u, ev⟩ := Value.isStrOf_shape (x := y) (v := e.2) z
      refine strs_mem hS y u (pm.mem_iff.mpr ?_)
      rw [← ev]
      exact List.mem_map.mpr ⟨e, he, rfl⟩) zl
    have o64 : out.length < 64 := by rw [len, sz]; exact l64
    have hoL : (s1.heap.push (seqObj "list" out.toArray 0)).get? s1.heap.objs.size = some (seqObj "list" out.toArray 0) := Heap.get?_push_size _ rfl
    refine wpAny_bind (wpAny_newList (wpAny_bind (wpAny_holding (wpAny_call_entry PyProof.Rows.slot_list_sort ⟨_, hoL, rfl⟩ PyProof.Rows.entry_list_sort
      (list_sort_treeK strKind_oneLt (s := { s1 with heap := s1.heap.push (seqObj "list" out.toArray 0) }) hoL hS.keysOf (fun v₁ v₂ rest e => keyKind_strs (by rw [← e]; exact hS)) o64 fun st' hp hs => ⟨_, rfl, by
        obtain ⟨ys, r1, r2, r3⟩ := sorted_out_str hS hp hs
        obtain ⟨c, hc2⟩ := PyProof.Rows.sortedHeap_at (vs := out) (out := (arrOf st').map (·.2)) hoL
        have hn : H s1.heap.objs.size = none := I.hok.fresh hz
        have ylen : (ys.map V.str).length ≤ sizeLine := by
          rw [List.length_map, r2.length_eq, zl]
          exact Nat.le_trans (Nat.le_of_lt l64) (by decide)
        have k2 : ∀ b u, s.heap.get? b = some u → (PyProof.Rows.sortedHeap (s1.heap.push (seqObj "list" out.toArray 0)) s1.heap.objs.size out ((arrOf st').map (·.2))).get? b = some u := fun b u e => by
          have lt := Heap.lt_size (k1 b u e)
          rw [PyProof.Rows.sortedHeap_old (Nat.ne_of_lt lt) (by rw [size_push']; exact Nat.lt_succ_of_lt lt)]
          exact Heap.get?_push_of_some _ (k1 b u e)
        obtain ⟨hp1, gn1, dr1, tk1, os1⟩ := s1
        dsimp only at g1 o1 hn k2 hc2 ⊢
        subst g1 o1
        refine wpAny_pure ⟨_, rfl, .ref hp1.objs.size, upd H hp1.objs.size (.lst (ys.map V.str)), ?_, rfl, q ys _ (r2.trans zp) r3 hn⟩
        exact I.call (ch := []) (Un.laid k2 hz hn) (I.hok.laid k2 hz ⟨ylen, ((arrOf st').map (·.2)).toList, c, vals_of_strs r1, by rw [Array.toArray_toList]; exact hc2⟩) I.bare (fun _ z => nomatch z)⟩) (PyProof.Rows.args_list_sort _)))) (by rw [sizeLine_eq]; omega)))
end
/-! ### names: the plain mathematics -/
def lowc (c : Nat) : Bool := decide (97 ≤ c) && decide (c ≤ 122)
def upc (c : Nat) : Bool := decide (65 ≤ c) && decide (c ≤ 90)
theorem uni_alpha : ∀ c : Nat, c < 128 → Unicode.isAlpha c = (lowc c || upc c) := by decide +kernel
theorem uni_lower : ∀ c : Nat, c < 128 → Unicode.isLower c = lowc c := by decide +kernel
theorem uni_upper : ∀ c : Nat, c < 128 → (Unicode.isUpper c || Unicode.isTitle c) = upc c := by decide +kernel
/-- the letters of a name -/
def letB (a : List Nat) : Bool := !a.isEmpty && a.all lowc
theorem lower_letters (a : List Nat) : (Txt.isascii (SX.S a) && (Txt.isalpha (SX.S a) && Txt.islower (SX.S a))) = letB a := by
  have e1 : Txt.isascii (SX.S a) = a.all (fun c => decide (c < 128)) := by
    unfold Txt.isascii
    rw [← Array.all_toList]
  have e2 : Txt.isalpha (SX.S a) = (!a.isEmpty && a.all Unicode.isAlpha) := by
    unfold Txt.isalpha
    rw [← Array.all_toList, SX.S_len]
    cases a <;> rfl
  have e3 : Txt.islower (SX.S a) = (a.any Unicode.isLower && !a.any fun c => Unicode.isUpper c || Unicode.isTitle c) := by
    unfold Txt.islower
    rw [← Array.any_toList, ← Array.any_toList]
  rw [e1, e2, e3]
  unfold letB
  cases h : a.all (fun c => decide (c < 128))
  · rw [Bool.false_and]
    symm
    rw [Bool.and_eq_false_iff]
    refine .inr (Bool.eq_false_iff.mpr fun z => ?_)
    have z2 := List.all_eq_true.mp z
    have : a.all (fun c => decide (c < 128)) = true := List.all_eq_true.mpr fun c hc => decide_eq_true (by
      have q := z2 c hc
      unfold lowc at q
      rw [Bool.and_eq_true, decide_eq_true_eq, decide_eq_true_eq] at q
      omega)
    rw [h] at this
    cases this
  · rw [Bool.true_and]
    have h3 : ∀ c ∈ a, c < 128 := fun c hc => of_decide_eq_true (List.all_eq_true.mp h c hc)
    have a1 : a.all Unicode.isAlpha = a.all (fun c => lowc c || upc c) := by
      rw [Bool.eq_iff_iff, List.all_eq_true, List.all_eq_true]
      exact ⟨fun q c hc => by rw [← uni_alpha c (h3 c hc)]; exact q c hc, fun q c hc => by rw [uni_alpha c (h3 c hc)]; exact q c hc⟩
    have a2 : a.any Unicode.isLower = a.any lowc := by
      rw [Bool.eq_iff_iff, List.any_eq_true, List.any_eq_true]
      exact ⟨fun ⟨c, hc, q⟩ => ⟨c, hc, by rw [← uni_lower c (h3 c hc)]; exact q⟩, fun ⟨c, hc, q⟩ => ⟨c, hc, by rw [uni_lower c (h3 c hc)]; exact q⟩⟩
    have a3 : (a.any fun c => Unicode.isUpper c || Unicode.isTitle c) = a.any upc := by
      rw [Bool.eq_iff_iff, List.any_eq_true, List.any_eq_true]
      exact ⟨fun ⟨c, hc, q⟩ => ⟨c, hc, by rw [← uni_upper c (h3 c hc)]; exact q⟩, fun ⟨c, hc, q⟩ => ⟨c, hc, by rw [uni_upper c (h3 c hc)]; exact q⟩⟩
    rw [a1, a2, a3]
    have dis : ∀ c : Nat, lowc c = true → upc c = false := fun c q => by
      unfold lowc at q
      unfold upc
      rw [Bool.and_eq_true, decide_eq_true_eq, decide_eq_true_eq] at q
      rw [Bool.and_eq_false_iff, decide_eq_false_iff_not, decide_eq_false_iff_not]
      omega
    rw [Bool.eq_iff_iff]
    simp only [Bool.and_eq_true, Bool.not_eq_true', List.any_eq_true, List.all_eq_true, Bool.or_eq_true]
    constructor
    · rintro ⟨⟨n, al⟩, _, nu⟩
      refine ⟨n, fun c hc => ?_⟩
      rcases al c hc with q | q
      · exact q
      · exfalso
        have : a.any upc = true := List.any_eq_true.mpr ⟨c, hc, q⟩
        rw [nu] at this
        cases this
    · rintro ⟨n, al⟩
      refine ⟨⟨n, fun c hc => .inl (al c hc)⟩, ?_, ?_⟩
      · cases a with
        | nil => cases n
        | cons c r => exact ⟨c, List.mem_cons_self, al c List.mem_cons_self⟩
      · refine Bool.eq_false_iff.mpr fun q => ?_
        obtain ⟨c, hc, q⟩ := List.any_eq_true.mp q
        rw [dis c (al c hc)] at q
        cases q
/-- without one apostrophe at the end -/
def cutQ (a : List Nat) : List Nat := if a.getLast? = some 39 then a.dropLast else a
def nameB (a : List Nat) : Bool := decide ((cutQ a).length ≤ 6) && letB (cutQ a)
theorem last_at (b : List Nat) (c : Nat) : PySem.Builtin.Str.subAt (SX.S (b ++ [c])) (SX.S [39]) ((SX.S (b ++ [c])).length - (SX.S [39]).length) = decide (c = 39) := by
  have e : (SX.S (b ++ [c])).cps.extract ((SX.S (b ++ [c])).length - (SX.S [39]).length) ((SX.S (b ++ [c])).length - (SX.S [39]).length + (SX.S [39]).length) = [c].toArray := by
    rw [SX.S_len, SX.S_len, List.length_append]
    simp [List.extract]
  show ((SX.S (b ++ [c])).cps.extract ((SX.S (b ++ [c])).length - (SX.S [39]).length) ((SX.S (b ++ [c])).length - (SX.S [39]).length + (SX.S [39]).length) == (SX.S [39]).cps) = _
  rw [e]
  by_cases h : c = 39
  · subst h
    rfl
  · rw [decide_eq_false h, beq_eq_false_iff_ne]
    intro z
    exact h (List.cons.inj (congrArg Array.toList z)).1
theorem rem_quote (a : List Nat) : Txt.removesuffix (SX.S a) (SX.S [39]) = SX.S (cutQ a) := by
  have e := eq_of_beq (PyProof.Rows.removesuffix_closes (SX.S a) (SX.S [39]))
  rw [e]
  rcases List.eq_nil_or_concat a with rfl | ⟨b, c, rfl⟩
  · rfl
  · rw [List.concat_eq_append, last_at]
    have e1 : decide (0 + (SX.S [39]).length ≤ (SX.S (b ++ [c])).length) = true := by
      rw [SX.S_len, SX.S_len, List.length_append]
      exact decide_eq_true (by show 0 + 1 ≤ b.length + 1; omega)
    rw [e1, Bool.true_and]
    unfold cutQ
    rw [List.getLast?_append, List.getLast?_singleton, Option.some_or, List.dropLast_concat]
    by_cases h : c = 39
    · subst h
      rw [decide_eq_true rfl, if_pos rfl, if_pos rfl]
      refine TL.ext_tl ?_
      show ((b ++ [39]).drop 0).take ((((SX.S (b ++ [39])).length : Nat) : Int) - (((SX.S [39]).length : Nat) : Int) - 0).toNat = b
      rw [SX.S_len, SX.S_len, List.length_append, List.drop_zero]
      have : ((((b.length + [39].length : Nat)) : Int) - (([39] : List Nat).length : Nat) - 0).toNat = b.length := by
        show (((b.length + 1 : Nat) : Int) - 1 - 0).toNat = b.length
        omega
      rw [this, List.take_left]
    · rw [decide_eq_false h, if_neg (by decide), if_neg (fun z => h (Option.some.inj z))]
/-! ### drawn words: the plain mathematics -/
abbrev ABC : Str := Str.ofString "abcdefghijklmnopqrstuvwxyz"
theorem abc_nat : ∀ n : Nat, n < 26 → L2.atI ABC.cps.toList (n : Int) = some (97 + n) := by decide +kernel
theorem abc_at {r : Int} (h0 : 0 ≤ r) (h1 : r < 26) : L2.atI ABC.cps.toList r = some (97 + r.toNat) := by
  obtain ⟨n, rfl⟩ := Int.eq_ofNat_of_zero_le h0
  rw [Int.toNat_natCast]
  exact abc_nat n (by omega)
theorem low_abc {n : Nat} (h : n < 26) : lowc (97 + n) = true := by
  unfold lowc
  rw [decide_eq_true (by omega), decide_eq_true (by omega)]
  rfl
theorem mul_one1 {x : Str} (hx : x.length = 1) {n : Int} (h1 : n ≤ 8) (h0 : -8 ≤ n) : MulOk x n := by
  unfold MulOk
  rw [hx]
  obtain ⟨k, rfl⟩ : ∃ k : Nat, n = (k : Int) - 8 := ⟨(n + 8).toNat, by omega⟩
  have : ∀ k : Nat, k < 17 → (decide (((k : Int) - 8) < -(2 ^ 63 : Int)) || decide (((k : Int) - 8) ≥ 2 ^ 63)) = false ∧ (¬ ((k : Int) - 8) < 1 → (((k : Int) - 8) == 1 || (1 : Nat) == 0) = false → ¬ (((1 : Nat) : Int) > (2 ^ 63 - 1) / ((k : Int) - 8))) ∧
    (¬ ((k : Int) - 8) < 1 → (((k : Int) - 8) == 1 || (1 : Nat) == 0) = false → PySem.Builtin.Str.tooLong (1 * ((k : Int) - 8).toNat) = false) := by decide +kernel
  exact this k (by omega)
theorem fold_rep (c : Nat) : ∀ (k : Nat) (acc : Array Nat), (List.replicate k (#[c] : Array Nat)).foldl (· ++ ·) acc = acc ++ (List.replicate k c).toArray
  | 0, acc => by simp
  | k + 1, acc => by
    rw [List.replicate_succ, List.foldl_cons, fold_rep c k, List.replicate_succ]
    apply Array.toList_inj.mp
    simp
theorem mul_rep (c : Nat) (n : Int) : Txt.mul (SX.S [c]) n = SX.S (List.replicate n.toNat c) := by
  unfold Txt.mul
  by_cases h : n < 1
  · rw [if_pos h, show n.toNat = 0 by omega]
    rfl
  · rw [if_neg h]
    by_cases h1 : n = 1
    · subst h1
      rfl
    · have : (n == 1 || (SX.S [c]).length == 0) = false := by
        rw [beq_eq_false_iff_ne.mpr h1]
        rfl
      rw [this, if_neg (by decide)]
      unfold SX.S
      have e : (List.replicate n.toNat (⟨[c].toArray⟩ : Str).cps) = List.replicate n.toNat (#[c] : Array Nat) := rfl
      rw [e, fold_rep]
      simp
theorem cut_last (a : List Nat) {k : Nat} (h : a.length ≤ k) (hk : 0 < k) : L2.cutS (SX.S a) (some (-(k : Int))) none = SX.S a := by
  unfold L2.cutS
  have e : HT.sIx (SX.S a).length 0 (some (-(k : Int))) = 0 := by
    rw [SX.S_len]
    unfold HT.sIx
    simp
    omega
  rw [HT.sIx_none, e, SX.S_len]
  refine TL.ext_tl ?_
  show (a.drop 0).take (a.length - 0) = a
  rw [List.drop_zero, Nat.sub_zero, List.take_length]
theorem cut_to (a : List Nat) (k : Nat) : L2.cutS (SX.S a) none (some (k : Int)) = SX.S (a.take k) := by
  unfold L2.cutS
  rw [HT.sIx_none, HT.sIx_nat, SX.S_len, Nat.sub_zero]
  refine TL.ext_tl ?_
  show (a.drop 0).take (min k a.length) = a.take k
  rw [List.drop_zero]
  by_cases h : k ≤ a.length
  · rw [Nat.min_eq_left h]
  · rw [Nat.min_eq_right (by omega), List.take_of_length_le (Nat.le_refl _), List.take_of_length_le (by omega)]
theorem cut_from (a : List Nat) (k : Nat) : L2.cutS (SX.S a) (some (k : Int)) none = SX.S (a.drop k) := by
  unfold L2.cutS
  rw [HT.sIx_none, HT.sIx_nat, SX.S_len]
  refine TL.ext_tl ?_
  show (a.drop (min k a.length)).take (a.length - min k a.length) = a.drop k
  by_cases h : k ≤ a.length
  · rw [Nat.min_eq_left h, List.take_of_length_le (by rw [List.length_drop]; exact Nat.le_refl _)]
  · rw [Nat.min_eq_right (by omega), List.drop_of_length_le (Nat.le_refl _), List.drop_of_length_le (by omega), List.take_nil]
/-- a word of one to six letters -/
def LW (a : List Nat) : Prop := a ≠ [] ∧ a.length ≤ 6 ∧ a.all lowc = true
theorem LW.put {a : List Nat} {c : Nat} {k : Nat} (h : a.length ≤ 5) (ha : a.all lowc = true) (hc : lowc c = true) : LW (a.take k ++ [c] ++ a.drop k) := by
  refine ⟨by simp, ?_, ?_⟩
  · simp only [List.length_append, List.length_take, List.length_drop, List.length_singleton]
    omega
  · rw [List.all_append, List.all_append]
    have e := List.all_eq_true.mp ha
    rw [List.all_eq_true.mpr fun x hx => e x (List.mem_of_mem_take hx), List.all_eq_true.mpr fun x hx => e x (List.mem_of_mem_drop hx)]
    simp [hc]
theorem LW.rep {a : List Nat} {c n : Nat} (ha : a.all lowc = true) (hc : lowc c = true) (n1 : 1 ≤ n) (n4 : n ≤ 5) : LW (a.take 1 ++ List.replicate n c) := by
  refine ⟨?_, ?_, ?_⟩
  · intro z
    have := congrArg List.length z
    rw [List.length_append, List.length_replicate] at this
    simp at this
    omega
  · simp only [List.length_append, List.length_take, List.length_replicate]
    omega
  · rw [List.all_append]
    have e := List.all_eq_true.mp ha
    rw [List.all_eq_true.mpr fun x hx => e x (List.mem_of_mem_take hx), Bool.true_and]
    exact List.all_eq_true.mpr fun x hx => by
      rw [List.eq_of_mem_replicate hx]
      exact hc
theorem LW.one {c : Nat} (hc : lowc c = true) : LW [c] := ⟨by simp, by simp, by simp [hc]⟩
theorem S_inj {a b : List Nat} (h : SX.S a = SX.S b) : a = b := by
  have := congrArg (fun s : Str => s.cps.toList) h
  simpa [SX.S] using this
theorem ins_all_full : ∀ (xs l : List Str), (insAll xs l).length = xs.length + l.length → xs.Nodup ∧ ∀ x ∈ xs, x ∉ l
  | [], _, _ => ⟨List.nodup_nil, fun _ h => nomatch h⟩
  | x :: xs, l, h => by
    unfold insAll at h
    by_cases hx : x ∈ l
    · exfalso
      unfold ins at h
      rw [if_pos hx] at h
      have := insAll_len xs l
      rw [List.length_cons] at h
      omega
    · unfold ins at h
      rw [if_neg hx] at h
      obtain ⟨h1, h2⟩ := ins_all_full xs (x :: l) (by rw [h]; simp only [List.length_cons]; omega)
      refine ⟨List.nodup_cons.mpr ⟨fun z => h2 x z List.mem_cons_self, h1⟩, fun y hy => ?_⟩
      rcases List.mem_cons.mp hy with rfl | hy
      · exact hx
      · exact fun z => h2 y hy (List.mem_cons_of_mem _ z)
theorem nodup_S : ∀ {ws : List (List Nat)}, (ws.map SX.S).Nodup → ws.Nodup
  | [], _ => List.nodup_nil
  | w :: ws, h => by
    rw [List.map_cons, List.nodup_cons] at h
    exact List.nodup_cons.mpr ⟨fun z => h.1 (List.mem_map_of_mem z), nodup_S h.2⟩
/-- the kth letter from a first one, by fives -/
def five (f k : Nat) : Nat := 97 + (f + 5 * k) % 26
theorem five_inj {f i j : Nat} (hi : i < 20) (hj : j < 20) (h : five f i = five f j) : i = j := by
  unfold five at h
  omega
theorem nodup_range_map {α : Type} {f : Nat → α} {m : Nat} (h : ∀ i j, i < m → j < m → f i = f j → i = j) : ((List.range m).map f).Nodup := by
  rw [List.Nodup, List.pairwise_map]
  refine List.Pairwise.imp_of_mem ?_ List.nodup_range
  intro a b ha hb hne e
  exact hne (h a b (List.mem_range.mp ha) (List.mem_range.mp hb) e)
theorem put_inj {a : List Nat} {k c d : Nat} (h : a.take k ++ [c] ++ a.drop k = a.take k ++ [d] ++ a.drop k) : c = d := by
  have h1 := (List.append_cancel_right h)
  have h2 := (List.append_cancel_left h1)
  exact (List.cons.inj h2).1
theorem lc_str {x : Str} {g : TG} {tt : TT} {te : TE} {vs : List Nat} {σ : L2.St} {H1 : Hp} {D : Addr} {Qd : Hp → Prop} (Pv : Nat → Hp → Prop) (h0 : Pv 0 (upd H1 D (.lst [])))
    (hs : ∀ i c H, x.cps[i]? = some c → Pv i H → g (.str ⟨#[c]⟩) (wipe σ vs) H fun σ2 H2 => wipe σ2 vs = wipe σ vs ∧ tt σ2 H2 fun b H3 =>
      if b = true then te σ2 H3 fun y H4 => ∃ acc, H4 D = some (.lst acc) ∧ acc.length < sizeLine ∧ Pv (i + 1) (upd H4 D (.lst (acc ++ [y]))) else Pv (i + 1) H3) (hd : ∀ H, Pv x.cps.size H → Qd H) :
    ∃ W : Nat → Nat → Hp → Prop, (∃ m, W 0 m (upd H1 D (.lst []))) ∧ ∀ i m H, W i m H →
      ((Its x).stop i H ∧ Qd H) ∨ ((Its x).go i H ∧ ∃ Nx : Hp → Prop, (∀ H', Nx H' → ∃ m', m' < m ∧ W (i + 1) m' H') ∧ ∀ y H', (Its x).yld i H y H' → g y (wipe σ vs) H' fun σ2 H2 => wipe σ2 vs = wipe σ vs ∧ tt σ2 H2 fun b H3 =>
        if b = true then te σ2 H3 fun y H4 => ∃ acc, H4 D = some (.lst acc) ∧ acc.length < sizeLine ∧ Nx (upd H4 D (.lst (acc ++ [y]))) else Nx H3) := by
  refine ⟨fun i m H => m = x.cps.size - i ∧ i ≤ x.cps.size ∧ Pv i H, ⟨x.cps.size, by simp, Nat.zero_le _, h0⟩, ?_⟩
  rintro i m H ⟨rfl, hi, p⟩
  by_cases hlt : i < x.cps.size
  · refine .inr ⟨hlt, Pv (i + 1), fun H' p' => ⟨x.cps.size - (i + 1), by omega, rfl, hlt, p'⟩, fun y H' q => ?_⟩
    obtain ⟨e, c, hc, ev⟩ := q
    subst e ev
    exact hs i c _ hc p
  · have e : i = x.cps.size := by omega
    subst e
    exact .inl ⟨Nat.le_refl _, hd H p⟩
/-! ### names with an apostrophe; the law's own test of names -/
theorem last_low {x : List Nat} (h : x.all lowc = true) : x.getLast? ≠ some 39 := fun z => by
  have := List.all_eq_true.mp h 39 (List.mem_of_getLast? z)
  revert this
  decide
theorem cutQ_lw {x : List Nat} (h : LW x) {k : Nat} (hk : k ≤ 1) : cutQ (x ++ List.replicate k 39) = x := by
  unfold cutQ
  match k, hk with
  | 0, _ => rw [List.replicate_zero, List.append_nil, if_neg (last_low h.2.2)]
  | 1, _ => rw [show List.replicate 1 39 = [39] from rfl, List.getLast?_append, List.getLast?_singleton, Option.some_or, if_pos rfl, List.dropLast_concat]
theorem name_lw {x : List Nat} (h : LW x) {k : Nat} (hk : k ≤ 1) : nameB (x ++ List.replicate k 39) = true ∧ (x ++ List.replicate k 39).length ≤ 7 := by
  constructor
  · unfold nameB letB
    rw [cutQ_lw h hk, h.2.2, decide_eq_true h.2.1]
    cases x with
    | nil => exact absurd rfl h.1
    | cons _ _ => rfl
  · rw [List.length_append, List.length_replicate]
    have := h.2.1
    omega
theorem nodup_of_map {α β : Type} (f : α → β) : ∀ {l : List α}, (l.map f).Nodup → l.Nodup
  | [], _ => List.nodup_nil
  | w :: ws, h => by
    rw [List.map_cons, List.nodup_cons] at h
    exact List.nodup_cons.mpr ⟨fun z => h.1 (List.mem_map_of_mem z), nodup_of_map f h.2⟩
theorem sIx_neg1 (n : Nat) (d : Nat) : HT.sIx n d (some (-1)) = n - 1 := by
  unfold HT.sIx
  simp
  omega
theorem cut_but1 (t : List Nat) : L2.cutS (SX.S t) none (some (-1)) = SX.S t.dropLast := by
  unfold L2.cutS
  rw [HT.sIx_none, sIx_neg1, SX.S_len, Nat.sub_zero]
  refine TL.ext_tl ?_
  show (t.drop 0).take (t.length - 1) = t.dropLast
  rw [List.drop_zero, List.dropLast_eq_take]
theorem cut_end1 (t : List Nat) : L2.cutS (SX.S t) (some (-1)) none = SX.S (t.drop (t.length - 1)) := by
  unfold L2.cutS
  rw [HT.sIx_none, sIx_neg1, SX.S_len]
  refine TL.ext_tl ?_
  show (t.drop (t.length - 1)).take (t.length - (t.length - 1)) = t.drop (t.length - 1)
  rw [List.take_of_length_le]
  rw [List.length_drop]
  exact Nat.le_refl _
theorem drop_last (t : List Nat) : (t.drop (t.length - 1) = [39]) ↔ t.getLast? = some 39 := by
  rcases List.eq_nil_or_concat t with rfl | ⟨b, c, rfl⟩
  · simp
  · rw [List.concat_eq_append, List.getLast?_append, List.getLast?_singleton, Option.some_or]
    have e : (b ++ [c]).length - 1 = b.length := by simp
    rw [e, List.drop_left]
    simp
theorem abc_mem (c : Nat) : decide (c ∈ ABC.cps.toList) = lowc c := by
  rw [show ABC.cps.toList = (List.range 26).map (97 + ·) by decide +kernel]
  unfold lowc
  rw [Bool.eq_iff_iff, decide_eq_true_eq, Bool.and_eq_true, decide_eq_true_eq, decide_eq_true_eq, List.mem_map]
  constructor
  · rintro ⟨k, hk, rfl⟩
    have := List.mem_range.mp hk
    omega
  · rintro ⟨h1, h2⟩
    exact ⟨c - 97, List.mem_range.mpr (by omega), by omega⟩
/-! ### lists of texts as data -/
theorem shape_strs : ∀ l : List Str, l.length ≤ 2 → (∀ x ∈ l, PyData.strOk x = true) → SeqAt.shaped (.list (l.map PyData.str)) = true
  | [], _, _ => rfl
  | [x], _, h => by
    show ((PyData.strOk x && true) && true) = true
    rw [h x List.mem_cons_self]
    rfl
  | [x, y], _, h => by
    show ((PyData.strOk x && (PyData.strOk y && true)) && true) = true
    rw [h x List.mem_cons_self, h y (List.mem_cons_of_mem _ List.mem_cons_self)]
    rfl
  | _ :: _ :: _ :: _, h, _ => by simp at h
theorem eqvAll_strs : ∀ l : List Str, PyData.eqvAll (l.map PyData.str) (l.map PyData.str) = true
  | [] => rfl
  | x :: l => by
    show (PyData.eqv (.str x) (.str x) && PyData.eqvAll (l.map PyData.str) (l.map PyData.str)) = true
    rw [eqvAll_strs l, Bool.and_true]
    show (x == x) = true
    exact beq_self_eq_true x
theorem dp_strs {K : PySem.W.Frag} {H : Hp} : ∀ l : List Str, DpAll K H (l.map V.str) (l.map PyData.str)
  | [] => .nil
  | x :: l => .cons (.str x) (dp_strs l)
theorem strOk_name {x : List Nat} (h : nameB x = true) : PyData.strOk (SX.S x) = true := by
  unfold nameB letB at h
  rw [Bool.and_eq_true, Bool.and_eq_true] at h
  have hl := List.all_eq_true.mp h.2.2
  have key : ∀ c ∈ x, c < 0x110000 := fun c hc => by
    by_cases e : c ∈ cutQ x
    · have := hl c e
      unfold lowc at this
      rw [Bool.and_eq_true, decide_eq_true_eq, decide_eq_true_eq] at this
      omega
    · unfold cutQ at e
      split at e
      · rename_i z
        rcases List.eq_nil_or_concat x with rfl | ⟨b, d, rfl⟩
        · cases hc
        · rw [List.concat_eq_append] at *
          rw [List.getLast?_append, List.getLast?_singleton, Option.some_or] at z
          rw [List.dropLast_concat] at e
          rcases List.mem_append.mp hc with k | k
          · exact absurd k e
          · rw [List.mem_singleton.mp k, Option.some.inj z]
            decide
      · exact absurd hc e
  unfold PyData.strOk
  rw [← Array.all_toList, show (SX.S x).cps.toList = x by simp [SX.S]]
  exact List.all_eq_true.mpr fun c hc => decide_eq_true (key c hc)
/-! ### a field of an error of any base is stored -/
section
open PySem.W PySem.Calls Builtin Builtin.ObjectAttr
variable {prog : Program} {w : World} {A : Around} {R : Result → Shared → Prop} {hp : Heap} {gg : Array GenState} {dr : Drawn} {tk0 : Nat} {os : OsState}
/-- what a class's order of bases must be like -/
structure Ord (mro : List Value) : Prop where
  pass : ∀ self : Value, refuseLoop self "__setattr__" mro = pure ()
  ob : mro.contains (.type "object") = true
  ne : mro.isEmpty = false
theorem osa_to {K : W.Frag} {nm : Str} {tk : Tok} {v : Value} {x C : Addr} {dd : Option Addr} {dob : Option Obj} {fv : Array Value} {cd : ClassData} (kin : K.In hp) (hx : hp.get? x = some { cls := .ref C, dict := dd, data := .fields fv })
    (inst : W.InstAt hp x { cls := .ref C, dict := dd, data := .fields fv } C dob) (hcd : W.clsIn K C = some cd) (o : Ord cd.mro) (own : W.findIn K (.ref C) nm = some none)
    (go : wpAny (model prog w) A.in1 (storeInOwnDict (.ref x) (.ref C) (.str nm tk) nm v false) (fun f s => R (.ok (.ret .none)) s ∧ f = .done (.ret .none)) (fun e s => R (.error e) s) ⟨hp, gg, dr, tk0, os⟩) :
    codeAny (model prog w) A (.call (.builtin "object.__setattr__") ⟨[.ref x, .str nm tk, v], []⟩) R ⟨hp, gg, dr, tk0, os⟩ := by
  have so := F.store_object
  have isOb : W.Looks (model prog w) hp (isInstance (.ref x) (.type "object")) true := by
    refine inst.type.andThen (W.looks_mroIn kin ?_)
    unfold W.mroIn
    rw [hcd, Option.bind_some, o.ne, if_neg Bool.false_ne_true, o.ob]
  have order : W.Looks (model prog w) hp (mroOf (.ref C)) cd.mro := (W.looks_clsIn kin hcd).andThen .now
  have taker : W.Looks (model prog w) hp (storeTaker? none) none := .now
  refine codeAny_call_builtin so.slot.plain so.entry ?_
  refine @W.check_slot (model prog w) _ _ ⟨hp, gg, dr, tk0, os⟩ "object.__setattr__" "object" "__setattr__" (.ref x) [.str nm tk, v] [] _ so.kind so.split isOb (so.args (.ref x) (.str nm tk) v) ?_
  rw [W.osa_eq, refuse_eq]
  refine wpAny_bind (wpAny_bind (inst.type.at (wpAny_bind (order.at ?_))))
  rw [o.pass]
  refine wpAny_pure (wpAny_bind (inst.type.at (wpAny_bind ((W.looks_findIn kin own).at (wpAny_bind (taker.at ?_))))))
  refine wpAny_mono go (fun f s q => ?_) fun e s q => q
  obtain ⟨q, rfl⟩ := q
  exact q
/-- the first field -/
theorem osa_first {K : W.Frag} {nm : Str} {tk : Tok} {v : Value} {x C : Addr} {fv : Array Value} {cd : ClassData} (kin : K.In hp) (hx : hp.get? x = some { cls := .ref C, data := .fields fv })
    (hcd : W.clsIn K C = some cd) (hd : cd.hasDict = true) (o : Ord cd.mro) (own : W.findIn K (.ref C) nm = some none)
    (fin : ∀ h2 t2 dx, (∀ b u, b ≠ x → hp.get? b = some u → h2.get? b = some u) → hp.objs.size ≤ dx → dx ≠ x → h2.get? x = some { cls := .ref C, dict := some dx, data := .fields fv } → h2.Ns1 dx (fun y => if y = nm then some v else none) → R (.ok (.ret .none)) ⟨h2, gg, dr, t2, os⟩) :
    codeAny (model prog w) A (.call (.builtin "object.__setattr__") ⟨[.ref x, .str nm tk, v], []⟩) R ⟨hp, gg, dr, tk0, os⟩ := by
  refine osa_to (dob := none) kin hx ⟨hx, rfl, rfl, trivial⟩ hcd o own ?_
  have cls : W.Looks (model prog w) hp (classData C) cd := W.looks_clsIn kin hcd
  have xn : x ≠ hp.objs.size := Nat.ne_of_lt (Heap.lt_size hx)
  obtain ⟨c1, c2, c3, c4, c5, c6, c7, c8, c9, c10, c11⟩ := cd
  have hd : c6 = true := hd
  subst hd
  unfold storeInOwnDict ownDictForStores
  repeat (first | with_reducible refine HandSPX.store_in_new ?_ ?_ | with_reducible refine wpAny_loadPart_at hx ?_ | with_reducible refine cls.at ?_ | wp_step)
  · exact ⟨_, #[], _, (Heap.get?_update_ne _ _ _ _ xn.symm).trans (Heap.get?_push_at rfl rfl), rfl, fun e he => absurd he (by simp), fun _ => rfl⟩
  · intro h2 t2 hn sb
    refine ⟨fin h2 t2 hp.objs.size (fun b u nb hb => ?_) (Nat.le_refl _) xn.symm ?_ hn, rfl⟩
    · exact (sb.2 b (Nat.ne_of_lt (Heap.lt_size hb))).trans ((Heap.get?_update_ne _ _ _ _ nb).trans (Heap.get?_push_of_some _ hb))
    · exact (sb.2 x xn).trans (Heap.get?_update_self _ (Heap.get?_push_of_some _ hx) rfl)
/-- a further field -/
theorem osa_more {K : W.Frag} {nm : Str} {tk : Tok} {v : Value} {x C dx : Addr} {fv : Array Value} {cd : ClassData} {m0 : Str → Option Value} {nl : List Str} (kin : K.In hp) (hx : hp.get? x = some { cls := .ref C, dict := some dx, data := .fields fv })
    (hns : hp.Ns1 dx m0) (hw : Within m0 nl) (hz : nl.length ≤ 1000) (hcd : W.clsIn K C = some cd) (hd : cd.hasDict = true) (o : Ord cd.mro) (own : W.findIn K (.ref C) nm = some none)
    (fin : ∀ h2 t2, (∀ b u, b ≠ dx → hp.get? b = some u → h2.get? b = some u) → h2.Ns1 dx (fun y => if y = nm then some v else m0 y) → R (.ok (.ret .none)) ⟨h2, gg, dr, t2, os⟩) :
    codeAny (model prog w) A (.call (.builtin "object.__setattr__") ⟨[.ref x, .str nm tk, v], []⟩) R ⟨hp, gg, dr, tk0, os⟩ := by
  obtain ⟨od, e1, e2, hod, _, _⟩ := hns.count hw
  refine osa_to (dob := some od) kin hx ⟨hx, rfl, rfl, hod⟩ hcd o own ?_
  have cls : W.Looks (model prog w) hp (classData C) cd := W.looks_clsIn kin hcd
  obtain ⟨c1, c2, c3, c4, c5, c6, c7, c8, c9, c10, c11⟩ := cd
  have hd : c6 = true := hd
  subst hd
  unfold storeInOwnDict ownDictForStores
  repeat (first | with_reducible refine OEX.store_in_old hns hw hz ?_ | with_reducible refine wpAny_loadPart_at hx ?_ | with_reducible refine cls.at ?_ | wp_step)
  intro h2 t2 hn sb
  exact ⟨fin h2 t2 (fun b u nb hb => (sb.2 b nb).trans hb) hn, rfl⟩
end
/-! ### an own error class of any base, its __init__ walked -/
structure OexG (K : PySem.W.Frag) (nw : String) (tl : List Value) (C : Addr) : Prop where
  cls : ∃ nm q N bs bm sn sub ab col dd k0 k1 k2 k3 k5, K.lookup C = some (excClassObj nm q C N bs bm true sn sub ab col dd k0 k1 k2 k3 k5 nw) ∧ Ord (.ref C :: bm) ∧ ∀ Y : String, bm.contains (.type Y) = tl.contains (.type Y)
  sa : PySem.W.findIn K (.ref C) "__setattr__" = some (some (.builtin "object.__setattr__"))
  exC : PySem.W.subIn K (.ref C) (.type "BaseException") = some true
  tyC : PySem.W.typeIn K (.ref C) = some (.type "type")
  kC : PySem.W.keepIn K (.ref C) = true
theorem OexG.data {K : PySem.W.Frag} {nw : String} {tl : List Value} {C : Addr} (T : OexG K nw tl C) : ∃ cd : ClassData, PySem.W.clsIn K C = some cd ∧ cd.hasDict = true ∧ Ord cd.mro := by
  obtain ⟨nm, q, N, bs, bm, sn, sub, ab, col, dd, k0, k1, k2, k3, k5, hC, o, _⟩ := T.cls
  refine ⟨{ name := nm, bases := bs, mro := .ref C :: bm, ns := N, qualname := q, hasDict := true, slotNames := sn, subclasses := sub, abstract := ab, collection := col, hasDel := false }, ?_, rfl, o⟩
  unfold PySem.W.clsIn
  rw [hC] <;> rfl
section
variable {X : Cx} {pins : List (Addr × Obj)} {σ : L2.St} {H : Hp} {s : Shared} {a C dx : Addr} {f : Str} {y : V} {u : Value} {fs : List (Str × V)} {Q : Unit → Shared → Prop} {E : Value → Shared → Prop} {A : Around} {nw : String} {tl : List Value}
/-- tracked things stay where an exception's object and its new dict are written -/
theorem un_exc {hp h2 : Heap} (hn : H dx = none) (e : H a = some (exo a C none)) (dn : hp.objs.size ≤ dx) (k : ∀ b o, b ≠ a → hp.get? b = some o → h2.get? b = some o) (at2 : ∃ o, h2.get? a = some o) {o1 : Obj} (at1 : hp.get? a = some o1) :
    Un X.fs [] H (upd (upd H dx (exd dx [(f, y)])) a (exo a C (some dx))) hp h2 := by
  have old : ∀ {b : Addr} {o : Obj}, hp.get? b = some o → b ≠ dx := fun {b o} q => Nat.ne_of_lt (Nat.lt_of_lt_of_le (Heap.lt_size q) dn)
  have other : ∀ {b : Addr}, H b = none → b ≠ a := fun {b} z w => by rw [w, e] at z; cases z
  constructor
  case keep => exact fun b o q z _ _ => k b o (other z) q
  case slot => exact fun b o q z _ _ => ⟨o.slots, k b o (other z) q⟩
  case free => exact fun b o q z _ => (upd_ne (other z)).trans ((upd_ne (old q)).trans z)
  case there =>
    intro b o q _
    by_cases w : b = a
    · exact w ▸ at2
    · exact ⟨o, k b o w q⟩
  case tups => exact fun b xs q => (upd_ne (at_ne e q exo_tup)).trans ((upd_ne (ne_of_none q hn)).trans q)
  case frzs => exact fun b o v q => (upd_ne (at_ne e q exo_frz)).trans ((upd_ne (ne_of_none q hn)).trans q)
  case tbls =>
    intro b ps q
    refine ⟨#[], ?_⟩
    rw [upd_ne (at_ne e q exo_tbl), upd_ne (ne_of_none q hn), q]
    simp
theorem first_fld (T : OexG X.K nw tl C) (I : Inv X pins σ H s) (e : H a = some (exo a C none)) (hno : PySem.W.findIn X.K (.ref C) f = some none) (ry : RelV y u)
    (fin : ∀ dx s2, H dx = none → dx ≠ a → Inv X pins σ (upd (upd H dx (exd dx [(f, y)])) a (exo a C (some dx))) s2 → Q () s2) : wpAny (model X.prog X.w) A (setAttr (.ref a) f u) Q E s := by
  obtain ⟨cd, hcd, hd, o⟩ := T.data
  obtain ⟨t1, ho⟩ := exo_at I.hok e
  obtain ⟨hp, gg, dr, tk, os⟩ := s
  refine PySem.W.set_plain (ox := { cls := .ref C, dict := none, data := .fields #[.ref t1, .none, .none, .none, .bool false, .none] }) (od := none) I.kIn ⟨ho, rfl, rfl, trivial⟩ T.sa ?_
  refine osa_first I.kIn ho hcd hd o hno fun h2 t2 dx k dn dne hx hns => ?_
  have hn : H dx = none := I.hok.fresh dn
  refine fin dx _ hn dne (I.un (t' := t2) (un_exc hn e dn k ⟨_, hx⟩ ho) fun b w q => ?_)
  by_cases ba : b = a
  · subst ba
    rw [upd_same] at q
    cases q
    exact exo_ok hx
  rw [upd_ne ba] at q
  by_cases bd : b = dx
  · subst bd
    rw [upd_same] at q
    cases q
    exact exd_ok hns (relO_put (fs := []) ry fun g => True.intro)
  rw [upd_ne bd] at q
  refine (I.hok b w q).stay (fun c v hc z => k c v ?_ z) (fun c hc => ?_) fun c xs hc => ?_
  · rcases hc with rfl | hc
    · exact ba
    · exact at_ne e hc exo_own
  · exact (upd_ne (at_ne e hc exo_own)).trans ((upd_ne (ne_of_none hc hn)).trans hc)
  · exact (upd_ne (at_ne e hc exo_tup)).trans ((upd_ne (ne_of_none hc hn)).trans hc)
theorem more_fld (T : OexG X.K nw tl C) (I : Inv X pins σ H s) (e : H a = some (exo a C (some dx))) (ed : H dx = some (exd dx fs)) (hl : fs.length ≤ 900) (hno : PySem.W.findIn X.K (.ref C) f = some none) (ry : RelV y u)
    (fin : ∀ s2, Inv X pins σ (upd H dx (exd dx ((f, y) :: fs))) s2 → Q () s2) : wpAny (model X.prog X.w) A (setAttr (.ref a) f u) Q E s := by
  obtain ⟨cd, hcd, hd, o⟩ := T.data
  obtain ⟨t1, ho⟩ := exo_at I.hok e
  obtain ⟨mA, hns, rel⟩ := exd_at I.hok ed
  have wi := within_of rel
  obtain ⟨hp, gg, dr, tk, os⟩ := s
  obtain ⟨oD, _, _, hoD, _, _⟩ := hns.count wi
  refine PySem.W.set_plain (ox := { cls := .ref C, dict := some dx, data := .fields #[.ref t1, .none, .none, .none, .bool false, .none] }) (od := some oD) I.kIn ⟨ho, rfl, rfl, hoD⟩ T.sa ?_
  refine osa_more I.kIn ho hns wi (by rw [List.length_map]; omega) hcd hd o hno fun h2 t2 k hn => ?_
  have there : ∃ w, h2.get? dx = some w := by
    obtain ⟨w, _, _, e2, _⟩ := hn
    exact ⟨w, e2⟩
  exact fin _ (I.write (t' := t2) (x := dx) (e := dx) (o := exd dx ((f, y) :: fs)) (by rw [ed]; exact True.intro) (.inl rfl) k there (exd_ok hn (relO_put ry rel)))
end
/-- self.f = e -/
def tOsG (K : PySem.W.Frag) (f : Str) (to te : TE) : TS := fun D σ H => te σ H fun y H1 => to σ H1 fun x H2 => ∃ (a C : Addr) (nw : String) (tl : List Value), x = .ref a ∧ OexG K nw tl C ∧ PySem.W.findIn K (.ref C) f = some none ∧
  ((H2 a = some (exo a C none) ∧ ∀ dx, H2 dx = none → dx ≠ a → D.nx σ (upd (upd H2 dx (exd dx [(f, y)])) a (exo a C (some dx)))) ∨
    ∃ (dx : Addr) (fs : List (Str × V)), H2 a = some (exo a C (some dx)) ∧ H2 dx = some (exd dx fs) ∧ fs.length ≤ 900 ∧ D.nx σ (upd H2 dx (exd dx ((f, y) :: fs))))
theorem ps_osg {X : Cx} {o e : Expr} {to te : TE} {f : Str} {p pos : Pos} (ho : PE X o to) (he : PE X e te) (hs : swapsWith e (some (.Attribute o f p)) pos.line X.env = pure false := by rfl) : PS X (.Assign [.Attribute o f p] e pos) (tOsG X.K f to te) := by
  refine ⟨fun pins s σ H D I h => ?_⟩
  refine plainObj_wpAny_Assign_Attribute (thn (he.run pins s σ H _ I h) fun v s1 hv => ?_) hs
  obtain ⟨y, H1, I1, r1, q1⟩ := hv
  refine thn (ho.run pins s1 σ H1 _ I1 q1) fun u s2 hu => ?_
  obtain ⟨x, H2, I2, r2, a, C, nw, tl, ex, T, hno, q⟩ := hu
  subst ex
  cases (show u = Value.ref a from r2)
  rcases q with ⟨ea, q⟩ | ⟨dx, fs, ea, ed, hl, q⟩
  · exact first_fld T I2 ea hno r1 fun dx s3 n ne J => ⟨σ, _, J, q dx n ne⟩
  · exact more_fld T I2 ea ed hl hno r1 fun s3 J => ⟨σ, _, J, q⟩
/-! ### C(..) as a value -/
section
variable {X : Cx} {C fI : Addr} {k : Nat} {fd : FuncData} {ps : List Str} {sp : Sp} {nw B initId : String} {tl : List Value} {CX : CXT}
theorem call_exg {pins : List (Addr × Obj)} {σ : L2.St} {H : Hp} {s : Shared} {vs : List V} {us : List Value} {Q : VK} (F : ExcBaseFacts B nw initId tl) (T : OexG X.K nw tl C) (iC : PySem.W.findIn X.K (.ref C) "__init__" = some (some (.ref fI))) (tI : PySem.W.typeIn X.K (.ref fI) = some (.type "function"))
    (F1 : FnOk X.prog X.w X.K X.mg X.base CX k fI fd ps sp) (hr : Room (k + 1) X.A) (hb : Binds X.K fd ps []) (hx : Passes CX X (fun _ _ _ => False)) (I : Inv X pins σ H s) (rv : Vals vs us) (hz : vs.length ≤ 1000)
    (q : ∀ a, H a = none → sp (.ref a :: vs) (upd H a (exo a C none)) (fun v H2 => v = .non ∧ Q (.ref a) H2) (fun _ _ _ => False)) : wpAny (model X.prog X.w) X.A (call (.ref C) us) (EP X pins σ Q) X.xe s := by
  obtain ⟨nm, qn, N, bs, bm, sn, sub, ab, col, dd, k0, k1, k2, k3, k5, hC, o, hT⟩ := T.cls
  obtain ⟨hp, gg, dr, tk, os⟩ := s
  have later : hp.objs.size ≤ hp.objs.size + 1 := Nat.le_succ _
  have spec := q (hp.objs.size + 1) (I.hok.fresh later)
  have here : ((hp.push (PySem.W.kdv_tup us)).push (PySem.HandSPX.excO C hp.objs.size)).get? (hp.objs.size + 1) = some (PySem.HandSPX.excO C hp.objs.size) := by heap_get
  have I2 : Inv X pins σ (upd H (hp.objs.size + 1) (exo (hp.objs.size + 1) C none)) ⟨(hp.push (PySem.W.kdv_tup us)).push (PySem.HandSPX.excO C hp.objs.size), gg, dr, tk, os⟩ :=
    I.laid (t' := tk) (o := exo (hp.objs.size + 1) C none) (fun b w e => Heap.get?_push_of_some _ (Heap.get?_push_of_some _ e)) later (exo_ok here)
  have both : Vals (V.ref (hp.objs.size + 1) :: vs) (Value.ref (hp.objs.size + 1) :: us) := .cons rfl rv
  have cnt : (Value.ref (hp.objs.size + 1) :: us ++ []).length = ps.length := by
    rw [List.append_nil, ← Paired.length both]
    exact F1.len _ _ _ _ spec
  have few : us.length ≤ sizeLine := by
    rw [← Paired.length rv, sizeLine_eq]
    omega
  have bnd := hb _ (Value.ref (hp.objs.size + 1) :: us) I2.kIn cnt
  rw [List.append_nil] at bnd
  refine wpAny_call (PySem.HandSPX.call_own F hT (I.kIn _ _ hC) (PySem.W.looks_findIn I.kIn iC) (fun self => PySem.W.bind_fn I.kIn self tI) few (codeAny_mono (F1.run _ X.stack _ _ ⟨Value.ref (hp.objs.size + 1) :: us, []⟩ (Value.ref (hp.objs.size + 1) :: us) _ _ (fun _ _ _ => False) (hr.make C us []) (I2.env0.make C us []) bnd both spec) fun r s2 res => ?_))
  rcases r with er | fl
  · exact hx pins σ _ _ er s2 I2 res
  · cases fl with
    | ret u =>
      obtain ⟨v, H2, os2, bare2, un2, hok2, rr, ev, q2⟩ := res
      subst ev
      obtain ⟨h2, g2, d2, t2, os3⟩ := s2
      exact ⟨rr, .ref (hp.objs.size + 1), H2, I2.call' (ch := []) os2 un2 hok2 bare2 (fun b z => absurd z (by simp)), rfl, q2⟩
    | next => exact res.elim
    | brk => exact res.elim
    | cont => exact res.elim
def tNew (C : Addr) (sp : Sp) (ta : TA) : TE := fun σ H Q => ta σ H fun vs H1 => vs.length ≤ 1000 ∧ ∀ a, H1 a = none → sp (.ref a :: vs) (upd H1 a (exo a C none)) (fun v H2 => v = .non ∧ Q (.ref a) H2) (fun _ _ _ => False)
theorem pe_exg {x : Str} {e : Expr} {es : List Expr} {ta : TA} {p pos : Pos} (F : ExcBaseFacts B nw initId tl) (T : OexG X.K nw tl C) (iC : PySem.W.findIn X.K (.ref C) "__init__" = some (some (.ref fI))) (tI : PySem.W.typeIn X.K (.ref fI) = some (.type "function"))
    (F1 : FnOk X.prog X.w X.K X.mg X.base CX k fI fd ps sp) (hr : Room (k + 1) X.A) (hb : Binds X.K fd ps []) (hx : Passes CX X (fun _ _ _ => False)) (hg : Gl X x) (hm : X.mg x = some (.ref C)) (ha : PA X (e :: es) ta)
    (hdb : (x == ("__debug__" : Str)) = false := by decide) (he : starEach (e :: es) X.env = (false, eval e X.env) :: starEach es X.env := by rfl) (hpl : (backTo pos (starEach es X.env)).any (·.1) = false := by rfl) :
    PE X (.Call (.Name x p) (e :: es) [] pos) (tNew C sp ta) := by
  refine ⟨fun pins s σ H Q I h => wpAny_Call_Name_kw (ld_glob I hg hm ?_ hdb)⟩
  refine PySem.W.callWith_K (h₀ := X.base) I.ok.mod.kin T.kC (thn (ha.run pos pins s σ H _ I h) fun us s1 z => ?_) he hpl
  obtain ⟨vs, H1, I1, r1, hz, q1⟩ := z
  exact ⟨I1.kIn, call_exg F T iC tI F1 hr hb hx I1 r1 hz q1⟩
theorem pe_exg0 {x : Str} {p pos : Pos} (F : ExcBaseFacts B nw initId tl) (T : OexG X.K nw tl C) (iC : PySem.W.findIn X.K (.ref C) "__init__" = some (some (.ref fI))) (tI : PySem.W.typeIn X.K (.ref fI) = some (.type "function"))
    (F1 : FnOk X.prog X.w X.K X.mg X.base CX k fI fd ps sp) (hr : Room (k + 1) X.A) (hb : Binds X.K fd ps []) (hx : Passes CX X (fun _ _ _ => False)) (hg : Gl X x) (hm : X.mg x = some (.ref C)) (hdb : (x == ("__debug__" : Str)) = false := by decide) :
    PE X (.Call (.Name x p) [] [] pos) (tNew C sp tNil) := by
  refine ⟨fun pins s σ H Q I h => wpAny_Call_Name_kw (ld_glob I hg hm ?_ hdb)⟩
  exact PySem.W.callWith_K0 I.kIn T.kC (call_exg F T iC tI F1 hr hb hx I .nil (by show 0 ≤ 1000; decide) h.2)
end
/-! ### isinstance of an error that holds fields; its attributes -/
section
open PySem.W PySem.Calls
variable {prog : Program} {w : World} {A : Around} {E : Value → Shared → Prop} {s : Shared} {K : Frag} {x D : Addr} {ox : Obj} {od : Option Obj}
theorem class_found (T : ExcC K D) : findObj K D od "__class__" = some (.bind (.builtin "getset_descriptor.__get__") (.builtin "object.__class__")) := by
  obtain ⟨cd, hc, _⟩ := any_some T.hd
  unfold findObj
  rw [hc, Option.bind_some, T.ha, Option.bind_some]
  simp [T.hn, T.ht]
theorem class_asked {Q : Option Value → Shared → Prop} (T : ExcC K D) (kin : K.In s.heap) (I : InstAt s.heap x ox D od) (go : Q (some (.ref D)) { s with toks := s.toks + 1 }) : wpAny (model prog w) A (getAttr? (.ref x) "__class__") Q E s := by
  obtain ⟨hp, gg, dr, tk, os⟩ := s
  have lt := I.type (M := model prog w)
  have lg := looks_findIn (M := model prog w) kin T.hg
  have lk := looks_findIn (M := model prog w) kin T.hk
  have lf := looks_find (M := model prog w) kin I (class_found T)
  have base : Looks (model prog w) hp (isInstance (.ref x) (.type "BaseException")) true := lt.andThen (looks_subIn kin T.hs)
  have other : (Value.builtin "BaseException.__getattribute__" == Value.builtin "object.__getattribute__") = false := by decide +kernel
  have no1 : (onTheHeap (Value.ref D) && Value.builtin "BaseException.__getattribute__" == Value.builtin "object.__getattribute__") = false := by rw [other]; rfl
  have no2 : (false && onTheHeap (Value.builtin "BaseException.__getattribute__")) = false := rfl
  unfold getAttr? getAttrBy? getAttrBy
  refine wpAny_bind (wpAny_mkText (wpAny_bind (wpAny_attempt (wpAny_holding (wpAny_bind (lt.at (wpAny_bind (lg.at ?_))))))))
  show wpAny _ _ (if (onTheHeap (Value.ref D) && Value.builtin "BaseException.__getattribute__" == Value.builtin "object.__getattribute__") = true then _ else _) _ _ _
  rw [no1, if_neg Bool.false_ne_true]
  unfold getAttrByItsOwn hookBefore
  rw [if_pos (show onTheHeap (Value.ref D) = true from rfl)]
  refine wpAny_bind (lk.at (wpAny_bind (wpAny_attempt (wpAny_holding ?_))))
  unfold callGetattribute
  rw [no2, if_neg Bool.false_ne_true]
  unfold boundAndCalled
  rw [PySem.F.excAttr_ValueError.ga.bind (.ref x)]
  refine wpAny_bind (wpAny_pure ?_)
  show wpAny _ _ (call (.builtin "BaseException.__getattribute__") [.ref x, .str "__class__" tk]) _ _ _
  refine wpAny_call (codeAny_call_builtin PySem.F.excAttr_ValueError.ga.plain PySem.F.entry_bexc_ga ?_)
  refine @check_slot (model prog w) _ _ ⟨hp, gg, dr, tk + 1, os⟩ "BaseException.__getattribute__" "BaseException" "__getattribute__" (.ref x) [.str "__class__" tk] [] _ (by decide +kernel) (by decide +kernel) base (PySem.F.args_bexc_ga (.ref x) (.str "__class__" tk)) ?_
  unfold Builtin.«object.__getattribute__»
  refine wpAny_bind (wpAny_of_eq (a := ((Value.ref x : Value), [Value.str "__class__" tk])) (by first | rfl | (simp only [slotArgs]; rfl)) ?_)
  refine wpAny_bind (wpAny_pure (wpAny_bind (lt.at (wpAny_bind (lf.at ?_)))))
  show wpAny _ _ (holding [Value.builtin "object.__class__"] (call (.builtin "getset_descriptor.__get__") [.builtin "object.__class__", .ref x, .ref D]) >>= ret) _ _ _
  refine wpAny_bind (wpAny_holding (wpAny_call (class_get (s := ⟨hp, gg, dr, tk + 1, os⟩) (ox := ox) (od := od) kin I T.hm ?_)))
  refine wpAny_pure ?_
  show wpAny _ _ (handedOut (.ref D)) _ _ _
  rw [handedOut_of (v := .ref D) rfl]
  first
    | exact wpAny_pure (wpAny_pure go)
    | exact wpAny_pure go
    | exact wpAny_pure (wpAny_bind (wpAny_pure (wpAny_pure go)))
theorem kit_exd (T : ExcC K D) : KitX K (.ref x) (.ref D) (fun h => ∃ ox od, InstAt h x ox D od) := by
  obtain ⟨cd, hc, _⟩ := any_some T.hd
  unfold clsIn at hc
  split at hc
  case h_2 => cases hc
  case h_1 c1 d1 cd1 sl1 ho =>
    refine ⟨fun M h _ ⟨_, _, I⟩ => I.type, fun M h kin _ => ?_, fun h tp d2 its n sl kin e => ?_, fun kin ⟨_, _, I⟩ q => class_asked T kin I q⟩
    · intro A' Q' E' s' k q
      unfold isType loadHead
      exact wpAny_bind (wpAny_loadPart (k _ _ (kin _ _ ho)) (wpAny_pure q))
    · refine Bool.eq_false_iff.mpr fun q => ?_
      have same : D = tp := Value.ref.inj (beq_iff_eq.mp q)
      subst same
      have z := (kin _ _ ho).symm.trans e
      cases z
end
/-- isinstance(e, c), e an error that stands in the heap -/
def rIsG (K : PySem.W.Frag) : List V → Hp → VK → Prop := fun xs H Q => ∃ (a C dd : Addr) (c : V) (cv : Value) (b : Bool), xs = [.ref a, c] ∧ H a = some (exo a C (some dd)) ∧ (∃ fs, H dd = some (exd dd fs)) ∧ ExcC K C ∧ (∀ u, RelV c u → u = cv) ∧ PySem.W.kitOne K (.ref C) cv = some b ∧ Q (.bl b) H
theorem inst_exg {X : Cx} {pins : List (Addr × Obj)} {σ : L2.St} {H : Hp} {s : Shared} {a C dd : Addr} {fs : List (Str × V)} (I : Inv X pins σ H s) (e : H a = some (exo a C (some dd))) (ed : H dd = some (exd dd fs)) : ∃ (ox o : Obj) (mA : Str → Option Value), PySem.W.InstAt s.heap a ox C (some o) ∧ (∀ f, RelO (fs.lookup f) (mA f)) ∧ ∀ name, PySem.W.lookIn name o = some (mA name) := by
  obtain ⟨t1, ho⟩ := exo_at I.hok e
  obtain ⟨mA, hns, rel⟩ := exd_at I.hok ed
  obtain ⟨o, h1, h2⟩ := lookIn_ns hns
  exact ⟨_, o, mA, ⟨ho, rfl, rfl, h1⟩, rel, h2⟩
theorem call_isG {X : Cx} : CallR X (.builtin "isinstance") (rIsG X.K) := by
  intro pins s σ H xs us Q I r h
  obtain ⟨a, C, dd, c, cv, b, rfl, ha, ⟨fs, hd⟩, T, hc, e, q⟩ := h
  obtain ⟨u1, u2, rfl, r1, r2⟩ := vals2 r
  cases (show u1 = Value.ref a from r1)
  cases hc _ r2
  obtain ⟨ox, o, mA, J, _, _⟩ := inst_exg I ha hd
  exact PySem.W.kia_one (kit_exd T) I.kIn ⟨ox, _, J⟩ e (fun z => nomatch z) fun tk => ⟨.bl b, H, I.tok tk, rfl, q⟩
/-- isinstance(e, (A, B, ..)) -/
def rIsGT (K : PySem.W.Frag) : List V → Hp → VK → Prop := fun xs H Q => ∃ (a C dd tp : Addr) (cs : List V) (cv : List Value) (b : Bool), xs = [.ref a, .ref tp] ∧ H a = some (exo a C (some dd)) ∧ (∃ fs, H dd = some (exd dd fs)) ∧ ExcC K C ∧ H tp = some (.tup cs) ∧ Paired ClsV cs cv ∧ PySem.W.kitAny K (.ref C) cv = some b ∧ Q (.bl b) H
theorem call_isGT {X : Cx} : CallR X (.builtin "isinstance") (rIsGT X.K) := by
  intro pins s σ H xs us Q I r h
  obtain ⟨a, C, dd, tp, cs, cv, b, rfl, ha, ⟨fs, hd⟩, T, ht, hc, e, q⟩ := h
  obtain ⟨u1, u2, rfl, r1, r2⟩ := vals2 r
  cases (show u1 = Value.ref a from r1)
  cases (show u2 = Value.ref tp from r2)
  obtain ⟨ox, o, mA, J, _, _⟩ := inst_exg I ha hd
  obtain ⟨_, its, rv, ot, h1, h2, n, h3⟩ := (show ObjOk X.prog X.w H s.heap tp (.tup cs) from I.hok tp _ ht)
  cases ClsV.all hc rv
  obtain ⟨oc, od, dt, sl⟩ := ot
  dsimp only at h2 h3
  subst h2 h3
  exact PySem.W.kia_tup (kit_exd T) I.kIn ⟨ox, _, J⟩ h1 e (fun z => nomatch z) fun tk => ⟨.bl b, H, I.tok tk, rfl, q⟩
/-- e.n -/
def tXg (K : PySem.W.Frag) (n : Str) (te : TE) : TE := fun σ H Q => te σ H fun x H1 => ∃ (a C dd : Addr) (fs : List (Str × V)) (v : V), x = .ref a ∧ XfC K C ∧ PySem.W.findIn K (.ref C) n = some none ∧ H1 a = some (exo a C (some dd)) ∧ H1 dd = some (exd dd fs) ∧ fs.lookup n = some v ∧ Q v H1
theorem pe_xg {X : Cx} {e : Expr} {te : TE} {pos : Pos} {n : Str} (he : PE X e te) (hb : attributeBase e n X.env (eval e X.env) = eval e X.env := by rfl) : PE X (.Attribute e n pos) (tXg X.K n te) := by
  refine ⟨fun pins s σ H Q I h => attr_of hb (thn (he.run pins s σ H _ I h) fun u s1 hh => ?_)⟩
  obtain ⟨x, H1, I1, rx, a, C, dd, fs, v, ex, T, hno, ea, ed, l, q⟩ := hh
  subst ex
  cases (show u = Value.ref a from rx)
  obtain ⟨ox, o, mA, J, rel, hl⟩ := inst_exg I1 ea ed
  obtain ⟨u, hu, ru⟩ := RelO.some_of (v := v) (o := mA n) (by rw [← l]; exact rel n)
  exact PySem.HandSPX.exc_get I1.kIn J T.ga T.gg T.exC (PySem.W.findObj_own T.hdC hno rfl (by rw [hl, hu])) (handed_of ru) ⟨v, H1, I1.tok _, ru, q⟩
/-! ### what is known of an error class of any base -/
structure ErrG (K : PySem.W.Frag) (mg : Str → Option Value) (x : Str) (C fI : Addr) (nw : String) (tl : List Value) : Prop where
  g : OexG K nw tl C
  xf : XfC K C
  ex : ExcC K C
  gC : mg x = some (.ref C)
  tag : PySem.W.findIn K (.ref C) "tag" = some none
  iC : PySem.W.findIn K (.ref C) "__init__" = some (some (.ref fI))
  tI : PySem.W.typeIn K (.ref fI) = some (.type "function")
abbrev tlV : List Value := [.type "ValueError", .type "Exception", .type "BaseException", .type "object"]
abbrev tlL : List Value := [.type "LookupError", .type "Exception", .type "BaseException", .type "object"]
abbrev tlI : List Value := [.type "IndexError", .type "LookupError", .type "Exception", .type "BaseException", .type "object"]
/-- __init__(self, v): self.n = v; self.tag = x -/
def spG1 (K : PySem.W.Frag) (n x : Str) : Sp := fun vs H Q _ => ∃ (a C : Addr) (v : V) (nw : String) (tl : List Value), vs = [.ref a, v] ∧ OexG K nw tl C ∧ PySem.W.findIn K (.ref C) n = some none ∧ PySem.W.findIn K (.ref C) "tag" = some none ∧ H a = some (exo a C none) ∧
  ∀ dx, H dx = none → dx ≠ a → Q .non (upd (upd (upd H dx (exd dx [(n, v)])) a (exo a C (some dx))) dx (exd dx [("tag", .str x), (n, v)]))
def spG0 (K : PySem.W.Frag) (x : Str) : Sp := fun vs H Q _ => ∃ (a C : Addr) (nw : String) (tl : List Value), vs = [.ref a] ∧ OexG K nw tl C ∧ PySem.W.findIn K (.ref C) "tag" = some none ∧ H a = some (exo a C none) ∧
  ∀ dx, H dx = none → dx ≠ a → Q .non (upd (upd H dx (exd dx [("tag", .str x)])) a (exo a C (some dx)))
/-! ### what is not reached -/
theorem pe_never {X : Cx} {e : Expr} : PE X e (fun _ _ _ => False) := ⟨fun _ _ _ _ _ _ h => h.elim⟩
theorem pt_never {X : Cx} {e : Expr} : PT X e (fun _ _ _ => False) := ⟨fun _ _ _ _ _ _ h => h.elim⟩
/-! ### try: body, finally: suite; the body may raise, the suite may not -/
def sFin (tb : WX → TS) (tf tfs : TS) (Wo : WX) : TS := fun D σ H => tb (L2.wFin tfs Wo) { nx := fun σ' H' => tf D σ' H', rt := fun _ _ => False } σ H
theorem ps_finB {X : Cx} {body : List Stmt} {g : Stmt} {gs : List Stmt} {pos : Pos} {tb : WX → TS} {tf tfs : TS} {Wo : WX} (hs : X.stack = X.env :: X.outer) (hf : X.env.frame = some X.env.locals) (hex : X.ex = []) (tk : Takes X Wo)
    (hb : ∀ (W : WX) (pn : List (Addr × Obj)) (xe : Value → Shared → Prop), Takes (X.tr pn xe) W → PassesOwn (model X.prog X.w) X.A X.env xe → PSs (X.tr pn xe) body (tb W))
    (h1 : PSs X.nox (g :: gs) tf) (h2 : ∀ (a : Addr) (pn : List (Addr × Obj)), PSs (X.suite a pn) (g :: gs) tfs) : PS X (.Try body [] [] (g :: gs) pos) (sFin tb tf tfs Wo) := by
  refine ⟨fun pins s σ H D I q => wpAny_Try_finally ?_⟩
  have ok := I.ok
  have here := (hb (L2.wFin tfs Wo) (X.pn ++ pins) (fun x s₁ => wpAny (model X.prog X.w) X.A (noteFrame x X.env) (fun _ s₂ => FinallyRaised X.prog X.w X.A X.xe X.env (g :: gs) (SP X pins D) x s₂) (FinallyRaised X.prog X.w X.A X.xe X.env (g :: gs) (SP X pins D)) s₁)
    (fun u s' xx => fin_exc hs hf hex ok tk h2 xx) PassesOwn.looking).run [] s σ H { nx := fun σ' H' => tf D σ' H', rt := fun _ _ => False } (I.toTry _) q
  refine wpAny_mono here (fun fl s1 z => ?_) fun _ _ e => e
  have no : ∀ {v : Prop}, False → v := fun z => z.elim
  cases fl with
  | next =>
    obtain ⟨σ1, H1, J, q1⟩ := z
    refine wpAny_execs_nil (wpAny_mono (h1.run pins s1 σ1 H1 D ((J.ofTry ok).wish _) q1) (fun fl2 s2 z2 => ?_) fun _ _ e => e.elim)
    have z3 : SP X pins D fl2 s2 := z2.unwish
    cases fl2 <;> exact z3
  | ret u =>
    obtain ⟨_, _, _, _, _, w⟩ := z
    exact no w
  | brk =>
    obtain ⟨_, _, _, w⟩ := z
    exact no w
  | cont =>
    obtain ⟨_, _, _, w⟩ := z
    exact no w
/-! ### raise C(..), C an own class of any base -/
theorem pmk_oexG {X : Cx} {CX : CXT} {x B nw initId : String} {tl : List Value} {C fI : Addr} {k : Nat} {fd : FuncData} {ps : List Str} {sp : Sp} {e : Expr} {es : List Expr} {ta : TA} {n : Str} {p pos : Pos} (F : ExcBaseFacts B nw initId tl) (T : OexG X.K nw tl C)
    (iC : PySem.W.findIn X.K (.ref C) "__init__" = some (some (.ref fI))) (tI : PySem.W.typeIn X.K (.ref fI) = some (.type "function")) (F1 : FnOk X.prog X.w X.K X.mg X.base CX k fI fd ps sp) (hr : Room (k + 1) X.A) (hb : Binds X.K fd ps [])
    (hx : Passes CX X (fun _ _ _ => False)) (hg : Gl X n) (hm : X.mg n = some (.ref C)) (ha : PA X (e :: es) ta) (hdb : (n == ("__debug__" : Str)) = false := by decide) (he : starEach (e :: es) X.env = (false, eval e X.env) :: starEach es X.env := by rfl)
    (hpl : (backTo pos (starEach es X.env)).any (·.1) = false := by rfl) : PMk X (.Call (.Name n p) (e :: es) [] pos) (tMkO C sp [] ta) := by
  intro pins s σ H Q I q
  obtain ⟨nm, qn, N, bs, bm, sn, sub, ab, col, dd, k0, k1, k2, k3, k5, hC, o, hT⟩ := T.cls
  refine wpAny_Call_Name_kw (ld_glob I hg hm ?_ hdb)
  refine PySem.W.callWith_K (h₀ := X.base) I.ok.mod.kin T.kC (thn (ha.run pos pins s σ H _ I q) fun us s1 z => ?_) he hpl
  obtain ⟨vs, H1, I1, rv, hz, q1⟩ := z
  refine ⟨I1.kIn, ?_⟩
  rw [show vs ++ ([] : List V) = vs from List.append_nil vs] at q1
  obtain ⟨hp, gg, dr, tk, os⟩ := s1
  have later : hp.objs.size ≤ hp.objs.size + 1 := Nat.le_succ _
  have spec := q1 (hp.objs.size + 1) (I1.hok.fresh later)
  have stays : ∀ b w, hp.get? b = some w → ((hp.push (PySem.W.kdv_tup us)).push (PySem.HandSPX.excO C hp.objs.size)).get? b = some w := fun b w e => Heap.get?_push_of_some _ (Heap.get?_push_of_some _ e)
  have here : ((hp.push (PySem.W.kdv_tup us)).push (PySem.HandSPX.excO C hp.objs.size)).get? (hp.objs.size + 1) = some (PySem.HandSPX.excO C hp.objs.size) := by heap_get
  have I2 : Inv X pins σ (upd H1 (hp.objs.size + 1) (exo (hp.objs.size + 1) C none)) ⟨(hp.push (PySem.W.kdv_tup us)).push (PySem.HandSPX.excO C hp.objs.size), gg, dr, tk, os⟩ := I1.laid (t' := tk) (o := exo (hp.objs.size + 1) C none) stays later (exo_ok here)
  have both : Vals (V.ref (hp.objs.size + 1) :: vs) (Value.ref (hp.objs.size + 1) :: us) := .cons rfl rv
  have cnt : (Value.ref (hp.objs.size + 1) :: us ++ []).length = ps.length := by
    rw [List.append_nil, ← Paired.length both]
    exact F1.len _ _ _ _ spec
  have few : us.length ≤ sizeLine := by
    rw [← Paired.length rv, sizeLine_eq]
    omega
  have bnd := hb _ (Value.ref (hp.objs.size + 1) :: us) I2.kIn cnt
  rw [List.append_nil] at bnd
  refine wpAny_call (PySem.HandSPX.call_own F hT (I1.kIn _ _ hC) (PySem.W.looks_findIn I1.kIn iC) (fun self => PySem.W.bind_fn I1.kIn self tI) few (codeAny_mono (F1.run _ X.stack _ _ ⟨Value.ref (hp.objs.size + 1) :: us, []⟩ (Value.ref (hp.objs.size + 1) :: us) _ _ (fun _ _ _ => False) (hr.make C us []) (I2.env0.make C us []) bnd both spec) fun r s2 res => ?_))
  rcases r with er | fl
  · exact hx pins σ _ _ er s2 I2 res
  · cases fl with
    | ret u =>
      obtain ⟨v, H2, os2, bare2, un2, hok2, rr, ev, d, fs, ea, ed, hd1, q2⟩ := res
      subst ev
      obtain ⟨h2, g2, d2, t2, os3⟩ := s2
      exact ⟨rr, mk_end (raises_own T.exC T.tyC) I1 later stays un2 hok2 os2 bare2 ea ed hd1 q2⟩
    | next => exact res.elim
    | brk => exact res.elim
    | cont => exact res.elim
/-! ### o.f = e, f a property with a setter, which may raise -/
structure SetP (K : PySem.W.Frag) (C : Addr) (f : Str) (g : Addr) : Prop where
  at_ : ∃ p a rest, PySem.W.takerIn K C f = some (some (.ref p)) ∧ PySem.W.typeIn K (.ref p) = some (.type "property") ∧ PySem.W.recIn K p "property" = some (a :: .ref g :: rest)
def sSetP (C : Addr) (sp : Sp) (E : XK) (ta tv : TE) : TS := fun D σ H => tv σ H fun y H1 => ta σ H1 fun x H2 => ∃ a dx fs, x = .ref a ∧ H2 a = some (.ins C dx fs) ∧ sp [.ref a, y] H2 (fun _ H3 => D.nx σ H3) E
theorem ps_setp {X : Cx} {CX : CXT} {k : Nat} {C g : Addr} {f : Str} {fd : FuncData} {ps : List Str} {sp : Sp} {E : XK} {o value : Expr} {pos pos' : Pos} {ta tv : TE} (ha : PE X o ta) (hv : PE X value tv) (c : Cls X.K C) (hp : SetP X.K C f g)
    (F : FnOk X.prog X.w X.K X.mg X.base CX k g fd ps sp) (hr : Room (k + 2) X.A) (hb : Binds X.K fd ps []) (hx : Passes CX X E) (hs : swapsWith value (some (.Attribute o f pos')) pos.line X.env = pure false) :
    PS X (.Assign [.Attribute o f pos'] value pos) (sSetP C sp E ta tv) := by
  refine ⟨fun pins s σ H D I h => ?_⟩
  refine plainObj_wpAny_Assign_Attribute (thn (hv.run pins s σ H _ I h) fun u s1 ⟨y, H1, I1, ry, q⟩ => thn (ha.run pins s1 σ H1 _ I1 q) fun ov s2 ⟨x, H2, I2, rx, a, dx, fs, ex, ea, q2⟩ => ?_) hs
  subst ex
  obtain rfl : ov = Value.ref a := rx
  obtain ⟨mA, O, _, _, _, _⟩ := ins_get I2.hok ea
  obtain ⟨od, J, _⟩ := O.look
  obtain ⟨p, a0, rest, p1, p2, p3⟩ := hp.at_
  have I3 := I2.tok (s2.toks + 1)
  have hl : ([Value.ref a, u] ++ []).length = ps.length := F.len _ _ _ _ q2
  refine PySem.W.set_plain I2.kIn J c.sa (PySem.W.osa_descr (s := { s2 with toks := s2.toks + 1 }) PySem.W.KF.slot_pset I3.kIn J c.po p1 p2 (PySem.W.prop_set (s := { s2 with toks := s2.toks + 1 }) I3.kIn p3 ?_))
  refine codeAny_mono (F.run X.A.in1.in1 X.stack { s2 with toks := s2.toks + 1 } H2 ⟨[.ref a, u], []⟩ [.ref a, u] [.ref a, y] _ E hr.in1.in1 I3.env0.in1.in1 (hb _ [.ref a, u] I3.kIn hl) (.cons rfl (.cons ry .nil)) q2) fun r s' hq => ?_
  cases r with
  | error er => exact hx pins σ H2 { s2 with toks := s2.toks + 1 } er s' I3 hq
  | ok fl =>
    cases fl with
    | ret u2 =>
      obtain ⟨v, H4, I4, rv, q4⟩ := I3.after hq
      exact ⟨σ, H4, I4, q4⟩
    | next => exact False.elim hq
    | brk => exact False.elim hq
    | cont => exact False.elim hq
/-! ### {**d, k: v}: a new dict that begins with another's entries -/
theorem put_pairs {prog : Program} {w : World} {K : Type} [DecidableEq K] {knd : KeyKind prog w K} {A : Around} {E : Value → Shared → Prop} {s : Shared} {c : Addr} {l : List (K × Value)} {x : K} {xv v : Value} {Q : Unit → Shared → Prop}
    (hx : knd.is x xv = true) (hc : s.heap.DictOf knd c l) (hl : l.length ≤ sizeLine)
    (q : ∀ g, g.DictOf knd c (stored l x v) → Heap.SameBut c s.heap g → Q () { s with heap := g }) : wpAny (model prog w) A (dictPut c (knd.hash x) xv v) Q E s := by
  obtain ⟨ob, en, n0, g1, g2, g3, g4, g5, g6⟩ := hc
  have z : en.size ≤ sizeLine := by
    have z1 := g5.length
    rw [Array.length_toList] at z1
    omega
  unfold dictPut
  refine wpAny_bind (wpAny_dictFind_of hx g1 g3 g4 ?_)
  have at_ : (en.findIdx? fun e => knd.is x e.key) = l.findIdx? fun p => decide (p.1 = x) := by
    rw [← g5.findIdx x]
    obtain ⟨en⟩ := en
    simp
  cases hi : en.findIdx? fun e => knd.is x e.key with
  | some i =>
    have ha := any_of_findIdx_some (at_ ▸ hi)
    refine wpAny_updateDict g1 g3 (q _ ⟨_, _, n0, Heap.get?_update_self _ g1 (Obj.isFreed_of_dict (Obj.data_mapDict g3 _)), g2.mapDict _, Obj.data_mapDict g3 _, g4.modify _ _, ?_, ?_⟩ (Heap.SameBut.update ..))
    · have hj : (en.toList.findIdx? fun e => knd.is x e.key) = some i := by
        rw [← hi]
        obtain ⟨en⟩ := en
        simp
      have r := g5.modify g6 hj v
      rw [stored, if_pos ha]
      obtain ⟨en⟩ := en
      simpa using r
    · rw [stored, if_pos ha, keys_map_store]
      exact g6
  | none =>
    have hm := not_mem_of_findIdx_none (at_ ▸ hi)
    have ha : ¬ (l.any fun p => decide (p.1 = x)) = true := fun y => by
      rw [List.any_eq_true] at y
      obtain ⟨p, hp, he⟩ := y
      exact hm (List.mem_map.mpr ⟨p, hp, of_decide_eq_true he⟩)
    refine wpAny_updateDictKeys (hz := z) g1 g3 (q _ ⟨_, _, n0 + 1, Heap.get?_update_self _ g1 (Obj.isFreed_of_dict (Obj.data_mapDictKeys g3 _)), g2.mapDictKeys _, Obj.data_mapDictKeys g3 _, g4.push hx _, ?_, ?_⟩ (Heap.SameBut.update ..))
    · have r := g5.append hx (knd.hash x) v
      rw [stored, if_neg ha]
      obtain ⟨en⟩ := en
      simpa using r
    · rw [stored, if_neg ha, List.map_append, List.nodup_append]
      refine ⟨g6, by simp, fun a h1 b h2 => ?_⟩
      rw [List.map_cons, List.map_nil, List.mem_singleton] at h2
      rw [h2]
      exact fun (e : a = x) => hm (e ▸ h1)
theorem merge_map {P : Program} {w : World} {A : Around} {E : Value → Shared → Prop} {s : Shared} {c d : Addr} {l more : List (Key × Value)} {Q : Unit → Shared → Prop} (n : c ≠ d) (nS : (d == sysModules) = false)
    (hc : s.heap.DictOf (mixKind P w) c l) (hd : s.heap.DictOf (mixKind P w) d more) (hl : l.length + more.length ≤ sizeLine)
    (q : ∀ g, g.DictOf (mixKind P w) c (merged l more) → g.DictOf (mixKind P w) d more → Heap.SameBut c s.heap g → Q () { s with heap := g }) : wpAny (model P w) A (mergeMapping c (.ref d) false) Q E s := by
  obtain ⟨o1, e1, n1, f1, f2, f3, f4, f5, f6⟩ := id hc
  obtain ⟨o2, e2, n2, g1, g2, g3, g4, g5, g6⟩ := id hd
  have sz : more.length = e2.size := by
    rw [← g5.length]
    simp
  unfold mergeMapping
  refine wpAny_bind (wpAny_isInstance hd.typeIs isSubtype_dict_dict ?_)
  simp only [if_true]
  refine wpAny_bind (wpAny_specialOf hd.typeIs PySem.F.slot_dict_iter.lookup ?_)
  simp only [beq_self_eq_true]
  refine wpAny_bind (wpAny_pure ?_)
  dsimp only
  rw [if_neg (by rw [nS]; exact Bool.false_ne_true)]
  refine wpAny_bind (wpAny_dictEntries f1 f3 ?_)
  have go : wpAny (model P w) A (do
      let en ← dictEntries d
      let ep ← dictEpoch d
      forIn (List.range en.size) PUnit.unit fun i (_ : PUnit) => (do
        let es ← dictEntries d
        match es[i]? with
        | some e => do
          holding [e.key, e.val] (dictPut c e.hash e.key e.val)
          let ep' ← dictEpoch d
          if (ep' != ep) = true then do
              (unsupported "dict.changed-during-merge" : Sem PUnit)
              pure (ForInStep.yield PUnit.unit)
            else pure (ForInStep.yield PUnit.unit)
        | _ => do
          (unsupported "dict.changed-during-merge" : Sem PUnit)
          pure (ForInStep.yield PUnit.unit) : Sem (ForInStep PUnit))
      pure ()) Q E s := by
    refine wpAny_bind (wpAny_dictEntries g1 g3 (wpAny_bind (wpAny_dictEpoch g1 g3 (wpAny_bind ?_))))
    refine wpAny_forIn_list _ (fun rest _ s' => ∃ g i, s' = { s with heap := g } ∧ rest = (List.range e2.size).drop i ∧ i ≤ e2.size ∧ g.DictOf (mixKind P w) c (merged l (more.take i)) ∧ g.get? d = some o2 ∧ Heap.SameBut c s.heap g) _
      (fun x rest b s' hI => ?_) (fun b s' hI => ?_) _ _ ⟨s.heap, 0, rfl, rfl, Nat.zero_le _, hc, g1, Heap.SameBut.refl _ _⟩
    · obtain ⟨g, i, rfl, hr, hi, k1, k2, k3⟩ := hI
      have lt : i < e2.size := by
        rcases Nat.lt_or_ge i e2.size with y | y
        · exact y
        · rw [List.drop_eq_nil_of_le (by rw [List.length_range]; exact y)] at hr
          cases hr
      rw [List.drop_eq_getElem_cons (by rw [List.length_range]; exact lt), List.getElem_range] at hr
      have ex0 : x = i := (List.cons.inj hr).1
      have er : rest = (List.range e2.size).drop (i + 1) := (List.cons.inj hr).2
      subst ex0
      obtain ⟨p, hp⟩ : ∃ p, more[x]? = some p := ⟨_, List.getElem?_eq_getElem (by omega)⟩
      obtain ⟨m1, m2⟩ := g5.get? (e := e2[x]) (by rw [Array.getElem?_toList, Array.getElem?_eq_getElem lt]) hp
      obtain ⟨y, m3, m4⟩ := g4 e2[x] (Array.getElem_mem lt)
      have ex : y = p.1 := (mixKind P w).inj _ _ _ m3 m1
      subst ex
      refine wpAny_bind (wpAny_dictEntries k2 g3 ?_)
      rw [Array.getElem?_eq_getElem lt]
      show wpAny _ _ (holding [e2[x].key, e2[x].val] (dictPut c e2[x].hash e2[x].key e2[x].val) >>= _) _ _ _
      have lm := merged_length_le l (more.take x)
      have lt2 : (more.take x).length ≤ more.length := by rw [List.length_take]; omega
      rw [m4, m2]
      refine wpAny_bind (wpAny_holding (put_pairs m1 k1 (by omega) fun g' k1' k3' => ?_))
      have k2' := (k3'.2 d (Ne.symm n)).trans k2
      refine wpAny_bind (wpAny_dictEpoch k2' g3 ?_)
      rw [if_neg (by simp)]
      exact wpAny_pure ⟨g', x + 1, rfl, er, lt, by rw [merged_take_succ l more x p hp]; exact k1', k2', k3.trans k3'⟩
    · obtain ⟨g, i, rfl, hr, hi, k1, k2, k3⟩ := hI
      have ei : i = e2.size := by
        have y := congrArg List.length hr
        rw [List.length_drop, List.length_range, List.length_nil] at y
        omega
      rw [ei, ← sz, List.take_length] at k1
      exact wpAny_pure (q g k1 ⟨o2, e2, n2, k2, g2, g3, g4, g5, g6⟩ k3)
  split
  · refine wpAny_bind (wpAny_dictEntries g1 g3 (wpAny_bind ?_))
    rw [← Array.forIn_toList]
    refine wpAny_forIn_list _ (fun rest _ s' => s' = s ∧ ∀ e ∈ rest, e ∈ e2) _ (fun x rest b s' hI => ?_) (fun b s' hI => ?_) _ _ ⟨rfl, fun e he => Array.mem_toList_iff.mp he⟩
    · obtain ⟨rfl, hm⟩ := hI
      obtain ⟨y, m3, m4⟩ := g4 x (hm x List.mem_cons_self)
      rcases keyIs_shape m3 with ⟨i, t, _, e⟩ | ⟨z, t, _, e⟩
      · rw [e]
        exact wpAny_pure ⟨rfl, fun e he => hm e (List.mem_cons_of_mem _ he)⟩
      · rw [e]
        exact wpAny_pure ⟨rfl, fun e he => hm e (List.mem_cons_of_mem _ he)⟩
    · rw [hI.1]
      exact go
  · exact go
/-- {**d, k: v} -/
def tStar1 (td tk tv : TE) : TE := fun σ H Q => ∀ p, H p = none → td σ (upd H p (.dK [])) fun x H1 => ∃ a kvs, x = .ref a ∧ a ≠ p ∧ H1 p = some (.dK []) ∧ H1 a = some (.dK kvs) ∧ kvs.length < sizeLine ∧
  ∀ q, upd H1 p (.dK (mergeK [] kvs)) q = none → tk σ (upd (upd H1 p (.dK (mergeK [] kvs))) q (.dK [])) fun y H2 => tv σ H2 fun v H3 => ∃ k, y = kV k ∧ q ≠ p ∧ H3 q = some (.dK []) ∧ H3 p = some (.dK (mergeK [] kvs)) ∧
    Q (.ref p) (upd (upd H3 q (.dK [(k, v)])) p (.dK (putK (mergeK [] kvs) k v)))
theorem pe_star1 {X : Cx} {e k v : Expr} {pos : Pos} {td tk tv : TE} (he : PE X e td) (hk : PE X k tk) (hv : PE X v tv) : PE X (.Dict [none, some k] [e, v] pos) (tStar1 td tk tv) := by
  refine ⟨fun pins s σ H Q I h => ?_⟩
  have hn := I.hok.fresh (Nat.le_refl s.heap.objs.size)
  have I1 := I.laid (a := s.heap.objs.size) (o := .dK []) (h' := s.heap.push { cls := .type "dict", data := .dict #[] }) (t' := s.toks) (fun _ _ q => Heap.get?_push_of_some _ q) (Nat.le_refl _) (dk_empty s.heap I.big)
  rw [arm_eval_Dict]
  refine wpAny_bind (wpAny_standAt ?_)
  unfold dictDisplay
  simp only [evalEachOpt, evalOpt, evalEach, List.map_cons, List.map_nil, List.zip_cons_cons, List.zip_nil_right, List.forIn_cons, List.forIn_nil, List.isEmpty_nil, if_true, pure_bind, bind_assoc, List.nil_append, List.length_cons, List.length_nil,
    List.isEmpty_cons, Bool.false_eq_true, if_false, Nat.zero_add, show ((1 : Nat) == 17) = false from rfl]
  refine wpAny_bind (wpAny_alloc (wpAny_bind (wpAny_holding (wpAny_bind (thn (he.run pins _ σ _ _ I1 (h _ hn)) fun u s1 ⟨x, H1, I2, rx, a, kvs, ex, nap, hp, ha, lk, q1⟩ => wpAny_bind (wpAny_standAt (wpAny_pure ?_)))))))
  subst ex
  obtain rfl : u = Value.ref a := rx
  obtain ⟨_, dp, vp, rp, cp⟩ := dk_of I2.hok hp
  cases rp
  obtain ⟨za, da, va, ra, ca⟩ := dk_of I2.hok ha
  have la : va.length = kvs.length := ra.length.symm
  refine wpAny_bind (wpAny_onRaise (wpAny_tryCatch (wpAny_onRaise (wpAny_holding (merge_map (Ne.symm nap) da cp ca (by rw [List.length_nil]; omega) fun g cp' ca' sb => ?_)))))
  have ea : ∃ ob, g.get? s.heap.objs.size = some ob := by
    obtain ⟨ob, _, _, y, _⟩ := id cp'
    exact ⟨ob, y⟩
  have lm : (mergeK [] kvs).length ≤ kvs.length := by
    have y := length_mergeK kvs []
    rw [List.length_nil] at y
    omega
  have I3 : L2.Inv X pins σ (upd H1 s.heap.objs.size (.dK (mergeK [] kvs))) { s1 with heap := g } := d_write (t' := s1.toks) I2 (by rw [hp]; exact True.intro) sb ea (dk_new (by omega) dp (ra.merge .nil) cp')
  have hn2 := I3.hok.fresh (Nat.le_refl g.objs.size)
  have I4 := I3.laid (a := g.objs.size) (o := .dK []) (h' := g.push { cls := .type "dict", data := .dict #[] }) (t' := s1.toks) (fun _ _ q => Heap.get?_push_of_some _ q) (Nat.le_refl _) (dk_empty g I3.big)
  refine wpAny_bind (wpAny_holding (wpAny_subDict (knd := mixKind X.prog X.w) (Nat.le_of_ble_eq_true rfl) ?_))
  refine evalPairs_cons (thn (hk.run pins _ σ _ _ I4 (q1 _ hn2)) fun u2 s2 ⟨y, H2, I5, ry, q2⟩ => ?_)
  refine wpAny_bind (thn (hv.run pins s2 σ H2 _ I5 q2) fun u3 s3 ⟨z, H3, I6, rz, kk, ek, nqp, hq3, hp3, q3⟩ => wpAny_bind (wpAny_standAt (wpAny_pure (evalPairs_nil ?_))))
  subst ek
  obtain ⟨_, dq, vq, rq, cq⟩ := dk_of I6.hok hq3
  cases rq
  obtain ⟨zp, _, wp3, rp3, cp3⟩ := dk_of I6.hok hp3
  refine ⟨[(kk, u3)], ⟨kV_is ry, rfl, True.intro⟩, cq, fun g2 cq2 sb2 => ?_⟩
  have eq2 : ∃ ob, g2.get? g.objs.size = some ob := by
    obtain ⟨ob, _, _, y, _⟩ := id cq2
    exact ⟨ob, y⟩
  have r1 : KV [(kk, z)] [(kk, u3)] := .cons ⟨rfl, rz⟩ .nil
  have m1 : merged [] [(kk, u3)] = [(kk, u3)] := rfl
  rw [m1] at cq2
  have one : ([(kk, z)] : List (Key × V)).length ≤ sizeLine := by rw [sizeLine_eq]; show 1 ≤ _; decide
  have I7 : L2.Inv X pins σ (upd H3 g.objs.size (.dK [(kk, z)])) { s3 with heap := g2, toks := s3.toks + 1 } := d_write (t' := s3.toks + 1) I6 (by rw [hq3]; exact True.intro) sb2 eq2 (dk_new one dq r1 cq2)
  have hp4 : upd H3 g.objs.size (.dK [(kk, z)]) s.heap.objs.size = some (.dK (mergeK [] kvs)) := (upd_ne nqp.symm).trans hp3
  obtain ⟨zp4, _, wp4, rp4, cp4⟩ := dk_of I7.hok hp4
  have l4 : wp4.length = (mergeK [] kvs).length := rp4.length.symm
  refine wpAny_bind (wpAny_onRaise (wpAny_holding (merge_map (Ne.symm nqp) dq cp4 cq2 (by rw [l4]; show _ + 1 ≤ _; omega) fun g3 cp5 cq5 sb3 => wpAny_pure ?_)))
  have ea3 : ∃ ob, g3.get? s.heap.objs.size = some ob := by
    obtain ⟨ob, _, _, y, _⟩ := id cp5
    exact ⟨ob, y⟩
  have lp := length_putK (mergeK [] kvs) kk z
  exact ⟨.ref s.heap.objs.size, _, d_write (t' := s3.toks + 1) I7 (by rw [hp4]; exact True.intro) sb3 ea3 (dk_new (by omega) dp (rp4.put kk rz) cp5), rfl, q3⟩
/-! ### the head by a Hook: facts of the heap behind the top, each a Bool -/
/-- a def: where it stands in the heap behind the top, what it is -/
structure DefY where
  to : PySem.W.Frag → Addr
  nm : Str
  ql : Str
  ar : Arguments
  bd : List Stmt
  sc : Scope
  df : PySem.W.Frag → List V
abbrev DTab : Type := Option (Str × Str × Arguments × FuncBody × Scope × Addr × List (Str × Addr) × Addr)
def dtab : Option Obj → DTab
  | some ⟨_, _, .func g, _⟩ => some (g.name, g.qualname, g.params, g.body, g.scope, g.globals, g.closure, g.builtins)
  | _ => none
def dgood (K : PySem.W.Frag) (d : DefY) : Option Obj → Bool
  | some ⟨_, _, .func g, _⟩ => He.dflB K g.defaults (d.df K) && PySem.W.codeIn K g.code d.ql
  | _ => false
def DefY.want (d : DefY) : DTab := some (d.nm, d.ql, d.ar, .stmts d.bd, d.sc, mainGlobals, [], builtinsNs)
def DefY.good (K : PySem.W.Frag) (d : DefY) : Bool := dgood K d (K.lookup (d.to K)) && PySem.W.keepIn K (.ref (d.to K))
theorem DefY.is {K : PySem.W.Frag} {d : DefY} (e : dtab (K.lookup (d.to K)) = d.want) (c : d.good K = true) : ∃ fd, FunD K d.nm d.ql d.ar d.bd d.sc (d.df K) [] (d.to K) fd := by
  obtain ⟨c1, kp⟩ := He.ba c
  generalize ho : K.lookup (d.to K) = oo at e c1
  match oo, ho, e, c1 with
  | some ⟨oc, od, .func ⟨a1, a2, a3, a4, a5, a6, a7, a8, a9, b1, b2, b3, b4, b5, b6⟩, osl⟩, ho, e, c1 =>
    have e2 : (some (a1, a2, a3, a4, a5, a6, a7, b6) : DTab) = some (d.nm, d.ql, d.ar, .stmts d.bd, d.sc, mainGlobals, [], builtinsNs) := e
    obtain ⟨rfl, rfl, rfl, rfl, rfl, rfl, rfl, rfl⟩ : a1 = d.nm ∧ a2 = d.ql ∧ a3 = d.ar ∧ a4 = .stmts d.bd ∧ a5 = d.sc ∧ a6 = mainGlobals ∧ a7 = [] ∧ b6 = builtinsNs := by simpa using e2
    obtain ⟨g1, g2⟩ := He.ba c1
    exact ⟨_, ⟨oc, od, a8, a9, b1, b2, b3, b4, b5, osl, rfl, ho, g2, He.dflB_ok g1, .inl rfl⟩, kp⟩
/-! what the Hook looks at: the module's names, their codes, defaults, classes' names; the statics -/
def toV : Value → List Addr
  | .ref a => [a]
  | _ => []
def kidsY : Option Obj → List Addr
  | some ⟨c, _, .fields vs, _⟩ => (match c with
    | .type "staticmethod" => vs.toList.flatMap toV
    | .type "property" => vs.toList.flatMap toV
    | _ => [])
  | some ⟨_, _, .func g, _⟩ => toV g.code ++ (toV g.defaults ++ toV g.kwdefaults)
  | some ⟨_, _, .cls cd, _⟩ => [cd.ns]
  | some ⟨_, _, .dict es _, _⟩ => es.toList.flatMap fun e => toV e.val
  | some ⟨_, _, .seq its _, _⟩ => its.toList.flatMap toV
  | _ => []
def rowsY (g : Addr → Option Obj) : Nat → List Addr → List Addr
  | 0, _ => []
  | n + 1, as => as ++ rowsY g n (as.flatMap fun a => kidsY (g a))
def partY (n : Nat) (g : Addr → Option Obj) : PySem.W.Frag := He.frG g (cStatics :: rowsY g n [mainGlobals])
def lawD : He.Defn := ("law", none)
def tabB (K : PySem.W.Frag) (g : Addr → Option Obj) : Bool := PySem.W.codeHdIn K (He.cT K lawD).1 (He.cT K lawD).2 && ((K.lookup (He.cT K lawD).2).isNone && ((g (He.cT K lawD).2).any He.emptyTab))
abbrev AlY : Type := Bool × Bool × Bool × Bool × List DTab
def obsK (fa : List He.Fa) (fn : List DefY) (ex : List (PySem.W.Frag → Bool)) (g : Addr → Option Obj) (K : PySem.W.Frag) : AlY := (fa.all fun f => f.ok K, fn.all fun d => d.good K, ex.all fun b => b K, tabB K g, fn.map fun d => dtab (K.lookup (d.to K)))
def obsY (n : Nat) (fa : List He.Fa) (fn : List DefY) (ex : List (PySem.W.Frag → Bool)) (g : Addr → Option Obj) : AlY := obsK fa fn ex g (partY n g)
def wantY (fn : List DefY) : AlY := (true, true, true, true, fn.map DefY.want)
structure SaysY (fa : List He.Fa) (fn : List DefY) (ex : List (PySem.W.Frag → Bool)) (h : Heap) (K : PySem.W.Frag) : Prop where
  kin : K.In h
  fas : ∀ f ∈ fa, f.ok K = true
  exs : ∀ b ∈ ex, b K = true
  def_ : ∀ d ∈ fn, ∃ fd, FunD K d.nm d.ql d.ar d.bd d.sc (d.df K) [] (d.to K) fd
  hd : PySem.W.codeHdIn K (He.cT K lawD).1 (He.cT K lawD).2 = true
  out : K.lookup (He.cT K lawD).2 = none
  tab : h.get? (He.cT K lawD).2 = some { cls := .none, data := .fields #[] }
theorem saysY {n : Nat} {fa : List He.Fa} {fn : List DefY} {ex : List (PySem.W.Frag → Bool)} {h : Heap} (e : obsY n fa fn ex h.get? = wantY fn) : SaysY fa fn ex h (partY n h.get?) := by
  generalize hK : partY n h.get? = K
  have e' : obsK fa fn ex h.get? K = wantY fn := by rw [← hK]; exact e
  obtain ⟨e1, e2, e3, e4, e5⟩ : (fa.all fun f => f.ok K) = true ∧ (fn.all fun d => d.good K) = true ∧ (ex.all fun b => b K) = true ∧ tabB K h.get? = true ∧ (fn.map fun d => dtab (K.lookup (d.to K))) = fn.map DefY.want := by
    have q := e'
    unfold obsK wantY at q
    exact ⟨congrArg (fun z : AlY => z.1) q, congrArg (fun z : AlY => z.2.1) q, congrArg (fun z : AlY => z.2.2.1) q, congrArg (fun z : AlY => z.2.2.2.1) q, congrArg (fun z : AlY => z.2.2.2.2) q⟩
  obtain ⟨t1, t⟩ := He.ba e4
  obtain ⟨t2, t3⟩ := He.ba t
  refine ⟨by rw [← hK]; exact He.frG_in, List.all_eq_true.mp e1, List.all_eq_true.mp e3, fun d hd => DefY.is (List.map_inj_left.mp e5 d hd) (List.all_eq_true.mp e2 d hd), t1, by simpa using t2, ?_⟩
  cases q : h.get? (He.cT K lawD).2 with
  | none => rw [q] at t3; cases t3
  | some o => rw [q] at t3; rw [He.emptyTab_eq (o := o) t3]
def hookY (n : Nat) (fa : List He.Fa) (fn : List DefY) (ex : List (PySem.W.Frag → Bool)) : PySem.W.Hook where
  α := AlY
  obs := fun s => obsY n fa fn ex s.heap.get?
  val := fun _ => wantY fn
  says := fun _ h => ∃ K : PySem.W.Frag, SaysY fa fn ex h K
  of := fun _ _ e => ⟨_, saysY e⟩
  keeps := fun _ _ _ ⟨K, c⟩ k => ⟨K, PySem.W.Frag.In.keeps c.kin k, c.fas, c.exs, c.def_, c.hd, c.out, k _ _ c.tab⟩
theorem obsY_eq {n : Nat} {fa : List He.Fa} {fn : List DefY} {ex : List (PySem.W.Frag → Bool)} {g : Addr → Option Obj} {s : Shared} (h : ∀ a, g a = s.heap.get? a) : obsY n fa fn ex g = (hookY n fa fn ex).obs s := by
  have e : g = s.heap.get? := funext h
  subst e
  rfl
section
variable {fa : List He.Fa} {fn : List DefY} {ex : List (PySem.W.Frag → Bool)} {h : Heap} {K : PySem.W.Frag} (c : SaysY fa fn ex h K)
include c
theorem SaysY.fact (i : Nat) {f : He.Fa} (e : fa[i]? = some f := by rfl) : f.ok K = true := c.fas f (List.mem_of_getElem? e)
theorem SaysY.own (i : Nat) {b : PySem.W.Frag → Bool} (e : ex[i]? = some b := by rfl) : b K = true := c.exs b (List.mem_of_getElem? e)
theorem SaysY.get (i : Nat) {d : DefY} (e : fn[i]? = some d := by rfl) : ∃ fd, FunD K d.nm d.ql d.ar d.bd d.sc (d.df K) [] (d.to K) fd := c.def_ d (List.mem_of_getElem? e)
end
/-- a tuple at an address -/
def tupY (K : PySem.W.Frag) (a : Addr) (vs : List V) : Bool := (K.lookup a).any fun o => decide (o.cls = .type "tuple") && (match o.data with
  | .seq its _ => decide (its.size ≤ 1000) && He.relAll vs its.toList
  | _ => false)
theorem tupY_ok {K : PySem.W.Frag} {a : Addr} {vs : List V} (h : tupY K a vs = true) (H : Hp) : SqT K H a vs := by
  unfold tupY at h
  obtain ⟨o, ho, h⟩ : ∃ o, K.lookup a = some o ∧ (decide (o.cls = .type "tuple") && (match o.data with
    | .seq its _ => decide (its.size ≤ 1000) && He.relAll vs its.toList
    | _ => false)) = true := by
    cases q : K.lookup a with
    | none => rw [q] at h; cases h
    | some o => rw [q] at h; exact ⟨o, rfl, h⟩
  obtain ⟨h1, h2⟩ := He.ba h
  split at h2
  · rename_i its n hd
    obtain ⟨h3, h4⟩ := He.ba h2
    exact .inr ⟨o, its, n, ho, of_decide_eq_true h1, hd, Nat.le_of_lt (small1000 (of_decide_eq_true h3)), He.relAll_ok h4⟩
  · cases h2
/-- a class that makes objects -/
def mkB (C f : PySem.W.Frag → Addr) (K : PySem.W.Frag) : Bool := PySem.W.makesIn K (C K) && (He.eqO (PySem.W.findIn K (.ref (C K)) "__init__") (some (some (.ref (f K)))) && (PySem.W.isFn K (.ref (f K)) && PySem.W.keepIn K (.ref (C K))))
theorem mkB_ok {C f : PySem.W.Frag → Addr} {K : PySem.W.Frag} (h : mkB C f K = true) : Mk K (C K) (f K) := by
  obtain ⟨h1, h⟩ := He.ba h
  obtain ⟨h2, h⟩ := He.ba h
  obtain ⟨h3, h4⟩ := He.ba h
  exact ⟨h1, He.eqO_ok h2, h3, h4⟩
/-- isinstance of an own class -/
def insB (x : Str) (K : PySem.W.Frag) : Bool := He.eqO (PySem.W.findIn K (.ref (He.ga K x)) "__class__") (some (some (.builtin "object.__class__"))) && (He.eqO (PySem.W.specialIn K (.builtin "object.__class__") "__get__") (some (some (.builtin "getset_descriptor.__get__"))) && (decide (PySem.W.takesIn K (.builtin "object.__class__") = some true) &&
  (decide (PySem.W.mroIn K (He.ga K x) (.type "object") = some true) && (decide (PySem.W.kitOne K (.ref (He.ga K x)) (.ref (He.ga K x)) = some true) && decide (PySem.W.kitOne K (.type "list") (.ref (He.ga K x)) = some false)))))
theorem insB_ok {x : Str} {K : PySem.W.Frag} (c : Cls K (He.ga K x)) (h : insB x K = true) : C8.InsC K (He.ga K x) ∧ PySem.W.kitOne K (.type "list") (.ref (He.ga K x)) = some false := by
  obtain ⟨h1, h⟩ := He.ba h
  obtain ⟨h2, h⟩ := He.ba h
  obtain ⟨h3, h⟩ := He.ba h
  obtain ⟨h4, h⟩ := He.ba h
  obtain ⟨h5, h6⟩ := He.ba h
  exact ⟨⟨c, He.eqO_ok h1, He.eqO_ok h2, of_decide_eq_true h3, of_decide_eq_true h4, of_decide_eq_true h5⟩, of_decide_eq_true h6⟩
/-- a static method -/
def smP (C m : Str) (K : PySem.W.Frag) : Addr := He.ma K (He.ga K C) m
def smF (C m : Str) (K : PySem.W.Frag) : Addr := match PySem.W.recIn K (smP C m K) "staticmethod" with
  | some (.ref g :: _) => g
  | _ => 0
def smB (C m : Str) (K : PySem.W.Frag) : Bool := PySem.W.readsIn K (He.ga K C) (.type "type") && (He.eqO (PySem.W.specialIn K (.ref (He.ga K C)) "__getattribute__") (some (some (.builtin "type.__getattribute__"))) && ((match PySem.W.findCls K (.ref (He.ga K C)) (.type "type") m with
  | some (.get (.builtin b) (.ref p) .none (.ref c)) => decide (b = "staticmethod.__get__") && (decide (p = smP C m K) && decide (c = He.ga K C))
  | _ => false) && ((match PySem.W.recIn K (smP C m K) "staticmethod" with
  | some (.ref _ :: _) => true
  | _ => false) && PySem.W.keepIn K (.ref (smF C m K)))))
theorem smB_ok {C m : Str} {K : PySem.W.Frag} (h : smB C m K = true) : ∃ mc p, SMet K (He.ga K C) mc m p (smF C m K) := by
  obtain ⟨h1, h⟩ := He.ba h
  obtain ⟨h2, h⟩ := He.ba h
  obtain ⟨h3, h⟩ := He.ba h
  obtain ⟨h4, h5⟩ := He.ba h
  refine ⟨_, smP C m K, h1, He.eqO_ok h2, ?_, ?_, h5⟩
  · split at h3
    · rename_i b p c e
      obtain ⟨q1, q⟩ := He.ba h3
      obtain ⟨q2, q3⟩ := He.ba q
      rw [e, of_decide_eq_true q1, of_decide_eq_true q2, of_decide_eq_true q3]
    · cases h3
  · unfold smF
    split at h4
    · rename_i g r e
      rw [e]
      exact ⟨r, rfl⟩
    · cases h4
theorem fun_of {K : PySem.W.Frag} {x q : Str} {st : Stmt} {f : Addr} {fd : FuncData} (F : FunD K x q (defArgs st) (defBody st) (defScope st) [] [] f fd) : Fun K x q st f fd := by
  obtain ⟨oc, od, dV, kV, doc, pm, an, cdv, ct, osl, rfl, lk, hcd, hD, hK⟩ := F.ex
  rcases hD with ⟨_, rfl⟩ | ⟨e, _⟩
  · exact ⟨⟨oc, od, kV, doc, pm, an, cdv, ct, osl, rfl, lk, hcd⟩, F.kp⟩
  · exact absurd rfl e
theorem funC_of {K : PySem.W.Frag} {st : Stmt} {fd : FuncData} (F : FunD K "law" "law" (defArgs st) (defBody st) (defScope st) [] [] (He.ga K "law") fd) : FunC K "law" st (He.ga K "law") fd (He.cT K lawD).1 := by
  obtain ⟨oc, od, dV, kV, doc, pm, an, cdv, ct, osl, rfl, lk, hcd, hD, hK⟩ := F.ex
  rcases hD with ⟨_, rfl⟩ | ⟨e, _⟩
  · obtain ⟨c, rfl⟩ := He.codeIn_ref hcd
    have e : (He.cT K lawD).1 = c := He.codeOf_eq (p := lawD) lk rfl
    rw [e]
    exact ⟨oc, od, kV, doc, pm, an, ct, osl, rfl, lk, hcd⟩
  · exact absurd rfl e
/-- an own error class -/
def oexB (K : PySem.W.Frag) (C : Addr) : Bool := (match K.lookup C with
  | some ⟨.type c, _, .cls cd, sl⟩ => (match cd.mro, sl.toList with
    | .ref C' :: bm, [_, _, _, _, some (.builtin n), _] => decide (c = "type") && ((C' == C) && (decide (n = "ValueError.__new__") && (!cd.hasDel && (cd.hasDict && PySem.HandSPX.refsVE bm))))
    | _, _ => false)
  | _ => false) && (He.eqO (PySem.W.findIn K (.ref C) "__setattr__") (some (some (.builtin "object.__setattr__"))) && (decide (PySem.W.subIn K (.ref C) (.type "BaseException") = some true) && (decide (PySem.W.typeIn K (.ref C) = some (.type "type")) && PySem.W.keepIn K (.ref C))))
theorem oexB_ok {K : PySem.W.Frag} {C : Addr} (h : oexB K C = true) : OexC K C := by
  obtain ⟨h1, h⟩ := He.ba h
  obtain ⟨h2, h⟩ := He.ba h
  obtain ⟨h3, h⟩ := He.ba h
  obtain ⟨h4, h5⟩ := He.ba h
  refine ⟨?_, He.eqO_ok h2, of_decide_eq_true h3, of_decide_eq_true h4, h5⟩
  split at h1
  · rename_i c dd cd sl ho
    split at h1
    · rename_i C' bm k0 k1 k2 k3 n k5 hm hs
      obtain ⟨e1, q⟩ := He.ba h1
      obtain ⟨e2, q⟩ := He.ba q
      obtain ⟨e3, q⟩ := He.ba q
      obtain ⟨e4, q⟩ := He.ba q
      obtain ⟨e5, q6⟩ := He.ba q
      have e1 := of_decide_eq_true e1
      have e2 := beq_iff_eq.mp e2
      have e3 := of_decide_eq_true e3
      subst e1 e2 e3
      obtain ⟨nm, bs, mro, ns, qn, hd, sn, sub, ab, col, del⟩ := cd
      dsimp only at hm e4 e5
      have e4 : del = false := by cases del with | false => rfl | true => cases e4
      subst hm e4 e5
      have hsl : sl = #[k0, k1, k2, k3, some (.builtin "ValueError.__new__"), k5] := by
        obtain ⟨sl⟩ := sl
        simp only at hs
        rw [hs]
      subst hsl
      exact ⟨nm, qn, ns, bs, bm, sn, sub, ab, col, dd, k0, k1, k2, k3, k5, ho, q6⟩
    · cases h1
  · cases h1
/-- an own error class with its maker -/
def errB (x : Str) (K : PySem.W.Frag) : Bool := oexB K (He.ga K x) && (xfB K (He.ga K x) && (He.eqO (PySem.W.nsIn K mainGlobals x) (some (some (.ref (He.ga K x)))) && (He.eqO (PySem.W.findIn K (.ref (He.ga K x)) "tag") (some none) && (decide (PySem.W.exmOne K (.ref (He.ga K x)) (.ref (He.ga K "TieError")) = some true) && (decide (PySem.W.exmOne K (.ref (He.ga K x)) (.ref (He.ga K "Missing")) = some false) &&
  (He.eqO (PySem.W.findIn K (.ref (He.ga K x)) "__init__") (some (some (.ref (He.ma K (He.ga K x) "__init__")))) && decide (PySem.W.typeIn K (.ref (He.ma K (He.ga K x) "__init__")) = some (.type "function"))))))))
theorem errB_ok {K : PySem.W.Frag} {mg : Str → Option Value} {hp : Heap} {x : Str} (X : K.In hp) (G : hp.Ns mainGlobals mg) (h : errB x K = true) : ErrC K mg x (He.ga K x) (He.ga K "TieError") (He.ga K "Missing") (He.ma K (He.ga K x) "__init__") := by
  obtain ⟨h1, h⟩ := He.ba h
  obtain ⟨h2, h⟩ := He.ba h
  obtain ⟨h3, h⟩ := He.ba h
  obtain ⟨h4, h⟩ := He.ba h
  obtain ⟨h5, h⟩ := He.ba h
  obtain ⟨h6, h⟩ := He.ba h
  obtain ⟨h7, h8⟩ := He.ba h
  exact ⟨oexB_ok h1, xfB_ok h2, PySem.W.mg_of X G (He.eqO_ok h3), He.eqO_ok h4, exm_any (of_decide_eq_true h5) (of_decide_eq_true h6), He.eqO_ok h7, of_decide_eq_true h8⟩
theorem intC {K : PySem.W.Frag} {mg : Str → Option Value} {hp : Heap} {x : Str} {i : Int} (X : K.In hp) (G : hp.Ns mainGlobals mg) (h : (He.Fa.int x i).ok K = true) : ∃ u, mg x = some u ∧ RelV (V.int i) u := by
  obtain ⟨t, e⟩ := He.int_ok X G h
  exact ⟨_, e, ⟨_, rfl⟩⟩
theorem strC {K : PySem.W.Frag} {mg : Str → Option Value} {hp : Heap} {x z : Str} (X : K.In hp) (G : hp.Ns mainGlobals mg) (h : (He.Fa.str x z).ok K = true) : ∃ u, mg x = some u ∧ RelV (V.str z) u := by
  obtain ⟨t, e⟩ := He.str_ok X G h
  exact ⟨_, e, ⟨_, rfl⟩⟩
theorem refC {K : PySem.W.Frag} {mg : Str → Option Value} {hp : Heap} {x : Str} (X : K.In hp) (G : hp.Ns mainGlobals mg) (h : (He.Fa.glo x).ok K = true) : ∃ u, mg x = some u ∧ RelV (V.ref (He.ga K x)) u := ⟨_, He.glo_ok X G h, rfl⟩
section
open PySem.W PySem.Calls PyProof.Rows
/-- the run's equation in three looks, each its own run -/
noncomputable abbrev endY (r : PySem.W.OpenRow) (M : Nat) (w : World) (os : OsState) : Option PySem.W.SharedT := HandSHeadRun.endF (HandSHeadRun.stepQ (HandSHeadRun.denQ HandSHeadRun.tabQ) r.prog w) M r.prog w os
theorem run_three {r : PySem.W.OpenRow} {q : Program} {H : PySem.W.Hook} {ob : PySem.W.SharedT → H.α} {M : Nat} {loose : List Str} {w : World} (h1 : ∀ os, (endY r M w os).map (fun s => HandSHeadRun.looksF r.prog (boot_heap w.params) s.abs) = some true)
    (h2 : ∀ os, (endY r M w os).map (fun s => HandSHeadRun.seenQ q loose (importedModules r.prog.main.body) (fun s => PySem.W.xlAt q [] s && PySem.W.recOk r.toRowW.records s) s.abs) = some (PySem.W.openGood q loose)) (h3 : ∀ os, (endY r M w os).map ob = some (H.val w)) :
    HandSHeadRun.RunEq r q H ob M loose w := by
  intro os
  obtain ⟨s, e, a⟩ := Option.map_eq_some_iff.mp (h1 os)
  have b := h2 os
  have c := h3 os
  rw [e] at b c
  show (endY r M w os).map _ = _
  rw [e]
  have b' := Option.some.inj b
  have c' := Option.some.inj c
  exact congrArg some (Prod.ext a (Prod.ext b' c'))
end
/-- a number kept in a class, and != by == -/
def clsiB (C m : Str) (i : Int) (K : PySem.W.Frag) : Bool := PySem.W.readsIn K (He.ga K C) (.type "type") && (match PySem.W.findCls K (.ref (He.ga K C)) (.type "type") m with
  | some (.val (.int j _)) => decide (j = i)
  | _ => false)
theorem clsiB_ok {C m : Str} {i : Int} {K : PySem.W.Frag} (h : clsiB C m i K = true) : ∃ mc t, ClsI K (He.ga K C) mc m i t := by
  obtain ⟨h1, h2⟩ := He.ba h
  split at h2
  · rename_i j t e
    refine ⟨_, t, h1, ?_⟩
    rw [e, of_decide_eq_true h2]
  · cases h2
def neB (x : Str) (K : PySem.W.Frag) : Bool := He.eqO (PySem.W.findIn K (.ref (He.ga K x)) "__ne__") (some (some (.builtin "object.__ne__")))
/-! ### the head of a law with boards: keyword-only defaults, properties, errors of any base, tables -/
def kwV (K : PySem.W.Frag) (kV : Value) (x : Str) (i : Int) : Bool := match kV with
  | .ref D => (match PySem.W.nsIn K D x with
    | some (some (.int j _)) => decide (j = i)
    | _ => false)
  | _ => false
theorem kwV_ok {K : PySem.W.Frag} {kV : Value} {x : Str} {i : Int} (h : kwV K kV x i = true) : KwdV K kV [(x, .int i)] := by
  unfold kwV at h
  split at h
  · rename_i D
    split at h
    · rename_i j t e2
      refine .inr ⟨D, rfl, fun p hp => ?_⟩
      rw [List.mem_singleton.mp hp]
      exact ⟨_, e2, ⟨t, by rw [of_decide_eq_true h]⟩⟩
    · cases h
  · cases h
def kwB (f : PySem.W.Frag → Addr) (x : Str) (i : Int) (K : PySem.W.Frag) : Bool := match K.lookup (f K) with
  | some ⟨_, _, .func g, _⟩ => kwV K g.kwdefaults x i
  | _ => false
theorem kw_of {K : PySem.W.Frag} {x q : Str} {ar : Arguments} {bd : List Stmt} {sc : Scope} {dvs : List V} {f : PySem.W.Frag → Addr} {fd : FuncData} {y : Str} {i : Int} (F : FunD K x q ar bd sc dvs [] (f K) fd) (h : kwB f y i K = true) : FunD K x q ar bd sc dvs [(y, .int i)] (f K) fd := by
  obtain ⟨oc, od, dV, kV, doc, pm, an, cdv, ct, osl, e1, lk, hcd, hD, _⟩ := F.ex
  refine ⟨⟨oc, od, dV, kV, doc, pm, an, cdv, ct, osl, e1, lk, hcd, hD, kwV_ok ?_⟩, F.kp⟩
  unfold kwB at h
  rw [lk] at h
  subst e1
  exact h
def prA (C m : Str) (K : PySem.W.Frag) : Addr := He.ma K (He.ga K C) m
def prG (C m : Str) (K : PySem.W.Frag) : Addr := match PySem.W.recIn K (prA C m K) "property" with
  | some (.ref g :: _) => g
  | _ => 0
def prS (C m : Str) (K : PySem.W.Frag) : Addr := match PySem.W.recIn K (prA C m K) "property" with
  | some (_ :: .ref g :: _) => g
  | _ => 0
def prB (C m : Str) (K : PySem.W.Frag) : Bool := He.eqO (PySem.W.findIn K (.ref (He.ga K C)) m) (some (some (.ref (prA C m K)))) && (He.eqO (PySem.W.specialIn K (.ref (prA C m K)) "__get__") (some (some (.builtin "property.__get__"))) && (decide (PySem.W.takesIn K (.ref (prA C m K)) = some true) && (match PySem.W.recIn K (prA C m K) "property" with
  | some (.ref _ :: _) => true
  | _ => false)))
theorem prB_ok {C m : Str} {K : PySem.W.Frag} (h : prB C m K = true) : PropOf K (He.ga K C) m (prA C m K) (prG C m K) := by
  obtain ⟨h1, h⟩ := He.ba h
  obtain ⟨h2, h⟩ := He.ba h
  obtain ⟨h3, h4⟩ := He.ba h
  refine ⟨He.eqO_ok h1, He.eqO_ok h2, of_decide_eq_true h3, ?_⟩
  unfold prG
  split at h4
  · rename_i g r e
    rw [e]
    exact ⟨r, rfl⟩
  · cases h4
def stB (C m : Str) (K : PySem.W.Frag) : Bool := decide (PySem.W.takerIn K (He.ga K C) m = some (some (.ref (prA C m K)))) && (decide (PySem.W.typeIn K (.ref (prA C m K)) = some (.type "property")) && (match PySem.W.recIn K (prA C m K) "property" with
  | some (_ :: .ref _ :: _) => true
  | _ => false))
theorem stB_ok {C m : Str} {K : PySem.W.Frag} (h : stB C m K = true) : SetP K (He.ga K C) m (prS C m K) := by
  obtain ⟨h1, h⟩ := He.ba h
  obtain ⟨h2, h3⟩ := He.ba h
  refine ⟨prA C m K, ?_⟩
  unfold prS
  split at h3
  · rename_i a g r e
    rw [e]
    exact ⟨a, r, of_decide_eq_true h1, of_decide_eq_true h2, rfl⟩
  · cases h3
/-- an own error class under Missing -/
def oxgB (K : PySem.W.Frag) (C : Addr) : Bool := (match K.lookup C with
  | some ⟨.type c, _, .cls cd, sl⟩ => (match cd.mro, sl.toList with
    | .ref C' :: .ref _ :: bm, [_, _, _, _, some (.builtin n), _] => decide (c = "type") && ((C' == C) && (decide (n = "LookupError.__new__") && (!cd.hasDel && (cd.hasDict && decide (bm = tlL)))))
    | _, _ => false)
  | _ => false) && (He.eqO (PySem.W.findIn K (.ref C) "__setattr__") (some (some (.builtin "object.__setattr__"))) && (decide (PySem.W.subIn K (.ref C) (.type "BaseException") = some true) && (decide (PySem.W.typeIn K (.ref C) = some (.type "type")) && PySem.W.keepIn K (.ref C))))
theorem oxgB_ok {K : PySem.W.Frag} {C : Addr} (h : oxgB K C = true) : OexG K "LookupError.__new__" tlL C := by
  obtain ⟨h1, h⟩ := He.ba h
  obtain ⟨h2, h⟩ := He.ba h
  obtain ⟨h3, h⟩ := He.ba h
  obtain ⟨h4, h5⟩ := He.ba h
  refine ⟨?_, He.eqO_ok h2, of_decide_eq_true h3, of_decide_eq_true h4, h5⟩
  split at h1
  · rename_i c dd cd sl ho
    split at h1
    · rename_i C' M bm k0 k1 k2 k3 n k5 hm hs
      obtain ⟨e1, q⟩ := He.ba h1
      obtain ⟨e2, q⟩ := He.ba q
      obtain ⟨e3, q⟩ := He.ba q
      obtain ⟨e4, q⟩ := He.ba q
      obtain ⟨e5, q6⟩ := He.ba q
      have e1 := of_decide_eq_true e1
      have e2 := beq_iff_eq.mp e2
      have e3 := of_decide_eq_true e3
      have q6 := of_decide_eq_true q6
      subst e1 e2 e3 q6
      obtain ⟨nm, bs, mro, ns, qn, hd, sn, sub, ab, col, del⟩ := cd
      dsimp only at hm e4 e5
      have e4 : del = false := by cases del with | false => rfl | true => cases e4
      subst hm e4 e5
      have hsl : sl = #[k0, k1, k2, k3, some (.builtin "LookupError.__new__"), k5] := by
        obtain ⟨sl⟩ := sl
        simp only at hs
        rw [hs]
      subst hsl
      exact ⟨nm, qn, ns, bs, .ref M :: tlL, sn, sub, ab, col, dd, k0, k1, k2, k3, k5, ho, ⟨fun self => by rw [PySem.refuseLoop_ref, PySem.refuseLoop_ref]; exact PySem.F.store_LookupError.passes self, by rfl, by rfl⟩, fun _ => rfl⟩
    · cases h1
  · cases h1
theorem exm_any2 {K : PySem.W.Frag} {c1 c2 cls : Value} (h1 : PySem.W.exmOne K cls c1 = some false) (h2 : PySem.W.exmOne K cls c2 = some true) : PySem.W.exmAny K cls [c1, c2] = some true := by
  unfold PySem.W.exmAny PySem.W.exmAny PySem.W.exmAny
  rw [h1, h2]
  rfl
def ercB (x : Str) (K : PySem.W.Frag) : Bool := oxgB K (He.ga K x) && (xfB K (He.ga K x) && (He.eqO (PySem.W.nsIn K mainGlobals x) (some (some (.ref (He.ga K x)))) && (He.eqO (PySem.W.findIn K (.ref (He.ga K x)) "tag") (some none) && (decide (PySem.W.exmOne K (.ref (He.ga K x)) (.ref (He.ga K "TieError")) = some false) && (decide (PySem.W.exmOne K (.ref (He.ga K x)) (.ref (He.ga K "Missing")) = some true) &&
  (He.eqO (PySem.W.findIn K (.ref (He.ga K x)) "__init__") (some (some (.ref (He.ma K (He.ga K x) "__init__")))) && (decide (PySem.W.typeIn K (.ref (He.ma K (He.ga K x) "__init__")) = some (.type "function")) &&
  (He.eqO (PySem.W.findIn K (.ref (He.ga K x)) "__class__") (some (some (.builtin "object.__class__"))) && (He.eqO (PySem.W.specialIn K (.builtin "object.__class__") "__get__") (some (some (.builtin "getset_descriptor.__get__"))) && (decide (PySem.W.takesIn K (.builtin "object.__class__") = some true) && decide (PySem.W.mroIn K (He.ga K x) (.type "object") = some true)))))))))))
theorem ercB_ok {K : PySem.W.Frag} {mg : Str → Option Value} {hp : Heap} {x : Str} (X : K.In hp) (G : hp.Ns mainGlobals mg) (h : ercB x K = true) : ErrG K mg x (He.ga K x) (He.ma K (He.ga K x) "__init__") "LookupError.__new__" tlL ∧ PySem.W.exmAny K (.ref (He.ga K x)) [.ref (He.ga K "TieError"), .ref (He.ga K "Missing")] = some true := by
  obtain ⟨h1, h⟩ := He.ba h
  obtain ⟨h2, h⟩ := He.ba h
  obtain ⟨h3, h⟩ := He.ba h
  obtain ⟨h4, h⟩ := He.ba h
  obtain ⟨h5, h⟩ := He.ba h
  obtain ⟨h6, h⟩ := He.ba h
  obtain ⟨h7, h⟩ := He.ba h
  obtain ⟨h8, h⟩ := He.ba h
  obtain ⟨h9, h⟩ := He.ba h
  obtain ⟨h10, h⟩ := He.ba h
  obtain ⟨h11, h12⟩ := He.ba h
  have X2 := xfB_ok h2
  exact ⟨⟨oxgB_ok h1, X2, ⟨X2.ga, X2.gg, X2.exC, X2.hdC, He.eqO_ok h9, He.eqO_ok h10, of_decide_eq_true h11, of_decide_eq_true h12⟩, PySem.W.mg_of X G (He.eqO_ok h3), He.eqO_ok h4, He.eqO_ok h7, of_decide_eq_true h8⟩, exm_any2 (of_decide_eq_true h5) (of_decide_eq_true h6)⟩
/-- numbers under text keys of a dict of the top; keys it lacks -/
def natB (D x : Str) (i : Int) (K : PySem.W.Frag) : Bool := match PySem.W.nsIn K (He.ga K D) x with
  | some (some (.int j _)) => decide (j = i)
  | _ => false
theorem natB_ok {D x : Str} {i : Int} {K : PySem.W.Frag} (h : natB D x i K = true) : ∃ t, PySem.W.nsIn K (He.ga K D) x = some (some (.int i t)) := by
  unfold natB at h
  split at h
  · rename_i j t e
    rw [e, of_decide_eq_true h]
    exact ⟨t, rfl⟩
  · cases h
def nokB (D x : Str) (K : PySem.W.Frag) : Bool := He.eqO (PySem.W.nsIn K (He.ga K D) x) (some none)
/-- the Hook with tables -/
abbrev TabZ : Type := (PySem.W.Frag → Addr) × List Str
abbrev AlZ : Type := AlY × List (Option (List (Option (Str × Int))))
def obsZK (fa : List He.Fa) (fn : List DefY) (ex : List (PySem.W.Frag → Bool)) (ts : List TabZ) (g : Addr → Option Obj) (K : PySem.W.Frag) : AlZ := (obsK fa fn ex g K, ts.map fun t => He.dicW K (t.1 K))
def obsZ (n : Nat) (fa : List He.Fa) (fn : List DefY) (ex : List (PySem.W.Frag → Bool)) (ts : List TabZ) (g : Addr → Option Obj) : AlZ := obsZK fa fn ex ts g (partY n g)
def wantZ (fn : List DefY) (ts : List TabZ) (w : World) : AlZ := (wantY fn, ts.map fun t => some (He.keysIn w.params t.2))
structure SaysZ (fa : List He.Fa) (fn : List DefY) (ex : List (PySem.W.Frag → Bool)) (ts : List TabZ) (w : World) (h : Heap) (K : PySem.W.Frag) : Prop where
  c : SaysY fa fn ex h K
  t : ts.map (fun t => He.dicW K (t.1 K)) = ts.map fun t => some (He.keysIn w.params t.2)
theorem saysZ {n : Nat} {fa : List He.Fa} {fn : List DefY} {ex : List (PySem.W.Frag → Bool)} {ts : List TabZ} {w : World} {h : Heap} (e : obsZ n fa fn ex ts h.get? = wantZ fn ts w) : SaysZ fa fn ex ts w h (partY n h.get?) :=
  ⟨saysY (congrArg (fun z : AlZ => z.1) e), congrArg (fun z : AlZ => z.2) e⟩
def hookZ (n : Nat) (fa : List He.Fa) (fn : List DefY) (ex : List (PySem.W.Frag → Bool)) (ts : List TabZ) : PySem.W.Hook where
  α := AlZ
  obs := fun s => obsZ n fa fn ex ts s.heap.get?
  val := fun w => wantZ fn ts w
  says := fun w h => ∃ K : PySem.W.Frag, SaysZ fa fn ex ts w h K
  of := fun _ _ e => ⟨_, saysZ e⟩
  keeps := fun _ _ _ ⟨K, c, t⟩ k => ⟨K, ⟨PySem.W.Frag.In.keeps c.kin k, c.fas, c.exs, c.def_, c.hd, c.out, k _ _ c.tab⟩, t⟩
theorem obsZ_eq {n : Nat} {fa : List He.Fa} {fn : List DefY} {ex : List (PySem.W.Frag → Bool)} {ts : List TabZ} {g : Addr → Option Obj} {s : Shared} (h : ∀ a, g a = s.heap.get? a) : obsZ n fa fn ex ts g = (hookZ n fa fn ex ts).obs s := by
  have e : g = s.heap.get? := funext h
  subst e
  rfl
theorem SaysZ.tab {fa : List He.Fa} {fn : List DefY} {ex : List (PySem.W.Frag → Bool)} {ts : List TabZ} {w : World} {h : Heap} {K : PySem.W.Frag} (c : SaysZ fa fn ex ts w h K) (i : Nat) {t : TabZ} (e : ts[i]? = some t := by rfl) : ∃ es n, KDict K w (t.1 K) es n := by
  have e2 : (ts.map fun t => He.dicW K (t.1 K))[i]? = (ts.map fun t => some (He.keysIn w.params t.2))[i]? := by rw [c.t]
  rw [List.getElem?_map, List.getElem?_map, e] at e2
  exact He.dicW_ok (Option.some.inj e2)
/-- the same Hook, its looks through a tree (for o_head, whose states are heaps) -/
def treeZ (s : Shared) : Option PySem.W.SharedT := match HandSHeadRun.putAll s.heap.objs.toList .nil 0 with
  | some (t, n) => HandSHeadRun.frNat n fun n => some ⟨t, n, s.heap.life, s.gens, s.drawn, s.toks, s.os⟩
  | none => none
theorem treeZ_ok {s : Shared} {t : PySem.W.SharedT} (h : treeZ s = some t) : t.abs.heap = s.heap := by
  unfold treeZ at h
  cases e : HandSHeadRun.putAll s.heap.objs.toList .nil 0 with
  | none =>
    rw [e] at h
    cases h
  | some r =>
    obtain ⟨T, n⟩ := r
    rw [e] at h
    have h : HandSHeadRun.frNat n (fun n => some (⟨T, n, s.heap.life, s.gens, s.drawn, s.toks, s.os⟩ : PySem.W.SharedT)) = some t := h
    rw [HandSHeadRun.frNat_eq] at h
    cases h
    exact HandSHeadRun.putAll_heap e
def obsZ2 (n : Nat) (fa : List He.Fa) (fn : List DefY) (ex : List (PySem.W.Frag → Bool)) (ts : List TabZ) (s : Shared) : Option AlZ := (treeZ s).map fun t => obsZ n fa fn ex ts (HandSHeadRun.getT t)
def hookZ2 (n : Nat) (fa : List He.Fa) (fn : List DefY) (ex : List (PySem.W.Frag → Bool)) (ts : List TabZ) : PySem.W.Hook where
  α := Option AlZ
  obs := fun s => obsZ2 n fa fn ex ts s
  val := fun w => some (wantZ fn ts w)
  says := fun w h => ∃ K : PySem.W.Frag, SaysZ fa fn ex ts w h K
  of := fun w s e => by
    obtain ⟨t, h1, h2⟩ := Option.map_eq_some_iff.mp (show (treeZ s).map (fun t => obsZ n fa fn ex ts (HandSHeadRun.getT t)) = some (wantZ fn ts w) from e)
    have h3 := treeZ_ok h1
    have h4 : HandSHeadRun.getT t = s.heap.get? := by
      rw [← h3]
      exact funext (HandSHeadRun.getT_eq t)
    rw [h4] at h2
    exact ⟨_, saysZ h2⟩
  keeps := fun _ _ _ ⟨K, c, t⟩ k => ⟨K, ⟨PySem.W.Frag.In.keeps c.kin k, c.fas, c.exs, c.def_, c.hd, c.out, k _ _ c.tab⟩, t⟩
end EK
namespace EQ
open PySem PySem.W PySem.W.Fast
noncomputable def isStrQ (v : Value) (k : Nat) (l : List Nat) : Bool := match v with
  | .str s _ => @Bool.rec (fun _ => Bool) false (lEq s.cps.toList l) (Nat.beq s.cps.size k)
  | _ => false
theorem isStrQ_eq (v : Value) (k : Nat) (l : List Nat) : v.isStrByCps k l = isStrQ v k l := by
  cases v with
  | str s t =>
    show (s.cps.size == k && s.cps.toList == l) = @Bool.rec (fun _ => Bool) false (lEq s.cps.toList l) (Nat.beq s.cps.size k)
    have e1 : (s.cps.size == k) = Nat.beq s.cps.size k := by
      rw [PySem.W.BT.beq_eq, Bool.eq_iff_iff, beq_iff_eq, decide_eq_true_iff]
    have e2 : (s.cps.toList == l) = lEq s.cps.toList l := by
      rw [Bool.eq_iff_iff, beq_iff_eq, lEq_iff]
    rw [e1, e2]
    cases Nat.beq s.cps.size k <;> rfl
  | _ => rfl
noncomputable def _root_.PySem.W.Fast.tw2831171521891899226 : Value → Nat → List Nat → Bool := isStrQ
theorem _root_.PySem.W.Fast.te2831171521891899226 : @Value.isStrByCps = PySem.W.Fast.tw2831171521891899226 := by
  funext v k l
  exact isStrQ_eq v k l
noncomputable def codeS (pos : Pos) (v w c : Value) (k : Option Value) : Option Value := match v with
  | .int i _ => (match w with
    | .int j _ => @Bool.rec (fun _ => Option Value) k (@Bool.rec (fun _ => Option Value) k (some c) (PySem.HeadEqs.isNatQ j pos.col)) (PySem.HeadEqs.isNatQ i pos.line)
    | _ => none)
  | _ => none
noncomputable def codeF (pos : Pos) (fuel : List Value) : List Value → Option Value :=
  @List.rec Value (fun _ => List Value → Option Value) (fun _ => none) (fun _ _ ih x => @List.rec Value (fun _ => Option Value) none (fun v r _ => @List.rec Value (fun _ => Option Value) none (fun w s _ => @List.rec Value (fun _ => Option Value) none (fun c t _ => codeS pos v w c (ih t)) s) r) x) fuel
theorem codeF_eq (pos : Pos) : ∀ (fuel x : List Value), x.length ≤ fuel.length → codeAmong pos x = codeF pos fuel x
  | [], [], _ => rfl
  | [], _ :: _, h => absurd h (Nat.not_succ_le_zero _)
  | _ :: _, [], _ => rfl
  | _ :: _, [v], _ => by cases v <;> rfl
  | _ :: _, [v, w], _ => by cases v <;> first | rfl | (cases w <;> rfl)
  | _ :: f, v :: w :: c :: t, h => by
    have ih := codeF_eq pos f t (by simp only [List.length_cons] at h; omega)
    show _ = codeS pos v w c (codeF pos f t)
    rw [← ih]
    cases v with
    | int i u =>
      cases w with
      | int j u2 =>
        show (if i == pos.line && j == pos.col then some c else codeAmong pos t) = @Bool.rec (fun _ => Option Value) (codeAmong pos t) (@Bool.rec (fun _ => Option Value) (codeAmong pos t) (some c) (PySem.HeadEqs.isNatQ j pos.col)) (PySem.HeadEqs.isNatQ i pos.line)
        rw [PySem.HeadEqs.isNatQ_eq, PySem.HeadEqs.isNatQ_eq]
        cases PySem.HeadEqs.isNatQ i pos.line <;> cases PySem.HeadEqs.isNatQ j pos.col <;> rfl
      | _ => rfl
    | _ => rfl
noncomputable def _root_.PySem.W.Fast.tw7104952167334194321 : Pos → List Value → Option Value := fun pos l => codeF pos l l
theorem _root_.PySem.W.Fast.te7104952167334194321 : @codeAmong = PySem.W.Fast.tw7104952167334194321 := by
  funext pos l
  exact codeF_eq pos l l (Nat.le_refl _)
noncomputable def _root_.PySem.W.Fast.tw3451499830137702736 : Nat → List Nat → List DictEntry → Bool → Option DictEntry × Bool := fun k l es saw =>
  @List.rec DictEntry (fun _ => Bool → Option DictEntry × Bool) (fun saw => (none, saw)) (fun e _ ih saw => @Bool.rec (fun _ => Option DictEntry × Bool) (ih (saw || e.refKey)) (some e, saw) (isStrQ e.key k l)) es saw
theorem _root_.PySem.W.Fast.te3451499830137702736 : @nsNameIn = PySem.W.Fast.tw3451499830137702736 := by
  funext k l es saw
  induction es generalizing saw with
  | nil => rfl
  | cons e r ih =>
    show (if e.key.isStrByCps k l then (some e, saw) else nsNameIn k l r (saw || e.refKey)) = @Bool.rec (fun _ => Option DictEntry × Bool) (PySem.W.Fast.tw3451499830137702736 k l r (saw || e.refKey)) (some e, saw) (isStrQ e.key k l)
    rw [isStrQ_eq, ih]
    cases isStrQ e.key k l <;> rfl
noncomputable def _root_.PySem.W.Fast.tw1728636982007431568 : Nat → List Nat → (Option DictEntry → DictEntry) → List DictEntry → List DictEntry × Bool := fun k l f es =>
  @List.rec DictEntry (fun _ => List DictEntry × Bool) ([f none], true) (fun e r ih => @Bool.rec (fun _ => List DictEntry × Bool) (@Prod.rec (List DictEntry) Bool (fun _ => List DictEntry × Bool) (fun r' added => (e :: r', added)) ih) (f (some e) :: r, false) (isStrQ e.key k l)) es
theorem _root_.PySem.W.Fast.te1728636982007431568 : @nsPutIn = PySem.W.Fast.tw1728636982007431568 := by
  funext k l f es
  induction es with
  | nil => rfl
  | cons e r ih =>
    show (if e.key.isStrByCps k l then (f (some e) :: r, false) else match nsPutIn k l f r with | (r', added) => (e :: r', added)) = @Bool.rec (fun _ => List DictEntry × Bool) (@Prod.rec (List DictEntry) Bool (fun _ => List DictEntry × Bool) (fun r' added => (e :: r', added)) (PySem.W.Fast.tw1728636982007431568 k l f r)) (f (some e) :: r, false) (isStrQ e.key k l)
    rw [isStrQ_eq, ih]
    cases isStrQ e.key k l <;> rfl
noncomputable def _root_.PySem.W.Fast.tw647714995902824686 : Env → Str → Option NameKind := PySem.HeadEqs.kindOfQ
theorem _root_.PySem.W.Fast.te647714995902824686 : PySem.W.Fast.tw4777696345729990297 = PySem.W.Fast.tw647714995902824686 := PySem.W.Fast.te4777696345729990297.symm.trans PySem.HeadEqs.kindOf_eq
noncomputable def _root_.PySem.W.Fast.tw55107378296497417 : Env → Str → Sem Addr := PySem.HeadEqs.cellOfQ
theorem _root_.PySem.W.Fast.te55107378296497417 : PySem.W.Fast.tw8831594254873152137 = PySem.W.Fast.tw55107378296497417 := PySem.W.Fast.te8831594254873152137.symm.trans PySem.HeadEqs.cellOf_eq
noncomputable def _root_.PySem.W.Fast.tw17531741557735109532 : PySem.W.BT → Nat → Option Obj := fun t i =>
  @PySem.W.BT.rec (fun _ => Nat → Option Obj) (fun _ => none) (fun v _ _ gl gr i => @Bool.rec (fun _ => Option Obj) (@Bool.rec (fun _ => Option Obj) (gr (Nat.sub (Nat.div i 2) 1)) (gl (Nat.div i 2)) (Nat.beq (Nat.mod i 2) 1)) (some v) (Nat.beq i 0)) t i
theorem _root_.PySem.W.Fast.te17531741557735109532 : @PySem.W.BT.get = PySem.W.Fast.tw17531741557735109532 := by
  funext t i
  induction t generalizing i with
  | nil => rfl
  | node v l r ihl ihr =>
    show (match Nat.beq i 0 with | true => some v | false => match Nat.beq (i % 2) 1 with | true => l.get (i / 2) | false => r.get (i / 2 - 1)) = @Bool.rec (fun _ => Option Obj) (@Bool.rec (fun _ => Option Obj) (PySem.W.Fast.tw17531741557735109532 r (i / 2 - 1)) (PySem.W.Fast.tw17531741557735109532 l (i / 2)) (Nat.beq (i % 2) 1)) (some v) (Nat.beq i 0)
    rw [ihl, ihr]
    cases Nat.beq i 0 <;> cases Nat.beq (i % 2) 1 <;> rfl
noncomputable def _root_.PySem.W.Fast.tw2155127814016266 : PySem.W.BT → Nat → (Obj → Obj) → PySem.W.BT := fun t i f =>
  @PySem.W.BT.rec (fun _ => Nat → PySem.W.BT) (fun _ => .nil) (fun v l r gl gr i => @Bool.rec (fun _ => PySem.W.BT) (@Bool.rec (fun _ => PySem.W.BT) (.node v l (gr (Nat.sub (Nat.div i 2) 1))) (.node v (gl (Nat.div i 2)) r) (Nat.beq (Nat.mod i 2) 1)) (.node (f v) l r) (Nat.beq i 0)) t i
theorem _root_.PySem.W.Fast.te2155127814016266 : @PySem.W.BT.set = PySem.W.Fast.tw2155127814016266 := by
  funext t i f
  induction t generalizing i with
  | nil => rfl
  | node v l r ihl ihr =>
    show (match Nat.beq i 0 with | true => PySem.W.BT.node (f v) l r | false => match Nat.beq (i % 2) 1 with | true => .node v (l.set (i / 2) f) r | false => .node v l (r.set (i / 2 - 1) f)) = @Bool.rec (fun _ => PySem.W.BT) (@Bool.rec (fun _ => PySem.W.BT) (.node v l (PySem.W.Fast.tw2155127814016266 r (i / 2 - 1) f)) (.node v (PySem.W.Fast.tw2155127814016266 l (i / 2) f) r) (Nat.beq (i % 2) 1)) (.node (f v) l r) (Nat.beq i 0)
    rw [ihl, ihr]
    cases Nat.beq i 0 <;> cases Nat.beq (i % 2) 1 <;> rfl
noncomputable def _root_.PySem.W.Fast.tw8654389118455300074 : PySem.W.BT → Nat → Obj → PySem.W.BT := fun t i o =>
  @PySem.W.BT.rec (fun _ => Nat → PySem.W.BT) (fun _ => .node o .nil .nil) (fun v l r gl gr i => @Bool.rec (fun _ => PySem.W.BT) (@Bool.rec (fun _ => PySem.W.BT) (.node v l (gr (Nat.sub (Nat.div i 2) 1))) (.node v (gl (Nat.div i 2)) r) (Nat.beq (Nat.mod i 2) 1)) (.node o l r) (Nat.beq i 0)) t i
theorem _root_.PySem.W.Fast.te8654389118455300074 : @PySem.W.BT.ins = PySem.W.Fast.tw8654389118455300074 := by
  funext t i o
  induction t generalizing i with
  | nil => rfl
  | node v l r ihl ihr =>
    show (match Nat.beq i 0 with | true => PySem.W.BT.node o l r | false => match Nat.beq (i % 2) 1 with | true => .node v (l.ins (i / 2) o) r | false => .node v l (r.ins (i / 2 - 1) o)) = @Bool.rec (fun _ => PySem.W.BT) (@Bool.rec (fun _ => PySem.W.BT) (.node v l (PySem.W.Fast.tw8654389118455300074 r (i / 2 - 1) o)) (.node v (PySem.W.Fast.tw8654389118455300074 l (i / 2) o) r) (Nat.beq (i % 2) 1)) (.node o l r) (Nat.beq i 0)
    rw [ihl, ihr]
    cases Nat.beq i 0 <;> cases Nat.beq (i % 2) 1 <;> rfl
end EQ
section
set_option maxHeartbeats 0
open PySem PySem.W
lay_quick PySem.W.Fast.tw11892475500146522536
lay_quick PySem.W.Fast.tw10156331382660048174
end
namespace EQ
open PySem PySem.W
/-! ### a runner that looks at each step once -/
section
variable (den : Code → Sem PySem.Fin) (st : SharedT → Thread → Option (SharedT × Thread)) (pr : Program) (w : World) (n0 : Nat) (ann : Option Value)
def keptOf (c : Code) (l : List Value) (cd : Code) : List Value :=
  match c, cd with
  | .builtin _ z, _ => unmarked z.refs
  | .call f z, .builtin .. => unmarked (if l.contains borrowed then z.refs else f :: z.refs)
  | .call f z, .call .. => unmarked (if l.contains borrowed then z.refs else f :: z.refs)
  | _, _ => []
/-- a step of any kind -/
noncomputable def slowZ (ih : SharedT → Thread → Option SharedT) (s : SharedT) (t : Thread) : Option SharedT := match through t with
  | true => some s
  | false => (match stepOk n0 ann t with
    | false => none
    | true => (match st s t with
      | some (s', t') => HandSHeadRun.frS s' fun s' => ih s' t'
      | none => none))
noncomputable def aliveZ (o : Obj) (α : Type) (k : Obj → Option α) : Option α := match alive o with
  | some o' => k o'
  | none => none
noncomputable def getZ (T : PySem.W.BT) (n a : Nat) (α : Type) (k : Obj → Option α) : Option α := @Bool.rec (fun _ => Option α) none (@Option.rec Obj (fun _ => Option α) none k (PySem.W.Fast.tw17531741557735109532 T a)) (Nat.blt a n)
noncomputable def bodyZ (ih : SharedT → Thread → Option SharedT) (T : PySem.W.BT) (n : Nat) (life : Life) (gens : Array GenState) (drawn : Drawn) (toks : Nat) (os : OsState) (cur : Sem PySem.Fin) (code : Code) (pos : Pos) (stack : List Frame) : Option SharedT := match cur with
  | .load a _ k => getZ T n a _ fun o => aliveZ o _ fun o' => ih ⟨T, n, life, gens, drawn, toks, os⟩ ⟨k o', code, pos, stack⟩
  | .update a _ f k => @Bool.rec (fun _ => Option SharedT) none (getZ T n a _ fun o => aliveZ o _ fun _ => ih ⟨PySem.W.Fast.tw2155127814016266 T a f, n, life, gens, drawn, toks, os⟩ ⟨k (), code, pos, stack⟩) (Nat.ble n0 a || a == mainNs || a == cStatics || ann == some (.ref a))
  | .alloc o k => @Option.rec Obj (fun _ => Option SharedT) none (fun _ => HandSHeadRun.frNat (Nat.succ n) fun n' => ih ⟨PySem.W.Fast.tw8654389118455300074 T n o, n', life, gens, drawn, toks, os⟩ ⟨k n, code, pos, stack⟩) (PySem.W.Fast.tw17531741557735109532 (PySem.W.Fast.tw8654389118455300074 T n o) n)
  | .rule _ k => ih ⟨T, n, life, gens, drawn, toks, os⟩ ⟨k (), code, pos, stack⟩
  | .at p k => ih ⟨T, n, life, gens, drawn, toks, os⟩ ⟨k (), code, p, stack⟩
  | .point _ k => ih ⟨T, n, life, gens, drawn, toks, os⟩ ⟨k (), code, pos, stack⟩
  | .fresh k => HandSHeadRun.frNat (Nat.succ toks) fun toks' => ih ⟨T, n, life, gens, drawn, toks', os⟩ ⟨k toks, code, pos, stack⟩
  | .ask k => ih ⟨T, n, life, gens, drawn, toks, os⟩ ⟨k ⟨pr, w.params⟩, code, pos, stack⟩
  | .call c h g l k => ih ⟨T, n, life, gens, drawn, toks, os⟩ ⟨den c, c, pos, .ret k h g l code pos (keptOf c l code) :: stack⟩
  | c => slowZ st n0 ann ih ⟨T, n, life, gens, drawn, toks, os⟩ ⟨c, code, pos, stack⟩
noncomputable def goZ : Nat → SharedT → Thread → Option SharedT := fun m => @Nat.rec (fun _ => SharedT → Thread → Option SharedT) (fun _ _ => none)
  (fun _ ih s t => @SharedT.rec (fun _ => Option SharedT) (fun T n life gens drawn toks os => @Thread.rec (fun _ => Option SharedT) (fun cur code pos stack => bodyZ den st pr w n0 ann ih T n life gens drawn toks os cur code pos stack) t) s) m
end
section
variable {den : Code → Sem PySem.Fin} {st : SharedT → Thread → Option (SharedT × Thread)} {pr : Program} {w : World} {n0 : Nat} {ann : Option Value}
theorem goZ_ok : ∀ {m : Nat} {s s' : SharedT} {t : Thread}, goZ den (stepT den pr w) pr w n0 ann m s t = some s' → HandSHeadRun.goF (stepT den pr w) n0 ann m s t = some s'
  | 0, _, _, _, h => by cases h
  | m + 1, ⟨T, n, life, gens, drawn, toks, os⟩, s', ⟨cur, code, pos, stack⟩, h => by
    have h1 : bodyZ den (stepT den pr w) pr w n0 ann (goZ den (stepT den pr w) pr w n0 ann m) T n life gens drawn toks os cur code pos stack = some s' := h
    have slow : ∀ {S : SharedT} {U : Thread}, slowZ (stepT den pr w) n0 ann (goZ den (stepT den pr w) pr w n0 ann m) S U = some s' → HandSHeadRun.goF (stepT den pr w) n0 ann (m + 1) S U = some s' := fun {S U} h => by
      show (match through U with
        | true => some S
        | false => match stepOk n0 ann U with
          | false => none
          | true => match stepT den pr w S U with
            | some (s', t') => HandSHeadRun.frS s' fun s' => HandSHeadRun.goF (stepT den pr w) n0 ann m s' t'
            | none => none) = some s'
      unfold slowZ at h
      cases e1 : through U with
      | true => rw [e1] at h; exact h
      | false =>
        rw [e1] at h
        cases e2 : stepOk n0 ann U with
        | false => rw [e2] at h; cases h
        | true =>
          rw [e2] at h
          cases e3 : stepT den pr w S U with
          | none => rw [e3] at h; cases h
          | some r =>
            obtain ⟨s2, t2⟩ := r
            rw [e3] at h
            have h : HandSHeadRun.frS s2 (fun s' => goZ den (stepT den pr w) pr w n0 ann m s' t2) = some s' := h
            show HandSHeadRun.frS s2 (fun s' => HandSHeadRun.goF (stepT den pr w) n0 ann m s' t2) = some s'
            rw [HandSHeadRun.frS_eq] at h ⊢
            exact goZ_ok h
    have fast : ∀ {S : SharedT} {U : Thread}, through ⟨cur, code, pos, stack⟩ = false → stepOk n0 ann ⟨cur, code, pos, stack⟩ = true → stepT den pr w ⟨T, n, life, gens, drawn, toks, os⟩ ⟨cur, code, pos, stack⟩ = some (S, U) → goZ den (stepT den pr w) pr w n0 ann m S U = some s' → HandSHeadRun.goF (stepT den pr w) n0 ann (m + 1) ⟨T, n, life, gens, drawn, toks, os⟩ ⟨cur, code, pos, stack⟩ = some s' := fun {S U} e1 e2 e3 h => by
      show (match through ⟨cur, code, pos, stack⟩ with
        | true => some _
        | false => match stepOk n0 ann ⟨cur, code, pos, stack⟩ with
          | false => none
          | true => match stepT den pr w ⟨T, n, life, gens, drawn, toks, os⟩ ⟨cur, code, pos, stack⟩ with
            | some (s', t') => HandSHeadRun.frS s' fun s' => HandSHeadRun.goF (stepT den pr w) n0 ann m s' t'
            | none => none) = some s'
      rw [e1, e2, e3]
      show HandSHeadRun.frS S (fun s' => HandSHeadRun.goF (stepT den pr w) n0 ann m s' U) = some s'
      rw [HandSHeadRun.frS_eq]
      exact goZ_ok h
    have got : ∀ {a : Nat} {k : Obj → Option SharedT}, getZ T n a _ k = some s' → Nat.blt a n = true ∧ ∃ o, T.get a = some o ∧ k o = some s' := fun {a k} h => by
      unfold getZ at h
      rw [← PySem.W.Fast.te17531741557735109532] at h
      cases e1 : Nat.blt a n with
      | false => rw [e1] at h; cases h
      | true =>
        rw [e1] at h
        cases e2 : T.get a with
        | none =>
          have h : @Option.rec Obj (fun _ => Option SharedT) none k (T.get a) = some s' := h
          rw [e2] at h
          cases h
        | some o =>
          have h : @Option.rec Obj (fun _ => Option SharedT) none k (T.get a) = some s' := h
          rw [e2] at h
          exact ⟨rfl, o, rfl, h⟩
    have lives : ∀ {o : Obj} {k : Obj → Option SharedT}, aliveZ o _ k = some s' → ∃ o', alive o = some o' ∧ k o' = some s' := fun {o k} h => by
      unfold aliveZ at h
      cases e : alive o with
      | none =>
        rw [e] at h
        cases h
      | some o' => rw [e] at h; exact ⟨o', rfl, h⟩
    cases cur with
    | load a part k =>
      obtain ⟨g1, o, g2, h2⟩ := got (show getZ T n a _ _ = some s' from h1)
      obtain ⟨o', g3, h3⟩ := lives h2
      refine fast (by cases stack <;> rfl) rfl ?_ h3
      show (match Nat.blt a n with
        | true => match T.get a with
          | some oz => match alive oz with
            | some o' => some _
            | none => none
          | none => none
        | false => none) = _
      rw [g1, g2]
      show (match alive o with | some o' => some _ | none => none) = _
      rw [g3]
    | update a part f k =>
      have h1 : @Bool.rec (fun _ => Option SharedT) none (getZ T n a _ fun o => aliveZ o _ fun _ => goZ den (stepT den pr w) pr w n0 ann m ⟨PySem.W.Fast.tw2155127814016266 T a f, n, life, gens, drawn, toks, os⟩ ⟨k (), code, pos, stack⟩) (Nat.ble n0 a || a == mainNs || a == cStatics || ann == some (.ref a)) = some s' := h1
      cases e0 : (Nat.ble n0 a || a == mainNs || a == cStatics || ann == some (.ref a)) with
      | false => rw [e0] at h1; cases h1
      | true =>
        rw [e0] at h1
        obtain ⟨g1, o, g2, h2⟩ := got (show getZ T n a _ _ = some s' from h1)
        obtain ⟨o', g3, h3⟩ := lives h2
        rw [← PySem.W.Fast.te2155127814016266] at h3
        refine fast (by cases stack <;> rfl) (by show (true && (Nat.ble n0 a || a == mainNs || a == cStatics || ann == some (.ref a))) = true; rw [e0]; rfl) ?_ h3
        show (match Nat.blt a n with
          | true => match T.get a with
            | some oz => match alive oz with
              | some _ => some _
              | none => none
            | none => none
          | false => none) = _
        rw [g1, g2]
        show (match alive o with | some _ => some _ | none => none) = _
        rw [g3]
    | alloc o k =>
      have h1 : @Option.rec Obj (fun _ => Option SharedT) none (fun _ => HandSHeadRun.frNat (Nat.succ n) fun n' => goZ den (stepT den pr w) pr w n0 ann m ⟨PySem.W.Fast.tw8654389118455300074 T n o, n', life, gens, drawn, toks, os⟩ ⟨k n, code, pos, stack⟩) (PySem.W.Fast.tw17531741557735109532 (PySem.W.Fast.tw8654389118455300074 T n o) n) = some s' := h1
      rw [← PySem.W.Fast.te8654389118455300074, ← PySem.W.Fast.te17531741557735109532] at h1
      cases e : (T.ins n o).get n with
      | none => rw [e] at h1; cases h1
      | some o' =>
        rw [e] at h1
        have h1 : HandSHeadRun.frNat (Nat.succ n) (fun n' => goZ den (stepT den pr w) pr w n0 ann m ⟨T.ins n o, n', life, gens, drawn, toks, os⟩ ⟨k n, code, pos, stack⟩) = some s' := h1
        rw [HandSHeadRun.frNat_eq] at h1
        refine fast (by cases stack <;> rfl) rfl ?_ h1
        show (match ((T.ins n o).get n).isSome with
          | true => some _
          | false => none) = _
        rw [e]
        rfl
    | rule tg k => exact fast (by cases stack <;> rfl) rfl rfl h1
    | «at» p k => exact fast (by cases stack <;> rfl) rfl rfl h1
    | point l k => exact fast (by cases stack <;> rfl) rfl rfl h1
    | fresh k =>
      have h1 : HandSHeadRun.frNat (Nat.succ toks) (fun toks' => goZ den (stepT den pr w) pr w n0 ann m ⟨T, n, life, gens, drawn, toks', os⟩ ⟨k toks, code, pos, stack⟩) = some s' := h1
      rw [HandSHeadRun.frNat_eq] at h1
      exact fast (by cases stack <;> rfl) rfl rfl h1
    | ask k => exact fast (by cases stack <;> rfl) rfl rfl h1
    | call c h g l k => exact fast (by cases stack <;> rfl) rfl (by cases c <;> cases code <;> rfl) h1
    | pure a => exact slow h1
    | raise e => exact slow h1
    | unsupported e => exact slow h1
    | finish e => exact slow h1
    | loadIfAlive a k => exact slow h1
    | register a k => exact slow h1
    | choose a b k => exact slow h1
    | os a b k => exact slow h1
    | handled a k => exact slow h1
    | newGen a k => exact slow h1
    | genState a k => exact slow h1
    | resume a b c k => exact slow h1
    | yield a b c k => exact slow h1
    | stack k => exact slow h1
    | fork a k => exact slow h1
    | thread k => exact slow h1
    | await a b c d k => exact slow h1
end
/-- behind the top, from the boot -/
noncomputable abbrev denZ : Code → Sem PySem.Fin := PySem.W.Fast.tw3367555080771980573 HandSHeadRun.tabQ
noncomputable abbrev stZ (pr : Program) (w : World) : SharedT → Thread → Option (SharedT × Thread) := PySem.W.Fast.tw17983883824507071642 denZ pr w
theorem denZ_eq : denote treeTable = denZ := by
  show _ = PySem.W.Fast.tw3367555080771980573 HandSHeadRun.tabQ
  rw [← PySem.W.Fast.te3367555080771980573, HandSHeadRun.tabQ_eq]
  exact congrFun HandSHeadRun.denQ_eq _
theorem stZ_eq (pr : Program) (w : World) : stepT denZ pr w = stZ pr w := by
  show _ = PySem.W.Fast.tw17983883824507071642 denZ pr w
  rw [← PySem.W.Fast.te17983883824507071642, HandSHeadRun.stepQ_eq]
  rfl
noncomputable def endZ (r : PySem.W.OpenRow) (M : Nat) (w : World) (os : OsState) : Option SharedT := match HandSHeadRun.putAll (boot_heap w.params).objs.toList .nil 0 with
  | some z => HandSHeadRun.frNat z.2 fun m0 => goZ denZ (stZ r.prog w) r.prog w m0 (HandSHeadRun.bootAnn w) M (HandSHeadRun.bootT w os (z.1, m0)) (topStub r.prog)
  | none => none
theorem endZ_map {r : PySem.W.OpenRow} {M : Nat} {w : World} {os : OsState} {α : Type} {f : SharedT → α} {v : α} (h : (endZ r M w os).map f = some v) : (EK.endY r M w os).map f = some v := by
  obtain ⟨s, hs, hv⟩ := Option.map_eq_some_iff.mp h
  refine Option.map_eq_some_iff.mpr ⟨s, ?_, hv⟩
  unfold endZ at hs
  show HandSHeadRun.endF (HandSHeadRun.stepQ (HandSHeadRun.denQ HandSHeadRun.tabQ) r.prog w) M r.prog w os = some s
  rw [show HandSHeadRun.stepQ (HandSHeadRun.denQ HandSHeadRun.tabQ) r.prog w = stepT denZ r.prog w by rw [← denZ_eq, HandSHeadRun.tabQ_eq, HandSHeadRun.denQ_eq, HandSHeadRun.stepQ_eq]]
  unfold HandSHeadRun.endF
  cases e : HandSHeadRun.putAll (boot_heap w.params).objs.toList .nil 0 with
  | none =>
    rw [e] at hs
    cases hs
  | some z =>
    obtain ⟨t, n⟩ := z
    rw [e] at hs
    have hs : HandSHeadRun.frNat n (fun m0 => goZ denZ (stZ r.prog w) r.prog w m0 (HandSHeadRun.bootAnn w) M (HandSHeadRun.bootT w os (t, m0)) (topStub r.prog)) = some s := hs
    show HandSHeadRun.frNat n (fun n0 => HandSHeadRun.goF (stepT denZ r.prog w) n0 (HandSHeadRun.bootAnn w) M (HandSHeadRun.bootT w os (t, n0)) (topStub r.prog)) = some s
    rw [HandSHeadRun.frNat_eq] at hs ⊢
    rw [← stZ_eq] at hs
    exact goZ_ok hs
end EQ
namespace T8
open PySem PySem.Spec PyProof.Rows L2 EK
def topS (i : Nat) : Stmt := PySem.Challenge.pw_tiespan_k77_values_of_other_kinds.main.body.getD i (.Pass ⟨0, 0, 0, 0⟩)
abbrev s_p_is_whole : Stmt := topS 25
abbrev s_p_common_divisor : Stmt := topS 27
abbrev s_p_is_ratio : Stmt := topS 29
abbrev s_p_is_name : Stmt := topS 93
abbrev s_p_is_term : Stmt := topS 94
abbrev s_p_are_terms : Stmt := topS 95
abbrev s_p_is_tie : Stmt := topS 96
abbrev s_p_names_in : Stmt := topS 97
abbrev s_p_ascending : Stmt := topS 117
abbrev s_p_pairs_of : Stmt := topS 118
abbrev s_p_first_wrong_name : Stmt := topS 145
abbrev s_p_first_wrong_tie : Stmt := topS 146
abbrev s_p_is_wish : Stmt := topS 150
abbrev s_p_check_wishes : Stmt := topS 151
abbrev s_p_check_commands : Stmt := topS 158
abbrev s_p_is_label : Stmt := topS 159
abbrev s_p_tie_labels : Stmt := topS 160
abbrev s_p_wish_labels : Stmt := topS 161
abbrev s_p_check_new_label : Stmt := topS 162
abbrev s_p_with_tie : Stmt := topS 163
abbrev s_p_with_wish : Stmt := topS 164
abbrev s_p_with_first : Stmt := topS 165
abbrev s_p_dropped : Stmt := topS 166
abbrev s_p_carried_out : Stmt := topS 167
abbrev s_p_lot_of : Stmt := topS 169
abbrev s_p_primed : Stmt := topS 174
abbrev s_feed : Stmt := topS 181
abbrev s_draw : Stmt := topS 182
abbrev s_any : Stmt := topS 183
abbrev s_same : Stmt := topS 184
abbrev s_field : Stmt := topS 185
abbrev s_why : Stmt := topS 186
abbrev s_errors : Stmt := topS 187
abbrev s_gcd : Stmt := topS 188
abbrev s_low : Stmt := topS 189
abbrev s_part : Stmt := topS 190
abbrev s_rate : Stmt := topS 191
abbrev s_words : Stmt := topS 192
abbrev s_terms : Stmt := topS 193
abbrev s_labels : Stmt := topS 194
abbrev s_p_law : Stmt := topS 195
theorem sc_p_is_whole : FnScope ["thing"] ["thing"] (defScope s_p_is_whole) := ⟨rfl, rfl, rfl, by decide +kernel, rfl, by decide +kernel, by decide +kernel⟩
theorem sc_p_common_divisor : FnScope ["one", "other"] ["one", "other"] (defScope s_p_common_divisor) := ⟨rfl, rfl, rfl, by decide +kernel, rfl, by decide +kernel, by decide +kernel⟩
theorem sc_p_is_ratio : FnScope ["thing", "top", "under"] ["thing"] (defScope s_p_is_ratio) := ⟨rfl, rfl, rfl, by decide +kernel, rfl, by decide +kernel, by decide +kernel⟩
theorem sc_p_is_name : FnScope ["text", "letters"] ["text"] (defScope s_p_is_name) := ⟨rfl, rfl, rfl, by decide +kernel, rfl, by decide +kernel, by decide +kernel⟩
theorem sc_p_is_term : FnScope ["thing"] ["thing"] (defScope s_p_is_term) := ⟨rfl, rfl, rfl, by decide +kernel, rfl, by decide +kernel, by decide +kernel⟩
theorem sc_p_are_terms : FnScope ["thing", "term"] ["thing"] (defScope s_p_are_terms) := ⟨rfl, rfl, rfl, by decide +kernel, rfl, by decide +kernel, by decide +kernel⟩
theorem sc_p_is_tie : FnScope ["thing"] ["thing"] (defScope s_p_is_tie) := ⟨rfl, rfl, rfl, by decide +kernel, rfl, by decide +kernel, by decide +kernel⟩
theorem sc_p_names_in : FnScope ["tie", "name", "rate"] ["tie"] (defScope s_p_names_in) := ⟨rfl, rfl, rfl, by decide +kernel, rfl, by decide +kernel, by decide +kernel⟩
theorem sc_p_ascending : FnScope ["names", "found", "name", "one"] ["names"] (defScope s_p_ascending) := ⟨rfl, rfl, rfl, by decide +kernel, rfl, by decide +kernel, by decide +kernel⟩
theorem sc_p_pairs_of : FnScope ["names", "at", "one", "other"] ["names"] (defScope s_p_pairs_of) := ⟨rfl, rfl, rfl, by decide +kernel, rfl, by decide +kernel, by decide +kernel⟩
theorem sc_p_first_wrong_name : FnScope ["names", "at", "name"] ["names"] (defScope s_p_first_wrong_name) := ⟨rfl, rfl, rfl, by decide +kernel, rfl, by decide +kernel, by decide +kernel⟩
theorem sc_p_first_wrong_tie : FnScope ["ties", "names", "at", "tie", "name"] ["ties", "names"] (defScope s_p_first_wrong_tie) := ⟨rfl, rfl, rfl, by decide +kernel, rfl, by decide +kernel, by decide +kernel⟩
theorem sc_p_is_wish : FnScope ["thing", "names", "terms", "target", "name", "rate"] ["thing", "names"] (defScope s_p_is_wish) := ⟨rfl, rfl, rfl, by decide +kernel, rfl, by decide +kernel, by decide +kernel⟩
theorem sc_p_check_wishes : FnScope ["lot", "wishes", "names", "at", "wish"] ["lot", "wishes"] (defScope s_p_check_wishes) := ⟨rfl, rfl, rfl, by decide +kernel, rfl, by decide +kernel, by decide +kernel⟩
theorem sc_p_check_commands : FnScope ["commands", "command", "first"] ["commands"] (defScope s_p_check_commands) := ⟨rfl, rfl, rfl, by decide +kernel, rfl, by decide +kernel, by decide +kernel⟩
theorem sc_p_is_label : FnScope ["thing"] ["thing"] (defScope s_p_is_label) := ⟨rfl, rfl, rfl, by decide +kernel, rfl, by decide +kernel, by decide +kernel⟩
theorem sc_p_tie_labels : FnScope ["state", "label"] ["state"] (defScope s_p_tie_labels) := ⟨rfl, rfl, rfl, by decide +kernel, rfl, by decide +kernel, by decide +kernel⟩
theorem sc_p_wish_labels : FnScope ["state", "wish"] ["state"] (defScope s_p_wish_labels) := ⟨rfl, rfl, rfl, by decide +kernel, rfl, by decide +kernel, by decide +kernel⟩
theorem sc_p_check_new_label : FnScope ["state", "label"] ["state", "label"] (defScope s_p_check_new_label) := ⟨rfl, rfl, rfl, by decide +kernel, rfl, by decide +kernel, by decide +kernel⟩
theorem sc_p_with_tie : FnScope ["state", "names", "limit", "label", "tie", "ties", "wishes"] ["state", "names", "limit", "label", "tie"] (defScope s_p_with_tie) := ⟨rfl, rfl, rfl, by decide +kernel, rfl, by decide +kernel, by decide +kernel⟩
theorem sc_p_with_wish : FnScope ["state", "names", "wish", "ties", "wishes", "label", "terms", "target"] ["state", "names", "wish"] (defScope s_p_with_wish) := ⟨rfl, rfl, rfl, by decide +kernel, rfl, by decide +kernel, by decide +kernel⟩
theorem sc_p_with_first : FnScope ["state", "label", "ties", "wishes", "chosen", "wish"] ["state", "label"] (defScope s_p_with_first) := ⟨rfl, rfl, rfl, by decide +kernel, rfl, by decide +kernel, by decide +kernel⟩
theorem sc_p_dropped : FnScope ["state", "label", "ties", "wishes", "wish", "one"] ["state", "label"] (defScope s_p_dropped) := ⟨rfl, rfl, rfl, by decide +kernel, rfl, by decide +kernel, by decide +kernel⟩
theorem sc_p_carried_out : FnScope ["state", "names", "limit", "command", "word"] ["state", "names", "limit", "command"] (defScope s_p_carried_out) := ⟨rfl, rfl, rfl, by decide +kernel, rfl, by decide +kernel, by decide +kernel⟩
theorem sc_p_lot_of : FnScope ["names", "state", "label"] ["names", "state"] (defScope s_p_lot_of) := ⟨rfl, rfl, rfl, by decide +kernel, rfl, by decide +kernel, by decide +kernel⟩
theorem sc_p_primed : FnScope ["names", "name"] ["names"] (defScope s_p_primed) := ⟨rfl, rfl, rfl, by decide +kernel, rfl, by decide +kernel, by decide +kernel⟩
theorem sc_feed : FnScope ["_law_script", "_law_cell", "_law_cells", "_law_mark"] ["_law_script"] (defScope s_feed) := ⟨rfl, rfl, rfl, by decide +kernel, rfl, by decide +kernel, by decide +kernel⟩
theorem sc_draw : FnScope ["_law_feed_here", "_law_many", "_law_cell", "_law_one", "_law_two", "_law_drawn"] ["_law_feed_here", "_law_many"] (defScope s_draw) := ⟨rfl, rfl, rfl, by decide +kernel, rfl, by decide +kernel, by decide +kernel⟩
theorem sc_any : FnScope ["_law_feed_here", "_law_row"] ["_law_feed_here", "_law_row"] (defScope s_any) := ⟨rfl, rfl, rfl, by decide +kernel, rfl, by decide +kernel, by decide +kernel⟩
theorem sc_same : FnScope ["_law_found", "_law_due", "_law_key", "_law_one", "_law_two"] ["_law_found", "_law_due"] (defScope s_same) := ⟨rfl, rfl, rfl, by decide +kernel, rfl, by decide +kernel, by decide +kernel⟩
theorem sc_field : FnScope ["_law_e"] ["_law_e"] (defScope s_field) := ⟨rfl, rfl, rfl, by decide +kernel, rfl, by decide +kernel, by decide +kernel⟩
theorem sc_why : FnScope ["_law_ask", "_law_told", "_law_e"] ["_law_ask"] (defScope s_why) := ⟨rfl, rfl, rfl, by decide +kernel, rfl, by decide +kernel, by decide +kernel⟩
theorem sc_errors : FnScope ["_law_asks", "_law_ask"] ["_law_asks"] (defScope s_errors) := ⟨rfl, rfl, rfl, by decide +kernel, rfl, by decide +kernel, by decide +kernel⟩
theorem sc_gcd : FnScope ["_law_one", "_law_two"] ["_law_one", "_law_two"] (defScope s_gcd) := ⟨rfl, rfl, rfl, by decide +kernel, rfl, by decide +kernel, by decide +kernel⟩
theorem sc_low : FnScope ["_law_upper", "_law_lower", "_law_part_here"] ["_law_upper", "_law_lower"] (defScope s_low) := ⟨rfl, rfl, rfl, by decide +kernel, rfl, by decide +kernel, by decide +kernel⟩
theorem sc_part : FnScope ["_law_feed_here", "_law_size", "_law_upper"] ["_law_feed_here", "_law_size"] (defScope s_part) := ⟨rfl, rfl, rfl, by decide +kernel, rfl, by decide +kernel, by decide +kernel⟩
theorem sc_rate : FnScope ["_law_feed_here"] ["_law_feed_here"] (defScope s_rate) := ⟨rfl, rfl, rfl, by decide +kernel, rfl, by decide +kernel, by decide +kernel⟩
theorem sc_words : FnScope ["_law_feed_here", "_law_many", "_law_letters", "_law_stem", "_law_spot", "_law_first", "_law_way", "_law_found", "_law_k"] ["_law_feed_here", "_law_many"] (defScope s_words) := ⟨rfl, rfl, rfl, by decide +kernel, rfl, by decide +kernel, by decide +kernel⟩
theorem sc_terms : FnScope ["_law_feed_here", "_law_words_here", "_law_pairs", "_law_one", "_law_chosen", "_law_name"] ["_law_feed_here", "_law_words_here", "_law_pairs"] (defScope s_terms) := ⟨rfl, rfl, rfl, by decide +kernel, rfl, by decide +kernel, by decide +kernel⟩
theorem sc_labels : FnScope ["_law_feed_here", "_law_letters", "_law_stem", "_law_spot", "_law_first", "_law_found", "_law_k"] ["_law_feed_here"] (defScope s_labels) := ⟨rfl, rfl, rfl, by decide +kernel, rfl, by decide +kernel, by decide +kernel⟩
theorem sc_p_law : FnScope ["_law_script", "_law_feed_here", "_law_label", "_law_asks", "_law_board", "_law_odd", "_law_row", "_law_tie", "_law_wish", "_law_words_here"] ["_law_script"] (defScope s_p_law) := ⟨rfl, rfl, rfl, by decide +kernel, rfl, by decide +kernel, by decide +kernel⟩
abbrev s_p_LotInit : Stmt := inClass (topS 148) 0
theorem sc_p_LotInit : FnScope ["self", "names", "ties", "wrong"] ["self", "names", "ties"] (defScope s_p_LotInit) := ⟨rfl, rfl, rfl, by decide +kernel, rfl, by decide +kernel, by decide +kernel⟩
abbrev s_p_LotNames : Stmt := inClass (topS 148) 2
theorem sc_p_LotNames : FnScope ["self"] ["self"] (defScope s_p_LotNames) := ⟨rfl, rfl, rfl, by decide +kernel, rfl, by decide +kernel, by decide +kernel⟩
abbrev s_p_LotTies : Stmt := inClass (topS 148) 3
theorem sc_p_LotTies : FnScope ["self"] ["self"] (defScope s_p_LotTies) := ⟨rfl, rfl, rfl, by decide +kernel, rfl, by decide +kernel, by decide +kernel⟩
abbrev s_p_BoardInit : Stmt := inClass (topS 171) 1
theorem sc_p_BoardInit : FnScope ["self", "names", "limit"] ["self", "names", "limit"] (defScope s_p_BoardInit) := ⟨rfl, rfl, rfl, by decide +kernel, rfl, by decide +kernel, by decide +kernel⟩
abbrev s_p_BoardLimit : Stmt := inClass (topS 171) 3
theorem sc_p_BoardLimit : FnScope ["self"] ["self"] (defScope s_p_BoardLimit) := ⟨rfl, rfl, rfl, by decide +kernel, rfl, by decide +kernel, by decide +kernel⟩
abbrev s_p_BoardSetLimit : Stmt := inClass (topS 171) 4
theorem sc_p_BoardSetLimit : FnScope ["self", "value"] ["self", "value"] (defScope s_p_BoardSetLimit) := ⟨rfl, rfl, rfl, by decide +kernel, rfl, by decide +kernel, by decide +kernel⟩
abbrev s_p_BoardChange : Stmt := inClass (topS 171) 5
theorem sc_p_BoardChange : FnScope ["self", "value"] ["self", "value"] (defScope s_p_BoardChange) := ⟨rfl, rfl, rfl, by decide +kernel, rfl, by decide +kernel, by decide +kernel⟩
abbrev s_p_BoardBusy : Stmt := inClass (topS 171) 6
theorem sc_p_BoardBusy : FnScope ["self"] ["self"] (defScope s_p_BoardBusy) := ⟨rfl, rfl, rfl, by decide +kernel, rfl, by decide +kernel, by decide +kernel⟩
abbrev s_p_BoardTurn : Stmt := inClass (topS 171) 8
theorem sc_p_BoardTurn : FnScope ["self", "state"] ["self", "state"] (defScope s_p_BoardTurn) := ⟨rfl, rfl, rfl, by decide +kernel, rfl, by decide +kernel, by decide +kernel⟩
abbrev s_p_BoardCarry : Stmt := inClass (topS 171) 9
theorem sc_p_BoardCarry : FnScope ["self", "commands", "guarded", "state", "command"] ["self", "commands", "guarded"] (defScope s_p_BoardCarry) := ⟨rfl, rfl, rfl, by decide +kernel, rfl, by decide +kernel, by decide +kernel⟩
abbrev s_p_BoardApply : Stmt := inClass (topS 171) 10
theorem sc_p_BoardApply : FnScope ["self", "commands"] ["self", "commands"] (defScope s_p_BoardApply) := ⟨rfl, rfl, rfl, by decide +kernel, rfl, by decide +kernel, by decide +kernel⟩
abbrev s_p_BoardHistory : Stmt := inClass (topS 171) 13
theorem sc_p_BoardHistory : FnScope ["self"] ["self"] (defScope s_p_BoardHistory) := ⟨rfl, rfl, rfl, by decide +kernel, rfl, by decide +kernel, by decide +kernel⟩
abbrev s_p_BoardLen : Stmt := inClass (topS 171) 27
theorem sc_p_BoardLen : FnScope ["self"] ["self"] (defScope s_p_BoardLen) := ⟨rfl, rfl, rfl, by decide +kernel, rfl, by decide +kernel, by decide +kernel⟩
abbrev s_p_BoardLabels : Stmt := inClass (topS 171) 15
theorem sc_p_BoardLabels : FnScope ["self", "label"] ["self"] (defScope s_p_BoardLabels) := ⟨rfl, rfl, rfl, by decide +kernel, rfl, by decide +kernel, by decide +kernel⟩
abbrev s_p_BoardTie : Stmt := inClass (topS 171) 17
theorem sc_p_BoardTie : FnScope ["self", "label"] ["self", "label"] (defScope s_p_BoardTie) := ⟨rfl, rfl, rfl, by decide +kernel, rfl, by decide +kernel, by decide +kernel⟩
abbrev s_p_StepInit : Stmt := inClass (topS 179) 1
theorem sc_p_StepInit : FnScope ["self", "names", "ties", "at", "name", "wrong"] ["self", "names", "ties"] (defScope s_p_StepInit) := ⟨rfl, rfl, rfl, by decide +kernel, rfl, by decide +kernel, by decide +kernel⟩
abbrev s_p_StepRepeated : Stmt := inClass (topS 179) 9
theorem sc_p_StepRepeated : FnScope ["self", "times", "half"] ["self", "times"] (defScope s_p_StepRepeated) := ⟨rfl, rfl, rfl, by decide +kernel, rfl, by decide +kernel, by decide +kernel⟩
abbrev s_p_LayInit : Stmt := inClass (topS 154) 1
theorem sc_p_LayInit : FnScope ["self", "lot", "wishes"] ["self", "lot", "wishes"] (defScope s_p_LayInit) := ⟨rfl, rfl, rfl, by decide +kernel, rfl, by decide +kernel, by decide +kernel⟩
abbrev s_p_LayPresent : Stmt := inClass (topS 154) 5
theorem sc_p_LayPresent : FnScope ["self", "at"] ["self", "at"] (defScope s_p_LayPresent) := ⟨rfl, rfl, rfl, by decide +kernel, rfl, by decide +kernel, by decide +kernel⟩
abbrev s_p_LayDrop : Stmt := inClass (topS 154) 6
theorem sc_p_LayDrop : FnScope ["self", "at"] ["self", "at"] (defScope s_p_LayDrop) := ⟨rfl, rfl, rfl, by decide +kernel, rfl, by decide +kernel, by decide +kernel⟩
abbrev s_p_LayMove : Stmt := inClass (topS 154) 7
theorem sc_p_LayMove : FnScope ["self", "at", "to"] ["self", "at", "to"] (defScope s_p_LayMove) := ⟨rfl, rfl, rfl, by decide +kernel, rfl, by decide +kernel, by decide +kernel⟩
abbrev s_p_LayWishes : Stmt := inClass (topS 154) 3
theorem sc_p_LayWishes : FnScope ["self"] ["self"] (defScope s_p_LayWishes) := ⟨rfl, rfl, rfl, by decide +kernel, rfl, by decide +kernel, by decide +kernel⟩
structure Txt (K : PySem.W.Frag) (mg : Str → Option Value) (fa : Nat → Addr) (fd : Nat → FuncData) : Prop where
  F_LotInit : FunD K "__init__" "Lot.__init__" (defArgs s_p_LotInit) (defBody s_p_LotInit) (defScope s_p_LotInit) [V.ref (fa 1502)] [] (fa 1500) (fd 1500)
  b_LotInit : Binds K (fd 1500) ["self", "names", "ties"] []
  b_LotInit1 : ∃ ds, Vals [V.ref (fa 1502)] ds ∧ Binds K (fd 1500) ["self", "names", "ties"] ds
  z_LotInit : ∀ H : Hp, SqT K H (fa 1502) []
  mk_Lot : Mk K (fa 148) (fa 1500)
  g_Lot : mg "Lot" = some (.ref (fa 148))
  cl_Lot : Cls K (fa 148)
  na_Lot_unknowns : NoAttr K (fa 148) "unknowns"
  na_Lot_bonds : NoAttr K (fa 148) "bonds"
  F_LotNames : Fun K "names" "Lot.names" s_p_LotNames (fa 1510) (fd 1510)
  b_LotNames : Binds K (fd 1510) ["self"] []
  me_LotNames : Meth K (fa 148) "names" (fa 1510)
  F_LotTies : Fun K "ties" "Lot.ties" s_p_LotTies (fa 1511) (fd 1511)
  b_LotTies : Binds K (fd 1511) ["self"] []
  me_LotTies : Meth K (fa 148) "ties" (fa 1511)
  F_BoardInit : FunD K "__init__" "Board.__init__" (defArgs s_p_BoardInit) (defBody s_p_BoardInit) (defScope s_p_BoardInit) [] [("limit", V.int 20)] (fa 1700) (fd 1700)
  b_BoardInit1 : ∃ ds, Vals [V.int 20] ds ∧ Binds K (fd 1700) ["self", "names", "limit"] ds
  kb_BoardInit : KBn K (fd 1700) ["self", "names", "limit"] 2 ["limit"] (fun us ws => us ++ ws) (fun vs zs => vs ++ zs)
  most_Board : ∃ mc t, ClsI K (fa 171) mc "MOST" 40 t
  mk_Board : Mk K (fa 171) (fa 1700)
  g_Board : mg "Board" = some (.ref (fa 171))
  cl_Board : Cls K (fa 171)
  na_Board_unknowns : NoAttr K (fa 171) "unknowns"
  na_Board_room : NoAttr K (fa 171) "room"
  na_Board_state : NoAttr K (fa 171) "state"
  na_Board_past : NoAttr K (fa 171) "past"
  na_Board_coming : NoAttr K (fa 171) "coming"
  na_Board_figures : NoAttr K (fa 171) "figures"
  na_Board_computed : NoAttr K (fa 171) "computed"
  na_Board_working : NoAttr K (fa 171) "working"
  F_BoardLimit : Fun K "limit" "Board.limit" s_p_BoardLimit (fa 1710) (fd 1710)
  b_BoardLimit : Binds K (fd 1710) ["self"] []
  pr_BoardLimit : ∃ p, PropOf K (fa 171) "limit" p (fa 1710)
  F_BoardSetLimit : Fun K "limit" "Board.limit" s_p_BoardSetLimit (fa 1711) (fd 1711)
  b_BoardSetLimit : Binds K (fd 1711) ["self", "value"] []
  st_BoardSetLimit : SetP K (fa 171) "limit" (fa 1711)
  F_BoardChange : Fun K "change_limit" "Board.change_limit" s_p_BoardChange (fa 1712) (fd 1712)
  b_BoardChange : Binds K (fd 1712) ["self", "value"] []
  me_BoardChange : Meth K (fa 171) "change_limit" (fa 1712)
  F_BoardBusy : Fun K "busy" "Board.busy" s_p_BoardBusy (fa 1713) (fd 1713)
  b_BoardBusy : Binds K (fd 1713) ["self"] []
  pr_BoardBusy : ∃ p, PropOf K (fa 171) "busy" p (fa 1713)
  F_BoardTurn : Fun K "turn_to" "Board.turn_to" s_p_BoardTurn (fa 1714) (fd 1714)
  b_BoardTurn : Binds K (fd 1714) ["self", "state"] []
  me_BoardTurn : Meth K (fa 171) "turn_to" (fa 1714)
  F_BoardCarry : Fun K "carry_out" "Board.carry_out" s_p_BoardCarry (fa 1715) (fd 1715)
  b_BoardCarry : Binds K (fd 1715) ["self", "commands", "guarded"] []
  me_BoardCarry : Meth K (fa 171) "carry_out" (fa 1715)
  F_BoardApply : Fun K "apply" "Board.apply" s_p_BoardApply (fa 1716) (fd 1716)
  me_BoardApply : Meth K (fa 171) "apply" (fa 1716)
  F_BoardHistory : Fun K "history" "Board.history" s_p_BoardHistory (fa 1719) (fd 1719)
  b_BoardHistory : Binds K (fd 1719) ["self"] []
  me_BoardHistory : Meth K (fa 171) "history" (fa 1719)
  F_BoardLen : Fun K "__len__" "Board.__len__" s_p_BoardLen (fa 1723) (fd 1723)
  b_BoardLen : Binds K (fd 1723) ["self"] []
  me_BoardLen : Meth K (fa 171) "__len__" (fa 1723)
  F_BoardLabels : Fun K "labels" "Board.labels" s_p_BoardLabels (fa 1725) (fd 1725)
  b_BoardLabels : Binds K (fd 1725) ["self"] []
  me_BoardLabels : Meth K (fa 171) "labels" (fa 1725)
  F_BoardTie : Fun K "tie" "Board.tie" s_p_BoardTie (fa 1726) (fd 1726)
  b_BoardTie : Binds K (fd 1726) ["self", "label"] []
  me_BoardTie : Meth K (fa 171) "tie" (fa 1726)
  F_StepInit : FunD K "__init__" "Step.__init__" (defArgs s_p_StepInit) (defBody s_p_StepInit) (defScope s_p_StepInit) [V.ref (fa 1602)] [] (fa 1600) (fd 1600)
  b_StepInit : Binds K (fd 1600) ["self", "names", "ties"] []
  b_StepInit1 : ∃ ds, Vals [V.ref (fa 1602)] ds ∧ Binds K (fd 1600) ["self", "names", "ties"] ds
  z_StepInit : ∀ H : Hp, SqT K H (fa 1602) []
  mk_Step : Mk K (fa 179) (fa 1600)
  g_Step : mg "Step" = some (.ref (fa 179))
  cl_Step : Cls K (fa 179)
  na_Step_unknowns : NoAttr K (fa 179) "unknowns"
  na_Step_bonds : NoAttr K (fa 179) "bonds"
  F_StepRepeated : Fun K "repeated" "Step.repeated" s_p_StepRepeated (fa 1611) (fd 1611)
  b_StepRepeated : Binds K (fd 1611) ["self", "times"] []
  me_StepRepeated : Meth K (fa 179) "repeated" (fa 1611)
  F_LayInit : Fun K "__init__" "Layout.__init__" s_p_LayInit (fa 1800) (fd 1800)
  mk_Layout : Mk K (fa 154) (fa 1800)
  g_Layout : mg "Layout" = some (.ref (fa 154))
  cl_Layout : Cls K (fa 154)
  na_Layout_ground : NoAttr K (fa 154) "ground"
  na_Layout_asked : NoAttr K (fa 154) "asked"
  F_LayPresent : Fun K "present" "Layout.present" s_p_LayPresent (fa 1810) (fd 1810)
  b_LayPresent : Binds K (fd 1810) ["self", "at"] []
  me_LayPresent : Meth K (fa 154) "present" (fa 1810)
  F_LayDrop : Fun K "drop" "Layout.drop" s_p_LayDrop (fa 1811) (fd 1811)
  b_LayDrop : Binds K (fd 1811) ["self", "at"] []
  me_LayDrop : Meth K (fa 154) "drop" (fa 1811)
  F_LayMove : FunD K "move" "Layout.move" (defArgs s_p_LayMove) (defBody s_p_LayMove) (defScope s_p_LayMove) [] [("to", V.int 0)] (fa 1812) (fd 1812)
  b_LayMove1 : ∃ ds, Vals [V.int 0] ds ∧ Binds K (fd 1812) ["self", "at", "to"] ds
  kb_LayMove : KBn K (fd 1812) ["self", "at", "to"] 2 ["to"] (fun us ws => us ++ ws) (fun vs zs => vs ++ zs)
  me_LayMove : Meth K (fa 154) "move" (fa 1812)
  F_LayWishes : Fun K "wishes" "Layout.wishes" s_p_LayWishes (fa 1813) (fd 1813)
  b_LayWishes : Binds K (fd 1813) ["self"] []
  me_LayWishes : Meth K (fa 154) "wishes" (fa 1813)
  eUnknownName : ErrG K mg "UnknownName" (fa 17) (fa 1017) "LookupError.__new__" tlL
  mUnknownName : PySem.W.exmAny K (.ref (fa 17)) [.ref (fa 2), .ref (fa 16)] = some true
  IUnknownName : Fun K "__init__" "UnknownName.__init__" (inClass (topS 17) 0) (fa 1017) (fd 1017)
  bIUnknownName : Binds K (fd 1017) ["self", "name"] []
  nUnknownName_name : PySem.W.findIn K (.ref (fa 17)) "name" = some none
  eUnknownLabel : ErrG K mg "UnknownLabel" (fa 18) (fa 1018) "LookupError.__new__" tlL
  mUnknownLabel : PySem.W.exmAny K (.ref (fa 18)) [.ref (fa 2), .ref (fa 16)] = some true
  IUnknownLabel : Fun K "__init__" "UnknownLabel.__init__" (inClass (topS 18) 0) (fa 1018) (fd 1018)
  bIUnknownLabel : Binds K (fd 1018) ["self", "label"] []
  nUnknownLabel_label : PySem.W.findIn K (.ref (fa 18)) "label" = some none
  most_Layout : ∃ mc t, ClsI K (fa 154) mc "MOST" 8 t
  most_Step : ∃ mc t, ClsI K (fa 179) mc "MOST" 3 t
  g_LENGTHS : mg "LENGTHS" = some (.ref (fa 2100))
  F_p_is_whole : Fun K "is_whole" "is_whole" s_p_is_whole (fa 25) (fd 25)
  g_p_is_whole : mg "is_whole" = some (.ref (fa 25))
  b_p_is_whole : Binds K (fd 25) ["thing"] []
  F_p_common_divisor : Fun K "common_divisor" "common_divisor" s_p_common_divisor (fa 27) (fd 27)
  g_p_common_divisor : mg "common_divisor" = some (.ref (fa 27))
  b_p_common_divisor : Binds K (fd 27) ["one", "other"] []
  F_p_is_ratio : Fun K "is_ratio" "is_ratio" s_p_is_ratio (fa 29) (fd 29)
  g_p_is_ratio : mg "is_ratio" = some (.ref (fa 29))
  b_p_is_ratio : Binds K (fd 29) ["thing"] []
  F_p_is_name : Fun K "is_name" "is_name" s_p_is_name (fa 93) (fd 93)
  g_p_is_name : mg "is_name" = some (.ref (fa 93))
  b_p_is_name : Binds K (fd 93) ["text"] []
  F_p_is_term : Fun K "is_term" "is_term" s_p_is_term (fa 94) (fd 94)
  g_p_is_term : mg "is_term" = some (.ref (fa 94))
  b_p_is_term : Binds K (fd 94) ["thing"] []
  F_p_are_terms : Fun K "are_terms" "are_terms" s_p_are_terms (fa 95) (fd 95)
  g_p_are_terms : mg "are_terms" = some (.ref (fa 95))
  b_p_are_terms : Binds K (fd 95) ["thing"] []
  F_p_is_tie : Fun K "is_tie" "is_tie" s_p_is_tie (fa 96) (fd 96)
  g_p_is_tie : mg "is_tie" = some (.ref (fa 96))
  b_p_is_tie : Binds K (fd 96) ["thing"] []
  F_p_names_in : Fun K "names_in" "names_in" s_p_names_in (fa 97) (fd 97)
  g_p_names_in : mg "names_in" = some (.ref (fa 97))
  b_p_names_in : Binds K (fd 97) ["tie"] []
  F_p_ascending : Fun K "ascending" "ascending" s_p_ascending (fa 117) (fd 117)
  g_p_ascending : mg "ascending" = some (.ref (fa 117))
  b_p_ascending : Binds K (fd 117) ["names"] []
  F_p_pairs_of : Fun K "pairs_of" "pairs_of" s_p_pairs_of (fa 118) (fd 118)
  g_p_pairs_of : mg "pairs_of" = some (.ref (fa 118))
  b_p_pairs_of : Binds K (fd 118) ["names"] []
  F_p_first_wrong_name : Fun K "first_wrong_name" "first_wrong_name" s_p_first_wrong_name (fa 145) (fd 145)
  g_p_first_wrong_name : mg "first_wrong_name" = some (.ref (fa 145))
  b_p_first_wrong_name : Binds K (fd 145) ["names"] []
  F_p_first_wrong_tie : Fun K "first_wrong_tie" "first_wrong_tie" s_p_first_wrong_tie (fa 146) (fd 146)
  g_p_first_wrong_tie : mg "first_wrong_tie" = some (.ref (fa 146))
  b_p_first_wrong_tie : Binds K (fd 146) ["ties", "names"] []
  F_p_is_wish : Fun K "is_wish" "is_wish" s_p_is_wish (fa 150) (fd 150)
  g_p_is_wish : mg "is_wish" = some (.ref (fa 150))
  b_p_is_wish : Binds K (fd 150) ["thing", "names"] []
  F_p_check_wishes : Fun K "check_wishes" "check_wishes" s_p_check_wishes (fa 151) (fd 151)
  g_p_check_wishes : mg "check_wishes" = some (.ref (fa 151))
  b_p_check_wishes : Binds K (fd 151) ["lot", "wishes"] []
  F_p_check_commands : Fun K "check_commands" "check_commands" s_p_check_commands (fa 158) (fd 158)
  g_p_check_commands : mg "check_commands" = some (.ref (fa 158))
  b_p_check_commands : Binds K (fd 158) ["commands"] []
  F_p_is_label : Fun K "is_label" "is_label" s_p_is_label (fa 159) (fd 159)
  g_p_is_label : mg "is_label" = some (.ref (fa 159))
  b_p_is_label : Binds K (fd 159) ["thing"] []
  F_p_tie_labels : Fun K "tie_labels" "tie_labels" s_p_tie_labels (fa 160) (fd 160)
  g_p_tie_labels : mg "tie_labels" = some (.ref (fa 160))
  b_p_tie_labels : Binds K (fd 160) ["state"] []
  F_p_wish_labels : Fun K "wish_labels" "wish_labels" s_p_wish_labels (fa 161) (fd 161)
  g_p_wish_labels : mg "wish_labels" = some (.ref (fa 161))
  b_p_wish_labels : Binds K (fd 161) ["state"] []
  F_p_check_new_label : Fun K "check_new_label" "check_new_label" s_p_check_new_label (fa 162) (fd 162)
  g_p_check_new_label : mg "check_new_label" = some (.ref (fa 162))
  b_p_check_new_label : Binds K (fd 162) ["state", "label"] []
  F_p_with_tie : Fun K "with_tie" "with_tie" s_p_with_tie (fa 163) (fd 163)
  g_p_with_tie : mg "with_tie" = some (.ref (fa 163))
  b_p_with_tie : Binds K (fd 163) ["state", "names", "limit", "label", "tie"] []
  F_p_with_wish : Fun K "with_wish" "with_wish" s_p_with_wish (fa 164) (fd 164)
  g_p_with_wish : mg "with_wish" = some (.ref (fa 164))
  b_p_with_wish : Binds K (fd 164) ["state", "names", "wish"] []
  F_p_with_first : Fun K "with_first" "with_first" s_p_with_first (fa 165) (fd 165)
  g_p_with_first : mg "with_first" = some (.ref (fa 165))
  b_p_with_first : Binds K (fd 165) ["state", "label"] []
  F_p_dropped : Fun K "dropped" "dropped" s_p_dropped (fa 166) (fd 166)
  g_p_dropped : mg "dropped" = some (.ref (fa 166))
  b_p_dropped : Binds K (fd 166) ["state", "label"] []
  F_p_carried_out : Fun K "carried_out" "carried_out" s_p_carried_out (fa 167) (fd 167)
  g_p_carried_out : mg "carried_out" = some (.ref (fa 167))
  b_p_carried_out : Binds K (fd 167) ["state", "names", "limit", "command"] []
  F_p_lot_of : Fun K "lot_of" "lot_of" s_p_lot_of (fa 169) (fd 169)
  g_p_lot_of : mg "lot_of" = some (.ref (fa 169))
  b_p_lot_of : Binds K (fd 169) ["names", "state"] []
  F_p_primed : Fun K "primed" "primed" s_p_primed (fa 174) (fd 174)
  g_p_primed : mg "primed" = some (.ref (fa 174))
  b_p_primed : Binds K (fd 174) ["names"] []
  F_feed : Fun K "_law_feed" "_law_feed" s_feed (fa 181) (fd 181)
  g_feed : mg "_law_feed" = some (.ref (fa 181))
  b_feed : Binds K (fd 181) ["_law_script"] []
  F_draw : Fun K "_law_draw" "_law_draw" s_draw (fa 182) (fd 182)
  g_draw : mg "_law_draw" = some (.ref (fa 182))
  b_draw : Binds K (fd 182) ["_law_feed_here", "_law_many"] []
  F_any : Fun K "_law_any" "_law_any" s_any (fa 183) (fd 183)
  g_any : mg "_law_any" = some (.ref (fa 183))
  b_any : Binds K (fd 183) ["_law_feed_here", "_law_row"] []
  F_same : Fun K "_law_same" "_law_same" s_same (fa 184) (fd 184)
  g_same : mg "_law_same" = some (.ref (fa 184))
  b_same : Binds K (fd 184) ["_law_found", "_law_due"] []
  F_field : Fun K "_law_field" "_law_field" s_field (fa 185) (fd 185)
  g_field : mg "_law_field" = some (.ref (fa 185))
  b_field : Binds K (fd 185) ["_law_e"] []
  F_why : Fun K "_law_why" "_law_why" s_why (fa 186) (fd 186)
  g_why : mg "_law_why" = some (.ref (fa 186))
  b_why : Binds K (fd 186) ["_law_ask"] []
  F_errors : Fun K "_law_errors" "_law_errors" s_errors (fa 187) (fd 187)
  g_errors : mg "_law_errors" = some (.ref (fa 187))
  b_errors : Binds K (fd 187) ["_law_asks"] []
  F_gcd : Fun K "_law_gcd" "_law_gcd" s_gcd (fa 188) (fd 188)
  g_gcd : mg "_law_gcd" = some (.ref (fa 188))
  b_gcd : Binds K (fd 188) ["_law_one", "_law_two"] []
  F_low : Fun K "_law_low" "_law_low" s_low (fa 189) (fd 189)
  g_low : mg "_law_low" = some (.ref (fa 189))
  b_low : Binds K (fd 189) ["_law_upper", "_law_lower"] []
  F_part : Fun K "_law_part" "_law_part" s_part (fa 190) (fd 190)
  g_part : mg "_law_part" = some (.ref (fa 190))
  b_part : Binds K (fd 190) ["_law_feed_here", "_law_size"] []
  F_rate : Fun K "_law_rate" "_law_rate" s_rate (fa 191) (fd 191)
  g_rate : mg "_law_rate" = some (.ref (fa 191))
  b_rate : Binds K (fd 191) ["_law_feed_here"] []
  F_words : Fun K "_law_words" "_law_words" s_words (fa 192) (fd 192)
  g_words : mg "_law_words" = some (.ref (fa 192))
  b_words : Binds K (fd 192) ["_law_feed_here", "_law_many"] []
  F_terms : Fun K "_law_terms" "_law_terms" s_terms (fa 193) (fd 193)
  g_terms : mg "_law_terms" = some (.ref (fa 193))
  b_terms : Binds K (fd 193) ["_law_feed_here", "_law_words_here", "_law_pairs"] []
  F_labels : Fun K "_law_labels" "_law_labels" s_labels (fa 194) (fd 194)
  g_labels : mg "_law_labels" = some (.ref (fa 194))
  b_labels : Binds K (fd 194) ["_law_feed_here"] []
  F_p_law : Fun K "law" "law" s_p_law (fa 195) (fd 195)
  g_p_law : mg "law" = some (.ref (fa 195))
  b_p_law : Binds K (fd 195) ["_law_script"] []
  eInvalidName : ErrC K mg "InvalidName" (fa 4) (fa 2) (fa 16) (fa 1004)
  IInvalidName : Fun K "__init__" "InvalidName.__init__" (inClass (topS 4) 0) (fa 1004) (fd 1004)
  bIInvalidName : Binds K (fd 1004) ["self", "name"] []
  nInvalidName_name : PySem.W.findIn K (.ref (fa 4)) "name" = some none
  eInvalidTie : ErrC K mg "InvalidTie" (fa 5) (fa 2) (fa 16) (fa 1005)
  IInvalidTie : Fun K "__init__" "InvalidTie.__init__" (inClass (topS 5) 0) (fa 1005) (fd 1005)
  bIInvalidTie : Binds K (fd 1005) ["self", "at"] []
  nInvalidTie_at : PySem.W.findIn K (.ref (fa 5)) "at" = some none
  eInvalidLimit : ErrC K mg "InvalidLimit" (fa 8) (fa 2) (fa 16) (fa 1008)
  IInvalidLimit : Fun K "__init__" "InvalidLimit.__init__" (inClass (topS 8) 0) (fa 1008) (fd 1008)
  bIInvalidLimit : Binds K (fd 1008) ["self", "given"] []
  nInvalidLimit_given : PySem.W.findIn K (.ref (fa 8)) "given" = some none
  eInvalidCommand : ErrC K mg "InvalidCommand" (fa 9) (fa 2) (fa 16) (fa 1009)
  IInvalidCommand : Fun K "__init__" "InvalidCommand.__init__" (inClass (topS 9) 0) (fa 1009) (fd 1009)
  bIInvalidCommand : Binds K (fd 1009) ["self", "first"] []
  nInvalidCommand_first : PySem.W.findIn K (.ref (fa 9)) "first" = some none
  eDuplicateLabel : ErrC K mg "DuplicateLabel" (fa 14) (fa 2) (fa 16) (fa 1014)
  IDuplicateLabel : Fun K "__init__" "DuplicateLabel.__init__" (inClass (topS 14) 0) (fa 1014) (fd 1014)
  bIDuplicateLabel : Binds K (fd 1014) ["self", "label"] []
  nDuplicateLabel_label : PySem.W.findIn K (.ref (fa 14)) "label" = some none
  eCapacityExceeded : ErrC K mg "CapacityExceeded" (fa 15) (fa 2) (fa 16) (fa 1015)
  ICapacityExceeded : Fun K "__init__" "CapacityExceeded.__init__" (inClass (topS 15) 0) (fa 1015) (fd 1015)
  bICapacityExceeded : Binds K (fd 1015) ["self", "most"] []
  nCapacityExceeded_most : PySem.W.findIn K (.ref (fa 15)) "most" = some none
  eInvalidWish : ErrC K mg "InvalidWish" (fa 6) (fa 2) (fa 16) (fa 1006)
  IInvalidWish : Fun K "__init__" "InvalidWish.__init__" (inClass (topS 6) 0) (fa 1006) (fd 1006)
  bIInvalidWish : Binds K (fd 1006) ["self", "at"] []
  nInvalidWish_at : PySem.W.findIn K (.ref (fa 6)) "at" = some none
  eInvalidTimes : ErrC K mg "InvalidTimes" (fa 7) (fa 2) (fa 16) (fa 1007)
  IInvalidTimes : Fun K "__init__" "InvalidTimes.__init__" (inClass (topS 7) 0) (fa 1007) (fd 1007)
  bIInvalidTimes : Binds K (fd 1007) ["self", "given"] []
  nInvalidTimes_given : PySem.W.findIn K (.ref (fa 7)) "given" = some none
  gTieError : mg "TieError" = some (.ref (fa 2))
  gMissing : mg "Missing" = some (.ref (fa 16))
  c_LONG : ∃ u, mg "LONG" = some u ∧ RelV (.int 4096) u
  c_MOST_LETTERS_symbols : ∃ u, mg "MOST_LETTERS_symbols" = some u ∧ RelV (.int 6) u
  c_MOST_LETTERS_commands : ∃ u, mg "MOST_LETTERS_commands" = some u ∧ RelV (.int 8) u
  c_MOST_TIMES : ∃ u, mg "MOST_TIMES" = some u ∧ RelV (.int 8) u
  m_int : mg "int" = none
  m_len : mg "len" = none
  m_abs : mg "abs" = none
  m_range : mg "range" = none
  m_zip : mg "zip" = none
  m_all : mg "all" = none
  m_isinstance : mg "isinstance" = none
  m_bool : mg "bool" = none
  m_str : mg "str" = none
  m_tuple : mg "tuple" = none
  m_list : mg "list" = none
  m_dict : mg "dict" = none
  m_sorted : mg "sorted" = none
  m_set : mg "set" = none
  m_enumerate : mg "enumerate" = none
  m_max : mg "max" = none
/-! ### the head -/
section
open PySem.W PySem.Calls
abbrev hR : OpenRow := OpenLaw.row PySem.Challenge.rw_tiespan_k77_values_of_other_kinds
abbrev hQ : Program := view hR.prog [195]
def hN0 : List PySem.Str := ["_wall", "TieError", "InvalidRatio", "InvalidName", "InvalidTie", "InvalidWish", "InvalidTimes", "InvalidLimit", "InvalidCommand", "NotTied", "NamesDiffer", "Impossible", "ParseError", "DuplicateLabel", "CapacityExceeded", "Missing", "UnknownName", "UnknownLabel", "NothingLeft", "ZERO", "LONG", "LEADING", "HALF", "is_whole", "shortened", "common_divisor", "ratio", "is_ratio", "add", "subtract"]
def hN1 : List PySem.Str := ["multiply", "divide", "is_less", "least", "greatest", "is_digits", "number_text", "number_of", "ratio_text", "ratio_of", "precedes", "merged", "in_order", "cross", "opposite", "loose", "lowest", "tightest", "by_slope", "follows", "chain", "crossing", "wall_stretch", "first_numbers", "second_numbers", "framed", "upright", "wall", "shown", "canonical"]
def hN2 : List PySem.Str := ["AXES", "meeting", "corner_points", "foot", "spots", "turns_off", "turned_off", "height", "reach", "whole_point", "edge", "is_left", "bent", "edges", "joint_rows", "DIGITS", "LETTERS", "MOST_DIGITS", "MOST_LETTERS_symbols", "run_end", "number_symbol", "name_symbol", "symbol_at", "symbols_of", "read_term", "read_sum", "is_name", "is_term", "are_terms", "is_tie"]
def hN3 : List PySem.Str := ["names_in", "reduced", "is_kept", "term_text", "terms_text", "tie_text", "ascending_names", "brought_together", "tie_below", "read_ties", "turned_rows", "walls", "frame", "resolved", "envelope", "tight_walls", "settled", "first_stretch", "ascending", "pairs_of", "grouped", "own_stretch", "rows_of", "narrowed", "is_empty", "tied", "web_of", "between", "without", "trail_of"]
def hN4 : List PySem.Str := ["web_for", "near_rows", "put_back", "closed_web", "joined_web", "wall_ties", "pair_ties", "closed_ties", "nearest", "open_stretch", "solution_of", "top_of", "negative", "reach_of", "first_wrong_name", "first_wrong_tie", "follows_from", "Lot", "is_wish", "check_wishes", "held_at", "settle", "Layout", "LENGTHS", "MOST_LETTERS_commands", "check_commands", "is_label", "tie_labels", "wish_labels", "check_new_label"]
def hN5 : List PySem.Str := ["with_tie", "with_wish", "with_first", "dropped", "carried_out", "lot_of", "same_solutions", "Board", "MOST_TIMES", "primed", "between_names", "table", "renamed", "left_ties", "Step", "_law_feed", "_law_draw", "_law_any", "_law_same", "_law_field", "_law_why", "_law_errors", "_law_gcd", "_law_low", "_law_part", "_law_rate", "_law_words", "_law_terms", "_law_labels"]
def hN : List PySem.Str := hN0 ++ hN1 ++ hN2 ++ hN3 ++ hN4 ++ hN5
def hd25 : DefY := ⟨fun K => He.ga K "is_whole", "is_whole", "is_whole", defArgs s_p_is_whole, defBody s_p_is_whole, defScope s_p_is_whole, fun K => []⟩
def hd27 : DefY := ⟨fun K => He.ga K "common_divisor", "common_divisor", "common_divisor", defArgs s_p_common_divisor, defBody s_p_common_divisor, defScope s_p_common_divisor, fun K => []⟩
def hd29 : DefY := ⟨fun K => He.ga K "is_ratio", "is_ratio", "is_ratio", defArgs s_p_is_ratio, defBody s_p_is_ratio, defScope s_p_is_ratio, fun K => []⟩
def hd93 : DefY := ⟨fun K => He.ga K "is_name", "is_name", "is_name", defArgs s_p_is_name, defBody s_p_is_name, defScope s_p_is_name, fun K => []⟩
def hd94 : DefY := ⟨fun K => He.ga K "is_term", "is_term", "is_term", defArgs s_p_is_term, defBody s_p_is_term, defScope s_p_is_term, fun K => []⟩
def hd95 : DefY := ⟨fun K => He.ga K "are_terms", "are_terms", "are_terms", defArgs s_p_are_terms, defBody s_p_are_terms, defScope s_p_are_terms, fun K => []⟩
def hd96 : DefY := ⟨fun K => He.ga K "is_tie", "is_tie", "is_tie", defArgs s_p_is_tie, defBody s_p_is_tie, defScope s_p_is_tie, fun K => []⟩
def hd97 : DefY := ⟨fun K => He.ga K "names_in", "names_in", "names_in", defArgs s_p_names_in, defBody s_p_names_in, defScope s_p_names_in, fun K => []⟩
def hd117 : DefY := ⟨fun K => He.ga K "ascending", "ascending", "ascending", defArgs s_p_ascending, defBody s_p_ascending, defScope s_p_ascending, fun K => []⟩
def hd118 : DefY := ⟨fun K => He.ga K "pairs_of", "pairs_of", "pairs_of", defArgs s_p_pairs_of, defBody s_p_pairs_of, defScope s_p_pairs_of, fun K => []⟩
def hd145 : DefY := ⟨fun K => He.ga K "first_wrong_name", "first_wrong_name", "first_wrong_name", defArgs s_p_first_wrong_name, defBody s_p_first_wrong_name, defScope s_p_first_wrong_name, fun K => []⟩
def hd146 : DefY := ⟨fun K => He.ga K "first_wrong_tie", "first_wrong_tie", "first_wrong_tie", defArgs s_p_first_wrong_tie, defBody s_p_first_wrong_tie, defScope s_p_first_wrong_tie, fun K => []⟩
def hd150 : DefY := ⟨fun K => He.ga K "is_wish", "is_wish", "is_wish", defArgs s_p_is_wish, defBody s_p_is_wish, defScope s_p_is_wish, fun K => []⟩
def hd151 : DefY := ⟨fun K => He.ga K "check_wishes", "check_wishes", "check_wishes", defArgs s_p_check_wishes, defBody s_p_check_wishes, defScope s_p_check_wishes, fun K => []⟩
def hd158 : DefY := ⟨fun K => He.ga K "check_commands", "check_commands", "check_commands", defArgs s_p_check_commands, defBody s_p_check_commands, defScope s_p_check_commands, fun K => []⟩
def hd159 : DefY := ⟨fun K => He.ga K "is_label", "is_label", "is_label", defArgs s_p_is_label, defBody s_p_is_label, defScope s_p_is_label, fun K => []⟩
def hd160 : DefY := ⟨fun K => He.ga K "tie_labels", "tie_labels", "tie_labels", defArgs s_p_tie_labels, defBody s_p_tie_labels, defScope s_p_tie_labels, fun K => []⟩
def hd161 : DefY := ⟨fun K => He.ga K "wish_labels", "wish_labels", "wish_labels", defArgs s_p_wish_labels, defBody s_p_wish_labels, defScope s_p_wish_labels, fun K => []⟩
def hd162 : DefY := ⟨fun K => He.ga K "check_new_label", "check_new_label", "check_new_label", defArgs s_p_check_new_label, defBody s_p_check_new_label, defScope s_p_check_new_label, fun K => []⟩
def hd163 : DefY := ⟨fun K => He.ga K "with_tie", "with_tie", "with_tie", defArgs s_p_with_tie, defBody s_p_with_tie, defScope s_p_with_tie, fun K => []⟩
def hd164 : DefY := ⟨fun K => He.ga K "with_wish", "with_wish", "with_wish", defArgs s_p_with_wish, defBody s_p_with_wish, defScope s_p_with_wish, fun K => []⟩
def hd165 : DefY := ⟨fun K => He.ga K "with_first", "with_first", "with_first", defArgs s_p_with_first, defBody s_p_with_first, defScope s_p_with_first, fun K => []⟩
def hd166 : DefY := ⟨fun K => He.ga K "dropped", "dropped", "dropped", defArgs s_p_dropped, defBody s_p_dropped, defScope s_p_dropped, fun K => []⟩
def hd167 : DefY := ⟨fun K => He.ga K "carried_out", "carried_out", "carried_out", defArgs s_p_carried_out, defBody s_p_carried_out, defScope s_p_carried_out, fun K => []⟩
def hd169 : DefY := ⟨fun K => He.ga K "lot_of", "lot_of", "lot_of", defArgs s_p_lot_of, defBody s_p_lot_of, defScope s_p_lot_of, fun K => []⟩
def hd174 : DefY := ⟨fun K => He.ga K "primed", "primed", "primed", defArgs s_p_primed, defBody s_p_primed, defScope s_p_primed, fun K => []⟩
def hd181 : DefY := ⟨fun K => He.ga K "_law_feed", "_law_feed", "_law_feed", defArgs s_feed, defBody s_feed, defScope s_feed, fun K => []⟩
def hd182 : DefY := ⟨fun K => He.ga K "_law_draw", "_law_draw", "_law_draw", defArgs s_draw, defBody s_draw, defScope s_draw, fun K => []⟩
def hd183 : DefY := ⟨fun K => He.ga K "_law_any", "_law_any", "_law_any", defArgs s_any, defBody s_any, defScope s_any, fun K => []⟩
def hd184 : DefY := ⟨fun K => He.ga K "_law_same", "_law_same", "_law_same", defArgs s_same, defBody s_same, defScope s_same, fun K => []⟩
def hd185 : DefY := ⟨fun K => He.ga K "_law_field", "_law_field", "_law_field", defArgs s_field, defBody s_field, defScope s_field, fun K => []⟩
def hd186 : DefY := ⟨fun K => He.ga K "_law_why", "_law_why", "_law_why", defArgs s_why, defBody s_why, defScope s_why, fun K => []⟩
def hd187 : DefY := ⟨fun K => He.ga K "_law_errors", "_law_errors", "_law_errors", defArgs s_errors, defBody s_errors, defScope s_errors, fun K => []⟩
def hd188 : DefY := ⟨fun K => He.ga K "_law_gcd", "_law_gcd", "_law_gcd", defArgs s_gcd, defBody s_gcd, defScope s_gcd, fun K => []⟩
def hd189 : DefY := ⟨fun K => He.ga K "_law_low", "_law_low", "_law_low", defArgs s_low, defBody s_low, defScope s_low, fun K => []⟩
def hd190 : DefY := ⟨fun K => He.ga K "_law_part", "_law_part", "_law_part", defArgs s_part, defBody s_part, defScope s_part, fun K => []⟩
def hd191 : DefY := ⟨fun K => He.ga K "_law_rate", "_law_rate", "_law_rate", defArgs s_rate, defBody s_rate, defScope s_rate, fun K => []⟩
def hd192 : DefY := ⟨fun K => He.ga K "_law_words", "_law_words", "_law_words", defArgs s_words, defBody s_words, defScope s_words, fun K => []⟩
def hd193 : DefY := ⟨fun K => He.ga K "_law_terms", "_law_terms", "_law_terms", defArgs s_terms, defBody s_terms, defScope s_terms, fun K => []⟩
def hd194 : DefY := ⟨fun K => He.ga K "_law_labels", "_law_labels", "_law_labels", defArgs s_labels, defBody s_labels, defScope s_labels, fun K => []⟩
def hd195 : DefY := ⟨fun K => He.ga K "law", "law", "law", defArgs s_p_law, defBody s_p_law, defScope s_p_law, fun K => []⟩
def hd1004 : DefY := ⟨fun K => He.ma K (He.ga K "InvalidName") "__init__", "__init__", "InvalidName.__init__", defArgs (inClass (topS 4) 0), defBody (inClass (topS 4) 0), defScope (inClass (topS 4) 0), fun K => []⟩
def hd1005 : DefY := ⟨fun K => He.ma K (He.ga K "InvalidTie") "__init__", "__init__", "InvalidTie.__init__", defArgs (inClass (topS 5) 0), defBody (inClass (topS 5) 0), defScope (inClass (topS 5) 0), fun K => []⟩
def hd1008 : DefY := ⟨fun K => He.ma K (He.ga K "InvalidLimit") "__init__", "__init__", "InvalidLimit.__init__", defArgs (inClass (topS 8) 0), defBody (inClass (topS 8) 0), defScope (inClass (topS 8) 0), fun K => []⟩
def hd1009 : DefY := ⟨fun K => He.ma K (He.ga K "InvalidCommand") "__init__", "__init__", "InvalidCommand.__init__", defArgs (inClass (topS 9) 0), defBody (inClass (topS 9) 0), defScope (inClass (topS 9) 0), fun K => []⟩
def hd1014 : DefY := ⟨fun K => He.ma K (He.ga K "DuplicateLabel") "__init__", "__init__", "DuplicateLabel.__init__", defArgs (inClass (topS 14) 0), defBody (inClass (topS 14) 0), defScope (inClass (topS 14) 0), fun K => []⟩
def hd1015 : DefY := ⟨fun K => He.ma K (He.ga K "CapacityExceeded") "__init__", "__init__", "CapacityExceeded.__init__", defArgs (inClass (topS 15) 0), defBody (inClass (topS 15) 0), defScope (inClass (topS 15) 0), fun K => []⟩
def hd1006 : DefY := ⟨fun K => He.ma K (He.ga K "InvalidWish") "__init__", "__init__", "InvalidWish.__init__", defArgs (inClass (topS 6) 0), defBody (inClass (topS 6) 0), defScope (inClass (topS 6) 0), fun K => []⟩
def hd1007 : DefY := ⟨fun K => He.ma K (He.ga K "InvalidTimes") "__init__", "__init__", "InvalidTimes.__init__", defArgs (inClass (topS 7) 0), defBody (inClass (topS 7) 0), defScope (inClass (topS 7) 0), fun K => []⟩
def hd1500 : DefY := ⟨fun K => He.ma K (He.ga K "Lot") "__init__", "__init__", "Lot.__init__", defArgs s_p_LotInit, defBody s_p_LotInit, defScope s_p_LotInit, fun K => [V.ref (He.dflAt ("Lot", some "__init__") 0 K)]⟩
def hd1510 : DefY := ⟨fun K => He.ma K (He.ga K "Lot") "names", "names", "Lot.names", defArgs s_p_LotNames, defBody s_p_LotNames, defScope s_p_LotNames, fun K => []⟩
def hd1511 : DefY := ⟨fun K => He.ma K (He.ga K "Lot") "ties", "ties", "Lot.ties", defArgs s_p_LotTies, defBody s_p_LotTies, defScope s_p_LotTies, fun K => []⟩
def hd1700 : DefY := ⟨fun K => He.ma K (He.ga K "Board") "__init__", "__init__", "Board.__init__", defArgs s_p_BoardInit, defBody s_p_BoardInit, defScope s_p_BoardInit, fun K => []⟩
def hd1710 : DefY := ⟨fun K => prG "Board" "limit" K, "limit", "Board.limit", defArgs s_p_BoardLimit, defBody s_p_BoardLimit, defScope s_p_BoardLimit, fun K => []⟩
def hd1711 : DefY := ⟨fun K => prS "Board" "limit" K, "limit", "Board.limit", defArgs s_p_BoardSetLimit, defBody s_p_BoardSetLimit, defScope s_p_BoardSetLimit, fun K => []⟩
def hd1712 : DefY := ⟨fun K => He.ma K (He.ga K "Board") "change_limit", "change_limit", "Board.change_limit", defArgs s_p_BoardChange, defBody s_p_BoardChange, defScope s_p_BoardChange, fun K => []⟩
def hd1713 : DefY := ⟨fun K => prG "Board" "busy" K, "busy", "Board.busy", defArgs s_p_BoardBusy, defBody s_p_BoardBusy, defScope s_p_BoardBusy, fun K => []⟩
def hd1714 : DefY := ⟨fun K => He.ma K (He.ga K "Board") "turn_to", "turn_to", "Board.turn_to", defArgs s_p_BoardTurn, defBody s_p_BoardTurn, defScope s_p_BoardTurn, fun K => []⟩
def hd1715 : DefY := ⟨fun K => He.ma K (He.ga K "Board") "carry_out", "carry_out", "Board.carry_out", defArgs s_p_BoardCarry, defBody s_p_BoardCarry, defScope s_p_BoardCarry, fun K => []⟩
def hd1716 : DefY := ⟨fun K => He.ma K (He.ga K "Board") "apply", "apply", "Board.apply", defArgs s_p_BoardApply, defBody s_p_BoardApply, defScope s_p_BoardApply, fun K => []⟩
def hd1719 : DefY := ⟨fun K => He.ma K (He.ga K "Board") "history", "history", "Board.history", defArgs s_p_BoardHistory, defBody s_p_BoardHistory, defScope s_p_BoardHistory, fun K => []⟩
def hd1723 : DefY := ⟨fun K => He.ma K (He.ga K "Board") "__len__", "__len__", "Board.__len__", defArgs s_p_BoardLen, defBody s_p_BoardLen, defScope s_p_BoardLen, fun K => []⟩
def hd1725 : DefY := ⟨fun K => He.ma K (He.ga K "Board") "labels", "labels", "Board.labels", defArgs s_p_BoardLabels, defBody s_p_BoardLabels, defScope s_p_BoardLabels, fun K => []⟩
def hd1726 : DefY := ⟨fun K => He.ma K (He.ga K "Board") "tie", "tie", "Board.tie", defArgs s_p_BoardTie, defBody s_p_BoardTie, defScope s_p_BoardTie, fun K => []⟩
def hd1600 : DefY := ⟨fun K => He.ma K (He.ga K "Step") "__init__", "__init__", "Step.__init__", defArgs s_p_StepInit, defBody s_p_StepInit, defScope s_p_StepInit, fun K => [V.ref (He.dflAt ("Step", some "__init__") 0 K)]⟩
def hd1611 : DefY := ⟨fun K => He.ma K (He.ga K "Step") "repeated", "repeated", "Step.repeated", defArgs s_p_StepRepeated, defBody s_p_StepRepeated, defScope s_p_StepRepeated, fun K => []⟩
def hd1800 : DefY := ⟨fun K => He.ma K (He.ga K "Layout") "__init__", "__init__", "Layout.__init__", defArgs s_p_LayInit, defBody s_p_LayInit, defScope s_p_LayInit, fun K => []⟩
def hd1810 : DefY := ⟨fun K => He.ma K (He.ga K "Layout") "present", "present", "Layout.present", defArgs s_p_LayPresent, defBody s_p_LayPresent, defScope s_p_LayPresent, fun K => []⟩
def hd1811 : DefY := ⟨fun K => He.ma K (He.ga K "Layout") "drop", "drop", "Layout.drop", defArgs s_p_LayDrop, defBody s_p_LayDrop, defScope s_p_LayDrop, fun K => []⟩
def hd1812 : DefY := ⟨fun K => He.ma K (He.ga K "Layout") "move", "move", "Layout.move", defArgs s_p_LayMove, defBody s_p_LayMove, defScope s_p_LayMove, fun K => []⟩
def hd1813 : DefY := ⟨fun K => He.ma K (He.ga K "Layout") "wishes", "wishes", "Layout.wishes", defArgs s_p_LayWishes, defBody s_p_LayWishes, defScope s_p_LayWishes, fun K => []⟩
def hd1017 : DefY := ⟨fun K => He.ma K (He.ga K "UnknownName") "__init__", "__init__", "UnknownName.__init__", defArgs (inClass (topS 17) 0), defBody (inClass (topS 17) 0), defScope (inClass (topS 17) 0), fun K => []⟩
def hd1018 : DefY := ⟨fun K => He.ma K (He.ga K "UnknownLabel") "__init__", "__init__", "UnknownLabel.__init__", defArgs (inClass (topS 18) 0), defBody (inClass (topS 18) 0), defScope (inClass (topS 18) 0), fun K => []⟩
def hFn : List DefY := hd25 :: hd27 :: hd29 :: hd93 :: hd94 :: hd95 :: hd96 :: hd97 :: hd117 :: hd118 :: hd145 :: hd146 :: hd150 :: hd151 :: hd158 :: hd159 :: hd160 :: hd161 :: hd162 :: hd163 :: hd164 :: hd165 :: hd166 :: hd167 :: hd169 :: hd174 :: hd181 :: hd182 :: hd183 :: hd184 :: (hd185 :: hd186 :: hd187 :: hd188 :: hd189 :: hd190 :: hd191 :: hd192 :: hd193 :: hd194 :: hd195 :: hd1004 :: hd1005 :: hd1008 :: hd1009 :: hd1014 :: hd1015 :: hd1006 :: hd1007 :: hd1500 :: hd1510 :: hd1511 :: hd1700 :: hd1710 :: hd1711 :: hd1712 :: hd1713 :: hd1714 :: hd1715 :: hd1716 :: (hd1719 :: hd1723 :: hd1725 :: hd1726 :: hd1600 :: hd1611 :: hd1800 :: hd1810 :: hd1811 :: hd1812 :: hd1813 :: hd1017 :: hd1018 :: []))
def hA0 : List He.Fa := [.glo "is_whole", .glo "common_divisor", .glo "is_ratio", .glo "is_name", .glo "is_term", .glo "are_terms", .glo "is_tie", .glo "names_in", .glo "ascending", .glo "pairs_of", .glo "first_wrong_name", .glo "first_wrong_tie", .glo "is_wish", .glo "check_wishes", .glo "check_commands", .glo "is_label", .glo "tie_labels", .glo "wish_labels", .glo "check_new_label", .glo "with_tie", .glo "with_wish", .glo "with_first", .glo "dropped", .glo "carried_out", .glo "lot_of", .glo "primed", .glo "_law_feed", .glo "_law_draw", .glo "_law_any", .glo "_law_same"]
def hA1 : List He.Fa := [.glo "_law_field", .glo "_law_why", .glo "_law_errors", .glo "_law_gcd", .glo "_law_low", .glo "_law_part", .glo "_law_rate", .glo "_law_words", .glo "_law_terms", .glo "_law_labels", .glo "law", .glo "TieError", .glo "Missing", .noat "InvalidName" "name", .noat "InvalidTie" "at", .noat "InvalidLimit" "given", .noat "InvalidCommand" "first", .noat "DuplicateLabel" "label", .noat "CapacityExceeded" "most", .noat "InvalidWish" "at", .noat "InvalidTimes" "given", .int "LONG" 4096, .int "MOST_LETTERS_symbols" 6, .int "MOST_LETTERS_commands" 8, .int "MOST_TIMES" 8, .free "int", .free "len", .free "abs", .free "range", .free "zip"]
def hA2 : List He.Fa := [.free "all", .free "isinstance", .free "bool", .free "str", .free "tuple", .free "list", .free "dict", .free "sorted", .free "set", .free "enumerate", .free "max", .meth "Lot" "names", .meth "Lot" "ties", .glo "Lot", .cls "Lot", .noat "Lot" "unknowns", .noat "Lot" "bonds", .meth "Board" "change_limit", .meth "Board" "turn_to", .meth "Board" "carry_out", .meth "Board" "apply", .meth "Board" "history", .meth "Board" "__len__", .meth "Board" "labels", .meth "Board" "tie", .glo "Board", .cls "Board", .noat "Board" "unknowns", .noat "Board" "room", .noat "Board" "state"]
def hA3 : List He.Fa := [.noat "Board" "past", .noat "Board" "coming", .noat "Board" "figures", .noat "Board" "computed", .noat "Board" "working", .meth "Step" "repeated", .glo "Step", .cls "Step", .noat "Step" "unknowns", .noat "Step" "bonds", .meth "Layout" "present", .meth "Layout" "drop", .meth "Layout" "move", .meth "Layout" "wishes", .glo "Layout", .cls "Layout", .noat "Layout" "ground", .noat "Layout" "asked", .noat "UnknownName" "name", .noat "UnknownLabel" "label", .glo "LENGTHS"]
def hA : List He.Fa := hA0 ++ (hA1 ++ (hA2 ++ (hA3)))
def hE : List (PySem.W.Frag → Bool) := [errB "InvalidName",
  errB "InvalidTie",
  errB "InvalidLimit",
  errB "InvalidCommand",
  errB "DuplicateLabel",
  errB "CapacityExceeded",
  errB "InvalidWish",
  errB "InvalidTimes",
  mkB (fun K => He.ga K "Lot") (fun K => He.ma K (He.ga K "Lot") "__init__"),
  fun K => tupY K (He.dflAt ("Lot", some "__init__") 0 K) [],
  mkB (fun K => He.ga K "Board") (fun K => He.ma K (He.ga K "Board") "__init__"),
  kwB (fun K => He.ma K (He.ga K "Board") "__init__") "limit" 20,
  prB "Board" "limit",
  stB "Board" "limit",
  prB "Board" "busy",
  mkB (fun K => He.ga K "Step") (fun K => He.ma K (He.ga K "Step") "__init__"),
  fun K => tupY K (He.dflAt ("Step", some "__init__") 0 K) [],
  mkB (fun K => He.ga K "Layout") (fun K => He.ma K (He.ga K "Layout") "__init__"),
  kwB (fun K => He.ma K (He.ga K "Layout") "move") "to" 0,
  ercB "UnknownName",
  ercB "UnknownLabel",
  clsiB "Layout" "MOST" 8,
  clsiB "Step" "MOST" 3,
  clsiB "Board" "MOST" 40,
  natB "LENGTHS" "tie" 3,
  natB "LENGTHS" "wish" 4,
  natB "LENGTHS" "first" 2,
  natB "LENGTHS" "drop" 2,
  nokB "LENGTHS" "lose",
  nokB "LENGTHS" "",
  nokB "LENGTHS" "Tie"]
def hT : List TabZ := [(fun K => He.ga K "LENGTHS", ["tie", "wish", "first", "drop"])]
abbrev hk : Hook := hookZ 6 hA hFn hE hT
def hob (s : SharedT) : AlZ := obsZ 6 hA hFn hE hT (HandSHeadRun.getT s)
theorem hob_eq (s : SharedT) : hob s = hk.obs s.abs := obsZ_eq (HandSHeadRun.getT_eq s)
set_option maxHeartbeats 0 in
theorem hrun1f (w : World) : ∀ os, (EQ.endZ hR 40000 (w.withFollow "special-get-raises" false) os).map (fun s => HandSHeadRun.looksF hR.prog (boot_heap (w.withFollow "special-get-raises" false).params) s.abs) = some true := by
  intro os
  kernel_rfl
set_option maxHeartbeats 0 in
theorem hrun1t (w : World) : ∀ os, (EQ.endZ hR 40000 (w.withFollow "special-get-raises" true) os).map (fun s => HandSHeadRun.looksF hR.prog (boot_heap (w.withFollow "special-get-raises" true).params) s.abs) = some true := by
  intro os
  kernel_rfl
theorem hrun1 (w : World) : ∀ os, (endY hR 40000 w os).map (fun s => HandSHeadRun.looksF hR.prog (boot_heap w.params) s.abs) = some true := by
  have h : ∀ b : Bool, ∀ os, (EQ.endZ hR 40000 (w.withFollow "special-get-raises" b) os).map (fun s => HandSHeadRun.looksF hR.prog (boot_heap (w.withFollow "special-get-raises" b).params) s.abs) = some true := fun b => match b with
    | true => hrun1t w
    | false => hrun1f w
  have e := h (w.params.followText "special-get-raises")
  rw [World.withFollow_self] at e
  exact fun os => EQ.endZ_map (e os)
set_option maxHeartbeats 0 in
theorem hrun2f (w : World) : ∀ os, (EQ.endZ hR 40000 (w.withFollow "special-get-raises" false) os).map (fun s => HandSHeadRun.seenQ hQ hN (importedModules hR.prog.main.body) (fun s => PySem.W.xlAt hQ [] s && PySem.W.recOk hR.toRowW.records s) s.abs) = some (PySem.W.openGood hQ hN) := by
  intro os
  kernel_rfl
set_option maxHeartbeats 0 in
theorem hrun2t (w : World) : ∀ os, (EQ.endZ hR 40000 (w.withFollow "special-get-raises" true) os).map (fun s => HandSHeadRun.seenQ hQ hN (importedModules hR.prog.main.body) (fun s => PySem.W.xlAt hQ [] s && PySem.W.recOk hR.toRowW.records s) s.abs) = some (PySem.W.openGood hQ hN) := by
  intro os
  kernel_rfl
theorem hrun2 (w : World) : ∀ os, (endY hR 40000 w os).map (fun s => HandSHeadRun.seenQ hQ hN (importedModules hR.prog.main.body) (fun s => PySem.W.xlAt hQ [] s && PySem.W.recOk hR.toRowW.records s) s.abs) = some (PySem.W.openGood hQ hN) := by
  have h : ∀ b : Bool, ∀ os, (EQ.endZ hR 40000 (w.withFollow "special-get-raises" b) os).map (fun s => HandSHeadRun.seenQ hQ hN (importedModules hR.prog.main.body) (fun s => PySem.W.xlAt hQ [] s && PySem.W.recOk hR.toRowW.records s) s.abs) = some (PySem.W.openGood hQ hN) := fun b => match b with
    | true => hrun2t w
    | false => hrun2f w
  have e := h (w.params.followText "special-get-raises")
  rw [World.withFollow_self] at e
  exact fun os => EQ.endZ_map (e os)
set_option maxHeartbeats 0 in
theorem hrun3f (w : World) : ∀ os, (EQ.endZ hR 40000 (w.withFollow "special-get-raises" false) os).map hob = some (hk.val (w.withFollow "special-get-raises" false)) := by
  intro os
  kernel_rfl
set_option maxHeartbeats 0 in
theorem hrun3t (w : World) : ∀ os, (EQ.endZ hR 40000 (w.withFollow "special-get-raises" true) os).map hob = some (hk.val (w.withFollow "special-get-raises" true)) := by
  intro os
  kernel_rfl
theorem hrun3 (w : World) : ∀ os, (endY hR 40000 w os).map hob = some (hk.val w) := by
  have h : ∀ b : Bool, ∀ os, (EQ.endZ hR 40000 (w.withFollow "special-get-raises" b) os).map hob = some (hk.val (w.withFollow "special-get-raises" b)) := fun b => match b with
    | true => hrun3t w
    | false => hrun3f w
  have e := h (w.params.followText "special-get-raises")
  rw [World.withFollow_self] at e
  exact fun os => EQ.endZ_map (e os)
theorem hrun (w : World) : HandSHeadRun.RunEq hR hQ hk hob 40000 hN w := run_three (hrun1 w) (hrun2 w) (hrun3 w)
set_option maxHeartbeats 0 in
theorem hlaw (h : hR.wellSaid = true → hR.Holds) : PySem.Challenge.rw_tiespan_k77_values_of_other_kinds.Holds := by
  o_law
  exact h (by assumption)
set_option maxHeartbeats 0 in
theorem hok : (PySem.W.chainsOk hQ && PySem.W.opensWell hR.prog && (PySem.W.frees hR.toRowW && hR.within.isEmpty)) = true := by decide +kernel
set_option maxHeartbeats 0 in
theorem hbare : hR.prog.bare := ⟨rfl, rfl, rfl, rfl, rfl, by decide +kernel⟩
end
/-! ### the law's own words: drawing -/
def FeedOk (H : Hp) (a c : Addr) : Prop := ∃ (ns : List Int) (k big mark : Int), H a = some (.lst [.ref c, .int k, .int big, .int mark]) ∧ H c = some (.lst (ns.map V.int)) ∧ c ≠ a ∧ ns.length ≤ 63 ∧ 0 ≤ k
def But (a : Addr) (H H' : Hp) : Prop := ∀ b o, b ≠ a → H b = some o → H' b = some o
theorem But.refl (a : Addr) (H : Hp) : But a H H := fun _ _ _ h => h
theorem But.trans {a : Addr} {H H1 H2 : Hp} (p : But a H H1) (q : But a H1 H2) : But a H H2 := fun b o n h => q b o n (p b o n h)
theorem But.upd {a : Addr} {H : Hp} {o : HO} : But a H (upd H a o) := fun b _ n h => by rw [upd_ne n]; exact h
theorem But.of {a : Addr} {H H' : Hp} (s : Same H H') : But a H H' := fun b o _ h => s b o h
theorem same_upd {H : Hp} {p : Addr} {o : HO} (h : H p = none) : Same H (upd H p o) := fun b x e => by
  rw [upd_ne (ne_of_none e h)]
  exact e
theorem FeedOk.new {H : Hp} {a c p : Addr} {o : HO} (h : FeedOk H a c) (n : H p = none) : FeedOk (upd H p o) a c := by
  obtain ⟨ns, k, big, mark, h1, h2, h3⟩ := h
  exact ⟨ns, k, big, mark, same_upd n _ _ h1, same_upd n _ _ h2, h3⟩
theorem FeedOk.same {H H' : Hp} {a c : Addr} (h : FeedOk H a c) (s : Same H H') : FeedOk H' a c := by
  obtain ⟨ns, k, big, mark, h1, h2, h3⟩ := h
  exact ⟨ns, k, big, mark, s _ _ h1, s _ _ h2, h3⟩
def Mid (m : Int) : Prop := 0 < m ∧ m.natAbs.log2 < 9000
def spDraw : Sp := fun vs H Q _ => ∃ (a c : Addr) (m : Int), vs = [.ref a, .int m] ∧ FeedOk H a c ∧ Mid m ∧ ∀ r H', 0 ≤ r → r < m → FeedOk H' a c → But a H H' → Q (.int r) H'
section
variable {P : Program} {w : World} {K : PySem.W.Frag} {mg : Str → Option Value} {base : Heap} {fa : Nat → Addr} {fd : Nat → FuncData}
theorem ok_draw (T : Txt K mg fa fd) : FnOk P w K mg base CX0 1 (fa 182) (fd 182) ["_law_feed_here", "_law_many"] spDraw := by
  refine T.F_draw.ok sc_draw (fun vs H Q E h => ?_) (fun cdv A outer s H vs Q E hr h => ?_)
  · obtain ⟨a, c, m, rfl, _⟩ := h
    rfl
  · obtain ⟨a, c, m, rfl, ⟨ns, k, big, mark, ha, hc, nca, hlen, hk⟩, ⟨hm, hm9⟩, q⟩ := h
    refine ⟨_, (C8.pss_cut (ps_if (pt_cmpR op_lt (pe_ix ix_list (pv 0) pe_int (fun _ _ => rfl)) pe_int (nomark _)) (C8.pss_cut (ps_asg (pe_op op_add (pe_ix ix_list (pv 0) pe_int (fun _ _ => rfl)) pe_int) (pg_sub (pv 0) pe_int set_list))
      (pss_cons (ps_set (i := 2) sc_draw.nd rfl (.inl rfl) (pe_op op_add (pe_ix ix_list (pv 0) pe_int (fun _ _ => rfl)) (pe_op op_mul (pe_ix ix_list (pv 0) pe_int (fun _ _ => rfl)) pe_int)))
      (C8.pss_cut (ps_if (pt_cmpR op_le (pe_ix ix_list (pv 0) pe_int (fun _ _ => rfl)) (pe_callB call_len_seq (by rfl) T.m_len PySem.boot_len (pa_cons (pe_ix ix_list (pv 0) pe_int (fun _ _ => rfl)) pa_nil)) (nomark _)) (pss_one (ps_set (i := 2) sc_draw.nd rfl (.inl rfl) (pe_ix ix_list (pe_ix ix_list (pv 0) pe_int (fun _ _ => rfl)) (pe_op op_sub (pe_ix ix_list (pv 0) pe_int (fun _ _ => rfl)) pe_int) (fun _ _ => rfl)))) pss_nil)
      (pss_cons (ps_if (PW.pt (pw_or (pt_cmpR op_gt (pe_ix ix_list (pv 0) pe_int (fun _ _ => rfl)) (pe_callB call_len_seq (by rfl) T.m_len PySem.boot_len (pa_cons (pe_ix ix_list (pv 0) pe_int (fun _ _ => rfl)) pa_nil)) (nomark _)) (pw_or1 (pt_cmpR op_lt (pv 2) (pe_op op_pow pe_int pe_int) (nomark _))))) (pss_cons (ps_set (i := 3) sc_draw.nd rfl (.inl rfl) (pe_op op_mod (pe_callTy call_int1 (by rfl) T.m_int PySem.Pv.boot_int (pa_cons (pe_op op_add (pe_op op_add (pe_op op_mul (pv 2) pe_int) (pe_op op_mul (pe_ix ix_list (pv 0) pe_int (fun _ _ => rfl)) pe_int)) (pe_ix ix_list (pv 0) pe_int (fun _ _ => rfl))) pa_nil)) pe_int))
      (pss_cons (ps_set (i := 4) sc_draw.nd rfl (.inl rfl) (pe_op op_mod (pe_callTy call_int1 (by rfl) T.m_int PySem.Pv.boot_int (pa_cons (pe_op op_add (pe_op op_mul (pv 3) (pv 3)) (pe_op op_mul (pe_ix ix_list (pv 0) pe_int (fun _ _ => rfl)) pe_int)) pa_nil)) pe_int))
      (pss_one (ps_ret (pe_op op_mod (pe_op op_fdiv (pe_op op_mod (pe_callTy call_int1 (by rfl) T.m_int PySem.Pv.boot_int (pa_cons (pe_op op_add (pe_op op_mul (pv 4) pe_int) (pv 3)) pa_nil)) pe_int) pe_int) (pv 1)))))) pss_nil)
      (pss_one (ps_asg (pv 2) (pg_sub (pv 0) pe_int set_list))))))) pss_nil)
      (pss_cons (ps_set (i := 5) sc_draw.nd rfl (.inl rfl) (pe_op op_mod (pe_callTy call_int1 (by rfl) T.m_int PySem.Pv.boot_int (pa_cons (pe_ix ix_list (pv 0) pe_int (fun _ _ => rfl)) pa_nil)) (pv 1)))
      (pss_cons (ps_asg (pe_op op_fdivW (pe_callTy call_int1 (by rfl) T.m_int PySem.Pv.boot_int (pa_cons (pe_ix ix_list (pv 0) pe_int (fun _ _ => rfl)) pa_nil)) (pv 1)) (pg_sub (pv 0) pe_int set_list))
      (pss_one (ps_ret (pv 5)))))), ?_⟩
    have i0 : ∀ (x y z u : V), atI [x, y, z, u] 0 = some x := fun _ _ _ _ => rfl
    have i1 : ∀ (x y z u : V), atI [x, y, z, u] 1 = some y := fun _ _ _ _ => rfl
    have i2 : ∀ (x y z u : V), atI [x, y, z, u] 2 = some z := fun _ _ _ _ => rfl
    have i3 : ∀ (x y z u : V), atI [x, y, z, u] 3 = some u := fun _ _ _ _ => rfl
    refine ⟨fun σ H1 => FeedOk H1 a c ∧ But a H H1 ∧ ∃ y2 y3 y4 y5, σ = [some (.ref a), some (.int m), y2, y3, y4, y5], ?_, fun σ H1 hM => ?_⟩
    · refine ⟨.ref a, rfl, a, _, _, _, rfl, rfl, SqL.of ha, i2 _ _ _ _, _, _, rfl, rfl, _, rfl, ite2 (fun e => ?_) (fun e => ?_)⟩
      · -- feed[1] = feed[1] + 1
        refine ⟨fun σ H1 => σ = [some (.ref a), some (.int m), none, none, none, none] ∧ H1 a = some (.lst [.ref c, .int (k + 1), .int big, .int mark]) ∧ H1 c = some (.lst (ns.map V.int)) ∧ But a H H1,
          ⟨.ref a, rfl, a, _, _, _, rfl, rfl, SqL.of ha, i1 _ _ _ _, _, _, rfl, rfl, .ref a, rfl, a, _, _, 1, rfl, rfl, ha, rfl, rfl, upd_same, by rw [upd_ne nca]; exact hc, But.upd⟩, fun σ H1 hM => ?_⟩
        obtain ⟨rfl, ha1, hc1, b1⟩ := hM
        refine ⟨.ref a, rfl, a, _, _, _, rfl, rfl, SqL.of ha1, i3 _ _ _ _, .ref a, rfl, a, _, _, _, rfl, rfl, SqL.of ha1, i1 _ _ _ _, _, _, rfl, rfl, .inr (by decide), _, _, rfl, rfl, ?_⟩
        refine ⟨fun σ H2 => H2 = H1 ∧ ∃ z : Int, σ = [some (.ref a), some (.int m), some (.int z), none, none, none], ?_, fun σ H2 hM => ?_⟩
        · refine ⟨.ref a, rfl, a, _, _, _, rfl, rfl, SqL.of ha1, i1 _ _ _ _, .ref a, rfl, a, _, _, _, rfl, rfl, SqL.of ha1, i0 _ _ _ _, c, _, rfl, .inl (SqL.of hc1), _, _, rfl, rfl, _, rfl, ite2 (fun e1 => ?_) (fun e1 => ?_)⟩
          · have h1 : k + 1 ≤ ((ns.map V.int).length : Int) := of_decide_eq_true e1
            rw [List.length_map] at h1
            have h2 : k.toNat < ns.length := by omega
            have g : (ns.map V.int)[k.toNat]? = some (.int ns[k.toNat]) := by rw [List.getElem?_map, List.getElem?_eq_getElem h2]; rfl
            exact ⟨.ref a, rfl, a, _, _, _, rfl, rfl, SqL.of ha1, i0 _ _ _ _, .ref a, rfl, a, _, _, _, rfl, rfl, SqL.of ha1, i1 _ _ _ _, _, _, rfl, rfl, c, _, _, _, rfl, rfl, SqL.of hc1, at_of (j := k.toNat) (by omega) g, rfl, _, rfl⟩
          · exact ⟨rfl, _, rfl⟩
        · obtain ⟨rfl, z, rfl⟩ := hM
          have tail : FeedOk (upd H2 a (.lst ([V.ref c, .int (k + 1), .int big, .int mark].set 2 (.int z)))) a c ∧ But a H (upd H2 a (.lst ([V.ref c, .int (k + 1), .int big, .int mark].set 2 (.int z)))) ∧ ∃ y2 y3 y4 y5, [some (V.ref a), some (.int m), some (.int z), none, none, none] = [some (V.ref a), some (.int m), y2, y3, y4, y5] :=
            ⟨⟨ns, k + 1, z, mark, upd_same, by rw [upd_ne nca]; exact hc1, nca, hlen, by omega⟩, b1.trans But.upd, _, _, _, _, rfl⟩
          have pos : ∀ x y : Int, 0 ≤ x % 2147483647 ∧ x % 2147483647 < 2147483647 := fun x _ => ⟨Int.emod_nonneg _ (by decide), Int.emod_lt_of_pos _ (by decide)⟩
          have done : ∀ x : Int, Q (.int (x % m)) H2 := fun x => q _ _ (Int.emod_nonneg _ (by omega)) (Int.emod_lt_of_pos _ hm) ⟨ns, k + 1, big, mark, ha1, hc1, nca, hlen, by omega⟩ b1
          refine ⟨.ref a, rfl, a, _, _, _, rfl, rfl, SqL.of ha1, i1 _ _ _ _, .ref a, rfl, a, _, _, _, rfl, rfl, SqL.of ha1, i0 _ _ _ _, c, _, rfl, .inl (SqL.of hc1), _, _, rfl, rfl, _, rfl, ite2 (fun e1 => ?_) (fun e1 => ?_)⟩
          · exact ⟨_, rfl, _, _, rfl, rfl, .inr (by decide), _, rfl, a, _, _, _, rfl, rfl, SqL.of ha1, i1 _ _ _ _, _, _, rfl, rfl, .inr (by decide), _, _, rfl, rfl, _, rfl, a, _, _, _, rfl, rfl, SqL.of ha1, i3 _ _ _ _, _, _, rfl, rfl, .inl ⟨_, rfl, _, _, rfl, rfl, (by show (0 : Int) < _; decide), _, rfl, _, rfl, _, _, rfl, rfl, .inl (by have p := pos (z * 48271 + (k + 1) * 69621 + mark) 0; exact ⟨by omega, by omega⟩), _, rfl, a, _, _, _, rfl, rfl, SqL.of ha1, i1 _ _ _ _, _, _, rfl, rfl, .inr (by decide), _, _, rfl, rfl, .inl ⟨_, rfl, _, _, rfl, rfl, (by show (0 : Int) < _; decide), _, rfl, _, _, rfl, rfl, .inr (by decide), _, rfl, _, _, rfl, rfl, .inl ⟨_, rfl, _, _, rfl, rfl, (by show (0 : Int) < _; decide), _, _, rfl, rfl, ⟨by decide, by decide⟩, _, rfl, _, _, rfl, rfl, hm, done _⟩⟩⟩⟩
          · refine ⟨_, rfl, _, _, rfl, rfl, ⟨by decide, by decide, by decide⟩, _, _, rfl, rfl, _, rfl, ite2 (fun e2 => ?_) (fun e2 => ?_)⟩
            · exact ⟨_, rfl, _, _, rfl, rfl, .inr (by decide), _, rfl, a, _, _, _, rfl, rfl, SqL.of ha1, i1 _ _ _ _, _, _, rfl, rfl, .inr (by decide), _, _, rfl, rfl, _, rfl, a, _, _, _, rfl, rfl, SqL.of ha1, i3 _ _ _ _, _, _, rfl, rfl, .inl ⟨_, rfl, _, _, rfl, rfl, (by show (0 : Int) < _; decide), _, rfl, _, rfl, _, _, rfl, rfl, .inl (by have p := pos (z * 48271 + (k + 1) * 69621 + mark) 0; exact ⟨by omega, by omega⟩), _, rfl, a, _, _, _, rfl, rfl, SqL.of ha1, i1 _ _ _ _, _, _, rfl, rfl, .inr (by decide), _, _, rfl, rfl, .inl ⟨_, rfl, _, _, rfl, rfl, (by show (0 : Int) < _; decide), _, rfl, _, _, rfl, rfl, .inr (by decide), _, rfl, _, _, rfl, rfl, .inl ⟨_, rfl, _, _, rfl, rfl, (by show (0 : Int) < _; decide), _, _, rfl, rfl, ⟨by decide, by decide⟩, _, rfl, _, _, rfl, rfl, hm, done _⟩⟩⟩⟩
            · exact ⟨_, rfl, .ref a, rfl, a, _, _, 2, rfl, rfl, ha1, rfl, tail⟩
      · exact ⟨⟨ns, k, big, mark, ha, hc, nca, hlen, hk⟩, But.refl _ _, none, none, none, none, rfl⟩
    · obtain ⟨⟨ns1, k1, big1, mark1, ha1, hc1, nca1, hlen1, hk1⟩, b1, y2, y3, y4, y5, rfl⟩ := hM
      refine ⟨.ref a, rfl, a, _, _, _, rfl, rfl, SqL.of ha1, i2 _ _ _ _, .inl ⟨_, rfl, _, rfl, _, _, rfl, rfl, hm, ?_⟩⟩
      refine ⟨.ref a, rfl, a, _, _, _, rfl, rfl, SqL.of ha1, i2 _ _ _ _, .inl ⟨_, rfl, _, rfl, _, _, rfl, rfl, ⟨hm, hm9⟩, ?_⟩⟩
      refine ⟨.ref a, rfl, a, _, _, 2, rfl, rfl, ha1, rfl, ?_⟩
      refine ⟨_, rfl, q _ _ (Int.emod_nonneg _ (by omega)) (Int.emod_lt_of_pos _ hm) ⟨ns1, k1, big1 / m, mark1, upd_same, ?_, nca1, hlen1, hk1⟩ (b1.trans But.upd)⟩
      rw [upd_ne nca1]
      exact hc1
theorem cut63 (xs : List V) (h : xs.length ≤ 63) : cutV xs none (some 63) = xs := by
  unfold cutV
  rw [show HT.sIx xs.length xs.length (some 63) = min 63 xs.length from HT.sIx_nat xs.length xs.length 63, HT.sIx_none]
  rw [Nat.min_eq_right h]
  exact List.take_length
def spFeed (K : PySem.W.Frag) : Sp := fun vs H Q _ => ∃ (a : Addr) (ns : List Int), vs = [.ref a] ∧ SqL K H a (ns.map V.int) ∧ ns.length ≤ 63 ∧ ∀ p c H', H p = none → H c = none → Same H H' → FeedOk H' p c → Q (.ref p) H'
theorem ok_feed (T : Txt K mg fa fd) : FnOk P w K mg base CX0 1 (fa 181) (fd 181) ["_law_script"] (spFeed K) := by
  refine T.F_feed.ok sc_feed (fun vs H Q E h => ?_) (fun cdv A outer s H vs Q E hr h => ?_)
  · obtain ⟨a, ns, rfl, _⟩ := h
    rfl
  · obtain ⟨a, ns, rfl, hS, hlen, q⟩ := h
    refine ⟨_, (C8.pss_cut (ps_setLc (i := 2) (own := [("_law_cell", 1)]) (g := gName 1) (tt := tYes) rfl sc_feed.nd rfl rfl (sw_true rfl rfl rfl (by decide +kernel)) (pi_list (pe_slice sl_list (pv 0) po_none (po_some pe_int))) (blkOk_by (own := [("_law_cell", 1)]) (N := ["_law_script", "_law_cell", "_law_cells", "_law_mark"]) (sc := defScope s_feed) (by decide +kernel)) (fun _ _ _ _ _ => pg_name (i := 1) sc_feed.nd rfl (Or.inl rfl)) (fun _ _ _ _ _ => pts_nil) (fun _ _ _ _ _ => (pe_callTy call_int1 (by rfl) T.m_int PySem.Pv.boot_int (pa_cons (pv 1) pa_nil))))
      (pss_cons (ps_set (i := 3) sc_feed.nd rfl (.inl rfl) (pe_op op_add pe_int (pe_op op_mul pe_int (pe_callB call_len_seq (by rfl) T.m_len PySem.boot_len (pa_cons (pv 2) pa_nil)))))
      (pss_cons (ps_for PassesOwn.never rfl (pi_list (pv 2)) (pg_name (i := 1) sc_feed.nd rfl (.inl rfl)) (pss_one (ps_set (i := 3) sc_feed.nd rfl (.inl rfl) (pe_op op_mod (pe_callTy call_int1 (by rfl) T.m_int PySem.Pv.boot_int (pa_cons (pe_op op_add (pe_op op_mul (pv 3) pe_int) (pv 1)) pa_nil)) pe_int))))
      (pss_one (ps_ret (pe_lst (pa_cons (pv 2) (pa_cons pe_int (pa_cons pe_int (pa_cons (pv 3) pa_nil)))))))))), ?_⟩
    refine ⟨fun σ H1 => ∃ c, σ = [some (.ref a), none, some (.ref c), none] ∧ H c = none ∧ Same H H1 ∧ H1 c = some (.lst (ns.map V.int)), ?_, fun σ H1 hM => ?_⟩
    · refine ⟨.ref a, rfl, 63, rfl, a, _, rfl, hS, fun p np => ?_⟩
      rw [cut63 _ (by rw [List.length_map]; exact hlen)]
      have s1 : Same H (upd H p (.lst (ns.map V.int))) := same_upd np
      refine ⟨p, rfl, ⟨_, SqL.of upd_same⟩, fun D nD => ?_⟩
      have nD0 : H D = none := s1.free nD
      have npD : p ≠ D := ne_of_none upd_same nD
      refine lc_list (K := K) (a := p) (xs := ns.map V.int) (fun i H2 => Same (upd H p (.lst (ns.map V.int))) H2 ∧ H2 D = some (.lst ((ns.take i).map V.int))) ⟨same_upd nD, upd_same⟩ (fun i H2 _ hp => SqL.of (hp.1 _ _ upd_same)) (fun i x H2 hx hp => ?_) (fun H2 hp => ?_)
      · rw [List.getElem?_map] at hx
        obtain ⟨z, hz, rfl⟩ := Option.map_eq_some_iff.mp hx
        refine ⟨rfl, _, rfl, .inl ⟨_, rfl, _, hp.2, ?_, ?_, ?_⟩⟩
        · rw [List.length_map, List.length_take]
          exact Nat.lt_of_le_of_lt (Nat.min_le_left _ _) (small1000 (by
            have := (List.getElem?_eq_some_iff.mp hz).1
            omega))
        · exact fun b o e => by
            rw [upd_ne (ne_of_none e nD)]
            exact hp.1 b o e
        · rw [upd_same, List.take_add_one, hz, List.map_append]
          rfl
      · rw [List.length_map] at hp
        refine ⟨D, rfl, nD0, s1.trans hp.1, ?_⟩
        rw [hp.2, List.take_length]
    · obtain ⟨c, rfl, nc, s1, hc⟩ := hM
      refine ⟨_, rfl, c, _, rfl, .inl (SqL.of hc), _, _, rfl, rfl, .inl (by decide), _, _, rfl, rfl, ?_⟩
      refine ⟨_, rfl, c, rfl, ⟨_, SqL.of hc⟩, for_list (K := K) (a := c) (xs := ns.map V.int) (fun i σ H2 => H2 = H1 ∧ ∃ (y1 : Option V) (m : Int), σ = [some (.ref a), y1, some (.ref c), some (.int m)] ∧ 0 ≤ m ∧ m < 1000000000000) ?_ (fun i σ H2 _ hp => by rw [hp.1]; exact SqL.of hc) (fun i x σ H2 hx hp => ?_) (fun σ H2 hp => ?_)⟩
      · refine ⟨rfl, _, _, rfl, ?_⟩
        rw [List.length_map]
        omega
      · obtain ⟨rfl, y1, m, rfl, h0, h1⟩ := hp
        rw [List.getElem?_map] at hx
        obtain ⟨z, hz, rfl⟩ := Option.map_eq_some_iff.mp hx
        exact ⟨_, rfl, _, _, rfl, rfl, .inr (by decide), _, rfl, _, _, rfl, rfl, .inl ⟨_, rfl, _, _, rfl, rfl, (by show (0 : Int) < _; decide), rfl, _, _, rfl, Int.emod_nonneg _ (by decide), Int.lt_trans (Int.emod_lt_of_pos _ (by decide)) (by decide)⟩⟩
      · obtain ⟨rfl, y1, m, rfl, h0, h1⟩ := hp
        refine ⟨_, rfl, _, rfl, Nat.le_trans (by decide : 4 ≤ 1000) (Nat.le_of_lt (small1000 (Nat.le_refl _))), fun p np => ?_⟩
        refine q p c _ (s1.free np) nc (s1.trans (same_upd np)) ⟨ns, 0, 0, m, upd_same, ?_, ne_of_none hc np, hlen, Int.le_refl _⟩
        rw [upd_ne (ne_of_none hc np)]
        exact hc
/-! ### the row's own draw -/
def spAny : Sp := fun vs H Q _ => ∃ (a c r : Addr) (xs : List V), vs = [.ref a, .ref r] ∧ FeedOk H a c ∧ H r = some (.lst xs) ∧ r ≠ a ∧ 0 < xs.length ∧ xs.length ≤ 1000 ∧ ∀ v H', v ∈ xs → FeedOk H' a c → But a H H' → Q v H'
theorem mid_small {n : Nat} (h0 : 0 < n) (h : n ≤ 1000) : Mid (n : Int) := ⟨by omega, by
  rw [Int.natAbs_natCast]
  exact Nat.lt_of_le_of_lt (Nat.log2_le_self n) (by omega)⟩
theorem ok_any (T : Txt K mg fa fd) : FnOk P w K mg base CX0 2 (fa 183) (fd 183) ["_law_feed_here", "_law_row"] spAny := by
  refine T.F_any.ok sc_any (fun vs H Q E h => ?_) (fun cdv A outer s H vs Q E hr h => ?_)
  · obtain ⟨a, c, m, xs, rfl, _⟩ := h
    rfl
  · obtain ⟨a, c, r, xs, rfl, hF, hx, nra, h0, h1, q⟩ := h
    refine ⟨_, (pss_one (ps_ret (pe_ix ix_list (pv 1) (pe_call (ok_draw T) (hr.mono (by decide)) (by rfl) T.g_draw T.F_draw.kp T.b_draw .nil pass0 (pa_cons (pv 0) (pa_cons (pe_callB call_len_seq (by rfl) T.m_len PySem.boot_len (pa_cons (pv 1) pa_nil)) pa_nil))) (fun _ _ => rfl)))), ?_⟩
    refine ⟨_, rfl, _, rfl, _, rfl, r, _, rfl, .inl (SqL.of hx), a, c, _, rfl, hF, mid_small h0 h1, fun z H' z0 z1 hF' b => ?_⟩
    have hz : z.toNat < xs.length := by omega
    exact ⟨r, xs, z, xs[z.toNat], rfl, rfl, SqL.of (b _ _ nra hx), at_of (j := z.toNat) (by omega) (List.getElem?_eq_getElem hz), q _ _ (List.getElem_mem hz) hF' b⟩
/-! ### the greatest common divisor -/
def spGcd : Sp := fun vs H Q _ => ∃ x y : Int, vs = [.int x, .int y] ∧ Q (.int (Int.gcd x y : Nat)) H
theorem ok_gcd (T : Txt K mg fa fd) : FnOk P w K mg base CX0 1 (fa 188) (fd 188) ["_law_one", "_law_two"] spGcd := by
  refine T.F_gcd.ok sc_gcd (fun vs H Q E h => ?_) (fun cdv A outer s H vs Q E hr h => ?_)
  · obtain ⟨x, y, rfl, _⟩ := h
    rfl
  · obtain ⟨x, y, rfl, q⟩ := h
    refine ⟨_, (pss_cons (ps_par (i := 0) (j := 1) (by rfl) sc_gcd.nd rfl rfl (by decide) rfl rfl (pa_cons (pe_callB call_abs (by rfl) T.m_abs PyProof.Rows.boot_abs (pa_cons (pv 0) pa_nil)) (pa_cons (pe_callB call_abs (by rfl) T.m_abs PyProof.Rows.boot_abs (pa_cons (pv 1) pa_nil)) pa_nil)) (by rfl))
      (pss_cons (ps_while PassesOwn.never (pt_cmpR op_ne (pv 1) pe_int (nomark _)) (pss_one (ps_par (i := 0) (j := 1) (by rfl) sc_gcd.nd rfl rfl (by decide) rfl rfl (pa_cons (pv 1) (pa_cons (pe_op op_mod (pe_callTy call_int1 (by rfl) T.m_int PySem.Pv.boot_int (pa_cons (pv 0) pa_nil)) (pv 1)) pa_nil)) (by rfl))))
      (pss_one (ps_ret (pv 0))))), ?_⟩
    refine ⟨_, rfl, _, rfl, _, rfl, _, rfl, _, _, rfl, ?_⟩
    have ab : ∀ z : Int, (if z < 0 then -z else z) = (z.natAbs : Int) := fun z => by split <;> omega
    rw [ab, ab]
    refine ⟨fun m σ H1 => ∃ u v : Nat, m = v ∧ σ = [some (.int (u : Int)), some (.int (v : Int))] ∧ H1 = H ∧ Nat.gcd u v = Int.gcd x y, ⟨_, x.natAbs, y.natAbs, rfl, rfl, rfl, rfl⟩, fun m σ H1 hW => ?_⟩
    obtain ⟨u, v, rfl, rfl, rfl, hg⟩ := hW
    refine ⟨_, rfl, rfl, _, rfl, ?_⟩
    by_cases hv : m = 0
    · subst hv
      rw [decide_eq_true (show V.int ((0 : Nat) : Int) = V.int 0 from rfl)]
      refine ⟨_, rfl, ?_⟩
      rw [Nat.gcd_zero_right] at hg
      rw [hg]
      exact q
    · rw [decide_eq_false (fun e => hv (by have := V.int.inj e; omega))]
      refine ⟨fun σ' H' => ∃ m', m' < m ∧ ∃ u v : Nat, m' = v ∧ σ' = [some (.int (u : Int)), some (.int (v : Int))] ∧ H' = H1 ∧ Nat.gcd u v = Int.gcd x y, fun σ' H' h => h, ?_⟩
      refine ⟨_, rfl, _, rfl, .inl ⟨_, rfl, _, rfl, _, _, rfl, rfl, (by show (0 : Int) < _; omega), ?_⟩⟩
      refine ⟨_, _, rfl, u % m, Nat.mod_lt _ (by omega), m, u % m, rfl, rfl, rfl, ?_⟩
      rw [← hg, Nat.gcd_comm m, ← Nat.gcd_rec, Nat.gcd_comm]
/-! ### lowest terms -/
def CDivG (_ j : Int) : Prop := j ≠ 0 ∧ j.natAbs.log2 < 9000
theorem op_fdivG {X : Cx} : OpR X (binaryOp .FloorDiv) (rI CDivG fun i j => .int (i.fdiv j)) := opI fun _ _ _ _ _ _ _ hc q => floordiv_int hc.1 q (.inl (PyProof.noPylong_of_log2 hc.2))
def lowG (u v : Int) : Int := if v < 0 then -(Int.gcd u v : Nat) else (Int.gcd u v : Nat)
def lowT (u v : Int) : Int := u.fdiv (lowG u v)
def lowD (u v : Int) : Int := v.fdiv (lowG u v)
theorem gcd_pos {u v : Int} (h : v ≠ 0) : 0 < Int.gcd u v := Nat.pos_of_ne_zero fun e => h (Int.gcd_eq_zero_iff.mp e).2
theorem gcd_le {u v : Int} (h : v ≠ 0) : Int.gcd u v ≤ v.natAbs := Nat.le_of_dvd (by omega) (Nat.gcd_dvd_right _ _)
theorem log2_mono {a b k : Nat} (h : a ≤ b) (hb : b.log2 < k) : a.log2 < k := by
  by_cases h0 : a = 0
  · subst h0
    rw [Nat.log2_zero]
    omega
  · have hb0 : b ≠ 0 := by omega
    exact (Nat.log2_lt h0).mpr (Nat.lt_of_le_of_lt h ((Nat.log2_lt hb0).mp hb))
theorem lowG_ok {u v : Int} (h : v ≠ 0) (h9 : v.natAbs.log2 < 4096) : CDivG u (lowG u v) := by
  have h1 := gcd_pos (u := u) h
  have h2 := gcd_le (u := u) h
  unfold lowG
  split
  · exact ⟨by omega, by rw [Int.natAbs_neg, Int.natAbs_natCast]; exact Nat.lt_trans (log2_mono h2 h9) (by decide)⟩
  · exact ⟨by omega, by rw [Int.natAbs_natCast]; exact Nat.lt_trans (log2_mono h2 h9) (by decide)⟩
def spLow : Sp := fun vs H Q _ => ∃ u v : Int, vs = [.int u, .int v] ∧ v ≠ 0 ∧ v.natAbs.log2 < 4096 ∧ ∀ p, H p = none → Q (.ref p) (upd H p (.tup [.int (lowT u v), .int (lowD u v)]))
theorem two_line : 2 ≤ sizeLine := Nat.le_trans (by decide : 2 ≤ 1000) (Nat.le_of_lt (small1000 (Nat.le_refl _)))
theorem ok_low (T : Txt K mg fa fd) : FnOk P w K mg base CX0 2 (fa 189) (fd 189) ["_law_upper", "_law_lower"] spLow := by
  refine T.F_low.ok sc_low (fun vs H Q E h => ?_) (fun cdv A outer s H vs Q E hr h => ?_)
  · obtain ⟨x, y, rfl, _⟩ := h
    rfl
  · obtain ⟨u, v, rfl, h0, h9, q⟩ := h
    refine ⟨_, (pss_cons (ps_set (i := 2) sc_low.nd rfl (.inl rfl) (pe_call (ok_gcd T) (hr.mono (by decide)) (by rfl) T.g_gcd T.F_gcd.kp T.b_gcd .nil pass0 (pa_cons (pv 0) (pa_cons (pv 1) pa_nil))))
      (C8.pss_cut (ps_if (pt_cmpR op_lt (pv 1) pe_int (nomark _)) (pss_one (ps_set (i := 2) sc_low.nd rfl (.inl rfl) (pe_un un_neg (pv 2)))) pss_nil)
      (pss_one (ps_ret (pe_tup (pa_cons (pe_op op_fdivG (pv 0) (pv 2)) (pa_cons (pe_op op_fdivG (pv 1) (pv 2)) pa_nil))))))), ?_⟩
    refine ⟨_, rfl, _, rfl, u, v, rfl, ?_⟩
    refine ⟨fun σ H1 => H1 = H ∧ σ = [some (.int u), some (.int v), some (.int (lowG u v))], ?_, fun σ H1 hM => ?_⟩
    · refine ⟨_, rfl, _, _, rfl, rfl, _, rfl, ite2 (fun e => ?_) (fun e => ?_)⟩
      · refine ⟨_, rfl, _, rfl, rfl, ?_⟩
        unfold lowG
        rw [if_pos (of_decide_eq_true e)]
        rfl
      · refine ⟨rfl, ?_⟩
        unfold lowG
        rw [if_neg (fun z => e (decide_eq_true z))]
        rfl
    · obtain ⟨rfl, rfl⟩ := hM
      have hG := lowG_ok (u := u) h0 h9
      exact ⟨_, rfl, _, rfl, _, _, rfl, rfl, hG, _, rfl, _, rfl, _, _, rfl, rfl, hG, two_line, q⟩
/-! ### sameness of data -/
def Leaf (v w : V) : Prop := v = w ∧ (v = .non ∨ (∃ b, v = .bl b) ∨ (∃ i, v = .int i) ∨ ∃ x, v = .str x)
def Eqd (H : Hp) : Nat → V → V → Prop
  | 0, v, w => Leaf v w
  | n + 1, v, w => Leaf v w ∨ ∃ (a b : Addr) (xs ys : List V), v = .ref a ∧ w = .ref b ∧ ((H a = some (.lst xs) ∧ H b = some (.lst ys)) ∨ (H a = some (.tup xs) ∧ H b = some (.tup ys))) ∧ xs.length = ys.length ∧ xs.length ≤ 1000 ∧
      ∀ (i : Nat) (x y : V), xs[i]? = some x → ys[i]? = some y → Eqd H n x y
theorem Eqd.leaf {H : Hp} {n : Nat} {v w : V} (h : Leaf v w) : Eqd H n v w := by
  cases n with
  | zero => exact h
  | succ n => exact .inl h
theorem Eqd.mono {H H' : Hp} (s : Same H H') : ∀ (n : Nat) {v w : V}, Eqd H n v w → Eqd H' n v w
  | 0, _, _, h => h
  | n + 1, _, _, h => by
    rcases h with h | ⟨a, b, xs, ys, e1, e2, h, l1, l2, r⟩
    · exact .inl h
    · refine .inr ⟨a, b, xs, ys, e1, e2, ?_, l1, l2, fun i x y h1 h2 => Eqd.mono s n (r i x y h1 h2)⟩
      rcases h with ⟨h1, h2⟩ | ⟨h1, h2⟩
      · exact .inl ⟨s _ _ h1, s _ _ h2⟩
      · exact .inr ⟨s _ _ h1, s _ _ h2⟩
def spSame (n : Nat) : Sp := fun vs H Q _ => ∃ v w : V, vs = [v, w] ∧ Eqd H n v w ∧ ∀ H', Same H H' → Q (.bl true) H'
def spS : Nat → Sp
  | 0 => fun _ _ _ _ => False
  | n + 1 => spSame n
theorem none_of_false {K : PySem.W.Frag} {f : Addr} {fd : FuncData} {st : Stmt} {x : Str} {N ps : List Str} (F : Fun K x x st f fd) (S : FnScope N ps (defScope st)) : FnOk P w K mg base CX0 1 f fd ps (fun _ _ _ _ => False) :=
  F.ok S (fun _ _ _ _ h => h.elim) fun _ _ _ _ _ _ _ _ _ h => h.elim
theorem kit2 {K : PySem.W.Frag} {a b c : String} {r1 r2 : Bool} (h1 : kitB a b = some r1) (h2 : kitB a c = some r2) : PySem.W.kitAny K (.type a) [.type b, .type c] = some (r1 || r2) := by
  cases r1 with
  | true => exact kitAny_cons (kit_ty h1) (fun h => nomatch h) fun _ => rfl
  | false =>
    refine kitAny_cons (kit_ty h1) (fun _ => ?_) fun h => nomatch h
    cases r2 with
    | true => exact kitAny_cons (kit_ty h2) (fun h => nomatch h) fun _ => rfl
    | false => exact kitAny_cons (kit_ty h2) (fun _ => kitAny_nil) fun h => nomatch h
theorem same_step (T : Txt K mg fa fd) (n : Nat) (G : FnOk P w K mg base CX0 (n + 1) (fa 184) (fd 184) ["_law_found", "_law_due"] (spS n)) : FnOk P w K mg base CX0 (n + 2) (fa 184) (fd 184) ["_law_found", "_law_due"] (spSame n) := by
  refine T.F_same.ok sc_same (fun vs H Q E h => ?_) (fun cdv A outer s H vs Q E hr h => ?_)
  · obtain ⟨x, y, rfl, _⟩ := h
    rfl
  · obtain ⟨x, y, rfl, hE, q⟩ := h
    refine ⟨_, (pss_cons (ps_if (pt_cmpR op_isN (pv 1) pe_non (nomark _)) (pss_one (ps_ret (pe_cmpR op_isN (pv 0) pe_non (nomark _)))) pss_nil)
      (pss_cons (ps_if (PW.pt (pw_or (pt_val (pe_callB call_isi (by rfl) T.m_isinstance PyProof.Rows.boot_isinstance (pa_cons (pv 1) (pa_cons (pe_bltn (v := .ty "bool") (by rfl) T.m_bool (by decide +kernel) rfl) pa_nil)))) (pw_or1 (pt_val (pe_callB call_isi (by rfl) T.m_isinstance PyProof.Rows.boot_isinstance (pa_cons (pv 0) (pa_cons (pe_bltn (v := .ty "bool") (by rfl) T.m_bool (by decide +kernel) rfl) pa_nil))))))) (pss_one (ps_ret (pe_and (pe_callB call_isi (by rfl) T.m_isinstance PyProof.Rows.boot_isinstance (pa_cons (pv 1) (pa_cons (pe_bltn (v := .ty "bool") (by rfl) T.m_bool (by decide +kernel) rfl) pa_nil))) (pe_and (pe_callB call_isi (by rfl) T.m_isinstance PyProof.Rows.boot_isinstance (pa_cons (pv 0) (pa_cons (pe_bltn (v := .ty "bool") (by rfl) T.m_bool (by decide +kernel) rfl) pa_nil))) (pe_one (pe_cmpR op_eq (pv 0) (pv 1) (nomark _))))))) pss_nil)
      (pss_cons (ps_if (pt_val (pe_callB call_isiT (by rfl) T.m_isinstance PyProof.Rows.boot_isinstance (pa_cons (pv 1) (pa_cons (pe_tup (pa_cons (pe_bltn (v := .ty "int") (by rfl) T.m_int (by decide +kernel) rfl) (pa_cons (pe_bltn (v := .ty "str") (by rfl) T.m_str (by decide +kernel) rfl) pa_nil))) pa_nil)))) (pss_one (ps_ret (pe_and (pe_callB call_isiT (by rfl) T.m_isinstance PyProof.Rows.boot_isinstance (pa_cons (pv 0) (pa_cons (pe_tup (pa_cons (pe_bltn (v := .ty "int") (by rfl) T.m_int (by decide +kernel) rfl) (pa_cons (pe_bltn (v := .ty "str") (by rfl) T.m_str (by decide +kernel) rfl) pa_nil))) pa_nil))) (pe_and (pe_cmpR op_eq (pe_callB call_isi (by rfl) T.m_isinstance PyProof.Rows.boot_isinstance (pa_cons (pv 0) (pa_cons (pe_bltn (v := .ty "int") (by rfl) T.m_int (by decide +kernel) rfl) pa_nil))) (pe_callB call_isi (by rfl) T.m_isinstance PyProof.Rows.boot_isinstance (pa_cons (pv 1) (pa_cons (pe_bltn (v := .ty "int") (by rfl) T.m_int (by decide +kernel) rfl) pa_nil))) (nomark _)) (pe_one (pe_cmpR op_eq (pv 0) (pv 1) (nomark _))))))) pss_nil)
      (pss_cons (ps_if (pt_val (pe_callB call_isi (by rfl) T.m_isinstance PyProof.Rows.boot_isinstance (pa_cons (pv 1) (pa_cons (pe_bltn (v := .ty "dict") (by rfl) T.m_dict (by decide +kernel) rfl) pa_nil)))) (pss_cons ps_never
      (pss_one ps_never)) pss_nil)
      (pss_cons (ps_if (PW.pt (pw_or (pt_cmpR op_ne (pe_callB call_isi (by rfl) T.m_isinstance PyProof.Rows.boot_isinstance (pa_cons (pv 1) (pa_cons (pe_bltn (v := .ty "list") (by rfl) T.m_list (by decide +kernel) rfl) pa_nil))) (pe_callB call_isi (by rfl) T.m_isinstance PyProof.Rows.boot_isinstance (pa_cons (pv 0) (pa_cons (pe_bltn (v := .ty "list") (by rfl) T.m_list (by decide +kernel) rfl) pa_nil))) (nomark _)) (pw_or1 (pt_cmpR op_ne (pe_callB call_isi (by rfl) T.m_isinstance PyProof.Rows.boot_isinstance (pa_cons (pv 1) (pa_cons (pe_bltn (v := .ty "tuple") (by rfl) T.m_tuple (by decide +kernel) rfl) pa_nil))) (pe_callB call_isi (by rfl) T.m_isinstance PyProof.Rows.boot_isinstance (pa_cons (pv 0) (pa_cons (pe_bltn (v := .ty "tuple") (by rfl) T.m_tuple (by decide +kernel) rfl) pa_nil))) (nomark _))))) (pss_one (ps_ret pe_bl)) pss_nil)
      (pss_one (ps_ret (pe_and (pe_cmpR op_eq (pe_callB call_len_seq (by rfl) T.m_len PySem.boot_len (pa_cons (pv 0) pa_nil)) (pe_callB call_len_seq (by rfl) T.m_len PySem.boot_len (pa_cons (pv 1) pa_nil)) (nomark _)) (pe_one (pe_callB (cr_all rfl) (by rfl) T.m_all PyProof.Rows.boot_all (pa_cons (pe_lc (own := [("_law_one", 3), ("_law_two", 4)]) (g := gTup K 2 (gCons (gName 3) (gCons (gName 4) gNil))) (tt := tYes) rfl sc_same.nd (RZ.pi_zipA (by rfl) T.m_zip (pa_cons (pv 0) (pa_cons (pv 1) pa_nil))) (blkOk_by (own := [("_law_one", 3), ("_law_two", 4)]) (N := ["_law_found", "_law_due", "_law_key", "_law_one", "_law_two"]) (sc := defScope s_same) (by decide +kernel)) (fun _ _ _ _ _ => pg_tup rfl (pgs_cons (pg_name (i := 3) sc_same.nd rfl (Or.inl rfl)) (pgs_cons (pg_name (i := 4) sc_same.nd rfl (Or.inl rfl)) pgs_nil))) (fun _ _ _ _ _ => pts_nil) (fun _ _ _ _ _ => (pe_call G (hr.mono (by omega)) (by rfl) T.g_same T.F_same.kp T.b_same .nil pass0 (pa_cons (pv 3) (pa_cons (pv 4) pa_nil))))) pa_nil))))))))))), ?_⟩
    have leafy : Leaf x y ∨ ∃ (n' : Nat) (a b : Addr) (xs ys : List V), n = n' + 1 ∧ x = .ref a ∧ y = .ref b ∧ ((H a = some (.lst xs) ∧ H b = some (.lst ys)) ∨ (H a = some (.tup xs) ∧ H b = some (.tup ys))) ∧ xs.length = ys.length ∧ xs.length ≤ 1000 ∧
        ∀ (i : Nat) (x y : V), xs[i]? = some x → ys[i]? = some y → Eqd H n' x y := by
      cases n with
      | zero => exact .inl hE
      | succ n' =>
        rcases hE with h | ⟨a, b, xs, ys, h⟩
        · exact .inl h
        · exact .inr ⟨n', a, b, xs, ys, rfl, h⟩
    rcases leafy with ⟨rfl, hl⟩ | ⟨n', a, b, xs, ys, rfl, rfl, rfl, hab, hlen, h1000, hsub⟩
    · refine ⟨_, rfl, rfl, _, rfl, ite2 (fun e => ?_) (fun e => ?_)⟩
      · have ex := of_decide_eq_true e
        subst ex
        exact ⟨_, rfl, rfl, q _ (Same.refl _)⟩
      · rcases hl with rfl | ⟨bb, rfl⟩ | ⟨i, rfl⟩ | ⟨z, rfl⟩
        · exact absurd (decide_eq_true rfl) e
        · refine ⟨_, rfl, _, _, _, _, _, rfl, .ty _, .base (.bl _), kit_ty (r := true) (by decide +kernel), _, rfl, iteT (iteT ?_)⟩
          refine ⟨_, rfl, _, _, _, _, _, rfl, .ty _, .base (.bl _), kit_ty (r := true) (by decide +kernel), _, rfl, iteT ?_⟩
          refine ⟨_, rfl, _, _, _, _, _, rfl, .ty _, .base (.bl _), kit_ty (r := true) (by decide +kernel), _, rfl, iteT ?_⟩
          refine ⟨_, rfl, _, rfl, rfl, ?_⟩
          rw [decide_eq_true rfl]
          exact q _ (Same.refl _)
        · refine ⟨_, rfl, _, _, _, _, _, rfl, .ty _, .base (.int _), kit_ty (r := false) (by decide +kernel), _, rfl, iteF ?_⟩
          refine ⟨_, rfl, _, _, _, _, _, rfl, .ty _, .base (.int _), kit_ty (r := false) (by decide +kernel), _, rfl, iteF ?_⟩
          refine ⟨_, rfl, two_line, fun p np => ?_⟩
          refine ⟨_, p, _, _, _, _, rfl, upd_same, .cons (.ty _) (.cons (.ty _) .nil), .base (.int _), kit2 (r1 := true) (r2 := false) (by decide +kernel) (by decide +kernel), _, rfl, iteT ?_⟩
          refine ⟨_, rfl, two_line, fun p2 np2 => ?_⟩
          refine ⟨_, p2, _, _, _, _, rfl, upd_same, .cons (.ty _) (.cons (.ty _) .nil), .base (.int _), kit2 (r1 := true) (r2 := false) (by decide +kernel) (by decide +kernel), _, rfl, iteT ?_⟩
          refine ⟨_, rfl, _, _, _, _, _, rfl, .ty _, .base (.int _), kit_ty (r := true) (by decide +kernel), ?_⟩
          refine ⟨_, rfl, _, _, _, _, _, rfl, .ty _, .base (.int _), kit_ty (r := true) (by decide +kernel), rfl, _, rfl, iteT ?_⟩
          refine ⟨_, rfl, _, rfl, rfl, ?_⟩
          rw [decide_eq_true rfl]
          exact q _ ((same_upd np).trans (same_upd np2))
        · refine ⟨_, rfl, _, _, _, _, _, rfl, .ty _, .base (.str _), kit_ty (r := false) (by decide +kernel), _, rfl, iteF ?_⟩
          refine ⟨_, rfl, _, _, _, _, _, rfl, .ty _, .base (.str _), kit_ty (r := false) (by decide +kernel), _, rfl, iteF ?_⟩
          refine ⟨_, rfl, two_line, fun p np => ?_⟩
          refine ⟨_, p, _, _, _, _, rfl, upd_same, .cons (.ty _) (.cons (.ty _) .nil), .base (.str _), kit2 (r1 := false) (r2 := true) (by decide +kernel) (by decide +kernel), _, rfl, iteT ?_⟩
          refine ⟨_, rfl, two_line, fun p2 np2 => ?_⟩
          refine ⟨_, p2, _, _, _, _, rfl, upd_same, .cons (.ty _) (.cons (.ty _) .nil), .base (.str _), kit2 (r1 := false) (r2 := true) (by decide +kernel) (by decide +kernel), _, rfl, iteT ?_⟩
          refine ⟨_, rfl, _, _, _, _, _, rfl, .ty _, .base (.str _), kit_ty (r := false) (by decide +kernel), ?_⟩
          refine ⟨_, rfl, _, _, _, _, _, rfl, .ty _, .base (.str _), kit_ty (r := false) (by decide +kernel), rfl, _, rfl, iteT ?_⟩
          refine ⟨_, rfl, _, rfl, rfl, ?_⟩
          rw [decide_eq_true rfl]
          exact q _ ((same_upd np).trans (same_upd np2))
    · refine ⟨_, rfl, rfl, _, rfl, ite2 (fun e => absurd (of_decide_eq_true e) (by intro z; cases z)) (fun e => ?_)⟩
      rcases hab with ⟨ha, hb⟩ | ⟨ha, hb⟩
      · refine ⟨_, rfl, _, _, _, _, _, rfl, .ty _, .base (.lst hb), kit_ty (r := false) (by decide +kernel), _, rfl, iteF ⟨_, rfl, _, _, _, _, _, rfl, .ty _, .base (.lst ha), kit_ty (r := false) (by decide +kernel), _, rfl, iteF ⟨_, rfl, two_line, fun p np => ?_⟩⟩⟩
        have s1 := same_upd (o := .tup [V.ty "int", V.ty "str"]) np
        refine ⟨_, p, _, _, _, _, rfl, upd_same, .cons (.ty _) (.cons (.ty _) .nil), .base (.lst (s1 _ _ hb)), kit2 (r1 := false) (r2 := false) (by decide +kernel) (by decide +kernel), _, rfl, iteF ?_⟩
        generalize upd H p (.tup [V.ty "int", V.ty "str"]) = H2 at s1
        have ha2 := s1 _ _ ha
        have hb2 := s1 _ _ hb
        refine ⟨_, rfl, _, _, _, _, _, rfl, .ty _, .base (.lst hb2), kit_ty (r := false) (by decide +kernel), _, rfl, iteF ?_⟩
        refine ⟨_, rfl, _, _, _, _, _, rfl, .ty _, .base (.lst hb2), kit_ty (r := true) (by decide +kernel), _, rfl, _, _, _, _, _, rfl, .ty _, .base (.lst ha2), kit_ty (r := true) (by decide +kernel), rfl, _, rfl, iteF ?_⟩
        refine ⟨_, rfl, _, _, _, _, _, rfl, .ty _, .base (.lst hb2), kit_ty (r := false) (by decide +kernel), _, rfl, _, _, _, _, _, rfl, .ty _, .base (.lst ha2), kit_ty (r := false) (by decide +kernel), rfl, _, rfl, iteF ?_⟩
        refine ⟨_, rfl, a, _, rfl, .inl (SqL.of ha2), _, rfl, b, _, rfl, .inl (SqL.of hb2), rfl, _, rfl, ?_⟩
        rw [hlen, decide_eq_true rfl]
        refine iteT ⟨_, rfl, _, rfl, a, b, xs, ys, rfl, .inl ⟨SqL.of ha2, SqL.of hb2, fun D nD => ?_⟩⟩
        refine ⟨fun i m H' => i + m = xs.length ∧ Same H2 H' ∧ H' D = some (.lst ((List.replicate i true).map V.bl)), ⟨xs.length, by omega, same_upd nD, upd_same⟩, fun i m H' hW => ?_⟩
        obtain ⟨hm, s2, hD⟩ := hW
        by_cases hi : i < xs.length
        · have hx : xs[i]? = some xs[i] := List.getElem?_eq_getElem hi
          have hy : ys[i]? = some ys[i] := List.getElem?_eq_getElem (by omega)
          refine .inr ⟨⟨_, _, _, _, SqL.of (s2 _ _ ha2), SqL.of (s2 _ _ hb2), hx, hy⟩, fun H'' => Same H2 H'' ∧ H'' D = some (.lst ((List.replicate (i + 1) true).map V.bl)), fun H'' h => ⟨m - 1, by omega, by omega, h⟩, fun v H'' hv => ?_⟩
          obtain ⟨T', x1, y1, rfl, nT, rfl, f1, f2⟩ := hv
          have ex : x1 = xs[i] := Option.some.inj ((f1 _ (SqL.of (s2 _ _ ha2))).symm.trans hx)
          have ey : y1 = ys[i] := Option.some.inj ((f2 _ (SqL.of (s2 _ _ hb2))).symm.trans hy)
          have s3 : Same H' (upd H' T' (.tup [x1, y1])) := same_upd nT
          refine ⟨T', [x1, y1], rfl, .inl (.inl upd_same), rfl, x1, [y1], rfl, y1, [], rfl, rfl, rfl, ?_⟩
          refine ⟨_, rfl, _, rfl, x1, y1, rfl, ?_, fun H4 s4 => ⟨_, s4 _ _ (s3 _ _ hD), ?_, ?_, ?_⟩⟩
          · subst ex ey
            exact Eqd.mono (s1.trans (s2.trans s3)) n' (hsub i _ _ hx hy)
          · rw [List.length_map, List.length_replicate]
            exact small1000 (by omega)
          · intro c o e
            rw [upd_ne (ne_of_none e nD)]
            exact s4 _ _ (s3 _ _ (s2 _ _ e))
          · rw [upd_same, List.replicate_succ', List.map_append]
            rfl
        · have ei : i = xs.length := by omega
          subst ei
          refine .inl ⟨⟨xs, ys, SqL.of (s2 _ _ ha2), SqL.of (s2 _ _ hb2), .inl (Nat.le_refl _)⟩, ?_⟩
          refine ⟨D, _, rfl, .inl (.inl hD), ?_⟩
          have all : ∀ k : Nat, (List.replicate k true).all id = true := fun k => by
            rw [List.all_replicate]
            split <;> rfl
          rw [all]
          exact q _ (s1.trans s2)
      · refine ⟨_, rfl, _, _, _, _, _, rfl, .ty _, .base (.tup hb), kit_ty (r := false) (by decide +kernel), _, rfl, iteF ⟨_, rfl, _, _, _, _, _, rfl, .ty _, .base (.tup ha), kit_ty (r := false) (by decide +kernel), _, rfl, iteF ⟨_, rfl, two_line, fun p np => ?_⟩⟩⟩
        have s1 := same_upd (o := .tup [V.ty "int", V.ty "str"]) np
        refine ⟨_, p, _, _, _, _, rfl, upd_same, .cons (.ty _) (.cons (.ty _) .nil), .base (.tup (s1 _ _ hb)), kit2 (r1 := false) (r2 := false) (by decide +kernel) (by decide +kernel), _, rfl, iteF ?_⟩
        generalize upd H p (.tup [V.ty "int", V.ty "str"]) = H2 at s1
        have ha2 := s1 _ _ ha
        have hb2 := s1 _ _ hb
        refine ⟨_, rfl, _, _, _, _, _, rfl, .ty _, .base (.tup hb2), kit_ty (r := false) (by decide +kernel), _, rfl, iteF ?_⟩
        refine ⟨_, rfl, _, _, _, _, _, rfl, .ty _, .base (.tup hb2), kit_ty (r := false) (by decide +kernel), _, rfl, _, _, _, _, _, rfl, .ty _, .base (.tup ha2), kit_ty (r := false) (by decide +kernel), rfl, _, rfl, iteF ?_⟩
        refine ⟨_, rfl, _, _, _, _, _, rfl, .ty _, .base (.tup hb2), kit_ty (r := true) (by decide +kernel), _, rfl, _, _, _, _, _, rfl, .ty _, .base (.tup ha2), kit_ty (r := true) (by decide +kernel), rfl, _, rfl, iteF ?_⟩
        refine ⟨_, rfl, a, _, rfl, .inr (SqT.of ha2), _, rfl, b, _, rfl, .inr (SqT.of hb2), rfl, _, rfl, ?_⟩
        rw [hlen, decide_eq_true rfl]
        refine iteT ⟨_, rfl, _, rfl, a, b, xs, ys, rfl, .inr ⟨SqT.of ha2, SqT.of hb2, fun D nD => ?_⟩⟩
        refine ⟨fun i m H' => i + m = xs.length ∧ Same H2 H' ∧ H' D = some (.lst ((List.replicate i true).map V.bl)), ⟨xs.length, by omega, same_upd nD, upd_same⟩, fun i m H' hW => ?_⟩
        obtain ⟨hm, s2, hD⟩ := hW
        by_cases hi : i < xs.length
        · have hx : xs[i]? = some xs[i] := List.getElem?_eq_getElem hi
          have hy : ys[i]? = some ys[i] := List.getElem?_eq_getElem (by omega)
          refine .inr ⟨⟨_, _, _, _, SqT.of (s2 _ _ ha2), SqT.of (s2 _ _ hb2), hx, hy⟩, fun H'' => Same H2 H'' ∧ H'' D = some (.lst ((List.replicate (i + 1) true).map V.bl)), fun H'' h => ⟨m - 1, by omega, by omega, h⟩, fun v H'' hv => ?_⟩
          obtain ⟨T', x1, y1, rfl, nT, rfl, f1, f2⟩ := hv
          have ex : x1 = xs[i] := Option.some.inj ((f1 _ (SqT.of (s2 _ _ ha2))).symm.trans hx)
          have ey : y1 = ys[i] := Option.some.inj ((f2 _ (SqT.of (s2 _ _ hb2))).symm.trans hy)
          have s3 : Same H' (upd H' T' (.tup [x1, y1])) := same_upd nT
          refine ⟨T', [x1, y1], rfl, .inl (.inl upd_same), rfl, x1, [y1], rfl, y1, [], rfl, rfl, rfl, ?_⟩
          refine ⟨_, rfl, _, rfl, x1, y1, rfl, ?_, fun H4 s4 => ⟨_, s4 _ _ (s3 _ _ hD), ?_, ?_, ?_⟩⟩
          · subst ex ey
            exact Eqd.mono (s1.trans (s2.trans s3)) n' (hsub i _ _ hx hy)
          · rw [List.length_map, List.length_replicate]
            exact small1000 (by omega)
          · intro c o e
            rw [upd_ne (ne_of_none e nD)]
            exact s4 _ _ (s3 _ _ (s2 _ _ e))
          · rw [upd_same, List.replicate_succ', List.map_append]
            rfl
        · have ei : i = xs.length := by omega
          subst ei
          refine .inl ⟨⟨xs, ys, SqT.of (s2 _ _ ha2), SqT.of (s2 _ _ hb2), .inl (Nat.le_refl _)⟩, ?_⟩
          refine ⟨D, _, rfl, .inl (.inl hD), ?_⟩
          have all : ∀ k : Nat, (List.replicate k true).all id = true := fun k => by
            rw [List.all_replicate]
            split <;> rfl
          rw [all]
          exact q _ (s1.trans s2)
theorem ok_same (T : Txt K mg fa fd) : ∀ n : Nat, FnOk P w K mg base CX0 (n + 1) (fa 184) (fd 184) ["_law_found", "_law_due"] (spS n)
  | 0 => none_of_false T.F_same sc_same
  | n + 1 => same_step T n (ok_same T n)
end
/-! ### more of lowest terms -/
theorem lowG_ne {u v : Int} (h : v ≠ 0) : lowG u v ≠ 0 := by
  have h1 := gcd_pos (u := u) h
  unfold lowG
  split <;> omega
theorem lowG_dvd_left (u v : Int) : lowG u v ∣ u := by
  unfold lowG
  split
  · exact Int.neg_dvd.mpr (Int.gcd_dvd_left _ _)
  · exact (Int.gcd_dvd_left _ _)
theorem lowG_dvd_right (u v : Int) : lowG u v ∣ v := by
  unfold lowG
  split
  · exact Int.neg_dvd.mpr (Int.gcd_dvd_right _ _)
  · exact (Int.gcd_dvd_right _ _)
theorem lowT_mul {u v : Int} (h : v ≠ 0) : u = lowG u v * lowT u v := by
  obtain ⟨t, ht⟩ := lowG_dvd_left u v
  unfold lowT
  generalize lowG u v = g at ht ⊢
  have hg : g ≠ 0 ∨ g = 0 := by omega
  rcases hg with hg | hg
  · rw [ht, Int.mul_fdiv_cancel_left _ hg]
  · rw [ht, hg, Int.zero_mul, Int.zero_mul]
theorem lowT_abs {u v : Int} (h : v ≠ 0) : (lowT u v).natAbs ≤ u.natAbs := by
  have e := lowT_mul (u := u) h
  have h2 : u.natAbs = (lowG u v).natAbs * (lowT u v).natAbs := by
    rw [← Int.natAbs_mul, ← e]
  have h3 : 1 ≤ (lowG u v).natAbs := by
    have := lowG_ne (u := u) h
    omega
  calc (lowT u v).natAbs = 1 * (lowT u v).natAbs := (Nat.one_mul _).symm
    _ ≤ (lowG u v).natAbs * (lowT u v).natAbs := Nat.mul_le_mul_right _ h3
    _ = u.natAbs := h2.symm
theorem lowD_mul {u v : Int} (h : v ≠ 0) : v = lowG u v * lowD u v := by
  obtain ⟨t, ht⟩ := lowG_dvd_right u v
  have hg := lowG_ne (u := u) h
  unfold lowD
  generalize lowG u v = g at ht hg ⊢
  rw [ht, Int.mul_fdiv_cancel_left _ hg]
theorem lowD_abs {u v : Int} (h : v ≠ 0) : (lowD u v).natAbs ≤ v.natAbs := by
  have e := lowD_mul (u := u) h
  have h2 : v.natAbs = (lowG u v).natAbs * (lowD u v).natAbs := by
    rw [← Int.natAbs_mul, ← e]
  have h3 : 1 ≤ (lowG u v).natAbs := by
    have := lowG_ne (u := u) h
    omega
  calc (lowD u v).natAbs = 1 * (lowD u v).natAbs := (Nat.one_mul _).symm
    _ ≤ (lowG u v).natAbs * (lowD u v).natAbs := Nat.mul_le_mul_right _ h3
    _ = v.natAbs := h2.symm
theorem lowD_pos {u v : Int} (h : v ≠ 0) : 0 < lowD u v := by
  have e := lowD_mul (u := u) h
  have h1 := gcd_pos (u := u) h
  have key : ∀ g d : Int, v = g * d → (0 < g ∧ 0 < v) ∨ (g < 0 ∧ v < 0) → 0 < d := fun g d ev hh => by
    rcases Int.lt_trichotomy d 0 with hd | hd | hd
    · rcases hh with ⟨h1, h2⟩ | ⟨h1, h2⟩
      · have := Int.mul_neg_of_pos_of_neg h1 hd
        omega
      · have := Int.mul_pos_of_neg_of_neg h1 hd
        omega
    · rw [hd, Int.mul_zero] at ev
      omega
    · exact hd
  refine key _ _ e ?_
  unfold lowG
  split
  · exact .inr ⟨by omega, by assumption⟩
  · exact .inl ⟨by omega, by omega⟩
theorem low_gcd {u v : Int} (hv : v ≠ 0) : Int.gcd (lowT u v) (lowD u v) = 1 := by
  have e1 := lowT_mul (u := u) hv
  have e2 := lowD_mul (u := u) hv
  have hg := gcd_pos (u := u) hv
  have e3 : Int.gcd u v = (lowG u v).natAbs * Int.gcd (lowT u v) (lowD u v) := by
    have : Int.gcd (lowG u v * lowT u v) (lowG u v * lowD u v) = (lowG u v).natAbs * Int.gcd (lowT u v) (lowD u v) := Int.gcd_mul_left _ _ _
    rw [← e1, ← e2] at this
    exact this
  have e4 : (lowG u v).natAbs = Int.gcd u v := by
    unfold lowG
    split <;> omega
  rw [e4] at e3
  have e5 : Int.gcd u v * 1 = Int.gcd u v * Int.gcd (lowT u v) (lowD u v) := by rw [Nat.mul_one]; exact e3
  exact (Nat.eq_of_mul_eq_mul_left hg e5).symm
/-! ### data in the heap -/
mutual
inductive Dt (z : Addr) (H : Hp) : V → PyData → Prop
  | non : Dt z H .non .none
  | bl (b : Bool) : Dt z H (.bl b) (.bool b)
  | int (i : Int) (h : i.natAbs.log2 < 4096) : Dt z H (.int i) (.int i)
  | str (x : Str) (h : x.length ≤ 1000) : Dt z H (.str x) (.str x)
  | lst {a : Addr} {xs : List V} {ds : List PyData} : H a = some (.lst xs) → a ≠ z → DtAll z H xs ds → Dt z H (.ref a) (.list ds)
  | tup {a : Addr} {xs : List V} {ds : List PyData} : H a = some (.tup xs) → DtAll z H xs ds → Dt z H (.ref a) (.tuple ds)
inductive DtAll (z : Addr) (H : Hp) : List V → List PyData → Prop
  | nil : DtAll z H [] []
  | cons {v : V} {vs : List V} {d : PyData} {ds : List PyData} : Dt z H v d → DtAll z H vs ds → DtAll z H (v :: vs) (d :: ds)
end
mutual
theorem Dt.via {z : Addr} {H H' : Hp} (s : ∀ a o, H a = some o → ((∃ xs, o = .lst xs) ∧ a ≠ z) ∨ (∃ xs, o = .tup xs) → H' a = some o) : ∀ (d : PyData) (v : V), Dt z H v d → Dt z H' v d
  | .none, _, h => by cases h; exact .non
  | .bool _, _, h => by cases h; exact .bl _
  | .int _, _, h => by
    cases h with
    | int _ hb => exact .int _ hb
  | .str _, _, h => by
    cases h with
    | str _ hx => exact .str _ hx
  | .list ds, _, h => by
    cases h with
    | lst h1 hz h2 => exact .lst (s _ _ h1 (.inl ⟨⟨_, rfl⟩, hz⟩)) hz (DtAll.via s ds _ h2)
  | .tuple ds, _, h => by
    cases h with
    | tup h1 h2 => exact .tup (s _ _ h1 (.inr ⟨_, rfl⟩)) (DtAll.via s ds _ h2)
  | .dict _, _, h => by cases h
theorem DtAll.via {z : Addr} {H H' : Hp} (s : ∀ a o, H a = some o → ((∃ xs, o = .lst xs) ∧ a ≠ z) ∨ (∃ xs, o = .tup xs) → H' a = some o) : ∀ (ds : List PyData) (vs : List V), DtAll z H vs ds → DtAll z H' vs ds
  | [], _, h => by cases h; exact .nil
  | d :: ds, _, h => by
    cases h with
    | cons h1 h2 => exact .cons (Dt.via s d _ h1) (DtAll.via s ds _ h2)
end
theorem Dt.same {z : Addr} {H H' : Hp} {v : V} {d : PyData} (h : Dt z H v d) (s : Same H H') : Dt z H' v d := Dt.via (fun a o e _ => s a o e) d v h
theorem DtAll.same {z : Addr} {H H' : Hp} {vs : List V} {ds : List PyData} (h : DtAll z H vs ds) (s : Same H H') : DtAll z H' vs ds := DtAll.via (fun a o e _ => s a o e) ds vs h
theorem DtAll.len {z : Addr} {H : Hp} : ∀ {vs : List V} {ds : List PyData}, DtAll z H vs ds → vs.length = ds.length
  | _, _, .nil => rfl
  | _, _, .cons _ h => congrArg (· + 1) (DtAll.len h)
mutual
theorem Dt.dp {K : PySem.W.Frag} {z : Addr} {H : Hp} : ∀ (d : PyData) (v : V), Dt z H v d → Dp K H v d
  | .none, _, h => by cases h; exact .non
  | .bool _, _, h => by cases h; exact .bl _
  | .int _, _, h => by cases h; exact .int _
  | .str _, _, h => by cases h; exact .str _
  | .list ds, _, h => by
    cases h with
    | lst h1 _ h2 => exact .lst (SqL.of h1) (DtAll.dp ds _ h2)
  | .tuple ds, _, h => by
    cases h with
    | tup h1 h2 => exact .tup (SqT.of h1) (DtAll.dp ds _ h2)
  | .dict _, _, h => by cases h
theorem DtAll.dp {K : PySem.W.Frag} {z : Addr} {H : Hp} : ∀ (ds : List PyData) (vs : List V), DtAll z H vs ds → DpAll K H vs ds
  | [], _, h => by cases h; exact .nil
  | d :: ds, _, h => by
    cases h with
    | cons h1 h2 => exact .cons (Dt.dp d _ h1) (DtAll.dp ds _ h2)
end
theorem Dt.but {z : Addr} {H H' : Hp} {v : V} {d : PyData} {c : Addr} (hF : FeedOk H z c) (b : But z H H') (h : Dt z H v d) : Dt z H' v d := by
  obtain ⟨ns, k, big, mark, ha, _⟩ := hF
  refine Dt.via (fun p o e g => b p o ?_ e) d v h
  rcases g with ⟨_, g⟩ | ⟨xs, rfl⟩
  · exact g
  · exact ne_of e ha (by intro z; cases z)
theorem dnewT {z : Addr} {H : Hp} {p : Addr} {vs : List V} {ds : List PyData} (n : H p = none) (h : DtAll z H vs ds) : Same H (upd H p (.tup vs)) ∧ Dt z (upd H p (.tup vs)) (.ref p) (.tuple ds) :=
  ⟨same_upd n, .tup upd_same (h.same (same_upd n))⟩
theorem dnewL {z : Addr} {H : Hp} {p : Addr} {vs : List V} {ds : List PyData} (n : H p = none) (hz : p ≠ z) (h : DtAll z H vs ds) : Same H (upd H p (.lst vs)) ∧ Dt z (upd H p (.lst vs)) (.ref p) (.list ds) :=
  ⟨same_upd n, .lst upd_same hz (h.same (same_upd n))⟩
theorem drow {z : Addr} {H : Hp} {p : Addr} {vs : List V} {ds : List PyData} (n : H p = none) (h : DtAll z H vs ds) : Same H (upd H p (.lst vs)) ∧ DtAll z (upd H p (.lst vs)) vs ds ∧ (upd H p (.lst vs)) p = some (.lst vs) :=
  ⟨same_upd n, h.same (same_upd n), upd_same⟩
theorem DtAll.mem {z : Addr} {H : Hp} : ∀ {vs : List V} {ds : List PyData} {v : V}, DtAll z H vs ds → v ∈ vs → ∃ d, d ∈ ds ∧ Dt z H v d
  | _, _, _, .cons (d := d) h r, e => by
    rcases List.mem_cons.mp e with rfl | e
    · exact ⟨d, List.mem_cons_self, h⟩
    · obtain ⟨d', h1, h2⟩ := DtAll.mem r e
      exact ⟨d', List.mem_cons_of_mem _ h1, h2⟩
def tagD : PyData → String
  | .none => "NoneType"
  | .bool _ => "bool"
  | .int _ => "int"
  | .str _ => "str"
  | .list _ => "list"
  | .tuple _ => "tuple"
  | .dict _ => "dict"
theorem Dt.ty {K : PySem.W.Frag} {z : Addr} {H : Hp} {v : V} {d : PyData} (h : Dt z H v d) : TyOf K H v (.type (tagD d)) := by
  cases h with
  | non => exact .non
  | bl b => exact .bl b
  | int i _ => exact .int i
  | str x _ => exact .str x
  | lst h _ _ => exact .lst h
  | tup h _ => exact .tup h
def isTup : PyData → Bool
  | .tuple _ => true
  | _ => false
def isTxt : PyData → Bool
  | .str _ => true
  | _ => false
def isInt : PyData → Bool
  | .int _ => true
  | _ => false
theorem kitTup {d : PyData} : kitB (tagD d) "tuple" = some (isTup d) := by cases d <;> rfl
theorem kitTxt {d : PyData} : kitB (tagD d) "str" = some (isTxt d) := by cases d <;> rfl
theorem Dt.split {z : Addr} {H : Hp} {v : V} {d : PyData} (h : Dt z H v d) : isTup d = false ∨ ∃ a xs ds, v = .ref a ∧ d = .tuple ds ∧ H a = some (.tup xs) ∧ DtAll z H xs ds := by
  cases h with
  | tup h1 h2 => exact .inr ⟨_, _, _, rfl, rfl, h1, h2⟩
  | non => exact .inl rfl
  | bl b => exact .inl rfl
  | int i _ => exact .inl rfl
  | str x _ => exact .inl rfl
  | lst h _ _ => exact .inl rfl
/-! ### what is a name, a fraction, a tie -/
def nameD : PyData → Bool
  | .str x => nameB x.cps.toList
  | _ => false
def ratD : PyData → Bool
  | .tuple [.int t, .int u] => decide (1 ≤ u) && decide (Int.gcd t u = 1)
  | _ => false
def nonz : PyData → Bool
  | .tuple (.int t :: _) => decide (t ≠ 0)
  | _ => false
def termD : PyData → Bool
  | .tuple [n, r] => nameD n && ratD r && nonz r
  | _ => false
def ltD : PyData → PyData → Bool
  | .tuple (.str x :: _), .tuple (.str y :: _) => decide (x.cps.toList < y.cps.toList)
  | _, _ => false
def termsD : PyData → Bool
  | .tuple [s] => termD s
  | .tuple [s, t] => termD s && termD t && ltD s t
  | _ => false
def tieD : PyData → Bool
  | .tuple [t, b] => termsD t && ratD b
  | _ => false
mutual
def noL : PyData → Bool
  | .list _ => false
  | .dict _ => false
  | .tuple ds => noLs ds
  | _ => true
def noLs : List PyData → Bool
  | [] => true
  | d :: ds => noL d && noLs ds
end
/-- tuples stay -/
def TT (H H' : Hp) : Prop := ∀ p xs, H p = some (.tup xs) → H' p = some (.tup xs)
theorem TT.of {H H' : Hp} (s : Same H H') : TT H H' := fun p _ e => s p _ e
theorem TT.but {a c : Addr} {H H' : Hp} (hF : FeedOk H a c) (b : But a H H') : TT H H' := fun p xs e => by
  obtain ⟨ns, k, big, mark, ha, _⟩ := hF
  exact b p _ (ne_of e ha (by intro z; cases z)) e
theorem TT.upd {H : Hp} {D : Addr} {ys zs : List V} (hD : H D = some (.lst ys)) : TT H (L2.upd H D (.lst zs)) := fun p xs e => by
  rw [upd_ne (ne_of e hD (by intro z; cases z))]
  exact e
theorem TT.trans {H H1 H2 : Hp} (h : TT H H1) (k : TT H1 H2) : TT H H2 := fun p xs e => k p xs (h p xs e)
mutual
theorem Dt.tups {z z' : Addr} {H H' : Hp} (s : TT H H') : ∀ (d : PyData) (v : V), noL d = true → Dt z H v d → Dt z' H' v d
  | .none, _, _, h => by cases h; exact .non
  | .bool _, _, _, h => by cases h; exact .bl _
  | .int _, _, _, h => by
    cases h with
    | int _ hb => exact .int _ hb
  | .str _, _, _, h => by
    cases h with
    | str _ hx => exact .str _ hx
  | .list ds, _, n, h => by
    unfold noL at n
    cases n
  | .tuple ds, _, n, h => by
    unfold noL at n
    cases h with
    | tup h1 h2 => exact .tup (s _ _ h1) (DtAll.tups s ds _ n h2)
  | .dict _, _, n, h => by cases h
theorem DtAll.tups {z z' : Addr} {H H' : Hp} (s : TT H H') : ∀ (ds : List PyData) (vs : List V), noLs ds = true → DtAll z H vs ds → DtAll z' H' vs ds
  | [], _, _, h => by cases h; exact .nil
  | d :: ds, _, n, h => by
    unfold noLs at n
    rw [Bool.and_eq_true] at n
    cases h with
    | cons h1 h2 => exact .cons (Dt.tups s d _ n.1 h1) (DtAll.tups s ds _ n.2 h2)
end
theorem DtAll.snoc {z : Addr} {H : Hp} : ∀ {vs : List V} {ds : List PyData} {v : V} {d : PyData}, DtAll z H vs ds → Dt z H v d → DtAll z H (vs ++ [v]) (ds ++ [d])
  | _, _, _, _, .nil, k => .cons k .nil
  | _, _, _, _, .cons h r, k => .cons h (DtAll.snoc r k)
theorem ratD_inv {d : PyData} (h : ratD d = true) : ∃ t u, d = .tuple [.int t, .int u] := by
  unfold ratD at h
  split at h
  · exact ⟨_, _, rfl⟩
  · cases h
theorem DtAll.at {z : Addr} {H : Hp} : ∀ {vs : List V} {ds : List PyData} (i : Nat) {x : V}, DtAll z H vs ds → vs[i]? = some x → ∃ d, ds[i]? = some d ∧ Dt z H x d
  | _, _, 0, _, .cons h _, e => ⟨_, rfl, by cases e; exact h⟩
  | _, _, i + 1, _, .cons _ h, e => DtAll.at i h e
def smallR : PyData → Bool
  | .tuple [.int t, .int u] => decide (t.natAbs ≤ 5 ∧ u.natAbs ≤ 3)
  | _ => false
def okR (r : PyData) : Prop := ratD r = true ∧ nonz r = true ∧ smallR r = true
theorem okR.noL {r : PyData} (h : okR r) : noL r = true := by
  obtain ⟨t, u, rfl⟩ := ratD_inv h.1
  rfl
abbrev trm1 (t : Str × PyData) : PyData := .tuple [.str t.1, t.2]
theorem noLs_trms : ∀ {ts : List (Str × PyData)}, (∀ t ∈ ts, okR t.2) → noLs (ts.map trm1) = true
  | [], _ => rfl
  | t :: ts, h => by
    have h1 := (h t List.mem_cons_self).noL
    have h2 := noLs_trms fun u hu => h u (List.mem_cons_of_mem _ hu)
    show (((true && (noL t.2 && true)) && noLs (ts.map trm1)) = true)
    rw [h1, h2]
    rfl
/-- terms: names and rates -/
abbrev trmD (ts : List (Str × PyData)) : PyData := .tuple (ts.map fun t => .tuple [.str t.1, t.2])
theorem tie_inv {z : Addr} {H : Hp} {v : V} {dd : List PyData} {b : PyData} (hv : Dt z H v (.tuple [.tuple dd, b])) : ∃ p t y xs, v = .ref p ∧ H p = some (.tup [.ref t, y]) ∧ H t = some (.tup xs) ∧ DtAll z H xs dd ∧ Dt z H y b := by
  match v, hv with
  | _, .tup hp (.cons (.tup ht hts) (.cons hb .nil)) => exact ⟨_, _, _, _, rfl, hp, ht, hts, hb⟩
theorem trm_inv {z : Addr} {H : Hp} {xs : List V} {n : Str} {r : PyData} {ds : List PyData} (h : DtAll z H xs (.tuple [.str n, r] :: ds)) : ∃ e rv xs', xs = .ref e :: xs' ∧ H e = some (.tup [.str n, rv]) ∧ Dt z H rv r := by
  match xs, h with
  | _, .cons (.tup he (.cons (.str _ _) (.cons hr .nil))) _ => exact ⟨_, _, _, rfl, he, hr⟩
/-! ### names in order -/
theorem S_of (x : Str) : SX.S x.cps.toList = x := by
  cases x
  rfl
theorem lt_tri : ∀ (x y : List Nat), ltCps y x = false → x ≠ y → ltCps x y = true
  | [], [], _, h => absurd rfl h
  | [], _ :: _, _, _ => rfl
  | _ :: _, [], h, _ => by cases h
  | a :: r, b :: t, h, n => by
    unfold ltCps at h ⊢
    rw [Bool.or_eq_false_iff, decide_eq_false_iff_not, Bool.and_eq_false_iff] at h
    rw [Bool.or_eq_true, decide_eq_true_eq, Bool.and_eq_true, beq_iff_eq]
    by_cases e : a = b
    · subst e
      refine .inr ⟨rfl, lt_tri r t ?_ fun z => n (by rw [z])⟩
      rcases h.2 with h | h
      · simp at h
      · exact h
    · exact .inl (by omega)
theorem sorted_two {x y : Str} (h : sortedS [x, y] = true) (n : x ≠ y) : decide (x.cps.toList < y.cps.toList) = true := by
  have h : (!ltCps y.cps.toList x.cps.toList && true) = true := h
  rw [Bool.and_true, Bool.not_eq_true'] at h
  rw [lt_meets]
  refine lt_tri _ _ h fun z => n ?_
  rw [← S_of x, ← S_of y, z]
theorem S_list (a : List Nat) : (SX.S a).cps.toList = a := by simp [SX.S]
section
variable {P : Program} {w : World} {K : PySem.W.Frag} {mg : Str → Option Value} {base : Heap} {fa : Nat → Addr} {fd : Nat → FuncData}
/-! ### InvalidRatio's making; common_divisor; ratio -/
theorem scI : FnScope ["self", "given"] ["self", "given"] (defScope (inClass (topS 3) 0)) := ⟨rfl, rfl, rfl, by decide +kernel, rfl, by decide +kernel, by decide +kernel⟩
abbrev Bd (t : Int) : Prop := t.natAbs.log2 < 4096
theorem bits_bd {v : Nat} (h : v.log2 < 4096) : ¬ ((4096 : Int) < ((Builtin.Int.intBits (v : Int) : Nat) : Int)) := by
  unfold Builtin.Int.intBits
  rw [Int.natAbs_natCast]
  split <;> omega
def spDiv : Sp := fun vs H Q _ => ∃ x y : Int, vs = [.int x, .int y] ∧ (Bd x ∨ Bd y) ∧ Q (.int (Int.gcd x y : Nat)) H
theorem ok_p_common_divisor (T : Txt K mg fa fd) : FnOk P w K mg base CX0 1 (fa 27) (fd 27) ["one", "other"] spDiv := by
  refine T.F_p_common_divisor.ok sc_p_common_divisor (fun vs H Q E h => ?_) (fun cdv A outer s H vs Q E hr h => ?_)
  · obtain ⟨x, y, rfl, _⟩ := h
    rfl
  · obtain ⟨x, y, rfl, hb, q⟩ := h
    refine ⟨_, (pss_cons (ps_set (i := 0) sc_p_common_divisor.nd rfl (.inl rfl) (pe_callB call_abs (by rfl) T.m_abs PyProof.Rows.boot_abs (pa_cons (pv 0) pa_nil)))
      (pss_cons (ps_set (i := 1) sc_p_common_divisor.nd rfl (.inl rfl) (pe_callB call_abs (by rfl) T.m_abs PyProof.Rows.boot_abs (pa_cons (pv 1) pa_nil)))
      (C8.pss_cut (ps_if (pt_cmpR op_lt (pv 0) (pv 1) (nomark _)) (pss_one (ps_par (i := 0) (j := 1) (by rfl) sc_p_common_divisor.nd rfl rfl (by decide) rfl rfl (pa_cons (pv 1) (pa_cons (pv 0) pa_nil)) (by rfl))) pss_nil)
      (pss_cons (ps_while PassesOwn.never (pt_cmpR op_gt (pe_bits (pv 1)) (C8.pe_gc (by rfl) T.c_LONG) (nomark _)) (pss_one ps_never))
      (pss_cons (ps_while PassesOwn.never (pt_cmpR op_gt (pv 1) pe_int (nomark _)) (pss_one (ps_par (i := 0) (j := 1) (by rfl) sc_p_common_divisor.nd rfl rfl (by decide) rfl rfl (pa_cons (pv 1) (pa_cons (pe_op op_mod (pv 0) (pv 1)) pa_nil)) (by rfl))))
      (pss_one (ps_ret (pv 0)))))))), ?_⟩
    refine ⟨_, rfl, _, rfl, _, rfl, _, rfl, ?_⟩
    have ab : ∀ z : Int, (if z < 0 then -z else z) = (z.natAbs : Int) := fun z => by split <;> omega
    rw [ab, ab]
    refine ⟨fun σ H1 => H1 = H ∧ ∃ u v : Nat, σ = [some (.int (u : Int)), some (.int (v : Int))] ∧ v.log2 < 4096 ∧ Nat.gcd u v = Int.gcd x y, ?_, fun σ H1 hM => ?_⟩
    · refine ⟨_, rfl, _, rfl, _, _, rfl, rfl, _, rfl, ite2 (fun e => ?_) (fun e => ?_)⟩
      · have lt : (x.natAbs : Int) < (y.natAbs : Int) := of_decide_eq_true e
        refine ⟨_, rfl, _, rfl, _, _, rfl, rfl, y.natAbs, x.natAbs, rfl, ?_, Nat.gcd_comm _ _⟩
        rcases hb with hb | hb
        · exact hb
        · exact log2_mono (by omega) hb
      · have ge : ¬ (x.natAbs : Int) < (y.natAbs : Int) := fun z => e (decide_eq_true z)
        refine ⟨rfl, x.natAbs, y.natAbs, rfl, ?_, rfl⟩
        rcases hb with hb | hb
        · exact log2_mono (by omega) hb
        · exact hb
    obtain ⟨rfl, u0, v0, rfl, hv0, hg0⟩ := hM
    refine ⟨fun m σ H2 => σ = [some (.int (u0 : Int)), some (.int (v0 : Int))] ∧ H2 = H1, ⟨0, rfl, rfl⟩, fun m σ H2 hW => ?_⟩
    obtain ⟨rfl, rfl⟩ := hW
    refine ⟨_, rfl, _, rfl, _, _, rfl, rfl, _, rfl, ite2 (fun e => absurd (of_decide_eq_true e) (bits_bd hv0)) (fun _ => ?_)⟩
    refine ⟨fun m σ H1 => ∃ u v : Nat, m = v ∧ σ = [some (.int (u : Int)), some (.int (v : Int))] ∧ H1 = H2 ∧ Nat.gcd u v = Int.gcd x y, ⟨_, u0, v0, rfl, rfl, rfl, hg0⟩, fun m σ H1 hW => ?_⟩
    obtain ⟨u, v, rfl, rfl, rfl, hg⟩ := hW
    refine ⟨_, rfl, _, _, rfl, rfl, _, rfl, ite2 (fun e => ?_) (fun e => ?_)⟩
    · have hv : 0 < (m : Int) := of_decide_eq_true e
      refine ⟨fun σ' H' => ∃ m', m' < m ∧ ∃ u v : Nat, m' = v ∧ σ' = [some (.int (u : Int)), some (.int (v : Int))] ∧ H' = H1 ∧ Nat.gcd u v = Int.gcd x y, fun σ' H' h => h, ?_⟩
      refine ⟨_, rfl, _, rfl, _, rfl, _, _, rfl, rfl, hv, ?_⟩
      refine ⟨_, _, rfl, u % m, Nat.mod_lt _ (by omega), m, u % m, rfl, rfl, rfl, ?_⟩
      rw [← hg, Nat.gcd_comm m, ← Nat.gcd_rec, Nat.gcd_comm]
    · have hv : m = 0 := by
        have : ¬ 0 < (m : Int) := fun z => e (decide_eq_true z)
        omega
      subst hv
      refine ⟨_, rfl, ?_⟩
      rw [Nat.gcd_zero_right] at hg
      rw [hg]
      exact q
def spRatio (C : Addr) : Sp := fun vs H Q E => ∃ u v : Int, vs = [.int u, .int v] ∧ (v ≠ 0 → v.natAbs.log2 < 4096 ∧ ∀ p, H p = none → Q (.ref p) (upd H p (.tup [.int (lowT u v), .int (lowD u v)]))) ∧
  (v = 0 → ∀ d H', H d = none → Same H H' → H' d = some (.xd [("tag", .str "InvalidRatio"), ("given", .int 0)]) → E (.ref C) (some d) H')
end
/-! ### texts of fractions: the plain mathematics -/
abbrev dig (c : Nat) : Bool := decide (48 ≤ c) && decide (c ≤ 57)
def isD (a : List Nat) : Bool := !a.isEmpty && a.all dig
def bodyM : List Nat → Bool
  | 45 :: _ => true
  | _ => false
def bodyL : List Nat → List Nat
  | 45 :: r => r
  | a => a
def cutL (a : List Nat) : List Nat × Bool × List Nat := match TL.par [47] [] a with
  | some (p, q) => (p, true, q)
  | none => (a, false, [])
def txtL (n d : Int) : List Nat := (if n < 0 then [45] else []) ++ (TL.numL n.natAbs ++ (if d = 1 then [] else 47 :: TL.numL d.natAbs))
def progN (t : List Nat) : Int := if bodyM t then -((NumText.digitsVal (cutL (bodyL t)).1 : Nat) : Int) else (NumText.digitsVal (cutL (bodyL t)).1 : Nat)
def progD (t : List Nat) : Int := if (cutL (bodyL t)).2.1 then ((NumText.digitsVal (cutL (bodyL t)).2.2 : Nat) : Int) else 1
def progR (t : List Nat) : Option (Int × Int) :=
  if !isD (cutL (bodyL t)).1 || ((cutL (bodyL t)).2.1 && !isD (cutL (bodyL t)).2.2) then none
  else if progD t = 0 then none
  else if txtL (lowT (progN t) (progD t)) (lowD (progN t) (progD t)) = t then some (lowT (progN t) (progD t), lowD (progN t) (progD t)) else none
def goodW (p : List Nat) : Bool := isD p && !(decide (1 < p.length) && p.head? == some 48)
def lawR (t : List Nat) : Option (Int × Int) :=
  if !goodW (cutL (bodyL t)).1 || ((cutL (bodyL t)).2.1 && !goodW (cutL (bodyL t)).2.2) then none
  else if ((cutL (bodyL t)).2.1 = true ∧ progD t < 2 ∨ Int.gcd (progN t) (progD t) ≠ 1) ∨ bodyM t = true ∧ progN t = 0 then none
  else some (progN t, progD t)
theorem gcd_low {u v : Int} (h : v ≠ 0) : Int.gcd (lowT u v) (lowD u v) = 1 := by
  have e1 := lowT_mul (u := u) h
  have e2 := lowD_mul (u := u) h
  have g0 := gcd_pos (u := u) h
  have e : Int.gcd u v = (lowG u v).natAbs * Int.gcd (lowT u v) (lowD u v) := by
    rw [← Int.gcd_mul_left, ← e1, ← e2]
  have hg : (lowG u v).natAbs = Int.gcd u v := by
    unfold lowG
    split <;> omega
  rw [hg] at e
  generalize Int.gcd (lowT u v) (lowD u v) = m at e
  generalize Int.gcd u v = g at e g0
  have : g * 1 = g * m := by rw [Nat.mul_one]; exact e
  exact (Nat.eq_of_mul_eq_mul_left g0 this).symm
theorem low_one {u v : Int} (h : 0 < v) (g : Int.gcd u v = 1) : lowT u v = u ∧ lowD u v = v := by
  have hG : lowG u v = 1 := by
    unfold lowG
    rw [if_neg (by omega), g]
    rfl
  unfold lowT lowD
  rw [hG]
  exact ⟨Int.fdiv_one u, Int.fdiv_one v⟩
theorem all_dig {a : List Nat} : a.all dig = true ↔ NumText.AllDigits a := by
  rw [List.all_eq_true]
  constructor
  · intro h c hc
    have z := h c hc
    unfold dig at z
    rw [Bool.and_eq_true, decide_eq_true_eq, decide_eq_true_eq] at z
    exact z
  · intro h c hc
    have z := h c hc
    unfold dig
    rw [Bool.and_eq_true, decide_eq_true_eq, decide_eq_true_eq]
    exact z
theorem isD_num (n : Nat) : isD (TL.numL n) = true := by
  unfold isD
  rw [Bool.and_eq_true]
  refine ⟨?_, all_dig.mpr (TL.numL_digits n)⟩
  have h := TL.numL_ne n
  cases e : TL.numL n with
  | nil => exact absurd e h
  | cons c r => rfl
theorem isD_iff {a : List Nat} : isD a = true ↔ a ≠ [] ∧ NumText.AllDigits a := by
  unfold isD
  rw [Bool.and_eq_true, all_dig]
  cases a with
  | nil => simp
  | cons c r => simp
theorem nat_char {c : Nat} (h : 48 ≤ c ∧ c ≤ 57) : (Char.ofNat c).toNat = c := by
  have : ∀ c : Nat, c ≤ 57 → 48 ≤ c → (Char.ofNat c).toNat = c := by decide
  exact this c h.2 h.1
theorem num_good {p : List Nat} (h : goodW p = true) : TL.numL (NumText.digitsVal p) = p := by
  unfold goodW at h
  rw [Bool.and_eq_true, isD_iff] at h
  obtain ⟨⟨h1, h2⟩, h3⟩ := h
  have back : ∀ l : List Nat, NumText.AllDigits l → (l.map Char.ofNat).map Char.toNat = l := fun l hl => by
    rw [List.map_map]
    conv => rhs; rw [← List.map_id l]
    exact List.map_congr_left fun c hc => nat_char (hl c hc)
  unfold TL.numL
  rw [NumText.toDigits_all p h2]
  cases p with
  | nil => exact absurd rfl h1
  | cons c r =>
    by_cases e : c = 48
    · subst e
      cases r with
      | nil => rfl
      | cons d r =>
        simp at h3
    · rw [List.dropWhile_cons, if_neg (by rw [beq_iff_eq]; exact e)]
      exact back (c :: r) h2
theorem numL_zero : TL.numL 0 = [48] := TL.numL_lt (by decide)
theorem numL_head {n : Nat} (h : 0 < n) : ∀ c r, TL.numL n = c :: r → 49 ≤ c := by
  induction n using Nat.strongRecOn with
  | _ n ih =>
    intro c r e
    by_cases hn : n < 10
    · rw [TL.numL_lt hn] at e
      injection e with e1 e2
      omega
    · rw [TL.numL_step (by omega)] at e
      cases e2 : TL.numL (n / 10) with
      | nil => exact absurd e2 (TL.numL_ne _)
      | cons c' r' =>
        rw [e2, List.cons_append] at e
        injection e with e3 e4
        have := ih (n / 10) (by omega) (by omega) c' r' e2
        omega
theorem good_num (n : Nat) : goodW (TL.numL n) = true := by
  unfold goodW
  rw [Bool.and_eq_true]
  refine ⟨isD_num n, ?_⟩
  by_cases h : n = 0
  · subst h
    rw [numL_zero]
    rfl
  · cases e : TL.numL n with
    | nil => exact absurd e (TL.numL_ne n)
    | cons c r =>
      have := numL_head (Nat.pos_of_ne_zero h) c r e
      have : (List.head? (c :: r) == some 48) = false := by
        show (some c == some 48) = false
        rw [beq_eq_false_iff_ne]
        intro z
        injection z with z
        omega
      rw [this]
      simp
theorem body_at (t : List Nat) : t = (if bodyM t then [45] else []) ++ bodyL t := by
  unfold bodyM bodyL
  split <;> simp_all
theorem body_minus (b : List Nat) : bodyM (45 :: b) = true ∧ bodyL (45 :: b) = b := ⟨rfl, rfl⟩
theorem body_num (n : Nat) (r : List Nat) : bodyM (TL.numL n ++ r) = false ∧ bodyL (TL.numL n ++ r) = TL.numL n ++ r := by
  cases e : TL.numL n with
  | nil => exact absurd e (TL.numL_ne n)
  | cons c l =>
    have hc : c ≠ 45 := by
      intro z
      have := TL.numL_free (n := n) (s := 45) (.inl (by decide))
      rw [e, z] at this
      exact this List.mem_cons_self
    rw [List.cons_append]
    unfold bodyM bodyL
    constructor
    · split
      · rename_i h
        injection h with h1 h2
        exact absurd h1 hc
      · rfl
    · split
      · rename_i h
        injection h with h1 h2
        exact absurd h1 hc
      · rfl
theorem cut_at (a : List Nat) : a = (cutL a).1 ++ (if (cutL a).2.1 then 47 :: (cutL a).2.2 else []) := by
  by_cases h : 47 ∈ a
  · obtain ⟨p, q, e, hp⟩ := List.eq_append_cons_of_mem h
    subst e
    have := SX.par_head (sep := []) q hp
    unfold cutL
    rw [show p ++ 47 :: q = p ++ (47 :: [] ++ q) from rfl, this]
    rfl
  · have := SX.par_head_none (c := 47) (sep := []) h
    unfold cutL
    rw [this]
    simp
theorem cut_num (n : Nat) : cutL (TL.numL n) = (TL.numL n, false, []) := by
  have := SX.par_head_none (c := 47) (sep := []) (p := TL.numL n) (TL.numL_free (.inl (by decide)))
  unfold cutL
  rw [this]
theorem cut_num2 (n : Nat) (q : List Nat) : cutL (TL.numL n ++ 47 :: q) = (TL.numL n, true, q) := by
  have := SX.par_head (c := 47) (sep := []) (p := TL.numL n) q (TL.numL_free (.inl (by decide)))
  unfold cutL
  rw [show TL.numL n ++ 47 :: q = TL.numL n ++ (47 :: [] ++ q) from rfl, this]
theorem parse_txt (n d : Int) (hd : 0 < d) : bodyM (txtL n d) = decide (n < 0) ∧ (cutL (bodyL (txtL n d))).1 = TL.numL n.natAbs ∧ (cutL (bodyL (txtL n d))).2.1 = decide (d ≠ 1) ∧ (d ≠ 1 → (cutL (bodyL (txtL n d))).2.2 = TL.numL d.natAbs) := by
  have hb : bodyM (txtL n d) = decide (n < 0) ∧ bodyL (txtL n d) = TL.numL n.natAbs ++ (if d = 1 then [] else 47 :: TL.numL d.natAbs) := by
    unfold txtL
    by_cases h : n < 0
    · rw [if_pos h, decide_eq_true h]
      exact body_minus _
    · rw [if_neg h, decide_eq_false h, List.nil_append]
      exact body_num _ _
  rw [hb.2]
  refine ⟨hb.1, ?_⟩
  by_cases h : d = 1
  · rw [if_pos h, List.append_nil, cut_num]
    exact ⟨rfl, (decide_eq_false (fun z => z h)).symm, fun z => absurd h z⟩
  · rw [if_neg h, cut_num2]
    exact ⟨rfl, (decide_eq_true h).symm, fun _ => rfl⟩
/-- the text's parts are those of the fraction -/
theorem parse_val (n d : Int) (hd : 0 < d) : progN (txtL n d) = n ∧ progD (txtL n d) = d := by
  obtain ⟨h1, h2, h3, h4⟩ := parse_txt n d hd
  unfold progN progD
  rw [h1, h2, h3, TL.numL_val]
  constructor
  · by_cases h : n < 0
    · rw [decide_eq_true h, if_pos rfl]
      omega
    · rw [decide_eq_false h, if_neg (by decide)]
      omega
  · by_cases h : d = 1
    · rw [decide_eq_false (fun z => z h), if_neg (by decide), h]
    · rw [decide_eq_true h, if_pos rfl, h4 h, TL.numL_val]
      omega
theorem law_txt (n d : Int) (hd : 0 < d) (g : Int.gcd n d = 1) : lawR (txtL n d) = some (n, d) := by
  obtain ⟨h1, h2, h3, h4⟩ := parse_txt n d hd
  obtain ⟨e1, e2⟩ := parse_val n d hd
  unfold lawR
  rw [e1, e2, h1, h2, h3, good_num]
  have c1 : ((!true) || (decide (d ≠ 1) && !goodW (cutL (bodyL (txtL n d))).2.2)) = false := by
    by_cases h : d = 1
    · rw [decide_eq_false (fun z => z h)]
      rfl
    · rw [h4 h, good_num]
      simp
  rw [c1, if_neg (by decide), if_neg ?_]
  rintro ((⟨z1, z2⟩ | z) | ⟨z1, z2⟩)
  · have := of_decide_eq_true z1
    omega
  · exact z g
  · have := of_decide_eq_true z1
    omega
theorem prog_txt (n d : Int) (hd : 0 < d) (g : Int.gcd n d = 1) : progR (txtL n d) = some (n, d) := by
  obtain ⟨h1, h2, h3, h4⟩ := parse_txt n d hd
  obtain ⟨e1, e2⟩ := parse_val n d hd
  obtain ⟨l1, l2⟩ := low_one hd g
  unfold progR
  rw [e1, e2, h2, h3, isD_num, l1, l2]
  have c1 : ((!true) || (decide (d ≠ 1) && !isD (cutL (bodyL (txtL n d))).2.2)) = false := by
    by_cases h : d = 1
    · rw [decide_eq_false (fun z => z h)]
      rfl
    · rw [h4 h, isD_num]
      simp
  rw [c1, if_neg (by decide), if_neg (by omega), if_pos rfl]
theorem prog_some {t : List Nat} {f : Int × Int} (h : progR t = some f) : t = txtL f.1 f.2 ∧ 0 < f.2 ∧ Int.gcd f.1 f.2 = 1 := by
  unfold progR at h
  split at h
  · cases h
  · split at h
    · cases h
    · rename_i h0
      split at h
      · rename_i e
        cases h
        exact ⟨e.symm, lowD_pos h0, gcd_low h0⟩
      · cases h
theorem law_some {t : List Nat} {f : Int × Int} (h : lawR t = some f) : t = txtL f.1 f.2 ∧ 0 < f.2 ∧ Int.gcd f.1 f.2 = 1 := by
  unfold lawR at h
  split at h
  · cases h
  · rename_i h1
    split at h
    · cases h
    · rename_i h2
      cases h
      have k1 : goodW (cutL (bodyL t)).1 = true := by
        cases e : goodW (cutL (bodyL t)).1
        · rw [e] at h1
          exact absurd rfl h1
        · rfl
      have k2 : (cutL (bodyL t)).2.1 = true → goodW (cutL (bodyL t)).2.2 = true := fun z => by
        cases e : goodW (cutL (bodyL t)).2.2
        · rw [e, z, k1] at h1
          exact absurd rfl h1
        · rfl
      have g1 : Int.gcd (progN t) (progD t) = 1 := by
        by_cases z : Int.gcd (progN t) (progD t) = 1
        · exact z
        · exact absurd (.inl (.inr z)) h2
      have d2 : (cutL (bodyL t)).2.1 = true → 2 ≤ progD t := fun z => by
        have : ¬ progD t < 2 := fun y => h2 (.inl (.inl ⟨z, y⟩))
        omega
      have m2 : bodyM t = true → progN t ≠ 0 := fun z y => h2 (.inr ⟨z, y⟩)
      have hd : 0 < progD t := by
        cases e : (cutL (bodyL t)).2.1
        · unfold progD
          rw [e, if_neg (by decide)]
          omega
        · have := d2 e
          omega
      refine ⟨?_, hd, g1⟩
      have p1 := num_good k1
      show t = txtL (progN t) (progD t)
      have sg : (if progN t < 0 then [45] else []) = (if bodyM t then [45] else ([] : List Nat)) := by
        cases e : bodyM t
        · have : ¬ progN t < 0 := by
            unfold progN
            rw [e]
            simp
          rw [if_neg this]
          rfl
        · have y := m2 e
          have : progN t < 0 := by
            unfold progN at y ⊢
            rw [e, if_pos rfl] at y ⊢
            omega
          rw [if_pos this]
          rfl
      have an : (progN t).natAbs = NumText.digitsVal (cutL (bodyL t)).1 := by
        unfold progN
        split <;> omega
      have sd : (if progD t = 1 then [] else 47 :: TL.numL (progD t).natAbs) = (if (cutL (bodyL t)).2.1 then 47 :: (cutL (bodyL t)).2.2 else []) := by
        cases e : (cutL (bodyL t)).2.1
        · have : progD t = 1 := by
            unfold progD
            rw [e]
            rfl
          rw [if_pos this]
          rfl
        · have y := d2 e
          have z : (progD t).natAbs = NumText.digitsVal (cutL (bodyL t)).2.2 := by
            unfold progD
            rw [e, if_pos rfl]
            omega
          rw [if_neg (by omega), z, num_good (k2 e)]
          rfl
      unfold txtL
      rw [sg, an, p1, sd, ← cut_at, ← body_at]
theorem prog_law (t : List Nat) : progR t = lawR t := by
  cases h : progR t with
  | some f =>
    obtain ⟨e, hd, g⟩ := prog_some h
    rw [e, law_txt f.1 f.2 hd g]
  | none =>
    cases h2 : lawR t with
    | none => rfl
    | some f =>
      obtain ⟨e, hd, g⟩ := law_some h2
      rw [e, prog_txt f.1 f.2 hd g] at h
      cases h
theorem small_line {n : Nat} (h : n ≤ 1000) : n ≤ sizeLine := Nat.le_trans h (Nat.le_of_lt (small1000 (Nat.le_refl _)))
theorem quote : (Str.ofString "'" : Str) = SX.S [39] := by decide +kernel
abbrev vS (a : List Nat) : V := .str (SX.S a)
/-! ### the texts' own words on lists of signs -/
theorem dash : (Str.ofString "-" : Str) = SX.S [45] := by decide +kernel
theorem stroke : (Str.ofString "/" : Str) = SX.S [47] := by decide +kernel
theorem nought : (Str.ofString "0" : Str) = SX.S [48] := by decide +kernel
theorem emptyS : (Str.ofString "" : Str) = SX.S [] := by decide +kernel
theorem uni_dig : ∀ c : Nat, c < 128 → Unicode.isDigit c = dig c := by decide +kernel
theorem ascii_dig (a : List Nat) : (Txt.isascii (SX.S a) && Txt.isdigit (SX.S a)) = isD a := by
  have e1 : Txt.isascii (SX.S a) = a.all (fun c => decide (c < 128)) := by
    unfold Txt.isascii
    rw [← Array.all_toList]
  have e2 : Txt.isdigit (SX.S a) = (!a.isEmpty && a.all Unicode.isDigit) := by
    unfold Txt.isdigit
    rw [← Array.all_toList, SX.S_len]
    cases a <;> rfl
  rw [e1, e2]
  unfold isD
  cases h : a.all (fun c => decide (c < 128))
  · cases h2 : a.all dig
    · simp
    · exfalso
      have h3 := all_dig.mp h2
      have : a.all (fun c => decide (c < 128)) = true := List.all_eq_true.mpr fun c hc => decide_eq_true (by have := h3 c hc; omega)
      rw [h] at this
      cases this
  · have h3 := List.all_eq_true.mp h
    have : a.all Unicode.isDigit = a.all dig := by
      rw [Bool.eq_iff_iff, List.all_eq_true, List.all_eq_true]
      exact ⟨fun q c hc => by rw [← uni_dig c (of_decide_eq_true (h3 c hc))]; exact q c hc, fun q c hc => by rw [uni_dig c (of_decide_eq_true (h3 c hc))]; exact q c hc⟩
    rw [this]
    rfl
theorem sub_one (c : Nat) (r : List Nat) : PySem.Builtin.Str.subAt (SX.S (c :: r)) (SX.S [45]) 0 = decide (c = 45) := by
  have e : (SX.S (c :: r)).cps.extract 0 (0 + (SX.S [45]).length) = [c].toArray := by
    rw [SX.S_len]
    simp [List.extract]
  show ((SX.S (c :: r)).cps.extract 0 (0 + (SX.S [45]).length) == (SX.S [45]).cps) = _
  rw [e]
  by_cases h : c = 45
  · subst h
    rfl
  · rw [decide_eq_false h, beq_eq_false_iff_ne]
    intro z
    exact h (List.cons.inj (congrArg Array.toList z)).1
theorem starts_minus (a : List Nat) : Txt.startswith (SX.S a) (SX.S [45]) = bodyM a := by
  cases a with
  | nil => rfl
  | cons c r =>
    unfold Txt.startswith
    rw [sub_one, SX.S_len, SX.S_len]
    have : decide (0 + [45].length ≤ (c :: r).length) = true := decide_eq_true (by simp)
    rw [this, Bool.true_and]
    unfold bodyM
    split
    · rename_i h
      injection h with h1 h2
      rw [h1]
      rfl
    · rename_i h
      exact decide_eq_false fun z => h r (by rw [z])
theorem rem_minus (a : List Nat) : Txt.removeprefix (SX.S a) (SX.S [45]) = SX.S (bodyL a) := by
  have e := eq_of_beq (PyProof.Rows.removeprefix_closes (SX.S a) (SX.S [45]))
  have e2 := starts_minus a
  unfold Txt.startswith at e2
  rw [e2] at e
  rw [e, SX.S_len, SX.S_len]
  cases a with
  | nil => rfl
  | cons c r =>
    cases h : bodyM (c :: r)
    · rw [if_neg (by decide)]
      unfold bodyM at h
      unfold bodyL
      split at h
      · cases h
      · rfl
    · rw [if_pos rfl]
      unfold bodyM at h
      split at h
      · rename_i h1
        injection h1 with h1 h2
        subst h1 h2
        unfold bodyL
        refine TL.ext_tl ?_
        show (((45 :: r).drop ((([45] : List Nat).length : Nat) : Int).toNat).take ((((45 :: r).length : Nat) : Int) - ((([45] : List Nat).length : Nat) : Int)).toNat) = r
        have : ((([45] : List Nat).length : Nat) : Int).toNat = 1 := rfl
        rw [this, List.drop_one, List.tail_cons]
        exact List.take_of_length_le (by simp only [List.length_cons, List.length_nil]; omega)
      · cases h
theorem cut_S (a : List Nat) : Txt.partition (SX.S a) (SX.S [47]) = (SX.S (cutL a).1, SX.S (if (cutL a).2.1 then [47] else []), SX.S (cutL a).2.2) := by
  unfold cutL
  cases h : TL.par [47] [] a with
  | none => exact SX.partition_none (by simp) h
  | some pq =>
    obtain ⟨p, q⟩ := pq
    exact SX.partition_some (by simp) h
def spD (f : PyData → Bool) : Sp := fun vs H Q _ => ∃ v d z, vs = [v] ∧ Dt z H v d ∧ Q (.bl (f d)) H
section
variable {P : Program} {w : World} {K : PySem.W.Frag} {mg : Str → Option Value} {base : Heap} {fa : Nat → Addr} {fd : Nat → FuncData}
theorem ok_p_is_name (T : Txt K mg fa fd) : FnOk P w K mg base CX0 1 (fa 93) (fd 93) ["text"] (spD nameD) := by
  refine T.F_p_is_name.ok sc_p_is_name (fun vs H Q E h => ?_) (fun cdv A outer s H vs Q E hr h => ?_)
  · obtain ⟨v, d, _, rfl, _⟩ := h
    rfl
  · obtain ⟨v, d, z, rfl, hv, q⟩ := h
    refine ⟨_, (pss_cons (ps_if (pt_not (pt_val (pe_callB call_isi (by rfl) T.m_isinstance PyProof.Rows.boot_isinstance (pa_cons (pv 0) (pa_cons (pe_bltn (v := .ty "str") (by rfl) T.m_str (by decide +kernel) rfl) pa_nil))))) (pss_one (ps_ret pe_bl)) pss_nil)
      (pss_cons (ps_set (i := 1) sc_p_is_name.nd rfl (.inl rfl) (pe_m1 PySem.F.slot_str_removesuffix PySem.F.type_str_removesuffix mt_removesuffix (pv 0) pe_str (by rfl) (by rfl) (by rfl)))
      (pss_cons (ps_if (pt_cmpR op_gt (pe_callB call_len_str (by rfl) T.m_len PySem.boot_len (pa_cons (pv 1) pa_nil)) (C8.pe_gc (by rfl) T.c_MOST_LETTERS_symbols) (nomark _)) (pss_one (ps_ret pe_bl)) pss_nil)
      (pss_one (ps_ret (pe_and (pe_m0 PySem.F.slot_str_isascii PySem.F.type_str_isascii mt_isascii (pv 1) (by rfl) (by rfl)) (pe_and (pe_m0 PySem.F.slot_str_isalpha PySem.F.type_str_isalpha mt_isalpha (pv 1) (by rfl) (by rfl)) (pe_one (pe_m0 PySem.F.slot_str_islower PySem.F.type_str_islower mt_islower (pv 1) (by rfl) (by rfl)))))))))), ?_⟩
    refine ⟨_, rfl, _, _, _, _, _, rfl, .ty _, .base hv.ty, kit_ty kitTxt, _, rfl, ?_⟩
    cases hv with
    | str x hx =>
      refine iteF ?_
      have q : Q (.bl (nameB x.cps.toList)) H := q
      generalize hc : x.cps.toList = a at q
      have ex : x = SX.S a := by rw [← hc, S_of]
      subst ex
      refine ⟨_, rfl, ⟨_, rfl⟩, _, _, rfl, rfl, small_line hx, _, rfl, _, rfl, ?_⟩
      have er : Txt.removesuffix (SX.S a) (Str.ofString "'") = SX.S (cutQ a) := by rw [quote, rem_quote]
      rw [er]
      have q : Q (.bl (decide ((cutQ a).length ≤ 6) && letB (cutQ a))) H := q
      have cut : (cutQ a).length ≤ 1000 := by
        rw [SX.S_len] at hx
        unfold cutQ
        split
        · rw [List.length_dropLast]
          omega
        · exact hx
      generalize cutQ a = b at q cut
      refine ⟨by rw [SX.S_len]; exact small_line cut, _, _, rfl, rfl, _, rfl, ite2 (fun e => ?_) (fun e => ?_)⟩
      · have e := of_decide_eq_true e
        rw [SX.S_len] at e
        rw [decide_eq_false (by omega)] at q
        exact q
      · have e : ¬ ((6 : Int) < ((SX.S b).length : Int)) := fun z => e (decide_eq_true z)
        rw [SX.S_len] at e
        rw [decide_eq_true (by omega), Bool.true_and, ← lower_letters] at q
        refine ⟨_, rfl, ⟨_, rfl⟩, _, rfl, rfl, trivial, _, rfl, ?_⟩
        cases e1 : Txt.isascii (SX.S b) with
        | false =>
          rw [e1] at q
          exact iteF q
        | true =>
          rw [e1, Bool.true_and] at q
          refine iteT ⟨_, rfl, ⟨_, rfl⟩, _, rfl, rfl, trivial, _, rfl, ?_⟩
          cases e2 : Txt.isalpha (SX.S b) with
          | false =>
            rw [e2] at q
            exact iteF q
          | true =>
            rw [e2, Bool.true_and] at q
            exact iteT ⟨_, rfl, ⟨_, rfl⟩, _, rfl, rfl, trivial, q⟩
    | non => exact iteT q
    | bl b => exact iteT q
    | int i _ => exact iteT q
    | lst h _ _ => exact iteT q
    | tup h _ => exact iteT q
end
section
variable {P : Program} {w : World} {K : PySem.W.Frag} {mg : Str → Option Value} {base : Heap} {fa : Nat → Addr} {fd : Nat → FuncData}
theorem ok_p_is_whole (T : Txt K mg fa fd) : FnOk P w K mg base CX0 1 (fa 25) (fd 25) ["thing"] (spD isInt) := by
  refine T.F_p_is_whole.ok sc_p_is_whole (fun vs H Q E h => ?_) (fun cdv A outer s H vs Q E hr h => ?_)
  · obtain ⟨v, d, _, rfl, _⟩ := h
    rfl
  · obtain ⟨v, d, z, rfl, hv, q⟩ := h
    refine ⟨_, (pss_one (ps_ret (pe_and (pe_callB call_isi (by rfl) T.m_isinstance PyProof.Rows.boot_isinstance (pa_cons (pv 0) (pa_cons (pe_bltn (v := .ty "int") (by rfl) T.m_int (by decide +kernel) rfl) pa_nil))) (pe_one (pe_not (pe_callB call_isi (by rfl) T.m_isinstance PyProof.Rows.boot_isinstance (pa_cons (pv 0) (pa_cons (pe_bltn (v := .ty "bool") (by rfl) T.m_bool (by decide +kernel) rfl) pa_nil)))))))), ?_⟩
    cases hv with
    | non => exact ⟨_, rfl, _, _, _, _, _, rfl, .ty _, .base .non, kit_ty (r := false) (by decide +kernel), _, rfl, iteF q⟩
    | bl b => exact ⟨_, rfl, _, _, _, _, _, rfl, .ty _, .base (.bl _), kit_ty (r := true) (by decide +kernel), _, rfl, iteT ⟨_, rfl, _, _, _, _, _, rfl, .ty _, .base (.bl _), kit_ty (r := true) (by decide +kernel), _, rfl, q⟩⟩
    | int i _ => exact ⟨_, rfl, _, _, _, _, _, rfl, .ty _, .base (.int _), kit_ty (r := true) (by decide +kernel), _, rfl, iteT ⟨_, rfl, _, _, _, _, _, rfl, .ty _, .base (.int _), kit_ty (r := false) (by decide +kernel), _, rfl, q⟩⟩
    | str x _ => exact ⟨_, rfl, _, _, _, _, _, rfl, .ty _, .base (.str _), kit_ty (r := false) (by decide +kernel), _, rfl, iteF q⟩
    | lst h _ _ => exact ⟨_, rfl, _, _, _, _, _, rfl, .ty _, .base (.lst h), kit_ty (r := false) (by decide +kernel), _, rfl, iteF q⟩
    | tup h _ => exact ⟨_, rfl, _, _, _, _, _, rfl, .ty _, .base (.tup h), kit_ty (r := false) (by decide +kernel), _, rfl, iteF q⟩
theorem ratD_pair (x y : PyData) : ratD (.tuple [x, y]) = (isInt x && (isInt y && ratD (.tuple [x, y]))) := by
  cases x <;> cases y <;> rfl
theorem ratD_one (x : PyData) : ratD (.tuple [x]) = false := by cases x <;> rfl
theorem ratD_many (x y z : PyData) (r : List PyData) : ratD (.tuple (x :: y :: z :: r)) = false := by cases x <;> cases y <;> rfl
theorem ok_p_is_ratio (T : Txt K mg fa fd) : FnOk P w K mg base CX0 2 (fa 29) (fd 29) ["thing"] (spD ratD) := by
  refine T.F_p_is_ratio.ok sc_p_is_ratio (fun vs H Q E h => ?_) (fun cdv A outer s H vs Q E hr h => ?_)
  · obtain ⟨v, d, _, rfl, _⟩ := h
    rfl
  · obtain ⟨v, d, z, rfl, hv, q⟩ := h
    refine ⟨_, (pss_cons (ps_if (PW.pt (pw_or (pt_not (pt_val (pe_callB call_isi (by rfl) T.m_isinstance PyProof.Rows.boot_isinstance (pa_cons (pv 0) (pa_cons (pe_bltn (v := .ty "tuple") (by rfl) T.m_tuple (by decide +kernel) rfl) pa_nil))))) (pw_or1 (pt_cmpR op_ne (pe_callB call_len_seq (by rfl) T.m_len PySem.boot_len (pa_cons (pv 0) pa_nil)) pe_int (nomark _))))) (pss_one (ps_ret pe_bl)) pss_nil)
      (pss_cons (ps_asg (pv 0) (pg_tup (by rfl) (pgs_cons (pg_name (i := 1) sc_p_is_ratio.nd rfl (.inl rfl)) (pgs_cons (pg_name (i := 2) sc_p_is_ratio.nd rfl (.inl rfl)) pgs_nil))))
      (pss_one (ps_ret (pe_and (pe_call (ok_p_is_whole T) (hr.mono (by decide)) (by rfl) T.g_p_is_whole T.F_p_is_whole.kp T.b_p_is_whole .nil pass0 (pa_cons (pv 1) pa_nil)) (pe_and (pe_call (ok_p_is_whole T) (hr.mono (by decide)) (by rfl) T.g_p_is_whole T.F_p_is_whole.kp T.b_p_is_whole .nil pass0 (pa_cons (pv 2) pa_nil)) (pe_and (pe_cmpR op_ge (pv 2) pe_int (nomark _)) (pe_one (pe_cmpR op_eq (pe_call (ok_p_common_divisor T) (hr.mono (by decide)) (by rfl) T.g_p_common_divisor T.F_p_common_divisor.kp T.b_p_common_divisor .nil pass0 (pa_cons (pv 1) (pa_cons (pv 2) pa_nil))) pe_int (nomark _)))))))))), ?_⟩
    refine ⟨_, rfl, _, _, _, _, _, rfl, .ty _, .base hv.ty, kit_ty kitTup, _, rfl, ?_⟩
    rcases hv.split with e | ⟨p, xs, ds, rfl, rfl, hp, hs⟩
    · rw [e]
      refine iteT (iteT ?_)
      have : ratD d = false := by cases d <;> first | rfl | cases e
      rw [this] at q
      exact q
    · refine iteF ⟨_, rfl, p, xs, rfl, .inr (SqT.of hp), rfl, _, rfl, ?_⟩
      rw [hs.len]
      match xs, ds, hs with
      | _, [], _ => exact iteT q
      | _, [x], _ =>
        rw [ratD_one] at q
        exact iteT q
      | _, x :: y :: z :: r, _ =>
        rw [ratD_many] at q
        rw [decide_eq_false (by simp; omega)]
        exact iteT q
      | _, [d1, d2], .cons (v := x) h1 (.cons (v := y) h2 .nil) =>
        rw [decide_eq_true (show V.int (([d1, d2] : List PyData).length : Int) = V.int 2 from rfl)]
        refine iteF ⟨_, rfl, p, _, rfl, SqT.of hp, rfl, x, [y], rfl, y, [], rfl, rfl, ?_⟩
        refine ⟨_, rfl, x, d1, _, rfl, h1, _, rfl, ?_⟩
        rw [ratD_pair] at q
        cases e1 : isInt d1 with
        | false =>
          rw [e1] at q
          exact iteF q
        | true =>
          rw [e1] at q
          refine iteT ⟨_, rfl, y, d2, _, rfl, h2, _, rfl, ?_⟩
          cases e2 : isInt d2 with
          | false =>
            rw [e2] at q
            exact iteF q
          | true =>
            rw [e2] at q
            cases h1 with
            | int t _ =>
              cases h2 with
              | int u hbu =>
                refine iteT ⟨_, rfl, _, _, rfl, rfl, _, rfl, ?_⟩
                have q : Q (.bl (decide (1 ≤ u) && decide (Int.gcd t u = 1))) H := q
                cases eu : decide (1 ≤ u) with
                | false =>
                  rw [eu] at q
                  exact iteF q
                | true =>
                  rw [eu] at q
                  refine iteT ⟨_, rfl, _, rfl, t, u, rfl, .inr hbu, rfl, ?_⟩
                  have e : decide (V.int (Int.gcd t u : Nat) = V.int 1) = decide (Int.gcd t u = 1) := by
                    rw [decide_eq_decide]
                    constructor
                    · intro h
                      have := V.int.inj h
                      omega
                    · intro h
                      rw [h]
                      rfl
                  rw [e]
                  exact q
              | _ => cases e2
            | _ => cases e1
end
/-! ### the mathematics of reduced ties -/
theorem lowT_self {u v : Int} (hv : v ≠ 0) : lowT u v * v = u * lowD u v := by
  have e1 := lowT_mul (u := u) hv
  have e2 := lowD_mul (u := u) hv
  generalize lowG u v = g at e1 e2
  generalize lowT u v = a at e1 ⊢
  generalize lowD u v = b at e2 ⊢
  subst e1 e2
  rw [← Int.mul_assoc, Int.mul_comm a g]
theorem lowG_scale (u v m : Int) (hm : m ≠ 0) : v ≠ 0 → lowG (u * m) (v * m) = lowG u v * m := fun hv => by
  have g : (Int.gcd (u * m) (v * m) : Int) = (Int.gcd u v : Int) * (m.natAbs : Int) := by
    rw [Int.gcd_mul_right]
    exact Int.natCast_mul _ _
  unfold lowG
  rw [g]
  rcases Int.lt_trichotomy m 0 with h | h | h
  · have em : (m.natAbs : Int) = -m := by omega
    rw [em, Int.mul_neg, Int.neg_neg]
    by_cases h2 : v < 0
    · have := Int.mul_pos_of_neg_of_neg h2 h
      rw [if_neg (by omega), if_pos h2, Int.neg_mul]
    · have := Int.mul_neg_of_pos_of_neg (show 0 < v by omega) h
      rw [if_pos this, if_neg h2]
  · exact absurd h hm
  · have em : (m.natAbs : Int) = m := by omega
    rw [em]
    by_cases h2 : v < 0
    · have := Int.mul_neg_of_neg_of_pos h2 h
      rw [if_pos this, if_pos h2, Int.neg_mul]
    · have := Int.mul_pos (show 0 < v by omega) h
      rw [if_neg (by omega), if_neg h2]
theorem fdiv_scale {g u m : Int} (hg : g ≠ 0) (hm : m ≠ 0) (hd : g ∣ u) : (u * m).fdiv (g * m) = u.fdiv g := by
  obtain ⟨t, rfl⟩ := hd
  have hgm : g * m ≠ 0 := Int.mul_ne_zero hg hm
  rw [Int.mul_fdiv_cancel_left _ hg, show g * t * m = g * m * t by rw [Int.mul_assoc, Int.mul_comm t m, Int.mul_assoc], Int.mul_fdiv_cancel_left _ hgm]
theorem lowT_scale {u v m : Int} (hm : m ≠ 0) (hv : v ≠ 0) : lowT (u * m) (v * m) = lowT u v := by
  unfold lowT
  rw [lowG_scale u v m hm hv]
  exact fdiv_scale (lowG_ne hv) hm (lowG_dvd_left u v)
theorem lowD_scale {u v m : Int} (hm : m ≠ 0) (hv : v ≠ 0) : lowD (u * m) (v * m) = lowD u v := by
  unfold lowD
  rw [lowG_scale u v m hm hv]
  exact fdiv_scale (lowG_ne hv) hm (lowG_dvd_right u v)
theorem lowG_one (u : Int) : lowG u 1 = 1 := by
  unfold lowG
  rw [if_neg (by decide), Int.gcd_one_right]
  rfl
theorem lowT_one (u : Int) : lowT u 1 = u := by
  unfold lowT
  rw [lowG_one, Int.fdiv_one]
theorem lowD_one (u : Int) : lowD u 1 = 1 := by
  unfold lowD
  rw [lowG_one]
  rfl
abbrev FR := Int × Int
def lowF (u v : Int) : FR := (lowT u v, lowD u v)
theorem low_cross {u v u' v' : Int} (hv : v ≠ 0) (hv' : v' ≠ 0) (h : u * v' = u' * v) : lowF u v = lowF u' v' := by
  unfold lowF
  rw [← lowT_scale hv' hv, ← lowD_scale hv' hv, h, ← lowT_scale (u := u') hv hv', ← lowD_scale (u := u') hv hv', Int.mul_comm v v']
/-- the least common denominator, as it is worked out -/
def lcmF (u : Int) : List FR → Int
  | [] => u
  | f :: r => lcmF ((u * f.2).fdiv (Int.gcd u f.2 : Nat)) r
def gcdF (L : Int) (g : Int) : List FR → Int
  | [] => g
  | f :: r => gcdF L (Int.gcd g (L.fdiv f.2 * f.1) : Nat) r
def scl (rs : List FR) : FR := lowF (lcmF 1 rs) (gcdF (lcmF 1 rs) 0 rs)
def redF (s f : FR) : FR := lowF (f.1 * s.1) (f.2 * s.2)
def gl (l : List Int) : Nat := l.foldr (fun m g => Nat.gcd m.natAbs g) 0
theorem gl_mul (A : Int) : ∀ l : List Int, gl (l.map (· * A)) = gl l * A.natAbs
  | [] => (Nat.zero_mul _).symm
  | m :: l => by
    show Nat.gcd (m * A).natAbs (gl (l.map (· * A))) = Nat.gcd m.natAbs (gl l) * A.natAbs
    rw [gl_mul A l, Int.natAbs_mul, Nat.gcd_mul_right]
theorem lcm_step {u d : Int} (hu : 0 < u) (hd : 0 < d) : 0 < (u * d).fdiv (Int.gcd u d : Nat) ∧ u ∣ (u * d).fdiv (Int.gcd u d : Nat) ∧ d ∣ (u * d).fdiv (Int.gcd u d : Nat) := by
  have gp : 0 < Int.gcd u d := gcd_pos (by omega)
  obtain ⟨a, ha⟩ := Int.gcd_dvd_left u d
  obtain ⟨b, hb⟩ := Int.gcd_dvd_right u d
  have g0 : ((Int.gcd u d : Nat) : Int) ≠ 0 := by omega
  have e : (u * d).fdiv (Int.gcd u d : Nat) = u * b := by
    rw [show u * d = ((Int.gcd u d : Nat) : Int) * (u * b) by
      rw [← Int.mul_assoc, Int.mul_comm _ u, Int.mul_assoc, ← hb]]
    exact Int.mul_fdiv_cancel_left _ g0
  have bp : 0 < b := by
    rcases Int.lt_trichotomy b 0 with h | h | h
    · have := Int.mul_neg_of_pos_of_neg (show (0 : Int) < (Int.gcd u d : Nat) by omega) h
      omega
    · rw [h, Int.mul_zero] at hb
      omega
    · exact h
  rw [e]
  refine ⟨Int.mul_pos hu bp, ⟨b, rfl⟩, ⟨a, ?_⟩⟩
  have : ((Int.gcd u d : Nat) : Int) * (u * b) = ((Int.gcd u d : Nat) : Int) * (d * a) := by
    calc ((Int.gcd u d : Nat) : Int) * (u * b) = u * (((Int.gcd u d : Nat) : Int) * b) := by rw [← Int.mul_assoc, Int.mul_comm _ u, Int.mul_assoc]
      _ = u * d := by rw [← hb]
      _ = d * u := Int.mul_comm ..
      _ = d * (((Int.gcd u d : Nat) : Int) * a) := by rw [← ha]
      _ = _ := by rw [← Int.mul_assoc, Int.mul_comm d, Int.mul_assoc]
  exact Int.eq_of_mul_eq_mul_left g0 this
theorem lcmF_ok : ∀ (rs : List FR) (u : Int), 0 < u → (∀ f ∈ rs, 0 < f.2) → 0 < lcmF u rs ∧ u ∣ lcmF u rs ∧ ∀ f ∈ rs, f.2 ∣ lcmF u rs
  | [], u, hu, _ => ⟨hu, ⟨1, (Int.mul_one u).symm⟩, fun _ h => nomatch h⟩
  | f :: r, u, hu, h => by
    have hf := h f List.mem_cons_self
    obtain ⟨h1, h2, h3⟩ := lcm_step hu hf
    obtain ⟨k1, k2, k3⟩ := lcmF_ok r _ h1 fun g hg => h g (List.mem_cons_of_mem _ hg)
    refine ⟨k1, Int.dvd_trans h2 k2, fun g hg => ?_⟩
    rcases List.mem_cons.mp hg with rfl | hg
    · exact Int.dvd_trans h3 k2
    · exact k3 g hg
theorem gcdF_gl (L : Int) : ∀ (rs : List FR) (g : Nat), gcdF L (g : Int) rs = (Nat.gcd g (gl (rs.map fun f => L.fdiv f.2 * f.1)) : Nat)
  | [], g => by
    show (g : Int) = (Nat.gcd g 0 : Nat)
    rw [Nat.gcd_zero_right]
  | f :: r, g => by
    show gcdF L (Int.gcd g (L.fdiv f.2 * f.1) : Nat) r = _
    rw [gcdF_gl L r]
    show ((Nat.gcd (Nat.gcd _ _) _ : Nat) : Int) = (Nat.gcd g (Nat.gcd _ _) : Nat)
    rw [Nat.gcd_assoc]
    rfl
theorem gl_dvd : ∀ (l : List Int) (m : Int), m ∈ l → (gl l : Int) ∣ m
  | a :: l, m, h => by
    have e1 : ((Nat.gcd a.natAbs (gl l) : Nat) : Int) ∣ a := Int.ofNat_dvd_left.mpr (Nat.gcd_dvd_left _ _)
    rcases List.mem_cons.mp h with rfl | h
    · exact e1
    · exact Int.dvd_trans (Int.natCast_dvd_natCast.mpr (Nat.gcd_dvd_right _ _)) (gl_dvd l m h)
/-- good rates -/
def RsOk (rs : List FR) : Prop := rs ≠ [] ∧ ∀ f ∈ rs, 0 < f.2 ∧ f.1 ≠ 0
theorem red_facts {rs : List FR} (h : RsOk rs) : ∃ L G : Int, 0 < L ∧ 0 < G ∧ lcmF 1 rs = L ∧ gcdF L 0 rs = G ∧ ∃ m : FR → Int, (∀ f ∈ rs, m f * G * f.2 = L * f.1) ∧ gl (rs.map m) = 1 := by
  obtain ⟨Lp, _, Ld⟩ := lcmF_ok rs 1 (by decide) fun f hf => (h.2 f hf).1
  have eG := gcdF_gl (lcmF 1 rs) rs 0
  rw [Nat.gcd_zero_left] at eG
  generalize lcmF 1 rs = L at Lp Ld eG ⊢
  have es : ∀ f ∈ rs, L.fdiv f.2 * f.1 * f.2 = L * f.1 ∧ L.fdiv f.2 * f.1 ≠ 0 := fun f hf => by
    obtain ⟨t, ht⟩ := Ld f hf
    have f0 : f.2 ≠ 0 := by have := (h.2 f hf).1; omega
    rw [ht, Int.mul_fdiv_cancel_left _ f0]
    refine ⟨by rw [Int.mul_comm f.2 t, Int.mul_right_comm], ?_⟩
    refine Int.mul_ne_zero (fun z => ?_) (h.2 f hf).2
    rw [z, Int.mul_zero] at ht
    omega
  have Gn : gl (rs.map fun f => L.fdiv f.2 * f.1) ≠ 0 := fun z => by
    obtain ⟨f, r, rfl⟩ : ∃ f r, rs = f :: r := by
      cases rs with
      | nil => exact absurd rfl h.1
      | cons f r => exact ⟨f, r, rfl⟩
    have := gl_dvd _ _ (List.mem_map_of_mem (f := fun f : FR => L.fdiv f.2 * f.1) (List.mem_cons_self (a := f) (l := r)))
    rw [z] at this
    exact (es f List.mem_cons_self).2 (Int.zero_dvd.mp this)
  refine ⟨L, gcdF L 0 rs, Lp, ?_, rfl, rfl, fun f => (L.fdiv f.2 * f.1).fdiv (gcdF L 0 rs), ?_, ?_⟩
  · rw [show gcdF L 0 rs = _ from eG]
    omega
  all_goals
    have eG : gcdF L 0 rs = _ := eG
    have dv : ∀ f ∈ rs, (L.fdiv f.2 * f.1).fdiv (gcdF L 0 rs) * gcdF L 0 rs = L.fdiv f.2 * f.1 := fun f hf => by
      have := gl_dvd _ _ (List.mem_map_of_mem (f := fun f : FR => L.fdiv f.2 * f.1) hf)
      rw [← eG] at this
      obtain ⟨t, ht⟩ := this
      rw [ht, Int.mul_fdiv_cancel_left _ (by rw [eG]; omega), Int.mul_comm]
  · intro f hf
    rw [dv f hf]
    exact (es f hf).1
  · have e2 := gl_mul (gcdF L 0 rs) (rs.map fun f => (L.fdiv f.2 * f.1).fdiv (gcdF L 0 rs))
    have cg : (rs.map fun f => (L.fdiv f.2 * f.1).fdiv (gcdF L 0 rs)).map (· * gcdF L 0 rs) = rs.map fun f => L.fdiv f.2 * f.1 := by
      rw [List.map_map]
      exact List.map_congr_left fun f hf => dv f hf
    rw [cg] at e2
    have e3 : (gcdF L 0 rs).natAbs = gl (rs.map fun f => L.fdiv f.2 * f.1) := by
      rw [eG]
      exact Int.natAbs_natCast _
    rw [e3] at e2
    have : 1 * gl (rs.map fun f => L.fdiv f.2 * f.1) = gl (rs.map fun f => (L.fdiv f.2 * f.1).fdiv (gcdF L 0 rs)) * gl (rs.map fun f => L.fdiv f.2 * f.1) := by rw [Nat.one_mul]; exact e2
    exact (Nat.eq_of_mul_eq_mul_right (by omega) this).symm
theorem cancel3 {k a b : Int} (hk : k ≠ 0) (h : k * a = k * b) : a = b := Int.eq_of_mul_eq_mul_left hk h
/-- a rate times the scale: a whole number -/
theorem redF_of {L G n d m : Int} (hL : 0 < L) (hG : 0 < G) (hd : 0 < d) (h : m * G * d = L * n) : redF (lowF L G) (n, d) = (m, 1) := by
  have e := lowT_self (u := L) (v := G) (by omega)
  have dp := lowD_pos (u := L) (v := G) (by omega)
  unfold redF lowF at *
  have := low_cross (u := n * lowT L G) (v := d * lowD L G) (u' := m) (v' := 1) (Int.mul_ne_zero (by omega) (by omega)) (by decide) ?_
  · unfold lowF at this
    rw [lowT_one, lowD_one] at this
    exact this
  · show n * lowT L G * 1 = m * (d * lowD L G)
    refine cancel3 (k := G) (by omega) ?_
    generalize lowT L G = a at *
    generalize lowD L G = b at *
    calc G * (n * a * 1) = n * (a * G) := by rw [Int.mul_one, Int.mul_comm G, Int.mul_assoc]
      _ = n * (L * b) := by rw [e]
      _ = L * n * b := by rw [← Int.mul_assoc, Int.mul_comm n L]
      _ = m * G * d * b := by rw [h]
      _ = G * (m * (d * b)) := by rw [Int.mul_comm m G, Int.mul_assoc, Int.mul_assoc]
theorem red_scaled {rs : List FR} (h : RsOk rs) {p q : Int} (hp : 0 < p) (hq : 0 < q) :
    RsOk (rs.map fun f => lowF (f.1 * p) (f.2 * q)) ∧ (∀ f ∈ rs, redF (scl (rs.map fun f => lowF (f.1 * p) (f.2 * q))) (lowF (f.1 * p) (f.2 * q)) = redF (scl rs) f) ∧
    ∀ b : FR, 0 < b.2 → redF (scl (rs.map fun f => lowF (f.1 * p) (f.2 * q))) (lowF (b.1 * p) (b.2 * q)) = redF (scl rs) b := by
  have fq : ∀ f ∈ rs, f.2 * q ≠ 0 := fun f hf => Int.mul_ne_zero (by have := (h.2 f hf).1; omega) (by omega)
  have h' : RsOk (rs.map fun f => lowF (f.1 * p) (f.2 * q)) := by
    refine ⟨fun z => h.1 (List.map_eq_nil_iff.mp z), fun g hg => ?_⟩
    obtain ⟨f, hf, rfl⟩ := List.mem_map.mp hg
    refine ⟨lowD_pos (fq f hf), fun z => ?_⟩
    have e := lowT_self (u := f.1 * p) (fq f hf)
    have z : lowT (f.1 * p) (f.2 * q) = 0 := z
    rw [z, Int.zero_mul] at e
    have dp := lowD_pos (u := f.1 * p) (fq f hf)
    exact (Int.mul_ne_zero (Int.mul_ne_zero (h.2 f hf).2 (by omega)) (by omega)) e.symm
  obtain ⟨L, G, Lp, Gp, eL, eG, m, hm, hg⟩ := red_facts h
  obtain ⟨L', G', Lp', Gp', eL', eG', m', hm', hg'⟩ := red_facts h'
  have es : scl rs = lowF L G := by unfold scl; rw [eL, eG]
  have es' : scl (rs.map fun f => lowF (f.1 * p) (f.2 * q)) = lowF L' G' := by unfold scl; rw [eL', eG']
  -- m' (G' q L) = m (L' p G)
  have key : ∀ f ∈ rs, m' (lowF (f.1 * p) (f.2 * q)) * (G' * q * L) = m f * (L' * p * G) := fun f hf => by
    have e1 := hm f hf
    have e2 := hm' _ (List.mem_map_of_mem (f := fun f : FR => lowF (f.1 * p) (f.2 * q)) hf)
    have e3 := lowT_self (u := f.1 * p) (fq f hf)
    have dp := lowD_pos (u := f.1 * p) (fq f hf)
    have fd := (h.2 f hf).1
    generalize m' (lowF (f.1 * p) (f.2 * q)) = M' at *
    change M' * G' * lowD (f.1 * p) (f.2 * q) = L' * lowT (f.1 * p) (f.2 * q) at e2
    generalize lowT (f.1 * p) (f.2 * q) = a at *
    generalize lowD (f.1 * p) (f.2 * q) = b at *
    generalize m f = M at *
    generalize f.1 = n at *
    generalize f.2 = d at *
    refine cancel3 (k := b * d) (Int.mul_ne_zero (by omega) (by omega)) ?_
    calc b * d * (M' * (G' * q * L)) = (M' * G' * b) * (d * q) * L := by ac_rfl
      _ = (L' * a) * (d * q) * L := by rw [e2]
      _ = L' * (a * (d * q)) * L := by ac_rfl
      _ = L' * (n * p * b) * L := by rw [e3]
      _ = L' * p * b * (L * n) := by ac_rfl
      _ = L' * p * b * (M * G * d) := by rw [e1]
      _ = b * d * (M * (L' * p * G)) := by ac_rfl
  have Bp : 0 < G' * q * L := Int.mul_pos (Int.mul_pos Gp' hq) Lp
  have Ap : 0 < L' * p * G := Int.mul_pos (Int.mul_pos Lp' hp) Gp
  have AB : G' * q * L = L' * p * G := by
    have g1 := gl_mul (G' * q * L) (rs.map fun f => m' (lowF (f.1 * p) (f.2 * q)))
    have g2 := gl_mul (L' * p * G) (rs.map m)
    have g3 : gl (rs.map fun f => m' (lowF (f.1 * p) (f.2 * q))) = 1 := by
      rw [List.map_map] at hg'
      exact hg'
    rw [g3, List.map_map, Nat.one_mul] at g1
    rw [hg, List.map_map, Nat.one_mul] at g2
    have g4 : rs.map ((· * (G' * q * L)) ∘ fun f => m' (lowF (f.1 * p) (f.2 * q))) = rs.map ((· * (L' * p * G)) ∘ m) := List.map_congr_left fun f hf => key f hf
    rw [g4, g2] at g1
    omega
  refine ⟨h', fun f hf => ?_, fun b hb => ?_⟩
  · have e := key f hf
    rw [AB] at e
    have e := Int.eq_of_mul_eq_mul_right (by omega) e
    rw [es, es', redF_of Lp Gp (h.2 f hf).1 (hm f hf), ← e]
    exact redF_of Lp' Gp' (lowD_pos (fq f hf)) (hm' _ (List.mem_map_of_mem (f := fun f : FR => lowF (f.1 * p) (f.2 * q)) hf))
  · rw [es, es']
    have bq : b.2 * q ≠ 0 := Int.mul_ne_zero (by omega) (by omega)
    have e3 := lowT_self (u := b.1 * p) bq
    have dp := lowD_pos (u := b.1 * p) bq
    have s1 := lowT_self (u := L) (v := G) (by omega)
    have s2 := lowT_self (u := L') (v := G') (by omega)
    have dp1 := lowD_pos (u := L) (v := G) (by omega)
    have dp2 := lowD_pos (u := L') (v := G') (by omega)
    unfold redF
    refine low_cross (Int.mul_ne_zero (show lowD (b.1 * p) (b.2 * q) ≠ 0 by omega) (show lowD L' G' ≠ 0 by omega)) (Int.mul_ne_zero (by omega) (show lowD L G ≠ 0 by omega)) ?_
    show lowT (b.1 * p) (b.2 * q) * lowT L' G' * (b.2 * lowD L G) = b.1 * lowT L G * (lowD (b.1 * p) (b.2 * q) * lowD L' G')
    generalize lowT (b.1 * p) (b.2 * q) = x at *
    generalize lowD (b.1 * p) (b.2 * q) = y at *
    generalize lowT L G = u at *
    generalize lowD L G = v at *
    generalize lowT L' G' = u' at *
    generalize lowD L' G' = v' at *
    refine cancel3 (k := q * G' * G) (Int.mul_ne_zero (Int.mul_ne_zero (by omega) (by omega)) (by omega)) ?_
    calc q * G' * G * (x * u' * (b.2 * v)) = (x * (b.2 * q)) * (u' * G') * (v * G) := by ac_rfl
      _ = (b.1 * p * y) * (L' * v') * (v * G) := by rw [e3, s2]
      _ = b.1 * y * v' * v * (L' * p * G) := by ac_rfl
      _ = b.1 * y * v' * v * (G' * q * L) := by rw [AB]
      _ = b.1 * (L * v) * y * v' * q * G' := by ac_rfl
      _ = b.1 * (u * G) * y * v' * q * G' := by rw [s1]
      _ = q * G' * G * (b.1 * u * (y * v')) := by ac_rfl
/-! ### sums of fractions -/
def addL (f g : FR) : FR := lowF (f.1 * g.2 + g.1 * f.2) (f.2 * g.2)
def subL (f g : FR) : FR := lowF (f.1 * g.2 - g.1 * f.2) (f.2 * g.2)
def mulL (f g : FR) : FR := lowF (f.1 * g.1) (f.2 * g.2)
def negF (f : FR) : FR := (-f.1, f.2)
def Nf (f : FR) : Prop := 0 < f.2 ∧ Int.gcd f.1 f.2 = 1
theorem nf_low {u v : Int} (h : v ≠ 0) : Nf (lowF u v) := ⟨lowD_pos h, low_gcd h⟩
theorem low_nf {f : FR} (h : Nf f) : lowF f.1 f.2 = f := by
  obtain ⟨a, b⟩ := low_one h.1 h.2
  unfold lowF
  rw [a, b]
theorem Nf.neg {f : FR} (h : Nf f) : Nf (negF f) := ⟨h.1, by show Int.gcd (-f.1) f.2 = 1; rw [Int.neg_gcd]; exact h.2⟩
theorem nf_01 : Nf (0, 1) := ⟨by decide, by decide⟩
theorem nf_11 : Nf (1, 1) := ⟨by decide, by decide⟩
theorem addL_nf {f g : FR} (hf : 0 < f.2) (hg : 0 < g.2) : Nf (addL f g) := nf_low (Int.mul_ne_zero (by omega) (by omega))
theorem subL_nf {f g : FR} (hf : 0 < f.2) (hg : 0 < g.2) : Nf (subL f g) := nf_low (Int.mul_ne_zero (by omega) (by omega))
theorem sub_add {a b c : FR} (ha : 0 < a.2) (hb : 0 < b.2) (hc : 0 < c.2) : addL (subL a b) (negF c) = subL a (addL b c) := by
  have v1 : a.2 * b.2 ≠ 0 := Int.mul_ne_zero (by omega) (by omega)
  have v2 : b.2 * c.2 ≠ 0 := Int.mul_ne_zero (by omega) (by omega)
  have e1 := lowT_self (u := a.1 * b.2 - b.1 * a.2) v1
  have e2 := lowT_self (u := b.1 * c.2 + c.1 * b.2) v2
  have p1 := lowD_pos (u := a.1 * b.2 - b.1 * a.2) v1
  have p2 := lowD_pos (u := b.1 * c.2 + c.1 * b.2) v2
  unfold addL subL negF
  unfold lowF at *
  dsimp only at *
  generalize lowT (a.1 * b.2 - b.1 * a.2) (a.2 * b.2) = t1 at *
  generalize lowD (a.1 * b.2 - b.1 * a.2) (a.2 * b.2) = d1 at *
  generalize lowT (b.1 * c.2 + c.1 * b.2) (b.2 * c.2) = t2 at *
  generalize lowD (b.1 * c.2 + c.1 * b.2) (b.2 * c.2) = d2 at *
  refine low_cross (Int.mul_ne_zero (by omega) (by omega)) (Int.mul_ne_zero (by omega) (by omega)) ?_
  refine Int.eq_of_mul_eq_mul_right (a := a.2 * b.2 * (b.2 * c.2)) (Int.mul_ne_zero v1 v2) ?_
  generalize a.1 = a1 at *
  generalize a.2 = a2 at *
  generalize b.1 = b1 at *
  generalize b.2 = b2 at *
  generalize c.1 = c1 at *
  generalize c.2 = c2 at *
  grind
theorem sub_zero {a : FR} (h : Nf a) : subL a (0, 1) = a := by
  unfold subL
  dsimp only
  rw [Int.mul_one, Int.zero_mul, Int.sub_zero, Int.mul_one]
  exact low_nf h
theorem lowF_neg {u v : Int} (h : v ≠ 0) : lowF (-u) v = negF (lowF u v) := by
  have n := (nf_low (u := u) h).neg
  rw [← low_nf n]
  have e := lowT_self (u := u) h
  have p := lowD_pos (u := u) h
  refine low_cross h (by show lowD u v ≠ 0; omega) ?_
  show -u * lowD u v = -lowT u v * v
  rw [Int.neg_mul, Int.neg_mul, e]
theorem sub_anti {a b : FR} (ha : 0 < a.2) (hb : 0 < b.2) : subL b a = negF (subL a b) := by
  unfold subL
  have v1 : a.2 * b.2 ≠ 0 := Int.mul_ne_zero (by omega) (by omega)
  rw [← lowF_neg v1, Int.mul_comm b.2 a.2]
  congr 1
  omega
theorem low_zero {u v : Int} (h : v ≠ 0) : (lowF u v).1 = 0 ↔ u = 0 := by
  have e := lowT_self (u := u) h
  have p := lowD_pos (u := u) h
  show lowT u v = 0 ↔ u = 0
  constructor
  · intro z
    rw [z, Int.zero_mul] at e
    rcases Int.mul_eq_zero.mp e.symm with y | y
    · exact y
    · omega
  · intro z
    subst z
    rw [Int.zero_mul] at e
    rcases Int.mul_eq_zero.mp e with y | y
    · exact y
    · exact absurd y h
theorem neg_neg {f : FR} : negF (negF f) = f := by
  unfold negF
  rw [Int.neg_neg]
/-- the rate of a name in a list of rates -/
abbrev It := List Nat × FR
def sumX (x : List Nat) (acc : FR) (l : List It) : FR := l.foldl (fun a it => if it.1 = x then addL a it.2 else a) acc
theorem sumX_nf (x : List Nat) : ∀ (l : List It) (acc : FR), Nf acc → (∀ it ∈ l, Nf it.2) → Nf (sumX x acc l)
  | [], _, h, _ => h
  | it :: l, acc, h, hl => by
    refine sumX_nf x l _ ?_ fun i hi => hl i (List.mem_cons_of_mem _ hi)
    show Nf (if it.1 = x then addL acc it.2 else acc)
    split
    · exact addL_nf h.1 (hl it List.mem_cons_self).1
    · exact h
theorem sumX_sub (x : List Nat) (a : FR) (ha : Nf a) : ∀ (l : List It) (b : FR), Nf b → (∀ it ∈ l, Nf it.2) → sumX x (subL a b) (l.map fun it => (it.1, negF it.2)) = subL a (sumX x b l)
  | [], _, _, _ => rfl
  | it :: l, b, hb, hl => by
    have h1 := hl it List.mem_cons_self
    have ih := fun b hb => sumX_sub x a ha l b hb fun i hi => hl i (List.mem_cons_of_mem _ hi)
    show sumX x (if it.1 = x then addL (subL a b) (negF it.2) else subL a b) _ = subL a (sumX x (if it.1 = x then addL b it.2 else b) l)
    split
    · rw [sub_add ha.1 hb.1 h1.1]
      exact ih _ (addL_nf hb.1 h1.1)
    · exact ih _ hb
theorem sumX_app (x : List Nat) (acc : FR) (l r : List It) : sumX x acc (l ++ r) = sumX x (sumX x acc l) r := List.foldl_append
theorem sumX_law (x : List Nat) {l r : List It} (hl : ∀ it ∈ l, Nf it.2) (hr : ∀ it ∈ r, Nf it.2) : sumX x (0, 1) (l ++ r.map fun it => (it.1, negF it.2)) = subL (sumX x (0, 1) l) (sumX x (0, 1) r) := by
  have h := sumX_nf x l (0, 1) nf_01 hl
  rw [sumX_app, ← sumX_sub x _ h r _ nf_01 hr, sub_zero h]
theorem sumX_none (x : List Nat) : ∀ (l : List It) (acc : FR), (∀ it ∈ l, it.1 ≠ x) → sumX x acc l = acc
  | [], _, _ => rfl
  | it :: l, acc, h => by
    show sumX x (if it.1 = x then _ else acc) l = acc
    rw [if_neg (h it List.mem_cons_self)]
    exact sumX_none x l acc fun i hi => h i (List.mem_cons_of_mem _ hi)
/-! ### sizes -/
def Bn (k : Nat) (f : FR) : Prop := f.1.natAbs < 2 ^ k ∧ f.2.natAbs < 2 ^ k
theorem Bn.mono {k j : Nat} {f : FR} (h : Bn k f) (l : k ≤ j) : Bn j f := ⟨Nat.lt_of_lt_of_le h.1 (Nat.pow_le_pow_right (by decide) l), Nat.lt_of_lt_of_le h.2 (Nat.pow_le_pow_right (by decide) l)⟩
theorem Bn.low {k : Nat} {u v : Int} (h : v ≠ 0) (h1 : u.natAbs < 2 ^ k) (h2 : v.natAbs < 2 ^ k) : Bn k (lowF u v) :=
  ⟨Nat.lt_of_le_of_lt (lowT_abs h) h1, Nat.lt_of_le_of_lt (lowD_abs h) h2⟩
theorem pow_mul_lt {k j a b : Nat} (h1 : a < 2 ^ k) (h2 : b < 2 ^ j) : a * b < 2 ^ (k + j) := by
  rw [Nat.pow_add]
  exact Nat.mul_lt_mul'' h1 h2
theorem Bn.add {k j : Nat} {f g : FR} (hf : Bn k f) (hg : Bn j g) (pf : 0 < f.2) (pg : 0 < g.2) : Bn (k + j + 1) (addL f g) := by
  refine Bn.low (Int.mul_ne_zero (by omega) (by omega)) ?_ ?_
  · have h1 : (f.1 * g.2).natAbs < 2 ^ (k + j) := by rw [Int.natAbs_mul]; exact pow_mul_lt hf.1 hg.2
    have h2 : (g.1 * f.2).natAbs < 2 ^ (k + j) := by rw [Int.natAbs_mul, Nat.mul_comm]; exact pow_mul_lt hf.2 hg.1
    have := Int.natAbs_add_le (f.1 * g.2) (g.1 * f.2)
    rw [Nat.pow_succ]
    omega
  · have h1 : (f.2 * g.2).natAbs < 2 ^ (k + j) := by rw [Int.natAbs_mul]; exact pow_mul_lt hf.2 hg.2
    rw [Nat.pow_succ]
    omega
theorem Bn.sub {k j : Nat} {f g : FR} (hf : Bn k f) (hg : Bn j g) (pf : 0 < f.2) (pg : 0 < g.2) : Bn (k + j + 1) (subL f g) := by
  refine Bn.low (Int.mul_ne_zero (by omega) (by omega)) ?_ ?_
  · have h1 : (f.1 * g.2).natAbs < 2 ^ (k + j) := by rw [Int.natAbs_mul]; exact pow_mul_lt hf.1 hg.2
    have h2 : (g.1 * f.2).natAbs < 2 ^ (k + j) := by rw [Int.natAbs_mul, Nat.mul_comm]; exact pow_mul_lt hf.2 hg.1
    have := Int.natAbs_sub_le (f.1 * g.2) (g.1 * f.2)
    rw [Nat.pow_succ]
    omega
  · have h1 : (f.2 * g.2).natAbs < 2 ^ (k + j) := by rw [Int.natAbs_mul]; exact pow_mul_lt hf.2 hg.2
    rw [Nat.pow_succ]
    omega
theorem Bn.mul {k j : Nat} {f g : FR} (hf : Bn k f) (hg : Bn j g) (pf : 0 < f.2) (pg : 0 < g.2) : Bn (k + j) (mulL f g) :=
  Bn.low (Int.mul_ne_zero (by omega) (by omega)) (by rw [Int.natAbs_mul]; exact pow_mul_lt hf.1 hg.1) (by rw [Int.natAbs_mul]; exact pow_mul_lt hf.2 hg.2)
theorem Bn.neg {k : Nat} {f : FR} (h : Bn k f) : Bn k (negF f) := ⟨by show (-f.1).natAbs < _; rw [Int.natAbs_neg]; exact h.1, h.2⟩
def bw (f : FR) : Nat := f.1.natAbs.log2 + f.2.natAbs.log2 + 1
theorem bw_bn (f : FR) : Bn (bw f) f := by
  have key : ∀ n : Nat, n < 2 ^ (n.log2 + 1) := fun n => Nat.lt_log2_self
  exact ⟨Nat.lt_of_lt_of_le (key _) (Nat.pow_le_pow_right (by decide) (by unfold bw; omega)), Nat.lt_of_lt_of_le (key _) (Nat.pow_le_pow_right (by decide) (by unfold bw; omega))⟩
def wIt (l : List It) : Nat := (l.map fun it => bw it.2 + 1).sum
theorem sumX_bn (x : List Nat) : ∀ (l : List It) (acc : FR) (k : Nat), Nf acc → Bn k acc → (∀ it ∈ l, Nf it.2) → Bn (k + wIt l) (sumX x acc l)
  | [], _, _, _, h, _ => h
  | it :: l, acc, k, hn, h, hl => by
    have h1 := hl it List.mem_cons_self
    have e : k + wIt (it :: l) = k + bw it.2 + 1 + wIt l := by
      unfold wIt
      rw [List.map_cons, List.sum_cons]
      omega
    rw [e]
    show Bn _ (sumX x (if it.1 = x then addL acc it.2 else acc) l)
    have hl' : ∀ i ∈ l, Nf i.2 := fun i hi => hl i (List.mem_cons_of_mem _ hi)
    split
    · exact sumX_bn x l _ _ (addL_nf hn.1 h1.1) (Bn.add h (bw_bn _) hn.1 h1.1) hl'
    · exact sumX_bn x l _ _ hn (h.mono (by omega)) hl'
theorem bn_01 : Bn 1 (0, 1) := ⟨by decide, by decide⟩
theorem log_bn {k : Nat} {z : Int} (h : z.natAbs < 2 ^ k) (hk : k ≤ 4096) : z.natAbs.log2 < 4096 ∨ z = 0 := by
  by_cases h0 : z.natAbs = 0
  · exact .inr (by omega)
  · exact .inl ((Nat.log2_lt h0).mpr (Nat.lt_of_lt_of_le h (Nat.pow_le_pow_right (by decide) hk)))
theorem log_lt {k : Nat} {n : Nat} (h : n < 2 ^ k) (hk : 0 < k) : n.log2 < k := by
  by_cases h0 : n = 0
  · rw [h0, Nat.log2_zero]
    exact hk
  · exact (Nat.log2_lt h0).mpr h
/-! ### walks over the keys of a dict -/
theorem for_keys {d : Addr} {od : Obj} {kvs : List (Key × V)} {g : TG} {tb : TS} {D : Ends} {σ : L2.St} {H : Hp} (Pv : Nat → L2.St → Hp → Prop) (h0 : Pv 0 σ H) (hf : ∀ i σ H, Pv i σ H → H d = some (.frz od (.dK kvs)))
    (hs : ∀ i k v σ H, kvs[i]? = some (k, v) → Pv i σ H → g (kV k) σ H fun σ2 H2 => tb { nx := Pv (i + 1), rt := D.rt, bk := D.nx, ct := Pv (i + 1) } σ2 H2) (hd : ∀ σ H, Pv kvs.length σ H → D.nx σ H) :
    ∃ W : Nat → Nat → L2.St → Hp → Prop, (∃ m, W 0 m σ H) ∧ ∀ i m σ H, W i m σ H →
      ((Itk d od kvs).stop i H ∧ D.nx σ H) ∨ ((Itk d od kvs).go i H ∧ ∃ N : L2.St → Hp → Prop, (∀ σ' H', N σ' H' → ∃ m', m' < m ∧ W (i + 1) m' σ' H') ∧ ∀ x H', (Itk d od kvs).yld i H x H' → g x σ H' fun σ2 H2 => tb { nx := N, rt := D.rt, bk := D.nx, ct := N } σ2 H2) := by
  refine ⟨fun i m σ H => m = kvs.length - i ∧ i ≤ kvs.length ∧ Pv i σ H, ⟨_, rfl, Nat.zero_le _, h0⟩, ?_⟩
  rintro i m σ H ⟨rfl, hi, p⟩
  by_cases hlt : i < kvs.length
  · refine .inr ⟨⟨hf _ _ _ p, hlt⟩, Pv (i + 1), fun σ' H' p' => ⟨kvs.length - (i + 1), by omega, rfl, hlt, p'⟩, fun y H' q => ?_⟩
    obtain ⟨e, k, v, hc, ev⟩ := q
    subst e ev
    exact hs i k v _ _ hc p
  · have e : i = kvs.length := by omega
    subst e
    exact .inl ⟨⟨hf _ _ _ p, Nat.le_refl _⟩, hd _ _ p⟩
theorem lc_keys {d : Addr} {od : Obj} {kvs : List (Key × V)} {g : TG} {tt : L2.TT} {te : TE} {vs : List Nat} {σ : L2.St} {H1 : Hp} {D : Addr} {Qd : Hp → Prop} (Pv : Nat → Hp → Prop) (h0 : Pv 0 (upd H1 D (.lst []))) (hf : ∀ i H, Pv i H → H d = some (.frz od (.dK kvs)))
    (hs : ∀ i k v H, kvs[i]? = some (k, v) → Pv i H → g (kV k) (wipe σ vs) H fun σ2 H2 => wipe σ2 vs = wipe σ vs ∧ tt σ2 H2 fun b H3 =>
      if b = true then te σ2 H3 fun y H4 => ∃ acc, H4 D = some (.lst acc) ∧ acc.length < sizeLine ∧ Pv (i + 1) (upd H4 D (.lst (acc ++ [y]))) else Pv (i + 1) H3) (hd : ∀ H, Pv kvs.length H → Qd H) :
    ∃ W : Nat → Nat → Hp → Prop, (∃ m, W 0 m (upd H1 D (.lst []))) ∧ ∀ i m H, W i m H →
      ((Itk d od kvs).stop i H ∧ Qd H) ∨ ((Itk d od kvs).go i H ∧ ∃ Nx : Hp → Prop, (∀ H', Nx H' → ∃ m', m' < m ∧ W (i + 1) m' H') ∧ ∀ y H', (Itk d od kvs).yld i H y H' → g y (wipe σ vs) H' fun σ2 H2 => wipe σ2 vs = wipe σ vs ∧ tt σ2 H2 fun b H3 =>
        if b = true then te σ2 H3 fun y H4 => ∃ acc, H4 D = some (.lst acc) ∧ acc.length < sizeLine ∧ Nx (upd H4 D (.lst (acc ++ [y]))) else Nx H3) := by
  refine ⟨fun i m H => m = kvs.length - i ∧ i ≤ kvs.length ∧ Pv i H, ⟨_, rfl, Nat.zero_le _, h0⟩, ?_⟩
  rintro i m H ⟨rfl, hi, p⟩
  by_cases hlt : i < kvs.length
  · refine .inr ⟨⟨hf _ _ p, hlt⟩, Pv (i + 1), fun H' p' => ⟨kvs.length - (i + 1), by omega, rfl, hlt, p'⟩, fun y H' q => ?_⟩
    obtain ⟨e, k, v, hc, ev⟩ := q
    subst e ev
    exact hs i k v _ hc p
  · have e : i = kvs.length := by omega
    subst e
    exact .inl ⟨⟨hf _ _ p, Nat.le_refl _⟩, hd _ p⟩
/-- all but what stands at b -/
def Ex (b : Addr) (H G : Hp) : Prop := ∀ c o, H c = some o → c ≠ b → G c = some o
theorem Ex.same {H G G' : Hp} {b : Addr} (h : Ex b H G) (s : Same G G') : Ex b H G' := fun c o e n => s _ _ (h c o e n)
theorem Ex.back {H G : Hp} {b : Addr} {u : HO} (h : Ex b H G) (hb : H b = some u) : Same H (upd G b u) := fun c o e => by
  by_cases n : c = b
  · subst n
    rw [hb] at e
    cases e
    exact upd_same
  · rw [upd_ne n]
    exact h c o e n
theorem Ex.upd {H G : Hp} {b d : Addr} {u : HO} (h : Ex b H G) (nd : H d = none) : Ex b H (upd G d u) := fun c o e n => by
  rw [upd_ne (ne_of_none e nd)]
  exact h c o e n
theorem not_take {N : List (List Nat)} (h : N.Nodup) {i : Nat} {x : List Nat} (e : N[i]? = some x) : x ∉ N.take i := fun m => by
  obtain ⟨j, ej⟩ := List.mem_iff_getElem?.mp m
  have hj := (List.getElem?_eq_some_iff.mp ej).1
  rw [List.length_take] at hj
  rw [List.getElem?_take_of_lt (by omega)] at ej
  obtain ⟨hi, ei⟩ := List.getElem?_eq_some_iff.mp e
  obtain ⟨hj2, ej2⟩ := List.getElem?_eq_some_iff.mp ej
  exact (List.pairwise_iff_getElem.mp h) j i hj2 hi (by omega) (by rw [ei, ej2])
theorem lcmF_app (u : Int) : ∀ l r : List FR, lcmF u (l ++ r) = lcmF (lcmF u l) r := fun l r => by
  induction l generalizing u with
  | nil => rfl
  | cons f l ih => exact ih _
theorem gcdF_app (L g : Int) : ∀ l r : List FR, gcdF L g (l ++ r) = gcdF L (gcdF L g l) r := fun l r => by
  induction l generalizing g with
  | nil => rfl
  | cons f l ih => exact ih _
theorem gcdF_nn (L : Int) : ∀ (rs : List FR) (g : Int), 0 ≤ g → 0 ≤ gcdF L g rs
  | [], _, h => h
  | _ :: r, _, _ => gcdF_nn L r _ (Int.natCast_nonneg _)
def BdF (f : FR) : Prop := Bn 800 f ∧ 0 < f.2
abbrev frP (f : FR) : PyData := .tuple [.int f.1, .int f.2]
abbrev tmP (t : List Nat × FR) : PyData := .tuple [.str (SX.S t.1), frP t.2]
abbrev tieP (tl : List (List Nat × FR)) (b : FR) : PyData := .tuple [.tuple (tl.map tmP), frP b]
def rts (tl : List (List Nat × FR)) : List FR := tl.map (·.2)
def redL (tl : List (List Nat × FR)) : List (List Nat × FR) := tl.map fun t => (t.1, redF (scl (rts tl)) t.2)
abbrev redP (tl : List (List Nat × FR)) (b : FR) : PyData := tieP (redL tl) (redF (scl (rts tl)) b)
def TlOk (tl : List (List Nat × FR)) : Prop := (tl.length = 1 ∨ tl.length = 2) ∧ ∀ t ∈ tl, t.2.1 ≠ 0 ∧ BdF t.2 ∧ t.1.length ≤ 7
theorem TlOk.rs {tl : List (List Nat × FR)} (h : TlOk tl) : RsOk (rts tl) := by
  refine ⟨fun z => ?_, fun f hf => ?_⟩
  · cases tl with
    | nil => have := h.1; simp at this
    | cons t r => cases z
  · obtain ⟨t, ht, rfl⟩ := List.mem_map.mp hf
    exact ⟨(h.2 t ht).2.1.2, (h.2 t ht).1⟩
theorem step_le {u d : Int} (hu : 0 < u) (hd : 0 < d) : (u * d).fdiv (Int.gcd u d : Nat) ≤ u * d := by
  have gp : 0 < Int.gcd u d := gcd_pos (by omega)
  have h := Int.mul_pos hu hd
  rw [Int.fdiv_eq_ediv_of_nonneg _ (by omega)]
  exact Int.ediv_le_self _ (by omega)
theorem tl_sizes {tl : List (List Nat × FR)} (h : TlOk tl) : ∀ i, 0 < lcmF 1 (rts (tl.take i)) ∧ (lcmF 1 (rts (tl.take i))).natAbs < 2 ^ 1600 := fun i => by
  have hd : ∀ f ∈ rts (tl.take i), 0 < f.2 ∧ f.2.natAbs < 2 ^ 800 := fun f hf => by
    obtain ⟨t, ht, rfl⟩ := List.mem_map.mp hf
    have := (h.2 t (List.mem_of_mem_take ht)).2.1
    exact ⟨this.2, this.1.2⟩
  have hl : (rts (tl.take i)).length ≤ 2 := by
    unfold rts
    rw [List.length_map, List.length_take]
    have := h.1
    omega
  refine ⟨(lcmF_ok _ 1 (by decide) fun f hf => (hd f hf).1).1, ?_⟩
  have one : ∀ f : FR, 0 < f.2 → (1 * f.2).fdiv (Int.gcd 1 f.2 : Nat) = f.2 := fun f _ => by
    rw [Int.one_mul, Int.gcd_comm, Int.gcd_one_right]
    exact Int.fdiv_one _
  match rts (tl.take i), hl, hd with
  | [], _, _ => exact Nat.lt_of_lt_of_le (show 1 < 2 ^ 1 by decide) (Nat.pow_le_pow_right (by decide) (by decide))
  | [f], _, hd =>
    show ((1 * f.2).fdiv _).natAbs < _
    rw [one f (hd f List.mem_cons_self).1]
    exact Nat.lt_of_lt_of_le (hd f List.mem_cons_self).2 (Nat.pow_le_pow_right (by decide) (by decide))
  | [f, g], _, hd =>
    show ((((1 * f.2).fdiv (Int.gcd 1 f.2 : Nat)) * g.2).fdiv (Int.gcd ((1 * f.2).fdiv (Int.gcd 1 f.2 : Nat)) g.2 : Nat)).natAbs < _
    have hf := hd f List.mem_cons_self
    have hg := hd g (List.mem_cons_of_mem _ List.mem_cons_self)
    rw [one f hf.1]
    have h1 := step_le hf.1 hg.1
    have h2 : 0 ≤ (f.2 * g.2).fdiv (Int.gcd f.2 g.2 : Nat) := by
      have := Int.mul_pos hf.1 hg.1
      rw [Int.fdiv_eq_ediv_of_nonneg _ (by omega)]
      exact Int.ediv_nonneg (by omega) (by omega)
    have h3 : (f.2 * g.2).natAbs < 2 ^ (800 + 800) := by rw [Int.natAbs_mul]; exact pow_mul_lt hf.2 hg.2
    exact Nat.lt_of_le_of_lt (show ((f.2 * g.2).fdiv (Int.gcd f.2 g.2 : Nat)).natAbs ≤ (f.2 * g.2).natAbs by omega) h3
  | _ :: _ :: _ :: _, h, _ => simp at h
theorem lcm_first {t : List Nat × FR} {r : List (List Nat × FR)} (h : TlOk (t :: r)) : ∃ e : Nat, e < 2 ^ 800 ∧ (lcmF 1 (rts (t :: r))).natAbs ≤ t.2.2.natAbs * e := by
  have one : ∀ f : FR, 0 < f.2 → (1 * f.2).fdiv (Int.gcd 1 f.2 : Nat) = f.2 := fun f _ => by
    rw [Int.one_mul, Int.gcd_comm, Int.gcd_one_right]
    exact Int.fdiv_one _
  have ht := (h.2 t List.mem_cons_self).2.1
  match r, h with
  | [], h =>
    refine ⟨1, Nat.lt_of_lt_of_le (show 1 < 2 ^ 1 by decide) (Nat.pow_le_pow_right (by decide) (by decide)), ?_⟩
    show ((1 * t.2.2).fdiv _).natAbs ≤ _
    rw [one t.2 ht.2, Nat.mul_one]
    exact Nat.le_refl _
  | [g], h =>
    have hg := (h.2 g (List.mem_cons_of_mem _ List.mem_cons_self)).2.1
    refine ⟨g.2.2.natAbs, hg.1.2, ?_⟩
    show ((((1 * t.2.2).fdiv (Int.gcd 1 t.2.2 : Nat)) * g.2.2).fdiv (Int.gcd ((1 * t.2.2).fdiv (Int.gcd 1 t.2.2 : Nat)) g.2.2 : Nat)).natAbs ≤ _
    rw [one t.2 ht.2, ← Int.natAbs_mul]
    have h1 := step_le ht.2 hg.2
    have h2 : 0 ≤ (t.2.2 * g.2.2).fdiv (Int.gcd t.2.2 g.2.2 : Nat) := by
      have := Int.mul_pos ht.2 hg.2
      rw [Int.fdiv_eq_ediv_of_nonneg _ (by omega)]
      exact Int.ediv_nonneg (by omega) (by omega)
    omega
  | _ :: _ :: _, h => exact absurd h.1 (by simp)
theorem scl_ok {tl : List (List Nat × FR)} (h : TlOk tl) : 0 < lcmF 1 (rts tl) ∧ (lcmF 1 (rts tl)).natAbs < 2 ^ 1600 ∧ 0 < gcdF (lcmF 1 (rts tl)) 0 (rts tl) ∧ (gcdF (lcmF 1 (rts tl)) 0 (rts tl)).natAbs < 2 ^ 1600 := by
  obtain ⟨L, G, Lp, Gp, eL, eG, m, hm, hg⟩ := red_facts h.rs
  have s := tl_sizes h tl.length
  rw [List.take_length] at s
  rw [eL] at s ⊢
  rw [eG]
  refine ⟨Lp, s.2, Gp, ?_⟩
  obtain ⟨t, r, rfl⟩ : ∃ t r, tl = t :: r := by
    cases tl with
    | nil => have := h.1; simp at this
    | cons t r => exact ⟨t, r, rfl⟩
  obtain ⟨e0, he0, hL⟩ := lcm_first h
  rw [eL] at hL
  have e := hm t.2 List.mem_cons_self
  have ht := h.2 t List.mem_cons_self
  have e2 : L.natAbs * t.2.1.natAbs = (m t.2 * t.2.2).natAbs * G.natAbs := by
    rw [← Int.natAbs_mul, ← Int.natAbs_mul, ← e, Int.mul_right_comm]
  have ne : (m t.2 * t.2.2).natAbs ≠ 0 := fun z => by
    rw [z, Nat.zero_mul] at e2
    have := Nat.mul_eq_zero.mp e2
    have := ht.1
    omega
  rw [Int.natAbs_mul] at e2 ne
  have mp : 0 < (m t.2).natAbs := Nat.pos_of_ne_zero fun z => ne (by rw [z, Nat.zero_mul])
  have dp : 0 < t.2.2.natAbs := Nat.pos_of_ne_zero fun z => ne (by rw [z, Nat.mul_zero])
  have h1 : t.2.2.natAbs * G.natAbs ≤ t.2.2.natAbs * (e0 * t.2.1.natAbs) := by
    refine Nat.le_trans ?_ (show L.natAbs * t.2.1.natAbs ≤ _ from Nat.le_trans (Nat.mul_le_mul_right _ hL) (Nat.le_of_eq (Nat.mul_assoc _ _ _)))
    rw [e2, Nat.mul_assoc]
    exact Nat.le_mul_of_pos_left _ mp
  have h2 := Nat.le_of_mul_le_mul_left h1 dp
  exact Nat.lt_of_le_of_lt h2 (pow_mul_lt (k := 800) (j := 800) he0 ht.2.1.1.1)
theorem scl_sm {tl : List (List Nat × FR)} (h : TlOk tl) : Bn 1600 (scl (rts tl)) ∧ 0 < (scl (rts tl)).2 ∧ 0 < (scl (rts tl)).1 := by
  obtain ⟨h1, h2, h3, h4⟩ := scl_ok h
  unfold scl lowF
  generalize lcmF 1 (rts tl) = L at *
  generalize gcdF L 0 (rts tl) = G at *
  have d := lowD_pos (u := L) (v := G) (by omega)
  have e := lowT_self (u := L) (v := G) (by omega)
  refine ⟨Bn.low (by omega) h2 h4, d, ?_⟩
  show 0 < lowT L G
  have := Int.mul_pos h1 d
  rw [← e] at this
  rcases Int.lt_trichotomy (lowT L G) 0 with h | h | h
  · have := Int.mul_neg_of_neg_of_pos h h3
    omega
  · rw [h, Int.zero_mul] at this
    omega
  · exact h
section
variable {P : Program} {w : World} {K : PySem.W.Frag} {mg : Str → Option Value} {base : Heap} {fa : Nat → Addr} {fd : Nat → FuncData}
theorem low_mul_bd {f g : FR} {k m : Nat} (hf : Bn k f) (hg : Bn m g) (hk : k + m ≤ 4096) (h : f.2 * g.2 ≠ 0) : Bd (lowT (f.1 * g.1) (f.2 * g.2)) ∧ Bd (lowD (f.1 * g.1) (f.2 * g.2)) := by
  have mm : ∀ {x y : Int}, x.natAbs < 2 ^ k → y.natAbs < 2 ^ m → (x * y).natAbs < 2 ^ 4096 := fun hx hy => by
    rw [Int.natAbs_mul]
    exact Nat.lt_of_lt_of_le (pow_mul_lt hx hy) (Nat.pow_le_pow_right (by decide) hk)
  exact ⟨log_lt (Nat.lt_of_le_of_lt (lowT_abs h) (mm hf.1 hg.1)) (by decide), log_lt (Nat.lt_of_le_of_lt (lowD_abs h) (mm hf.2 hg.2)) (by decide)⟩
theorem bd_bn {z : Int} {k : Nat} (h : z.natAbs < 2 ^ k) (hk : k ≤ 4096) : Bd z := log_lt (Nat.lt_of_lt_of_le h (Nat.pow_le_pow_right (by decide) hk)) (by decide)
theorem dt_fr {z : Addr} {H : Hp} {v : V} {f : FR} (h : Dt z H v (frP f)) : ∃ p, v = .ref p ∧ H p = some (.tup [.int f.1, .int f.2]) := by
  match v, h with
  | _, .tup hp (.cons (.int _ _) (.cons (.int _ _) .nil)) => exact ⟨_, rfl, hp⟩
theorem noLs_tm : ∀ l : List (List Nat × FR), noLs (l.map tmP) = true
  | [] => rfl
  | _ :: l => by
    show (true && noLs (l.map tmP)) = true
    rw [noLs_tm l]
    rfl
def spReduced : Sp := fun vs H Q _ => ∃ v tl b z, vs = [v] ∧ Dt z H v (tieP tl b) ∧ TlOk tl ∧ BdF b ∧ ∀ v' H', Same H H' → Dt z H' v' (redP tl b) → Q v' H'
end
/-! ### what is no tie -/
def BadL : List PyData → Prop
  | [] => True
  | d :: ds => tieD d = false ∧ BadL ds
theorem BadL.mem : ∀ {ds : List PyData} {d : PyData}, BadL ds → d ∈ ds → tieD d = false
  | _ :: _, _, h, e => by
    rcases List.mem_cons.mp e with rfl | e
    · exact h.1
    · exact BadL.mem h.2 e
def BadAll (z : Addr) (H : Hp) (vs : List V) : Prop := ∀ v ∈ vs, ∃ d, Dt z H v d ∧ tieD d = false
theorem badAll {z : Addr} {H : Hp} {vs : List V} {ds : List PyData} (all : DtAll z H vs ds) (h : BadL ds) : BadAll z H vs := fun v hv => by
  obtain ⟨d, hd, k⟩ := all.mem hv
  exact ⟨d, k, h.mem hd⟩
theorem BadAll.same {z : Addr} {H H' : Hp} {vs : List V} (h : BadAll z H vs) (s : Same H H') : BadAll z H' vs := fun v hv => by
  obtain ⟨d, k, e⟩ := h v hv
  exact ⟨d, k.same s, e⟩
theorem BadAll.app {z : Addr} {H : Hp} {vs us : List V} (h : BadAll z H vs) (k : BadAll z H us) : BadAll z H (vs ++ us) := fun v hv => by
  rcases List.mem_append.mp hv with e | e
  · exact h v e
  · exact k v e
theorem bad_rat {t b : PyData} (h : ratD b = false) : tieD (.tuple [t, b]) = false := by
  show (termsD t && ratD b) = false
  rw [h, Bool.and_false]
theorem bad_one {s b : PyData} (h : termD s = false) : tieD (.tuple [.tuple [s], b]) = false := by
  show (termD s && ratD b) = false
  rw [h]
  rfl
theorem bad_name {n r b : PyData} (h : nameD n = false) : tieD (.tuple [.tuple [.tuple [n, r]], b]) = false := bad_one (by
  show (nameD n && ratD r && nonz r) = false
  rw [h]
  rfl)
theorem bad_rate {n r b : PyData} (h : (ratD r && nonz r) = false) : tieD (.tuple [.tuple [.tuple [n, r]], b]) = false := bad_one (by
  show (nameD n && ratD r && nonz r) = false
  rw [Bool.and_assoc, h, Bool.and_false])
theorem bad_order {x y : Str} {r s b : PyData} (h : decide (x.cps.toList < y.cps.toList) = false) : tieD (.tuple [.tuple [.tuple [.str x, r], .tuple [.str y, s]], b]) = false := by
  show ((_ && _ && decide (x.cps.toList < y.cps.toList)) && _) = false
  rw [h, Bool.and_false]
  rfl
theorem bad_terms {ts : List (Str × PyData)} (h : ts.length = 1 ∨ ts.length = 2) : tieD (trmD ts) = false := by
  match ts, h with
  | [_], _ => rfl
  | [_, _], _ => rfl
  | [], h => simp at h
  | _ :: _ :: _ :: _, h => simp at h
theorem ltCps_self : ∀ x : List Nat, ltCps x x = false
  | [] => rfl
  | a :: r => by
    unfold ltCps
    rw [ltCps_self r, decide_eq_false (Nat.lt_irrefl a), Bool.and_false]
    rfl
theorem quotes (x : List Nat) : nameB (x ++ [39, 39]) = false := by
  have e : cutQ (x ++ [39, 39]) = x ++ [39] := by
    unfold cutQ
    have e1 : x ++ [39, 39] = (x ++ [39]) ++ [39] := by simp
    rw [e1, List.getLast?_append, List.getLast?_singleton, Option.some_or, if_pos rfl, List.dropLast_concat]
  unfold nameB letB
  rw [e, List.all_append]
  simp [lowc]
theorem catNew {z : Addr} {H : Hp} {p : Addr} {us vs : List V} {ds : List PyData} (n : H p = none) (all : DtAll z H vs ds) (hb : BadAll z H us) (h : BadL ds) : Same H (L2.upd H p (.lst (us ++ vs))) ∧ BadAll z (L2.upd H p (.lst (us ++ vs))) (us ++ vs) :=
  ⟨same_upd n, (hb.app (badAll all h)).same (same_upd n)⟩
section
variable {P : Program} {w : World} {K : PySem.W.Frag} {mg : Str → Option Value} {base : Heap} {fa : Nat → Addr} {fd : Nat → FuncData}
theorem termD_pair (n r : PyData) : termD (.tuple [n, r]) = (nameD n && (ratD r && nonz r)) := Bool.and_assoc _ _ _
theorem ok_p_is_term (T : Txt K mg fa fd) : FnOk P w K mg base CX0 3 (fa 94) (fd 94) ["thing"] (spD termD) := by
  refine T.F_p_is_term.ok sc_p_is_term (fun vs H Q E h => ?_) (fun cdv A outer s H vs Q E hr h => ?_)
  · obtain ⟨v, d, _, rfl, _⟩ := h
    rfl
  · obtain ⟨v, d, z, rfl, hv, q⟩ := h
    refine ⟨_, (pss_cons (ps_if (PW.pt (pw_or (pt_not (pt_val (pe_callB call_isi (by rfl) T.m_isinstance PyProof.Rows.boot_isinstance (pa_cons (pv 0) (pa_cons (pe_bltn (v := .ty "tuple") (by rfl) T.m_tuple (by decide +kernel) rfl) pa_nil))))) (pw_or1 (pt_cmpR op_ne (pe_callB call_len_seq (by rfl) T.m_len PySem.boot_len (pa_cons (pv 0) pa_nil)) pe_int (nomark _))))) (pss_one (ps_ret pe_bl)) pss_nil)
      (pss_one (ps_ret (pe_and (pe_call (ok_p_is_name T) (hr.mono (by decide)) (by rfl) T.g_p_is_name T.F_p_is_name.kp T.b_p_is_name .nil pass0 (pa_cons (pe_ix ix_tup (pv 0) pe_int (fun _ _ => rfl)) pa_nil)) (pe_and (pe_call (ok_p_is_ratio T) (hr.mono (by decide)) (by rfl) T.g_p_is_ratio T.F_p_is_ratio.kp T.b_p_is_ratio .nil pass0 (pa_cons (pe_ix ix_tup (pv 0) pe_int (fun _ _ => rfl)) pa_nil)) (pe_one (pe_cmpR op_ne (pe_ix ix_tup (pe_ix ix_tup (pv 0) pe_int (fun _ _ => rfl)) pe_int (fun _ _ => rfl)) pe_int (nomark _)))))))), ?_⟩
    refine ⟨_, rfl, _, _, _, _, _, rfl, .ty _, .base hv.ty, kit_ty kitTup, _, rfl, ?_⟩
    rcases hv.split with e | ⟨p, xs, ds, rfl, rfl, hp, hs⟩
    · rw [e]
      refine iteT (iteT ?_)
      have : termD d = false := by cases d <;> first | rfl | cases e
      rw [this] at q
      exact q
    · refine iteF ⟨_, rfl, p, xs, rfl, .inr (SqT.of hp), rfl, _, rfl, ?_⟩
      rw [hs.len]
      match xs, ds, hs with
      | _, [], _ => exact iteT q
      | _, [x], _ => exact iteT q
      | _, x :: y :: z :: r, _ =>
        rw [decide_eq_false (by simp; omega)]
        exact iteT q
      | _, [d1, d2], .cons (v := x) h1 (.cons (v := y) h2 .nil) =>
        rw [decide_eq_true (show V.int (([d1, d2] : List PyData).length : Int) = V.int 2 from rfl)]
        rw [termD_pair] at q
        refine iteF ⟨_, rfl, p, _, _, _, rfl, rfl, SqT.of hp, rfl, x, d1, _, rfl, h1, _, rfl, ?_⟩
        cases e1 : nameD d1 with
        | false =>
          rw [e1] at q
          exact iteF q
        | true =>
          rw [e1, Bool.true_and] at q
          refine iteT ⟨_, rfl, p, _, _, _, rfl, rfl, SqT.of hp, rfl, y, d2, _, rfl, h2, _, rfl, ?_⟩
          cases e2 : ratD d2 with
          | false =>
            rw [e2] at q
            exact iteF q
          | true =>
            rw [e2, Bool.true_and] at q
            obtain ⟨t, u, rfl⟩ := ratD_inv e2
            match y, h2 with
            | _, .tup hy (.cons (.int _ _) (.cons (.int _ _) .nil)) =>
              refine iteT ⟨_, rfl, p, _, _, _, rfl, rfl, SqT.of hp, rfl, _, _, _, _, rfl, rfl, SqT.of hy, rfl, rfl, ?_⟩
              have e : (!decide (V.int t = V.int 0)) = nonz (.tuple [.int t, .int u]) := by
                show _ = decide (t ≠ 0)
                by_cases h : t = 0
                · subst h
                  rfl
                · rw [decide_eq_false (fun z => h (V.int.inj z)), decide_eq_true h]
                  rfl
              rw [e]
              exact q
end
section
variable {P : Program} {w : World} {K : PySem.W.Frag} {mg : Str → Option Value} {base : Heap} {fa : Nat → Addr} {fd : Nat → FuncData}
def spDs (f : PyData → Bool) : Sp := fun vs H Q _ => ∃ v d z, vs = [v] ∧ Dt z H v d ∧ ∀ H', Same H H' → Q (.bl (f d)) H'
theorem termD_inv {d : PyData} (h : termD d = true) : ∃ n r, d = .tuple [.str n, r] := by
  unfold termD at h
  split at h
  · rename_i n r
    rw [Bool.and_eq_true, Bool.and_eq_true] at h
    have h1 := h.1.1
    unfold nameD at h1
    split at h1
    · exact ⟨_, _, rfl⟩
    · cases h1
  · cases h
theorem ok_p_are_terms (T : Txt K mg fa fd) : FnOk P w K mg base CX0 4 (fa 95) (fd 95) ["thing"] (spDs termsD) := by
  refine T.F_p_are_terms.ok sc_p_are_terms (fun vs H Q E h => ?_) (fun cdv A outer s H vs Q E hr h => ?_)
  · obtain ⟨v, d, _, rfl, _⟩ := h
    rfl
  · obtain ⟨v, d, z, rfl, hv, q⟩ := h
    refine ⟨_, (pss_cons (ps_if (PW.pt (pw_or (pt_not (pt_val (pe_callB call_isi (by rfl) T.m_isinstance PyProof.Rows.boot_isinstance (pa_cons (pv 0) (pa_cons (pe_bltn (v := .ty "tuple") (by rfl) T.m_tuple (by decide +kernel) rfl) pa_nil))))) (pw_or1 (pt_cmpR op_notIn_seq (pe_callB call_len_seq (by rfl) T.m_len PySem.boot_len (pa_cons (pv 0) pa_nil)) (pe_tup (pa_cons pe_int (pa_cons pe_int pa_nil))) (by rfl))))) (pss_one (ps_ret pe_bl)) pss_nil)
      (pss_cons (ps_if (pt_not (pt_val (pe_callB (cr_all rfl) (by rfl) T.m_all PyProof.Rows.boot_all (pa_cons (pe_lc (own := [("term", 1)]) (g := gName 1) (tt := tYes) rfl sc_p_are_terms.nd (pi_tup (pv 0)) (blkOk_by (own := [("term", 1)]) (N := ["thing", "term"]) (sc := defScope s_p_are_terms) (by decide +kernel)) (fun _ _ _ _ _ => pg_name (i := 1) sc_p_are_terms.nd rfl (Or.inl rfl)) (fun _ _ _ _ _ => pts_nil) (fun _ _ _ _ _ => (pe_call (ok_p_is_term T) (hr.mono (by decide)) (by rfl) T.g_p_is_term T.F_p_is_term.kp T.b_p_is_term .nil pass0 (pa_cons (pv 1) pa_nil)))) pa_nil)))) (pss_one (ps_ret pe_bl)) pss_nil)
      (pss_one (ps_ret (pe_or (pe_cmpR op_eq (pe_callB call_len_seq (by rfl) T.m_len PySem.boot_len (pa_cons (pv 0) pa_nil)) pe_int (nomark _)) (pe_one (pe_cmpR op_lt_str (pe_ix ix_tup (pe_ix ix_tup (pv 0) pe_int (fun _ _ => rfl)) pe_int (fun _ _ => rfl)) (pe_ix ix_tup (pe_ix ix_tup (pv 0) pe_int (fun _ _ => rfl)) pe_int (fun _ _ => rfl)) (nomark _)))))))), ?_⟩
    refine ⟨_, rfl, _, _, _, _, _, rfl, .ty _, .base hv.ty, kit_ty kitTup, _, rfl, ?_⟩
    rcases hv.split with e | ⟨p, xs, ds, rfl, rfl, hp, hs⟩
    · rw [e]
      refine iteT (iteT ?_)
      have q := q H (Same.refl _)
      have : termsD d = false := by cases d <;> first | rfl | cases e
      rw [this] at q
      exact q
    · refine iteF ⟨_, rfl, p, xs, rfl, .inr (SqT.of hp), two_line, fun p1 n1 => ⟨p1, _, rfl, .inr (SqT.of upd_same), rfl, rfl, _, rfl, ?_⟩⟩
      have s1 := same_upd (o := .tup [V.int 1, V.int 2]) n1
      generalize upd H p1 (.tup [V.int 1, V.int 2]) = H1 at s1
      have cnt : inV (V.int (xs.length : Int)) [V.int 1, V.int 2] = decide (ds.length = 1 ∨ ds.length = 2) := by
        rw [hs.len]
        match ds.length with
        | 0 => rfl
        | 1 => rfl
        | 2 => rfl
        | n + 3 =>
          rw [decide_eq_false (by omega)]
          have b1 : ((1 : Int) == ((n + 3 : Nat) : Int)) = false := beq_eq_false_iff_ne.mpr (by omega)
          have b2 : ((2 : Int) == ((n + 3 : Nat) : Int)) = false := beq_eq_false_iff_ne.mpr (by omega)
          show (((1 : Int) == ((n + 3 : Nat) : Int)) || (((2 : Int) == ((n + 3 : Nat) : Int)) || false)) = false
          rw [b1, b2]
          rfl
      show ite ((!inV (V.int (xs.length : Int)) [V.int 1, V.int 2]) = true) _ _
      rw [cnt]
      by_cases hl : ds.length = 1 ∨ ds.length = 2
      · rw [decide_eq_true hl]
        refine iteF ?_
        -- all
        refine ⟨_, rfl, p, rfl, ⟨_, SqT.of (s1 _ _ hp)⟩, fun D nD => ?_⟩
        have hs1 := hs.same s1
        have s2 : Same H (upd H1 D (.lst [])) := s1.trans (same_upd nD)
        refine lc_tup (K := K) (a := p) (xs := xs) (fun i H2 => Same H H2 ∧ H2 D = some (.lst (((ds.take i).map termD).map V.bl))) ⟨s2, upd_same⟩ (fun i H2 _ hq => SqT.of (hq.1 _ _ hp)) (fun i x H2 hx hq => ?_) (fun H2 hq => ?_)
        · obtain ⟨d, hd, hdt⟩ := DtAll.at i hs hx
          refine ⟨rfl, x, rfl, x, d, _, rfl, hdt.same hq.1, _, hq.2, ?_, ?_, ?_⟩
          · rw [List.length_map, List.length_map, List.length_take]
            exact small1000 (by omega)
          · exact fun b o e => by
              rw [upd_ne (ne_of_none (s1 _ _ e) nD)]
              exact hq.1 b o e
          · rw [upd_same, List.take_add_one, hd, List.map_append, List.map_append]
            rfl
        · rw [hs.len, List.take_length] at hq
          have hD := hq.2
          have s3 := hq.1
          refine ⟨D, _, rfl, .inl (.inl hD), _, rfl, ?_⟩
          have hp3 := s3 _ _ hp
          have hs3 := hs.same s3
          have q := q H2 s3
          cases e : ((ds.map termD).all id) with
          | false =>
            refine iteT ?_
            have : termsD (.tuple ds) = false := by
              match ds, hl, e with
              | [a], _, e => exact (Bool.and_true (termD a)).symm.trans e
              | [a, b], _, e =>
                have e : (termD a && (termD b && true)) = false := e
                rw [Bool.and_true] at e
                show (termD a && termD b && ltD a b) = false
                rw [e]
                rfl
              | _ :: _ :: _ :: _, h, _ => simp at h
            rw [this] at q
            exact q
          | true =>
            refine iteF ⟨_, rfl, p, _, rfl, .inr (SqT.of hp3), rfl, _, rfl, ?_⟩
            rw [hs3.len]
            match xs, ds, hl, e, hs3 with
            | [x], [a], _, e, _ =>
              have : termsD (.tuple [a]) = true := (Bool.and_true (termD a)).symm.trans e
              rw [this] at q
              exact iteT q
            | [x, y], [a, b], _, e, .cons h1 (.cons h2 .nil) =>
              have e : (termD a && (termD b && true)) = true := e
              rw [Bool.and_true, Bool.and_eq_true] at e
              obtain ⟨n1, r1, rfl⟩ := termD_inv e.1
              obtain ⟨n2, r2, rfl⟩ := termD_inv e.2
              match x, h1, y, h2 with
              | _, .tup hx (.cons (.str _ _) (.cons _ .nil)), _, .tup hy (.cons (.str _ _) (.cons _ .nil)) =>
                refine iteF ⟨_, rfl, p, _, _, _, rfl, rfl, SqT.of hp3, rfl, _, _, _, _, rfl, rfl, SqT.of hx, rfl, _, rfl, p, _, _, _, rfl, rfl, SqT.of hp3, rfl, _, _, _, _, rfl, rfl, SqT.of hy, rfl, _, _, rfl, rfl, ?_⟩
                have : termsD (.tuple [.tuple [.str n1, r1], .tuple [.str n2, r2]]) = decide (n1.cps.toList < n2.cps.toList) := by
                  show (_ && _ && _) = _
                  rw [e.1, e.2]
                  rfl
                rw [this] at q
                exact q
            | _, _ :: _ :: _ :: _, h, _, _ => simp at h
      · rw [decide_eq_false hl]
        refine iteT ?_
        have q := q H1 s1
        have : termsD (.tuple ds) = false := by
          match ds, hl with
          | [], _ => rfl
          | [_], h => exact absurd (.inl rfl) h
          | [_, _], h => exact absurd (.inr rfl) h
          | _ :: _ :: _ :: _, _ => rfl
        rw [this] at q
        exact q
end
section
variable {P : Program} {w : World} {K : PySem.W.Frag} {mg : Str → Option Value} {base : Heap} {fa : Nat → Addr} {fd : Nat → FuncData}
theorem ok_p_is_tie (T : Txt K mg fa fd) : FnOk P w K mg base CX0 5 (fa 96) (fd 96) ["thing"] (spDs tieD) := by
  refine T.F_p_is_tie.ok sc_p_is_tie (fun vs H Q E h => ?_) (fun cdv A outer s H vs Q E hr h => ?_)
  · obtain ⟨v, d, _, rfl, _⟩ := h
    rfl
  · obtain ⟨v, d, z, rfl, hv, q⟩ := h
    refine ⟨_, (pss_cons (ps_if (PW.pt (pw_or (pt_not (pt_val (pe_callB call_isi (by rfl) T.m_isinstance PyProof.Rows.boot_isinstance (pa_cons (pv 0) (pa_cons (pe_bltn (v := .ty "tuple") (by rfl) T.m_tuple (by decide +kernel) rfl) pa_nil))))) (pw_or1 (pt_cmpR op_ne (pe_callB call_len_seq (by rfl) T.m_len PySem.boot_len (pa_cons (pv 0) pa_nil)) pe_int (nomark _))))) (pss_one (ps_ret pe_bl)) pss_nil)
      (pss_one (ps_ret (pe_and (pe_call (ok_p_are_terms T) (hr.mono (by decide)) (by rfl) T.g_p_are_terms T.F_p_are_terms.kp T.b_p_are_terms .nil pass0 (pa_cons (pe_ix ix_tup (pv 0) pe_int (fun _ _ => rfl)) pa_nil)) (pe_one (pe_call (ok_p_is_ratio T) (hr.mono (by decide)) (by rfl) T.g_p_is_ratio T.F_p_is_ratio.kp T.b_p_is_ratio .nil pass0 (pa_cons (pe_ix ix_tup (pv 0) pe_int (fun _ _ => rfl)) pa_nil))))))), ?_⟩
    refine ⟨_, rfl, _, _, _, _, _, rfl, .ty _, .base hv.ty, kit_ty kitTup, _, rfl, ?_⟩
    rcases hv.split with e | ⟨p, xs, ds, rfl, rfl, hp, hs⟩
    · rw [e]
      refine iteT (iteT ?_)
      have q := q H (Same.refl _)
      have : tieD d = false := by cases d <;> first | rfl | cases e
      rw [this] at q
      exact q
    · refine iteF ⟨_, rfl, p, xs, rfl, .inr (SqT.of hp), rfl, _, rfl, ?_⟩
      rw [hs.len]
      have q0 := q H (Same.refl _)
      match xs, ds, hs with
      | _, [], _ => exact iteT q0
      | _, [x], _ => exact iteT q0
      | _, x :: y :: z :: r, _ =>
        rw [decide_eq_false (by simp; omega)]
        exact iteT q0
      | _, [d1, d2], .cons (v := x) h1 (.cons (v := y) h2 .nil) =>
        rw [decide_eq_true (show V.int (([d1, d2] : List PyData).length : Int) = V.int 2 from rfl)]
        refine iteF ⟨_, rfl, p, _, _, _, rfl, rfl, SqT.of hp, rfl, x, d1, _, rfl, h1, fun H1 s1 => ⟨_, rfl, ?_⟩⟩
        have q : Q (.bl (termsD d1 && ratD d2)) H1 := q H1 s1
        cases e1 : termsD d1 with
        | false =>
          rw [e1] at q
          exact iteF q
        | true =>
          rw [e1, Bool.true_and] at q
          exact iteT ⟨_, rfl, p, _, _, _, rfl, rfl, SqT.of (s1 _ _ hp), rfl, y, d2, _, rfl, h2.same s1, q⟩
def spNames : Sp := fun vs H Q _ => ∃ v ts b z, vs = [v] ∧ Dt z H v (.tuple [trmD ts, b]) ∧ ts.length ≤ 900 ∧ ∀ D H', H D = none → Same H H' → H' D = some (.lst (ts.map fun t => V.str t.1)) → Q (.ref D) H'
theorem ok_p_names_in (T : Txt K mg fa fd) : FnOk P w K mg base CX0 1 (fa 97) (fd 97) ["tie"] spNames := by
  refine T.F_p_names_in.ok sc_p_names_in (fun vs H Q E h => ?_) (fun cdv A outer s H vs Q E hr h => ?_)
  · obtain ⟨v, ts, b, _, rfl, _⟩ := h
    rfl
  · obtain ⟨v, ts, b, z, rfl, hv, hz, q⟩ := h
    refine ⟨_, (pss_one (ps_ret (pe_lc (own := [("name", 1), ("rate", 2)]) (g := gTup K 2 (gCons (gName 1) (gCons (gName 2) gNil))) (tt := tYes) rfl sc_p_names_in.nd (pi_tup (pe_ix ix_tup (pv 0) pe_int (fun _ _ => rfl))) (blkOk_by (own := [("name", 1), ("rate", 2)]) (N := ["tie", "name", "rate"]) (sc := defScope s_p_names_in) (by decide +kernel)) (fun _ _ _ _ _ => pg_tup rfl (pgs_cons (pg_name (i := 1) sc_p_names_in.nd rfl (Or.inl rfl)) (pgs_cons (pg_name (i := 2) sc_p_names_in.nd rfl (Or.inl rfl)) pgs_nil))) (fun _ _ _ _ _ => pts_nil) (fun _ _ _ _ _ => (pv 1))))), ?_⟩
    obtain ⟨p, t, y, xs, rfl, hp, ht, hts, _⟩ := tie_inv hv
    · refine ⟨_, rfl, p, _, _, _, rfl, rfl, SqT.of hp, rfl, t, rfl, ⟨_, SqT.of ht⟩, fun D nD => ?_⟩
      refine lc_tup (K := K) (a := t) (xs := xs) (fun i H2 => Same H H2 ∧ H2 D = some (.lst ((ts.take i).map fun t => V.str t.1))) ⟨same_upd nD, upd_same⟩ (fun i H2 _ hq => SqT.of (hq.1 _ _ ht)) (fun i x H2 hx hq => ?_) (fun H2 hq => ?_)
      · obtain ⟨d, hd, hdt⟩ := DtAll.at i hts hx
        rw [List.getElem?_map] at hd
        obtain ⟨⟨n, r⟩, he, rfl⟩ := Option.map_eq_some_iff.mp hd
        match x, hdt with
        | _, .tup (a := pp) hpp (.cons (.str _ _) (.cons _ .nil)) =>
          refine ⟨pp, _, rfl, .inl (.inl (hq.1 _ _ hpp)), rfl, _, _, rfl, _, _, rfl, rfl, rfl, _, rfl, _, hq.2, ?_, ?_, ?_⟩
          · rw [List.length_map, List.length_take]
            exact small1000 (by omega)
          · exact fun b o e => by
              rw [upd_ne (ne_of_none e nD)]
              exact hq.1 b o e
          · rw [upd_same, List.take_add_one, he, List.map_append]
            rfl
      · have e := hts.len
        rw [List.length_map] at e
        rw [e, List.take_length] at hq
        exact q D H2 nD hq.1 hq.2
end
/-! ### for i, x in enumerate(list) -/
theorem for_enum {K : PySem.W.Frag} {a : Addr} {xs : List V} {g : TG} {tb : TS} {D : Ends} {σ : L2.St} {H : Hp} (Pv : Nat → L2.St → Hp → Prop) (h0 : Pv 0 σ H) (hl : ∀ i σ H, i ≤ xs.length → Pv i σ H → SqL K H a xs)
    (hs : ∀ i x σ H T, xs[i]? = some x → Pv i σ H → H T = none → g (.ref T) σ (upd H T (.tup [.int (i : Nat), x])) fun σ2 H2 => tb { D with nx := Pv (i + 1), ct := Pv (i + 1), bk := D.nx } σ2 H2) (hd : ∀ σ H, Pv xs.length σ H → D.nx σ H) :
    ∃ W : Nat → Nat → L2.St → Hp → Prop, (∃ m, W 0 m σ H) ∧ ∀ i m σ H, W i m σ H →
      ((Ite K a).stop i H ∧ D.nx σ H) ∨ ((Ite K a).go i H ∧ ∃ N : L2.St → Hp → Prop, (∀ σ' H', N σ' H' → ∃ m', m' < m ∧ W (i + 1) m' σ' H') ∧ ∀ x H', (Ite K a).yld i H x H' → g x σ H' fun σ2 H2 => tb { D with nx := N, ct := N, bk := D.nx } σ2 H2) := by
  refine ⟨fun i m σ H => m + i = xs.length ∧ Pv i σ H, ⟨xs.length, rfl, h0⟩, ?_⟩
  intro i m σ H hw
  obtain ⟨hm, p⟩ := hw
  have q := hl i σ H (by omega) p
  cases m with
  | zero =>
    obtain rfl : i = xs.length := by omega
    exact .inl ⟨⟨xs, q, Nat.le_refl _⟩, hd σ H p⟩
  | succ m =>
    have lt : i < xs.length := by omega
    refine .inr ⟨⟨xs, xs[i], q, List.getElem?_eq_getElem lt⟩, Pv (i + 1), fun σ' H' p' => ⟨m, Nat.lt_succ_self m, by omega, p'⟩, fun v H' y => ?_⟩
    obtain ⟨T, x, rfl, nT, rfl, hx⟩ := y
    exact hs i x σ H T (hx xs q) p nT
/-! ### the first wrong name, the first wrong tie -/
def firstBad : Nat → List Str → List Str → Option Nat
  | _, _, [] => none
  | i, pre, x :: xs => if nameB x.cps.toList = true ∧ x ∉ pre then firstBad (i + 1) (pre ++ [x]) xs else some i
def optV : Option Nat → V
  | none => .non
  | some i => .int (i : Int)
def tieN : PyData → List Str
  | .tuple [.tuple ts, _] => ts.map fun t => match t with
    | .tuple (.str x :: _) => x
    | _ => Str.ofString ""
  | _ => []
def goodT (ns : List Str) (d : PyData) : Bool := tieD d && (tieN d).all fun x => decide (x ∈ ns)
def firstBadT (ns : List Str) : Nat → List PyData → Option Nat
  | _, [] => none
  | i, d :: ds => if goodT ns d = true then firstBadT ns (i + 1) ds else some i
theorem inV_strs (x : Str) : ∀ l : List Str, inV (V.str x) (l.map V.str) = decide (x ∈ l)
  | [] => rfl
  | y :: l => by
    show ((y == x) || inV (V.str x) (l.map V.str)) = _
    rw [inV_strs x l]
    by_cases h : y = x
    · subst h
      simp
    · have h2 : (y == x) = false := beq_eq_false_iff_ne.mpr h
      rw [h2, Bool.false_or]
      have h3 : ¬ x = y := fun z => h z.symm
      simp [h3]
theorem flat_strs : ∀ l : List Str, (l.map V.str).all flatV = true
  | [] => rfl
  | _ :: l => by
    show (true && (l.map V.str).all flatV) = true
    rw [flat_strs l]
    rfl
theorem cut_take (xs : List V) (i : Nat) (h : i ≤ xs.length) : cutV xs none (some (i : Int)) = xs.take i := by
  show (xs.drop 0).take (HT.sIx xs.length xs.length (some (i : Int)) - 0) = _
  rw [HT.sIx_nat, Nat.sub_zero, Nat.min_eq_left h]
  rfl
theorem SqL.sm {K : PySem.W.Frag} {H H' : Hp} {p : Addr} {xs : List V} (s : Same H H') (h : SqL K H p xs) : SqL K H' p xs := by
  rcases h with (q | ⟨o, q⟩) | q
  · exact .inl (.inl (s _ _ q))
  · exact .inl (.inr ⟨o, s _ _ q⟩)
  · exact .inr q
section
variable {P : Program} {w : World} {K : PySem.W.Frag} {mg : Str → Option Value} {base : Heap} {fa : Nat → Addr} {fd : Nat → FuncData}
def spFWN (K : PySem.W.Frag) : Sp := fun vs H Q _ => ∃ (L : Addr) (ns : List Str), vs = [.ref L] ∧ SqL K H L (ns.map V.str) ∧ ns.length ≤ 900 ∧ (∀ x ∈ ns, x.length ≤ 1000) ∧ ∀ H', Same H H' → Q (optV (firstBad 0 [] ns)) H'
theorem ok_p_first_wrong_name (T : Txt K mg fa fd) : FnOk P w K mg base CX0 3 (fa 145) (fd 145) ["names"] (spFWN K) := by
  refine T.F_p_first_wrong_name.ok sc_p_first_wrong_name (fun vs H Q E h => ?_) (fun cdv A outer s H vs Q E hr h => ?_)
  · obtain ⟨L, ns, rfl, _⟩ := h
    rfl
  · obtain ⟨L, ns, rfl, hL, hsz, hlen, q⟩ := h
    refine ⟨_, (pss_cons (ps_for PassesOwn.never rfl (pi_enum (by rfl) T.m_enumerate (pa_cons (pv 0) pa_nil)) (pg_tup (by rfl) (pgs_cons (pg_name (i := 1) sc_p_first_wrong_name.nd rfl (.inl rfl)) (pgs_cons (pg_name (i := 2) sc_p_first_wrong_name.nd rfl (.inl rfl)) pgs_nil))) (pss_one (ps_if (PW.pt (pw_or (pt_not (pt_val (pe_call (ok_p_is_name T) (hr.mono (by decide)) (by rfl) T.g_p_is_name T.F_p_is_name.kp T.b_p_is_name .nil pass0 (pa_cons (pv 2) pa_nil)))) (pw_or1 (pt_cmpR op_in_seq (pv 2) (pe_slice sl_list (pv 0) po_none (po_some (pv 1))) (by rfl))))) (pss_one (ps_ret (pv 1))) pss_nil)))
      (pss_one (ps_ret pe_non))), ?_⟩
    refine ⟨_, rfl, L, _, rfl, hL, for_enum (K := K) (a := L) (xs := ns.map V.str) (fun i σ G => Same H G ∧ firstBad 0 [] ns = firstBad i (ns.take i) (ns.drop i) ∧ ∃ y1 y2, σ = [some (.ref L), y1, y2]) ⟨Same.refl H, rfl, _, _, rfl⟩ (fun i σ G _ hq => SqL.sm hq.1 hL) (fun i x σ G T hx hq nT => ?_) (fun σ G hq => ?_)⟩
    · obtain ⟨sG, fb, y1, y2, rfl⟩ := hq
      rw [List.getElem?_map] at hx
      obtain ⟨n, hz, rfl⟩ := Option.map_eq_some_iff.mp hx
      have lt : i < ns.length := (List.getElem?_eq_some_iff.mp hz).1
      have dr : ns.drop i = n :: ns.drop (i + 1) := by
        rw [List.drop_eq_getElem_cons lt]
        congr 1
        exact (List.getElem?_eq_some_iff.mp hz).2
      rw [dr] at fb
      have sT := same_upd (o := .tup [V.int (i : Nat), .str n]) nT
      have s1 := sG.trans sT
      have mem : n ∈ ns := List.mem_of_getElem? hz
      refine ⟨T, _, rfl, SqT.of upd_same, rfl, _, _, rfl, _, _, rfl, rfl, ?_⟩
      refine ⟨_, rfl, _, _, 0, rfl, .str n (hlen n mem), _, rfl, ?_⟩
      have ret : (¬ (nameB n.cps.toList = true ∧ n ∉ ns.take i)) → ∀ G', Same H G' → Q (.int (i : Int)) G' := fun c G' s' => by
        have e : firstBad 0 [] ns = some i := by
          rw [fb]
          show (if _ then _ else _) = _
          rw [if_neg c]
        rw [e] at q
        exact q G' s'
      cases hb : nameB n.cps.toList with
      | false =>
        have hb' : nameD (.str n) = false := hb
        rw [hb']
        exact iteT (iteT ⟨_, rfl, ret (fun z => by rw [hb] at z; exact Bool.false_ne_true z.1) _ s1⟩)
      | true =>
        have hb' : nameD (.str n) = true := hb
        rw [hb']
        refine iteF ⟨_, rfl, _, rfl, _, rfl, _, rfl, L, _, rfl, SqL.sm s1 hL, fun p np => ?_⟩
        have sp := same_upd (o := .lst (cutV (ns.map V.str) none (some (i : Int)))) np
        have ec : cutV (ns.map V.str) none (some (i : Int)) = (ns.take i).map V.str := by
          rw [cut_take _ _ (by rw [List.length_map]; omega), List.map_take]
        refine ⟨p, _, rfl, .inl (SqL.of upd_same), rfl, ?_, _, rfl, ?_⟩
        · rw [ec]
          exact flat_strs _
        · rw [ec] at sp ⊢
          rw [inV_strs]
          by_cases hm : n ∈ ns.take i
          · rw [decide_eq_true hm]
            exact iteT ⟨_, rfl, ret (fun z => z.2 hm) _ (s1.trans sp)⟩
          · rw [decide_eq_false hm]
            refine iteF ⟨s1.trans sp, ?_, _, _, rfl⟩
            rw [fb, List.take_add_one, hz]
            show (if _ then _ else _) = _
            rw [if_pos ⟨hb, hm⟩]
            rfl
    · obtain ⟨sG, fb, y1, y2, rfl⟩ := hq
      rw [List.length_map, List.take_length, List.drop_length] at fb
      have e : optV (firstBad 0 [] ns) = .non := by
        rw [fb]
        rfl
      rw [e] at q
      exact q _ sG
end
theorem op_in_seqK {X : Cx} {K : PySem.W.Frag} (h : X.K = K) : OpR X (compareOp .In) (rIn K false) := h ▸ op_in_seq
theorem tieD_inv {d : PyData} (h : tieD d = true) : ∃ ts b, d = .tuple [trmD ts, b] ∧ ts.length ≤ 2 ∧ tieN d = ts.map fun t => t.1 := by
  unfold tieD at h
  split at h
  · rename_i t b
    rw [Bool.and_eq_true] at h
    have h1 := h.1
    unfold termsD at h1
    split at h1
    · rename_i s
      obtain ⟨n, r, rfl⟩ := termD_inv h1
      exact ⟨[(n, r)], b, rfl, by show 1 ≤ 2; decide, rfl⟩
    · rename_i s u
      rw [Bool.and_eq_true, Bool.and_eq_true] at h1
      obtain ⟨n, r, rfl⟩ := termD_inv h1.1.1
      obtain ⟨m, r2, rfl⟩ := termD_inv h1.1.2
      exact ⟨[(n, r), (m, r2)], b, rfl, Nat.le_refl 2, rfl⟩
    · cases h1
  · cases h
section
variable {P : Program} {w : World} {K : PySem.W.Frag} {mg : Str → Option Value} {base : Heap} {fa : Nat → Addr} {fd : Nat → FuncData}
def spFWT (K : PySem.W.Frag) : Sp := fun vs H Q _ => ∃ (T L : Addr) (us : List V) (ds : List PyData) (ns : List Str) (z : Addr), vs = [.ref T, .ref L] ∧ SqL K H T us ∧ DtAll z H us ds ∧ us.length ≤ 900 ∧ SqL K H L (ns.map V.str) ∧ ∀ H', Same H H' → Q (optV (firstBadT ns 0 ds)) H'
theorem ok_p_first_wrong_tie (T : Txt K mg fa fd) : FnOk P w K mg base CX0 6 (fa 146) (fd 146) ["ties", "names"] (spFWT K) := by
  refine T.F_p_first_wrong_tie.ok sc_p_first_wrong_tie (fun vs H Q E h => ?_) (fun cdv A outer s H vs Q E hr h => ?_)
  · obtain ⟨T0, L, us, ds, ns, z, rfl, _⟩ := h
    rfl
  · obtain ⟨T0, L, us, ds, ns, z, rfl, hT, hds, hsz, hL, q⟩ := h
    refine ⟨_, (pss_cons (ps_for PassesOwn.never rfl (pi_enum (by rfl) T.m_enumerate (pa_cons (pv 0) pa_nil)) (pg_tup (by rfl) (pgs_cons (pg_name (i := 2) sc_p_first_wrong_tie.nd rfl (.inl rfl)) (pgs_cons (pg_name (i := 3) sc_p_first_wrong_tie.nd rfl (.inl rfl)) pgs_nil))) (pss_one (ps_if (PW.pt (pw_or (pt_not (pt_val (pe_call (ok_p_is_tie T) (hr.mono (by decide)) (by rfl) T.g_p_is_tie T.F_p_is_tie.kp T.b_p_is_tie .nil pass0 (pa_cons (pv 3) pa_nil)))) (pw_or1 (pt_not (pt_val (pe_callB (cr_all rfl) (by rfl) T.m_all PyProof.Rows.boot_all (pa_cons (pe_lc (own := [("name", 4)]) (g := gName 4) (tt := tYes) rfl sc_p_first_wrong_tie.nd (pi_list (pe_call (ok_p_names_in T) (hr.mono (by decide)) (by rfl) T.g_p_names_in T.F_p_names_in.kp T.b_p_names_in .nil pass0 (pa_cons (pv 3) pa_nil))) (blkOk_by (own := [("name", 4)]) (N := ["ties", "names", "at", "tie", "name"]) (sc := defScope s_p_first_wrong_tie) (by decide +kernel)) (fun _ _ _ _ _ => pg_name (i := 4) sc_p_first_wrong_tie.nd rfl (Or.inl rfl)) (fun _ _ _ _ _ => pts_nil) (fun _ _ _ _ _ => (pe_cmpR (op_in_seqK (K := K) rfl) (pv 4) (pv 1) (by rfl)))) pa_nil))))))) (pss_one (ps_ret (pv 2))) pss_nil)))
      (pss_one (ps_ret pe_non))), ?_⟩
    refine ⟨_, rfl, T0, _, rfl, hT, for_enum (K := K) (a := T0) (xs := us) (fun i σ G => Same H G ∧ firstBadT ns 0 ds = firstBadT ns i (ds.drop i) ∧ ∃ y1 y2 y3, σ = [some (.ref T0), some (.ref L), y1, y2, y3]) ⟨Same.refl H, rfl, _, _, _, rfl⟩ (fun i σ G _ hq => SqL.sm hq.1 hT) (fun i x σ G T1 hx hq nT => ?_) (fun σ G hq => ?_)⟩
    · obtain ⟨sG, fb, y1, y2, y3, rfl⟩ := hq
      obtain ⟨d, hd, hdt⟩ := DtAll.at i hds hx
      have lt : i < ds.length := (List.getElem?_eq_some_iff.mp hd).1
      have dr : ds.drop i = d :: ds.drop (i + 1) := by
        rw [List.drop_eq_getElem_cons lt]
        congr 1
        exact (List.getElem?_eq_some_iff.mp hd).2
      rw [dr] at fb
      have sT := same_upd (o := .tup [V.int (i : Nat), x]) nT
      have s1 := sG.trans sT
      have ret : goodT ns d = false → ∀ G', Same H G' → Q (.int (i : Int)) G' := fun c G' s' => by
        have e : firstBadT ns 0 ds = some i := by
          rw [fb]
          show (if _ then _ else _) = _
          rw [if_neg (by rw [c]; exact Bool.false_ne_true)]
        rw [e] at q
        exact q G' s'
      refine ⟨T1, _, rfl, SqT.of upd_same, rfl, _, _, rfl, _, _, rfl, rfl, ?_⟩
      refine ⟨_, rfl, x, d, z, rfl, hdt.same s1, fun G2 s2 => ⟨_, rfl, ?_⟩⟩
      cases ht : tieD d with
      | false =>
        refine iteT (iteT ⟨_, rfl, ret ?_ _ (s1.trans s2)⟩)
        unfold goodT
        rw [ht]
        rfl
      | true =>
        obtain ⟨ts, b, ed, hl, en⟩ := tieD_inv ht
        have s12 := s1.trans s2
        refine iteF ⟨_, rfl, x, ts, b, z, rfl, by rw [← ed]; exact hdt.same s12, by omega, fun D H' nD s3 hD => ⟨D, rfl, ⟨_, SqL.of hD⟩, fun D2 nD2 => ?_⟩⟩
        have s13 := s12.trans s3
        refine lc_list (K := K) (a := D) (xs := ts.map fun t => V.str t.1) (fun j G3 => Same H' G3 ∧ G3 D2 = some (.lst (((ts.take j).map fun t => decide (t.1 ∈ ns)).map V.bl))) ⟨same_upd nD2, upd_same⟩ (fun j G3 _ hp => SqL.of (hp.1 _ _ hD)) (fun j y G3 hy hp => ?_) (fun G3 hp => ?_)
        · rw [List.getElem?_map] at hy
          obtain ⟨t, htz, rfl⟩ := Option.map_eq_some_iff.mp hy
          have jl := (List.getElem?_eq_some_iff.mp htz).1
          refine ⟨rfl, _, rfl, _, rfl, L, _, rfl, .inl (SqL.sm (s13.trans hp.1) hL), rfl, flat_strs _, _, hp.2, ?_, ?_, ?_⟩
          · rw [List.length_map, List.length_map, List.length_take]
            exact small1000 (by omega)
          · exact fun c o e => (upd_ne (ne_of_none e nD2)).trans (hp.1 c o e)
          · rw [upd_same, List.take_add_one, htz, inV_strs, List.map_append, List.map_append]
            rfl
        · rw [List.length_map, List.take_length] at hp
          have s14 := s13.trans hp.1
          refine ⟨D2, _, rfl, SqL.of hp.2, _, rfl, ?_⟩
          have ea : (ts.map fun t => decide (t.1 ∈ ns)).all id = goodT ns d := by
            unfold goodT
            rw [ht, en, Bool.true_and, List.all_map, List.all_map]
            rfl
          rw [ea]
          cases hg : goodT ns d with
          | false => exact iteT ⟨_, rfl, ret hg _ s14⟩
          | true =>
            refine iteF ⟨s14, ?_, _, _, _, rfl⟩
            rw [fb]
            show (if _ then _ else _) = _
            rw [if_pos hg]
    · obtain ⟨sG, fb, y1, y2, y3, rfl⟩ := hq
      rw [hds.len, List.drop_length] at fb
      have e : optV (firstBadT ns 0 ds) = .non := by
        rw [fb]
        rfl
      rw [e] at q
      exact q _ sG
end
section
variable {P : Program} {w : World} {K : PySem.W.Frag} {mg : Str → Option Value} {base : Heap} {fa : Nat → Addr} {fd : Nat → FuncData}
/-! ### what is told of an error -/
def tagsV (l : List String) : List V := l.map fun x => V.str (Str.ofString x)
def fieldOf (tag : Str) : Option Str :=
  if inV (.str tag) (tagsV ["InvalidRatio", "InvalidTimes", "InvalidLimit"]) = true then some "given" else
  if inV (.str tag) (tagsV ["InvalidRow", "InvalidTie", "InvalidWish", "ParseError"]) = true then some "at" else
  if inV (.str tag) (tagsV ["InvalidName", "SameName", "UnknownName"]) = true then some "name" else
  if inV (.str tag) (tagsV ["DuplicateLabel", "UnknownLabel"]) = true then some "label" else
  if decide (V.str tag = V.str "NotTied") = true then some "many" else
  if decide (V.str tag = V.str "CapacityExceeded") = true then some "most" else
  if decide (V.str tag = V.str "InvalidCommand") = true then some "first" else none
def FldOk (K : PySem.W.Frag) (C : Addr) (fs : List (Str × V)) (tag : Str) (v : V) : Prop := match fieldOf tag with
  | some n => PySem.W.findIn K (.ref C) n = some none ∧ fs.lookup n = some v
  | none => v = .non
def spField (K : PySem.W.Frag) (p : Addr × Obj) : Sp := fun vs H Q _ => vs = [.ref p.1] ∧ ∃ (C dd : Addr) (fs : List (Str × V)) (tag : Str) (v : V), Xat K p C dd ∧ PySem.W.findIn K (.ref C) "tag" = some none ∧ H dd = some (.xd fs) ∧ fs.lookup ("tag" : Str) = some (.str tag) ∧ FldOk K C fs tag v ∧
  ∀ H', Same H H' → Q v H'
theorem fld_of {K : PySem.W.Frag} {C : Addr} {fs : List (Str × V)} {tag : Str} {v : V} {n : Str} (h : FldOk K C fs tag v) (e : fieldOf tag = some n) : PySem.W.findIn K (.ref C) n = some none ∧ fs.lookup n = some v := by
  unfold FldOk at h
  rw [e] at h
  exact h
theorem fld_none {K : PySem.W.Frag} {C : Addr} {fs : List (Str × V)} {tag : Str} {v : V} (h : FldOk K C fs tag v) (e : fieldOf tag = none) : v = .non := by
  unfold FldOk at h
  rw [e] at h
  exact h
theorem ok_field (T : Txt K mg fa fd) : FnP P w K mg base 1 (fa 185) (fd 185) ["_law_e"] (spField K) := by
  refine fn_ofP T.F_field sc_field (fun p vs H Q E h => ?_) (fun cdv A outer s H vs Q p hr h => ?_)
  · obtain ⟨rfl, _⟩ := h
    rfl
  · obtain ⟨rfl, C, dd, fs, tag, v, X, ht, hd, lt, hf, q⟩ := h
    refine ⟨_, (pss_cons (ps_if (pt_cmpR op_in_seq (pe_xp (by exact List.mem_cons_self) (pv 0)) (pe_tup (pa_cons pe_str (pa_cons pe_str (pa_cons pe_str pa_nil)))) (by rfl)) (pss_one (ps_ret (pe_xp (by exact List.mem_cons_self) (pv 0)))) pss_nil)
      (pss_cons (ps_if (pt_cmpR op_in_seq (pe_xp (by exact List.mem_cons_self) (pv 0)) (pe_tup (pa_cons pe_str (pa_cons pe_str (pa_cons pe_str (pa_cons pe_str pa_nil))))) (by rfl)) (pss_one (ps_ret (pe_xp (by exact List.mem_cons_self) (pv 0)))) pss_nil)
      (pss_cons (ps_if (pt_cmpR op_in_seq (pe_xp (by exact List.mem_cons_self) (pv 0)) (pe_tup (pa_cons pe_str (pa_cons pe_str (pa_cons pe_str pa_nil)))) (by rfl)) (pss_one (ps_ret (pe_xp (by exact List.mem_cons_self) (pv 0)))) pss_nil)
      (pss_cons (ps_if (pt_cmpR op_in_seq (pe_xp (by exact List.mem_cons_self) (pv 0)) (pe_tup (pa_cons pe_str (pa_cons pe_str pa_nil))) (by rfl)) (pss_one (ps_ret (pe_xp (by exact List.mem_cons_self) (pv 0)))) pss_nil)
      (pss_cons (ps_if (pt_cmpR op_eq (pe_xp (by exact List.mem_cons_self) (pv 0)) pe_str (nomark _)) (pss_one (ps_ret (pe_xp (by exact List.mem_cons_self) (pv 0)))) pss_nil)
      (pss_cons (ps_if (pt_cmpR op_eq (pe_xp (by exact List.mem_cons_self) (pv 0)) pe_str (nomark _)) (pss_one (ps_ret (pe_xp (by exact List.mem_cons_self) (pv 0)))) pss_nil)
      (pss_one (ps_ret (pe_ifExp (pt_cmpR op_eq (pe_xp (by exact List.mem_cons_self) (pv 0)) pe_str (nomark _)) (pe_xp (by exact List.mem_cons_self) (pv 0)) pe_non))))))))), ?_⟩
    refine ⟨_, rfl, rfl, C, dd, fs, _, X, ht, hd, lt, Nat.le_of_lt (small1000 (by show 3 ≤ 1000; decide)), fun p1 n1 => ?_⟩
    have s1 := same_upd (o := .tup (tagsV ["InvalidRatio", "InvalidTimes", "InvalidLimit"])) n1
    refine ⟨p1, _, rfl, .inr (SqT.of upd_same), rfl, rfl, _, rfl, ite2 (fun e1 => ?_) (fun e1 => ?_)⟩
    · have hn := fld_of hf (show fieldOf tag = some "given" from if_pos e1)
      exact ⟨_, rfl, rfl, C, dd, fs, _, X, hn.1, s1 _ _ hd, hn.2, q _ s1⟩
    have hd1 := s1 _ _ hd
    refine ⟨_, rfl, rfl, C, dd, fs, _, X, ht, hd1, lt, Nat.le_of_lt (small1000 (by show 4 ≤ 1000; decide)), fun p2 n2 => ?_⟩
    have s2 := s1.trans (same_upd (o := .tup (tagsV ["InvalidRow", "InvalidTie", "InvalidWish", "ParseError"])) n2)
    refine ⟨p2, _, rfl, .inr (SqT.of upd_same), rfl, rfl, _, rfl, ite2 (fun e2 => ?_) (fun e2 => ?_)⟩
    · have hn := fld_of hf (show fieldOf tag = some "at" from (if_neg e1).trans (if_pos e2))
      exact ⟨_, rfl, rfl, C, dd, fs, _, X, hn.1, s2 _ _ hd, hn.2, q _ s2⟩
    have hd2 := s2 _ _ hd
    refine ⟨_, rfl, rfl, C, dd, fs, _, X, ht, hd2, lt, Nat.le_of_lt (small1000 (by show 3 ≤ 1000; decide)), fun p3 n3 => ?_⟩
    have s3 := s2.trans (same_upd (o := .tup (tagsV ["InvalidName", "SameName", "UnknownName"])) n3)
    refine ⟨p3, _, rfl, .inr (SqT.of upd_same), rfl, rfl, _, rfl, ite2 (fun e3 => ?_) (fun e3 => ?_)⟩
    · have hn := fld_of hf (show fieldOf tag = some "name" from (if_neg e1).trans ((if_neg e2).trans (if_pos e3)))
      exact ⟨_, rfl, rfl, C, dd, fs, _, X, hn.1, s3 _ _ hd, hn.2, q _ s3⟩
    have hd3 := s3 _ _ hd
    refine ⟨_, rfl, rfl, C, dd, fs, _, X, ht, hd3, lt, two_line, fun p4 n4 => ?_⟩
    have s4 := s3.trans (same_upd (o := .tup (tagsV ["DuplicateLabel", "UnknownLabel"])) n4)
    refine ⟨p4, _, rfl, .inr (SqT.of upd_same), rfl, rfl, _, rfl, ite2 (fun e4 => ?_) (fun e4 => ?_)⟩
    · have hn := fld_of hf (show fieldOf tag = some "label" from (if_neg e1).trans ((if_neg e2).trans ((if_neg e3).trans (if_pos e4))))
      exact ⟨_, rfl, rfl, C, dd, fs, _, X, hn.1, s4 _ _ hd, hn.2, q _ s4⟩
    have hd4 := s4 _ _ hd
    refine ⟨_, rfl, rfl, C, dd, fs, _, X, ht, hd4, lt, rfl, _, rfl, ite2 (fun e5 => ?_) (fun e5 => ?_)⟩
    · have hn := fld_of hf (show fieldOf tag = some "many" from (if_neg e1).trans ((if_neg e2).trans ((if_neg e3).trans ((if_neg e4).trans (if_pos e5)))))
      exact ⟨_, rfl, rfl, C, dd, fs, _, X, hn.1, hd4, hn.2, q _ s4⟩
    refine ⟨_, rfl, rfl, C, dd, fs, _, X, ht, hd4, lt, rfl, _, rfl, ite2 (fun e6 => ?_) (fun e6 => ?_)⟩
    · have hn := fld_of hf (show fieldOf tag = some "most" from (if_neg e1).trans ((if_neg e2).trans ((if_neg e3).trans ((if_neg e4).trans ((if_neg e5).trans (if_pos e6))))))
      exact ⟨_, rfl, rfl, C, dd, fs, _, X, hn.1, hd4, hn.2, q _ s4⟩
    refine ⟨_, rfl, rfl, C, dd, fs, _, X, ht, hd4, lt, rfl, _, rfl, ite2 (fun e7 => ?_) (fun e7 => ?_)⟩
    · have hn := fld_of hf (show fieldOf tag = some "first" from (if_neg e1).trans ((if_neg e2).trans ((if_neg e3).trans ((if_neg e4).trans ((if_neg e5).trans ((if_neg e6).trans (if_pos e7)))))))
      exact ⟨_, rfl, rfl, C, dd, fs, _, X, hn.1, hd4, hn.2, q _ s4⟩
    · have hn := fld_none hf (show fieldOf tag = none from (if_neg e1).trans ((if_neg e2).trans ((if_neg e3).trans ((if_neg e4).trans ((if_neg e5).trans ((if_neg e6).trans (if_neg e7)))))))
      rw [hn] at q
      exact q _ s4
end
section
variable {fa : Nat → Addr} {fd : Nat → FuncData}
/-- an error, as why tells of it -/
def WhyE (K : PySem.W.Frag) (Tie Miss : Addr) (Q : VK) : XK := fun cls d H' => ∃ (C dd : Addr) (fs : List (Str × V)) (tag : Str) (v : V), cls = .ref C ∧ d = some dd ∧ PySem.W.exmAny K (.ref C) [.ref Tie, .ref Miss] = some true ∧ XfC K C ∧ PySem.W.findIn K (.ref C) "tag" = some none ∧ H' dd = some (.xd fs) ∧
  fs.lookup ("tag" : Str) = some (.str tag) ∧ FldOk K C fs tag v ∧ ∀ p H'', Same H' H'' → H'' p = some (.tup [.str tag, v]) → Q (.ref p) H''
def TTWhy (K : PySem.W.Frag) (Tie Miss : Addr) : (XK → Hp → VK → Prop) → Hp → VK → Prop := fun tl H Q => ∀ (H1 : Hp) (Q' : VK) (E' : XK), Same H H1 → (∀ v H', (∀ p, H' p = none → Q (.ref p) (upd H' p (.tup [.str "", v]))) → Q' v H') →
  (∀ cls d H', WhyE K Tie Miss Q cls d H' → E' cls d H') → tl E' H1 Q'
def tSuite (K : PySem.W.Frag) : Addr → Value → Option Addr → TS := fun a cls d D σ H => ∃ (C dd : Addr) (fs : List (Str × V)) (tag : Str) (v : V), cls = .ref C ∧ d = some dd ∧ XfC K C ∧ PySem.W.findIn K (.ref C) "tag" = some none ∧ H dd = some (.xd fs) ∧
  fs.lookup ("tag" : Str) = some (.str tag) ∧ FldOk K C fs tag v ∧ (σ.length = 3 → σ[2]? = some (some (.ref a))) ∧ ∀ p H'', σ.length = 3 → Same H H'' → H'' p = some (.tup [.str tag, v]) → D.nx (σ.set 1 (some (.ref p))) H''
theorem why_gives {X : Cx} (T : Txt X.K X.mg fa fd) {k : Nat} (hr : Room (k + 2) X.A) {cdg : Value} {q : Str} : LamX.GivesTo X ["_law_ask", "_law_told", "_law_e"] "_law_why" (defScope s_why) (fa 186) cdg (defBody s_why) "_law_ask" q (TTWhy X.K (fa 2) (fa 16)) := by
  intro f c' s H Q tl act hc h
  have F : FnP X.prog X.w X.K X.mg X.base 1 (fa 185) (fd 185) ["_law_e"] (spField X.K) := ok_field T
  refine ⟨_, pss_cons (ps_set (i := 1) sc_why.nd rfl (.inl rfl) (pe_tup (pa_cons pe_str (pa_cons pe_non pa_nil))))
    (pss_cons (ps_try_tup (i := 2) (tb := fun W D σ H => ∃ Ech : XK, (∀ cls d σ' H', Ech cls d H' → W cls d σ' H') ∧ σ[0]? = some (some (.ref f)) ∧ H c' = some (LamX.CodeO c' q) ∧ tl Ech H fun v H' => [V.str "", v].length ≤ sizeLine ∧ ∀ p, H' p = none → D.nx (σ.set 1 (some (.ref p))) (upd H' p (.tup [.str "", v]))) (ts := tSuite X.K)
        rfl rfl sc_why.nd rfl rfl rfl T.gTieError rfl T.gMissing (fun W pn xe tk _ => ?_) (fun a oe cls d pn hz hf => ?_))
    (pss_one (ps_ret (pv 1)))), ?_⟩
  · refine ⟨fun pins s' σ H' D I h' => ?_⟩
    obtain ⟨Ech, hW, h1, h2, h3⟩ := h'
    exact (pss_one (ps_set (i := 1) sc_why.nd rfl (.inl rfl) (pe_tup (pa_cons pe_str (pa_cons (act W pn xe Ech _ _ tk hW) pa_nil))))).run pins s' σ H' D I ⟨h1, h2, h3⟩
  · refine ⟨fun pins s' σ H' D I h' => ?_⟩
    obtain ⟨C, dd, fs, tag, v, rfl, rfl, xf, ht, hd, lt, hv, h2, h3⟩ := h'
    have l3 : σ.length = 3 := I.len
    have h2 := h2 l3
    have hx : Xat X.K (a, oe) C dd := ⟨hz, hf, xf⟩
    refine (pss_one (ps_set (i := 1) sc_why.nd rfl (.inl rfl) (pe_tup (pa_cons (pe_xp (X := (cxOf C8.CX0 X.prog X.w X.K X.mg X.base ["_law_ask", "_law_told", "_law_e"] "_law_why" (defScope s_why) (fa 186) cdg X.A X.stack s H C8.E0).nox.suite a ((a, oe) :: pn)) (p := (a, oe)) (by exact List.mem_cons_self) (pv 2)) (pa_cons (pe_callP (X := (cxOf C8.CX0 X.prog X.w X.K X.mg X.base ["_law_ask", "_law_told", "_law_e"] "_law_why" (defScope s_why) (fa 186) cdg X.A X.stack s H C8.E0).nox.suite a ((a, oe) :: pn)) (p := (a, oe)) F ?_ (by exact List.mem_cons_self) (by rfl) T.g_field T.F_field.kp T.b_field (pa_cons (pv 2) pa_nil)) pa_nil))))).run pins s' σ H' D I ?_
    · have r := hr.deeper (envOfC "_law_why" (defScope s_why) s.heap.objs.size (fa 186) cdg)
      exact ⟨by have := r.dp; show (X.A.deeper (envOfC "_law_why" (defScope s_why) s.heap.objs.size (fa 186) cdg)).depth + 3 * 1 + 5 < recursionLimit; omega, by have := r.un; show (X.A.deeper (envOfC "_law_why" (defScope s_why) s.heap.objs.size (fa 186) cdg)).units + 16 * 1 + 200 < cLine; omega⟩
    · refine ⟨_, h2, rfl, C, dd, fs, _, hx, ht, hd, lt, _, h2, rfl, C, dd, fs, tag, v, hx, ht, hd, lt, hv, fun H2 s2 => ⟨two_line, fun p np => ?_⟩⟩
      exact h3 p _ l3 (s2.trans (same_upd np)) upd_same
  · refine ⟨two_line, fun p np => ⟨WhyE X.K (fa 2) (fa 16) Q, ?_, rfl, same_upd np _ _ hc, h _ _ _ (same_upd np) (fun v H' hQ => ⟨two_line, fun p np => ⟨_, rfl, hQ p np⟩⟩) fun _ _ _ z => z⟩⟩
    rintro cls d σ' H' ⟨C, dd, fs, tag, v, rfl, rfl, ha, xf, ht, hd, lt, hv, h3⟩
    refine ⟨ha, fun a na => ⟨C, dd, fs, tag, v, rfl, rfl, xf, ht, hd, lt, hv, fun l => ?_, fun p H'' l s2 hp => ?_⟩⟩
    · rw [List.length_set] at l
      rw [List.getElem?_set_self (by omega)]
    · rw [List.length_set] at l
      match σ', l with
      | [a0, a1, a2], _ => exact ⟨_, rfl, h3 p H'' s2 hp⟩
end
section
variable {fa : Nat → Addr} {fd : Nat → FuncData}
/-- why(lambda: body) -/
theorem pe_why {X : Cx} (T : Txt X.K X.mg fa fd) {c P : Addr} {k : Nat} {params : Arguments} {body : Expr} {scope : Scope} {t : XK → TE} {p lpos pos : Pos} (TB : LamX.TabB X.base X.mg c P) (hcode : X.env.code = .ref c) (hr : Room (k + 2) X.A) (hg : Gl X "_law_why") (L : LamX.LamS X.env.scope scope)
    (hbody : ∀ (A : Around) (outer : List Env) (s : Shared) (H : Hp) (E : XK) (f c' : Addr), Room k (A.deeper (LamX.lamEnv X scope s.heap.objs.size f c')) → PE (LamX.lamCx X A outer s H E scope f c') body (t E))
    (hdef : defaultsOf params X.env = ([], []) := by rfl) (hbind : ∀ (q : Str) (cl : List (Str × Addr)) (pm cv ctv : Value), bindArgs (PySem.W.kla_fn "<lambda>" q params body scope cl pm cv ctv) ⟨[], []⟩ = pure [] := by intros; rfl) :
    PE X (.Call (.Name "_law_why" p) [.Lambda params body scope lpos] [] pos) (LamX.tLam [(P, X.env.qual ++ "<lambda>")] (TTWhy X.K (fa 2) (fa 16)) t) := by
  obtain ⟨oc, od, kV, doc, pm, an, cdv, ct, osl, e, lk, hcd⟩ := T.F_why.ex
  rw [e] at lk
  have hb := T.b_why
  rw [e] at hb
  refine LamX.pe_lamcall (X := X) (T := [(P, X.env.qual ++ "<lambda>")]) (a := "_law_ask") (Ng := ["_law_ask", "_law_told", "_law_e"]) hg T.g_why T.F_why.kp lk hcd hb sc_why rfl (.inl rfl) (why_gives T hr) TB hcode List.mem_cons_self (fun q hq _ => ?_) hr L hdef hbind hbody
  rw [List.mem_singleton.mp hq]
end
/-! ### errors(asks) of a list of kept lambdas -/
theorem PE.imp {X : Cx} {e : Expr} {t t' : TE} (h : PE X e t) (f : ∀ σ H Q, t' σ H Q → t σ H Q) : PE X e t' := ⟨fun pins s σ H Q I q => h.run pins s σ H Q I (f _ _ _ q)⟩
theorem lq_paired_at {α β : Type} {R : α → β → Prop} : ∀ {xs : List α} {ys : List β} {i : Nat}, Paired R xs ys → i < xs.length → ∃ x y, xs[i]? = some x ∧ ys[i]? = some y ∧ R x y
  | _, _, i, .nil, h => absurd h (Nat.not_lt_zero i)
  | x :: _, y :: _, 0, .cons r _, _ => ⟨x, y, rfl, rfl, r⟩
  | _ :: _, _ :: _, i + 1, .cons _ t, h => lq_paired_at (i := i) t (Nat.lt_of_succ_lt_succ h)
theorem lq_paired_snoc {α β : Type} {R S : α → β → Prop} (k : ∀ a b, R a b → S a b) : ∀ {xs : List α} {ys : List β} {x : α} {y : β}, Paired R xs ys → S x y → Paired S (xs ++ [x]) (ys ++ [y])
  | _, _, _, _, .nil, h => .cons h .nil
  | _, _, _, _, .cons r t, h => .cons (k _ _ r) (lq_paired_snoc k t h)
theorem Same.keep2 {H H' : Hp} (s : Same H H') : EK.Keep2 H H' := fun b o e _ _ => s b o e
section
variable {fa : Nat → Addr} {fd : Nat → FuncData}
theorem TTWhy.imp {K : PySem.W.Frag} {Tie Miss : Addr} {tl : XK → Hp → VK → Prop} {H : Hp} {Q Q2 : VK} (h : TTWhy K Tie Miss tl H Q) (k : ∀ v H', Q v H' → Q2 v H') : TTWhy K Tie Miss tl H Q2 := by
  intro H1 Q' E' s hv he
  refine h H1 Q' E' s (fun v H' z => hv v H' fun p np => k _ _ (z p np)) fun cls d H' z => he cls d H' ?_
  obtain ⟨C, dd, fs, tag, v, e1, e2, e3, e4, e5, e6, e7, e8, e9⟩ := z
  exact ⟨C, dd, fs, tag, v, e1, e2, e3, e4, e5, e6, e7, e8, fun p H'' s2 hp => k _ _ (e9 p H'' s2 hp)⟩
def spWhyA (X : Cx) (σ : List (Option V)) (k : Nat) (fa : Nat → Addr) : Sp := fun vs H Q _ => ∃ (f : Addr) (t : XK → TE), vs = [.ref f] ∧ LqT X k t H f ∧ TTWhy X.K (fa 2) (fa 16) (fun E HZ Q' => LqT X k t HZ f ∧ CellsAt X σ HZ ∧ tRun X σ t E HZ Q') H Q
theorem ok_whyA {X : Cx} (T : Txt X.K X.mg fa fd) {σ : L2.St} {k : Nat} (ok : X.Ok) (len : σ.length = X.N.length) : FnOk X.prog X.w X.K X.mg X.base C8.CX0 (k + 4) (fa 186) (fd 186) ["_law_ask"] (spWhyA X σ k fa) := by
  refine ⟨fun vs H Q E h => ?_, fun A outer s H args us vs Q E hr e0 hb r h => ?_⟩
  · obtain ⟨f, t, rfl, _⟩ := h
    rfl
  · obtain ⟨f, t, rfl, hl, htt⟩ := h
    obtain ⟨oc, od, kV, doc, pm, an, cdv, ct, osl, e, lk, hcd⟩ := T.F_why.ex
    rw [e] at lk hb
    obtain ⟨d, ps, body, scope, L, B, hbody, dV, doc', pm', ct', c', h1, h2, h3⟩ := id hl
    refine LamX.run_ofS (N := ["_law_ask", "_law_told", "_law_e"]) (ps := ["_law_ask"]) lk hcd sc_why hr e0 hb r rfl fun hr' => ?_
    have gv := why_gives (X := { X with A := A, stack := outer }) T (k := k) (cdg := cdv) (q := X.env.qual ++ "<lambda>") (hr.mono (by omega))
    obtain ⟨t', p1, p2⟩ := gv f c' s H Q (fun E HZ Q' => LqT X k t HZ f ∧ CellsAt X σ HZ ∧ tRun X σ t E HZ Q') (fun W pn xe E2 q1 q2 tk hW => PE.imp (pe_lqact (X := X) (f := f) (t := t) (k := k) (i := 0) ok len tk hW (hr'.mono (by omega)) rfl (.inl rfl)) fun σ' H' Q' z => ⟨z.1, z.2.2⟩) h2 htt
    exact ⟨t', p1.nox, p2⟩
def spErrs (X : Cx) (σ : List (Option V)) (k : Nat) (fa : Nat → Addr) : Sp := fun vs H Q _ => ∃ (L : Addr) (fs : List Addr) (ts : List (XK → TE)) (res : List (Str × V)), vs = [.ref L] ∧ H L = some (.lst (fs.map V.ref)) ∧ fs.length ≤ 900 ∧ CellsAt X σ H ∧ Paired (fun f t => LqT X k t H f) fs ts ∧
  Paired (fun t (r : Str × V) => ∀ HZ, Same H HZ → TTWhy X.K (fa 2) (fa 16) (fun E HZ Q' => tRun X σ t E HZ Q') HZ (fun v H2 => Same HZ H2 ∧ ∃ p, v = .ref p ∧ H2 p = some (.tup [.str r.1, r.2]))) ts res ∧
  ∀ D ps H3, Same H H3 → H3 D = some (.lst (ps.map V.ref)) → Paired (fun p (r : Str × V) => H3 p = some (.tup [.str r.1, r.2])) ps res → Q (.ref D) H3
theorem CellsAt.same {X : Cx} {σ : L2.St} {H H' : Hp} (C : CellsAt X σ H) (s : Same H H') : CellsAt X σ H' := by
  refine ⟨fun c hc => ?_, fun i x v e1 e2 e3 => ?_⟩
  · obtain ⟨o, w, e, d⟩ := C.all c hc
    exact ⟨o, w, s _ _ e, d⟩
  · obtain ⟨c, o, u, g1, g2, g3, g4⟩ := C.at_ i x v e1 e2 e3
    exact ⟨c, o, u, g1, s _ _ g2, g3, g4⟩
theorem ok_errs {X : Cx} (T : Txt X.K X.mg fa fd) {σ0 : L2.St} {k : Nat} (ok : X.Ok) (len : σ0.length = X.N.length) : FnOk X.prog X.w X.K X.mg X.base CX0 (k + 6) (fa 187) (fd 187) ["_law_asks"] (spErrs X σ0 k fa) := by
  refine T.F_errors.ok sc_errors (fun vs H Q E h => ?_) (fun cdv A outer s H vs Q E hr h => ?_)
  · obtain ⟨L, fs, ts, res, rfl, _⟩ := h
    rfl
  · obtain ⟨L, fs, ts, res, rfl, hL, hsz, hC, hts, hres, q⟩ := h
    refine ⟨_, (pss_one (ps_ret (pe_lc (own := [("_law_ask", 1)]) (g := gName 1) (tt := tYes) rfl sc_errors.nd (pi_list (pv 0)) (blkOk_by (own := [("_law_ask", 1)]) (N := ["_law_asks", "_law_ask"]) (sc := defScope s_errors) (by decide +kernel)) (fun _ _ _ _ _ => pg_name (i := 1) sc_errors.nd rfl (Or.inl rfl)) (fun _ _ _ _ _ => pts_nil) (fun _ _ _ _ _ => (pe_call (ok_whyA T ok len (σ := σ0) (k := k)) (hr.mono (by omega)) (by rfl) T.g_why T.F_why.kp T.b_why .nil pass0 (pa_cons (pv 1) pa_nil)))))), ?_⟩
    refine ⟨_, rfl, L, rfl, ⟨_, SqL.of hL⟩, fun D nD => ?_⟩
    have sD : ∀ {G : Hp}, (∀ b o, b ≠ D → H b = some o → G b = some o) → Same H G := fun k b o e => k b o (ne_of_none e nD) e
    have lt : ts.length = fs.length := (Paired.length hts).symm
    refine lc_list (a := L) (xs := fs.map V.ref) (fun i G => (∀ b o, b ≠ D → H b = some o → G b = some o) ∧ ∃ ps : List Addr, G D = some (.lst (ps.map V.ref)) ∧ ps.length = i ∧ i ≤ fs.length ∧ Paired (fun p (r : Str × V) => G p = some (.tup [.str r.1, r.2])) ps (res.take i)) ⟨fun b o nb e => (upd_ne nb).trans e, [], upd_same, rfl, Nat.zero_le _, .nil⟩ (fun i G _ hq => SqL.of (sD hq.1 _ _ hL)) (fun i x G hx hq => ?_) (fun G hq => ?_)
    · obtain ⟨oth, ps, hD, hi, _, hps⟩ := hq
      have hil : i < fs.length := by
        have z := List.getElem?_eq_some_iff.mp hx
        obtain ⟨z, _⟩ := z
        rw [List.length_map] at z
        exact z
      obtain ⟨f, t, e1, e2, hl⟩ := lq_paired_at hts hil
      obtain ⟨t2, r, e3, e4, ht⟩ := lq_paired_at hres (lt ▸ hil)
      rw [e2] at e3
      cases e3
      rw [List.getElem?_map, e1] at hx
      cases hx
      have sG := sD oth
      refine ⟨rfl, _, rfl, f, t, rfl, hl.keep (Same.keep2 sG), ?_⟩
      intro H1 Q' E' s1 hv he
      refine ⟨hl.keep (Same.keep2 (sG.trans s1)), CellsAt.same hC (sG.trans s1), ?_⟩
      refine TTWhy.imp (ht G sG) ?_ H1 Q' E' s1 hv he
      rintro v H2 ⟨s2, p, rfl, hp⟩
      have hD2 := s2 _ _ hD
      have pD : p ≠ D := fun z => by
        rw [z, hD2] at hp
        cases hp
      refine ⟨_, hD2, small1000 (by rw [List.length_map]; omega), fun b o nb e => (upd_ne nb).trans (s2 _ _ (oth b o nb e)), ps ++ [p], ?_, by rw [List.length_append, hi]; rfl, hil, ?_⟩
      · rw [upd_same, List.map_append]
        rfl
      · rw [List.take_succ, e4]
        refine lq_paired_snoc (fun a b e => ?_) hps ((upd_ne pD).trans hp)
        have aD : a ≠ D := fun z => by
          rw [z, hD] at e
          cases e
        exact (upd_ne aD).trans (s2 _ _ e)
    · obtain ⟨oth, ps, hD, hi, _, hps⟩ := hq
      have l2 : res.length = fs.length := ((Paired.length hres).symm.trans lt)
      rw [List.length_map, ← l2, List.take_length] at hps
      exact q D ps G (sD oth) hD hps
end
def NameL (x : List Nat) : Prop := ∃ y, LW y ∧ (x = y ∨ x = y ++ [39])
section
variable {P : Program} {w : World} {K : PySem.W.Frag} {mg : Str → Option Value} {base : Heap} {fa : Nat → Addr} {fd : Nat → FuncData}
theorem small_log2 {v : Int} (h : v.natAbs ≤ 8000) : v.natAbs.log2 < 4096 := log2_mono (b := 8000) h (by decide +kernel)
theorem mid_of {m : Int} (h : 0 < m) (h2 : m ≤ 8000) : Mid m := ⟨h, Nat.lt_trans (small_log2 (by omega)) (by decide)⟩
theorem low_ratD {u v : Int} (hv : v ≠ 0) : ratD (.tuple [.int (lowT u v), .int (lowD u v)]) = true := by
  have h1 := lowD_pos (u := u) hv
  have h2 := low_gcd (u := u) hv
  show (decide (1 ≤ lowD u v) && decide (Int.gcd (lowT u v) (lowD u v) = 1)) = true
  rw [decide_eq_true (show 1 ≤ lowD u v by omega), decide_eq_true h2]
  rfl
theorem new_ne {H : Hp} {a c p : Addr} (h : FeedOk H a c) (n : H p = none) : p ≠ a := by
  obtain ⟨_, _, _, _, ha, _⟩ := h
  exact (ne_of_none ha n).symm
/-- a fraction -/
abbrev frD (t u : Int) : PyData := .tuple [.int t, .int u]
def RatAt (z : Addr) (H : Hp) (v : V) (t u : Int) : Prop := Dt z H v (frD t u) ∧ ratD (frD t u) = true
def spPart : Sp := fun vs H Q _ => ∃ (a c : Addr) (n : Int), vs = [.ref a, .int n] ∧ FeedOk H a c ∧ 0 < n ∧ n ≤ 1000 ∧ ∀ v t u H', FeedOk H' a c → But a H H' → RatAt a H' v t u → t.natAbs ≤ n.natAbs → u.natAbs ≤ 4 → Q v H'
theorem ok_part (T : Txt K mg fa fd) : FnOk P w K mg base CX0 3 (fa 190) (fd 190) ["_law_feed_here", "_law_size"] spPart := by
  refine T.F_part.ok sc_part (fun vs H Q E h => ?_) (fun cdv A outer s H vs Q E hr h => ?_)
  · obtain ⟨a, c, n, rfl, _⟩ := h
    rfl
  · obtain ⟨a, c, n, rfl, hF, h0, h1, q⟩ := h
    refine ⟨_, (pss_cons (ps_set (i := 2) sc_part.nd rfl (.inl rfl) (pe_op op_sub (pe_call (ok_draw T) (hr.mono (by decide)) (by rfl) T.g_draw T.F_draw.kp T.b_draw .nil pass0 (pa_cons (pv 0) (pa_cons (pe_op op_add (pe_op op_mul pe_int (pv 1)) pe_int) pa_nil))) (pv 1)))
      (pss_one (ps_ret (pe_call (ok_low T) (hr.mono (by decide)) (by rfl) T.g_low T.F_low.kp T.b_low .nil pass0 (pa_cons (pv 2) (pa_cons (pe_ifExp (pt_cmpR op_eq (pe_call (ok_draw T) (hr.mono (by decide)) (by rfl) T.g_draw T.F_draw.kp T.b_draw .nil pass0 (pa_cons (pv 0) (pa_cons pe_int pa_nil))) pe_int (nomark _)) pe_int (pe_op op_add pe_int (pe_call (ok_draw T) (hr.mono (by decide)) (by rfl) T.g_draw T.F_draw.kp T.b_draw .nil pass0 (pa_cons (pv 0) (pa_cons pe_int pa_nil))))) pa_nil)))))), ?_⟩
    refine ⟨_, rfl, _, rfl, _, _, rfl, rfl, .inl (by decide), _, _, rfl, rfl, a, c, _, rfl, hF, mid_of (by omega) (by omega), fun r H1 r0 r1 hF1 b1 => ?_⟩
    refine ⟨_, rfl, _, _, rfl, rfl, _, rfl, _, rfl, a, c, _, rfl, hF1, mid_of (by decide) (by decide), fun r2 H2 _ _ hF2 b2 => ⟨rfl, _, rfl, ?_⟩⟩
    have fin : ∀ (v : Int) (H3 : Hp), 0 < v → v ≤ 4 → FeedOk H3 a c → But a H H3 → spLow [.int (r - n), .int v] H3 Q E0 := fun v H3 v0 v1 hF3 b3 =>
      ⟨_, _, rfl, by omega, small_log2 (by omega), fun p np => q (.ref p) (lowT (r - n) v) (lowD (r - n) v) _ (hF3.new np) (b3.trans (But.of (same_upd np))) ⟨(dnewT np (.cons (.int _ (small_log2 (Nat.le_trans (lowT_abs (v := v) (by omega)) (by omega)))) (.cons (.int _ (small_log2 (Nat.le_trans (lowD_abs (v := v) (by omega)) (by omega)))) .nil))).2, low_ratD (by omega)⟩ (Nat.le_trans (lowT_abs (v := v) (by omega)) (by omega)) (Nat.le_trans (lowD_abs (v := v) (by omega)) (by omega))⟩
    refine ite2 (fun e => fin 1 H2 (by decide) (by decide) hF2 (b1.trans b2)) (fun e => ?_)
    exact ⟨_, rfl, a, c, _, rfl, hF2, mid_of (by decide) (by decide), fun r3 H3 r4 r5 hF3 b3 => ⟨_, _, rfl, rfl, fin _ H3 (by omega) (by omega) hF3 ((b1.trans b2).trans b3)⟩⟩
def spRate : Sp := fun vs H Q _ => ∃ (a c : Addr), vs = [.ref a] ∧ FeedOk H a c ∧ ∀ v t u H', FeedOk H' a c → But a H H' → RatAt a H' v t u → t ≠ 0 → t.natAbs ≤ 5 → u.natAbs ≤ 3 → Q v H'
theorem small_line' {n : Nat} (h : n ≤ 1000) : n ≤ sizeLine := small_line h
theorem ok_rate (T : Txt K mg fa fd) : FnOk P w K mg base CX0 3 (fa 191) (fd 191) ["_law_feed_here"] spRate := by
  refine T.F_rate.ok sc_rate (fun vs H Q E h => ?_) (fun cdv A outer s H vs Q E hr h => ?_)
  · obtain ⟨a, c, rfl, _⟩ := h
    rfl
  · obtain ⟨a, c, rfl, hF, q⟩ := h
    refine ⟨_, (pss_one (ps_ret (pe_call (ok_any T) (hr.mono (by decide)) (by rfl) T.g_any T.F_any.kp T.b_any .nil pass0 (pa_cons (pv 0) (pa_cons (pe_lst (pa_cons (pe_tup (pa_cons pe_int (pa_cons pe_int pa_nil))) (pa_cons (pe_tup (pa_cons (pe_un un_neg pe_int) (pa_cons pe_int pa_nil))) (pa_cons (pe_tup (pa_cons pe_int (pa_cons pe_int pa_nil))) (pa_cons (pe_tup (pa_cons pe_int (pa_cons pe_int pa_nil))) (pa_cons (pe_tup (pa_cons (pe_un un_neg pe_int) (pa_cons pe_int pa_nil))) (pa_cons (pe_tup (pa_cons pe_int (pa_cons pe_int pa_nil))) (pa_cons (pe_tup (pa_cons pe_int (pa_cons pe_int pa_nil))) (pa_cons (pe_tup (pa_cons (pe_un un_neg pe_int) (pa_cons pe_int pa_nil))) (pa_cons (pe_tup (pa_cons (pe_un un_neg pe_int) (pa_cons pe_int pa_nil))) (pa_cons (pe_tup (pa_cons pe_int (pa_cons pe_int pa_nil))) pa_nil))))))))))) pa_nil))))), ?_⟩
    refine ⟨_, rfl, (small_line (by decide : 2 ≤ 1000)), fun p1 n1 => ?_⟩
    obtain ⟨s1, d1⟩ := dnewT (z := a) n1 (.cons (.int 1 (by decide +kernel)) (.cons (.int 1 (by decide +kernel)) .nil))
    refine ⟨_, rfl, (small_line (by decide : 2 ≤ 1000)), fun p2 n2 => ?_⟩
    obtain ⟨s2, d2⟩ := dnewT (z := a) n2 (.cons (.int (-1) (by decide +kernel)) (.cons (.int 1 (by decide +kernel)) .nil))
    refine ⟨(small_line (by decide : 2 ≤ 1000)), fun p3 n3 => ?_⟩
    obtain ⟨s3, d3⟩ := dnewT (z := a) n3 (.cons (.int 1 (by decide +kernel)) (.cons (.int 1 (by decide +kernel)) .nil))
    refine ⟨(small_line (by decide : 2 ≤ 1000)), fun p4 n4 => ?_⟩
    obtain ⟨s4, d4⟩ := dnewT (z := a) n4 (.cons (.int 2 (by decide +kernel)) (.cons (.int 1 (by decide +kernel)) .nil))
    refine ⟨_, rfl, (small_line (by decide : 2 ≤ 1000)), fun p5 n5 => ?_⟩
    obtain ⟨s5, d5⟩ := dnewT (z := a) n5 (.cons (.int (-2) (by decide +kernel)) (.cons (.int 1 (by decide +kernel)) .nil))
    refine ⟨(small_line (by decide : 2 ≤ 1000)), fun p6 n6 => ?_⟩
    obtain ⟨s6, d6⟩ := dnewT (z := a) n6 (.cons (.int 3 (by decide +kernel)) (.cons (.int 1 (by decide +kernel)) .nil))
    refine ⟨(small_line (by decide : 2 ≤ 1000)), fun p7 n7 => ?_⟩
    obtain ⟨s7, d7⟩ := dnewT (z := a) n7 (.cons (.int 1 (by decide +kernel)) (.cons (.int 2 (by decide +kernel)) .nil))
    refine ⟨_, rfl, (small_line (by decide : 2 ≤ 1000)), fun p8 n8 => ?_⟩
    obtain ⟨s8, d8⟩ := dnewT (z := a) n8 (.cons (.int (-3) (by decide +kernel)) (.cons (.int 2 (by decide +kernel)) .nil))
    refine ⟨_, rfl, (small_line (by decide : 2 ≤ 1000)), fun p9 n9 => ?_⟩
    obtain ⟨s9, d9⟩ := dnewT (z := a) n9 (.cons (.int (-1) (by decide +kernel)) (.cons (.int 1 (by decide +kernel)) .nil))
    refine ⟨(small_line (by decide : 2 ≤ 1000)), fun p10 n10 => ?_⟩
    obtain ⟨s10, d10⟩ := dnewT (z := a) n10 (.cons (.int 5 (by decide +kernel)) (.cons (.int 3 (by decide +kernel)) .nil))
    refine ⟨(small_line (by decide : 10 ≤ 1000)), fun p11 n11 => ?_⟩
    obtain ⟨s11, all, hrw⟩ := drow (z := a) n11 (.cons (d1.same (s2.trans (s3.trans (s4.trans (s5.trans (s6.trans (s7.trans (s8.trans (s9.trans s10))))))))) (.cons (d2.same (s3.trans (s4.trans (s5.trans (s6.trans (s7.trans (s8.trans (s9.trans s10)))))))) (.cons (d3.same (s4.trans (s5.trans (s6.trans (s7.trans (s8.trans (s9.trans s10))))))) (.cons (d4.same (s5.trans (s6.trans (s7.trans (s8.trans (s9.trans s10)))))) (.cons (d5.same (s6.trans (s7.trans (s8.trans (s9.trans s10))))) (.cons (d6.same (s7.trans (s8.trans (s9.trans s10)))) (.cons (d7.same (s8.trans (s9.trans s10))) (.cons (d8.same (s9.trans s10)) (.cons (d9.same s10) (.cons d10 .nil))))))))))
    have sR := (s1.trans (s2.trans (s3.trans (s4.trans (s5.trans (s6.trans (s7.trans (s8.trans (s9.trans (s10.trans s11))))))))))
    refine ⟨a, c, p11, _, rfl, hF.same sR, hrw, new_ne (hF.same (s1.trans (s2.trans (s3.trans (s4.trans (s5.trans (s6.trans (s7.trans (s8.trans (s9.trans s10)))))))))) n11, by show 0 < 10; decide, by show 10 ≤ 1000; decide, fun v H2 hv hF2 b2 => ?_⟩
    obtain ⟨d, hd, h⟩ := all.mem hv
    have h2 := h.but (hF.same sR) b2
    have bb := (But.of (a := a) sR).trans b2
    simp only [List.mem_cons, List.not_mem_nil, or_false] at hd
    rcases hd with rfl | rfl | rfl | rfl | rfl | rfl | rfl | rfl | rfl | rfl <;> exact q _ _ _ _ hF2 bb ⟨h2, by decide +kernel⟩ (by decide) (by decide) (by decide)
end
theorem join_singles : ∀ cs : List Nat, TL.joinL [] (cs.map fun c => [c]) = cs
  | [] => rfl
  | [c] => rfl
  | c :: d :: r => by
    show [c] ++ ([] ++ TL.joinL [] ((d :: r).map fun c => [c])) = c :: d :: r
    rw [join_singles (d :: r)]
    rfl
theorem FeedOk.put {H : Hp} {a c p : Addr} {o : HO} (h : FeedOk H a c) (h1 : p ≠ a) (h2 : p ≠ c) : FeedOk (L2.upd H p o) a c := by
  obtain ⟨ns, k, big, mark, e1, e2, h3⟩ := h
  exact ⟨ns, k, big, mark, by rw [upd_ne h1.symm]; exact e1, by rw [upd_ne h2.symm]; exact e2, h3⟩
theorem but_none {a p : Addr} {H H' : Hp} (b : But a H H') (n : H' p = none) (ne : p ≠ a) : H p = none := by
  cases e : H p with
  | none => rfl
  | some o =>
    rw [b p o ne e] at n
    cases n
theorem But.updN {a p : Addr} {H H' : Hp} {o : HO} (b : But a H H') (n : H p = none) : But a H (L2.upd H' p o) := fun q x hq e => by
  rw [upd_ne (ne_of_none e n)]
  exact b q x hq e
theorem new_nc {H : Hp} {a c p : Addr} (h : FeedOk H a c) (n : H p = none) : p ≠ c := by
  obtain ⟨_, _, _, _, _, hc, _⟩ := h
  exact (ne_of_none hc n).symm
section
variable {P : Program} {w : World} {K : PySem.W.Frag} {mg : Str → Option Value} {base : Heap} {fa : Nat → Addr} {fd : Nat → FuncData}
def spWords : Sp := fun vs H Q _ => ∃ (a c : Addr) (m : Nat), vs = [.ref a, .int (m : Int)] ∧ FeedOk H a c ∧ m ≤ 6 ∧ ∀ (p : Addr) (ws : List (List Nat)) (H' : Hp), FeedOk H' a c → But a H H' → p ≠ a → H' p = some (.lst (ws.map vS)) → ws.length = m → ws.Nodup → (∀ x ∈ ws, LW x) → Q (.ref p) H'
theorem ok_words (T : Txt K mg fa fd) : FnOk P w K mg base CX0 3 (fa 192) (fd 192) ["_law_feed_here", "_law_many"] spWords := by
  refine T.F_words.ok sc_words (fun vs H Q E h => ?_) (fun cdv A outer s H vs Q E hr h => ?_)
  · obtain ⟨a, c, m, rfl, _⟩ := h
    rfl
  · obtain ⟨a, c, m, rfl, hF, hm, q⟩ := h
    refine ⟨_, (C8.pss_cut (ps_set (i := 2) sc_words.nd rfl (.inr rfl) pe_str)
      (C8.pss_cut (ps_set (i := 3) sc_words.nd rfl (.inr rfl) (pe_m1 PySem.F.slot_str_join PySem.F.type_str_join mt_join pe_str (pe_lc (own := [("_law_k", 8)]) (g := gName 8) (tt := tYes) rfl sc_words.nd (pi_range1 (by rfl) T.m_range (pa_cons (pe_call (ok_draw T) (hr.mono (by decide)) (by rfl) T.g_draw T.F_draw.kp T.b_draw .nil pass0 (pa_cons (pv 0) (pa_cons pe_int pa_nil))) pa_nil)) (blkOk_by (own := [("_law_k", 8)]) (N := ["_law_feed_here", "_law_many", "_law_letters", "_law_stem", "_law_spot", "_law_first", "_law_way", "_law_found", "_law_k"]) (sc := defScope s_words) (by decide +kernel)) (fun _ _ _ _ _ => pg_name (i := 8) sc_words.nd rfl (Or.inl rfl)) (fun _ _ _ _ _ => pts_nil) (fun _ _ _ _ _ => (pe_ix ix_str (pv 2) (pe_call (ok_draw T) (hr.mono (by decide)) (by rfl) T.g_draw T.F_draw.kp T.b_draw .nil pass0 (pa_cons (pv 0) (pa_cons pe_int pa_nil))) (fun _ _ => rfl)))) (by rfl) (by rfl) (by rfl)))
      (C8.pss_cut (ps_asg (pe_tup (pa_cons (pe_call (ok_draw T) (hr.mono (by decide)) (by rfl) T.g_draw T.F_draw.kp T.b_draw .nil pass0 (pa_cons (pv 0) (pa_cons (pe_op op_add (pe_callB call_len_str (by rfl) T.m_len PySem.boot_len (pa_cons (pv 3) pa_nil)) pe_int) pa_nil))) (pa_cons (pe_call (ok_draw T) (hr.mono (by decide)) (by rfl) T.g_draw T.F_draw.kp T.b_draw .nil pass0 (pa_cons (pv 0) (pa_cons pe_int pa_nil))) (pa_cons (pe_call (ok_draw T) (hr.mono (by decide)) (by rfl) T.g_draw T.F_draw.kp T.b_draw .nil pass0 (pa_cons (pv 0) (pa_cons pe_int pa_nil))) pa_nil)))) (pg_tup (by rfl) (pgs_cons (pg_name (i := 4) sc_words.nd rfl (.inr rfl)) (pgs_cons (pg_name (i := 5) sc_words.nd rfl (.inr rfl)) (pgs_cons (pg_name (i := 6) sc_words.nd rfl (.inl rfl)) pgs_nil)))))
      (C8.pss_cut (ps_setLc (i := 7) (own := [("_law_k", 8)]) (g := gName 8) (tt := tYes) rfl sc_words.nd rfl rfl (sw_true rfl rfl rfl (by decide +kernel)) (pi_range1 (by rfl) T.m_range (pa_cons (pv 1) pa_nil)) (blkOk_by (own := [("_law_k", 8)]) (N := ["_law_feed_here", "_law_many", "_law_letters", "_law_stem", "_law_spot", "_law_first", "_law_way", "_law_found", "_law_k"]) (sc := defScope s_words) (by decide +kernel)) (fun _ _ _ _ _ => pg_name (i := 8) sc_words.nd rfl (Or.inl rfl)) (fun _ _ _ _ _ => pts_nil) (fun _ _ _ _ _ => (pe_op op_add_str (pe_op op_add_str (pe_slice sl_str (pv 3) po_none (po_some (pv 4))) (pe_ix ix_str (pv 2) (pe_op op_mod (pe_callTy call_int1 (by rfl) T.m_int PySem.Pv.boot_int (pa_cons (pe_op op_add (pv 5) (pe_op op_mul pe_int (pv 8))) pa_nil)) pe_int) (fun _ _ => rfl))) (pe_slice sl_str (pv 3) (po_some (pv 4)) po_none))))
      (C8.pss_cut (ps_if (pt_cmpR op_eq (pv 6) pe_int (nomark _)) (C8.pss_cut (ps_setLc (i := 7) (own := [("_law_k", 8)]) (g := gName 8) (tt := tYes) rfl sc_words.nd rfl rfl (sw_true rfl rfl rfl (by decide +kernel)) (pi_range1 (by rfl) T.m_range (pa_cons (pv 1) pa_nil)) (blkOk_by (own := [("_law_k", 8)]) (N := ["_law_feed_here", "_law_many", "_law_letters", "_law_stem", "_law_spot", "_law_first", "_law_way", "_law_found", "_law_k"]) (sc := defScope s_words) (by decide +kernel)) (fun _ _ _ _ _ => pg_name (i := 8) sc_words.nd rfl (Or.inl rfl)) (fun _ _ _ _ _ => pts_nil) (fun _ _ _ _ _ => (pe_slice sl_str (pe_op op_add_str (pe_slice sl_str (pv 3) po_none (po_some pe_int)) (pe_op op_mul_str (pe_ix ix_str (pv 2) (pe_op op_mod (pe_callTy call_int1 (by rfl) T.m_int PySem.Pv.boot_int (pa_cons (pe_op op_add (pv 5) (pe_op op_mul pe_int (pv 8))) pa_nil)) pe_int) (fun _ _ => rfl)) (pe_op op_add pe_int (pe_op op_mod (pe_callTy call_int1 (by rfl) T.m_int PySem.Pv.boot_int (pa_cons (pe_op op_add (pv 8) (pv 5)) pa_nil)) pe_int)))) (po_some (pe_un un_neg pe_int)) po_none)))
      (pss_one (ps_set (i := 7) sc_words.nd rfl (.inl rfl) (pe_ifExp (pt_cmpR op_eq (pe_callB call_len_seq (by rfl) T.m_len PySem.boot_len (pa_cons (pe_callB (cr_sortedW rfl) (by rfl) T.m_sorted (by decide +kernel) (pa_cons (pe_callTy (cr_setS rfl) (by rfl) T.m_set (by decide +kernel) (pa_cons (pv 7) pa_nil)) pa_nil)) pa_nil)) (pv 1) (nomark _)) (pv 7) (pe_lc (own := [("_law_k", 8)]) (g := gName 8) (tt := tYes) rfl sc_words.nd (pi_range1 (by rfl) T.m_range (pa_cons (pv 1) pa_nil)) (blkOk_by (own := [("_law_k", 8)]) (N := ["_law_feed_here", "_law_many", "_law_letters", "_law_stem", "_law_spot", "_law_first", "_law_way", "_law_found", "_law_k"]) (sc := defScope s_words) (by decide +kernel)) (fun _ _ _ _ _ => pg_name (i := 8) sc_words.nd rfl (Or.inl rfl)) (fun _ _ _ _ _ => pts_nil) (fun _ _ _ _ _ => (pe_ix ix_str (pv 2) (pe_op op_mod (pe_callTy call_int1 (by rfl) T.m_int PySem.Pv.boot_int (pa_cons (pe_op op_add (pv 5) (pe_op op_mul pe_int (pv 8))) pa_nil)) pe_int) (fun _ _ => rfl)))))))) pss_nil)
      (pss_one (ps_ret (pv 7)))))))), ?_⟩
    refine ⟨fun σ H1 => H1 = H ∧ σ = [some (.ref a), some (.int m), some (.str ABC), none, none, none, none, none, none], ⟨rfl, rfl⟩, fun σ H1 hM => ?_⟩
    obtain ⟨rfl, rfl⟩ := hM
    -- stem
    refine ⟨fun σ H2 => FeedOk H2 a c ∧ But a H1 H2 ∧ ∃ st : List Nat, st.length ≤ 5 ∧ st.all lowc = true ∧ σ = [some (.ref a), some (.int m), some (.str ABC), some (vS st), none, none, none, none, none], ?_, fun σ H2 hM => ?_⟩
    · refine ⟨⟨_, rfl⟩, _, rfl, a, c, _, rfl, hF, mid_of (by decide) (by decide), fun r H2 r0 r1 hF2 b2 => ?_⟩
      refine ⟨r, rfl, by omega, by omega, fun D nD => ?_⟩
      obtain ⟨n, rfl⟩ := Int.eq_ofNat_of_zero_le r0
      have nDa := new_ne hF2 nD
      have nDc := new_nc hF2 nD
      have nD1 := but_none b2 nD nDa
      refine lc_range (n := n) (fun i H3 => FeedOk H3 a c ∧ But a H1 H3 ∧ ∃ st : List Nat, st.length = i ∧ st.all lowc = true ∧ H3 D = some (.lst (st.map fun c => vS [c]))) ⟨hF2.new nD, b2.updN nD1, [], rfl, rfl, upd_same⟩ (fun i H3 hi hp => ?_) (fun H3 hp => ?_)
      · obtain ⟨hF3, b3, st, hl, hs, hD⟩ := hp
        refine ⟨rfl, _, rfl, _, rfl, a, c, _, rfl, hF3, mid_of (by decide) (by decide), fun r2 H4 r3 r4 hF4 b4 => ?_⟩
        refine ⟨_, _, _, rfl, rfl, small_line (by decide), abc_at r3 r4, _, b4 _ _ nDa hD, ?_, hF4.put nDa nDc, (b3.trans b4).updN nD1, st ++ [97 + r2.toNat], ?_, ?_, ?_⟩
        · rw [List.length_map]
          exact small1000 (by omega)
        · rw [List.length_append, hl]
          rfl
        · rw [List.all_append, hs, Bool.true_and]
          simp [low_abc (show r2.toNat < 26 by omega)]
        · rw [upd_same, List.map_append]
          rfl
      · obtain ⟨hF3, b3, st, hl, hs, hD⟩ := hp
        have em : (st.map fun c => vS [c]) = (st.map fun c => SX.S [c]).map V.str := by rw [List.map_map]; rfl
        refine ⟨_, D, st.map fun c => SX.S [c], rfl, rfl, .inl (SqL.of (by rw [← em]; exact hD)), ?_, hF3, b3, st, by omega, hs, ?_⟩
        · have : ∀ l : List Nat, ((l.map fun c => SX.S [c]).map (·.length)).sum = l.length := fun l => by
            induction l with
            | nil => rfl
            | cons x l ih =>
              rw [List.map_cons, List.map_cons, List.sum_cons, ih, List.length_cons, SX.S_len]
              exact Nat.add_comm _ _
          rw [this, List.length_map]
          show st.length + st.length * 0 ≤ _
          omega
        · have e : Txt.join (Str.ofString "") (st.map fun c => SX.S [c]) = SX.S st := by
            have := SX.join_S [] (st.map fun c => [c])
            rw [join_singles, List.map_map] at this
            exact this
          rw [e]
          rfl
    · obtain ⟨hF2, b2, st, hst, hsl, rfl⟩ := hM
      -- spot, first, way
      refine ⟨fun σ H3 => FeedOk H3 a c ∧ But a H1 H3 ∧ ∃ (sp f : Nat) (wy : Int), f < 26 ∧ σ = [some (.ref a), some (.int m), some (.str ABC), some (vS st), some (.int sp), some (.int f), some (.int wy), none, none], ?_, fun σ H3 hM => ?_⟩
      · have sl : (SX.S st).length = st.length := SX.S_len st
        refine ⟨_, rfl, _, rfl, _, rfl, small_line (by omega), _, _, rfl, rfl, a, c, _, rfl, hF2, mid_of (by omega) (by omega), fun r H3 r0 r1 hF3 b3 => ?_⟩
        refine ⟨_, rfl, a, c, _, rfl, hF3, mid_of (by decide) (by decide), fun r2 H4 r3 r4 hF4 b4 => ?_⟩
        refine ⟨_, rfl, a, c, _, rfl, hF4, mid_of (by decide) (by decide), fun r5 H5 _ _ hF5 b5 => ?_⟩
        refine ⟨small_line (by show 3 ≤ 1000; decide), fun p np => ⟨p, _, rfl, .inl (.inl upd_same), rfl, _, _, rfl, _, _, rfl, _, _, rfl, rfl, ?_⟩⟩
        obtain ⟨sp, rfl⟩ := Int.eq_ofNat_of_zero_le r0
        obtain ⟨f, rfl⟩ := Int.eq_ofNat_of_zero_le r3
        exact ⟨hF5.new np, (b2.trans (b3.trans (b4.trans b5))).trans (But.of (same_upd np)), sp, f, r5, by omega, rfl⟩
      · clear hF2 b2 H2
        obtain ⟨hF3, b3, sp, f, wy, hf, rfl⟩ := hM
        -- found
        refine ⟨fun σ H4 => FeedOk H4 a c ∧ But a H1 H4 ∧ ∃ p, p ≠ a ∧ H4 p = some (.lst (((List.range m).map fun k => st.take sp ++ [five f k] ++ st.drop sp).map vS)) ∧ σ = [some (.ref a), some (.int m), some (.str ABC), some (vS st), some (.int sp), some (.int f), some (.int wy), some (.ref p), none], ?_, fun σ H4 hM => ?_⟩
        · refine ⟨_, rfl, _, rfl, by omega, by omega, fun D nD => ?_⟩
          have nDa := new_ne hF3 nD
          have nDc := new_nc hF3 nD
          have nD1 := but_none b3 nD nDa
          have sl : (SX.S st).length = st.length := SX.S_len st
          refine lc_range (n := m) (fun i H4 => FeedOk H4 a c ∧ But a H1 H4 ∧ H4 D = some (.lst (((List.range i).map fun k => st.take sp ++ [five f k] ++ st.drop sp).map vS))) ⟨hF3.new nD, b3.updN nD1, upd_same⟩ (fun i H4 hi hp => ?_) (fun H4 hp => ⟨hp.1, hp.2.1, D, nDa, hp.2.2, rfl⟩)
          obtain ⟨hF4, b4, hD⟩ := hp
          have m0 : (0 : Int) ≤ ((f : Int) + 5 * (0 + (i : Int))) % 26 := by omega
          have m1 : ((f : Int) + 5 * (0 + (i : Int))) % 26 < 26 := by omega
          have m2 : 97 + (((f : Int) + 5 * (0 + (i : Int))) % 26).toNat = five f i := by
            unfold five
            omega
          have it := abc_at m0 m1
          rw [m2] at it
          refine ⟨rfl, _, rfl, _, rfl, _, rfl, _, rfl, small_line (by omega), _, rfl, _, rfl, _, rfl, _, _, rfl, rfl, .inl (by decide), _, _, rfl, rfl, .inl ⟨_, rfl, _, _, rfl, rfl, (by show (0 : Int) < 26; decide), ?_⟩⟩
          refine ⟨_, _, _, rfl, rfl, small_line (by decide), it, _, _, rfl, rfl, ?_, _, rfl, _, rfl, _, rfl, _, rfl, small_line (by omega), _, _, rfl, rfl, ?_, _, hD, ?_, ?_, ?_, ?_⟩
          · rw [cut_to, SX.S_len, List.length_take]
            exact small_line (by show min sp st.length + 1 ≤ 1000; omega)
          · rw [cut_to, cut_from, show ({ cps := #[five f i] } : Str) = SX.S [five f i] from rfl, SX.S_cat, SX.S_len, SX.S_len, List.length_append, List.length_take, List.length_drop]
            exact small_line (by show min sp st.length + 1 + (st.length - sp) ≤ 1000; omega)
          · rw [List.length_map, List.length_map, List.length_range]
            exact small1000 (by omega)
          · exact hF4.put nDa nDc
          · exact b4.updN nD1
          · rw [upd_same, cut_to, cut_from, show ({ cps := #[five f i] } : Str) = SX.S [five f i] from rfl, SX.S_cat, SX.S_cat, List.range_succ, List.map_append, List.map_append]
            rfl
        · clear hF3 b3 H3
          obtain ⟨hF4, b4, p, npa, hp, rfl⟩ := hM
          have lw0 : ∀ x ∈ (List.range m).map fun k => st.take sp ++ [five f k] ++ st.drop sp, LW x := fun x hx => by
            obtain ⟨k, hk, rfl⟩ := List.mem_map.mp hx
            exact LW.put hst hsl (low_abc (Nat.mod_lt _ (by decide)))
          have nd0 : ((List.range m).map fun k => st.take sp ++ [five f k] ++ st.drop sp).Nodup := nodup_range_map fun i j hi hj e => five_inj (by omega) (by omega) (put_inj e)
          -- way
          refine ⟨fun σ H5 => ∃ (p : Addr) (ws : List (List Nat)), FeedOk H5 a c ∧ But a H1 H5 ∧ p ≠ a ∧ H5 p = some (.lst (ws.map vS)) ∧ ws.length = m ∧ ws.Nodup ∧ (∀ x ∈ ws, LW x) ∧ σ = [some (.ref a), some (.int m), some (.str ABC), some (vS st), some (.int sp), some (.int f), some (.int wy), some (.ref p), none], ?_, fun σ H5 hM => ?_⟩
          · refine ⟨_, rfl, rfl, _, rfl, ite2 (fun _ => ?_) (fun _ => ⟨p, _, hF4, b4, npa, hp, by rw [List.length_map, List.length_range], nd0, lw0, rfl⟩)⟩
            refine ⟨fun σ H5 => FeedOk H5 a c ∧ But a H1 H5 ∧ ∃ (p : Addr) (ws : List (List Nat)), p ≠ a ∧ H5 p = some (.lst (ws.map vS)) ∧ ws.length = m ∧ (∀ x ∈ ws, LW x) ∧ σ = [some (.ref a), some (.int m), some (.str ABC), some (vS st), some (.int sp), some (.int f), some (.int wy), some (.ref p), none], ?_, fun σ H5 hM => ?_⟩
            · refine ⟨_, rfl, _, rfl, by omega, by omega, fun D nD => ?_⟩
              have nDa := new_ne hF4 nD
              have nDc := new_nc hF4 nD
              have nD1 := but_none b4 nD nDa
              refine lc_range (n := m) (fun i H5 => FeedOk H5 a c ∧ But a H1 H5 ∧ ∃ ws : List (List Nat), ws.length = i ∧ (∀ x ∈ ws, LW x) ∧ H5 D = some (.lst (ws.map vS))) ⟨hF4.new nD, b4.updN nD1, [], rfl, (fun x h => by cases h), upd_same⟩ (fun i H5 hi hp => ?_) (fun H5 hp => by
                obtain ⟨h1, h2, ws, h3, h4, h5⟩ := hp
                exact ⟨h1, h2, D, ws, nDa, h5, h3, h4, rfl⟩)
              obtain ⟨hF5, b5, ws, hl, hw, hD⟩ := hp
              have m0 : (0 : Int) ≤ ((f : Int) + 7 * (0 + (i : Int))) % 26 := by omega
              have m1 : ((f : Int) + 7 * (0 + (i : Int))) % 26 < 26 := by omega
              have it := abc_at m0 m1
              have lc := low_abc (show (((f : Int) + 7 * (0 + (i : Int))) % 26).toNat < 26 by omega)
              generalize 97 + (((f : Int) + 7 * (0 + (i : Int))) % 26).toNat = cd at it lc
              have r0 : 0 ≤ (1 : Int) + ((0 + (i : Int)) + (f : Int)) % 4 := by omega
              have r1 : 1 ≤ ((1 : Int) + ((0 + (i : Int)) + (f : Int)) % 4).toNat := by omega
              have r2 : ((1 : Int) + ((0 + (i : Int)) + (f : Int)) % 4).toNat ≤ 4 := by omega
              have r3 : (1 : Int) + ((0 + (i : Int)) + (f : Int)) % 4 ≤ 4 := by omega
              have sl : (SX.S st).length = st.length := SX.S_len st
              refine ⟨rfl, _, rfl, _, rfl, _, rfl, small_line (by omega), _, rfl, _, rfl, _, rfl, _, _, rfl, rfl, .inl (by decide), _, _, rfl, rfl, .inl ⟨_, rfl, _, _, rfl, rfl, (by show (0 : Int) < 26; decide), ?_⟩⟩
              refine ⟨_, _, _, rfl, rfl, small_line (by decide), it, _, rfl, _, rfl, _, _, rfl, rfl, .inl ⟨_, rfl, _, _, rfl, rfl, (by show (0 : Int) < 4; decide), ?_⟩⟩
              refine ⟨_, _, rfl, rfl, _, _, rfl, rfl, mul_one1 rfl (by omega) (by omega), ?_⟩
              generalize (1 : Int) + ((0 + (i : Int)) + (f : Int)) % 4 = N at r0 r1 r2 r3
              have e1 : cutS (SX.S st) none (some 1) = SX.S (st.take 1) := cut_to st 1
              have e2 : Txt.mul { cps := #[cd] } N = SX.S (List.replicate N.toNat cd) := mul_rep cd N
              have l5 : (st.take 1 ++ List.replicate N.toNat cd).length ≤ 6 := (LW.rep (a := st) hsl lc r1 (by omega)).2.1
              have whole : cutS (cutS (SX.S st) none (some 1) ++ Txt.mul { cps := #[cd] } N) (some (-6)) none = SX.S (st.take 1 ++ List.replicate N.toNat cd) := by
                rw [e1, e2, SX.S_cat]
                exact cut_last _ (k := 6) l5 (by decide)
              refine ⟨_, _, rfl, rfl, ?_, _, rfl, _, rfl, _, rfl, ?_, _, hD, ?_, hF5.put nDa nDc, b5.updN nD1, ws ++ [st.take 1 ++ List.replicate N.toNat cd], ?_, ?_, ?_⟩
              · rw [e1, e2, SX.S_len, SX.S_len, ← List.length_append]
                exact small_line (by omega)
              · rw [e1, e2, SX.S_cat, SX.S_len]
                exact small_line (by omega)
              · rw [List.length_map]
                exact small1000 (by omega)
              · rw [List.length_append, hl]
                rfl
              · intro x hx
                rcases List.mem_append.mp hx with h | h
                · exact hw x h
                · rw [List.mem_singleton.mp h]
                  exact LW.rep hsl lc r1 (by omega)
              · rw [upd_same, List.map_append]
                exact congrArg (fun z => some (HO.lst (ws.map vS ++ [V.str z]))) whole
            · clear hF4 b4 hp npa p nd0 lw0 H4
              obtain ⟨hF5, b5, p, ws, npa, hp, hl, hw, rfl⟩ := hM
              have hpS : H5 p = some (.lst ((ws.map SX.S).map V.str)) := by
                rw [List.map_map]
                exact hp
              have il := insAll_len (ws.map SX.S) []
              rw [List.length_map] at il
              simp only [List.length_nil, Nat.add_zero] at il
              refine ⟨_, rfl, p, _, rfl, SqL.of hpS, by rw [List.length_map]; omega, fun q nq => ⟨q, _, rfl, upd_same, insAll_nodup _ List.nodup_nil, by omega, fun zs r pm _ nr => ?_⟩⟩
              refine ⟨r, _, rfl, .inl (SqL.of upd_same), _, rfl, rfl, _, rfl, ?_⟩
              have sq := same_upd (o := SetW P w q (insAll (ws.map SX.S) [])) nq
              have sr := same_upd (o := .lst (zs.map V.str)) nr
              have sx := sq.trans sr
              have hF7 := hF5.same sx
              have b7 := b5.trans (But.of (a := a) sx)
              have hp7 := sx _ _ hp
              generalize upd (upd H5 q (SetW P w q (insAll (ws.map SX.S) []))) r (.lst (zs.map V.str)) = H7 at hF7 b7 hp7 ⊢
              refine ite2 (fun e => ?_) (fun _ => ?_)
              · have e := V.int.inj (of_decide_eq_true e)
                rw [List.length_map] at e
                have el : (insAll (ws.map SX.S) []).length = (ws.map SX.S).length + ([] : List Str).length := by
                  rw [← pm.length_eq, List.length_map, List.length_nil]
                  omega
                exact ⟨_, rfl, p, ws, hF7, b7, npa, hp7, hl, nodup_S (ins_all_full _ _ el).1, hw, rfl⟩
              · refine ⟨_, rfl, _, rfl, by omega, by omega, fun D nD => ?_⟩
                have nDa := new_ne hF7 nD
                have nDc := new_nc hF7 nD
                have nD1 := but_none b7 nD nDa
                refine lc_range (n := m) (fun i H8 => FeedOk H8 a c ∧ But a H1 H8 ∧ H8 D = some (.lst (((List.range i).map fun k => [five f k]).map vS))) ⟨hF7.new nD, b7.updN nD1, upd_same⟩ (fun i H8 hi hp => ?_) (fun H8 hp => ?_)
                · obtain ⟨hF8, b8, hD⟩ := hp
                  have m0 : (0 : Int) ≤ ((f : Int) + 5 * (0 + (i : Int))) % 26 := by omega
                  have m1 : ((f : Int) + 5 * (0 + (i : Int))) % 26 < 26 := by omega
                  have m2 : 97 + (((f : Int) + 5 * (0 + (i : Int))) % 26).toNat = five f i := by
                    unfold five
                    omega
                  have it := abc_at m0 m1
                  rw [m2] at it
                  refine ⟨rfl, _, rfl, _, rfl, _, rfl, _, _, rfl, rfl, .inl (by decide), _, _, rfl, rfl, .inl ⟨_, rfl, _, _, rfl, rfl, (by show (0 : Int) < 26; decide), ?_⟩⟩
                  refine ⟨_, _, _, rfl, rfl, small_line (by decide), it, _, hD, ?_, hF8.put nDa nDc, b8.updN nD1, ?_⟩
                  · rw [List.length_map, List.length_map, List.length_range]
                    exact small1000 (by omega)
                  · rw [upd_same, List.range_succ, List.map_append, List.map_append]
                    rfl
                · obtain ⟨hF8, b8, hD⟩ := hp
                  refine ⟨D, _, hF8, b8, nDa, hD, by rw [List.length_map, List.length_range], nodup_range_map fun i j hi hj e => five_inj (by omega) (by omega) (List.cons.inj e).1, fun x hx => ?_, rfl⟩
                  obtain ⟨k, hk, rfl⟩ := List.mem_map.mp hx
                  exact LW.one (low_abc (Nat.mod_lt _ (by decide)))
          · obtain ⟨p, ws, hF5, b5, npa, hp, hl, hn, hw, rfl⟩ := hM
            exact ⟨_, rfl, q p ws H5 hF5 b5 npa hp hl hn hw⟩
end
abbrev Nm := List Nat
abbrev Tie := List It × FR
def RR : List FR := ([-5, -4, -3, -2, -1, 1, 2, 3, 4, 5] : List Int).flatMap fun t => (([1, 2, 3] : List Int).filter fun u => Int.gcd t u == 1).map fun u => (t, u)
theorem rr_in {t u : Int} (ht : t ≠ 0) (h5 : t.natAbs ≤ 5) (hu : 0 < u) (h3 : u.natAbs ≤ 3) (hg : Int.gcd t u = 1) : (t, u) ∈ RR := by
  unfold RR
  rw [List.mem_flatMap]
  refine ⟨t, ?_, ?_⟩
  · simp only [List.mem_cons, List.not_mem_nil, or_false]
    omega
  · rw [List.mem_map]
    refine ⟨u, List.mem_filter.mpr ⟨?_, ?_⟩, rfl⟩
    · simp only [List.mem_cons, List.not_mem_nil, or_false]
      omega
    · exact beq_iff_eq.mpr hg
theorem okr_rr {r : PyData} (h : okR r) : ∃ f ∈ RR, r = frP f := by
  obtain ⟨t, u, rfl⟩ := ratD_inv h.1
  have h1 : (decide (1 ≤ u) && decide (Int.gcd t u = 1)) = true := h.1
  simp only [Bool.and_eq_true, decide_eq_true_eq] at h1
  have h2 := h.2.1
  have h3 := h.2.2
  refine ⟨(t, u), rr_in ?_ ?_ (by omega) ?_ h1.2, rfl⟩
  · exact of_decide_eq_true (show decide (t ≠ 0) = true from h2)
  · exact (of_decide_eq_true (show decide (t.natAbs ≤ 5 ∧ u.natAbs ≤ 3) = true from h3)).1
  · exact (of_decide_eq_true (show decide (t.natAbs ≤ 5 ∧ u.natAbs ≤ 3) = true from h3)).2
theorem rr_bd : ∀ f ∈ RR, f.1 ≠ 0 ∧ BdF f := by
  have h : (RR.all fun f => decide (f.1 ≠ 0) && decide (0 < f.2) && decide (f.1.natAbs < 2 ^ 10) && decide (f.2.natAbs < 2 ^ 10)) = true := by decide +kernel
  intro f hf
  have := List.all_eq_true.mp h f hf
  simp only [Bool.and_eq_true, decide_eq_true_eq] at this
  exact ⟨this.1.1.1, Bn.mono (k := 10) ⟨this.1.2, this.2⟩ (by decide), this.1.1.2⟩
theorem paired_mono {α β : Type} {R S : α → β → Prop} (h : ∀ a b, R a b → S a b) : ∀ {xs : List α} {ys : List β}, Paired R xs ys → Paired S xs ys
  | _, _, .nil => .nil
  | _, _, .cons r t => .cons (h _ _ r) (paired_mono h t)
theorem paired_snoc {α β : Type} {R : α → β → Prop} : ∀ {xs : List α} {ys : List β} {x : α} {y : β}, Paired R xs ys → R x y → Paired R (xs ++ [x]) (ys ++ [y])
  | _, _, _, _, .nil, h => .cons h .nil
  | _, _, _, _, .cons r t, h => .cons r (paired_snoc t h)
theorem paired_at {α β : Type} {R : α → β → Prop} : ∀ {xs : List α} {ys : List β} (i : Nat) {y : β}, Paired R xs ys → ys[i]? = some y → ∃ x, xs[i]? = some x ∧ R x y
  | _, _, 0, _, .cons r _, e => ⟨_, rfl, by cases e; exact r⟩
  | _, _, i + 1, _, .cons _ t, e => paired_at i t e
def Bf (N : Nat) (f : FR) : Prop := f.1.natAbs ≤ N ∧ 0 < f.2 ∧ f.2.natAbs ≤ N
def ValD (H : Hp) (d : Addr) (val : List Nat → FR) (ns : List (List Nat)) : Prop := ∃ kvs, H d = some (.dK kvs) ∧ ∀ x ∈ ns, Bf 10 (val x) ∧ ∃ p, valV kvs (.inr (SX.S x)) = some (.ref p) ∧ H p = some (.tup [.int (val x).1, .int (val x).2])
theorem ValD.same {H H' : Hp} {d : Addr} {val : List Nat → FR} {ns : List (List Nat)} (h : ValD H d val ns) (s : Same H H') : ValD H' d val ns := by
  obtain ⟨kvs, e, k⟩ := h
  refine ⟨kvs, s _ _ e, fun x hx => ?_⟩
  obtain ⟨b, p, e1, e2⟩ := k x hx
  exact ⟨b, p, e1, s _ _ e2⟩
/-! ### drawn values -/
theorem valV_not {kvs : List (Key × V)} {k : Key} (h : k ∉ kvs.map (·.1)) : valV kvs k = none := by
  induction kvs with
  | nil => rfl
  | cons p r ih =>
    rw [List.map_cons, List.mem_cons] at h
    rw [valV_neg (fun z => h (.inl z.symm))]
    exact ih fun z => h (.inr z)
theorem merge_nodup : ∀ (kvs acc : List (Key × V)), ((acc ++ kvs).map (·.1)).Nodup → mergeK acc kvs = acc ++ kvs
  | [], acc, _ => (List.append_nil acc).symm
  | kv :: kvs, acc, h => by
    have h1 : valV acc kv.1 = none := valV_not fun z => by
      rw [List.map_append, List.map_cons] at h
      exact (List.nodup_append.mp h).2.2 _ z _ List.mem_cons_self rfl
    show mergeK (putK acc kv.1 kv.2) kvs = _
    rw [putK_new _ h1, merge_nodup kvs (acc ++ [kv]) (by rw [List.append_assoc]; exact h), List.append_assoc]
    rfl
def okV (v : V) : Prop := False ∨ ∃ q, v = .ref q
def PointD (H : Hp) (d : Addr) (val : List Nat → FR) (ns : List (List Nat)) : Prop := ∃ kvs, H d = some (.dK kvs) ∧ (∀ e ∈ kvs, valV kvs e.1 = some e.2 ∧ okV e.2) ∧ ∀ x ∈ ns, Bf 10 (val x) ∧ ∃ p, valV kvs (.inr (SX.S x)) = some (.ref p) ∧ H p = some (.tup [.int (val x).1, .int (val x).2])
theorem PointD.val {H : Hp} {d : Addr} {val : List Nat → FR} {ns ms : List (List Nat)} (h : PointD H d val ns) (s : ∀ x ∈ ms, x ∈ ns) : ValD H d val ms := by
  obtain ⟨kvs, e, _, k⟩ := h
  exact ⟨kvs, e, fun x hx => k x (s x hx)⟩
theorem PointD.same {H H' : Hp} {d : Addr} {val : List Nat → FR} {ns : List (List Nat)} (h : PointD H d val ns) (s : Same H H') : PointD H' d val ns := by
  obtain ⟨kvs, e, g, k⟩ := h
  refine ⟨kvs, s _ _ e, g, fun x hx => ?_⟩
  obtain ⟨b, p, e1, e2⟩ := k x hx
  exact ⟨b, p, e1, s _ _ e2⟩
section
variable {P : Program} {w : World} {K : PySem.W.Frag} {mg : Str → Option Value} {base : Heap} {fa : Nat → Addr} {fd : Nat → FuncData}
def spPoint : Sp := fun vs H Q _ => ∃ (a c p : Addr) (ws : List (List Nat)), vs = [.ref a, .ref p] ∧ FeedOk H a c ∧ p ≠ a ∧ H p = some (.lst (ws.map vS)) ∧ ws.Nodup ∧ ws.length ≤ 6 ∧ ∀ d val H', FeedOk H' a c → But a H H' → PointD H' d val ws → Q (.ref d) H'
end
/-! ### for i, x in enumerate(tuple) -/
section
open AutoSeq1 (wpAny_loadPart')
set_option maxHeartbeats 1000000 in
theorem en1_meets {v : Value} {ob : Obj} {G : Heap → Prop} (B : Begins v ob G) : Meets (Builtin.«enumerate.__new__» ⟨[.type "enumerate", v], []⟩) (fun _ R s => G s.heap ∧
      R (.ok (.ret (.ref (s.heap.push ob).objs.size))) { s with heap := (s.heap.push ob).push { cls := .type "enumerate", data := .fields #[.none, .bool false, .ref s.heap.objs.size, rawInt 0, .none, .none] } }) := .of_wp fun prog w A R s hG => by
  obtain ⟨hp, gg, dr, tk, os⟩ := s
  obtain ⟨g1, hG⟩ := hG
  have se := sub_enumerate
  have pit : ∀ {A' : Around} {E' : Value → Shared → Prop} {Q' : Value → Shared → Prop}, Q' (.ref hp.objs.size) ⟨hp.push ob, gg, dr, tk, os⟩ → wpAny (model prog w) A' (pyIter v) Q' E' ⟨hp, gg, dr, tk, os⟩ := fun q => B.iter prog w _ _ ⟨hp, gg, dr, tk, os⟩ _ g1 q
  wp_walk using pit
  refine wpAny_stack_any fun _ => wpAny_pure ?_
  split
  · rename_i c' _ _ _ _ _
    cases (c' == Value.type "enumerate") <;> (wp_walk using pit; exact ⟨_, rfl, hG⟩)
  · wp_walk using pit
    exact ⟨_, rfl, hG⟩
theorem en1_call {prog : Program} {w : World} {A : Around} {E : Value → Shared → Prop} {s : Shared} {v : Value} {ob : Obj} {G : Heap → Prop} {Q : Value → Shared → Prop} (B : Begins v ob G) (g1 : G s.heap)
    (q : ∀ h', IsEnum h' (s.heap.objs.size + 1) s.heap.objs.size 0 .none → h'.get? s.heap.objs.size = some ob → (∀ b o, s.heap.get? b = some o → h'.get? b = some o) → Q (.ref (s.heap.objs.size + 1)) { s with heap := h' }) :
    wpAny (model prog w) A (call (.type "enumerate") [v]) Q E s := by
  refine callType_new F.called_enumerate (by decide) (F.typeCall_enumerate_1 _) (F.newCall_enumerate_1 _) (fun x => F.args_object_init_2 x _) F.entry_enumerate_new (en1_meets B) ⟨g1, ?_⟩
  have z1 : (s.heap.push ob).objs.size = s.heap.objs.size + 1 := Heap.size_push ..
  have e1 := Heap.get?_push_size (s.heap.push ob) (o := { cls := .type "enumerate", data := .fields #[.none, .bool false, .ref s.heap.objs.size, rawInt 0, .none, .none] }) rfl
  show _ ∧ _
  rw [z1] at e1 ⊢
  exact ⟨⟨_, e1, rfl⟩, q _ e1 (Heap.get?_push_of_some _ (Heap.get?_push_size _ B.free)) fun b o x => Heap.get?_push_of_some _ (Heap.get?_push_of_some _ x)⟩
end
/-- each item of the tuple at a in a new pair -/
def IteT (K : PySem.W.Frag) (a : Addr) : L2.It :=
  ⟨fun i H => ∃ (xs : List V) (x : V), SqT K H a xs ∧ xs[i]? = some x, fun i H v H' => ∃ T x, v = .ref T ∧ H T = none ∧ H' = upd H T (.tup [.int (i : Nat), x]) ∧ ∀ ys, SqT K H a ys → ys[i]? = some x, fun i H => ∃ xs : List V, SqT K H a xs ∧ xs.length ≤ i⟩
theorem turn_enumT {P : Program} {w : World} {K : PySem.W.Frag} {elts : List Expr} {kk : Nat} {tpos : Pos} (a e it : Addr) :
    Turn P w K (.Tuple elts kk tpos) (IteT K a) [e, it] e (fun i h => (∃ v, IsEnum h e it ((i : Nat) : Int) v) ∧ h.IsTupleIter it a i ∧ e ≠ it ∧ e ≠ a ∧ a ≠ it) where
  mem := List.mem_cons_self
  obj := fun i h st b hb => by
    obtain ⟨⟨v0, he⟩, ⟨o, ho, hc, hd⟩, _⟩ := st
    rcases (by simpa using hb : b = e ∨ b = it) with rfl | rfl
    · exact ⟨_, he, fun v q => nomatch q⟩
    · exact ⟨o, ho, fun v q => by rw [hd] at q; cases q⟩
  keep := fun i h h' st k => by
    obtain ⟨⟨v0, he⟩, hit, n1, n2, n3⟩ := st
    exact ⟨⟨v0, k e List.mem_cons_self _ he⟩, hit.at fun o q => k it (List.mem_cons_of_mem _ List.mem_cons_self) o q, n1, n2, n3⟩
  item := by
    intro X hP hw hK hc i pins s σ H E I hf st hg
    cases hP
    cases hw
    cases hK
    obtain ⟨⟨v0, he⟩, hit, n1, n2, n3⟩ := st
    obtain ⟨xs, x, hq, hx⟩ := hg
    obtain ⟨us, rv, tp, hz⟩ := I.tuple hq
    obtain ⟨u, hu, ru⟩ := rv.get hx
    have le1 : e < s.heap.objs.size := Heap.lt_size he
    have le2 : it < s.heap.objs.size := by
      obtain ⟨_, q, _⟩ := hit
      exact Heap.lt_size q
    have tp' : s.heap.IsTuple a us.toArray := tp
    have hh : X.A.in1.handled = none := I.ok.hd hc
    refine wpAny_pyNext_enum_itemD (Draws.tuple hh it a n3 us.toArray) he ⟨hit, tp'⟩ (i := i) (by have := (List.getElem?_eq_some_iff.mp hu).1; simpa using this) n1 (by simp [n1, n2]) fun y h1 tk hy ho hst hT hsz hk => ?_
    have ey : y = u := by
      have hy' : us.toArray[i]? = some y := hy
      rw [List.getElem?_toArray, hu] at hy'
      exact (Option.some.inj hy').symm
    subst ey
    refine ⟨_, rfl, wpAny_letOwnedTupleGo_enum (s := { s with heap := h1, toks := tk + 1 }) ho fun h2 he2 sb => ?_⟩
    have hT2 : h2.get? s.heap.objs.size = some { cls := .type "tuple", data := .seq #[.int i tk, y] } := (sb.2 _ (Nat.ne_of_gt le1)).trans hT
    have newO : ObjOk X.prog X.w (upd H s.heap.objs.size (.tup [.int (i : Nat), x])) h2 s.heap.objs.size (.tup [.int (i : Nat), x]) :=
      ⟨by show 2 ≤ sizeLine; decide, [.int i tk, y], .cons ⟨_, rfl⟩ (.cons ru .nil), ⟨_, hT2, rfl, _, rfl⟩⟩
    have I1 : Inv X pins σ (upd H s.heap.objs.size (.tup [.int (i : Nat), x])) { s with heap := h2, toks := tk + 1 } :=
      I.turnedNew (ch := [e, it]) (fun b ob hb q => (sb.2 b (fun z => hb (by simp [z]))).trans (hk b ob (fun z => hb (by simp [z])) (fun z => hb (by simp [z])) q)) hf (Nat.le_refl _) newO
    refine ⟨.ref s.heap.objs.size, _, I1, rfl, ⟨_, x, rfl, I.hok.fresh (Nat.le_refl _), rfl, fun ys hy2 => by rw [I.tuple_inj hy2 hq]; exact hx⟩, ⟨⟨y, ?_⟩, hst.1.at fun o q => (sb.2 it (Ne.symm n1)).trans q, n1, n2, n3⟩, fun b hb => ?_⟩
    · rw [show ((i + 1 : Nat) : Int) = (i : Int) + 1 by omega]
      exact he2
    · have lb : b < s.heap.objs.size := by
        rcases (by simpa using hb : b = e ∨ b = it) with rfl | rfl
        · exact le1
        · exact le2
      rw [upd_ne (Nat.ne_of_lt lb)]
      exact (hf b hb).1
  done := by
    intro X hP hw hK hc i pins s σ H E I hf st hg
    cases hP
    cases hw
    cases hK
    obtain ⟨⟨v0, he⟩, hit, n1, n2, n3⟩ := st
    obtain ⟨xs, hq, hx⟩ := hg
    obtain ⟨us, rv, tp, hz⟩ := I.tuple hq
    have tp' : s.heap.IsTuple a us.toArray := tp
    obtain ⟨f0, f1, f2, f3, f4, f5⟩ := hf it (List.mem_cons_of_mem _ List.mem_cons_self)
    have hl := rv.length
    have hh : X.A.in1.handled = none := I.ok.hd hc
    have D0 : Draws X.prog X.w X.A.in1 it [it, a] 0 (fun _ _ => False) (fun _ h => h.IsTupleIter it a i ∧ h.IsTuple a us.toArray) := {
      live := fun _ _ st => by
        obtain ⟨o, ho, _⟩ := st.1
        exact ⟨o, ho⟩
      frame := fun _ _ _ st k => ⟨st.1.at fun o e => k it List.mem_cons_self o e, st.2.at fun o e => k a (List.mem_cons_of_mem _ List.mem_cons_self) o e⟩
      item := fun _ _ _ _ z => absurd z (Nat.not_lt_zero _)
      done := fun s Q E st q => wpAny_nextOf_tuple_end hh st.1 st.2 (by simp; omega) q }
    exact wpAny_pyNext_enum_endD D0 he ⟨hit, tp'⟩ fun h1 eb => ⟨rfl, I.turned (t' := s.toks) (fun b o hb q => eb b o (fun z => hb (by simp [z])) q) f0 f1 f3 f4 f5⟩
  self := fun A i s Q E st h => by
    obtain ⟨⟨_, he⟩, _⟩ := st
    exact wpAny_pyIter_enum he h
def iEnumT (K : PySem.W.Frag) (ta : TA) : TI := fun σ H R => ta σ H fun vs H1 => ∃ a xs, vs = [.ref a] ∧ SqT K H1 a xs ∧ R (IteT K a) H1
theorem pi_enumT {X : Cx} {e : Expr} {ta : TA} {p pos tpos : Pos} {elts : List Expr} {kk : Nat} (hg : Gl X "enumerate") (hm : X.mg "enumerate" = none) (ha : PA X [e] ta) (hs : starEach [e] X.env = [(false, eval e X.env)] := by rfl) :
    PI X (.Tuple elts kk tpos) (.Call (.Name "enumerate" p) [e] [] pos) (iEnumT X.K ta) := by
  refine ⟨fun pins s σ H R I h => ?_⟩
  refine Call_ (ld_blt I hg hm boot_enumerate (PyProof.Rows.callWith_type1 (thn (ha.run pos pins s σ H _ I h) fun us s1 ⟨vs, H1, I1, r1, a, xs, ex, hq, q⟩ => ?_) hs rfl))
  subst ex
  obtain ⟨u0, rfl, r0⟩ : ∃ u, us = [u] ∧ RelV (.ref a) u := by
    cases r1 with
    | cons r rr =>
      cases rr
      exact ⟨_, rfl, r⟩
  obtain rfl : u0 = Value.ref a := r0
  obtain ⟨its, rv, tp, hz⟩ := I1.tuple hq
  have tp' : s1.heap.IsTuple a its.toArray := tp
  have la : a < s1.heap.objs.size := by
    obtain ⟨o, q0, _⟩ := id tp'
    exact Heap.lt_size q0
  refine en1_call (begins_tuple a its.toArray) tp' fun h1 he ho hk => wpAny_pyIter_enum he ?_
  have I2 : Inv X pins σ H1 { s1 with heap := h1 } := I1.kept (t' := s1.toks) hk
  have nb : ∀ b ∈ [s1.heap.objs.size + 1, s1.heap.objs.size], s1.heap.objs.size ≤ b := fun b hb => by
    rcases (by simpa using hb : b = s1.heap.objs.size + 1 ∨ b = s1.heap.objs.size) with rfl | rfl
    · exact Nat.le_succ _
    · exact Nat.le_refl _
  exact ⟨s1.heap.objs.size + 1, [s1.heap.objs.size + 1, s1.heap.objs.size], _, _, H1, rfl, I2, turn_enumT a (s1.heap.objs.size + 1) s1.heap.objs.size,
    ⟨⟨.none, he⟩, ⟨_, ho, rfl, rfl⟩, Nat.succ_ne_self _, Nat.ne_of_gt (Nat.lt_succ_of_lt la), Nat.ne_of_lt la⟩, fun b hb => I1.fpOk (nb b hb) (I1.hok.fresh (nb b hb)), q⟩
theorem for_enumT {K : PySem.W.Frag} {a : Addr} {xs : List V} {g : TG} {tb : TS} {D : Ends} {σ : L2.St} {H : Hp} (Pv : Nat → L2.St → Hp → Prop) (h0 : Pv 0 σ H) (hl : ∀ i σ H, i ≤ xs.length → Pv i σ H → SqT K H a xs)
    (hs : ∀ i x σ H T, xs[i]? = some x → Pv i σ H → H T = none → g (.ref T) σ (upd H T (.tup [.int (i : Nat), x])) fun σ2 H2 => tb { D with nx := Pv (i + 1), ct := Pv (i + 1), bk := D.nx } σ2 H2) (hd : ∀ σ H, Pv xs.length σ H → D.nx σ H) :
    ∃ W : Nat → Nat → L2.St → Hp → Prop, (∃ m, W 0 m σ H) ∧ ∀ i m σ H, W i m σ H →
      ((IteT K a).stop i H ∧ D.nx σ H) ∨ ((IteT K a).go i H ∧ ∃ N : L2.St → Hp → Prop, (∀ σ' H', N σ' H' → ∃ m', m' < m ∧ W (i + 1) m' σ' H') ∧ ∀ x H', (IteT K a).yld i H x H' → g x σ H' fun σ2 H2 => tb { D with nx := N, ct := N, bk := D.nx } σ2 H2) := by
  refine ⟨fun i m σ H => m + i = xs.length ∧ Pv i σ H, ⟨xs.length, rfl, h0⟩, ?_⟩
  intro i m σ H hw
  obtain ⟨hm, p⟩ := hw
  have q := hl i σ H (by omega) p
  cases m with
  | zero =>
    obtain rfl : i = xs.length := by omega
    exact .inl ⟨⟨xs, q, Nat.le_refl _⟩, hd σ H p⟩
  | succ m =>
    have lt : i < xs.length := by omega
    refine .inr ⟨⟨xs, xs[i], q, List.getElem?_eq_getElem lt⟩, Pv (i + 1), fun σ' H' p' => ⟨m, Nat.lt_succ_self m, by omega, p'⟩, fun v H' y => ?_⟩
    obtain ⟨T, x, rfl, nT, rfl, hx⟩ := y
    exact hs i x σ H T (hx xs q) p nT
/-! ### len, repr, == of an own class's instance, by its own defs -/
section
variable {X : Cx} {CX : CXT} {C f : Addr} {fd : FuncData} {ps : List Str} {n : Nat} {sp : Sp} {E : XK}
theorem own_run (F : FnOk X.prog X.w X.K X.mg X.base CX n f fd ps sp) (hb : Binds X.K fd ps []) (hx : Passes CX X E) {A : Around} {pins : List (Addr × Obj)} {σ : L2.St} {H : Hp} {s : Shared} {vs : List V} {us : List Value} {Q : VK}
    (sb : L2.Sub X n A) (I : Inv X pins σ H s) (rv : Vals vs us) (h : sp vs H Q E) : wpAny (model X.prog X.w) A (call (.ref f) us) (EP X pins σ Q) X.xe s := by
  have e0 : Env0 X.prog X.w X.K X.mg X.base A X.stack s H := by
    have e := I.env0
    exact ⟨by rw [sb.fr]; exact e.frames, e.mod, e.bs, e.bsz, e.funs, e.frf, e.hok, e.bare⟩
  have hl := F.len _ _ _ _ h
  refine wpAny_call (codeAny_mono (F.run A X.stack s H ⟨us, []⟩ us vs Q E sb.room e0 (by
    have := hb s us I.kIn (by rw [List.append_nil, ← rv.length]; exact hl)
    simpa using this) rv h) fun r s' hq => ?_)
  cases r with
  | error e => exact hx pins σ H s e s' I hq
  | ok fl =>
    cases fl with
    | ret w => exact I.after hq
    | next => exact False.elim hq
    | brk => exact False.elim hq
    | cont => exact False.elim hq
theorem call_lenO (F : FnOk X.prog X.w X.K X.mg X.base CX n f fd ps sp) (hs : PySem.W.findIn X.K (.ref C) "__len__" = some (some (.ref f))) (hf : PySem.W.isFn X.K (.ref f) = true) (hb : Binds X.K fd ps []) (hx : Passes CX X E) (hr : Room (n + 1) X.A) :
    CallR X (.builtin "len") (fun xs H Q => ∃ a dx fs, xs = [.ref a] ∧ H a = some (.ins C dx fs) ∧ sp [.ref a] H (fun v H' => ∃ m : Nat, v = .int (m : Int) ∧ m ≤ 1000 ∧ Q v H') E) := by
  intro pins s σ H xs us Q I r h
  obtain ⟨a, dx, fs, rfl, ha, q⟩ := h
  obtain ⟨u, rfl, rx⟩ := vals1 r
  cases rx
  obtain ⟨mA, J, _⟩ := ins_get I.hok ha
  obtain ⟨od, J, _⟩ := J.look
  obtain ⟨m, hF⟩ := I.fr
  refine PySem.W.len_K hF I.ok.mod.kin J hs hf (wpAny_mono (own_run F hb hx (L2.Sub.in1 ⟨hr, rfl⟩) I (show Vals [V.ref a] [Value.ref a] from .cons rfl .nil) q) (fun v s' hv => ?_) fun _ _ y => y)
  obtain ⟨z, H', I', rz, k, rfl, hk, hq⟩ := hv
  obtain ⟨t, rfl⟩ := rz
  exact ⟨⟨by omega, by omega⟩, .int (k : Int), H', I'.tok _, ⟨_, rfl⟩, hq⟩
theorem call_reprO (F : FnOk X.prog X.w X.K X.mg X.base CX n f fd ps sp) (hs : PySem.W.findIn X.K (.ref C) "__repr__" = some (some (.ref f))) (hf : PySem.W.isFn X.K (.ref f) = true) (hb : Binds X.K fd ps []) (hx : Passes CX X E) (hr : Room (n + 1) X.A) :
    CallR X (.builtin "repr") (fun xs H Q => ∃ a dx fs, xs = [.ref a] ∧ H a = some (.ins C dx fs) ∧ sp [.ref a] H (fun v H' => (∃ z, v = .str z) ∧ Q v H') E) := by
  intro pins s σ H xs us Q I r h
  obtain ⟨a, dx, fs, rfl, ha, q⟩ := h
  obtain ⟨u, rfl, rx⟩ := vals1 r
  cases rx
  obtain ⟨mA, J, _⟩ := ins_get I.hok ha
  obtain ⟨od, J, _⟩ := J.look
  obtain ⟨m, hF⟩ := I.fr
  refine PySem.W.repr_K hr.in1.units0 hF I.ok.mod.kin J hs hf (wpAny_mono (own_run F hb hx (L2.Sub.in1 ⟨hr, rfl⟩) I (show Vals [V.ref a] [Value.ref a] from .cons rfl .nil) q) (fun v s' hv => ?_) fun _ _ y => y)
  obtain ⟨z, H', I', rz, ⟨x, rfl⟩, hq⟩ := hv
  obtain ⟨t, rfl⟩ := rz
  exact ⟨.str x, H', I', ⟨_, rfl⟩, hq⟩
/-- what stands on the right: an instance of the class, or a list -/
def EqR (C : Addr) (H : Hp) (y : V) : Prop := (∃ b dy gs, y = .ref b ∧ H b = some (.ins C dy gs)) ∨ ∃ b ys, y = .ref b ∧ H b = some (.lst ys)
theorem op_eqO (F : FnOk X.prog X.w X.K X.mg X.base CX n f fd ps sp) (hs : PySem.W.findIn X.K (.ref C) "__eq__" = some (some (.ref f))) (hf : PySem.W.isFn X.K (.ref f) = true) (hb : Binds X.K fd ps []) (hx : Passes CX X E) (hr : Room n X.A) :
    OpR X (compareOp .Eq) (fun x y H Q => ∃ a dx fs, x = .ref a ∧ H a = some (.ins C dx fs) ∧ EqR C H y ∧ sp [.ref a, y] H (fun v H' => (∃ b, v = .bl b) ∧ Q v H') E) := by
  intro pins s σ H x y v u Q I rx ry h
  obtain ⟨a, dx, fs, rfl, ha, hy, q⟩ := h
  cases rx
  obtain ⟨mA, J, _⟩ := ins_get I.hok ha
  obtain ⟨od, J, _⟩ := J.look
  obtain ⟨m, hF⟩ := I.fr
  have go : wpAny (model X.prog X.w) X.A (call (.ref f) [.ref a, u]) (EP X pins σ fun v H' => (∃ b, v = .bl b) ∧ Q v H') X.xe s := own_run F hb hx ⟨hr, rfl⟩ I (show Vals [V.ref a, y] [Value.ref a, u] from .cons rfl (.cons ry .nil)) q
  have back : ∀ r s', EP X pins σ (fun v H' => (∃ b, v = .bl b) ∧ Q v H') r s' → PySem.W.CmpBack (EP X pins σ Q) r s' := fun r s' hv => by
    obtain ⟨z, H', I', rz, ⟨b, rfl⟩, hq⟩ := hv
    cases rz
    exact ⟨.bl b, H', I', rfl, hq⟩
  rcases hy with ⟨b, dy, gs, rfl, hb'⟩ | ⟨b, ys, rfl, hb'⟩
  · cases ry
    obtain ⟨mB, J', _⟩ := ins_get I.hok hb'
    obtain ⟨od', J', _⟩ := J'.look
    exact PySem.W.cmp_K (op := .Eq) (tb := .ref C) hr.units0 hF I.ok.mod.kin J J'.type (by simp [PySem.W.notFirst]) hs hf (wpAny_mono go back fun _ _ y => y)
  · cases ry
    obtain ⟨its, _, pl, _⟩ := I.list (SqL.of hb' : SqL X.K H b ys)
    have ty : PySem.W.Looks (model X.prog X.w) s.heap (typeOf (.ref b)) (.type "list") := by
      obtain ⟨o, k, e, c, _⟩ := pl
      rw [← c]
      exact (PySem.W.Looks.ld (part := none) e).andThen .now
    exact PySem.W.cmp_K (op := .Eq) (tb := .type "list") hr.units0 hF I.ok.mod.kin J ty (by rfl) hs hf (wpAny_mono go back fun _ _ y => y)
end
theorem lw_uni {x : List Nat} (h : LW x) : PyData.strOk (SX.S x) = true := by
  unfold PyData.strOk
  show (x.toArray.all _) = true
  rw [List.all_toArray, List.all_eq_true]
  intro c hc
  have := List.all_eq_true.mp h.2.2 c hc
  unfold lowc at this
  rw [Bool.and_eq_true, decide_eq_true_eq, decide_eq_true_eq] at this
  exact decide_eq_true (by omega)
theorem lw_nm {x : List Nat} (h : LW x) : nameB x = true ∧ x.length ≤ 7 := by
  have := name_lw h (k := 0) (by decide)
  rw [List.replicate_zero, List.append_nil] at this
  exact this
theorem dws {K : PySem.W.Frag} (H : Hp) : ∀ l : List (List Nat), DpAll K H (l.map vS) (l.map fun x => PyData.str (SX.S x))
  | [] => .nil
  | _ :: l => .cons (.str _) (dws H l)
/-- a name as it may be drawn, with or without an apostrophe -/
def NX (x : List Nat) : Prop := PyData.strOk (SX.S x) = true ∧ (nameB x = true ∧ x.length ≤ 7)
theorem nx_lw {x : List Nat} (h : LW x) : NX x := ⟨lw_uni h, lw_nm h⟩
theorem nx_dash {x : List Nat} (h : LW x) : NX (x ++ [39]) := by
  have e := name_lw h (k := 1) (by decide)
  refine ⟨?_, e⟩
  have u := lw_uni h
  unfold PyData.strOk at u ⊢
  have u2 : (x.toArray.all fun c => decide (c < 0x110000)) = true := u
  show ((x ++ [39]).toArray.all fun c => decide (c < 0x110000)) = true
  rw [List.all_toArray] at u2 ⊢
  rw [List.all_append, u2]
  rfl
theorem lay_nx : ∀ l : List (List Nat), (∀ x ∈ l, NX x) → PyData.canLayAll0 (l.map fun x => PyData.str (SX.S x)) = true ∧ PyData.depthAll (l.map fun x => PyData.str (SX.S x)) ≤ 0
  | [], _ => ⟨rfl, Nat.zero_le _⟩
  | x :: l, h => by
    obtain ⟨h1, h2⟩ := lay_nx l fun y hy => h y (List.mem_cons_of_mem _ hy)
    constructor
    · show (PyData.strOk (SX.S x) && PyData.canLayAll0 (l.map fun x => PyData.str (SX.S x))) = true
      rw [(h x List.mem_cons_self).1, h1]
      rfl
    · rw [List.map_cons, PyData.depthAll.eq_2]
      have : (PyData.str (SX.S x)).depth = 0 := rfl
      omega
theorem shaped_nx {l : List (List Nat)} (h : ∀ x ∈ l, NX x) : SeqAt.shaped (.list (l.map fun x => PyData.str (SX.S x))) = true := by
  obtain ⟨h1, h2⟩ := lay_nx l h
  unfold SeqAt.shaped
  rw [PyData.canLay0.eq_5, PyData.depth.eq_1, h1, Bool.true_and, decide_eq_true_eq]
  omega
theorem iteFq {c : Bool} {A B : Prop} (h : c = false) (b : B) : ite (c = true) A B := by rw [h]; exact b
theorem iteTq {c : Bool} {A B : Prop} (h : c = true) (a : A) : ite (c = true) A B := by rw [h]; exact a
/-- a tie of a step, as the law draws it -/
structure TieG (ws : List (List Nat)) (t : Tie) : Prop where
  ln : t.1.length = 1 ∨ t.1.length = 2
  ws : ∀ u ∈ t.1, u.1 ∈ ws ∧ u.2 ∈ RR
  td : termsD (.tuple (t.1.map tmP)) = true
  nf : Nf t.2
  bn : Bn 3 t.2
/-! ### where names and ties go wrong -/
theorem fb_go : ∀ (xs : List Str) (i : Nat) (pre : List Str) (y : Str) (zs : List Str), (∀ x ∈ xs, nameB x.cps.toList = true) → (pre ++ xs).Nodup → (nameB y.cps.toList = false ∨ y ∈ pre ++ xs) → firstBad i pre (xs ++ y :: zs) = some (i + xs.length)
  | [], i, pre, y, zs, _, _, h => by
    have n : ¬ (nameB y.cps.toList = true ∧ y ∉ pre) := fun ⟨a, b⟩ => by
      rcases h with h | h
      · rw [a] at h
        cases h
      · rw [List.append_nil] at h
        exact b h
    show (if _ then _ else _) = _
    rw [if_neg n]
    rfl
  | x :: xs, i, pre, y, zs, hn, hd, h => by
    have c : nameB x.cps.toList = true ∧ x ∉ pre := ⟨hn x List.mem_cons_self, fun z => (List.nodup_append.mp hd).2.2 x z x List.mem_cons_self rfl⟩
    have e : pre ++ x :: xs = (pre ++ [x]) ++ xs := by rw [List.append_assoc]; rfl
    rw [e] at hd h
    have := fb_go xs (i + 1) (pre ++ [x]) y zs (fun u hu => hn u (List.mem_cons_of_mem _ hu)) hd h
    show (if _ then firstBad (i + 1) (pre ++ [x]) (xs ++ y :: zs) else _) = _
    rw [if_pos c, this, List.length_cons]
    congr 1
    omega
theorem fb_none : ∀ (xs : List Str) (i : Nat) (pre : List Str), (∀ x ∈ xs, nameB x.cps.toList = true) → (pre ++ xs).Nodup → firstBad i pre xs = none
  | [], _, _, _, _ => rfl
  | x :: xs, i, pre, hn, hd => by
    have c : nameB x.cps.toList = true ∧ x ∉ pre := ⟨hn x List.mem_cons_self, fun z => (List.nodup_append.mp hd).2.2 x z x List.mem_cons_self rfl⟩
    have e : pre ++ x :: xs = (pre ++ [x]) ++ xs := by rw [List.append_assoc]; rfl
    rw [e] at hd
    show (if _ then _ else _) = _
    rw [if_pos c]
    exact fb_none xs (i + 1) (pre ++ [x]) (fun u hu => hn u (List.mem_cons_of_mem _ hu)) hd
theorem fbt_go (ns : List Str) : ∀ (ds : List PyData) (i : Nat) (d : PyData) (es : List PyData), (∀ x ∈ ds, goodT ns x = true) → goodT ns d = false → firstBadT ns i (ds ++ d :: es) = some (i + ds.length)
  | [], i, d, es, _, h => by
    show (if _ then _ else _) = _
    rw [if_neg (by rw [h]; exact Bool.false_ne_true)]
    rfl
  | x :: ds, i, d, es, hn, h => by
    have := fbt_go ns ds (i + 1) d es (fun u hu => hn u (List.mem_cons_of_mem _ hu)) h
    show (if _ then firstBadT ns (i + 1) (ds ++ d :: es) else _) = _
    rw [if_pos (hn x List.mem_cons_self), this, List.length_cons]
    congr 1
    omega
theorem fbt_none (ns : List Str) : ∀ (ds : List PyData) (i : Nat), (∀ x ∈ ds, goodT ns x = true) → firstBadT ns i ds = none
  | [], _, _ => rfl
  | x :: ds, i, hn => by
    show (if _ then _ else _) = _
    rw [if_pos (hn x List.mem_cons_self)]
    exact fbt_none ns ds (i + 1) (fun u hu => hn u (List.mem_cons_of_mem _ hu))
theorem ratD_nf {f : FR} (h : Nf f) : ratD (frP f) = true := by
  show (decide (1 ≤ f.2) && decide (Int.gcd f.1 f.2 = 1)) = true
  rw [Bool.and_eq_true, decide_eq_true_eq, decide_eq_true_eq]
  exact ⟨h.1, h.2⟩
theorem good_drawn {ws : List Nm} {t : Tie} (h : TieG ws t) : goodT (ws.map SX.S) (tieP t.1 t.2) = true := by
  show ((termsD (.tuple (t.1.map tmP)) && ratD (frP t.2)) && ((t.1.map tmP).map _).all _) = true
  rw [h.td, ratD_nf h.nf, Bool.true_and, Bool.true_and, List.map_map, List.all_map, List.all_eq_true]
  intro u hu
  exact decide_eq_true (List.mem_map.mpr ⟨u.1, (h.ws u hu).1, rfl⟩)
theorem bad_by {ns : List Str} {d : PyData} (h : tieD d = false) : goodT ns d = false := by
  unfold goodT
  rw [h]
  rfl
abbrev frI (t u : Int) : PyData := .tuple [.int t, .int u]
def oneTie (x : Str) (r b : PyData) : PyData := .tuple [.tuple [.tuple [.str x, r]], b]
theorem bad_strange {ns : List Str} {x : Str} {r b : PyData} (h : x ∉ ns) : goodT ns (oneTie x r b) = false := by
  show (_ && (decide (x ∈ ns) && true)) = false
  rw [decide_eq_false h]
  simp
theorem good_one {ns : List Str} {x : Str} {r b : FR} (hx : x ∈ ns) (nx : nameB x.cps.toList = true) (nr : Nf r) (r0 : r.1 ≠ 0) (nb : Nf b) : goodT ns (oneTie x (frP r) (frP b)) = true := by
  have e : nameD (.str x) = true := nx
  show ((((nameD (.str x) && ratD (frP r)) && decide (r.1 ≠ 0)) && ratD (frP b)) && (decide (x ∈ ns) && true)) = true
  rw [e, ratD_nf nr, ratD_nf nb, decide_eq_true r0, decide_eq_true hx]
  rfl
def oddTs (s x : Str) : List PyData := [.none, .tuple [], .tuple [.tuple [], frI 0 1], .tuple [.tuple [.tuple [.str (Str.ofString "b"), frI 1 1], .tuple [.str (Str.ofString "a"), frI 1 1]], frI 0 1], oneTie s (frI 1 1) (frI 0 1), .str (Str.ofString "x <= 1"), .int 5,
  oneTie x (frI 0 1) (frI 0 1), oneTie x (frI 1 1) (frI 2 2), .list [.tuple [.tuple [.str x, frI 1 1]], frI 0 1]]
theorem odd_ties {ns : List Str} {s x : Str} (hs : s ∉ ns) : ∀ d ∈ oddTs s x, goodT ns d = false := by
  intro d hd
  simp only [oddTs, List.mem_cons, List.not_mem_nil, or_false] at hd
  rcases hd with rfl | rfl | rfl | rfl | rfl | rfl | rfl | rfl | rfl | rfl
  · exact bad_by rfl
  · exact bad_by rfl
  · exact bad_by rfl
  · exact bad_by (bad_order (by decide +kernel))
  · exact bad_strange hs
  · exact bad_by rfl
  · exact bad_by rfl
  · exact bad_by (bad_rate (by rfl))
  · exact bad_by (bad_rat (by decide +kernel))
  · exact bad_by rfl
def oddNs : List Str := ["", "A", "abcdefg", "a b", "'", "a''", "1"].map Str.ofString
theorem odd_names : ∀ x ∈ oddNs, nameB x.cps.toList = false ∧ x.length ≤ 7 := by
  have h : (oddNs.all fun x => !nameB x.cps.toList && decide (x.length ≤ 7)) = true := by decide +kernel
  intro x hx
  have := List.all_eq_true.mp h x hx
  rw [Bool.and_eq_true, Bool.not_eq_true', decide_eq_true_eq] at this
  exact this
/-! ### a name that is not among some -/
def tenNs : List Str := ["zz", "q", "yyy", "m", "vvvv", "kk", "j", "gg", "xwxwx", "n"].map Str.ofString
theorem fresh_of : ∀ (ws : List Str) (ts : List Str), ts.Nodup → ws.length < ts.length → ∃ t ∈ ts, t ∉ ws
  | [], t :: _, _, _ => ⟨t, List.mem_cons_self, fun z => by cases z⟩
  | [], [], _, h => absurd h (by simp)
  | w :: ws, ts, hn, h => by
    have n2 : (ts.erase w).Nodup := hn.erase w
    have l2 : ws.length < (ts.erase w).length := by
      by_cases e : w ∈ ts
      · rw [List.length_erase_of_mem e]
        rw [List.length_cons] at h
        omega
      · rw [List.erase_of_not_mem e]
        rw [List.length_cons] at h
        omega
    obtain ⟨t, ht, hw⟩ := fresh_of ws (ts.erase w) n2 l2
    have h2 := (hn.mem_erase_iff).mp ht
    refine ⟨t, h2.2, fun z => ?_⟩
    rcases List.mem_cons.mp z with q | q
    · exact h2.1 q
    · exact hw q
theorem ten_fresh {ws : List Str} (h : ws.length ≤ 9) : (tenNs.filter fun x => decide (x ∉ ws)) ≠ [] := by
  obtain ⟨t, ht, hw⟩ := fresh_of ws tenNs (by decide +kernel) (Nat.lt_of_le_of_lt h (by decide +kernel))
  intro e
  have : t ∈ tenNs.filter fun x => decide (x ∉ ws) := List.mem_filter.mpr ⟨ht, decide_eq_true hw⟩
  rw [e] at this
  cases this
def tenLs : List (List Nat) := [[122, 122], [113], [121, 121, 121], [109], [118, 118, 118, 118], [107, 107], [106], [103, 103], [120, 119, 120, 119, 120], [110]]
theorem ten_eq : tenNs = tenLs.map SX.S := by decide +kernel
theorem ten_lw : ∀ x ∈ tenLs, LW x := by
  have h : (tenLs.all fun x => decide (x ≠ []) && decide (x.length ≤ 6) && x.all lowc) = true := by decide +kernel
  intro x hx
  have := List.all_eq_true.mp h x hx
  rw [Bool.and_eq_true, Bool.and_eq_true, decide_eq_true_eq, decide_eq_true_eq] at this
  exact ⟨this.1.1, this.1.2, this.2⟩
theorem FnOk.or {P : Program} {w : World} {K : PySem.W.Frag} {mg : Str → Option Value} {base : Heap} {CX : CXT} {k : Nat} {f : Addr} {fd : FuncData} {ps : List Str} {sp sp' : Sp} (F : FnOk P w K mg base CX k f fd ps sp) (G : FnOk P w K mg base CX k f fd ps sp') : FnOk P w K mg base CX k f fd ps (fun vs H Q E => sp vs H Q E ∨ sp' vs H Q E) :=
  ⟨fun vs H Q E h => h.elim (F.len vs H Q E) (G.len vs H Q E), fun A outer s H args us vs Q E hr e b r h => h.elim (F.run A outer s H args us vs Q E hr e b r) (G.run A outer s H args us vs Q E hr e b r)⟩
theorem SqT_sm {K : PySem.W.Frag} {H H' : Hp} {p : Addr} {xs : List V} (s : Same H H') (h : SqT K H p xs) : SqT K H' p xs := by
  rcases h with (q | ⟨o, q⟩) | q
  · exact .inl (.inl (s _ _ q))
  · exact .inl (.inr ⟨o, s _ _ q⟩)
  · exact .inr q
section
variable {P : Program} {w : World} {K : PySem.W.Frag} {mg : Str → Option Value} {base : Heap} {fa : Nat → Addr} {fd : Nat → FuncData}
def spFWNT (K : PySem.W.Frag) : Sp := fun vs H Q _ => ∃ (L : Addr) (ns : List Str), vs = [.ref L] ∧ SqT K H L (ns.map V.str) ∧ ns.length ≤ 900 ∧ (∀ x ∈ ns, x.length ≤ 1000) ∧ ∀ H', Same H H' → Q (optV (firstBad 0 [] ns)) H'
theorem ok_p_first_wrong_nameT (T : Txt K mg fa fd) : FnOk P w K mg base CX0 3 (fa 145) (fd 145) ["names"] (spFWNT K) := by
  refine T.F_p_first_wrong_name.ok sc_p_first_wrong_name (fun vs H Q E h => ?_) (fun cdv A outer s H vs Q E hr h => ?_)
  · obtain ⟨L, ns, rfl, _⟩ := h
    rfl
  · obtain ⟨L, ns, rfl, hL, hsz, hlen, q⟩ := h
    refine ⟨_, (pss_cons (ps_for PassesOwn.never rfl (pi_enumT (by rfl) T.m_enumerate (pa_cons (pv 0) pa_nil)) (pg_tup (by rfl) (pgs_cons (pg_name (i := 1) sc_p_first_wrong_name.nd rfl (.inl rfl)) (pgs_cons (pg_name (i := 2) sc_p_first_wrong_name.nd rfl (.inl rfl)) pgs_nil))) (pss_one (ps_if (PW.pt (pw_or (pt_not (pt_val (pe_call (ok_p_is_name T) (hr.mono (by decide)) (by rfl) T.g_p_is_name T.F_p_is_name.kp T.b_p_is_name .nil pass0 (pa_cons (pv 2) pa_nil)))) (pw_or1 (pt_cmpR op_in_seq (pv 2) (pe_slice sl_tup (pv 0) po_none (po_some (pv 1))) (by rfl))))) (pss_one (ps_ret (pv 1))) pss_nil)))
      (pss_one (ps_ret pe_non))), ?_⟩
    refine ⟨_, rfl, L, _, rfl, hL, for_enumT (K := K) (a := L) (xs := ns.map V.str) (fun i σ G => Same H G ∧ firstBad 0 [] ns = firstBad i (ns.take i) (ns.drop i) ∧ ∃ y1 y2, σ = [some (.ref L), y1, y2]) ⟨Same.refl H, rfl, _, _, rfl⟩ (fun i σ G _ hq => SqT_sm hq.1 hL) (fun i x σ G T hx hq nT => ?_) (fun σ G hq => ?_)⟩
    · obtain ⟨sG, fb, y1, y2, rfl⟩ := hq
      rw [List.getElem?_map] at hx
      obtain ⟨n, hz, rfl⟩ := Option.map_eq_some_iff.mp hx
      have lt : i < ns.length := (List.getElem?_eq_some_iff.mp hz).1
      have dr : ns.drop i = n :: ns.drop (i + 1) := by
        rw [List.drop_eq_getElem_cons lt]
        congr 1
        exact (List.getElem?_eq_some_iff.mp hz).2
      rw [dr] at fb
      have sT := same_upd (o := .tup [V.int (i : Nat), .str n]) nT
      have s1 := sG.trans sT
      have mem : n ∈ ns := List.mem_of_getElem? hz
      refine ⟨T, _, rfl, SqT.of upd_same, rfl, _, _, rfl, _, _, rfl, rfl, ?_⟩
      refine ⟨_, rfl, _, _, 0, rfl, .str n (hlen n mem), _, rfl, ?_⟩
      have ret : (¬ (nameB n.cps.toList = true ∧ n ∉ ns.take i)) → ∀ G', Same H G' → Q (.int (i : Int)) G' := fun c G' s' => by
        have e : firstBad 0 [] ns = some i := by
          rw [fb]
          show (if _ then _ else _) = _
          rw [if_neg c]
        rw [e] at q
        exact q G' s'
      cases hb : nameB n.cps.toList with
      | false =>
        have hb' : nameD (.str n) = false := hb
        rw [hb']
        exact iteT (iteT ⟨_, rfl, ret (fun z => by rw [hb] at z; exact Bool.false_ne_true z.1) _ s1⟩)
      | true =>
        have hb' : nameD (.str n) = true := hb
        rw [hb']
        refine iteF ⟨_, rfl, _, rfl, _, rfl, _, rfl, L, _, rfl, SqT_sm s1 hL, ?_, fun p np => ?_⟩
        · intro z
          have z2 := z.2
          rw [HT.sIx_nat, List.length_map] at z2
          omega
        have sp := same_upd (o := .tup (cutV (ns.map V.str) none (some (i : Int)))) np
        have ec : cutV (ns.map V.str) none (some (i : Int)) = (ns.take i).map V.str := by
          rw [cut_take _ _ (by rw [List.length_map]; omega), List.map_take]
        refine ⟨p, _, rfl, .inr (SqT.of upd_same), rfl, ?_, _, rfl, ?_⟩
        · rw [ec]
          exact flat_strs _
        · rw [ec] at sp ⊢
          rw [inV_strs]
          by_cases hm : n ∈ ns.take i
          · rw [decide_eq_true hm]
            exact iteT ⟨_, rfl, ret (fun z => z.2 hm) _ (s1.trans sp)⟩
          · rw [decide_eq_false hm]
            refine iteF ⟨s1.trans sp, ?_, _, _, rfl⟩
            rw [fb, List.take_add_one, hz]
            show (if _ then _ else _) = _
            rw [if_pos ⟨hb, hm⟩]
            rfl
    · obtain ⟨sG, fb, y1, y2, rfl⟩ := hq
      rw [List.length_map, List.take_length, List.drop_length] at fb
      have e : optV (firstBad 0 [] ns) = .non := by
        rw [fb]
        rfl
      rw [e] at q
      exact q _ sG
/-- a list or a tuple -/
def SqB (K : PySem.W.Frag) (H : Hp) (a : Addr) (xs : List V) : Prop := SqL K H a xs ∨ SqT K H a xs
theorem SqB.sm {K : PySem.W.Frag} {H H' : Hp} {p : Addr} {xs : List V} (s : Same H H') (h : SqB K H p xs) : SqB K H' p xs := h.elim (fun q => .inl (SqL.sm s q)) fun q => .inr (SqT_sm s q)
def spFWNB (K : PySem.W.Frag) : Sp := fun vs H Q _ => ∃ (L : Addr) (ns : List Str), vs = [.ref L] ∧ SqB K H L (ns.map V.str) ∧ ns.length ≤ 900 ∧ (∀ x ∈ ns, x.length ≤ 1000) ∧ ∀ H', Same H H' → Q (optV (firstBad 0 [] ns)) H'
theorem ok_p_first_wrong_nameB (T : Txt K mg fa fd) : FnOk P w K mg base CX0 3 (fa 145) (fd 145) ["names"] (spFWNB K) :=
  (FnOk.or (ok_p_first_wrong_name T) (ok_p_first_wrong_nameT T)).imp fun vs H Q E ⟨L, ns, e, h, r⟩ => h.elim (fun h => .inl ⟨L, ns, e, h, r⟩) fun h => .inr ⟨L, ns, e, h, r⟩
end
section
variable {P : Program} {w : World} {K : PySem.W.Frag} {mg : Str → Option Value} {base : Heap} {fa : Nat → Addr} {fd : Nat → FuncData}
def spFWqL (K : PySem.W.Frag) : Sp := fun vs H Q _ => ∃ (T L : Addr) (us : List V) (ds : List PyData) (ns : List Str) (z : Addr), vs = [.ref T, .ref L] ∧ SqL K H T us ∧ DtAll z H us ds ∧ us.length ≤ 900 ∧ SqB K H L (ns.map V.str) ∧ ∀ H', Same H H' → Q (optV (firstBadT ns 0 ds)) H'
theorem ok_p_first_wrong_tieL (T : Txt K mg fa fd) : FnOk P w K mg base CX0 6 (fa 146) (fd 146) ["ties", "names"] (spFWqL K) := by
  refine T.F_p_first_wrong_tie.ok sc_p_first_wrong_tie (fun vs H Q E h => ?_) (fun cdv A outer s H vs Q E hr h => ?_)
  · obtain ⟨T0, L, us, ds, ns, z, rfl, _⟩ := h
    rfl
  · obtain ⟨T0, L, us, ds, ns, z, rfl, hT, hds, hsz, hL, q⟩ := h
    refine ⟨_, (pss_cons (ps_for PassesOwn.never rfl (pi_enum (by rfl) T.m_enumerate (pa_cons (pv 0) pa_nil)) (pg_tup (by rfl) (pgs_cons (pg_name (i := 2) sc_p_first_wrong_tie.nd rfl (.inl rfl)) (pgs_cons (pg_name (i := 3) sc_p_first_wrong_tie.nd rfl (.inl rfl)) pgs_nil))) (pss_one (ps_if (PW.pt (pw_or (pt_not (pt_val (pe_call (ok_p_is_tie T) (hr.mono (by decide)) (by rfl) T.g_p_is_tie T.F_p_is_tie.kp T.b_p_is_tie .nil pass0 (pa_cons (pv 3) pa_nil)))) (pw_or1 (pt_not (pt_val (pe_callB (cr_all rfl) (by rfl) T.m_all PyProof.Rows.boot_all (pa_cons (pe_lc (own := [("name", 4)]) (g := gName 4) (tt := tYes) rfl sc_p_first_wrong_tie.nd (pi_list (pe_call (ok_p_names_in T) (hr.mono (by decide)) (by rfl) T.g_p_names_in T.F_p_names_in.kp T.b_p_names_in .nil pass0 (pa_cons (pv 3) pa_nil))) (blkOk_by (own := [("name", 4)]) (N := ["ties", "names", "at", "tie", "name"]) (sc := defScope s_p_first_wrong_tie) (by decide +kernel)) (fun _ _ _ _ _ => pg_name (i := 4) sc_p_first_wrong_tie.nd rfl (Or.inl rfl)) (fun _ _ _ _ _ => pts_nil) (fun _ _ _ _ _ => (pe_cmpR (op_in_seqK (K := K) rfl) (pv 4) (pv 1) (by rfl)))) pa_nil))))))) (pss_one (ps_ret (pv 2))) pss_nil)))
      (pss_one (ps_ret pe_non))), ?_⟩
    refine ⟨_, rfl, T0, _, rfl, hT, for_enum (K := K) (a := T0) (xs := us) (fun i σ G => Same H G ∧ firstBadT ns 0 ds = firstBadT ns i (ds.drop i) ∧ ∃ y1 y2 y3, σ = [some (.ref T0), some (.ref L), y1, y2, y3]) ⟨Same.refl H, rfl, _, _, _, rfl⟩ (fun i σ G _ hq => SqL.sm hq.1 hT) (fun i x σ G T1 hx hq nT => ?_) (fun σ G hq => ?_)⟩
    · obtain ⟨sG, fb, y1, y2, y3, rfl⟩ := hq
      obtain ⟨d, hd, hdt⟩ := DtAll.at i hds hx
      have lt : i < ds.length := (List.getElem?_eq_some_iff.mp hd).1
      have dr : ds.drop i = d :: ds.drop (i + 1) := by
        rw [List.drop_eq_getElem_cons lt]
        congr 1
        exact (List.getElem?_eq_some_iff.mp hd).2
      rw [dr] at fb
      have sT := same_upd (o := .tup [V.int (i : Nat), x]) nT
      have s1 := sG.trans sT
      have ret : goodT ns d = false → ∀ G', Same H G' → Q (.int (i : Int)) G' := fun c G' s' => by
        have e : firstBadT ns 0 ds = some i := by
          rw [fb]
          show (if _ then _ else _) = _
          rw [if_neg (by rw [c]; exact Bool.false_ne_true)]
        rw [e] at q
        exact q G' s'
      refine ⟨T1, _, rfl, SqT.of upd_same, rfl, _, _, rfl, _, _, rfl, rfl, ?_⟩
      refine ⟨_, rfl, x, d, z, rfl, hdt.same s1, fun G2 s2 => ⟨_, rfl, ?_⟩⟩
      cases ht : tieD d with
      | false =>
        refine iteT (iteT ⟨_, rfl, ret ?_ _ (s1.trans s2)⟩)
        unfold goodT
        rw [ht]
        rfl
      | true =>
        obtain ⟨ts, b, ed, hl, en⟩ := tieD_inv ht
        have s12 := s1.trans s2
        refine iteF ⟨_, rfl, x, ts, b, z, rfl, by rw [← ed]; exact hdt.same s12, by omega, fun D H' nD s3 hD => ⟨D, rfl, ⟨_, SqL.of hD⟩, fun D2 nD2 => ?_⟩⟩
        have s13 := s12.trans s3
        refine lc_list (K := K) (a := D) (xs := ts.map fun t => V.str t.1) (fun j G3 => Same H' G3 ∧ G3 D2 = some (.lst (((ts.take j).map fun t => decide (t.1 ∈ ns)).map V.bl))) ⟨same_upd nD2, upd_same⟩ (fun j G3 _ hp => SqL.of (hp.1 _ _ hD)) (fun j y G3 hy hp => ?_) (fun G3 hp => ?_)
        · rw [List.getElem?_map] at hy
          obtain ⟨t, htz, rfl⟩ := Option.map_eq_some_iff.mp hy
          have jl := (List.getElem?_eq_some_iff.mp htz).1
          refine ⟨rfl, _, rfl, _, rfl, L, _, rfl, SqB.sm (s13.trans hp.1) hL, rfl, flat_strs _, _, hp.2, ?_, ?_, ?_⟩
          · rw [List.length_map, List.length_map, List.length_take]
            exact small1000 (by omega)
          · exact fun c o e => (upd_ne (ne_of_none e nD2)).trans (hp.1 c o e)
          · rw [upd_same, List.take_add_one, htz, inV_strs, List.map_append, List.map_append]
            rfl
        · rw [List.length_map, List.take_length] at hp
          have s14 := s13.trans hp.1
          refine ⟨D2, _, rfl, SqL.of hp.2, _, rfl, ?_⟩
          have ea : (ts.map fun t => decide (t.1 ∈ ns)).all id = goodT ns d := by
            unfold goodT
            rw [ht, en, Bool.true_and, List.all_map, List.all_map]
            rfl
          rw [ea]
          cases hg : goodT ns d with
          | false => exact iteT ⟨_, rfl, ret hg _ s14⟩
          | true =>
            refine iteF ⟨s14, ?_, _, _, _, rfl⟩
            rw [fb]
            show (if _ then _ else _) = _
            rw [if_pos hg]
    · obtain ⟨sG, fb, y1, y2, y3, rfl⟩ := hq
      rw [hds.len, List.drop_length] at fb
      have e : optV (firstBadT ns 0 ds) = .non := by
        rw [fb]
        rfl
      rw [e] at q
      exact q _ sG
def spFWqT (K : PySem.W.Frag) : Sp := fun vs H Q _ => ∃ (T L : Addr) (us : List V) (ds : List PyData) (ns : List Str) (z : Addr), vs = [.ref T, .ref L] ∧ SqT K H T us ∧ DtAll z H us ds ∧ us.length ≤ 900 ∧ SqB K H L (ns.map V.str) ∧ ∀ H', Same H H' → Q (optV (firstBadT ns 0 ds)) H'
theorem ok_p_first_wrong_tieT (T : Txt K mg fa fd) : FnOk P w K mg base CX0 6 (fa 146) (fd 146) ["ties", "names"] (spFWqT K) := by
  refine T.F_p_first_wrong_tie.ok sc_p_first_wrong_tie (fun vs H Q E h => ?_) (fun cdv A outer s H vs Q E hr h => ?_)
  · obtain ⟨T0, L, us, ds, ns, z, rfl, _⟩ := h
    rfl
  · obtain ⟨T0, L, us, ds, ns, z, rfl, hT, hds, hsz, hL, q⟩ := h
    refine ⟨_, (pss_cons (ps_for PassesOwn.never rfl (pi_enumT (by rfl) T.m_enumerate (pa_cons (pv 0) pa_nil)) (pg_tup (by rfl) (pgs_cons (pg_name (i := 2) sc_p_first_wrong_tie.nd rfl (.inl rfl)) (pgs_cons (pg_name (i := 3) sc_p_first_wrong_tie.nd rfl (.inl rfl)) pgs_nil))) (pss_one (ps_if (PW.pt (pw_or (pt_not (pt_val (pe_call (ok_p_is_tie T) (hr.mono (by decide)) (by rfl) T.g_p_is_tie T.F_p_is_tie.kp T.b_p_is_tie .nil pass0 (pa_cons (pv 3) pa_nil)))) (pw_or1 (pt_not (pt_val (pe_callB (cr_all rfl) (by rfl) T.m_all PyProof.Rows.boot_all (pa_cons (pe_lc (own := [("name", 4)]) (g := gName 4) (tt := tYes) rfl sc_p_first_wrong_tie.nd (pi_list (pe_call (ok_p_names_in T) (hr.mono (by decide)) (by rfl) T.g_p_names_in T.F_p_names_in.kp T.b_p_names_in .nil pass0 (pa_cons (pv 3) pa_nil))) (blkOk_by (own := [("name", 4)]) (N := ["ties", "names", "at", "tie", "name"]) (sc := defScope s_p_first_wrong_tie) (by decide +kernel)) (fun _ _ _ _ _ => pg_name (i := 4) sc_p_first_wrong_tie.nd rfl (Or.inl rfl)) (fun _ _ _ _ _ => pts_nil) (fun _ _ _ _ _ => (pe_cmpR (op_in_seqK (K := K) rfl) (pv 4) (pv 1) (by rfl)))) pa_nil))))))) (pss_one (ps_ret (pv 2))) pss_nil)))
      (pss_one (ps_ret pe_non))), ?_⟩
    refine ⟨_, rfl, T0, _, rfl, hT, for_enumT (K := K) (a := T0) (xs := us) (fun i σ G => Same H G ∧ firstBadT ns 0 ds = firstBadT ns i (ds.drop i) ∧ ∃ y1 y2 y3, σ = [some (.ref T0), some (.ref L), y1, y2, y3]) ⟨Same.refl H, rfl, _, _, _, rfl⟩ (fun i σ G _ hq => SqT_sm hq.1 hT) (fun i x σ G T1 hx hq nT => ?_) (fun σ G hq => ?_)⟩
    · obtain ⟨sG, fb, y1, y2, y3, rfl⟩ := hq
      obtain ⟨d, hd, hdt⟩ := DtAll.at i hds hx
      have lt : i < ds.length := (List.getElem?_eq_some_iff.mp hd).1
      have dr : ds.drop i = d :: ds.drop (i + 1) := by
        rw [List.drop_eq_getElem_cons lt]
        congr 1
        exact (List.getElem?_eq_some_iff.mp hd).2
      rw [dr] at fb
      have sT := same_upd (o := .tup [V.int (i : Nat), x]) nT
      have s1 := sG.trans sT
      have ret : goodT ns d = false → ∀ G', Same H G' → Q (.int (i : Int)) G' := fun c G' s' => by
        have e : firstBadT ns 0 ds = some i := by
          rw [fb]
          show (if _ then _ else _) = _
          rw [if_neg (by rw [c]; exact Bool.false_ne_true)]
        rw [e] at q
        exact q G' s'
      refine ⟨T1, _, rfl, SqT.of upd_same, rfl, _, _, rfl, _, _, rfl, rfl, ?_⟩
      refine ⟨_, rfl, x, d, z, rfl, hdt.same s1, fun G2 s2 => ⟨_, rfl, ?_⟩⟩
      cases ht : tieD d with
      | false =>
        refine iteT (iteT ⟨_, rfl, ret ?_ _ (s1.trans s2)⟩)
        unfold goodT
        rw [ht]
        rfl
      | true =>
        obtain ⟨ts, b, ed, hl, en⟩ := tieD_inv ht
        have s12 := s1.trans s2
        refine iteF ⟨_, rfl, x, ts, b, z, rfl, by rw [← ed]; exact hdt.same s12, by omega, fun D H' nD s3 hD => ⟨D, rfl, ⟨_, SqL.of hD⟩, fun D2 nD2 => ?_⟩⟩
        have s13 := s12.trans s3
        refine lc_list (K := K) (a := D) (xs := ts.map fun t => V.str t.1) (fun j G3 => Same H' G3 ∧ G3 D2 = some (.lst (((ts.take j).map fun t => decide (t.1 ∈ ns)).map V.bl))) ⟨same_upd nD2, upd_same⟩ (fun j G3 _ hp => SqL.of (hp.1 _ _ hD)) (fun j y G3 hy hp => ?_) (fun G3 hp => ?_)
        · rw [List.getElem?_map] at hy
          obtain ⟨t, htz, rfl⟩ := Option.map_eq_some_iff.mp hy
          have jl := (List.getElem?_eq_some_iff.mp htz).1
          refine ⟨rfl, _, rfl, _, rfl, L, _, rfl, SqB.sm (s13.trans hp.1) hL, rfl, flat_strs _, _, hp.2, ?_, ?_, ?_⟩
          · rw [List.length_map, List.length_map, List.length_take]
            exact small1000 (by omega)
          · exact fun c o e => (upd_ne (ne_of_none e nD2)).trans (hp.1 c o e)
          · rw [upd_same, List.take_add_one, htz, inV_strs, List.map_append, List.map_append]
            rfl
        · rw [List.length_map, List.take_length] at hp
          have s14 := s13.trans hp.1
          refine ⟨D2, _, rfl, SqL.of hp.2, _, rfl, ?_⟩
          have ea : (ts.map fun t => decide (t.1 ∈ ns)).all id = goodT ns d := by
            unfold goodT
            rw [ht, en, Bool.true_and, List.all_map, List.all_map]
            rfl
          rw [ea]
          cases hg : goodT ns d with
          | false => exact iteT ⟨_, rfl, ret hg _ s14⟩
          | true =>
            refine iteF ⟨s14, ?_, _, _, _, rfl⟩
            rw [fb]
            show (if _ then _ else _) = _
            rw [if_pos hg]
    · obtain ⟨sG, fb, y1, y2, y3, rfl⟩ := hq
      rw [hds.len, List.drop_length] at fb
      have e : optV (firstBadT ns 0 ds) = .non := by
        rw [fb]
        rfl
      rw [e] at q
      exact q _ sG
def spFWqB (K : PySem.W.Frag) : Sp := fun vs H Q _ => ∃ (T L : Addr) (us : List V) (ds : List PyData) (ns : List Str) (z : Addr), vs = [.ref T, .ref L] ∧ SqB K H T us ∧ DtAll z H us ds ∧ us.length ≤ 900 ∧ SqB K H L (ns.map V.str) ∧ ∀ H', Same H H' → Q (optV (firstBadT ns 0 ds)) H'
theorem ok_p_first_wrong_tieB (T : Txt K mg fa fd) : FnOk P w K mg base CX0 6 (fa 146) (fd 146) ["ties", "names"] (spFWqB K) :=
  (FnOk.or (ok_p_first_wrong_tieL T) (ok_p_first_wrong_tieT T)).imp fun vs H Q E ⟨T0, L, us, ds, ns, z, e, h, r⟩ => h.elim (fun h => .inl ⟨T0, L, us, ds, ns, z, e, h, r⟩) fun h => .inr ⟨T0, L, us, ds, ns, z, e, h, r⟩
end
theorem op_notIn_seqK {X : Cx} {K : PySem.W.Frag} (h : X.K = K) : OpR X (compareOp .NotIn) (rIn K true) := h ▸ op_notIn_seq
section
variable {P : Program} {w : World} {K : PySem.W.Frag} {mg : Str → Option Value} {base : Heap} {fa : Nat → Addr} {fd : Nat → FuncData}
def spStrange (K : PySem.W.Frag) : Sp := fun vs H Q _ => ∃ (p : Addr) (ws : List Str), vs = [.ref p] ∧ SqL K H p (ws.map V.str) ∧ ws.length ≤ 9 ∧ ∀ x H', x ∈ tenNs → x ∉ ws → Same H H' → Q (.str x) H'
end
section
variable {P : Program} {w : World} {K : PySem.W.Frag} {mg : Str → Option Value} {base : Heap} {fa : Nat → Addr} {fd : Nat → FuncData}
/-- what a call of ascending comes back with -/
def AscQ (H : Hp) (Q : VK) (ns : List Str) : Prop := ∀ (p : Addr) (ms : List Str) (H' : Hp), Same H H' → H p = none → H' p = some (.lst (ms.map V.str)) → ms.Perm ns → sortedS ms = true → Q (.ref p) H'
def spAsL (K : PySem.W.Frag) : Sp := fun vs H Q _ => ∃ (L : Addr) (ns : List Str), vs = [.ref L] ∧ SqL K H L (ns.map V.str) ∧ ns.Nodup ∧ ns.length < 64 ∧ (∀ x ∈ ns, x.length ≤ 1000) ∧ AscQ H Q ns
theorem ok_p_ascendingL (T : Txt K mg fa fd) : FnOk P w K mg base CX0 1 (fa 117) (fd 117) ["names"] (spAsL K) := by
  refine T.F_p_ascending.ok sc_p_ascending (fun vs H Q E h => ?_) (fun cdv A outer s H vs Q E hr h => ?_)
  · obtain ⟨L, ns, rfl, _⟩ := h
    rfl
  · obtain ⟨L, ns, rfl, hL, nd, h64, hx, q⟩ := h
    refine ⟨_, (C8.pss_cut (ps_set (i := 1) sc_p_ascending.nd rfl (.inl rfl) (pe_lst pa_nil))
      (C8.pss_cut (ps_for PassesOwn.never rfl (pi_list (pe_callB cr_sortedS (by rfl) T.m_sorted (by decide +kernel) (pa_cons (pe_lc (own := [("one", 3)]) (g := gName 3) (tt := tYes) rfl sc_p_ascending.nd (pi_list (pv 0)) (blkOk_by (own := [("one", 3)]) (N := ["names", "found", "name", "one"]) (sc := defScope s_p_ascending) (by decide +kernel)) (fun _ _ _ _ _ => pg_name (i := 3) sc_p_ascending.nd rfl (Or.inl rfl)) (fun _ _ _ _ _ => pts_nil) (fun _ _ _ _ _ => (pe_callTy SkE.call_str_str (by rfl) T.m_str (by decide +kernel) (pa_cons (pv 3) pa_nil)))) pa_nil))) (pg_name (i := 2) sc_p_ascending.nd rfl (.inl rfl)) (pss_one (ps_if (pt_cmpR (op_notIn_seqK (K := K) rfl) (pv 2) (pv 1) (by rfl)) (pss_one (ps_expr (pe_bm PySem.F.plainAttrs_list PySem.F.slot_list_append PySem.F.type_list_append mt_append (pv 1) (pa_cons (pv 2) pa_nil)))) pss_nil)))
      (pss_one (ps_ret (pv 1))))), ?_⟩
    refine ⟨fun σ G => ∃ F, H F = none ∧ Same H G ∧ G F = some (.lst []) ∧ σ = [some (.ref L), some (.ref F), none, none], ⟨small_line (by show 0 ≤ 1000; decide), fun F nF => ⟨F, nF, same_upd nF, upd_same, rfl⟩⟩, fun σ G hM => ?_⟩
    obtain ⟨F, nF, sG, hF, rfl⟩ := hM
    refine ⟨fun σ G1 => ∃ ms y2 y3, (∀ b o, b ≠ F → H b = some o → G1 b = some o) ∧ G1 F = some (.lst (ms.map V.str)) ∧ ms.Perm ns ∧ sortedS ms = true ∧ σ = [some (.ref L), some (.ref F), y2, y3], ?_, fun σ G1 hM => ?_⟩
    · refine ⟨_, rfl, L, rfl, ⟨_, SqL.sm sG hL⟩, fun D nD => ?_⟩
      have nDF : D ≠ F := fun e => by rw [e, hF] at nD; cases nD
      refine lc_list (K := K) (a := L) (xs := ns.map V.str) (fun i G3 => Same G G3 ∧ G3 D = some (.lst ((ns.take i).map V.str))) ⟨same_upd nD, upd_same⟩ (fun i G3 _ hp => SqL.sm (sG.trans hp.1) hL) (fun i y G3 hy hp => ?_) (fun G3 hp => ?_)
      · rw [List.getElem?_map] at hy
        obtain ⟨x, hz, rfl⟩ := Option.map_eq_some_iff.mp hy
        have il := (List.getElem?_eq_some_iff.mp hz).1
        refine ⟨rfl, _, rfl, _, rfl, _, hp.2, ?_, fun c o e => (upd_ne (ne_of_none e nD)).trans (hp.1 c o e), ?_⟩
        · rw [List.length_map, List.length_take]
          exact small1000 (by omega)
        · rw [upd_same, List.take_add_one, hz, List.map_append]
          rfl
      · rw [List.length_map, List.take_length] at hp
        refine ⟨D, ns, rfl, SqL.of hp.2, h64, fun ys p perm srt np => ?_⟩
        have sp := same_upd (o := .lst (ys.map V.str)) np
        have ndy : ys.Nodup := perm.nodup_iff.mpr nd
        have hF3 := sp _ _ (hp.1 _ _ hF)
        have pF : p ≠ F := fun e => by rw [e, hp.1 _ _ hF] at np; cases np
        have s13 := (sG.trans hp.1).trans sp
        refine ⟨p, rfl, ⟨_, SqL.of upd_same⟩, for_list (K := K) (a := p) (xs := ys.map V.str) (fun i σ G4 => (∀ b o, b ≠ F → H b = some o → G4 b = some o) ∧ G4 F = some (.lst ((ys.take i).map V.str)) ∧ G4 p = some (.lst (ys.map V.str)) ∧ ∃ y2 y3, σ = [some (.ref L), some (.ref F), y2, y3])
          ⟨fun b o _ e => s13 b o e, hF3, upd_same, _, _, rfl⟩ (fun i σ G4 _ hq => SqL.of hq.2.2.1) (fun i y σ G4 hy hq => ?_) (fun σ G4 hq => ?_)⟩
        · rw [List.getElem?_map] at hy
          obtain ⟨x, hz, rfl⟩ := Option.map_eq_some_iff.mp hy
          have il := (List.getElem?_eq_some_iff.mp hz).1
          obtain ⟨oth, hF4, hp4, y2, y3, rfl⟩ := hq
          have fresh : x ∉ ys.take i := fun z => by
            obtain ⟨j, hj, ej⟩ := List.mem_iff_getElem.mp z
            rw [List.length_take] at hj
            rw [List.getElem_take] at ej
            have e2 := (List.getElem?_eq_some_iff.mp hz).2
            exact List.pairwise_iff_getElem.mp ndy j i (by omega) il (by omega) (ej.trans e2.symm)
          refine ⟨_, rfl, _, rfl, F, _, rfl, .inl (SqL.of hF4), rfl, flat_strs _, ?_⟩
          rw [inV_strs, decide_eq_false fresh]
          refine ⟨_, rfl, iteT ⟨_, rfl, .inl ⟨rfl, _, SqL.of hF4⟩, _, rfl, F, _, _, rfl, rfl, hF4, ?_, ?_⟩⟩
          · rw [List.length_map, List.length_take]
            exact small1000 (by have := perm.length_eq; omega)
          · refine ⟨fun b o nb e => (upd_ne nb).trans (oth b o nb e), ?_, (upd_ne pF).trans hp4, _, _, rfl⟩
            rw [upd_same, List.take_add_one, hz, List.map_append]
            rfl
        · obtain ⟨oth, hF4, hp4, y2, y3, rfl⟩ := hq
          rw [List.length_map, List.take_length] at hF4
          exact ⟨ys, _, _, oth, hF4, perm, srt, rfl⟩
    obtain ⟨ms, y2, y3, oth, hF1, hp, hs, rfl⟩ := hM
    exact ⟨_, rfl, q F ms G1 (fun b o e => oth b o (ne_of_none e nF) e) nF hF1 hp hs⟩
end
section
variable {P : Program} {w : World} {K : PySem.W.Frag} {mg : Str → Option Value} {base : Heap} {fa : Nat → Addr} {fd : Nat → FuncData}
def spAsT (K : PySem.W.Frag) : Sp := fun vs H Q _ => ∃ (L : Addr) (ns : List Str), vs = [.ref L] ∧ SqT K H L (ns.map V.str) ∧ ns.Nodup ∧ ns.length < 64 ∧ (∀ x ∈ ns, x.length ≤ 1000) ∧ AscQ H Q ns
theorem ok_p_ascendingT (T : Txt K mg fa fd) : FnOk P w K mg base CX0 1 (fa 117) (fd 117) ["names"] (spAsT K) := by
  refine T.F_p_ascending.ok sc_p_ascending (fun vs H Q E h => ?_) (fun cdv A outer s H vs Q E hr h => ?_)
  · obtain ⟨L, ns, rfl, _⟩ := h
    rfl
  · obtain ⟨L, ns, rfl, hL, nd, h64, hx, q⟩ := h
    refine ⟨_, (C8.pss_cut (ps_set (i := 1) sc_p_ascending.nd rfl (.inl rfl) (pe_lst pa_nil))
      (C8.pss_cut (ps_for PassesOwn.never rfl (pi_list (pe_callB cr_sortedS (by rfl) T.m_sorted (by decide +kernel) (pa_cons (pe_lc (own := [("one", 3)]) (g := gName 3) (tt := tYes) rfl sc_p_ascending.nd (pi_tup (pv 0)) (blkOk_by (own := [("one", 3)]) (N := ["names", "found", "name", "one"]) (sc := defScope s_p_ascending) (by decide +kernel)) (fun _ _ _ _ _ => pg_name (i := 3) sc_p_ascending.nd rfl (Or.inl rfl)) (fun _ _ _ _ _ => pts_nil) (fun _ _ _ _ _ => (pe_callTy SkE.call_str_str (by rfl) T.m_str (by decide +kernel) (pa_cons (pv 3) pa_nil)))) pa_nil))) (pg_name (i := 2) sc_p_ascending.nd rfl (.inl rfl)) (pss_one (ps_if (pt_cmpR (op_notIn_seqK (K := K) rfl) (pv 2) (pv 1) (by rfl)) (pss_one (ps_expr (pe_bm PySem.F.plainAttrs_list PySem.F.slot_list_append PySem.F.type_list_append mt_append (pv 1) (pa_cons (pv 2) pa_nil)))) pss_nil)))
      (pss_one (ps_ret (pv 1))))), ?_⟩
    refine ⟨fun σ G => ∃ F, H F = none ∧ Same H G ∧ G F = some (.lst []) ∧ σ = [some (.ref L), some (.ref F), none, none], ⟨small_line (by show 0 ≤ 1000; decide), fun F nF => ⟨F, nF, same_upd nF, upd_same, rfl⟩⟩, fun σ G hM => ?_⟩
    obtain ⟨F, nF, sG, hF, rfl⟩ := hM
    refine ⟨fun σ G1 => ∃ ms y2 y3, (∀ b o, b ≠ F → H b = some o → G1 b = some o) ∧ G1 F = some (.lst (ms.map V.str)) ∧ ms.Perm ns ∧ sortedS ms = true ∧ σ = [some (.ref L), some (.ref F), y2, y3], ?_, fun σ G1 hM => ?_⟩
    · refine ⟨_, rfl, L, rfl, ⟨_, SqT_sm sG hL⟩, fun D nD => ?_⟩
      have nDF : D ≠ F := fun e => by rw [e, hF] at nD; cases nD
      refine lc_tup (K := K) (a := L) (xs := ns.map V.str) (fun i G3 => Same G G3 ∧ G3 D = some (.lst ((ns.take i).map V.str))) ⟨same_upd nD, upd_same⟩ (fun i G3 _ hp => SqT_sm (sG.trans hp.1) hL) (fun i y G3 hy hp => ?_) (fun G3 hp => ?_)
      · rw [List.getElem?_map] at hy
        obtain ⟨x, hz, rfl⟩ := Option.map_eq_some_iff.mp hy
        have il := (List.getElem?_eq_some_iff.mp hz).1
        refine ⟨rfl, _, rfl, _, rfl, _, hp.2, ?_, fun c o e => (upd_ne (ne_of_none e nD)).trans (hp.1 c o e), ?_⟩
        · rw [List.length_map, List.length_take]
          exact small1000 (by omega)
        · rw [upd_same, List.take_add_one, hz, List.map_append]
          rfl
      · rw [List.length_map, List.take_length] at hp
        refine ⟨D, ns, rfl, SqL.of hp.2, h64, fun ys p perm srt np => ?_⟩
        have sp := same_upd (o := .lst (ys.map V.str)) np
        have ndy : ys.Nodup := perm.nodup_iff.mpr nd
        have hF3 := sp _ _ (hp.1 _ _ hF)
        have pF : p ≠ F := fun e => by rw [e, hp.1 _ _ hF] at np; cases np
        have s13 := (sG.trans hp.1).trans sp
        refine ⟨p, rfl, ⟨_, SqL.of upd_same⟩, for_list (K := K) (a := p) (xs := ys.map V.str) (fun i σ G4 => (∀ b o, b ≠ F → H b = some o → G4 b = some o) ∧ G4 F = some (.lst ((ys.take i).map V.str)) ∧ G4 p = some (.lst (ys.map V.str)) ∧ ∃ y2 y3, σ = [some (.ref L), some (.ref F), y2, y3])
          ⟨fun b o _ e => s13 b o e, hF3, upd_same, _, _, rfl⟩ (fun i σ G4 _ hq => SqL.of hq.2.2.1) (fun i y σ G4 hy hq => ?_) (fun σ G4 hq => ?_)⟩
        · rw [List.getElem?_map] at hy
          obtain ⟨x, hz, rfl⟩ := Option.map_eq_some_iff.mp hy
          have il := (List.getElem?_eq_some_iff.mp hz).1
          obtain ⟨oth, hF4, hp4, y2, y3, rfl⟩ := hq
          have fresh : x ∉ ys.take i := fun z => by
            obtain ⟨j, hj, ej⟩ := List.mem_iff_getElem.mp z
            rw [List.length_take] at hj
            rw [List.getElem_take] at ej
            have e2 := (List.getElem?_eq_some_iff.mp hz).2
            exact List.pairwise_iff_getElem.mp ndy j i (by omega) il (by omega) (ej.trans e2.symm)
          refine ⟨_, rfl, _, rfl, F, _, rfl, .inl (SqL.of hF4), rfl, flat_strs _, ?_⟩
          rw [inV_strs, decide_eq_false fresh]
          refine ⟨_, rfl, iteT ⟨_, rfl, .inl ⟨rfl, _, SqL.of hF4⟩, _, rfl, F, _, _, rfl, rfl, hF4, ?_, ?_⟩⟩
          · rw [List.length_map, List.length_take]
            exact small1000 (by have := perm.length_eq; omega)
          · refine ⟨fun b o nb e => (upd_ne nb).trans (oth b o nb e), ?_, (upd_ne pF).trans hp4, _, _, rfl⟩
            rw [upd_same, List.take_add_one, hz, List.map_append]
            rfl
        · obtain ⟨oth, hF4, hp4, y2, y3, rfl⟩ := hq
          rw [List.length_map, List.take_length] at hF4
          exact ⟨ys, _, _, oth, hF4, perm, srt, rfl⟩
    obtain ⟨ms, y2, y3, oth, hF1, hp, hs, rfl⟩ := hM
    exact ⟨_, rfl, q F ms G1 (fun b o e => oth b o (ne_of_none e nF) e) nF hF1 hp hs⟩
def spAsD (K : PySem.W.Frag) : Sp := fun vs H Q _ => ∃ (L : Addr) (ns : List Str) (kvs : List (Key × V)), vs = [.ref L] ∧ (H L = some (.dK kvs) ∧ kvs.map (·.1) = ns.map (fun x => (.inr x : Key))) ∧ ns.Nodup ∧ ns.length < 64 ∧ (∀ x ∈ ns, x.length ≤ 1000) ∧ AscQ H Q ns
theorem ok_p_ascendingD (T : Txt K mg fa fd) : FnOk P w K mg base CX0 1 (fa 117) (fd 117) ["names"] (spAsD K) := by
  refine T.F_p_ascending.ok sc_p_ascending (fun vs H Q E h => ?_) (fun cdv A outer s H vs Q E hr h => ?_)
  · obtain ⟨L, ns, kvs, rfl, _⟩ := h
    rfl
  · obtain ⟨L, ns, kvs, rfl, ⟨hk, hkeys⟩, nd, h64, hx, q⟩ := h
    refine ⟨_, (C8.pss_cut (ps_set (i := 1) sc_p_ascending.nd rfl (.inl rfl) (pe_lst pa_nil))
      (C8.pss_cut (ps_for PassesOwn.never rfl (pi_list (pe_callB cr_sortedS (by rfl) T.m_sorted (by decide +kernel) (pa_cons (pe_lock (pe_lc (own := [("one", 3)]) (g := gName 3) (tt := tYes) rfl sc_p_ascending.nd (pi_keys (pv 0)) (blkOk_by (own := [("one", 3)]) (N := ["names", "found", "name", "one"]) (sc := defScope s_p_ascending) (by decide +kernel)) (fun _ _ _ _ _ => pg_name (i := 3) sc_p_ascending.nd rfl (Or.inl rfl)) (fun _ _ _ _ _ => pts_nil) (fun _ _ _ _ _ => (pe_callTy SkE.call_str_str (by rfl) T.m_str (by decide +kernel) (pa_cons (pv 3) pa_nil))))) pa_nil))) (pg_name (i := 2) sc_p_ascending.nd rfl (.inl rfl)) (pss_one (ps_if (pt_cmpR (op_notIn_seqK (K := K) rfl) (pv 2) (pv 1) (by rfl)) (pss_one (ps_expr (pe_bm PySem.F.plainAttrs_list PySem.F.slot_list_append PySem.F.type_list_append mt_append (pv 1) (pa_cons (pv 2) pa_nil)))) pss_nil)))
      (pss_one (ps_ret (pv 1))))), ?_⟩
    refine ⟨fun σ G => ∃ F, H F = none ∧ Same H G ∧ G F = some (.lst []) ∧ σ = [some (.ref L), some (.ref F), none, none], ⟨small_line (by show 0 ≤ 1000; decide), fun F nF => ⟨F, nF, same_upd nF, upd_same, rfl⟩⟩, fun σ G hM => ?_⟩
    obtain ⟨F, nF, sG, hF, rfl⟩ := hM
    refine ⟨fun σ G1 => ∃ ms y2 y3, (∀ b o, b ≠ F → H b = some o → G1 b = some o) ∧ G1 F = some (.lst (ms.map V.str)) ∧ ms.Perm ns ∧ sortedS ms = true ∧ σ = [some (.ref L), some (.ref F), y2, y3], ?_, fun σ G1 hM => ?_⟩
    · have hkG := sG _ _ hk
      refine ⟨L, _, hkG, trivial, fun od => ?_⟩
      refine ⟨_, rfl, L, od, rfl, .inl ⟨kvs, upd_same, fun D nD => ?_⟩⟩
      have nDL : D ≠ L := fun e => by rw [e, upd_same] at nD; cases nD
      have nDG : G D = none := by
        rw [upd_ne nDL] at nD
        exact nD
      have nDF : D ≠ F := fun e => by rw [e, hF] at nDG; cases nDG
      have kl : kvs.length = ns.length := by
        have := congrArg List.length hkeys
        rwa [List.length_map, List.length_map] at this
      refine lc_keys (fun i G3 => G3 L = some (.frz od (.dK kvs)) ∧ Ex L G G3 ∧ G3 D = some (.lst ((ns.take i).map V.str))) ⟨?_, ?_, upd_same⟩ (fun i G3 h => h.1) (fun i k vv G3 hkv hp => ?_) (fun G3 hp => ?_)
      · rw [upd_ne nDL.symm]
        exact upd_same
      · exact fun c o e n => by
          rw [upd_ne (ne_of_none e nDG), upd_ne n]
          exact e
      · obtain ⟨hfL, ex, hD⟩ := hp
        have il := (List.getElem?_eq_some_iff.mp hkv).1
        obtain ⟨x, hz, rfl⟩ : ∃ x, ns[i]? = some x ∧ k = .inr x := by
          have e1 : (kvs.map (·.1))[i]? = some k := by rw [List.getElem?_map, hkv]; rfl
          rw [hkeys, List.getElem?_map] at e1
          obtain ⟨x, hx1, hx2⟩ := Option.map_eq_some_iff.mp e1
          exact ⟨x, hx1, hx2.symm⟩
        refine ⟨rfl, _, rfl, _, rfl, _, hD, ?_, ?_, ex.upd nDG, ?_⟩
        · rw [List.length_map, List.length_take]
          exact small1000 (by omega)
        · rw [upd_ne nDL.symm]
          exact hfL
        · rw [upd_same, List.take_add_one, hz, List.map_append]
          rfl
      · obtain ⟨hfL, ex, hD⟩ := hp
        rw [kl, List.take_length] at hD
        refine ⟨hfL, ?_⟩
        have sb : Same G (upd G3 L (.dK kvs)) := ex.back hkG
        have hD2 : upd G3 L (.dK kvs) D = some (.lst (ns.map V.str)) := by
          rw [upd_ne nDL]
          exact hD
        generalize upd G3 L (.dK kvs) = G3 at sb hD2
        have hp : Same G G3 ∧ G3 D = some (.lst (ns.map V.str)) := ⟨sb, hD2⟩
        refine ⟨D, ns, rfl, SqL.of hp.2, h64, fun ys p perm srt np => ?_⟩
        have sp := same_upd (o := .lst (ys.map V.str)) np
        have ndy : ys.Nodup := perm.nodup_iff.mpr nd
        have hF3 := sp _ _ (hp.1 _ _ hF)
        have pF : p ≠ F := fun e => by rw [e, hp.1 _ _ hF] at np; cases np
        have s13 := (sG.trans hp.1).trans sp
        refine ⟨p, rfl, ⟨_, SqL.of upd_same⟩, for_list (K := K) (a := p) (xs := ys.map V.str) (fun i σ G4 => (∀ b o, b ≠ F → H b = some o → G4 b = some o) ∧ G4 F = some (.lst ((ys.take i).map V.str)) ∧ G4 p = some (.lst (ys.map V.str)) ∧ ∃ y2 y3, σ = [some (.ref L), some (.ref F), y2, y3])
          ⟨fun b o _ e => s13 b o e, hF3, upd_same, _, _, rfl⟩ (fun i σ G4 _ hq => SqL.of hq.2.2.1) (fun i y σ G4 hy hq => ?_) (fun σ G4 hq => ?_)⟩
        · rw [List.getElem?_map] at hy
          obtain ⟨x, hz, rfl⟩ := Option.map_eq_some_iff.mp hy
          have il := (List.getElem?_eq_some_iff.mp hz).1
          obtain ⟨oth, hF4, hp4, y2, y3, rfl⟩ := hq
          have fresh : x ∉ ys.take i := fun z => by
            obtain ⟨j, hj, ej⟩ := List.mem_iff_getElem.mp z
            rw [List.length_take] at hj
            rw [List.getElem_take] at ej
            have e2 := (List.getElem?_eq_some_iff.mp hz).2
            exact List.pairwise_iff_getElem.mp ndy j i (by omega) il (by omega) (ej.trans e2.symm)
          refine ⟨_, rfl, _, rfl, F, _, rfl, .inl (SqL.of hF4), rfl, flat_strs _, ?_⟩
          rw [inV_strs, decide_eq_false fresh]
          refine ⟨_, rfl, iteT ⟨_, rfl, .inl ⟨rfl, _, SqL.of hF4⟩, _, rfl, F, _, _, rfl, rfl, hF4, ?_, ?_⟩⟩
          · rw [List.length_map, List.length_take]
            exact small1000 (by have := perm.length_eq; omega)
          · refine ⟨fun b o nb e => (upd_ne nb).trans (oth b o nb e), ?_, (upd_ne pF).trans hp4, _, _, rfl⟩
            rw [upd_same, List.take_add_one, hz, List.map_append]
            rfl
        · obtain ⟨oth, hF4, hp4, y2, y3, rfl⟩ := hq
          rw [List.length_map, List.take_length] at hF4
          exact ⟨ys, _, _, oth, hF4, perm, srt, rfl⟩
    obtain ⟨ms, y2, y3, oth, hF1, hp, hs, rfl⟩ := hM
    exact ⟨_, rfl, q F ms G1 (fun b o e => oth b o (ne_of_none e nF) e) nF hF1 hp hs⟩
/-- a list, a tuple, the keys of a dict -/
def SqN (K : PySem.W.Frag) (H : Hp) (L : Addr) (ns : List Str) : Prop := SqB K H L (ns.map V.str) ∨ ∃ kvs : List (Key × V), H L = some (.dK kvs) ∧ kvs.map (·.1) = ns.map (fun x => (.inr x : Key))
def spAsB (K : PySem.W.Frag) : Sp := fun vs H Q _ => ∃ (L : Addr) (ns : List Str), vs = [.ref L] ∧ SqN K H L ns ∧ ns.Nodup ∧ ns.length < 64 ∧ (∀ x ∈ ns, x.length ≤ 1000) ∧ AscQ H Q ns
theorem ok_p_ascendingB (T : Txt K mg fa fd) : FnOk P w K mg base CX0 1 (fa 117) (fd 117) ["names"] (spAsB K) :=
  (FnOk.or (FnOk.or (ok_p_ascendingL T) (ok_p_ascendingT T)) (ok_p_ascendingD T)).imp fun vs H Q E ⟨L, ns, e, h, r⟩ => by
    rcases h with (h | h) | ⟨kvs, h⟩
    · exact .inl (.inl ⟨L, ns, e, h, r⟩)
    · exact .inl (.inr ⟨L, ns, e, h, r⟩)
    · exact .inr ⟨L, ns, kvs, e, h, r⟩
end
section
variable {P : Program} {w : World} {K : PySem.W.Frag} {mg : Str → Option Value} {base : Heap} {fa : Nat → Addr} {fd : Nat → FuncData}
/-- what holds of a call Lot(names, ties) that is right -/
structure LotA (K : PySem.W.Frag) (H : Hp) (L T : Addr) (ns : List Str) (us : List V) : Prop where
  ln : SqB K H L (ns.map V.str)
  lt : SqB K H T us
  ds : ∃ z ds, DtAll z H us ds ∧ firstBadT ns 0 ds = none
  us : us.length ≤ 900
  fb : firstBad 0 [] ns = none
  nd : ns.Nodup
  sz : ns.length < 64
  lx : ∀ x ∈ ns, x.length ≤ 1000
theorem LotA.same {K : PySem.W.Frag} {H H' : Hp} {L T : Addr} {ns : List Str} {us : List V} (h : LotA K H L T ns us) (s : Same H H') : LotA K H' L T ns us := by
  obtain ⟨z, ds, a, b⟩ := h.ds
  exact ⟨h.ln.sm s, h.lt.sm s, ⟨z, ds, a.same s, b⟩, h.us, h.fb, h.nd, h.sz, h.lx⟩
/-- a lot in the heap -/
structure LotH (K : PySem.W.Frag) (C : Addr) (H : Hp) (x : Addr) (ns : List Str) (us : List V) : Prop where
  at_ : ∃ dx p1 p2 ms, H x = some (.ins C dx [("unknowns", .ref p1), ("bonds", .ref p2)]) ∧ SqT K H p1 (ms.map V.str) ∧ ms.Perm ns ∧ sortedS ms = true ∧ SqT K H p2 us
def spLotI (K : PySem.W.Frag) (C : Addr) : Sp := fun vs H Q _ => ∃ (self L T : Addr) (ns : List Str) (us : List V) (dx : Addr), vs = [.ref self, .ref L, .ref T] ∧ H self = some (.ins C dx []) ∧ LotA K H L T ns us ∧
  ∀ H', (∀ b o, b ≠ self → H b = some o → H' b = some o) → LotH K C H' self ns us → Q .non H'
theorem ok_p_LotInit (T : Txt K mg fa fd) : FnOk P w K mg base CX0 7 (fa 1500) (fd 1500) ["self", "names", "ties"] (spLotI K (fa 148)) := by
  refine T.F_LotInit.ok sc_p_LotInit (fun vs H Q E h => ?_) (fun cdv A outer s H vs Q E hr h => ?_)
  · obtain ⟨self, L, T0, ns, us, dx, rfl, _⟩ := h
    rfl
  · obtain ⟨self, L, T0, ns, us, dx, rfl, hself, hA, q⟩ := h
    refine ⟨_, PSs.nox (C8.pss_cut (ps_set (i := 3) sc_p_LotInit.nd rfl (.inl rfl) (pe_call (ok_p_first_wrong_nameB T) (hr.mono (by decide)) (by rfl) T.g_p_first_wrong_name T.F_p_first_wrong_name.kp T.b_p_first_wrong_name .nil pass0 (pa_cons (pv 1) pa_nil)))
      (C8.pss_cut (ps_if (pt_cmpR op_notN (pv 3) pe_non (nomark _)) (pss_one ps_never) pss_nil)
      (C8.pss_cut (ps_set (i := 3) sc_p_LotInit.nd rfl (.inl rfl) (pe_call (ok_p_first_wrong_tieB T) (hr.mono (by decide)) (by rfl) T.g_p_first_wrong_tie T.F_p_first_wrong_tie.kp T.b_p_first_wrong_tie .nil pass0 (pa_cons (pv 2) (pa_cons (pv 1) pa_nil))))
      (C8.pss_cut (ps_if (pt_cmpR op_notN (pv 3) pe_non (nomark _)) (pss_one ps_never) pss_nil)
      (C8.pss_cut (ps_fld (pv 0) (pe_callTy call_tuple_of (by rfl) T.m_tuple (by decide +kernel) (pa_cons (pe_call (ok_p_ascendingB T) (hr.mono (by decide)) (by rfl) T.g_p_ascending T.F_p_ascending.kp T.b_p_ascending .nil pass0 (pa_cons (pv 1) pa_nil)) pa_nil)) (by rfl))
      (pss_one (ps_fld (pv 0) (pe_callTy call_tuple_of (by rfl) T.m_tuple (by decide +kernel) (pa_cons (pv 2) pa_nil)) (by rfl)))))))), ?_⟩
    refine ⟨fun σ H1 => Same H H1 ∧ σ = [some (.ref self), some (.ref L), some (.ref T0), some .non], ⟨_, rfl, L, ns, rfl, hA.ln, by have := hA.sz; omega, hA.lx, fun H' s' => ⟨s', by rw [hA.fb]; rfl⟩⟩, fun σ H1 hM => ?_⟩
    obtain ⟨s1, rfl⟩ := hM
    refine ⟨fun σ H2 => Same H H2 ∧ σ = [some (.ref self), some (.ref L), some (.ref T0), some .non], ⟨_, rfl, rfl, _, rfl, iteF ⟨s1, rfl⟩⟩, fun σ H2 hM => ?_⟩
    obtain ⟨s2, rfl⟩ := hM
    have hA2 := hA.same s2
    obtain ⟨z, ds, hds, hbt⟩ := hA2.ds
    refine ⟨fun σ H3 => Same H H3 ∧ σ = [some (.ref self), some (.ref L), some (.ref T0), some .non], ⟨_, rfl, _, rfl, T0, L, us, ds, ns, z, rfl, hA2.lt, hds, hA2.us, hA2.ln, fun H' s' => ⟨s2.trans s', by rw [hbt]; rfl⟩⟩, fun σ H3 hM => ?_⟩
    obtain ⟨s3, rfl⟩ := hM
    refine ⟨fun σ H2 => Same H H2 ∧ σ = [some (.ref self), some (.ref L), some (.ref T0), some .non], ⟨_, rfl, rfl, _, rfl, iteF ⟨s3, rfl⟩⟩, fun σ H4 hM => ?_⟩
    obtain ⟨s4, rfl⟩ := hM
    have hA4 := hA.same s4
    refine ⟨fun σ G => ∃ p1 ms, (∀ b o, b ≠ self → H b = some o → G b = some o) ∧ G self = some (.ins (fa 148) dx [("unknowns", .ref p1)]) ∧ G p1 = some (.tup (ms.map V.str)) ∧ p1 ≠ self ∧ ms.Perm ns ∧ sortedS ms = true ∧ σ = [some (.ref self), some (.ref L), some (.ref T0), some .non], ?_, fun σ G hM => ?_⟩
    · refine ⟨_, rfl, L, ns, rfl, .inl hA4.ln, hA4.nd, hA4.sz, hA4.lx, fun p ms H5 s5 np hp perm srt => ?_⟩
      refine ⟨p, _, rfl, .inl ⟨SqL.of hp, fun p1 np1 => ?_⟩⟩
      have sp := same_upd (o := .tup (ms.map V.str)) np1
      have hs5 := (s4.trans s5) _ _ hself
      have hs6 := sp _ _ hs5
      have np1s : p1 ≠ self := fun e => by rw [e, hs5] at np1; cases np1
      refine ⟨_, rfl, self, _, dx, [], rfl, hs6, T.cl_Lot, T.na_Lot_unknowns, by show 0 < 1000; decide, p1, ms, fun b o nb e => (upd_ne nb).trans (((s4.trans s5).trans sp) _ _ e), upd_same, ?_, np1s, perm, srt, rfl⟩
      rw [upd_ne np1s, upd_same]
    obtain ⟨p1, ms, oth, hs, hp1, np1s, perm, srt, rfl⟩ := hM
    have ltG : SqB K G T0 us := by
      rcases hA.lt with h | h
      · refine .inl ?_
        rcases h with (e | ⟨o, e⟩) | e
        · exact .inl (.inl (oth _ _ (fun z => by rw [z, hself] at e; cases e) e))
        · exact .inl (.inr ⟨o, oth _ _ (fun z => by rw [z, hself] at e; cases e) e⟩)
        · exact .inr e
      · refine .inr ?_
        rcases h with (e | ⟨o, e⟩) | e
        · exact .inl (.inl (oth _ _ (fun z => by rw [z, hself] at e; cases e) e))
        · exact .inl (.inr ⟨o, oth _ _ (fun z => by rw [z, hself] at e; cases e) e⟩)
        · exact .inr e
    have fin : ∀ (p2 : Addr) (G2 : Hp), (∀ b o, G b = some o → G2 b = some o) → (∀ o, SqT K (upd G2 self o) p2 us) → Q .non (upd G2 self (.ins (fa 148) dx [("unknowns", .ref p1), ("bonds", .ref p2)])) := fun p2 G2 sg h2 => by
      refine q _ (fun b o nb e => (upd_ne nb).trans (sg _ _ (oth b o nb e))) ⟨dx, p1, p2, ms, upd_same, SqT.of ((upd_ne np1s).trans (sg _ _ hp1)), perm, srt, h2 _⟩
    refine ⟨_, rfl, T0, us, rfl, ?_⟩
    rcases ltG with h | h
    · refine .inl ⟨h, fun p2 np2 => ?_⟩
      have sp := same_upd (o := .tup us) np2
      have n2 : p2 ≠ self := fun e => by rw [e, hs] at np2; cases np2
      exact ⟨_, rfl, self, _, dx, _, rfl, sp _ _ hs, T.cl_Lot, T.na_Lot_bonds, by show 1 < 1000; decide, fin p2 _ sp fun o => SqT.of ((upd_ne n2).trans upd_same)⟩
    · refine .inr ⟨h, ?_⟩
      refine ⟨_, rfl, self, _, dx, _, rfl, hs, T.cl_Lot, T.na_Lot_bonds, by show 1 < 1000; decide, fin T0 _ (fun _ _ e => e) fun o => ?_⟩
      rcases h with (e | ⟨o, e⟩) | e
      · exact .inl (.inl ((upd_ne (fun z => by rw [z, hs] at e; cases e)).trans e))
      · exact .inl (.inr ⟨_, (upd_ne (fun z => by rw [z, hs] at e; cases e)).trans e⟩)
      · exact .inr e
end
/-! ### names in order, any number of them -/
def leN (a b : List Nat) : Prop := ltCps b a = false
theorem ltc (a b : List Nat) : ltCps a b = decide (a < b) := by
  have h := lt_meets (SX.S a) (SX.S b)
  rw [S_list, S_list] at h
  exact h.symm
theorem leN_iff {a b : List Nat} : leN a b ↔ a ≤ b := by
  unfold leN
  rw [ltc, decide_eq_false_iff_not, List.not_lt]
theorem leN_trans {a b c : List Nat} (h : leN a b) (k : leN b c) : leN a c := leN_iff.mpr (List.le_trans (leN_iff.mp h) (leN_iff.mp k))
theorem leN_anti {a b : List Nat} (h : leN a b) (k : leN b a) : a = b := by
  by_cases e : a = b
  · exact e
  · have := lt_tri a b h e
    rw [show ltCps a b = false from k] at this
    cases this
def leStr (a b : Str) : Prop := leN a.cps.toList b.cps.toList
theorem srt_pw : ∀ (l : List Str), sortedS l = true → l.Pairwise leStr
  | [], _ => .nil
  | [x], _ => List.pairwise_singleton _ _
  | x :: y :: r, h => by
    have h : (!ltCps y.cps.toList x.cps.toList && risingS y r) = true := h
    rw [Bool.and_eq_true, Bool.not_eq_true'] at h
    have ih := srt_pw (y :: r) h.2
    refine List.Pairwise.cons (fun z hz => ?_) ih
    rcases List.mem_cons.mp hz with rfl | hz
    · exact h.1
    · exact leN_trans h.1 ((List.pairwise_cons.mp ih).1 z hz)
theorem str_ext {a b : Str} (h : a.cps.toList = b.cps.toList) : a = b := by rw [← S_of a, ← S_of b, h]
theorem srt_unique {l r : List Str} (hl : l.Pairwise leStr) (hr : r.Pairwise leStr) (h : l.Perm r) : l = r :=
  List.Perm.eq_of_pairwise (fun _ _ _ _ h k => str_ext (leN_anti h k)) hl hr h
theorem sqT_upd {K : PySem.W.Frag} {H : Hp} {a p : Addr} {o : HO} {xs : List V} (h : SqT K H a xs) (np : H p = none) : SqT K (upd H p o) a xs := SqT_sm (same_upd np) h
theorem LotH.same {K : PySem.W.Frag} {C x : Addr} {H H' : Hp} {ns : List Str} {us : List V} (h : LotH K C H x ns us) (s : Same H H') : LotH K C H' x ns us := by
  obtain ⟨dx, p1, p2, ms, h1, h2, h3, h4, h5⟩ := h.at_
  exact ⟨dx, p1, p2, ms, s _ _ h1, SqT_sm s h2, h3, h4, SqT_sm s h5⟩
theorem strlen_cat (a b : Str) : (a ++ b).length = a.length + b.length := by
  have h : (SX.S a.cps.toList ++ SX.S b.cps.toList).length = (SX.S a.cps.toList).length + (SX.S b.cps.toList).length := by
    rw [SX.S_cat, SX.S_len, SX.S_len, SX.S_len, List.length_append]
  rwa [S_of, S_of] at h
def numS (n : Nat) : Str := toString (n : Int)
section
variable {P : Program} {w : World} {K : PySem.W.Frag} {mg : Str → Option Value} {base : Heap} {fa : Nat → Addr} {fd : Nat → FuncData}
def spLNames (K : PySem.W.Frag) (C : Addr) : Sp := fun vs H Q _ => ∃ (x : Addr) (ns : List Str) (us : List V), vs = [.ref x] ∧ LotH K C H x ns us ∧ AscQ H Q ns
theorem ok_p_LotNames (T : Txt K mg fa fd) : FnOk P w K mg base CX0 1 (fa 1510) (fd 1510) ["self"] (spLNames K (fa 148)) := by
  refine T.F_LotNames.ok sc_p_LotNames (fun vs H Q E h => ?_) (fun cdv A outer s H vs Q E hr h => ?_)
  · obtain ⟨x, ns, us, rfl, _⟩ := h
    rfl
  · obtain ⟨x, ns, us, rfl, hL, q⟩ := h
    obtain ⟨dx, p1, p2, ms, h1, h2, h3, h4, h5⟩ := hL.at_
    refine ⟨_, (pss_one (ps_ret (pe_callTy call_list_of (by rfl) T.m_list (by decide +kernel) (pa_cons (pe_fld (pv 0) (by rfl)) pa_nil)))), ?_⟩
    exact ⟨_, rfl, _, _, dx, _, _, rfl, h1, T.cl_Lot, T.na_Lot_unknowns, rfl, p1, _, rfl, .inr h2, fun l nl => q l ms _ (same_upd nl) nl upd_same h3 h4⟩
def spLTies (K : PySem.W.Frag) (C : Addr) : Sp := fun vs H Q _ => ∃ (x : Addr) (ns : List Str) (us : List V), vs = [.ref x] ∧ LotH K C H x ns us ∧ ∀ p, H p = none → Q (.ref p) (upd H p (.lst us))
theorem ok_p_LotTies (T : Txt K mg fa fd) : FnOk P w K mg base CX0 1 (fa 1511) (fd 1511) ["self"] (spLTies K (fa 148)) := by
  refine T.F_LotTies.ok sc_p_LotTies (fun vs H Q E h => ?_) (fun cdv A outer s H vs Q E hr h => ?_)
  · obtain ⟨x, ns, us, rfl, _⟩ := h
    rfl
  · obtain ⟨x, ns, us, rfl, hL, q⟩ := h
    obtain ⟨dx, p1, p2, ms, h1, h2, h3, h4, h5⟩ := hL.at_
    refine ⟨_, (pss_one (ps_ret (pe_callTy call_list_of (by rfl) T.m_list (by decide +kernel) (pa_cons (pe_fld (pv 0) (by rfl)) pa_nil)))), ?_⟩
    exact ⟨_, rfl, _, _, dx, _, _, rfl, h1, T.cl_Lot, T.na_Lot_bonds, rfl, p2, _, rfl, .inr h5, fun l nl => q l nl⟩
end

theorem iteT' {c : Bool} {A B : Prop} (h : c = true) (a : A) : ite (c = true) A B := by rw [h]; exact a
theorem names_vs (ws : List Nm) : ws.map vS = (ws.map SX.S).map V.str := by
  rw [List.map_map]
  rfl
theorem bd_small {n : Nat} (h : n ≤ 10) : Bd (n : Int) := log2_mono (b := 10) (by rw [Int.natAbs_natCast]; exact h) (by decide +kernel)
theorem one_line : 1 ≤ sizeLine := small_line (by decide : 1 ≤ 1000)
theorem paired_ofR {α β : Type} {R : α → β → Prop} : ∀ {xs : List α} {ys : List β} {i : Nat} {y : β}, Paired R xs ys → ys[i]? = some y → ∃ x, xs[i]? = some x ∧ R x y
  | _, _, 0, _, .cons (a := a) h _, e => by
    cases e
    exact ⟨a, rfl, h⟩
  | _, _, i + 1, _, .cons _ t, e => paired_ofR (i := i) t e

/-! ### d.get(k) of a dict of the written part with text keys -/
theorem pe_kget1 {X : Cx} {d : Addr} {es : Array DictEntry} {n : Nat} {o e : Expr} {td te : TE} {apos cpos : Pos} (D : KDict X.K X.w d es n) (ho : PE X o td) (he : PE X e te) (m : M1 X o "get" apos e cpos) :
    PE X (.Call (.Attribute o "get" apos) [e] [] cpos) (fun σ H Q => td σ H fun x H1 => x = .ref d ∧ te σ H1 fun y H2 => ∃ (z : Str) (r : Option Value) (v : V), y = .str z ∧ PySem.W.nsIn X.K d z = some r ∧ RelV v (r.getD .none) ∧ Q v H2) := by
  refine ⟨fun pins s σ H Q I h => ?_⟩
  refine wpAny_Call_method m.base m.few m.line PySem.F.plainAttrs_dict PySem.F.slot_dict_get PySem.F.type_dict_get (thn (ho.run pins s σ H _ I h) fun u s1 ⟨x, H1, I1, rx, ex, q1⟩ => ?_)
  subst ex
  obtain rfl : u = Value.ref d := rx
  refine ⟨kd_type D I1, fun b q => ?_, ?_⟩
  · cases q
    exact ⟨_, I1.kIn _ _ D.at_, rfl⟩
  rw [m.trees]
  refine Calls.callWith_builtin rfl (Calls.evalArgs_plain (Calls.spliced_cons (thn (he.run pins s1 σ H1 _ I1 q1) fun iv s2 ⟨y, H2, I2, ry, z, r, v, ey, e1, rv, q2⟩ => Calls.spliced_nil ?_)))
  subst ey
  obtain ⟨t, rfl⟩ := ry
  have hm := PySem.W.mapOf_K (prog := X.prog) (w := X.w) I2.kIn D.at_ D.lit
  refine call_meetsIn PySem.F.slot_dict_get hm.typeIs PySem.F.entry_dict_get (PySem.F.args_dict_get_2 _ _) (meets_dict_get (PySem.strKind X.prog X.w) d (PySem.strKind_is X.prog X.w z t) D.low) ⟨_, hm, ?_⟩
  rw [PySem.W.find_K D.at_ e1]
  exact ⟨v, H2, I2.tok _, rv, q2⟩
theorem ix_tupK {X : Cx} {K : PySem.W.Frag} (h : X.K = K) : IxR X (rIxT K) := h ▸ ix_tup
section
variable {P : Program} {w : World} {K : PySem.W.Frag} {mg : Str → Option Value} {base : Heap} {fa : Nat → Addr} {fd : Nat → FuncData}
theorem scI_InvalidName : FnScope ["self", "name"] ["self", "name"] (defScope (inClass (topS 4) 0)) := ⟨rfl, rfl, rfl, by decide +kernel, rfl, by decide +kernel, by decide +kernel⟩
theorem ok_InvalidName (T : Txt K mg fa fd) : FnOk P w K mg base CX0 1 (fa 1004) (fd 1004) ["self", "name"] (spInit1 K "name" "InvalidName") := by
  refine T.IInvalidName.ok scI_InvalidName (fun vs H Q E h => ?_) (fun cdv A outer s H vs Q E hr h => ?_)
  · obtain ⟨a, C, v, rfl, _⟩ := h
    rfl
  · obtain ⟨a, C, v, rfl, hC, h1, h2, ha, q⟩ := h
    refine ⟨_, pss_cons (ps_ost (pv 0) (pv 1)) (pss_one (ps_ost (pv 0) pe_str)), ?_⟩
    refine ⟨_, rfl, _, rfl, a, C, rfl, hC, h1, .inl ⟨ha, fun dx nd ne => ?_⟩⟩
    refine ⟨_, rfl, a, C, rfl, hC, h2, .inr ⟨dx, _, upd_same, ?_, by show 1 ≤ 900; decide, q dx nd ne⟩⟩
    rw [upd_ne ne, upd_same]
theorem scI_InvalidTie : FnScope ["self", "at"] ["self", "at"] (defScope (inClass (topS 5) 0)) := ⟨rfl, rfl, rfl, by decide +kernel, rfl, by decide +kernel, by decide +kernel⟩
theorem ok_InvalidTie (T : Txt K mg fa fd) : FnOk P w K mg base CX0 1 (fa 1005) (fd 1005) ["self", "at"] (spInit1 K "at" "InvalidTie") := by
  refine T.IInvalidTie.ok scI_InvalidTie (fun vs H Q E h => ?_) (fun cdv A outer s H vs Q E hr h => ?_)
  · obtain ⟨a, C, v, rfl, _⟩ := h
    rfl
  · obtain ⟨a, C, v, rfl, hC, h1, h2, ha, q⟩ := h
    refine ⟨_, pss_cons (ps_ost (pv 0) (pv 1)) (pss_one (ps_ost (pv 0) pe_str)), ?_⟩
    refine ⟨_, rfl, _, rfl, a, C, rfl, hC, h1, .inl ⟨ha, fun dx nd ne => ?_⟩⟩
    refine ⟨_, rfl, a, C, rfl, hC, h2, .inr ⟨dx, _, upd_same, ?_, by show 1 ≤ 900; decide, q dx nd ne⟩⟩
    rw [upd_ne ne, upd_same]
theorem scI_InvalidLimit : FnScope ["self", "given"] ["self", "given"] (defScope (inClass (topS 8) 0)) := ⟨rfl, rfl, rfl, by decide +kernel, rfl, by decide +kernel, by decide +kernel⟩
theorem ok_InvalidLimit (T : Txt K mg fa fd) : FnOk P w K mg base CX0 1 (fa 1008) (fd 1008) ["self", "given"] (spInit1 K "given" "InvalidLimit") := by
  refine T.IInvalidLimit.ok scI_InvalidLimit (fun vs H Q E h => ?_) (fun cdv A outer s H vs Q E hr h => ?_)
  · obtain ⟨a, C, v, rfl, _⟩ := h
    rfl
  · obtain ⟨a, C, v, rfl, hC, h1, h2, ha, q⟩ := h
    refine ⟨_, pss_cons (ps_ost (pv 0) (pv 1)) (pss_one (ps_ost (pv 0) pe_str)), ?_⟩
    refine ⟨_, rfl, _, rfl, a, C, rfl, hC, h1, .inl ⟨ha, fun dx nd ne => ?_⟩⟩
    refine ⟨_, rfl, a, C, rfl, hC, h2, .inr ⟨dx, _, upd_same, ?_, by show 1 ≤ 900; decide, q dx nd ne⟩⟩
    rw [upd_ne ne, upd_same]
theorem scI_InvalidCommand : FnScope ["self", "first"] ["self", "first"] (defScope (inClass (topS 9) 0)) := ⟨rfl, rfl, rfl, by decide +kernel, rfl, by decide +kernel, by decide +kernel⟩
theorem ok_InvalidCommand (T : Txt K mg fa fd) : FnOk P w K mg base CX0 1 (fa 1009) (fd 1009) ["self", "first"] (spInit1 K "first" "InvalidCommand") := by
  refine T.IInvalidCommand.ok scI_InvalidCommand (fun vs H Q E h => ?_) (fun cdv A outer s H vs Q E hr h => ?_)
  · obtain ⟨a, C, v, rfl, _⟩ := h
    rfl
  · obtain ⟨a, C, v, rfl, hC, h1, h2, ha, q⟩ := h
    refine ⟨_, pss_cons (ps_ost (pv 0) (pv 1)) (pss_one (ps_ost (pv 0) pe_str)), ?_⟩
    refine ⟨_, rfl, _, rfl, a, C, rfl, hC, h1, .inl ⟨ha, fun dx nd ne => ?_⟩⟩
    refine ⟨_, rfl, a, C, rfl, hC, h2, .inr ⟨dx, _, upd_same, ?_, by show 1 ≤ 900; decide, q dx nd ne⟩⟩
    rw [upd_ne ne, upd_same]
theorem scI_DuplicateLabel : FnScope ["self", "label"] ["self", "label"] (defScope (inClass (topS 14) 0)) := ⟨rfl, rfl, rfl, by decide +kernel, rfl, by decide +kernel, by decide +kernel⟩
theorem ok_DuplicateLabel (T : Txt K mg fa fd) : FnOk P w K mg base CX0 1 (fa 1014) (fd 1014) ["self", "label"] (spInit1 K "label" "DuplicateLabel") := by
  refine T.IDuplicateLabel.ok scI_DuplicateLabel (fun vs H Q E h => ?_) (fun cdv A outer s H vs Q E hr h => ?_)
  · obtain ⟨a, C, v, rfl, _⟩ := h
    rfl
  · obtain ⟨a, C, v, rfl, hC, h1, h2, ha, q⟩ := h
    refine ⟨_, pss_cons (ps_ost (pv 0) (pv 1)) (pss_one (ps_ost (pv 0) pe_str)), ?_⟩
    refine ⟨_, rfl, _, rfl, a, C, rfl, hC, h1, .inl ⟨ha, fun dx nd ne => ?_⟩⟩
    refine ⟨_, rfl, a, C, rfl, hC, h2, .inr ⟨dx, _, upd_same, ?_, by show 1 ≤ 900; decide, q dx nd ne⟩⟩
    rw [upd_ne ne, upd_same]
theorem scI_CapacityExceeded : FnScope ["self", "most"] ["self", "most"] (defScope (inClass (topS 15) 0)) := ⟨rfl, rfl, rfl, by decide +kernel, rfl, by decide +kernel, by decide +kernel⟩
theorem ok_CapacityExceeded (T : Txt K mg fa fd) : FnOk P w K mg base CX0 1 (fa 1015) (fd 1015) ["self", "most"] (spInit1 K "most" "CapacityExceeded") := by
  refine T.ICapacityExceeded.ok scI_CapacityExceeded (fun vs H Q E h => ?_) (fun cdv A outer s H vs Q E hr h => ?_)
  · obtain ⟨a, C, v, rfl, _⟩ := h
    rfl
  · obtain ⟨a, C, v, rfl, hC, h1, h2, ha, q⟩ := h
    refine ⟨_, pss_cons (ps_ost (pv 0) (pv 1)) (pss_one (ps_ost (pv 0) pe_str)), ?_⟩
    refine ⟨_, rfl, _, rfl, a, C, rfl, hC, h1, .inl ⟨ha, fun dx nd ne => ?_⟩⟩
    refine ⟨_, rfl, a, C, rfl, hC, h2, .inr ⟨dx, _, upd_same, ?_, by show 1 ≤ 900; decide, q dx nd ne⟩⟩
    rw [upd_ne ne, upd_same]
theorem scI_InvalidWish : FnScope ["self", "at"] ["self", "at"] (defScope (inClass (topS 6) 0)) := ⟨rfl, rfl, rfl, by decide +kernel, rfl, by decide +kernel, by decide +kernel⟩
theorem ok_InvalidWish (T : Txt K mg fa fd) : FnOk P w K mg base CX0 1 (fa 1006) (fd 1006) ["self", "at"] (spInit1 K "at" "InvalidWish") := by
  refine T.IInvalidWish.ok scI_InvalidWish (fun vs H Q E h => ?_) (fun cdv A outer s H vs Q E hr h => ?_)
  · obtain ⟨a, C, v, rfl, _⟩ := h
    rfl
  · obtain ⟨a, C, v, rfl, hC, h1, h2, ha, q⟩ := h
    refine ⟨_, pss_cons (ps_ost (pv 0) (pv 1)) (pss_one (ps_ost (pv 0) pe_str)), ?_⟩
    refine ⟨_, rfl, _, rfl, a, C, rfl, hC, h1, .inl ⟨ha, fun dx nd ne => ?_⟩⟩
    refine ⟨_, rfl, a, C, rfl, hC, h2, .inr ⟨dx, _, upd_same, ?_, by show 1 ≤ 900; decide, q dx nd ne⟩⟩
    rw [upd_ne ne, upd_same]
theorem scI_InvalidTimes : FnScope ["self", "given"] ["self", "given"] (defScope (inClass (topS 7) 0)) := ⟨rfl, rfl, rfl, by decide +kernel, rfl, by decide +kernel, by decide +kernel⟩
theorem ok_InvalidTimes (T : Txt K mg fa fd) : FnOk P w K mg base CX0 1 (fa 1007) (fd 1007) ["self", "given"] (spInit1 K "given" "InvalidTimes") := by
  refine T.IInvalidTimes.ok scI_InvalidTimes (fun vs H Q E h => ?_) (fun cdv A outer s H vs Q E hr h => ?_)
  · obtain ⟨a, C, v, rfl, _⟩ := h
    rfl
  · obtain ⟨a, C, v, rfl, hC, h1, h2, ha, q⟩ := h
    refine ⟨_, pss_cons (ps_ost (pv 0) (pv 1)) (pss_one (ps_ost (pv 0) pe_str)), ?_⟩
    refine ⟨_, rfl, _, rfl, a, C, rfl, hC, h1, .inl ⟨ha, fun dx nd ne => ?_⟩⟩
    refine ⟨_, rfl, a, C, rfl, hC, h2, .inr ⟨dx, _, upd_same, ?_, by show 1 ≤ 900; decide, q dx nd ne⟩⟩
    rw [upd_ne ne, upd_same]
theorem scI_UnknownName : FnScope ["self", "name"] ["self", "name"] (defScope (inClass (topS 17) 0)) := ⟨rfl, rfl, rfl, by decide +kernel, rfl, by decide +kernel, by decide +kernel⟩
theorem ok_UnknownName (T : Txt K mg fa fd) : FnOk P w K mg base CX0 1 (fa 1017) (fd 1017) ["self", "name"] (spG1 K "name" "UnknownName") := by
  refine T.IUnknownName.ok scI_UnknownName (fun vs H Q E h => ?_) (fun cdv A outer s H vs Q E hr h => ?_)
  · obtain ⟨a, C, v, _, _, rfl, _⟩ := h
    rfl
  · obtain ⟨a, C, v, nw, tl, rfl, hC, h1, h2, ha, q⟩ := h
    refine ⟨_, pss_cons (ps_osg (pv 0) (pv 1)) (pss_one (ps_osg (pv 0) pe_str)), ?_⟩
    refine ⟨_, rfl, _, rfl, a, C, nw, tl, rfl, hC, h1, .inl ⟨ha, fun dx nd ne => ?_⟩⟩
    refine ⟨_, rfl, a, C, nw, tl, rfl, hC, h2, .inr ⟨dx, _, upd_same, ?_, by show 1 ≤ 900; decide, q dx nd ne⟩⟩
    rw [upd_ne ne, upd_same]
theorem scI_UnknownLabel : FnScope ["self", "label"] ["self", "label"] (defScope (inClass (topS 18) 0)) := ⟨rfl, rfl, rfl, by decide +kernel, rfl, by decide +kernel, by decide +kernel⟩
theorem ok_UnknownLabel (T : Txt K mg fa fd) : FnOk P w K mg base CX0 1 (fa 1018) (fd 1018) ["self", "label"] (spG1 K "label" "UnknownLabel") := by
  refine T.IUnknownLabel.ok scI_UnknownLabel (fun vs H Q E h => ?_) (fun cdv A outer s H vs Q E hr h => ?_)
  · obtain ⟨a, C, v, _, _, rfl, _⟩ := h
    rfl
  · obtain ⟨a, C, v, nw, tl, rfl, hC, h1, h2, ha, q⟩ := h
    refine ⟨_, pss_cons (ps_osg (pv 0) (pv 1)) (pss_one (ps_osg (pv 0) pe_str)), ?_⟩
    refine ⟨_, rfl, _, rfl, a, C, nw, tl, rfl, hC, h1, .inl ⟨ha, fun dx nd ne => ?_⟩⟩
    refine ⟨_, rfl, a, C, nw, tl, rfl, hC, h2, .inr ⟨dx, _, upd_same, ?_, by show 1 ≤ 900; decide, q dx nd ne⟩⟩
    rw [upd_ne ne, upd_same]
end
/-- an error with one field is raised from the heap H -/
def OneE (E : XK) (C : Addr) (H : Hp) (tag f : Str) (v : V) : Prop := ∀ d H', Same H H' → H' d = some (.xd [("tag", .str tag), (f, v)]) → E (.ref C) (some d) H'
theorem OneE.of {E : XK} {C : Addr} {H H2 : Hp} {tag f : Str} {v : V} (h : OneE E C H tag f v) (s : Same H H2) : OneE E C H2 tag f v := fun d H' s' e => h d H' (s.trans s') e
theorem rz_end {E : XK} {C a dx : Addr} {G : Hp} {x n : Str} {v : V} (q : OneE E C G x n v) (na : G a = none) (nd : upd G a (exo a C none) dx = none) (ne : dx ≠ a) :
    ∃ (d : Addr) (fs : List (Str × V)), (upd (upd (upd (upd G a (exo a C none)) dx (exd dx [(n, v)])) a (exo a C (some dx))) dx (exd dx [("tag", .str x), (n, v)])) a = some (exo a C (some d)) ∧
      (upd (upd (upd (upd G a (exo a C none)) dx (exd dx [(n, v)])) a (exo a C (some dx))) dx (exd dx [("tag", .str x), (n, v)])) d = some (exd d fs) ∧ G d = none ∧
      E (.ref C) (some d) (upd (del (upd (upd (upd (upd G a (exo a C none)) dx (exd dx [(n, v)])) a (exo a C (some dx))) dx (exd dx [("tag", .str x), (n, v)])) a) d (.xd fs)) := by
  rw [upd_ne ne] at nd
  refine ⟨dx, _, ?_, upd_same, nd, q dx _ (Same.del na nd fun b o hb q => ?_) upd_same⟩
  · rw [upd_ne ne.symm, upd_same]
  · rw [upd_ne (ne_of_none q nd), upd_ne hb, upd_ne (ne_of_none q nd), upd_ne hb]
    exact q
theorem rz1 {K : PySem.W.Frag} {E : XK} {C : Addr} {G : Hp} {x n : Str} {v : V} (ox : OexC K C) (h1 : PySem.W.findIn K (.ref C) n = some none) (h2 : PySem.W.findIn K (.ref C) "tag" = some none) (q : OneE E C G x n v) :
    ([v] : List V).length ≤ 1000 ∧ ∀ a, G a = none → spInit1 K n x (.ref a :: ([v] ++ [])) (upd G a (exo a C none)) (fun w H2 => w = .non ∧ ∃ (d : Addr) (fs : List (Str × V)), H2 a = some (exo a C (some d)) ∧ H2 d = some (exd d fs) ∧ G d = none ∧ E (.ref C) (some d) (upd (del H2 a) d (.xd fs))) (fun _ _ _ => False) :=
  ⟨by show 1 ≤ 1000; decide, fun a na => ⟨a, C, v, rfl, ox, h1, h2, upd_same, fun dx nd ne => ⟨rfl, rz_end q na nd ne⟩⟩⟩
theorem rzG {K : PySem.W.Frag} {E : XK} {C : Addr} {G : Hp} {x n : Str} {v : V} {nw : String} {tl : List Value} (ox : OexG K nw tl C) (h1 : PySem.W.findIn K (.ref C) n = some none) (h2 : PySem.W.findIn K (.ref C) "tag" = some none) (q : OneE E C G x n v) :
    ([v] : List V).length ≤ 1000 ∧ ∀ a, G a = none → spG1 K n x (.ref a :: ([v] ++ [])) (upd G a (exo a C none)) (fun w H2 => w = .non ∧ ∃ (d : Addr) (fs : List (Str × V)), H2 a = some (exo a C (some d)) ∧ H2 d = some (exd d fs) ∧ G d = none ∧ E (.ref C) (some d) (upd (del H2 a) d (.xd fs))) (fun _ _ _ => False) :=
  ⟨by show 1 ≤ 1000; decide, fun a na => ⟨a, C, v, nw, tl, rfl, ox, h1, h2, upd_same, fun dx nd ne => ⟨rfl, rz_end q na nd ne⟩⟩⟩
/-- what else is known of the written part: the lengths of commands -/
structure TxB (K : PySem.W.Frag) (w : World) (fa : Nat → Addr) : Prop where
  kd : ∃ es n, KDict K w (fa 2100) es n
  at_ : ∀ p ∈ [(Str.ofString "tie", (3 : Int)), (Str.ofString "wish", 4), (Str.ofString "first", 2), (Str.ofString "drop", 2)], ∃ t, PySem.W.nsIn K (fa 2100) p.1 = some (some (.int p.2 t))
  no : ∀ z ∈ [Str.ofString "lose", Str.ofString "", Str.ofString "Tie"], PySem.W.nsIn K (fa 2100) z = some none
def labB (a : List Nat) : Bool := decide (a.length ≤ 8) && letB a
def labD : PyData → Bool
  | .str x => labB x.cps.toList
  | _ => false
section
variable {P : Program} {w : World} {K : PySem.W.Frag} {mg : Str → Option Value} {base : Heap} {fa : Nat → Addr} {fd : Nat → FuncData}
theorem ok_p_is_label (T : Txt K mg fa fd) : FnOk P w K mg base CX0 1 (fa 159) (fd 159) ["thing"] (spD labD) := by
  refine T.F_p_is_label.ok sc_p_is_label (fun vs H Q E h => ?_) (fun cdv A outer s H vs Q E hr h => ?_)
  · obtain ⟨v, d, _, rfl, _⟩ := h
    rfl
  · obtain ⟨v, d, z, rfl, hv, q⟩ := h
    refine ⟨_, (C8.pss_cut (ps_if (PW.pt (pw_or (pt_not (pt_val (pe_callB call_isi (by rfl) T.m_isinstance PyProof.Rows.boot_isinstance (pa_cons (pv 0) (pa_cons (pe_bltn (v := .ty "str") (by rfl) T.m_str (by decide +kernel) rfl) pa_nil))))) (pw_or1 (pt_cmpR op_gt (pe_callB call_len_str (by rfl) T.m_len PySem.boot_len (pa_cons (pv 0) pa_nil)) (C8.pe_gc (by rfl) T.c_MOST_LETTERS_commands) (nomark _))))) (pss_one (ps_ret pe_bl)) pss_nil)
      (pss_one (ps_ret (pe_and (pe_m0 PySem.F.slot_str_isascii PySem.F.type_str_isascii mt_isascii (pv 0) (by rfl) (by rfl)) (pe_and (pe_m0 PySem.F.slot_str_isalpha PySem.F.type_str_isalpha mt_isalpha (pv 0) (by rfl) (by rfl)) (pe_one (pe_m0 PySem.F.slot_str_islower PySem.F.type_str_islower mt_islower (pv 0) (by rfl) (by rfl)))))))), ?_⟩
    refine ⟨fun σ G => G = H ∧ (∃ x : Str, d = .str x ∧ v = .str x ∧ x.length ≤ 8) ∧ σ = [some v], ?_, fun σ G hM => ?_⟩
    · refine ⟨_, rfl, _, _, _, _, _, rfl, .ty _, .base hv.ty, kit_ty kitTxt, _, rfl, ?_⟩
      cases hv with
      | str x hx =>
        refine iteF ⟨_, rfl, _, rfl, small_line hx, _, _, rfl, rfl, _, rfl, ite2 (fun e => ?_) (fun e => ?_)⟩
        · have e := of_decide_eq_true e
          have lx : x.length = x.cps.toList.length := by rw [← S_of x, SX.S_len, S_of x]
          have q : Q (.bl (decide (x.cps.toList.length ≤ 8) && letB x.cps.toList)) H := q
          rw [decide_eq_false (by omega)] at q
          exact q
        · have e : ¬ ((8 : Int) < (x.length : Int)) := fun z => e (decide_eq_true z)
          exact ⟨rfl, ⟨x, rfl, rfl, by omega⟩, rfl⟩
      | non => exact iteT q
      | bl b => exact iteT q
      | int i _ => exact iteT q
      | lst h _ _ => exact iteT q
      | tup h _ => exact iteT q
    · obtain ⟨rfl, ⟨x, rfl, rfl, hx⟩, rfl⟩ := hM
      have q8 : Q (.bl (decide (x.cps.toList.length ≤ 8) && letB x.cps.toList)) G := q
      clear q
      obtain ⟨a, rfl⟩ : ∃ a, x = SX.S a := ⟨_, (S_of x).symm⟩
      rw [S_list] at q8
      have q := q8
      rw [SX.S_len] at hx
      rw [decide_eq_true hx, Bool.true_and, ← lower_letters] at q
      refine ⟨_, rfl, ⟨_, rfl⟩, _, rfl, rfl, trivial, _, rfl, ?_⟩
      cases e1 : Txt.isascii (SX.S a) with
      | false =>
        rw [e1] at q
        exact iteF q
      | true =>
        rw [e1, Bool.true_and] at q
        refine iteT ⟨_, rfl, ⟨_, rfl⟩, _, rfl, rfl, trivial, _, rfl, ?_⟩
        cases e2 : Txt.isalpha (SX.S a) with
        | false =>
          rw [e2] at q
          exact iteF q
        | true =>
          rw [e2, Bool.true_and] at q
          exact iteT ⟨_, rfl, ⟨_, rfl⟩, _, rfl, rfl, trivial, q⟩
end
theorem key_inj : ∀ {l r : List Str}, l.map (fun x => (.inr x : Key)) = r.map (fun x => (.inr x : Key)) → l = r
  | [], [], _ => rfl
  | [], _ :: _, h => by cases h
  | _ :: _, [], h => by cases h
  | x :: l, y :: r, h => by
    rw [List.map_cons, List.map_cons] at h
    injection h with h1 h2
    injection h1 with h3
    rw [h3, key_inj h2]
theorem nodup_mapB {α β : Type} (f : α → β) (hf : ∀ x y, f x = f y → x = y) : ∀ {l : List α}, l.Nodup → (l.map f).Nodup := fun h => by
  rw [List.Nodup, List.pairwise_map]
  exact List.Pairwise.imp (fun h z => h (hf _ _ z)) h
theorem noL_rat {d : PyData} (h : ratD d = true) : noL d = true := by
  obtain ⟨t, u, rfl⟩ := ratD_inv h
  rfl
theorem noL_name {d : PyData} (h : nameD d = true) : noL d = true := by
  cases d with
  | str x => rfl
  | _ => cases h
theorem noL_term {d : PyData} (h : termD d = true) : noL d = true := by
  unfold termD at h
  split at h
  · rename_i n r
    rw [Bool.and_eq_true, Bool.and_eq_true] at h
    have h1 := noL_name h.1.1
    have h2 := noL_rat h.1.2
    show (noL n && (noL r && true)) = true
    rw [h1, h2]
    rfl
  · cases h
theorem noL_terms {d : PyData} (h : termsD d = true) : noL d = true := by
  unfold termsD at h
  split at h
  · rename_i s
    show (noL s && true) = true
    rw [noL_term h]
    rfl
  · rename_i s t
    rw [Bool.and_eq_true, Bool.and_eq_true] at h
    show (noL s && (noL t && true)) = true
    rw [noL_term h.1.1, noL_term h.1.2]
    rfl
  · cases h
theorem noL_tieD {d : PyData} (h : tieD d = true) : noL d = true := by
  unfold tieD at h
  split at h
  · rename_i t b
    rw [Bool.and_eq_true] at h
    show (noL t && (noL b && true)) = true
    rw [noL_terms h.1, noL_rat h.2]
    rfl
  · cases h
/-- what a board holds: ties by labels, wishes by labels -/
abbrev Ste := List (Str × PyData) × List (Str × PyData × PyData)
abbrev wiD (w : Str × PyData × PyData) : PyData := .tuple [.str w.1, w.2.1, w.2.2]
def tls (st : Ste) : List Str := st.1.map (·.1)
def wls (st : Ste) : List Str := st.2.map (·.1)
structure StG (st : Ste) : Prop where
  nd : (tls st).Nodup
  ln : st.1.length ≤ 60
  lw : st.2.length ≤ 60
  lx : ∀ x ∈ tls st, x.length ≤ 1000
  nt : ∀ t ∈ st.1, noL t.2 = true
  nw : noLs (st.2.map wiD) = true
structure StA (z : Addr) (Z : List Addr) (H : Hp) (v : V) (st : Ste) : Prop where
  ex : ∃ (p d l : Addr) (kvs : List (Key × V)) (us : List V), v = .ref p ∧ H p = some (.tup [.ref d, .ref l]) ∧ H d = some (.dK kvs) ∧ H l = some (.lst us) ∧ l ∉ Z ∧
    Paired (fun (kv : Key × V) (t : Str × PyData) => kv.1 = (.inr t.1 : Key) ∧ Dt z H kv.2 t.2) kvs st.1 ∧ DtAll z H us (st.2.map wiD)
  g : StG st
theorem pair_keys {z : Addr} {H : Hp} : ∀ {kvs : List (Key × V)} {ts : List (Str × PyData)}, Paired (fun (kv : Key × V) (t : Str × PyData) => kv.1 = (.inr t.1 : Key) ∧ Dt z H kv.2 t.2) kvs ts → kvs.map (·.1) = (ts.map (·.1)).map (fun x => (.inr x : Key))
  | _, _, .nil => rfl
  | _, _, .cons h t => by rw [List.map_cons, List.map_cons, List.map_cons, h.1, pair_keys t]
theorem StA.same {z : Addr} {Z : List Addr} {H H' : Hp} {v : V} {st : Ste} (h : StA z Z H v st) (s : Same H H') : StA z Z H' v st := by
  obtain ⟨p, d, l, kvs, us, e, h1, h2, h3, h4, h5, h6⟩ := h.ex
  exact ⟨⟨p, d, l, kvs, us, e, s _ _ h1, s _ _ h2, s _ _ h3, h4, paired_mono (fun _ _ q => ⟨q.1, q.2.same s⟩) h5, h6.same s⟩, h.g⟩
section
variable {P : Program} {w : World} {K : PySem.W.Frag} {mg : Str → Option Value} {base : Heap} {fa : Nat → Addr} {fd : Nat → FuncData}
def spTL (_ : PySem.W.Frag) : Sp := fun vs H Q _ => ∃ (sv : V) (st : Ste) (z : Addr) (Z : List Addr), vs = [sv] ∧ StA z Z H sv st ∧ AscQ H Q (tls st)
theorem ok_p_tie_labels (T : Txt K mg fa fd) : FnOk P w K mg base CX0 1 (fa 160) (fd 160) ["state"] (spTL K) := by
  refine T.F_p_tie_labels.ok sc_p_tie_labels (fun vs H Q E h => ?_) (fun cdv A outer s H vs Q E hr h => ?_)
  · obtain ⟨sv, st, z, Z, rfl, _⟩ := h
    rfl
  · obtain ⟨sv, st, z, Z, rfl, hst, q⟩ := h
    obtain ⟨p, L, l, kvs, us, rfl, h1, h2, h3, h4, h5, h6⟩ := hst.ex
    have hg := hst.g
    have hkeys := pair_keys h5
    refine ⟨_, (pss_one (ps_ret (pe_callB cr_sortedS (by rfl) T.m_sorted (by decide +kernel) (pa_cons (pe_lock (pe_lc (own := [("label", 1)]) (g := gName 1) (tt := tYes) rfl sc_p_tie_labels.nd (pi_keys (pe_ix ix_tup (pv 0) pe_int (fun _ _ => rfl))) (blkOk_by (own := [("label", 1)]) (N := ["state", "label"]) (sc := defScope s_p_tie_labels) (by decide +kernel)) (fun _ _ _ _ _ => pg_name (i := 1) sc_p_tie_labels.nd rfl (Or.inl rfl)) (fun _ _ _ _ _ => pts_nil) (fun _ _ _ _ _ => (pe_callTy SkE.call_str_str (by rfl) T.m_str (by decide +kernel) (pa_cons (pv 1) pa_nil))))) pa_nil)))), ?_⟩
    refine ⟨L, _, h2, trivial, fun od => ?_⟩
    have hp1 : upd H L (.frz od (.dK kvs)) p = some (.tup [.ref L, .ref l]) := (upd_ne (ne_of h1 h2 (by intro z; cases z))).trans h1
    refine ⟨_, rfl, p, _, _, _, rfl, rfl, SqT.of hp1, rfl, L, od, rfl, .inl ⟨kvs, upd_same, fun D nD => ?_⟩⟩
    have nDL : D ≠ L := fun e => by rw [e, upd_same] at nD; cases nD
    have nDH : H D = none := by
      rw [upd_ne nDL] at nD
      exact nD
    have kl : kvs.length = (tls st).length := by
      have := congrArg List.length hkeys
      rwa [List.length_map, List.length_map] at this
    have tl : (tls st).length ≤ 60 := by
      show (st.1.map _).length ≤ 60
      rw [List.length_map]
      exact hg.ln
    refine lc_keys (fun i G3 => G3 L = some (.frz od (.dK kvs)) ∧ Ex L H G3 ∧ G3 D = some (.lst (((tls st).take i).map V.str))) ⟨?_, ?_, upd_same⟩ (fun i G3 h => h.1) (fun i k vv G3 hkv hp => ?_) (fun G3 hp => ?_)
    · rw [upd_ne nDL.symm]
      exact upd_same
    · exact fun c o e n => by
        rw [upd_ne (ne_of_none e nDH), upd_ne n]
        exact e
    · obtain ⟨hfL, ex, hD⟩ := hp
      have il := (List.getElem?_eq_some_iff.mp hkv).1
      obtain ⟨x, hz, rfl⟩ : ∃ x, (tls st)[i]? = some x ∧ k = .inr x := by
        have e1 : (kvs.map (·.1))[i]? = some k := by rw [List.getElem?_map, hkv]; rfl
        rw [hkeys, List.getElem?_map] at e1
        obtain ⟨x, hx1, hx2⟩ := Option.map_eq_some_iff.mp e1
        exact ⟨x, hx1, hx2.symm⟩
      refine ⟨rfl, _, rfl, _, rfl, _, hD, ?_, ?_, ex.upd nDH, ?_⟩
      · rw [List.length_map, List.length_take]
        exact small1000 (by omega)
      · rw [upd_ne nDL.symm]
        exact hfL
      · rw [upd_same, List.take_add_one, hz, List.map_append]
        rfl
    · obtain ⟨hfL, ex, hD⟩ := hp
      rw [kl, List.take_length] at hD
      refine ⟨hfL, ?_⟩
      have sb : Same H (upd G3 L (.dK kvs)) := ex.back h2
      have hD2 : upd G3 L (.dK kvs) D = some (.lst ((tls st).map V.str)) := by
        rw [upd_ne nDL]
        exact hD
      generalize upd G3 L (.dK kvs) = G4 at sb hD2
      refine ⟨D, _, rfl, SqL.of hD2, by omega, fun ys p2 perm srt np => ?_⟩
      exact q p2 ys _ (sb.trans (same_upd np)) (by
        cases e : H p2 with
        | none => rfl
        | some o => rw [sb _ _ e] at np; cases np) upd_same perm srt
/-- a new list of texts -/
def NewL (H : Hp) (Q : VK) (ns : List Str) : Prop := ∀ (p : Addr) (H' : Hp), Same H H' → H p = none → H' p = some (.lst (ns.map V.str)) → Q (.ref p) H'
def spWL (K : PySem.W.Frag) : Sp := fun vs H Q _ => ∃ (sv : V) (st : Ste) (z : Addr) (Z : List Addr), vs = [sv] ∧ StA z Z H sv st ∧ NewL H Q (wls st)
theorem wi_at {z : Addr} {H : Hp} : ∀ {us : List V} {ws : List (Str × PyData × PyData)} {i : Nat} {y : V}, DtAll z H us (ws.map wiD) → us[i]? = some y → ∃ w, ws[i]? = some w ∧ ∃ p a b, y = .ref p ∧ H p = some (.tup [.str w.1, a, b]) ∧ Dt z H a w.2.1 ∧ Dt z H b w.2.2
  | _, [], i, _, .nil, e => by simp at e
  | _, w :: ws, 0, _, .cons h t, e => by
    simp at e
    subst e
    match h with
    | .tup hp (.cons (.str _ _) (.cons ha (.cons hb .nil))) => exact ⟨w, rfl, _, _, _, rfl, hp, ha, hb⟩
  | _, w :: ws, i + 1, _, .cons h t, e => wi_at (i := i) t (by simpa using e)
theorem ok_p_wish_labels (T : Txt K mg fa fd) : FnOk P w K mg base CX0 1 (fa 161) (fd 161) ["state"] (spWL K) := by
  refine T.F_p_wish_labels.ok sc_p_wish_labels (fun vs H Q E h => ?_) (fun cdv A outer s H vs Q E hr h => ?_)
  · obtain ⟨sv, st, z, Z, rfl, _⟩ := h
    rfl
  · obtain ⟨sv, st, z, Z, rfl, hst, q⟩ := h
    obtain ⟨p, d, L, kvs, us, rfl, h1, h2, h3, h4, h5, h6⟩ := hst.ex
    have hg := hst.g
    refine ⟨_, (pss_one (ps_ret (pe_lc (own := [("wish", 1)]) (g := gName 1) (tt := tYes) rfl sc_p_wish_labels.nd (pi_list (pe_ix ix_tup (pv 0) pe_int (fun _ _ => rfl))) (blkOk_by (own := [("wish", 1)]) (N := ["state", "wish"]) (sc := defScope s_p_wish_labels) (by decide +kernel)) (fun _ _ _ _ _ => pg_name (i := 1) sc_p_wish_labels.nd rfl (Or.inl rfl)) (fun _ _ _ _ _ => pts_nil) (fun _ _ _ _ _ => (pe_ix (ix_tupK (K := K) rfl) (pv 1) pe_int (fun _ _ => rfl)))))), ?_⟩
    have ul : us.length = st.2.length := by
      have := h6.len
      rwa [List.length_map] at this
    refine ⟨_, rfl, p, _, _, _, rfl, rfl, SqT.of h1, rfl, L, rfl, ⟨_, SqL.of h3⟩, fun D nD => ?_⟩
    refine lc_list (K := K) (a := L) (xs := us) (fun i G => Same H G ∧ G D = some (.lst (((wls st).take i).map V.str))) ⟨same_upd nD, upd_same⟩ (fun i G _ hq => SqL.of (hq.1 _ _ h3)) (fun i y G hy hq => ?_) (fun G hq => ?_)
    · obtain ⟨w0, hw, pw, a, b, rfl, hpw, _, _⟩ := wi_at h6 hy
      have hwl : (wls st)[i]? = some w0.1 := by
        show (st.2.map _)[i]? = _
        rw [List.getElem?_map, hw]
        rfl
      have il := (List.getElem?_eq_some_iff.mp hy).1
      have := hg.lw
      refine ⟨rfl, _, rfl, pw, _, _, _, rfl, rfl, SqT.of (hq.1 _ _ hpw), rfl, _, hq.2, small1000 (by rw [List.length_map, List.length_take]; omega), fun c o e => (upd_ne (ne_of_none e nD)).trans (hq.1 _ _ e), ?_⟩
      rw [upd_same, List.take_add_one, hwl, List.map_append]
      rfl
    · have el : us.length = (wls st).length := by
        show us.length = (st.2.map _).length
        rw [List.length_map, ul]
      rw [el, List.take_length] at hq
      exact q D G hq.1 nD hq.2
/-! ### a new label -/
def spNewLab (K : PySem.W.Frag) (fa : Nat → Addr) : Sp := fun vs H Q E => ∃ (sv : V) (st : Ste) (z : Addr) (Z : List Addr) (x : Str), vs = [sv, .str x] ∧ StA z Z H sv st ∧ x.length ≤ 1000 ∧
  (labB x.cps.toList = false → OneE E (fa 4) H "InvalidName" "name" (.str x)) ∧
  (labB x.cps.toList = true → x ∈ tls st ++ wls st → OneE E (fa 14) H "DuplicateLabel" "label" (.str x)) ∧
  (labB x.cps.toList = true → x ∉ tls st ++ wls st → ∀ H', Same H H' → Q .non H')
theorem ok_p_check_new_label (T : Txt K mg fa fd) : FnOk P w K mg base (L2.CX P w) 3 (fa 162) (fd 162) ["state", "label"] (spNewLab K fa) := by
  refine T.F_p_check_new_label.okX sc_p_check_new_label (fun vs H Q E h => ?_) (fun cdv A outer s H vs Q E hr h => ?_)
  · obtain ⟨sv, st, z, Z, x, rfl, _⟩ := h
    rfl
  · obtain ⟨sv, st, z, Z, x, rfl, hst, hx, q1, q2, q3⟩ := h
    refine ⟨_, (C8.pss_cut (ps_if (pt_not (pt_val (pe_call (ok_p_is_label T) (hr.mono (by decide)) (by rfl) T.g_p_is_label T.F_p_is_label.kp T.b_p_is_label .nil pass0 (pa_cons (pv 1) pa_nil)))) (pss_one (ps_raise rfl (takes_of rfl rfl rfl rfl) (pmk_oex T.eInvalidName.oex T.eInvalidName.iC T.eInvalidName.tI (ok_InvalidName T) (hr.mono (by decide)) T.bIInvalidName .nil pass0 (by rfl) T.eInvalidName.gC (pa_cons (pv 1) pa_nil)))) pss_nil)
      (pss_one (ps_if (PW.pt (pw_or (pt_cmpR (op_in_seqK (K := K) rfl) (pv 1) (pe_call (ok_p_tie_labels T) (hr.mono (by decide)) (by rfl) T.g_p_tie_labels T.F_p_tie_labels.kp T.b_p_tie_labels .nil pass0 (pa_cons (pv 0) pa_nil)) (by rfl)) (pw_or1 (pt_cmpR (op_in_seqK (K := K) rfl) (pv 1) (pe_call (ok_p_wish_labels T) (hr.mono (by decide)) (by rfl) T.g_p_wish_labels T.F_p_wish_labels.kp T.b_p_wish_labels .nil pass0 (pa_cons (pv 0) pa_nil)) (by rfl))))) (pss_one (ps_raise rfl (takes_of rfl rfl rfl rfl) (pmk_oex T.eDuplicateLabel.oex T.eDuplicateLabel.iC T.eDuplicateLabel.tI (ok_DuplicateLabel T) (hr.mono (by decide)) T.bIDuplicateLabel .nil pass0 (by rfl) T.eDuplicateLabel.gC (pa_cons (pv 1) pa_nil)))) pss_nil))), ?_⟩
    refine ⟨fun σ G => G = H ∧ labB x.cps.toList = true ∧ σ = [some sv, some (.str x)], ?_, fun σ G hM => ?_⟩
    · refine ⟨_, rfl, .str x, .str x, z, rfl, .str x hx, _, rfl, ?_⟩
      have lb : labD (.str x) = labB x.cps.toList := rfl
      rw [lb]
      cases e : labB x.cps.toList with
      | true => exact iteF ⟨rfl, rfl, rfl⟩
      | false => exact iteT ⟨_, rfl, rz1 T.eInvalidName.oex T.nInvalidName_name T.eInvalidName.tag (q1 e)⟩
    · obtain ⟨rfl, e, rfl⟩ := hM
      have dup : x ∈ tls st ++ wls st → ∀ G', Same G G' → OneE E (fa 14) G' "DuplicateLabel" "label" (.str x) := fun m G' s' => (q2 e m).of s'
      refine ⟨_, rfl, _, rfl, sv, st, z, Z, rfl, hst, fun p1 ms H1 s1 n1 hp1 pm sr => ?_⟩
      refine ⟨p1, _, rfl, .inl (SqL.of hp1), rfl, flat_strs _, _, rfl, ?_⟩
      rw [inV_strs]
      by_cases m1 : x ∈ tls st
      · rw [decide_eq_true (pm.mem_iff.mpr m1)]
        exact iteT (iteT ⟨_, rfl, rz1 T.eDuplicateLabel.oex T.nDuplicateLabel_label T.eDuplicateLabel.tag (dup (List.mem_append_left _ m1) _ s1)⟩)
      · rw [decide_eq_false fun m => m1 (pm.mem_iff.mp m)]
        refine iteF ⟨_, rfl, _, rfl, sv, st, z, Z, rfl, hst.same s1, fun p2 H2 s2 n2 hp2 => ?_⟩
        refine ⟨p2, _, rfl, .inl (SqL.of hp2), rfl, flat_strs _, _, rfl, ?_⟩
        rw [inV_strs]
        by_cases m2 : x ∈ wls st
        · rw [decide_eq_true m2]
          exact iteT ⟨_, rfl, rz1 T.eDuplicateLabel.oex T.nDuplicateLabel_label T.eDuplicateLabel.tag (dup (List.mem_append_right _ m2) _ (s1.trans s2))⟩
        · rw [decide_eq_false m2]
          exact iteF (q3 e (fun m => (List.mem_append.mp m).elim m1 m2) _ (s1.trans s2))
end
theorem fbt_one (ns : List Str) (d : PyData) : firstBadT ns 0 [d] = if goodT ns d = true then none else some 0 := rfl
structure Er where
  c : Nat
  tag : Str
  fld : Str
  v : V
def EE (E : XK) (fa : Nat → Addr) (H : Hp) (r : Er) : Prop := OneE E (fa r.c) H r.tag r.fld r.v
theorem EE.of {E : XK} {fa : Nat → Addr} {H H2 : Hp} {r : Er} (h : EE E fa H r) (s : Same H H2) : EE E fa H2 r := OneE.of h s
def erName (x : Str) : Er := ⟨4, "InvalidName", "name", .str x⟩
def erDup (x : Str) : Er := ⟨14, "DuplicateLabel", "label", .str x⟩
def erCap (n : Int) : Er := ⟨15, "CapacityExceeded", "most", .int n⟩
def erTie (n : Int) : Er := ⟨5, "InvalidTie", "at", .int n⟩
/-- what becomes of a tie that is added -/
def tieDue (ns : List Str) (room : Int) (st : Ste) (x : Str) (d : PyData) : Option Er :=
  if labB x.cps.toList = false then some (erName x) else
  if x ∈ tls st ++ wls st then some (erDup x) else
  if room ≤ (st.1.length : Int) then some (erCap room) else
  if goodT ns d = false then some (erTie st.1.length) else none
theorem nfalse {b : Bool} (h : b = true) : ¬ b = false := fun z => by
  rw [h] at z
  cases z
theorem td_name {ns : List Str} {room : Int} {st : Ste} {x : Str} {d : PyData} (h : labB x.cps.toList = false) : tieDue ns room st x d = some (erName x) := if_pos h
theorem td_dup {ns : List Str} {room : Int} {st : Ste} {x : Str} {d : PyData} (h : labB x.cps.toList = true) (m : x ∈ tls st ++ wls st) : tieDue ns room st x d = some (erDup x) := (if_neg (nfalse h)).trans (if_pos m)
theorem td_cap {ns : List Str} {room : Int} {st : Ste} {x : Str} {d : PyData} (h : labB x.cps.toList = true) (m : x ∉ tls st ++ wls st) (r : room ≤ (st.1.length : Int)) : tieDue ns room st x d = some (erCap room) :=
  (if_neg (nfalse h)).trans ((if_neg m).trans (if_pos r))
theorem td_tie {ns : List Str} {room : Int} {st : Ste} {x : Str} {d : PyData} (h : labB x.cps.toList = true) (m : x ∉ tls st ++ wls st) (r : ¬ room ≤ (st.1.length : Int)) (g : goodT ns d = false) : tieDue ns room st x d = some (erTie st.1.length) :=
  (if_neg (nfalse h)).trans ((if_neg m).trans ((if_neg r).trans (if_pos g)))
theorem td_ok {ns : List Str} {room : Int} {st : Ste} {x : Str} {d : PyData} (h : labB x.cps.toList = true) (m : x ∉ tls st ++ wls st) (r : ¬ room ≤ (st.1.length : Int)) (g : goodT ns d = true) : tieDue ns room st x d = none :=
  (if_neg (nfalse h)).trans ((if_neg m).trans ((if_neg r).trans (if_neg (nfalse g))))
def cmdK (w : Str) : Option Int := if w = "tie" then some 3 else if w = "wish" then some 4 else if w = "first" then some 2 else if w = "drop" then some 2 else none
def badCmd : List V → Bool
  | .str w :: r => !decide (cmdK w = some ((r.length + 1 : Nat) : Int))
  | _ => true
def headV : List V → V
  | [] => .non
  | x :: _ => x
def HeadOk : List V → Prop
  | [] => True
  | .str w :: _ => w ∈ ["tie", "wish", "first", "drop"].map Str.ofString ∨ w ∈ ["lose", "", "Tie"].map Str.ofString
  | _ => False
theorem head_cases {xs : List V} (h : HeadOk xs) : xs = [] ∨ ∃ z r, xs = .str z :: r ∧ (z ∈ ["tie", "wish", "first", "drop"].map Str.ofString ∨ z ∈ ["lose", "", "Tie"].map Str.ofString) := by
  cases xs with
  | nil => exact .inl rfl
  | cons y r =>
    cases y with
    | str z => exact .inr ⟨z, r, rfl, h⟩
    | _ => exact False.elim h
theorem bad_str (z : Str) (r : List V) : badCmd (.str z :: r) = !decide (cmdK z = some ((r.length + 1 : Nat) : Int)) := rfl
theorem bad_nil : badCmd [] = true := rfl
theorem scal_get {o : Option Int} {v : V} (e : v = (match o with | some n => .int n | none => .non)) (k : Int) : scal v (.int k) = true ∧ (!decide (v = V.int k)) = !decide (o = some k) := by
  subst e
  cases o with
  | none => exact ⟨rfl, by simp⟩
  | some n => exact ⟨rfl, by simp⟩
theorem odd_none : ∀ z ∈ [Str.ofString "lose", Str.ofString "", Str.ofString "Tie"], cmdK z = none := by
  intro z h
  rcases List.mem_cons.mp h with rfl | h
  · decide +kernel
  · rcases List.mem_cons.mp h with rfl | h
    · decide +kernel
    · rcases List.mem_cons.mp h with rfl | h
      · decide +kernel
      · cases h
section
variable {P : Program} {w : World} {K : PySem.W.Frag} {mg : Str → Option Value} {base : Heap} {fa : Nat → Addr} {fd : Nat → FuncData}
theorem TxB.get (TB : TxB K w fa) {z : Str} (h : z ∈ ["tie", "wish", "first", "drop"].map Str.ofString ∨ z ∈ ["lose", "", "Tie"].map Str.ofString) :
    ∃ (r : Option Value) (v : V), PySem.W.nsIn K (fa 2100) z = some r ∧ RelV v (r.getD .none) ∧ v = (match cmdK z with | some n => .int n | none => .non) := by
  rcases h with h | h
  · have k : ∀ (x : Str) (n : Int), (x, n) ∈ [(Str.ofString "tie", (3 : Int)), (Str.ofString "wish", 4), (Str.ofString "first", 2), (Str.ofString "drop", 2)] → cmdK x = some n →
        ∃ (r : Option Value) (v : V), PySem.W.nsIn K (fa 2100) x = some r ∧ RelV v (r.getD .none) ∧ v = (match cmdK x with | some n => .int n | none => .non) := fun x n m e => by
      obtain ⟨t, ht⟩ := TB.at_ _ m
      exact ⟨_, .int n, ht, ⟨t, rfl⟩, by rw [e]⟩
    rcases List.mem_cons.mp h with rfl | h
    · exact k _ 3 (.head _) (by decide +kernel)
    rcases List.mem_cons.mp h with rfl | h
    · exact k _ 4 (.tail _ (.head _)) (by decide +kernel)
    rcases List.mem_cons.mp h with rfl | h
    · exact k _ 2 (.tail _ (.tail _ (.head _))) (by decide +kernel)
    rcases List.mem_cons.mp h with rfl | h
    · exact k _ 2 (.tail _ (.tail _ (.tail _ (.head _)))) (by decide +kernel)
    cases h
  · exact ⟨none, .non, TB.no _ h, rfl, by rw [odd_none _ h]⟩
def spCheck (K : PySem.W.Frag) (fa : Nat → Addr) : Sp := fun vs H Q E => ∃ (p : Addr) (cs : List V) (xss : List (List V)), vs = [.ref p] ∧ SqT K H p cs ∧ cs.length ≤ 900 ∧
  Paired (fun v xs => ∃ c, v = V.ref c ∧ SqT K H c xs ∧ xs.length ≤ 900 ∧ HeadOk xs) cs xss ∧
  (xss.find? badCmd = none → Q .non H) ∧ ∀ xs, xss.find? badCmd = some xs → OneE E (fa 9) H "InvalidCommand" "first" (headV xs)
theorem find_drop {α : Type} {f : α → Bool} : ∀ {l : List α} {i : Nat} {x : α}, (∀ y ∈ l.take i, f y = false) → l[i]? = some x → f x = true → l.find? f = some x
  | [], i, x, _, e, _ => by simp at e
  | a :: l, 0, x, _, e, k => by
    simp at e
    subst e
    exact List.find?_cons_of_pos k
  | a :: l, i + 1, x, h, e, k => by
    have ha : f a = false := h a (by simp)
    rw [List.find?_cons_of_neg (by rw [ha]; exact Bool.false_ne_true)]
    exact find_drop (i := i) (fun y hy => h y (by rw [List.take_succ_cons]; exact List.mem_cons_of_mem _ hy)) (by simpa using e) k
theorem ok_p_check_commands (T : Txt K mg fa fd) (TB : TxB K w fa) : FnOk P w K mg base (L2.CX P w) 3 (fa 158) (fd 158) ["commands"] (spCheck K fa) := by
  refine T.F_p_check_commands.okX sc_p_check_commands (fun vs H Q E h => ?_) (fun cdv A outer s H vs Q E hr h => ?_)
  · obtain ⟨p, cs, xss, rfl, _⟩ := h
    rfl
  · obtain ⟨p, cs, xss, rfl, hp, hl, hc, q1, q2⟩ := h
    refine ⟨_, (pss_one (ps_for (passes_of rfl) rfl (pi_tup (pv 0)) (pg_name (i := 1) sc_p_check_commands.nd rfl (.inl rfl)) (C8.pss_cut (ps_set (i := 2) sc_p_check_commands.nd rfl (.inl rfl) (pe_ifExp (pt_cmpR op_gt (pe_callB call_len_seq (by rfl) T.m_len PySem.boot_len (pa_cons (pv 1) pa_nil)) pe_int (nomark _)) (pe_ix ix_tup (pv 1) pe_int (fun _ _ => rfl)) pe_non))
      (pss_one (ps_if (PW.pt (pw_or (pt_not (pt_val (pe_callB call_isi (by rfl) T.m_isinstance PyProof.Rows.boot_isinstance (pa_cons (pv 2) (pa_cons (pe_bltn (v := .ty "str") (by rfl) T.m_str (by decide +kernel) rfl) pa_nil))))) (pw_or1 (pt_cmpR op_ne (pe_kget1 TB.kd.choose_spec.choose_spec (pe_glob (v := V.ref (fa 2100)) (by rfl) T.g_LENGTHS rfl) (pv 2) ⟨by rfl, by rfl, by rfl, by rfl⟩) (pe_callB call_len_seq (by rfl) T.m_len PySem.boot_len (pa_cons (pv 1) pa_nil)) (nomark _))))) (pss_one (ps_raise rfl (takes_of rfl rfl rfl rfl) (pmk_oex T.eInvalidCommand.oex T.eInvalidCommand.iC T.eInvalidCommand.tI (ok_InvalidCommand T) (hr.mono (by decide)) T.bIInvalidCommand .nil pass0 (by rfl) T.eInvalidCommand.gC (pa_cons (pv 2) pa_nil)))) pss_nil))))), ?_⟩
    have cl : cs.length = xss.length := Paired.length hc
    refine ⟨_, rfl, p, rfl, ⟨_, hp⟩, for_tup (K := K) (a := p) (xs := cs) (fun i σ G => G = H ∧ (∀ y ∈ xss.take i, badCmd y = false) ∧ ∃ y1 y2, σ = [some (.ref p), y1, y2]) ⟨rfl, (fun y hy => by simp at hy), _, _, rfl⟩ (fun i σ G _ hq => by rw [hq.1]; exact hp) (fun i x σ G hx hq => ?_) (fun σ G hq => ?_)⟩
    · obtain ⟨rfl, fine, y1, y2, rfl⟩ := hq
      have lt : i < cs.length := (List.getElem?_eq_some_iff.mp hx).1
      obtain ⟨xs, hxs⟩ : ∃ xs, xss[i]? = some xs := ⟨_, List.getElem?_eq_getElem (by omega)⟩
      obtain ⟨v, hv, c, rfl, hcc, hl9, hh⟩ := paired_at i hc hxs
      rw [hx] at hv
      cases hv
      have tk : xss.take (i + 1) = xss.take i ++ [xs] := by rw [List.take_add_one, hxs]; rfl
      have bad : badCmd xs = true → OneE E (fa 9) G "InvalidCommand" "first" (headV xs) := fun b => q2 xs (find_drop fine hxs b)
      have good : badCmd xs = false → ∀ y ∈ xss.take (i + 1), badCmd y = false := fun b y hy => by
        rw [tk] at hy
        rcases List.mem_append.mp hy with hy | hy
        · exact fine y hy
        · rw [List.mem_singleton.mp hy]
          exact b
      -- the first element
      refine ⟨fun σ G2 => G2 = G ∧ σ = [some (.ref p), some (.ref c), some (headV xs)], ?_, fun σ G2 hM => ?_⟩
      · refine ⟨_, rfl, c, _, rfl, .inr hcc, _, _, rfl, rfl, _, rfl, ?_⟩
        rcases head_cases hh with rfl | ⟨z, r, rfl, _⟩
        · exact iteF ⟨rfl, rfl⟩
        · refine ite2 (fun e => ?_) (fun e => absurd (decide_eq_true ?_) e)
          · exact ⟨_, rfl, c, _, _, _, rfl, rfl, hcc, (show atI (V.str z :: r) ((0 : Nat) : Int) = some (V.str z) from atI_nat rfl), rfl, rfl⟩
          · rw [List.length_cons]
            omega
      obtain ⟨rfl, rfl⟩ := hM
      rcases head_cases hh with rfl | ⟨z, r, rfl, hz⟩
      · refine ⟨_, rfl, _, _, _, _, _, rfl, .ty _, .base .non, kit_ty (by rfl), _, rfl, ?_⟩
        exact iteT ⟨_, rfl, rz1 T.eInvalidCommand.oex T.nInvalidCommand_first T.eInvalidCommand.tag (bad bad_nil)⟩
      · refine ⟨_, rfl, _, _, _, _, _, rfl, .ty _, .base (.str z), kit_ty (by rfl), _, rfl, ?_⟩
        obtain ⟨r0, v0, e1, e2, e3⟩ := TB.get hz
        obtain ⟨sc, same⟩ := scal_get e3 (((V.str z :: r).length : Nat) : Int)
        refine iteF ⟨rfl, _, rfl, z, r0, v0, rfl, e1, e2, _, rfl, c, _, rfl, .inr hcc, sc, _, rfl, ?_⟩
        have e4 : (!decide (v0 = V.int (((V.str z :: r).length : Nat) : Int))) = badCmd (.str z :: r) := by
          rw [same, bad_str]
          rfl
        rw [e4]
        cases hb : badCmd (.str z :: r) with
        | true => exact iteT ⟨_, rfl, rz1 T.eInvalidCommand.oex T.nInvalidCommand_first T.eInvalidCommand.tag (bad hb)⟩
        | false => exact iteF ⟨rfl, good hb, _, _, rfl⟩
    · obtain ⟨rfl, fine, y1, y2, rfl⟩ := hq
      rw [cl, List.take_length] at fine
      exact q1 (List.find?_eq_none.mpr fun y hy z => by rw [fine y hy] at z; cases z)
end
/-- where the dict of a new state comes from -/
def NewD (H : Hp) (sv v : V) (H' : Hp) : Prop := ∀ p e l, v = V.ref p → H' p = some (.tup [.ref e, .ref l]) → H e = none ∨ ∃ p0 l0, sv = V.ref p0 ∧ H p0 = some (.tup [.ref e, .ref l0])
theorem none_of {H H' : Hp} {a : Addr} (s : Same H H') (n : H' a = none) : H a = none := by
  cases e : H a with
  | none => rfl
  | some o => rw [s _ _ e] at n; cases n
theorem NewD.refl {H : Hp} {sv : V} : NewD H sv sv H := fun p e l ev hp => .inr ⟨p, l, ev, hp⟩
theorem NewD.back {z : Addr} {Z : List Addr} {H H1 H' : Hp} {sv v : V} {st : Ste} (h : NewD H1 sv v H') (hs : StA z Z H sv st) (s : Same H H1) : NewD H sv v H' := fun p e l ev hp => by
  rcases h p e l ev hp with n | ⟨p0, l0, e0, h0⟩
  · exact .inl (none_of s n)
  · obtain ⟨p1, d1, l1, _, _, e1, g1, _⟩ := hs.ex
    have e2 : V.ref p0 = V.ref p1 := e0.symm.trans e1
    cases e2
    have g2 := s _ _ g1
    rw [h0] at g2
    cases g2
    exact .inr ⟨p0, l0, e0, g1⟩
theorem NewD.trans {H H1 H2 : Hp} {a b c : V} (h : NewD H a b H1) (k : NewD H1 b c H2) (s : Same H H1) : NewD H a c H2 := fun p e l ev hp => by
  rcases k p e l ev hp with n | ⟨p0, l0, e0, h0⟩
  · exact .inl (none_of s n)
  · exact h p0 e l0 e0 h0
section
variable {P : Program} {w : World} {K : PySem.W.Frag} {mg : Str → Option Value} {base : Heap} {fa : Nat → Addr} {fd : Nat → FuncData}
/-- a tie is added to a state -/
structure TieC (K : PySem.W.Frag) (z : Addr) (Z : List Addr) (H : Hp) (sv : V) (N : Addr) (dv : V) (st : Ste) (ns : List Str) (x : Str) (d : PyData) : Prop where
  hs : StA z Z H sv st
  hn : SqB K H N (ns.map V.str)
  hd : Dt z H dv d
  hx : x.length ≤ 1000
  hl : st.1.length < 60
theorem TieC.same {K : PySem.W.Frag} {z : Addr} {Z : List Addr} {H H' : Hp} {sv dv : V} {N : Addr} {st : Ste} {ns : List Str} {x : Str} {d : PyData} (h : TieC K z Z H sv N dv st ns x d) (s : Same H H') : TieC K z Z H' sv N dv st ns x d :=
  ⟨h.hs.same s, h.hn.sm s, h.hd.same s, h.hx, h.hl⟩
def withT (st : Ste) (x : Str) (d : PyData) : Ste := (st.1 ++ [(x, d)], st.2)
def spWithT (K : PySem.W.Frag) (fa : Nat → Addr) : Sp := fun vs H Q E => ∃ (sv dv : V) (N z : Addr) (Z : List Addr) (room : Int) (st : Ste) (ns : List Str) (x : Str) (d : PyData), vs = [sv, .ref N, .int room, .str x, dv] ∧ TieC K z Z H sv N dv st ns x d ∧
  (∀ r, tieDue ns room st x d = some r → EE E fa H r) ∧ (tieDue ns room st x d = none → ∀ v H', Same H H' → StA z Z H' v (withT st x d) → NewD H sv v H' → Q v H')
theorem withT_g {st : Ste} {x : Str} {d : PyData} (h : StG st) (hx : x ∉ tls st) (xl : x.length ≤ 1000) (l : st.1.length < 60) (nd : noL d = true) : StG (withT st x d) := by
  have e : tls (withT st x d) = tls st ++ [x] := by
    show ((st.1 ++ [(x, d)]).map _) = _
    rw [List.map_append]
    rfl
  refine ⟨?_, ?_, h.lw, fun y hy => ?_, fun t ht => ?_, h.nw⟩
  · rw [e, List.nodup_append]
    exact ⟨h.nd, by simp, fun a ha b hb z => hx (by rw [List.mem_singleton.mp hb] at z; exact z ▸ ha)⟩
  · show (st.1 ++ [(x, d)]).length ≤ 60
    rw [List.length_append]
    show _ + 1 ≤ 60
    omega
  · rw [e] at hy
    rcases List.mem_append.mp hy with hy | hy
    · exact h.lx y hy
    · rw [List.mem_singleton.mp hy]
      exact xl
  · rcases List.mem_append.mp ht with ht | ht
    · exact h.nt t ht
    · rw [List.mem_singleton.mp ht]
      exact nd
theorem ok_p_with_tie (T : Txt K mg fa fd) : FnOk P w K mg base (L2.CX P w) 7 (fa 163) (fd 163) ["state", "names", "limit", "label", "tie"] (spWithT K fa) := by
  refine T.F_p_with_tie.okX sc_p_with_tie (fun vs H Q E h => ?_) (fun cdv A outer s H vs Q E hr h => ?_)
  · obtain ⟨sv, dv, N, z, Z, room, st, ns, x, d, rfl, _⟩ := h
    rfl
  · obtain ⟨sv, dv, N, z, Z, room, st, ns, x, d, rfl, hC, q1, q2⟩ := h
    obtain ⟨p, D, l, kvs, us, rfl, h1, h2, h3, h4, h5, h6⟩ := hC.hs.ex
    have hg := hC.hs.g
    have hkeys := pair_keys h5
    have kl : kvs.length = st.1.length := Paired.length h5
    refine ⟨_, (C8.pss_cut (ps_asg (pv 0) (pg_tup (by rfl) (pgs_cons (pg_name (i := 5) sc_p_with_tie.nd rfl (.inl rfl)) (pgs_cons (pg_name (i := 6) sc_p_with_tie.nd rfl (.inl rfl)) pgs_nil))))
      (C8.pss_cut (ps_expr (pe_call (ok_p_check_new_label T) (hr.mono (by decide)) (by rfl) T.g_p_check_new_label T.F_p_check_new_label.kp T.b_p_check_new_label .nil (passes_call (takes_of rfl rfl rfl rfl) (fun _ _ _ _ h => h)) (pa_cons (pv 0) (pa_cons (pv 3) pa_nil))))
      (C8.pss_cut (ps_if (pt_cmpR op_ge (pe_callB call_lenD (by rfl) T.m_len PySem.boot_len (pa_cons (pv 5) pa_nil)) (pv 2) (nomark _)) (pss_one (ps_raise rfl (takes_of rfl rfl rfl rfl) (pmk_oex T.eCapacityExceeded.oex T.eCapacityExceeded.iC T.eCapacityExceeded.tI (ok_CapacityExceeded T) (hr.mono (by decide)) T.bICapacityExceeded .nil pass0 (by rfl) T.eCapacityExceeded.gC (pa_cons (pv 2) pa_nil)))) pss_nil)
      (C8.pss_cut (ps_if (pt_cmpR op_notN (pe_call (ok_p_first_wrong_tieB T) (hr.mono (by decide)) (by rfl) T.g_p_first_wrong_tie T.F_p_first_wrong_tie.kp T.b_p_first_wrong_tie .nil pass0 (pa_cons (pe_lst (pa_cons (pv 4) pa_nil)) (pa_cons (pv 1) pa_nil))) pe_non (nomark _)) (pss_one (ps_raise rfl (takes_of rfl rfl rfl rfl) (pmk_oex T.eInvalidTie.oex T.eInvalidTie.iC T.eInvalidTie.tI (ok_InvalidTie T) (hr.mono (by decide)) T.bIInvalidTie .nil pass0 (by rfl) T.eInvalidTie.gC (pa_cons (pe_callB call_lenD (by rfl) T.m_len PySem.boot_len (pa_cons (pv 5) pa_nil)) pa_nil)))) pss_nil)
      (pss_one (ps_ret (pe_tup (pa_cons (pe_star1 (pv 5) (pv 3) (pv 4)) (pa_cons (pv 6) pa_nil))))))))), ?_⟩
    -- both parts
    refine ⟨fun σ G => G = H ∧ σ = [some (.ref p), some (.ref N), some (.int room), some (.str x), some dv, some (.ref D), some (.ref l)], ⟨_, rfl, p, _, rfl, SqT.of h1, rfl, _, _, rfl, _, _, rfl, rfl, rfl, rfl⟩, fun σ G hM => ?_⟩
    obtain ⟨rfl, rfl⟩ := hM
    -- the label
    refine ⟨fun σ H1 => Same G H1 ∧ labB x.cps.toList = true ∧ x ∉ tls st ++ wls st ∧ σ = [some (.ref p), some (.ref N), some (.int room), some (.str x), some dv, some (.ref D), some (.ref l)], ?_, fun σ H1 hM => ?_⟩
    · refine ⟨_, rfl, _, rfl, _, st, z, Z, x, rfl, hC.hs, hC.hx, fun e => ?_, fun e m => ?_, fun e m H' s' => ⟨s', e, m, rfl⟩⟩
      · exact q1 _ (td_name e)
      · exact q1 _ (td_dup e m)
    obtain ⟨s1, lab, fresh, rfl⟩ := hM
    -- the room
    refine ⟨fun σ H2 => H2 = H1 ∧ ¬ room ≤ (st.1.length : Int) ∧ σ = [some (.ref p), some (.ref N), some (.int room), some (.str x), some dv, some (.ref D), some (.ref l)], ?_, fun σ H2 hM => ?_⟩
    · refine ⟨_, rfl, D, kvs, rfl, s1 _ _ h2, _, rfl, _, _, rfl, rfl, _, rfl, ?_⟩
      rw [kl]
      refine ite2 (fun e => ?_) (fun e => ⟨rfl, fun z => e (decide_eq_true z), rfl⟩)
      have e := of_decide_eq_true e
      refine ⟨_, rfl, rz1 T.eCapacityExceeded.oex T.nCapacityExceeded_most T.eCapacityExceeded.tag (OneE.of ?_ s1)⟩
      exact q1 _ (td_cap lab fresh e)
    obtain ⟨rfl, room1, rfl⟩ := hM
    -- the tie
    refine ⟨fun σ H3 => Same G H3 ∧ goodT ns d = true ∧ σ = [some (.ref p), some (.ref N), some (.int room), some (.str x), some dv, some (.ref D), some (.ref l)], ?_, fun σ H3 hM => ?_⟩
    · refine ⟨_, rfl, small_line (by show 1 ≤ 1000; decide), fun e ne => ?_⟩
      have se := same_upd (o := .lst [dv]) ne
      have s2 := s1.trans se
      refine ⟨_, rfl, e, N, [dv], [d], ns, z, rfl, .inl (SqL.of upd_same), .cons (hC.hd.same s2) .nil, by show 1 ≤ 900; decide, hC.hn.sm s2, fun H' s' => ?_⟩
      refine ⟨rfl, _, rfl, ?_⟩
      rw [fbt_one]
      cases hgd : goodT ns d with
      | true => exact iteF ⟨s2.trans s', rfl, rfl⟩
      | false =>
        refine iteT ⟨_, rfl, D, kvs, rfl, (s2.trans s') _ _ h2, ?_⟩
        rw [kl]
        refine rz1 T.eInvalidTie.oex T.nInvalidTie_at T.eInvalidTie.tag (OneE.of ?_ (s2.trans s'))
        exact q1 _ (td_tie lab fresh room1 hgd)
    obtain ⟨s3, hgd, rfl⟩ := hM
    have q := q2 (td_ok lab fresh room1 hgd)
    -- the new state
    have nk : (kvs.map (·.1)).Nodup := by
      rw [hkeys]
      exact nodup_mapB _ (fun a b e => by injection e) hg.nd
    have mk : mergeK [] kvs = kvs := merge_nodup kvs [] nk
    have kf : valV kvs (.inr x) = none := valV_not fun m => by
      rw [hkeys] at m
      obtain ⟨y, hy, e⟩ := List.mem_map.mp m
      injection e with e
      rw [e] at hy
      exact fresh (List.mem_append_left _ hy)
    have pk : putK kvs (.inr x) dv = kvs ++ [(.inr x, dv)] := putK_new _ kf
    have l2 := hC.hl
    have b1 := s3 _ _ h1
    have b2 := s3 _ _ h2
    have b3 := s3 _ _ h3
    refine fun a na => ⟨_, rfl, D, kvs, rfl, ne_of_none b2 na, upd_same, (upd_ne (ne_of_none b2 na)).trans b2, small1000 (by omega), fun c nc => ⟨_, rfl, _, rfl, .inr x, rfl, ?_⟩⟩
    have ca : c ≠ a := fun e => by rw [e, upd_same] at nc; cases nc
    have nc2 : H3 c = none := by
      rw [upd_ne ca, upd_ne ca] at nc
      exact nc
    refine ⟨ca, upd_same, (upd_ne ca.symm).trans upd_same, _, rfl, two_line, fun t nt => ?_⟩
    rw [mk, pk]
    have nt1 : t ≠ a := fun e => by rw [e, upd_same] at nt; cases nt
    have nt2 : t ≠ c := fun e => by rw [e, upd_ne ca, upd_same] at nt; cases nt
    have nt3 : H3 t = none := by
      rw [upd_ne nt1, upd_ne nt2, upd_ne nt2, upd_ne nt1, upd_ne nt1] at nt
      exact nt
    have sF : Same H3 (upd (upd (upd (upd (upd (upd H3 a (.dK [])) a (.dK (mergeK [] kvs))) c (.dK [])) c (.dK [(.inr x, dv)])) a (.dK (kvs ++ [(.inr x, dv)]))) t (.tup [.ref a, .ref l])) := fun b o e => by
      have ba := ne_of_none e na
      have bc := ne_of_none e nc2
      have bt := ne_of_none e nt3
      rw [upd_ne bt, upd_ne ba, upd_ne bc, upd_ne bc, upd_ne ba, upd_ne ba]
      exact e
    rw [mk] at sF
    refine q _ _ (s3.trans sF) ⟨⟨t, a, l, kvs ++ [(.inr x, dv)], us, rfl, upd_same, (upd_ne nt1.symm).trans upd_same, sF _ _ b3, h4, ?_, h6.same (s3.trans sF)⟩, withT_g hg (fun m => fresh (List.mem_append_left _ m)) hC.hx l2 (noL_tieD (by unfold goodT at hgd; rw [Bool.and_eq_true] at hgd; exact hgd.1))⟩ (fun p0 e0 l0 ev hp0 => by cases ev; rw [upd_same] at hp0; cases hp0; exact .inl (none_of s3 na))
    exact paired_snoc (paired_mono (fun _ _ k => ⟨k.1, k.2.same (s3.trans sF)⟩) h5) ⟨rfl, hC.hd.same (s3.trans sF)⟩
end
section
variable {P : Program} {w : World} {K : PySem.W.Frag} {mg : Str → Option Value} {base : Heap} {fa : Nat → Addr} {fd : Nat → FuncData}
/-- a wish for some names -/
def wishG (ns : List Str) (t g : PyData) : Bool := termsD t && ((tieN (.tuple [t, g])).all (fun x => decide (x ∈ ns)) && ratD g)
def spWish (K : PySem.W.Frag) : Sp := fun vs H Q _ => ∃ (c N z : Addr) (vt vg : V) (t g : PyData) (ns : List Str), vs = [.ref c, .ref N] ∧ H c = some (.tup [vt, vg]) ∧ Dt z H vt t ∧ Dt z H vg g ∧ SqB K H N (ns.map V.str) ∧ ∀ H', Same H H' → Q (.bl (wishG ns t g)) H'
theorem ok_p_is_wish (T : Txt K mg fa fd) : FnOk P w K mg base CX0 5 (fa 150) (fd 150) ["thing", "names"] (spWish K) := by
  refine T.F_p_is_wish.ok sc_p_is_wish (fun vs H Q E h => ?_) (fun cdv A outer s H vs Q E hr h => ?_)
  · obtain ⟨c, N, z, vt, vg, t, g, ns, rfl, _⟩ := h
    rfl
  · obtain ⟨c, N, z, vt, vg, t, g, ns, rfl, hc, ht, hg, hn, q⟩ := h
    refine ⟨_, (C8.pss_cut (ps_if (PW.pt (pw_or (pt_not (pt_val (pe_callB call_isi (by rfl) T.m_isinstance PyProof.Rows.boot_isinstance (pa_cons (pv 0) (pa_cons (pe_bltn (v := .ty "tuple") (by rfl) T.m_tuple (by decide +kernel) rfl) pa_nil))))) (pw_or1 (pt_cmpR op_ne (pe_callB call_len_seq (by rfl) T.m_len PySem.boot_len (pa_cons (pv 0) pa_nil)) pe_int (nomark _))))) (pss_one (ps_ret pe_bl)) pss_nil)
      (C8.pss_cut (ps_asg (pv 0) (pg_tup (by rfl) (pgs_cons (pg_name (i := 2) sc_p_is_wish.nd rfl (.inl rfl)) (pgs_cons (pg_name (i := 3) sc_p_is_wish.nd rfl (.inl rfl)) pgs_nil))))
      (pss_one (ps_ret (pe_and (pe_call (ok_p_are_terms T) (hr.mono (by decide)) (by rfl) T.g_p_are_terms T.F_p_are_terms.kp T.b_p_are_terms .nil pass0 (pa_cons (pv 2) pa_nil)) (pe_and (pe_callB (cr_all rfl) (by rfl) T.m_all PyProof.Rows.boot_all (pa_cons (pe_lc (own := [("name", 4), ("rate", 5)]) (g := gTup K 2 (gCons (gName 4) (gCons (gName 5) gNil))) (tt := tYes) rfl sc_p_is_wish.nd (pi_tup (pv 2)) (blkOk_by (own := [("name", 4), ("rate", 5)]) (N := ["thing", "names", "terms", "target", "name", "rate"]) (sc := defScope s_p_is_wish) (by decide +kernel)) (fun _ _ _ _ _ => pg_tup rfl (pgs_cons (pg_name (i := 4) sc_p_is_wish.nd rfl (Or.inl rfl)) (pgs_cons (pg_name (i := 5) sc_p_is_wish.nd rfl (Or.inl rfl)) pgs_nil))) (fun _ _ _ _ _ => pts_nil) (fun _ _ _ _ _ => (pe_cmpR (op_in_seqK (K := K) rfl) (pv 4) (pv 1) (by rfl)))) pa_nil)) (pe_one (pe_call (ok_p_is_ratio T) (hr.mono (by decide)) (by rfl) T.g_p_is_ratio T.F_p_is_ratio.kp T.b_p_is_ratio .nil pass0 (pa_cons (pv 3) pa_nil))))))))), ?_⟩
    have hv : Dt z H (.ref c) (.tuple [t, g]) := .tup hc (.cons ht (.cons hg .nil))
    refine ⟨fun σ G => G = H ∧ σ = [some (.ref c), some (.ref N), none, none, none, none], ?_, fun σ G hM => ?_⟩
    · refine ⟨_, rfl, _, _, _, _, _, rfl, .ty _, .base hv.ty, kit_ty kitTup, _, rfl, ?_⟩
      refine iteF ⟨_, rfl, c, _, rfl, .inr (SqT.of hc), rfl, _, rfl, ?_⟩
      rw [decide_eq_true (show V.int (([vt, vg] : List V).length : Int) = V.int 2 from rfl)]
      exact iteF ⟨rfl, rfl⟩
    obtain ⟨rfl, rfl⟩ := hM
    refine ⟨fun σ H1 => H1 = G ∧ σ = [some (.ref c), some (.ref N), some vt, some vg, none, none], ⟨_, rfl, c, _, rfl, SqT.of hc, rfl, _, _, rfl, _, _, rfl, rfl, rfl, rfl⟩, fun σ H1 hM => ?_⟩
    obtain ⟨rfl, rfl⟩ := hM
    refine ⟨_, rfl, vt, t, z, rfl, ht, fun H2 s1 => ⟨_, rfl, ?_⟩⟩
    cases hT : termsD t with
    | false =>
      refine iteF ?_
      have e : wishG ns t g = false := by
        unfold wishG
        rw [hT]
        rfl
      have q := q H2 s1
      rw [e] at q
      exact q
    | true =>
      refine iteT ?_
      obtain ⟨ts, b, ed, hl, en⟩ := tieD_inv (d := .tuple [t, .tuple [.int 1, .int 1]]) (by
        show (termsD t && ratD (.tuple [.int 1, .int 1])) = true
        rw [hT]
        decide)
      obtain rfl : t = trmD ts := by injection ed with e; injection e
      have en2 : tieN (.tuple [trmD ts, g]) = ts.map fun t => t.1 := en
      match vt, ht with
      | _, .tup (a := tt) (xs := xs) htt hts =>
        refine ⟨_, rfl, tt, rfl, ⟨_, SqT.of (s1 _ _ htt)⟩, fun D nD => ?_⟩
        refine lc_tup (K := K) (a := tt) (xs := xs) (fun i G3 => Same H2 G3 ∧ G3 D = some (.lst (((ts.take i).map fun t => decide (t.1 ∈ ns)).map V.bl))) ⟨same_upd nD, upd_same⟩ (fun i G3 _ hq => SqT.of (hq.1 _ _ (s1 _ _ htt))) (fun i x G3 hx hq => ?_) (fun G3 hq => ?_)
        · obtain ⟨d, hd, hdt⟩ := DtAll.at i hts hx
          rw [List.getElem?_map] at hd
          obtain ⟨⟨n, r⟩, he, rfl⟩ := Option.map_eq_some_iff.mp hd
          have il := (List.getElem?_eq_some_iff.mp he).1
          match x, hdt with
          | _, .tup (a := pp) hpp (.cons (.str _ _) (.cons _ .nil)) =>
            have sx := s1.trans hq.1
            refine ⟨pp, _, rfl, .inl (.inl (sx _ _ hpp)), rfl, _, _, rfl, _, _, rfl, rfl, rfl, _, rfl, _, rfl, N, _, rfl, hn.sm sx, rfl, flat_strs _, _, hq.2, ?_, ?_, ?_⟩
            · rw [List.length_map, List.length_map, List.length_take]
              exact small1000 (by omega)
            · exact fun c o e => (upd_ne (ne_of_none e nD)).trans (hq.1 c o e)
            · rw [upd_same, List.take_add_one, he, inV_strs, List.map_append, List.map_append]
              rfl
        · have e := hts.len
          rw [List.length_map] at e
          rw [e, List.take_length] at hq
          have s2 := s1.trans hq.1
          refine ⟨D, _, rfl, SqL.of hq.2, _, rfl, ?_⟩
          have ea : (ts.map fun t => decide (t.1 ∈ ns)).all id = (tieN (.tuple [trmD ts, g])).all fun x => decide (x ∈ ns) := by
            rw [en2, List.all_map, List.all_map]
            rfl
          rw [ea]
          have q := q
          unfold wishG at q
          rw [hT, Bool.true_and] at q
          cases hg2 : (tieN (.tuple [trmD ts, g])).all fun x => decide (x ∈ ns) with
          | false =>
            rw [hg2] at q
            exact iteF (q _ s2)
          | true =>
            rw [hg2, Bool.true_and] at q
            exact iteT ⟨_, rfl, vg, g, z, rfl, hg.same s2, q _ s2⟩
end
theorem dtall_app {z : Addr} {H : Hp} : ∀ {xs ys : List V} {ds es : List PyData}, DtAll z H xs ds → DtAll z H ys es → DtAll z H (xs ++ ys) (ds ++ es)
  | _, _, _, _, .nil, k => k
  | _, _, _, _, .cons h t, k => .cons h (dtall_app t k)
def erWish (n : Int) : Er := ⟨6, "InvalidWish", "at", .int n⟩
/-- what becomes of a wish that is added -/
def wishDue (ns : List Str) (st : Ste) (x : Str) (t g : PyData) : Option Er :=
  if labB x.cps.toList = false then some (erName x) else
  if x ∈ tls st ++ wls st then some (erDup x) else
  if 8 ≤ (st.2.length : Int) then some (erCap 8) else
  if wishG ns t g = false then some (erWish st.2.length) else none
section
variable {ns : List Str} {st : Ste} {x : Str} {t g : PyData}
theorem wd_name (h : labB x.cps.toList = false) : wishDue ns st x t g = some (erName x) := if_pos h
theorem wd_dup (h : labB x.cps.toList = true) (m : x ∈ tls st ++ wls st) : wishDue ns st x t g = some (erDup x) := (if_neg (nfalse h)).trans (if_pos m)
theorem wd_cap (h : labB x.cps.toList = true) (m : x ∉ tls st ++ wls st) (r : 8 ≤ (st.2.length : Int)) : wishDue ns st x t g = some (erCap 8) := (if_neg (nfalse h)).trans ((if_neg m).trans (if_pos r))
theorem wd_wish (h : labB x.cps.toList = true) (m : x ∉ tls st ++ wls st) (r : ¬ 8 ≤ (st.2.length : Int)) (k : wishG ns t g = false) : wishDue ns st x t g = some (erWish st.2.length) := (if_neg (nfalse h)).trans ((if_neg m).trans ((if_neg r).trans (if_pos k)))
theorem wd_ok (h : labB x.cps.toList = true) (m : x ∉ tls st ++ wls st) (r : ¬ 8 ≤ (st.2.length : Int)) (k : wishG ns t g = true) : wishDue ns st x t g = none := (if_neg (nfalse h)).trans ((if_neg m).trans ((if_neg r).trans (if_neg (nfalse k))))
end
def withW (st : Ste) (x : Str) (t g : PyData) : Ste := (st.1, st.2 ++ [(x, t, g)])
theorem noLs_app : ∀ {xs ys : List PyData}, noLs (xs ++ ys) = (noLs xs && noLs ys)
  | [], ys => rfl
  | x :: xs, ys => by
    show (noL x && noLs (xs ++ ys)) = ((noL x && noLs xs) && noLs ys)
    rw [noLs_app, Bool.and_assoc]
theorem withW_g {st : Ste} {x : Str} {t g : PyData} (h : StG st) (l : st.2.length < 60) (n1 : noL t = true) (n2 : noL g = true) : StG (withW st x t g) := by
  refine ⟨h.nd, h.ln, ?_, h.lx, h.nt, ?_⟩
  · show (st.2 ++ [(x, t, g)]).length ≤ 60
    rw [List.length_append]
    show _ + 1 ≤ 60
    omega
  · show noLs ((st.2 ++ [(x, t, g)]).map wiD) = true
    rw [List.map_append, noLs_app, h.nw]
    show (true && ((true && (noL t && (noL g && true))) && true)) = true
    rw [n1, n2]
    rfl
section
variable {P : Program} {w : World} {K : PySem.W.Frag} {mg : Str → Option Value} {base : Heap} {fa : Nat → Addr} {fd : Nat → FuncData}
structure WishC (K : PySem.W.Frag) (z : Addr) (Z : List Addr) (H : Hp) (sv : V) (N c : Addr) (vt vg : V) (st : Ste) (ns : List Str) (x : Str) (t g : PyData) : Prop where
  hs : StA z Z H sv st
  hn : SqB K H N (ns.map V.str)
  hc : H c = some (.tup [.str x, vt, vg])
  ht : Dt z H vt t
  hg : Dt z H vg g
  hx : x.length ≤ 1000
  hz : ∀ y ∈ Z, H y ≠ none
theorem WishC.same {z : Addr} {Z : List Addr} {H H' : Hp} {sv vt vg : V} {N c : Addr} {st : Ste} {ns : List Str} {x : Str} {t g : PyData} (h : WishC K z Z H sv N c vt vg st ns x t g) (s : Same H H') : WishC K z Z H' sv N c vt vg st ns x t g :=
  ⟨h.hs.same s, h.hn.sm s, s _ _ h.hc, h.ht.same s, h.hg.same s, h.hx, fun y hy e => by
    cases e2 : H y with
    | none => exact h.hz y hy e2
    | some o =>
      rw [s _ _ e2] at e
      cases e⟩
def spWithW (K : PySem.W.Frag) (fa : Nat → Addr) : Sp := fun vs H Q E => ∃ (sv vt vg : V) (N c z : Addr) (Z : List Addr) (st : Ste) (ns : List Str) (x : Str) (t g : PyData), vs = [sv, .ref N, .ref c] ∧ WishC K z Z H sv N c vt vg st ns x t g ∧
  (∀ r, wishDue ns st x t g = some r → EE E fa H r) ∧ (wishDue ns st x t g = none → ∀ v H', Same H H' → StA z Z H' v (withW st x t g) → NewD H sv v H' → Q v H')
theorem ok_p_with_wish (T : Txt K mg fa fd) : FnOk P w K mg base (L2.CX P w) 7 (fa 164) (fd 164) ["state", "names", "wish"] (spWithW K fa) := by
  refine T.F_p_with_wish.okX sc_p_with_wish (fun vs H Q E h => ?_) (fun cdv A outer s H vs Q E hr h => ?_)
  · obtain ⟨sv, vt, vg, N, c, z, Z, st, ns, x, t, g, rfl, _⟩ := h
    rfl
  · obtain ⟨sv, vt, vg, N, c, z, Z, st, ns, x, t, g, rfl, hC, q1, q2⟩ := h
    obtain ⟨p, D, l, kvs, us, rfl, h1, h2, h3, h4, h5, h6⟩ := hC.hs.ex
    have hg := hC.hs.g
    have ul : us.length = st.2.length := by
      have := h6.len
      rw [List.length_map] at this
      exact this
    refine ⟨_, (C8.pss_cut (ps_asg (pv 0) (pg_tup (by rfl) (pgs_cons (pg_name (i := 3) sc_p_with_wish.nd rfl (.inl rfl)) (pgs_cons (pg_name (i := 4) sc_p_with_wish.nd rfl (.inl rfl)) pgs_nil))))
      (C8.pss_cut (ps_asg (pv 2) (pg_tup (by rfl) (pgs_cons (pg_name (i := 5) sc_p_with_wish.nd rfl (.inl rfl)) (pgs_cons (pg_name (i := 6) sc_p_with_wish.nd rfl (.inl rfl)) (pgs_cons (pg_name (i := 7) sc_p_with_wish.nd rfl (.inl rfl)) pgs_nil)))))
      (C8.pss_cut (ps_expr (pe_call (ok_p_check_new_label T) (hr.mono (by decide)) (by rfl) T.g_p_check_new_label T.F_p_check_new_label.kp T.b_p_check_new_label .nil (passes_call (takes_of rfl rfl rfl rfl) (fun _ _ _ _ h => h)) (pa_cons (pv 0) (pa_cons (pv 5) pa_nil))))
      (C8.pss_cut (ps_if (pt_cmpR op_ge (pe_callB call_len_seq (by rfl) T.m_len PySem.boot_len (pa_cons (pv 4) pa_nil)) (pe_clsI T.most_Layout.choose_spec.choose_spec (pe_glob (v := V.ref (fa 154)) (by rfl) T.g_Layout rfl)) (nomark _)) (pss_one (ps_raise rfl (takes_of rfl rfl rfl rfl) (pmk_oex T.eCapacityExceeded.oex T.eCapacityExceeded.iC T.eCapacityExceeded.tI (ok_CapacityExceeded T) (hr.mono (by decide)) T.bICapacityExceeded .nil pass0 (by rfl) T.eCapacityExceeded.gC (pa_cons (pe_clsI T.most_Layout.choose_spec.choose_spec (pe_glob (v := V.ref (fa 154)) (by rfl) T.g_Layout rfl)) pa_nil)))) pss_nil)
      (C8.pss_cut (ps_if (pt_not (pt_val (pe_call (ok_p_is_wish T) (hr.mono (by decide)) (by rfl) T.g_p_is_wish T.F_p_is_wish.kp T.b_p_is_wish .nil pass0 (pa_cons (pe_tup (pa_cons (pv 6) (pa_cons (pv 7) pa_nil))) (pa_cons (pv 1) pa_nil))))) (pss_one (ps_raise rfl (takes_of rfl rfl rfl rfl) (pmk_oex T.eInvalidWish.oex T.eInvalidWish.iC T.eInvalidWish.tI (ok_InvalidWish T) (hr.mono (by decide)) T.bIInvalidWish .nil pass0 (by rfl) T.eInvalidWish.gC (pa_cons (pe_callB call_len_seq (by rfl) T.m_len PySem.boot_len (pa_cons (pv 4) pa_nil)) pa_nil)))) pss_nil)
      (pss_one (ps_ret (pe_tup (pa_cons (pv 3) (pa_cons (pe_op op_cat (pv 4) (pe_lst (pa_cons (pv 2) pa_nil))) pa_nil)))))))))), ?_⟩
    -- both parts
    refine ⟨fun σ G => G = H ∧ σ = [some (.ref p), some (.ref N), some (.ref c), some (.ref D), some (.ref l), none, none, none], ⟨_, rfl, p, _, rfl, SqT.of h1, rfl, _, _, rfl, _, _, rfl, rfl, rfl, rfl⟩, fun σ G hM => ?_⟩
    obtain ⟨rfl, rfl⟩ := hM
    refine ⟨fun σ H1 => H1 = G ∧ σ = [some (.ref p), some (.ref N), some (.ref c), some (.ref D), some (.ref l), some (.str x), some vt, some vg], ⟨_, rfl, c, _, rfl, SqT.of hC.hc, rfl, _, _, rfl, _, _, rfl, _, _, rfl, rfl, rfl, rfl⟩, fun σ H1 hM => ?_⟩
    obtain ⟨rfl, rfl⟩ := hM
    -- the label
    refine ⟨fun σ H2 => Same H1 H2 ∧ labB x.cps.toList = true ∧ x ∉ tls st ++ wls st ∧ σ = [some (.ref p), some (.ref N), some (.ref c), some (.ref D), some (.ref l), some (.str x), some vt, some vg], ?_, fun σ H2 hM => ?_⟩
    · refine ⟨_, rfl, _, rfl, _, st, z, Z, x, rfl, hC.hs, hC.hx, fun e => ?_, fun e m => ?_, fun e m H' s' => ⟨s', e, m, rfl⟩⟩
      · exact q1 _ (wd_name e)
      · exact q1 _ (wd_dup e m)
    obtain ⟨s1, lab, fresh, rfl⟩ := hM
    -- the room
    refine ⟨fun σ H3 => H3 = H2 ∧ ¬ 8 ≤ (st.2.length : Int) ∧ σ = [some (.ref p), some (.ref N), some (.ref c), some (.ref D), some (.ref l), some (.str x), some vt, some vg], ?_, fun σ H3 hM => ?_⟩
    · refine ⟨_, rfl, l, us, rfl, .inl (SqL.of (s1 _ _ h3)), rfl, _, _, rfl, rfl, _, rfl, ?_⟩
      rw [ul]
      refine ite2 (fun e => ?_) (fun e => ⟨rfl, fun z => e (decide_eq_true z), rfl⟩)
      have e := of_decide_eq_true e
      refine ⟨rfl, rz1 T.eCapacityExceeded.oex T.nCapacityExceeded_most T.eCapacityExceeded.tag (OneE.of ?_ s1)⟩
      exact q1 _ (wd_cap lab fresh e)
    obtain ⟨rfl, room1, rfl⟩ := hM
    -- the wish
    refine ⟨fun σ H4 => Same H1 H4 ∧ wishG ns t g = true ∧ σ = [some (.ref p), some (.ref N), some (.ref c), some (.ref D), some (.ref l), some (.str x), some vt, some vg], ?_, fun σ H4 hM => ?_⟩
    · refine ⟨_, rfl, _, rfl, two_line, fun e ne => ?_⟩
      have se := same_upd (o := .tup [vt, vg]) ne
      have s2 := s1.trans se
      have h2C := hC.same s2
      refine ⟨_, rfl, e, N, z, vt, vg, t, g, ns, rfl, upd_same, h2C.ht, h2C.hg, h2C.hn, fun H' s' => ⟨_, rfl, ?_⟩⟩
      cases hgd : wishG ns t g with
      | true => exact iteF ⟨s2.trans s', rfl, rfl⟩
      | false =>
        refine iteT ⟨_, rfl, l, us, rfl, .inl (SqL.of ((s2.trans s') _ _ h3)), ?_⟩
        rw [ul]
        refine rz1 T.eInvalidWish.oex T.nInvalidWish_at T.eInvalidWish.tag (OneE.of ?_ (s2.trans s'))
        exact q1 _ (wd_wish lab fresh room1 hgd)
    obtain ⟨s3, hgd, rfl⟩ := hM
    have q := q2 (wd_ok lab fresh room1 hgd)
    have h4C := hC.same s3
    refine ⟨_, rfl, _, rfl, _, rfl, one_line, fun a na => ?_⟩
    have sa := same_upd (o := .lst [V.ref c]) na
    have lw := hg.lw
    refine ⟨l, a, us, [.ref c], rfl, rfl, sa _ _ (s3 _ _ h3), upd_same, small_line (by show us.length + 1 ≤ 1000; omega), fun b nb => ?_⟩
    have sb := same_upd (o := .lst (us ++ [V.ref c])) nb
    refine ⟨two_line, fun e ne => ?_⟩
    have se := same_upd (o := .tup [V.ref D, .ref b]) ne
    have sF := s3.trans (sa.trans (sb.trans se))
    have h5C := hC.same sF
    have l6 : st.2.length < 60 := by omega
    have gt : termsD t = true ∧ ratD g = true := by
      unfold wishG at hgd
      rw [Bool.and_eq_true, Bool.and_eq_true] at hgd
      exact ⟨hgd.1, hgd.2.2⟩
    refine q _ _ sF ⟨⟨e, D, b, kvs, us ++ [.ref c], rfl, upd_same, sF _ _ h2, se _ _ upd_same, fun z => ?_, paired_mono (fun _ _ k => ⟨k.1, k.2.same sF⟩) h5, ?_⟩, withW_g hg l6 (noL_terms gt.1) (noL_rat gt.2)⟩ (fun p0 e0 l0 ev hp0 => by cases ev; rw [upd_same] at hp0; cases hp0; exact .inr ⟨_, _, rfl, h1⟩)
    · exact (h4C.same sa).hz b z nb
    · show DtAll _ _ _ ((st.2 ++ [(x, t, g)]).map wiD)
      rw [List.map_append]
      exact dtall_app (h6.same sF) (.cons (.tup h5C.hc (.cons (.str x h5C.hx) (.cons h5C.ht (.cons h5C.hg .nil)))) .nil)
end
/-! ### a wish ahead of all others; something dropped -/
def erNoLab (x : Str) : Er := ⟨18, "UnknownLabel", "label", .str x⟩
abbrev isL (x : Str) (w : Str × PyData × PyData) : Bool := decide (w.1 = x)
abbrev noT (x : Str) (t : Str × PyData) : Bool := !decide (t.1 = x)
def firstW (st : Ste) (x : Str) : Ste := (st.1, st.2.filter (isL x) ++ st.2.filter fun w => !isL x w)
def dropS (st : Ste) (x : Str) : Ste := (st.1.filter (noT x), st.2.filter fun w => !isL x w)
theorem noLs_mem : ∀ {ds : List PyData}, noLs ds = true ↔ ∀ d ∈ ds, noL d = true
  | [] => ⟨fun _ _ h => (nomatch h), fun _ => rfl⟩
  | d :: ds => by
    show (noL d && noLs ds) = true ↔ _
    rw [Bool.and_eq_true, noLs_mem (ds := ds)]
    refine ⟨fun ⟨a, b⟩ e m => ?_, fun h => ⟨h d List.mem_cons_self, fun e m => h e (List.mem_cons_of_mem _ m)⟩⟩
    rcases List.mem_cons.mp m with rfl | m
    · exact a
    · exact b e m
theorem noLs_sub {ds es : List PyData} (h : noLs ds = true) (s : ∀ e ∈ es, e ∈ ds) : noLs es = true := noLs_mem.mpr fun e m => noLs_mem.mp h e (s e m)
theorem flt_two {α : Type} (p : α → Bool) : ∀ l : List α, (l.filter p).length + (l.filter fun x => !p x).length = l.length
  | [] => rfl
  | a :: l => by
    have := flt_two p l
    rw [List.filter_cons, List.filter_cons, List.length_cons]
    cases p a <;> simp <;> omega
theorem firstW_g {st : Ste} {x : Str} (h : StG st) : StG (firstW st x) := by
  refine ⟨h.nd, h.ln, ?_, h.lx, h.nt, noLs_sub h.nw fun e m => ?_⟩
  · show (st.2.filter (isL x) ++ st.2.filter fun w => !isL x w).length ≤ 60
    rw [List.length_append, flt_two]
    exact h.lw
  · obtain ⟨w, hw, rfl⟩ := List.mem_map.mp m
    refine List.mem_map.mpr ⟨w, ?_, rfl⟩
    rcases List.mem_append.mp hw with hw | hw
    · exact (List.mem_filter.mp hw).1
    · exact (List.mem_filter.mp hw).1
theorem dropS_g {st : Ste} {x : Str} (h : StG st) : StG (dropS st x) := by
  have sub : ∀ y ∈ tls (dropS st x), y ∈ tls st := fun y m => by
    obtain ⟨t, ht, rfl⟩ := List.mem_map.mp m
    exact List.mem_map.mpr ⟨t, (List.mem_filter.mp ht).1, rfl⟩
  refine ⟨?_, Nat.le_trans (List.length_filter_le ..) h.ln, Nat.le_trans (List.length_filter_le ..) h.lw, fun y m => h.lx y (sub y m), fun t m => h.nt t (List.mem_filter.mp m).1, noLs_sub h.nw fun e m => ?_⟩
  · exact h.nd.sublist (List.filter_sublist.map _)
  · obtain ⟨w, hw, rfl⟩ := List.mem_map.mp m
    exact List.mem_map.mpr ⟨w, (List.mem_filter.mp hw).1, rfl⟩
theorem dec_str {a b : Str} : decide (V.str a = V.str b) = decide (a = b) := decide_eq_decide.mpr ⟨fun e => by injection e, fun e => by rw [e]⟩
/-- a list of the wishes that a filter leaves, up to the i-th -/
def FltI (z : Addr) (ws : List (Str × PyData × PyData)) (p : Str × PyData × PyData → Bool) (G : Hp) (D : Addr) (i : Nat) : Prop := ∃ ys, G D = some (.lst ys) ∧ DtAll z G ys (((ws.take i).filter p).map wiD) ∧ ys.length ≤ i
section
variable {z : Addr} {ws : List (Str × PyData × PyData)} {p : Str × PyData × PyData → Bool} {G : Hp} {D : Addr} {i : Nat} {w0 : Str × PyData × PyData} {v : V}
theorem flt_no (h : FltI z ws p G D i) (e : ws[i]? = some w0) (hp : p w0 = false) : FltI z ws p G D (i + 1) := by
  obtain ⟨ys, h1, h2, h3⟩ := h
  refine ⟨ys, h1, ?_, Nat.le_succ_of_le h3⟩
  rw [List.take_add_one, e, List.filter_append]
  show DtAll z G ys (((ws.take i).filter p ++ [w0].filter p).map wiD)
  rw [List.filter_cons, hp]
  show DtAll z G ys (((ws.take i).filter p ++ []).map wiD)
  rw [List.append_nil]
  exact h2
theorem flt_yes {ys : List V} (h1 : G D = some (.lst ys)) (h2 : DtAll z G ys (((ws.take i).filter p).map wiD)) (h3 : ys.length ≤ i) (nw : noLs (ws.map wiD) = true) (e : ws[i]? = some w0) (hp : p w0 = true) (hv : Dt z G v (wiD w0)) : FltI z ws p (upd G D (.lst (ys ++ [v]))) D (i + 1) := by
  have up : ∀ {v : V} {d : PyData}, noL d = true → Dt z G v d → Dt z (upd G D (.lst (ys ++ [v]))) v d := fun n h => Dt.tups (TT.upd h1) _ _ n h
  refine ⟨ys ++ [v], upd_same, ?_, by rw [List.length_append]; exact Nat.succ_le_succ h3⟩
  rw [List.take_add_one, e, List.filter_append]
  show DtAll _ _ _ (((ws.take i).filter p ++ [w0].filter p).map wiD)
  rw [List.filter_cons, hp, List.map_append]
  refine dtall_app (DtAll.tups (TT.upd h1) _ _ (noLs_sub nw fun d m => ?_) h2) (.cons (Dt.tups (TT.upd h1) _ _ (noLs_mem.mp nw _ (List.mem_map.mpr ⟨w0, List.mem_of_getElem? e, rfl⟩)) hv) .nil)
  obtain ⟨w1, hw, rfl⟩ := List.mem_map.mp m
  exact List.mem_map.mpr ⟨w1, List.mem_of_mem_take (List.mem_filter.mp hw).1, rfl⟩
end
theorem wi_dt {z : Addr} {H : Hp} {us : List V} {ws : List (Str × PyData × PyData)} {i : Nat} {y : V} (h : DtAll z H us (ws.map wiD)) (e : us[i]? = some y) : ∃ w, ws[i]? = some w ∧ Dt z H y (wiD w) ∧ ∃ p a b, y = .ref p ∧ H p = some (.tup [.str w.1, a, b]) := by
  obtain ⟨d, h1, h2⟩ := h.at i e
  rw [List.getElem?_map] at h1
  obtain ⟨w, hw, rfl⟩ := Option.map_eq_some_iff.mp h1
  refine ⟨w, hw, h2, ?_⟩
  match h2 with
  | .tup hp (.cons (.str _ _) (.cons ha (.cons hb .nil))) => exact ⟨_, _, _, rfl, hp⟩
section
variable {P : Program} {w : World} {K : PySem.W.Frag} {mg : Str → Option Value} {base : Heap} {fa : Nat → Addr} {fd : Nat → FuncData}
def spFirst (K : PySem.W.Frag) (fa : Nat → Addr) : Sp := fun vs H Q E => ∃ (sv : V) (z : Addr) (Z : List Addr) (st : Ste) (x : Str), vs = [sv, .str x] ∧ StA z Z H sv st ∧ (∀ y ∈ Z, H y ≠ none) ∧
  (x ∉ wls st → EE E fa H (erNoLab x)) ∧ (x ∈ wls st → ∀ v H', Same H H' → StA z Z H' v (firstW st x) → NewD H sv v H' → Q v H')
theorem ok_p_with_first (T : Txt K mg fa fd) : FnOk P w K mg base (L2.CX P w) 7 (fa 165) (fd 165) ["state", "label"] (spFirst K fa) := by
  refine T.F_p_with_first.okX sc_p_with_first (fun vs H Q E h => ?_) (fun cdv A outer s H vs Q E hr h => ?_)
  · obtain ⟨sv, z, Z, st, x, rfl, _⟩ := h
    rfl
  · obtain ⟨sv, z, Z, st, x, rfl, hS, hZ, q1, q2⟩ := h
    obtain ⟨p, d, l, kvs, us, rfl, h1, h2, h3, h4, h5, h6⟩ := id hS.ex
    have hg := hS.g
    have ul : us.length = st.2.length := by
      have := h6.len
      rwa [List.length_map] at this
    have lw := hg.lw
    refine ⟨_, (C8.pss_cut (ps_asg (pv 0) (pg_tup (by rfl) (pgs_cons (pg_name (i := 2) sc_p_with_first.nd rfl (.inl rfl)) (pgs_cons (pg_name (i := 3) sc_p_with_first.nd rfl (.inl rfl)) pgs_nil))))
      (C8.pss_cut (ps_if (pt_cmpR (op_notIn_seqK (K := K) rfl) (pv 1) (pe_call (ok_p_wish_labels T) (hr.mono (by decide)) (by rfl) T.g_p_wish_labels T.F_p_wish_labels.kp T.b_p_wish_labels .nil pass0 (pa_cons (pv 0) pa_nil)) (by rfl)) (pss_one (ps_raise rfl (takes_of rfl rfl rfl rfl) (pmk_oexG (x := "") PySem.F.excBase_LookupError T.eUnknownLabel.g T.eUnknownLabel.iC T.eUnknownLabel.tI (ok_UnknownLabel T) (hr.mono (by decide)) T.bIUnknownLabel pass0 (by rfl) T.eUnknownLabel.gC (pa_cons (pv 1) pa_nil)))) pss_nil)
      (C8.pss_cut (ps_setLc (i := 4) (own := [("wish", 5)]) (g := gName 5) (tt := _) rfl sc_p_with_first.nd rfl rfl (sw_true rfl rfl rfl (by decide +kernel)) (pi_list (pv 3)) (blkOk_by (own := [("wish", 5)]) (N := ["state", "label", "ties", "wishes", "chosen", "wish"]) (sc := defScope s_p_with_first) (by decide +kernel)) (fun _ _ _ _ _ => pg_name (i := 5) sc_p_with_first.nd rfl (Or.inl rfl)) (fun _ _ _ _ _ => pts_one (pt_cmpR op_eq (pe_ix (ix_tupK (K := K) rfl) (pv 5) pe_int (fun _ _ => rfl)) (pv 1) (nomark _))) (fun _ _ _ _ _ => (pv 5)))
      (pss_one (ps_ret (pe_tup (pa_cons (pv 2) (pa_cons (pe_op op_cat (pv 4) (pe_lc (own := [("wish", 5)]) (g := gName 5) (tt := _) rfl sc_p_with_first.nd (pi_list (pv 3)) (blkOk_by (own := [("wish", 5)]) (N := ["state", "label", "ties", "wishes", "chosen", "wish"]) (sc := defScope s_p_with_first) (by decide +kernel)) (fun _ _ _ _ _ => pg_name (i := 5) sc_p_with_first.nd rfl (Or.inl rfl)) (fun _ _ _ _ _ => pts_one (pt_cmpR op_ne (pe_ix (ix_tupK (K := K) rfl) (pv 5) pe_int (fun _ _ => rfl)) (pv 1) (nomark _))) (fun _ _ _ _ _ => (pv 5)))) pa_nil)))))))), ?_⟩
    refine ⟨fun σ G => G = H ∧ σ = [some (.ref p), some (.str x), some (.ref d), some (.ref l), none, none], ⟨_, rfl, p, _, rfl, SqT.of h1, rfl, _, _, rfl, _, _, rfl, rfl, rfl, rfl⟩, fun σ G hM => ?_⟩
    obtain ⟨rfl, rfl⟩ := hM
    refine ⟨fun σ G1 => Same G G1 ∧ x ∈ wls st ∧ σ = [some (.ref p), some (.str x), some (.ref d), some (.ref l), none, none], ?_, fun σ G1 hM => ?_⟩
    · refine ⟨_, rfl, _, rfl, _, st, z, Z, rfl, hS, fun q0 H1 s1 n1 hq0 => ?_⟩
      refine ⟨q0, _, rfl, .inl (SqL.of hq0), rfl, flat_strs _, ?_⟩
      rw [inV_strs]
      by_cases m : x ∈ wls st
      · rw [decide_eq_true m]
        exact ⟨_, rfl, iteF ⟨s1, m, rfl⟩⟩
      · rw [decide_eq_false m]
        exact ⟨_, rfl, iteT ⟨_, rfl, rzG T.eUnknownLabel.g T.nUnknownLabel_label T.eUnknownLabel.tag (OneE.of (q1 m) s1)⟩⟩
    obtain ⟨s1, hx, rfl⟩ := hM
    have q := q2 hx
    -- the chosen one
    refine ⟨fun σ G2 => Same G1 G2 ∧ ∃ D ys y5, G2 D = some (.lst ys) ∧ DtAll z G2 ys ((st.2.filter (isL x)).map wiD) ∧ ys.length ≤ 60 ∧ σ = [some (.ref p), some (.str x), some (.ref d), some (.ref l), some (.ref D), y5], ?_, fun σ G2 hM => ?_⟩
    · refine ⟨_, rfl, l, rfl, ⟨_, SqL.of (s1 _ _ h3)⟩, fun D nD => ?_⟩
      refine lc_list (K := K) (a := l) (xs := us) (fun i G2 => Same G1 G2 ∧ FltI z st.2 (isL x) G2 D i) ⟨same_upd nD, [], upd_same, .nil, Nat.le_refl _⟩ (fun i G2 _ hq => SqL.of (hq.1 _ _ (s1 _ _ h3))) (fun i y G2 hy hq => ?_) (fun G2 hq => ?_)
      · obtain ⟨sG, ys, f1, f2, f3⟩ := hq
        obtain ⟨w0, hw0, hv, pw, a, b, rfl, hpw⟩ := wi_dt (h6.same (s1.trans sG)) hy
        have il := (List.getElem?_eq_some_iff.mp hy).1
        refine ⟨rfl, _, rfl, pw, _, _, _, rfl, rfl, SqT.of hpw, rfl, _, rfl, rfl, _, rfl, ?_⟩
        rw [dec_str]
        refine ite2 (fun e => ?_) (fun e => ?_)
        · exact ⟨_, rfl, ys, f1, small1000 (by omega), fun c o e => (upd_ne (ne_of_none e nD)).trans (sG _ _ e), flt_yes f1 f2 f3 hg.nw hw0 e hv⟩
        · exact ⟨sG, flt_no ⟨ys, f1, f2, f3⟩ hw0 (Bool.eq_false_iff.mpr e)⟩
      · obtain ⟨sG, ys, f1, f2, f3⟩ := hq
        rw [ul, List.take_length] at f2
        exact ⟨sG, D, ys, _, f1, f2, by omega, rfl⟩
    obtain ⟨s2, D, ys, y5, hD, hys, l60, rfl⟩ := hM
    refine ⟨_, rfl, _, rfl, _, rfl, l, rfl, ⟨_, SqL.of ((s1.trans s2) _ _ h3)⟩, fun D2 nD2 => ?_⟩
    have s12 := s1.trans s2
    refine lc_list (K := K) (a := l) (xs := us) (fun i G3 => Same G2 G3 ∧ FltI z st.2 (fun w => !isL x w) G3 D2 i) ⟨same_upd nD2, [], upd_same, .nil, Nat.le_refl _⟩ (fun i G3 _ hq => SqL.of (hq.1 _ _ (s12 _ _ h3))) (fun i y G3 hy hq => ?_) (fun G3 hq => ?_)
    · obtain ⟨sG, ys', f1, f2, f3⟩ := hq
      obtain ⟨w0, hw0, hv, pw, a, b, rfl, hpw⟩ := wi_dt (h6.same (s12.trans sG)) hy
      have il := (List.getElem?_eq_some_iff.mp hy).1
      refine ⟨rfl, _, rfl, pw, _, _, _, rfl, rfl, SqT.of hpw, rfl, _, rfl, rfl, _, rfl, ?_⟩
      rw [dec_str]
      refine ite2 (fun e => ?_) (fun e => ?_)
      · exact ⟨_, rfl, ys', f1, small1000 (by omega), fun c o e => (upd_ne (ne_of_none e nD2)).trans (sG _ _ e), flt_yes f1 f2 f3 hg.nw hw0 e hv⟩
      · exact ⟨sG, flt_no ⟨ys', f1, f2, f3⟩ hw0 (Bool.eq_false_iff.mpr e)⟩
    · obtain ⟨sG, ys', f1, f2, f3⟩ := hq
      rw [ul, List.take_length] at f2
      refine ⟨D, D2, _, _, rfl, rfl, sG _ _ hD, f1, small_line (by omega), fun L nL => ?_⟩
      have sL := same_upd (o := .lst (ys ++ ys')) nL
      refine ⟨two_line, fun t nt => ?_⟩
      have sT := same_upd (o := .tup [V.ref d, .ref L]) nt
      have sF := s12.trans (sG.trans (sL.trans sT))
      refine q _ _ sF ⟨⟨t, d, L, kvs, ys ++ ys', rfl, upd_same, sF _ _ h2, sT _ _ upd_same, fun m => ?_, paired_mono (fun _ _ k => ⟨k.1, k.2.same sF⟩) h5, ?_⟩, firstW_g hg⟩ (fun p0 e0 l0 ev hp0 => by cases ev; rw [upd_same] at hp0; cases hp0; exact .inr ⟨_, _, rfl, h1⟩)
      · cases e : G L with
        | none => exact hZ L m e
        | some o =>
          rw [(s12.trans sG) _ _ e] at nL
          cases nL
      · show DtAll _ _ _ ((st.2.filter (isL x) ++ st.2.filter fun w => !isL x w).map wiD)
        rw [List.map_append]
        exact dtall_app (hys.same (sG.trans (sL.trans sT))) (f2.same (sL.trans sT))
end
/-! ### a dict comprehension over the keys of a dict -/
theorem dc_keys {d : Addr} {od : Obj} {kvs : List (Key × V)} {g : TG} {tt : L2.TT} {tk tv : TE} {vs : List Nat} {σ : L2.St} {H1 : Hp} {D : Addr} {Qd : Hp → Prop} (Pv : Nat → Hp → Prop) (h0 : Pv 0 (upd H1 D (.dK []))) (hf : ∀ i H, Pv i H → H d = some (.frz od (.dK kvs)))
    (hs : ∀ i k v H, kvs[i]? = some (k, v) → Pv i H → g (kV k) (wipe σ vs) H fun σ2 H2 => wipe σ2 vs = wipe σ vs ∧ tt σ2 H2 fun b H3 =>
      if b = true then tk σ2 H3 fun y H4 => tv σ2 H4 fun z H5 => ∃ ks k, y = kV k ∧ H5 D = some (.dK ks) ∧ ks.length < sizeLine ∧ Pv (i + 1) (upd H5 D (.dK (putK ks k z))) else Pv (i + 1) H3) (hd : ∀ H, Pv kvs.length H → Qd H) :
    ∃ W : Nat → Nat → Hp → Prop, (∃ m, W 0 m (upd H1 D (.dK []))) ∧ ∀ i m H, W i m H →
      ((Itk d od kvs).stop i H ∧ Qd H) ∨ ((Itk d od kvs).go i H ∧ ∃ Nx : Hp → Prop, (∀ H', Nx H' → ∃ m', m' < m ∧ W (i + 1) m' H') ∧ ∀ y H', (Itk d od kvs).yld i H y H' → g y (wipe σ vs) H' fun σ2 H2 => wipe σ2 vs = wipe σ vs ∧ tt σ2 H2 fun b H3 =>
        if b = true then tk σ2 H3 fun y H4 => tv σ2 H4 fun z H5 => ∃ ks k, y = kV k ∧ H5 D = some (.dK ks) ∧ ks.length < sizeLine ∧ Nx (upd H5 D (.dK (putK ks k z))) else Nx H3) := by
  refine ⟨fun i m H => m = kvs.length - i ∧ i ≤ kvs.length ∧ Pv i H, ⟨_, rfl, Nat.zero_le _, h0⟩, ?_⟩
  rintro i m H ⟨rfl, hi, p⟩
  by_cases hlt : i < kvs.length
  · refine .inr ⟨⟨hf _ _ p, hlt⟩, Pv (i + 1), fun H' p' => ⟨kvs.length - (i + 1), by omega, rfl, hlt, p'⟩, fun y H' q => ?_⟩
    obtain ⟨e, k, v, hc, ev⟩ := q
    subst e ev
    exact hs i k v _ hc p
  · have e : i = kvs.length := by omega
    subst e
    exact .inl ⟨⟨hf _ _ p, Nat.le_refl _⟩, hd _ p⟩
theorem paired_filter {α β : Type} {R : α → β → Prop} {p : α → Bool} {q : β → Bool} : ∀ {xs : List α} {ys : List β}, (∀ a b, R a b → p a = q b) → Paired R xs ys → Paired R (xs.filter p) (ys.filter q)
  | _, _, _, .nil => .nil
  | _, _, f, .cons (a := a) (b := b) h t => by
    rw [List.filter_cons, List.filter_cons, f a b h]
    cases q b with
    | true => exact .cons h (paired_filter f t)
    | false => exact paired_filter f t
abbrev noK (x : Str) (kv : Key × V) : Bool := !decide (kv.1 = .inr x)
theorem valV_none {κ : Type} [DecidableEq κ] {kvs : List (κ × V)} {k : κ} (h : k ∉ kvs.map (·.1)) : valV kvs k = none := by
  induction kvs with
  | nil => rfl
  | cons q r ih =>
    rw [List.map_cons] at h
    rw [valV_neg (fun e => h (by rw [e]; exact .head _))]
    exact ih fun m => h (.tail _ m)
theorem fresh_key {kvs : List (Key × V)} (nk : (kvs.map (·.1)).Nodup) {i : Nat} {kv : Key × V} (e : kvs[i]? = some kv) (p : Key × V → Bool) : kv.1 ∉ ((kvs.take i).filter p).map (·.1) := fun m => by
  obtain ⟨q, hq, eq⟩ := List.mem_map.mp m
  have hq := (List.mem_filter.mp hq).1
  obtain ⟨j, ej⟩ := List.mem_iff_getElem?.mp hq
  have hj := (List.getElem?_eq_some_iff.mp ej).1
  rw [List.length_take] at hj
  rw [List.getElem?_take_of_lt (by omega)] at ej
  obtain ⟨h1, h2⟩ := List.getElem?_eq_some_iff.mp ej
  obtain ⟨h3, h4⟩ := List.getElem?_eq_some_iff.mp e
  have := List.pairwise_iff_getElem.mp nk j i (by rw [List.length_map]; exact h1) (by rw [List.length_map]; exact h3) (by omega)
  rw [List.getElem_map, List.getElem_map, h2, h4] at this
  exact this eq
section
variable {P : Program} {w : World} {K : PySem.W.Frag} {mg : Str → Option Value} {base : Heap} {fa : Nat → Addr} {fd : Nat → FuncData}
def spDrop (K : PySem.W.Frag) (fa : Nat → Addr) : Sp := fun vs H Q E => ∃ (sv : V) (z : Addr) (Z : List Addr) (st : Ste) (x : Str), vs = [sv, .str x] ∧ StA z Z H sv st ∧ (∀ y ∈ Z, H y ≠ none) ∧
  (x ∉ tls st ++ wls st → EE E fa H (erNoLab x)) ∧ (x ∈ tls st ++ wls st → ∀ v H', Same H H' → StA z Z H' v (dropS st x) → NewD H sv v H' → Q v H')
theorem ok_p_dropped (T : Txt K mg fa fd) : FnOk P w K mg base (L2.CX P w) 7 (fa 166) (fd 166) ["state", "label"] (spDrop K fa) := by
  refine T.F_p_dropped.okX sc_p_dropped (fun vs H Q E h => ?_) (fun cdv A outer s H vs Q E hr h => ?_)
  · obtain ⟨sv, z, Z, st, x, rfl, _⟩ := h
    rfl
  · obtain ⟨sv, z, Z, st, x, rfl, hS, hZ, q1, q2⟩ := h
    obtain ⟨p, d, l, kvs, us, rfl, h1, h2, h3, h4, h5, h6⟩ := id hS.ex
    have hg := hS.g
    have ul : us.length = st.2.length := by
      have := h6.len
      rwa [List.length_map] at this
    have lw := hg.lw
    have lt := hg.ln
    have kl : kvs.length = st.1.length := Paired.length h5
    refine ⟨_, (C8.pss_cut (ps_asg (pv 0) (pg_tup (by rfl) (pgs_cons (pg_name (i := 2) sc_p_dropped.nd rfl (.inr rfl)) (pgs_cons (pg_name (i := 3) sc_p_dropped.nd rfl (.inl rfl)) pgs_nil))))
      (C8.pss_cut (ps_if (PW.pt (pw_and (pt_cmpR (op_notIn_seqK (K := K) rfl) (pv 1) (pe_call (ok_p_tie_labels T) (hr.mono (by decide)) (by rfl) T.g_p_tie_labels T.F_p_tie_labels.kp T.b_p_tie_labels .nil pass0 (pa_cons (pv 0) pa_nil)) (by rfl)) (pw_and1 (pt_cmpR (op_notIn_seqK (K := K) rfl) (pv 1) (pe_call (ok_p_wish_labels T) (hr.mono (by decide)) (by rfl) T.g_p_wish_labels T.F_p_wish_labels.kp T.b_p_wish_labels .nil pass0 (pa_cons (pv 0) pa_nil)) (by rfl))))) (pss_one (ps_raise rfl (takes_of rfl rfl rfl rfl) (pmk_oexG (x := "") PySem.F.excBase_LookupError T.eUnknownLabel.g T.eUnknownLabel.iC T.eUnknownLabel.tI (ok_UnknownLabel T) (hr.mono (by decide)) T.bIUnknownLabel pass0 (by rfl) T.eUnknownLabel.gC (pa_cons (pv 1) pa_nil)))) pss_nil)
      (pss_one (ps_ret (pe_tup (pa_cons (pe_lock (pe_dc (own := [("one", 5)]) (g := gName 5) (tt := _) rfl sc_p_dropped.nd (pi_keys (pv 2)) (blkOk_by (own := [("one", 5)]) (N := ["state", "label", "ties", "wishes", "wish", "one"]) (sc := defScope s_p_dropped) (by decide +kernel)) (fun _ _ _ _ _ => pg_name (i := 5) sc_p_dropped.nd rfl (Or.inl rfl)) (fun _ _ _ _ _ => pts_one (pt_cmpR op_ne (pv 5) (pv 1) (nomark _))) (fun _ _ _ _ _ => (pv 5)) (fun _ _ _ _ _ => (pe_dget (Nat.lt_of_le_of_lt (Nat.add_le_add_left (by decide) _) hr.units) (pv 2) (pv 5) (fun _ _ => rfl))))) (pa_cons (pe_lc (own := [("wish", 4)]) (g := gName 4) (tt := _) rfl sc_p_dropped.nd (pi_list (pv 3)) (blkOk_by (own := [("wish", 4)]) (N := ["state", "label", "ties", "wishes", "wish", "one"]) (sc := defScope s_p_dropped) (by decide +kernel)) (fun _ _ _ _ _ => pg_name (i := 4) sc_p_dropped.nd rfl (Or.inl rfl)) (fun _ _ _ _ _ => pts_one (pt_cmpR op_ne (pe_ix (ix_tupK (K := K) rfl) (pv 4) pe_int (fun _ _ => rfl)) (pv 1) (nomark _))) (fun _ _ _ _ _ => (pv 4))) pa_nil))))))), ?_⟩
    refine ⟨fun σ G => G = H ∧ σ = [some (.ref p), some (.str x), some (.ref d), some (.ref l), none, none], ⟨_, rfl, p, _, rfl, SqT.of h1, rfl, _, _, rfl, _, _, rfl, rfl, rfl, rfl⟩, fun σ G hM => ?_⟩
    obtain ⟨rfl, rfl⟩ := hM
    refine ⟨fun σ G1 => Same G G1 ∧ x ∈ tls st ++ wls st ∧ σ = [some (.ref p), some (.str x), some (.ref d), some (.ref l), none, none], ?_, fun σ G1 hM => ?_⟩
    · refine ⟨_, rfl, _, rfl, _, st, z, Z, rfl, hS, fun q0 ls H1 s1 n1 hq0 pm sr => ?_⟩
      refine ⟨q0, _, rfl, .inl (SqL.of hq0), rfl, flat_strs _, ?_⟩
      rw [inV_strs]
      by_cases m : x ∈ ls
      · rw [decide_eq_true m]
        exact ⟨_, rfl, iteF (iteF ⟨s1, List.mem_append_left _ (pm.mem_iff.mp m), rfl⟩)⟩
      · rw [decide_eq_false m]
        refine ⟨_, rfl, iteT ?_⟩
        refine ⟨_, rfl, _, rfl, _, st, z, Z, rfl, hS.same s1, fun q5 H2 s2 n2 hq5 => ?_⟩
        refine ⟨q5, _, rfl, .inl (SqL.of hq5), rfl, flat_strs _, ?_⟩
        rw [inV_strs]
        by_cases m2 : x ∈ wls st
        · rw [decide_eq_true m2]
          exact ⟨_, rfl, iteF ⟨s1.trans s2, List.mem_append_right _ m2, rfl⟩⟩
        · rw [decide_eq_false m2]
          refine ⟨_, rfl, iteT ⟨_, rfl, rzG T.eUnknownLabel.g T.nUnknownLabel_label T.eUnknownLabel.tag (OneE.of (q1 fun z => ?_) (s1.trans s2))⟩⟩
          rcases List.mem_append.mp z with z | z
          · exact m (pm.mem_iff.mpr z)
          · exact m2 z
    obtain ⟨s1, hx, rfl⟩ := hM
    have q := q2 hx
    have hkeys := pair_keys h5
    have nk : (kvs.map (·.1)).Nodup := by
      rw [hkeys]
      exact nodup_mapB _ (fun a b e => by injection e) hg.nd
    have hd1 := s1 _ _ h2
    have hl1 := s1 _ _ h3
    have h5' : Paired (fun (kv : Key × V) (t : Str × PyData) => kv.1 = (.inr t.1 : Key) ∧ Dt z G1 kv.2 t.2) kvs st.1 := paired_mono (fun _ _ q => ⟨q.1, q.2.same s1⟩) h5
    have h6' := h6.same s1
    refine ⟨d, _, hd1, trivial, fun od => ?_⟩
    refine ⟨_, rfl, d, od, rfl, .inl ⟨kvs, upd_same, fun D nD => ?_⟩⟩
    have nDd : D ≠ d := fun e => by rw [e, upd_same] at nD; cases nD
    have nDG : G1 D = none := by
      rw [upd_ne nDd] at nD
      exact nD
    refine dc_keys (fun i G2 => G2 d = some (.frz od (.dK kvs)) ∧ Ex d G1 G2 ∧ G2 D = some (.dK ((kvs.take i).filter (noK x)))) ⟨?_, ?_, upd_same⟩ (fun i G2 h => h.1) (fun i k vv G2 hkv hp => ?_) (fun G2 hp => ?_)
    · rw [upd_ne nDd.symm]
      exact upd_same
    · exact fun c o e n => by
        rw [upd_ne (ne_of_none e nDG), upd_ne n]
        exact e
    · obtain ⟨hf, ex, hD⟩ := hp
      have il := (List.getElem?_eq_some_iff.mp hkv).1
      obtain ⟨y, rfl⟩ : ∃ y, k = .inr y := by
        have e1 : (kvs.map (·.1))[i]? = some k := by rw [List.getElem?_map, hkv]; rfl
        rw [hkeys, List.getElem?_map] at e1
        obtain ⟨y, _, hy⟩ := Option.map_eq_some_iff.mp e1
        exact ⟨y, hy.symm⟩
      have hv := val_nodup nk _ (List.mem_of_getElem? hkv)
      refine ⟨rfl, _, rfl, _, rfl, rfl, _, rfl, ?_⟩
      have e0 : decide (kV (Sum.inr y : Key) = V.str x) = decide ((Sum.inr y : Key) = .inr x) := decide_eq_decide.mpr ⟨fun e => by
        have e : V.str y = V.str x := e
        injection e with e
        rw [e], fun e => by
        injection e with e
        show V.str y = V.str x
        rw [e]⟩
      rw [e0]
      have tk : (kvs.take (i + 1)).filter (noK x) = (kvs.take i).filter (noK x) ++ [((.inr y : Key), vv)].filter (noK x) := by
        rw [List.take_add_one, hkv, List.filter_append]
        rfl
      refine ite2 (fun e => ?_) (fun e => ?_)
      · rw [tk, List.filter_cons, show noK x ((.inr y : Key), vv) = true from e]
        refine ⟨_, rfl, _, rfl, _, rfl, d, vv, rfl, .inl ⟨kvs, .inr y, .inr ⟨od, hf⟩, rfl, hv.symm⟩, _, .inr y, rfl, hD, small1000 ?_, (upd_ne nDd.symm).trans hf, ex.upd nDG, ?_⟩
        · have := List.length_filter_le (noK x) (kvs.take i)
          rw [List.length_take] at this
          omega
        · rw [upd_same, putK_new vv (valV_none (fresh_key nk hkv _))]
          rfl
      · rw [tk, List.filter_cons, show noK x ((.inr y : Key), vv) = false from Bool.eq_false_iff.mpr e]
        refine ⟨hf, ex, ?_⟩
        rw [hD]
        show _ = some (HO.dK (_ ++ []))
        rw [List.append_nil]
    · obtain ⟨hf, ex, hD⟩ := hp
      rw [List.take_length] at hD
      refine ⟨hf, ?_⟩
      have s2 : Same G1 (upd G2 d (.dK kvs)) := ex.back hd1
      have hD3 : upd G2 d (.dK kvs) D = some (.dK (kvs.filter (noK x))) := (upd_ne nDd).trans hD
      generalize upd G2 d (.dK kvs) = G3 at s2 hD3 ⊢
      refine ⟨_, rfl, l, rfl, ⟨_, SqL.of (s2 _ _ hl1)⟩, fun D2 nD2 => ?_⟩
      refine lc_list (K := K) (a := l) (xs := us) (fun i G4 => Same G3 G4 ∧ FltI z st.2 (fun w => !isL x w) G4 D2 i) ⟨same_upd nD2, [], upd_same, .nil, Nat.le_refl _⟩ (fun i G4 _ hq => SqL.of (hq.1 _ _ (s2 _ _ hl1))) (fun i y G4 hy hq => ?_) (fun G4 hq => ?_)
      · obtain ⟨sG, ys', f1, f2, f3⟩ := hq
        obtain ⟨w0, hw0, hv, pw, a, b, rfl, hpw⟩ := wi_dt (h6'.same (s2.trans sG)) hy
        have il := (List.getElem?_eq_some_iff.mp hy).1
        refine ⟨rfl, _, rfl, pw, _, _, _, rfl, rfl, SqT.of hpw, rfl, _, rfl, rfl, _, rfl, ?_⟩
        rw [dec_str]
        refine ite2 (fun e => ?_) (fun e => ?_)
        · exact ⟨_, rfl, ys', f1, small1000 (by omega), fun c o e => (upd_ne (ne_of_none e nD2)).trans (sG _ _ e), flt_yes f1 f2 f3 hg.nw hw0 e hv⟩
        · exact ⟨sG, flt_no ⟨ys', f1, f2, f3⟩ hw0 (Bool.eq_false_iff.mpr e)⟩
      · obtain ⟨sG, ys', f1, f2, f3⟩ := hq
        rw [ul, List.take_length] at f2
        refine ⟨two_line, fun t nt => ?_⟩
        have sT := same_upd (o := .tup [V.ref D, .ref D2]) nt
        have sF := s1.trans (s2.trans (sG.trans sT))
        refine q _ _ sF ⟨⟨t, D, D2, _, ys', rfl, upd_same, (sG.trans sT) _ _ hD3, sT _ _ f1, fun m => ?_, ?_, f2.same sT⟩, dropS_g hg⟩ (fun p0 e0 l0 ev hp0 => by cases ev; rw [upd_same] at hp0; cases hp0; exact .inl (none_of s1 nDG))
        · cases e : G D2 with
          | none => exact hZ D2 m e
          | some o =>
            rw [(s1.trans s2) _ _ e] at nD2
            cases nD2
        · refine paired_filter (fun a b ⟨e, _⟩ => ?_) (paired_mono (fun _ _ k => ⟨k.1, k.2.same (s2.trans (sG.trans sT))⟩) h5')
          show (!decide (a.1 = .inr x)) = !decide (b.1 = x)
          rw [e]
          congr 1
          exact decide_eq_decide.mpr ⟨fun e => by injection e, fun e => by rw [e]⟩
end
/-- a command -/
inductive Cm
  | tie (x : Str) (d : PyData)
  | wish (x : Str) (t g : PyData)
  | first (x : Str)
  | drop (x : Str)
def Cm.due (ns : List Str) (room : Int) (st : Ste) : Cm → Option Er
  | .tie x d => tieDue ns room st x d
  | .wish x t g => wishDue ns st x t g
  | .first x => if x ∈ wls st then none else some (erNoLab x)
  | .drop x => if x ∈ tls st ++ wls st then none else some (erNoLab x)
def Cm.go (st : Ste) : Cm → Ste
  | .tie x d => withT st x d
  | .wish x t g => withW st x t g
  | .first x => firstW st x
  | .drop x => dropS st x
def CmC (K : PySem.W.Frag) (z : Addr) (H : Hp) (c : Addr) : Cm → Prop
  | .tie x d => ∃ dv, SqT K H c [.str "tie", .str x, dv] ∧ Dt z H dv d ∧ x.length ≤ 1000
  | .wish x t g => ∃ vt vg, SqT K H c [.str "wish", .str x, vt, vg] ∧ Dt z H vt t ∧ Dt z H vg g ∧ x.length ≤ 1000
  | .first x => SqT K H c [.str "first", .str x] ∧ x.length ≤ 1000
  | .drop x => SqT K H c [.str "drop", .str x] ∧ x.length ≤ 1000
theorem CmC.same {K : PySem.W.Frag} {z : Addr} {H H' : Hp} {c : Addr} (s : Same H H') : ∀ {m : Cm}, CmC K z H c m → CmC K z H' c m
  | .tie _ _, ⟨dv, h1, h2, h3⟩ => ⟨dv, SqT_sm s h1, h2.same s, h3⟩
  | .wish _ _ _, ⟨vt, vg, h1, h2, h3, h4⟩ => ⟨vt, vg, SqT_sm s h1, h2.same s, h3.same s, h4⟩
  | .first _, ⟨h1, h2⟩ => ⟨SqT_sm s h1, h2⟩
  | .drop _, ⟨h1, h2⟩ => ⟨SqT_sm s h1, h2⟩
section
variable {P : Program} {w : World} {K : PySem.W.Frag} {mg : Str → Option Value} {base : Heap} {fa : Nat → Addr} {fd : Nat → FuncData}
def spCarC (K : PySem.W.Frag) (fa : Nat → Addr) : Sp := fun vs H Q E => ∃ (sv : V) (N c z : Addr) (Z : List Addr) (room : Int) (st : Ste) (ns : List Str) (m : Cm), vs = [sv, .ref N, .int room, .ref c] ∧ StA z Z H sv st ∧ SqB K H N (ns.map V.str) ∧ CmC K z H c m ∧ st.1.length < 60 ∧ (∀ y ∈ Z, H y ≠ none) ∧
  (∀ r, m.due ns room st = some r → EE E fa H r) ∧ (m.due ns room st = none → ∀ v H', Same H H' → StA z Z H' v (m.go st) → NewD H sv v H' → Q v H')
theorem ok_p_carried_out (T : Txt K mg fa fd) : FnOk P w K mg base (L2.CX P w) 8 (fa 167) (fd 167) ["state", "names", "limit", "command"] (spCarC K fa) := by
  refine T.F_p_carried_out.okX sc_p_carried_out (fun vs H Q E h => ?_) (fun cdv A outer s H vs Q E hr h => ?_)
  · obtain ⟨sv, N, c, z, Z, room, st, ns, m, rfl, _⟩ := h
    rfl
  · obtain ⟨sv, N, c, z, Z, room, st, ns, m, rfl, hs, hn, hc, hl, hz, q1, q2⟩ := h
    refine ⟨_, (C8.pss_cut (ps_set (i := 4) sc_p_carried_out.nd rfl (.inl rfl) (pe_ix ix_tup (pv 3) pe_int (fun _ _ => rfl)))
      (C8.pss_cut (ps_if (pt_cmpR op_eq (pv 4) pe_str (nomark _)) (pss_one (ps_ret (pe_call (ok_p_with_tie T) (hr.mono (by decide)) (by rfl) T.g_p_with_tie T.F_p_with_tie.kp T.b_p_with_tie .nil (passes_call (takes_of rfl rfl rfl rfl) (fun _ _ _ _ h => h)) (pa_cons (pv 0) (pa_cons (pv 1) (pa_cons (pv 2) (pa_cons (pe_ix ix_tup (pv 3) pe_int (fun _ _ => rfl)) (pa_cons (pe_ix ix_tup (pv 3) pe_int (fun _ _ => rfl)) pa_nil)))))))) pss_nil)
      (C8.pss_cut (ps_if (pt_cmpR op_eq (pv 4) pe_str (nomark _)) (pss_one (ps_ret (pe_call (ok_p_with_wish T) (hr.mono (by decide)) (by rfl) T.g_p_with_wish T.F_p_with_wish.kp T.b_p_with_wish .nil (passes_call (takes_of rfl rfl rfl rfl) (fun _ _ _ _ h => h)) (pa_cons (pv 0) (pa_cons (pv 1) (pa_cons (pe_slice sl_tup (pv 3) (po_some pe_int) po_none) pa_nil)))))) pss_nil)
      (C8.pss_cut (ps_if (pt_cmpR op_eq (pv 4) pe_str (nomark _)) (pss_one (ps_ret (pe_call (ok_p_with_first T) (hr.mono (by decide)) (by rfl) T.g_p_with_first T.F_p_with_first.kp T.b_p_with_first .nil (passes_call (takes_of rfl rfl rfl rfl) (fun _ _ _ _ h => h)) (pa_cons (pv 0) (pa_cons (pe_ix ix_tup (pv 3) pe_int (fun _ _ => rfl)) pa_nil))))) pss_nil)
      (pss_one (ps_ret (pe_call (ok_p_dropped T) (hr.mono (by decide)) (by rfl) T.g_p_dropped T.F_p_dropped.kp T.b_p_dropped .nil (passes_call (takes_of rfl rfl rfl rfl) (fun _ _ _ _ h => h)) (pa_cons (pv 0) (pa_cons (pe_ix ix_tup (pv 3) pe_int (fun _ _ => rfl)) pa_nil))))))))), ?_⟩
    cases m with
    | tie x d =>
      obtain ⟨dv, hc, hd, hx⟩ := hc
      refine ⟨fun σ G => G = H ∧ σ = [some sv, some (.ref N), some (.int room), some (.ref c), some (.str "tie")], ⟨_, rfl, c, _, _, _, rfl, rfl, hc, rfl, rfl, rfl⟩, fun σ G hM => ?_⟩
      obtain ⟨rfl, rfl⟩ := hM
      refine ⟨fun _ _ => False, ⟨_, rfl, rfl, _, rfl, iteT ?_⟩, fun σ G hM => hM.elim⟩
      exact ⟨_, rfl, _, rfl, _, rfl, _, rfl, c, _, _, _, rfl, rfl, hc, rfl, _, rfl, c, _, _, _, rfl, rfl, hc, rfl, sv, dv, N, z, Z, room, st, ns, x, d, rfl, ⟨hs, hn, hd, hx, hl⟩, q1, q2⟩
    | wish x t g =>
      obtain ⟨vt, vg, hc, ht, hg, hx⟩ := hc
      refine ⟨fun σ G => G = H ∧ σ = [some sv, some (.ref N), some (.int room), some (.ref c), some (.str "wish")], ⟨_, rfl, c, _, _, _, rfl, rfl, hc, rfl, rfl, rfl⟩, fun σ G hM => ?_⟩
      obtain ⟨rfl, rfl⟩ := hM
      refine ⟨fun σ G2 => G2 = G ∧ σ = [some sv, some (.ref N), some (.int room), some (.ref c), some (.str "wish")], ⟨_, rfl, rfl, _, rfl, iteFq (by decide +kernel) ⟨rfl, rfl⟩⟩, fun σ G2 hM => ?_⟩
      obtain ⟨rfl, rfl⟩ := hM
      refine ⟨fun _ _ => False, ⟨_, rfl, rfl, _, rfl, iteT ?_⟩, fun σ G hM => hM.elim⟩
      have ec : cutV [V.str "wish", .str x, vt, vg] (some 1) none = [.str x, vt, vg] := rfl
      refine ⟨_, rfl, _, rfl, _, rfl, _, rfl, c, _, rfl, hc, fun h => absurd h.1 (by show HT.sIx 4 0 (some 1) ≠ 0; decide), fun p np => ?_⟩
      rw [ec]
      have s1 := same_upd (o := .tup [V.str x, vt, vg]) np
      exact ⟨sv, vt, vg, N, p, z, Z, st, ns, x, t, g, rfl, (WishC.mk (hs.same s1) (hn.sm s1) upd_same (ht.same s1) (hg.same s1) hx (fun y hy e => by
        cases e2 : G2 y with
        | none => exact hz y hy e2
        | some o =>
          rw [s1 _ _ e2] at e
          cases e)), fun r hr2 => (q1 r hr2).of s1, fun hn2 v H' s' hv hnd => q2 hn2 v H' (s1.trans s') hv (hnd.back hs s1)⟩
    | first x =>
      obtain ⟨hc, hx⟩ := hc
      refine ⟨fun σ G => G = H ∧ σ = [some sv, some (.ref N), some (.int room), some (.ref c), some (.str "first")], ⟨_, rfl, c, _, _, _, rfl, rfl, hc, rfl, rfl, rfl⟩, fun σ G hM => ?_⟩
      obtain ⟨rfl, rfl⟩ := hM
      refine ⟨fun σ G2 => G2 = G ∧ σ = [some sv, some (.ref N), some (.int room), some (.ref c), some (.str "first")], ⟨_, rfl, rfl, _, rfl, iteFq (by decide +kernel) ⟨rfl, rfl⟩⟩, fun σ G2 hM => ?_⟩
      obtain ⟨rfl, rfl⟩ := hM
      refine ⟨fun σ G3 => G3 = G2 ∧ σ = [some sv, some (.ref N), some (.int room), some (.ref c), some (.str "first")], ⟨_, rfl, rfl, _, rfl, iteFq (by decide +kernel) ⟨rfl, rfl⟩⟩, fun σ G3 hM => ?_⟩
      obtain ⟨rfl, rfl⟩ := hM
      refine ⟨fun _ _ => False, ⟨_, rfl, rfl, _, rfl, iteT ?_⟩, fun σ G hM => hM.elim⟩
      exact ⟨_, rfl, _, rfl, c, _, _, _, rfl, rfl, hc, rfl, sv, z, Z, st, x, rfl, hs, hz, fun m => q1 _ (if_neg m), fun m v H' s' hv hnd => q2 (if_pos m) v H' s' hv hnd⟩
    | drop x =>
      obtain ⟨hc, hx⟩ := hc
      refine ⟨fun σ G => G = H ∧ σ = [some sv, some (.ref N), some (.int room), some (.ref c), some (.str "drop")], ⟨_, rfl, c, _, _, _, rfl, rfl, hc, rfl, rfl, rfl⟩, fun σ G hM => ?_⟩
      obtain ⟨rfl, rfl⟩ := hM
      refine ⟨fun σ G2 => G2 = G ∧ σ = [some sv, some (.ref N), some (.int room), some (.ref c), some (.str "drop")], ⟨_, rfl, rfl, _, rfl, iteFq (by decide +kernel) ⟨rfl, rfl⟩⟩, fun σ G2 hM => ?_⟩
      obtain ⟨rfl, rfl⟩ := hM
      refine ⟨fun σ G3 => G3 = G2 ∧ σ = [some sv, some (.ref N), some (.int room), some (.ref c), some (.str "drop")], ⟨_, rfl, rfl, _, rfl, iteFq (by decide +kernel) ⟨rfl, rfl⟩⟩, fun σ G3 hM => ?_⟩
      obtain ⟨rfl, rfl⟩ := hM
      refine ⟨fun σ G4 => G4 = G3 ∧ σ = [some sv, some (.ref N), some (.int room), some (.ref c), some (.str "drop")], ⟨_, rfl, rfl, _, rfl, iteFq (by decide +kernel) ⟨rfl, rfl⟩⟩, fun σ G4 hM => ?_⟩
      obtain ⟨rfl, rfl⟩ := hM
      exact ⟨_, rfl, _, rfl, c, _, _, _, rfl, rfl, hc, rfl, sv, z, Z, st, x, rfl, hs, hz, fun m => q1 _ (if_neg m), fun m v H' s' hv hnd => q2 (if_pos m) v H' s' hv hnd⟩
end
/-- all but some objects stay -/
def Kp (S : List Addr) (H H' : Hp) : Prop := ∀ x o, H x = some o → x ∉ S → H' x = some o
theorem Kp.of {S : List Addr} {H H' : Hp} (s : Same H H') : Kp S H H' := fun x o e _ => s x o e
theorem Kp.trans {S : List Addr} {H H1 H2 : Hp} (h : Kp S H H1) (k : Kp S H1 H2) : Kp S H H2 := fun x o e n => k x o (h x o e n) n
theorem Kp.upd {S : List Addr} {H : Hp} {a : Addr} {o : HO} (m : a ∈ S) : Kp S H (L2.upd H a o) := fun x o' e n => by
  rw [upd_ne (fun z => n (by rw [z]; exact m))]
  exact e
theorem Kp.mono {S S' : List Addr} {H H' : Hp} (h : Kp S H H') (i : ∀ x ∈ S, x ∈ S') : Kp S' H H' := fun x o e n => h x o e fun m => n (i x m)
/-- what may change: instances, and lists that are told of -/
def MutS (S Z : List Addr) (H : Hp) : Prop := ∀ x ∈ S, (∃ C dx fs, H x = some (.ins C dx fs)) ∨ (x ∈ Z ∧ ∃ xs, H x = some (.lst xs))
theorem MutS.tt {S Z : List Addr} {H H' : Hp} (m : MutS S Z H) (k : Kp S H H') : TT H H' := fun p xs e => k p _ e fun z => by
  rcases m p z with ⟨C, dx, fs, e2⟩ | ⟨_, ys, e2⟩
  · rw [e] at e2
    cases e2
  · rw [e] at e2
    cases e2
theorem MutS.dk {S Z : List Addr} {H H' : Hp} (m : MutS S Z H) (k : Kp S H H') {d : Addr} {kvs : List (Key × V)} (e : H d = some (.dK kvs)) : H' d = some (.dK kvs) := k d _ e fun z => by
  rcases m d z with ⟨C, dx, fs, e2⟩ | ⟨_, ys, e2⟩
  · rw [e] at e2
    cases e2
  · rw [e] at e2
    cases e2
theorem StA.kp {z : Addr} {Z S : List Addr} {H H' : Hp} {v : V} {st : Ste} (h : StA z Z H v st) (m : MutS S Z H) (k : Kp S H H') : StA z Z H' v st := by
  obtain ⟨p, d, l, kvs, us, e, h1, h2, h3, h4, h5, h6⟩ := h.ex
  have tt := m.tt k
  have hl : H' l = some (.lst us) := k l _ h3 fun q => by
    rcases m l q with ⟨C, dx, fs, e2⟩ | ⟨q2, _⟩
    · rw [h3] at e2
      cases e2
    · exact h4 q2
  refine ⟨⟨p, d, l, kvs, us, e, tt _ _ h1, m.dk k h2, hl, h4, ?_, DtAll.tups tt _ _ h.g.nw h6⟩, h.g⟩
  have go : ∀ {kvs : List (Key × V)} {ts : List (Str × PyData)}, (∀ t ∈ ts, noL t.2 = true) → Paired (fun (kv : Key × V) (t : Str × PyData) => kv.1 = (.inr t.1 : Key) ∧ Dt z H kv.2 t.2) kvs ts → Paired (fun (kv : Key × V) (t : Str × PyData) => kv.1 = (.inr t.1 : Key) ∧ Dt z H' kv.2 t.2) kvs ts := by
    intro kvs ts n q
    induction q with
    | nil => exact .nil
    | cons a _ ih => exact .cons ⟨a.1, Dt.tups tt _ _ (n _ List.mem_cons_self) a.2⟩ (ih fun t ht => n t (List.mem_cons_of_mem _ ht))
  exact go h.g.nt h5
theorem StA.wider {z : Addr} {Z Z' : List Addr} {H : Hp} {v : V} {st : Ste} (h : StA z Z H v st) (k : ∀ l us, H l = some (.lst us) → l ∉ Z → l ∉ Z') : StA z Z' H v st := by
  obtain ⟨p, d, l, kvs, us, e, h1, h2, h3, h4, h5, h6⟩ := h.ex
  exact ⟨⟨p, d, l, kvs, us, e, h1, h2, h3, k l us h3 h4, h5, h6⟩, h.g⟩
/-- what a board has -/
structure Brd where
  dx : Addr
  un : Addr
  P : Addr
  Cm : Addr
  F : Addr
  sv : V
  ms : List Str
  pv : List V
  cv : List V
  room : Int
  st : Ste
  past : List Ste
  coming : List Ste
def bF (B : Brd) (wk : Bool) : List (Str × V) := [("unknowns", .ref B.un), ("room", .int B.room), ("state", B.sv), ("past", .ref B.P), ("coming", .ref B.Cm), ("figures", .ref B.F), ("computed", .int 0), ("working", .bl wk)]
structure BdA (K : PySem.W.Frag) (C z : Addr) (Z : List Addr) (H : Hp) (b : Addr) (B : Brd) (wk : Bool) : Prop where
  ins : H b = some (.ins C B.dx (bF B wk))
  un : H B.un = some (.tup (B.ms.map V.str))
  st : StA z (B.P :: B.Cm :: Z) H B.sv B.st
  hP : H B.P = some (.lst B.pv)
  hC : H B.Cm = some (.lst B.cv)
  hF : H B.F = some (.dK [])
  past : Paired (StA z (B.P :: B.Cm :: Z) H) B.pv B.past
  coming : Paired (StA z (B.P :: B.Cm :: Z) H) B.cv B.coming
  ne : B.P ≠ B.Cm
  nP : B.P ∉ Z
  nC : B.Cm ∉ Z
  ml : B.ms.length ≤ 900
  mx : ∀ x ∈ B.ms, x.length ≤ 1000
  pl : B.past.length ≤ 900
  cl : B.coming.length ≤ 900
section
variable {B : Brd} {wk : Bool}
theorem bf_un : (bF B wk).lookup ("unknowns" : Str) = some (.ref B.un) := rfl
theorem bf_room : (bF B wk).lookup ("room" : Str) = some (.int B.room) := rfl
theorem bf_state : (bF B wk).lookup ("state" : Str) = some B.sv := rfl
theorem bf_past : (bF B wk).lookup ("past" : Str) = some (.ref B.P) := rfl
theorem bf_coming : (bF B wk).lookup ("coming" : Str) = some (.ref B.Cm) := rfl
theorem bf_figures : (bF B wk).lookup ("figures" : Str) = some (.ref B.F) := rfl
theorem bf_computed : (bF B wk).lookup ("computed" : Str) = some (.int 0) := rfl
theorem put_room {r : Int} : putF "room" (.int r) (bF B wk) = bF { B with room := r } wk := rfl
theorem put_state {v : V} : putF "state" v (bF B wk) = bF { B with sv := v } wk := rfl
theorem put_coming {c : Addr} : putF "coming" (.ref c) (bF B wk) = bF { B with Cm := c } wk := rfl
theorem put_working {k : Bool} : putF "working" (.bl k) (bF B wk) = bF B k := rfl
end
def Oth (b : Addr) (H G : Hp) : Prop := ∀ x o, x ≠ b → H x = some o → G x = some o
theorem Oth.refl {b : Addr} {H : Hp} : Oth b H H := fun _ _ _ e => e
theorem Oth.same {b : Addr} {H G G' : Hp} (h : Oth b H G) (s : Same G G') : Oth b H G' := fun x o n e => s _ _ (h x o n e)
theorem Oth.fld {b : Addr} {H G : Hp} {o : HO} (h : Oth b H G) : Oth b H (upd G b o) := fun x o' n e => (upd_ne n).trans (h x o' n e)
theorem none_back {H G : Hp} {b p : Addr} (h : Oth b H G) (n : p ≠ b) (e : G p = none) : H p = none := by
  cases z : H p with
  | none => rfl
  | some o => rw [h p o n z] at e; cases e
section
variable {P : Program} {w : World} {K : PySem.W.Frag} {mg : Str → Option Value} {base : Heap} {fa : Nat → Addr} {fd : Nat → FuncData}
/-- names for a board, a number for its limit -/
structure BdI (K : PySem.W.Frag) (Z : List Addr) (H : Hp) (L : Addr) (ns : List Str) (room : Int) : Prop where
  hL : SqL K H L (ns.map V.str)
  fb : firstBad 0 [] ns = none
  nd : ns.Nodup
  sz : ns.length < 60
  lx : ∀ x ∈ ns, x.length ≤ 1000
  lo : 1 ≤ room
  hi : room ≤ 40
  zs : ∀ y ∈ Z, H y ≠ none
def spBI (K : PySem.W.Frag) (C : Addr) : Sp := fun vs H Q _ => ∃ (b L z : Addr) (Z : List Addr) (ns : List Str) (room : Int) (dx : Addr), vs = [.ref b, .ref L, .int room] ∧ H b = some (.ins C dx []) ∧ BdI K Z H L ns room ∧
  ∀ H' B, Oth b H H' → BdA K C z Z H' b B false → B.room = room → B.st = ([], []) → B.past = [] → B.coming = [] → B.ms.Perm ns → sortedS B.ms = true → Q .non H'
theorem ok_p_BoardInit (T : Txt K mg fa fd) : FnOk P w K mg base CX0 10 (fa 1700) (fd 1700) ["self", "names", "limit"] (spBI K (fa 171)) := by
  refine T.F_BoardInit.ok sc_p_BoardInit (fun vs H Q E h => ?_) (fun cdv A outer s H vs Q E hr h => ?_)
  · obtain ⟨b, L, z, Z, ns, room, dx, rfl, _⟩ := h
    rfl
  · obtain ⟨b, L, z, Z, ns, room, dx, rfl, hb, hI, q⟩ := h
    refine ⟨_, PSs.nox (C8.pss_cut (ps_fld (pv 0) (pe_callTy call_tuple_of (by rfl) T.m_tuple (by decide +kernel) (pa_cons (pe_meth0 (T.b_LotInit1.elim fun ds hd => pe_make T.mk_Lot (ok_p_LotInit T) (hr.mono (by decide)) (by rfl) T.g_Lot hd.2 hd.1 pass0 (pa_cons (pv 1) pa_nil)) T.cl_Lot T.me_LotNames (ok_p_LotNames T) (hr.mono (by decide)) T.b_LotNames .nil pass0) pa_nil)) (by rfl))
      (C8.pss_cut (ps_if (PW.pt (pw_or (pt_not (pt_val (pe_call (ok_p_is_whole T) (hr.mono (by decide)) (by rfl) T.g_p_is_whole T.F_p_is_whole.kp T.b_p_is_whole .nil pass0 (pa_cons (pv 2) pa_nil)))) (pw_or1 (pt_not (pt_chain op_le op_le pe_int (pv 2) (pe_clsI T.most_Board.choose_spec.choose_spec (pe_glob (v := V.ref (fa 171)) (by rfl) T.g_Board rfl))))))) (pss_one ps_never) pss_nil)
      (C8.pss_cut (ps_fld (pv 0) (pv 2) (by rfl))
      (C8.pss_cut (ps_fld (pv 0) (pe_tup (pa_cons pe_dnewK (pa_cons (pe_lst pa_nil) pa_nil))) (by rfl))
      (C8.pss_cut (ps_fld (pv 0) (pe_lst pa_nil) (by rfl))
      (C8.pss_cut (ps_fld (pv 0) (pe_lst pa_nil) (by rfl))
      (C8.pss_cut (ps_fld (pv 0) pe_dnewK (by rfl))
      (C8.pss_cut (ps_fld (pv 0) pe_int (by rfl))
      (pss_one (ps_fld (pv 0) pe_bl (by rfl))))))))))), ?_⟩
    -- unknowns
    refine ⟨fun σ G => ∃ (un : Addr) (ms : List Str), Oth b H G ∧ G b = some (.ins (fa 171) dx [("unknowns", .ref un)]) ∧ G un = some (.tup (ms.map V.str)) ∧ ms.Perm ns ∧ sortedS ms = true ∧ σ = [some (.ref b), some (.ref L), some (.int room)], ?_, fun σ G hM => ?_⟩
    · refine ⟨_, rfl, fun x dy nx ndy ne => ?_⟩
      have s2 := (same_upd (o := .own x) ndy).trans (same_upd (o := .ins (fa 148) dy []) (H := upd H dy (.own x)) ((upd_ne ne.symm).trans nx))
      refine ⟨x, L, fa 1502, ns, [], dy, rfl, upd_same, ⟨.inl (SqL.sm s2 hI.hL), .inr (T.z_LotInit _), ⟨z, [], .nil, rfl⟩, by show 0 ≤ 900; decide, hI.fb, hI.nd, by have := hI.sz; omega, hI.lx⟩, fun H' oth hL => ⟨rfl, ?_⟩⟩
      have keep : Same H H' := fun y o e => oth y o (ne_of_none e nx) (s2 _ _ e)
      obtain ⟨dl, u1, u2, msl, f1, f2, f3, f4, f5⟩ := id hL.at_
      refine ⟨x, dl, _, rfl, f1, rfl, x, ns, [], rfl, hL, fun p ms G1 s1 n1 hp pm sr => ?_⟩
      refine ⟨p, _, rfl, .inl ⟨SqL.of hp, fun t nt => ?_⟩⟩
      have st := same_upd (o := .tup (ms.map V.str)) nt
      have k3 := keep.trans (s1.trans st)
      have hb3 := k3 _ _ hb
      have nb : t ≠ b := fun e => by rw [e, (keep.trans s1) _ _ hb] at nt; cases nt
      refine ⟨_, rfl, b, _, dx, [], rfl, hb3, T.cl_Board, T.na_Board_unknowns, by show 0 < 1000; decide, t, ms, fun y o n e => (upd_ne n).trans (k3 _ _ e), upd_same, ?_, pm, sr, rfl⟩
      rw [upd_ne nb, upd_same]
    obtain ⟨un, ms, oG, hbG, hun, pm, sr, rfl⟩ := hM
    -- the limit
    refine ⟨fun σ G2 => G2 = G ∧ σ = [some (.ref b), some (.ref L), some (.int room)], ?_, fun σ G2 hM => ?_⟩
    · have bd : room.natAbs.log2 < 4096 := log2_mono (b := 40) (by have := hI.lo; have := hI.hi; omega) (by decide +kernel)
      refine ⟨_, rfl, .int room, .int room, z, rfl, .int room bd, _, rfl, iteF ?_⟩
      refine ⟨_, rfl, _, _, rfl, rfl, _, rfl, ?_⟩
      rw [decide_eq_true hI.lo]
      refine iteT ⟨rfl, _, _, rfl, rfl, _, rfl, ?_⟩
      rw [decide_eq_true hI.hi]
      exact iteF ⟨rfl, rfl⟩
    obtain ⟨rfl, rfl⟩ := hM
    -- room
    refine ⟨fun σ G => Oth b H G ∧ G b = some (.ins (fa 171) dx [("unknowns", .ref un), ("room", .int room)]) ∧ G un = some (.tup (ms.map V.str)) ∧ σ = [some (.ref b), some (.ref L), some (.int room)], ?_, fun σ G hM => ?_⟩
    · exact ⟨_, rfl, _, rfl, b, _, dx, _, rfl, hbG, T.cl_Board, T.na_Board_room, by show 1 < 1000; decide, oG.fld, upd_same, (upd_ne (ne_of hun hbG (by intro z; cases z))).trans hun, rfl⟩
    clear oG hbG hun
    obtain ⟨oG, hbG, hun, rfl⟩ := hM
    -- state
    refine ⟨fun σ G => Oth b H G ∧ ∃ (sp sd sl : Addr), G b = some (.ins (fa 171) dx [("unknowns", .ref un), ("room", .int room), ("state", .ref sp)]) ∧ G un = some (.tup (ms.map V.str)) ∧ G sp = some (.tup [.ref sd, .ref sl]) ∧ G sd = some (.dK []) ∧ G sl = some (.lst []) ∧ H sl = none ∧ sl ≠ b ∧ σ = [some (.ref b), some (.ref L), some (.int room)], ?_, fun σ G hM => ?_⟩
    · refine fun sd nd => ⟨small_line (by show 0 ≤ 1000; decide), fun sl nl => ⟨two_line, fun sp np => ?_⟩⟩
      have k1 := same_upd (o := .dK []) nd
      have k2 := same_upd (o := .lst []) nl
      have k3 := same_upd (o := .tup [V.ref sd, .ref sl]) np
      have kk := k1.trans (k2.trans k3)
      have hb2 := kk _ _ hbG
      have nlb : sl ≠ b := fun e => by rw [e, k1 _ _ hbG] at nl; cases nl
      have hsl : H sl = none := none_back (oG.same k1) nlb nl
      have hsp : ∀ {o : HO}, upd (upd (upd G sd (.dK [])) sl (.lst [])) sp (.tup [V.ref sd, .ref sl]) b = some o → sp ≠ b := fun e z => by rw [z, (k1.trans k2) _ _ hbG] at np; cases np
      have g1 := k3 _ _ (k2 _ _ (upd_same : upd G sd (.dK []) sd = _))
      have g2 := k3 _ _ (upd_same : upd (upd G sd (.dK [])) sl (.lst []) sl = _)
      have g3 : upd (upd (upd G sd (.dK [])) sl (.lst [])) sp (.tup [V.ref sd, .ref sl]) sp = _ := upd_same
      have g4 := kk _ _ hun
      have nb : ∀ {c : Addr} {o : HO}, (upd (upd (upd G sd (.dK [])) sl (.lst [])) sp (.tup [V.ref sd, .ref sl])) c = some o → (∀ C d f, o ≠ .ins C d f) → c ≠ b := fun e k z => by rw [z, hb2] at e; exact k _ _ _ (Option.some.inj e).symm
      refine ⟨_, rfl, b, _, dx, _, rfl, hb2, T.cl_Board, T.na_Board_state, by show 2 < 1000; decide, (oG.same kk).fld, sp, sd, sl, upd_same, ?_, ?_, ?_, ?_, hsl, nlb, rfl⟩
      · exact (upd_ne (nb g4 (by intro _ _ _ z; cases z))).trans g4
      · exact (upd_ne (nb g3 (by intro _ _ _ z; cases z))).trans g3
      · exact (upd_ne (nb g1 (by intro _ _ _ z; cases z))).trans g1
      · exact (upd_ne (nb g2 (by intro _ _ _ z; cases z))).trans g2
    clear oG hbG hun
    obtain ⟨oG, sp, sd, sl, hbG, hun, hsp, hsd, hsl, nsl, nlb, rfl⟩ := hM
    -- past
    refine ⟨fun σ G => Oth b H G ∧ ∃ Pa : Addr, G b = some (.ins (fa 171) dx [("unknowns", .ref un), ("room", .int room), ("state", .ref sp), ("past", .ref Pa)]) ∧ G un = some (.tup (ms.map V.str)) ∧ G sp = some (.tup [.ref sd, .ref sl]) ∧ G sd = some (.dK []) ∧ G sl = some (.lst []) ∧ G Pa = some (.lst []) ∧ H Pa = none ∧ Pa ≠ b ∧ sl ≠ Pa ∧ σ = [some (.ref b), some (.ref L), some (.int room)], ?_, fun σ G hM => ?_⟩
    · refine ⟨small_line (by show 0 ≤ 1000; decide), fun Pa nP => ?_⟩
      have k1 := same_upd (o := .lst []) nP
      have hb2 := k1 _ _ hbG
      have nPb : Pa ≠ b := fun e => by rw [e, hbG] at nP; cases nP
      have nb : ∀ {c : Addr} {o : HO}, (upd G Pa (.lst [])) c = some o → (∀ C d f, o ≠ .ins C d f) → c ≠ b := fun e k z => by rw [z, hb2] at e; exact k _ _ _ (Option.some.inj e).symm
      refine ⟨_, rfl, b, _, dx, _, rfl, hb2, T.cl_Board, T.na_Board_past, by show 3 < 1000; decide, (oG.same k1).fld, Pa, upd_same, ?_, ?_, ?_, ?_, ?_, none_back oG nPb nP, nPb, (fun e => by rw [← e, hsl] at nP; cases nP), rfl⟩
      · exact (upd_ne (nb (k1 _ _ hun) (by intro _ _ _ z; cases z))).trans (k1 _ _ hun)
      · exact (upd_ne (nb (k1 _ _ hsp) (by intro _ _ _ z; cases z))).trans (k1 _ _ hsp)
      · exact (upd_ne (nb (k1 _ _ hsd) (by intro _ _ _ z; cases z))).trans (k1 _ _ hsd)
      · exact (upd_ne (nb (k1 _ _ hsl) (by intro _ _ _ z; cases z))).trans (k1 _ _ hsl)
      · exact (upd_ne nPb).trans upd_same
    clear oG hbG hun hsp hsd hsl
    obtain ⟨oG, Pa, hbG, hun, hsp, hsd, hsl, hPa, nPa, nPb, slP, rfl⟩ := hM
    -- coming
    refine ⟨fun σ G => Oth b H G ∧ ∃ Cm : Addr, G b = some (.ins (fa 171) dx [("unknowns", .ref un), ("room", .int room), ("state", .ref sp), ("past", .ref Pa), ("coming", .ref Cm)]) ∧ G un = some (.tup (ms.map V.str)) ∧ G sp = some (.tup [.ref sd, .ref sl]) ∧ G sd = some (.dK []) ∧ G sl = some (.lst []) ∧ G Pa = some (.lst []) ∧ G Cm = some (.lst []) ∧ H Cm = none ∧ Cm ≠ b ∧ sl ≠ Cm ∧ Pa ≠ Cm ∧ σ = [some (.ref b), some (.ref L), some (.int room)], ?_, fun σ G hM => ?_⟩
    · refine ⟨small_line (by show 0 ≤ 1000; decide), fun Cm nP => ?_⟩
      have k1 := same_upd (o := .lst []) nP
      have hb2 := k1 _ _ hbG
      have nCb : Cm ≠ b := fun e => by rw [e, hbG] at nP; cases nP
      have nb : ∀ {c : Addr} {o : HO}, (upd G Cm (.lst [])) c = some o → (∀ C d f, o ≠ .ins C d f) → c ≠ b := fun e k z => by rw [z, hb2] at e; exact k _ _ _ (Option.some.inj e).symm
      refine ⟨_, rfl, b, _, dx, _, rfl, hb2, T.cl_Board, T.na_Board_coming, by show 4 < 1000; decide, (oG.same k1).fld, Cm, upd_same, ?_, ?_, ?_, ?_, ?_, ?_, none_back oG nCb nP, nCb, (fun e => by rw [← e, hsl] at nP; cases nP), (fun e => by rw [← e, hPa] at nP; cases nP), rfl⟩
      · exact (upd_ne (nb (k1 _ _ hun) (by intro _ _ _ z; cases z))).trans (k1 _ _ hun)
      · exact (upd_ne (nb (k1 _ _ hsp) (by intro _ _ _ z; cases z))).trans (k1 _ _ hsp)
      · exact (upd_ne (nb (k1 _ _ hsd) (by intro _ _ _ z; cases z))).trans (k1 _ _ hsd)
      · exact (upd_ne (nb (k1 _ _ hsl) (by intro _ _ _ z; cases z))).trans (k1 _ _ hsl)
      · exact (upd_ne nPb).trans (k1 _ _ hPa)
      · exact (upd_ne nCb).trans upd_same
    clear oG hbG hun hsp hsd hsl hPa
    obtain ⟨oG, Cm, hbG, hun, hsp, hsd, hsl, hPa, hCm, nCm, nCb, slC, PC, rfl⟩ := hM
    -- figures
    refine ⟨fun σ G => Oth b H G ∧ ∃ F : Addr, G b = some (.ins (fa 171) dx [("unknowns", .ref un), ("room", .int room), ("state", .ref sp), ("past", .ref Pa), ("coming", .ref Cm), ("figures", .ref F)]) ∧ G un = some (.tup (ms.map V.str)) ∧ G sp = some (.tup [.ref sd, .ref sl]) ∧ G sd = some (.dK []) ∧ G sl = some (.lst []) ∧ G Pa = some (.lst []) ∧ G Cm = some (.lst []) ∧ G F = some (.dK []) ∧ F ≠ b ∧ σ = [some (.ref b), some (.ref L), some (.int room)], ?_, fun σ G hM => ?_⟩
    · refine fun F nP => ?_
      have k1 := same_upd (o := .dK []) nP
      have hb2 := k1 _ _ hbG
      have nCb' : F ≠ b := fun e => by rw [e, hbG] at nP; cases nP
      have nb : ∀ {c : Addr} {o : HO}, (upd G F (.dK [])) c = some o → (∀ C d f, o ≠ .ins C d f) → c ≠ b := fun e k z => by rw [z, hb2] at e; exact k _ _ _ (Option.some.inj e).symm
      refine ⟨_, rfl, b, _, dx, _, rfl, hb2, T.cl_Board, T.na_Board_figures, by show 5 < 1000; decide, (oG.same k1).fld, F, upd_same, ?_, ?_, ?_, ?_, ?_, ?_, ?_, nCb', rfl⟩
      · exact (upd_ne (nb (k1 _ _ hun) (by intro _ _ _ z; cases z))).trans (k1 _ _ hun)
      · exact (upd_ne (nb (k1 _ _ hsp) (by intro _ _ _ z; cases z))).trans (k1 _ _ hsp)
      · exact (upd_ne (nb (k1 _ _ hsd) (by intro _ _ _ z; cases z))).trans (k1 _ _ hsd)
      · exact (upd_ne (nb (k1 _ _ hsl) (by intro _ _ _ z; cases z))).trans (k1 _ _ hsl)
      · exact (upd_ne nPb).trans (k1 _ _ hPa)
      · exact (upd_ne nCb).trans (k1 _ _ hCm)
      · exact (upd_ne nCb').trans upd_same
    clear oG hbG hun hsp hsd hsl hPa hCm
    obtain ⟨oG, F, hbG, hun, hsp, hsd, hsl, hPa, hCm, hF, nFb, rfl⟩ := hM
    -- computed, working
    have un' := ne_of hun hbG (by intro z; cases z)
    have sp' := ne_of hsp hbG (by intro z; cases z)
    have sd' := ne_of hsd hbG (by intro z; cases z)
    refine ⟨fun σ G2 => G2 = upd G b (.ins (fa 171) dx [("unknowns", .ref un), ("room", .int room), ("state", .ref sp), ("past", .ref Pa), ("coming", .ref Cm), ("figures", .ref F), ("computed", .int 0)]) ∧ σ = [some (.ref b), some (.ref L), some (.int room)], ⟨_, rfl, b, _, dx, _, rfl, hbG, T.cl_Board, T.na_Board_computed, by show 6 < 1000; decide, rfl, rfl⟩, fun σ G2 hM => ?_⟩
    obtain ⟨rfl, rfl⟩ := hM
    refine ⟨_, rfl, b, _, dx, _, rfl, upd_same, T.cl_Board, T.na_Board_working, by show 7 < 1000; decide, ?_⟩
    have at2 : ∀ {c : Addr} {o : HO} {u v : HO}, c ≠ b → G c = some o → upd (upd G b u) b v c = some o := fun n e => (upd_ne n).trans ((upd_ne n).trans e)
    refine q _ ⟨dx, un, Pa, Cm, F, .ref sp, ms, [], [], room, ([], []), [], []⟩ (fun x o n e => at2 n (oG x o n e)) ⟨upd_same, at2 un' hun, ⟨⟨sp, sd, sl, [], [], rfl, at2 sp' hsp, at2 sd' hsd, at2 nlb hsl, ?_, .nil, .nil⟩, ⟨.nil, Nat.zero_le _, Nat.zero_le _, (fun x hx => by cases hx), (fun x hx => by cases hx), rfl⟩⟩, at2 nPb hPa, at2 nCb hCm, at2 nFb hF, .nil, .nil, PC, ?_, ?_, ?_, ?_, Nat.zero_le _, Nat.zero_le _⟩ rfl rfl rfl rfl pm sr
    · intro m
      rcases List.mem_cons.mp m with e | m
      · exact slP e
      · rcases List.mem_cons.mp m with e | m
        · exact slC e
        · exact hI.zs _ m nsl
    · exact fun m => hI.zs _ m nPa
    · exact fun m => hI.zs _ m nCm
    · show ms.length ≤ 900
      have := pm.length_eq
      have := hI.sz
      omega
    · exact fun x hx => hI.lx x (pm.mem_iff.mp hx)
end
abbrev insB (C : Addr) (B : Brd) (wk : Bool) : HO := .ins C B.dx (bF B wk)
section
variable {P : Program} {w : World} {K : PySem.W.Frag} {mg : Str → Option Value} {base : Heap} {fa : Nat → Addr} {fd : Nat → FuncData}
def spBV (K : PySem.W.Frag) (C : Addr) (f : Brd → V) : Sp := fun vs H Q _ => ∃ (b z : Addr) (Z : List Addr) (B : Brd) (wk : Bool), vs = [.ref b] ∧ BdA K C z Z H b B wk ∧ Q (f B) H
theorem ok_p_BoardLimit (T : Txt K mg fa fd) : FnOk P w K mg base CX0 1 (fa 1710) (fd 1710) ["self"] (spBV K (fa 171) fun B => .int B.room) := by
  refine T.F_BoardLimit.ok sc_p_BoardLimit (fun vs H Q E h => ?_) (fun cdv A outer s H vs Q E hr h => ?_)
  · obtain ⟨b, z, Z, B, wk, rfl, _⟩ := h
    rfl
  · obtain ⟨b, z, Z, B, wk, rfl, hB, q⟩ := h
    refine ⟨_, (pss_one (ps_ret (pe_fld (pv 0) (by rfl)))), ?_⟩
    exact ⟨_, rfl, _, _, B.dx, _, _, rfl, hB.ins, T.cl_Board, T.na_Board_room, bf_room, q⟩
theorem bf_working {B : Brd} {wk : Bool} : (bF B wk).lookup ("working" : Str) = some (.bl wk) := rfl
theorem ok_p_BoardLen (T : Txt K mg fa fd) : FnOk P w K mg base CX0 1 (fa 1723) (fd 1723) ["self"] (spBV K (fa 171) fun B => .int (B.st.1.length : Nat)) := by
  refine T.F_BoardLen.ok sc_p_BoardLen (fun vs H Q E h => ?_) (fun cdv A outer s H vs Q E hr h => ?_)
  · obtain ⟨b, z, Z, B, wk, rfl, _⟩ := h
    rfl
  · obtain ⟨b, z, Z, B, wk, rfl, hB, q⟩ := h
    refine ⟨_, (pss_one (ps_ret (pe_callB call_lenD (by rfl) T.m_len PySem.boot_len (pa_cons (pe_ix ix_tup (pe_fld (pv 0) (by rfl)) pe_int (fun _ _ => rfl)) pa_nil)))), ?_⟩
    obtain ⟨p, d, l, kvs, us, e, h1, h2, h3, h4, h5, h6⟩ := hB.st.ex
    have kl : kvs.length = B.st.1.length := Paired.length h5
    refine ⟨_, rfl, _, _, B.dx, _, _, rfl, hB.ins, T.cl_Board, T.na_Board_state, bf_state.trans (congrArg some e), p, _, _, _, rfl, rfl, SqT.of h1, rfl, d, kvs, rfl, h2, ?_⟩
    rw [kl]
    exact q
def spHist (K : PySem.W.Frag) (C : Addr) : Sp := fun vs H Q _ => ∃ (b z : Addr) (Z : List Addr) (B : Brd) (wk : Bool), vs = [.ref b] ∧ BdA K C z Z H b B wk ∧ ∀ t, H t = none → Q (.ref t) (upd H t (.tup [.int (B.past.length : Nat), .int (B.coming.length : Nat)]))
theorem ok_p_BoardHistory (T : Txt K mg fa fd) : FnOk P w K mg base CX0 1 (fa 1719) (fd 1719) ["self"] (spHist K (fa 171)) := by
  refine T.F_BoardHistory.ok sc_p_BoardHistory (fun vs H Q E h => ?_) (fun cdv A outer s H vs Q E hr h => ?_)
  · obtain ⟨b, z, Z, B, wk, rfl, _⟩ := h
    rfl
  · obtain ⟨b, z, Z, B, wk, rfl, hB, q⟩ := h
    refine ⟨_, (pss_one (ps_ret (pe_tup (pa_cons (pe_callB call_len_seq (by rfl) T.m_len PySem.boot_len (pa_cons (pe_fld (pv 0) (by rfl)) pa_nil)) (pa_cons (pe_callB call_len_seq (by rfl) T.m_len PySem.boot_len (pa_cons (pe_fld (pv 0) (by rfl)) pa_nil)) pa_nil))))), ?_⟩
    have l1 : B.pv.length = B.past.length := Paired.length hB.past
    have l2 : B.cv.length = B.coming.length := Paired.length hB.coming
    refine ⟨_, rfl, _, _, B.dx, _, _, rfl, hB.ins, T.cl_Board, T.na_Board_past, bf_past, B.P, _, rfl, .inl (SqL.of hB.hP), _, rfl, _, _, B.dx, _, _, rfl, hB.ins, T.cl_Board, T.na_Board_coming, bf_coming, B.Cm, _, rfl, .inl (SqL.of hB.hC), two_line, fun t nt => ?_⟩
    rw [l1, l2]
    exact q t nt
/-- a board's fields change -/
theorem BdA.mut {C z : Addr} {Z : List Addr} {H : Hp} {b : Addr} {B : Brd} {wk : Bool} (h : BdA K C z Z H b B wk) : MutS [b, B.P, B.Cm] (B.P :: B.Cm :: Z) H := fun x m => by
  rcases List.mem_cons.mp m with rfl | m
  · exact .inl ⟨_, _, _, h.ins⟩
  · rcases List.mem_cons.mp m with rfl | m
    · exact .inr ⟨List.mem_cons_self, _, h.hP⟩
    · rcases List.mem_cons.mp m with rfl | m
      · exact .inr ⟨.tail _ (.head _), _, h.hC⟩
      · cases m
theorem BdA.same {C z : Addr} {Z : List Addr} {H H' : Hp} {b : Addr} {B : Brd} {wk : Bool} (h : BdA K C z Z H b B wk) (s : Same H H') : BdA K C z Z H' b B wk :=
  ⟨s _ _ h.ins, s _ _ h.un, h.st.same s, s _ _ h.hP, s _ _ h.hC, s _ _ h.hF, paired_mono (fun _ _ q => q.same s) h.past, paired_mono (fun _ _ q => q.same s) h.coming, h.ne, h.nP, h.nC, h.ml, h.mx, h.pl, h.cl⟩
theorem BdA.bP {C z : Addr} {Z : List Addr} {H : Hp} {b : Addr} {B : Brd} {wk : Bool} (h : BdA K C z Z H b B wk) : B.P ≠ b := ne_of h.hP h.ins (by intro z; cases z)
theorem BdA.bC {C z : Addr} {Z : List Addr} {H : Hp} {b : Addr} {B : Brd} {wk : Bool} (h : BdA K C z Z H b B wk) : B.Cm ≠ b := ne_of h.hC h.ins (by intro z; cases z)
/-- its fields alone -/
theorem BdA.flds {C z : Addr} {Z : List Addr} {H : Hp} {b : Addr} {B : Brd} {wk : Bool} (h : BdA K C z Z H b B wk) (k : Bool) (room : Int) : BdA K C z Z (upd H b (insB C { B with room := room } k)) b { B with room := room } k := by
  have m : MutS [b] (B.P :: B.Cm :: Z) H := fun x hx => .inl (by rw [List.mem_singleton.mp hx]; exact ⟨_, _, _, h.ins⟩)
  have kp : Kp [b] H (upd H b (insB C { B with room := room } k)) := Kp.upd (List.mem_singleton.mpr rfl)
  have un' : B.un ≠ b := ne_of h.un h.ins (by intro z; cases z)
  exact ⟨upd_same, (upd_ne un').trans h.un, h.st.kp m kp, (upd_ne h.bP).trans h.hP, (upd_ne h.bC).trans h.hC, m.dk kp h.hF, paired_mono (fun _ _ q => q.kp m kp) h.past, paired_mono (fun _ _ q => q.kp m kp) h.coming, h.ne, h.nP, h.nC, h.ml, h.mx, h.pl, h.cl⟩
def spTurn (K : PySem.W.Frag) (C : Addr) : Sp := fun vs H Q _ => ∃ (b F : Addr) (B : Brd) (wk : Bool) (v : V), vs = [.ref b, v] ∧ H b = some (insB C B wk) ∧ F = B.F ∧ H B.F = some (.dK []) ∧ Q .non (upd H b (insB C { B with sv := v } wk))
theorem ok_p_BoardTurn (T : Txt K mg fa fd) : FnOk P w K mg base CX0 3 (fa 1714) (fd 1714) ["self", "state"] (spTurn K (fa 171)) := by
  refine T.F_BoardTurn.ok sc_p_BoardTurn (fun vs H Q E h => ?_) (fun cdv A outer s H vs Q E hr h => ?_)
  · obtain ⟨b, F, B, wk, v, rfl, _⟩ := h
    rfl
  · obtain ⟨b, F, B, wk, v, rfl, hb, rfl, hF, q⟩ := h
    refine ⟨_, (C8.pss_cut (ps_if (PW.pt (pw_and (pt_cmpR op_gt (pe_callB call_lenD (by rfl) T.m_len PySem.boot_len (pa_cons (pe_fld (pv 0) (by rfl)) pa_nil)) pe_int (nomark _)) (pw_and1 pt_never))) (pss_one (ps_fld (pv 0) pe_dnewK (by rfl))) pss_nil)
      (pss_one (ps_fld (pv 0) (pv 1) (by rfl)))), ?_⟩
    refine ⟨fun σ G => G = H ∧ σ = [some (.ref b), some v], ?_, fun σ G hM => ?_⟩
    · exact ⟨_, rfl, _, _, B.dx, _, _, rfl, hb, T.cl_Board, T.na_Board_figures, bf_figures, B.F, [], rfl, hF, _, _, rfl, rfl, _, rfl, iteF (iteF ⟨rfl, rfl⟩)⟩
    · obtain ⟨rfl, rfl⟩ := hM
      exact ⟨_, rfl, _, rfl, b, _, B.dx, _, rfl, hb, T.cl_Board, T.na_Board_state, by show 8 < 1000; decide, q⟩
end
/-! ### try: body, finally: suite; the body may raise, the suite may not -/
def sFinC (tb : WX → List (Addr × Obj) → (Value → Shared → Prop) → TS) (tf tfs : TS) (Wo : WX) : TS := fun D σ H => ∀ pn xe, tb (L2.wFin tfs Wo) pn xe { nx := fun σ' H' => tf D σ' H', rt := fun _ _ => False } σ H
theorem ps_finC {X : Cx} {body : List Stmt} {g : Stmt} {gs : List Stmt} {pos : Pos} {tb : WX → List (Addr × Obj) → (Value → Shared → Prop) → TS} {tf tfs : TS} {Wo : WX} (hs : X.stack = X.env :: X.outer) (hf : X.env.frame = some X.env.locals) (hex : X.ex = []) (tk : Takes X Wo)
    (hb : ∀ (W : WX) (pn : List (Addr × Obj)) (xe : Value → Shared → Prop), Takes (X.tr pn xe) W → PassesOwn (model X.prog X.w) X.A X.env xe → PSs (X.tr pn xe) body (tb W pn xe))
    (h1 : PSs X.nox (g :: gs) tf) (h2 : ∀ (a : Addr) (pn : List (Addr × Obj)), PSs (X.suite a pn) (g :: gs) tfs) : PS X (.Try body [] [] (g :: gs) pos) (sFinC tb tf tfs Wo) := by
  refine ⟨fun pins s σ H D I q => wpAny_Try_finally ?_⟩
  have ok := I.ok
  have here := (hb (L2.wFin tfs Wo) (X.pn ++ pins) (fun x s₁ => wpAny (model X.prog X.w) X.A (noteFrame x X.env) (fun _ s₂ => FinallyRaised X.prog X.w X.A X.xe X.env (g :: gs) (SP X pins D) x s₂) (FinallyRaised X.prog X.w X.A X.xe X.env (g :: gs) (SP X pins D)) s₁)
    (fun u s' xx => fin_exc hs hf hex ok tk h2 xx) PassesOwn.looking).run [] s σ H { nx := fun σ' H' => tf D σ' H', rt := fun _ _ => False } (I.toTry _) (q _ _)
  refine wpAny_mono here (fun fl s1 z => ?_) fun _ _ e => e
  have no : ∀ {v : Prop}, False → v := fun z => z.elim
  cases fl with
  | next =>
    obtain ⟨σ1, H1, J, q1⟩ := z
    refine wpAny_execs_nil (wpAny_mono (h1.run pins s1 σ1 H1 D ((J.ofTry ok).wish _) q1) (fun fl2 s2 z2 => ?_) fun _ _ e => e.elim)
    have z3 : SP X pins D fl2 s2 := z2.unwish
    cases fl2 <;> exact z3
  | ret u =>
    obtain ⟨_, _, _, _, _, w⟩ := z
    exact no w
  | brk =>
    obtain ⟨_, _, _, w⟩ := z
    exact no w
  | cont =>
    obtain ⟨_, _, _, w⟩ := z
    exact no w
def batchC (ns : List Str) (room : Int) : Ste → List Cm → Er ⊕ Ste
  | st, [] => .inr st
  | st, m :: r => match m.due ns room st with
    | some e => .inl e
    | none => batchC ns room (m.go st) r
theorem batchC_err {ns : List Str} {room : Int} {st : Ste} {m : Cm} {r : List Cm} {e : Er} (h : m.due ns room st = some e) : batchC ns room st (m :: r) = .inl e := by
  show (match m.due ns room st with | some e => Sum.inl e | none => batchC ns room (m.go st) r) = _
  rw [h]
theorem batchC_ok {ns : List Str} {room : Int} {st : Ste} {m : Cm} {r : List Cm} (h : m.due ns room st = none) : batchC ns room st (m :: r) = batchC ns room (m.go st) r := by
  show (match m.due ns room st with | some e => Sum.inl e | none => batchC ns room (m.go st) r) = _
  rw [h]
/-- a command -/
def CmdM (K : PySem.W.Frag) (z : Addr) (H : Hp) (v : V) (m : Cm) : Prop := ∃ c, v = V.ref c ∧ CmC K z H c m
theorem CmdM.same {K : PySem.W.Frag} {z : Addr} {H H' : Hp} {v : V} {m : Cm} (h : CmdM K z H v m) (s : Same H H') : CmdM K z H' v m := by
  obtain ⟨c, e, h1⟩ := h
  exact ⟨c, e, h1.same s⟩
theorem tie_good (x : Str) (dv : V) : badCmd [.str "tie", .str x, dv] = false := by
  rw [bad_str]
  have e : cmdK "tie" = some 3 := by decide +kernel
  rw [e]
  rfl
theorem wish_good (x : Str) (u v : V) : badCmd [.str "wish", .str x, u, v] = false := by
  rw [bad_str]
  have e : cmdK "wish" = some 4 := by decide +kernel
  rw [e]
  rfl
theorem first_good (x : Str) : badCmd [.str "first", .str x] = false := by
  rw [bad_str]
  have e : cmdK "first" = some 2 := by decide +kernel
  rw [e]
  rfl
theorem drop_good (x : Str) : badCmd [.str "drop", .str x] = false := by
  rw [bad_str]
  have e : cmdK "drop" = some 2 := by decide +kernel
  rw [e]
  rfl
theorem tie_head (x : Str) (dv : V) : HeadOk [.str "tie", .str x, dv] := .inl (.head _)
theorem wish_head (x : Str) (u v : V) : HeadOk [.str "wish", .str x, u, v] := .inl (.tail _ (.head _))
theorem cmd_row {K : PySem.W.Frag} {z : Addr} {H : Hp} {c : Addr} : ∀ {m : Cm}, CmC K z H c m → ∃ xs, SqT K H c xs ∧ xs.length ≤ 900 ∧ HeadOk xs ∧ badCmd xs = false
  | .tie _ _, ⟨_, h1, _, _⟩ => ⟨_, h1, by show 3 ≤ 900; decide, tie_head _ _, tie_good _ _⟩
  | .wish _ _ _, ⟨_, _, h1, _, _, _⟩ => ⟨_, h1, by show 4 ≤ 900; decide, wish_head _ _ _, wish_good _ _ _⟩
  | .first _, ⟨h1, _⟩ => ⟨_, h1, by show 2 ≤ 900; decide, .inl (.tail _ (.tail _ (.head _))), first_good _⟩
  | .drop _, ⟨h1, _⟩ => ⟨_, h1, by show 2 ≤ 900; decide, .inl (.tail _ (.tail _ (.tail _ (.head _)))), drop_good _⟩
theorem cmds_head {K : PySem.W.Frag} {z : Addr} {H : Hp} : ∀ {cs : List V} {ms : List Cm}, Paired (CmdM K z H) cs ms → ∃ xss, Paired (fun v xs => ∃ c, v = V.ref c ∧ SqT K H c xs ∧ xs.length ≤ 900 ∧ HeadOk xs) cs xss ∧ xss.find? badCmd = none
  | _, _, .nil => ⟨[], .nil, rfl⟩
  | _, _, .cons h r => by
    obtain ⟨c, e, h1⟩ := h
    obtain ⟨xs, a1, a2, a3, a4⟩ := cmd_row h1
    obtain ⟨xss, p, q⟩ := cmds_head r
    refine ⟨xs :: xss, .cons ⟨c, e, a1, a2, a3⟩ p, ?_⟩
    rw [List.find?_cons_of_neg (by rw [a4]; exact Bool.false_ne_true)]
    exact q
theorem CmdM.kp1 {K : PySem.W.Frag} {z b : Addr} {H H' : Hp} {C dx : Addr} {fs : List (Str × V)} {v : V} {m : Cm} (h : CmdM K z H v m) (hb : H b = some (.ins C dx fs)) (k : Kp [b] H H') : CmdM K z H' v m := by
  obtain ⟨c, e, h1⟩ := h
  have nb : ∀ {a : Addr} {o : HO}, H a = some o → (∀ C d f, o ≠ .ins C d f) → H' a = some o := fun e n => k _ _ e fun z => by
    rw [List.mem_singleton.mp z, hb] at e
    exact n _ _ _ (Option.some.inj e).symm
  have sq : ∀ {c : Addr} {xs : List V}, SqT K H c xs → SqT K H' c xs := fun h => by
    rcases h with (e | ⟨o, e⟩) | e
    · exact .inl (.inl (nb e (by intro _ _ _ z; cases z)))
    · exact .inl (.inr ⟨o, nb e (by intro _ _ _ z; cases z)⟩)
    · exact .inr e
  have dt : ∀ {v : V} {d : PyData}, Dt z H v d → Dt z H' v d := fun h => Dt.via (fun a o e g => nb e (by
    rcases g with ⟨⟨xs, rfl⟩, _⟩ | ⟨xs, rfl⟩
    · intro _ _ _ z
      cases z
    · intro _ _ _ z
      cases z)) _ _ h
  cases m with
  | tie x d =>
    obtain ⟨dv, g1, g2, g3⟩ := h1
    exact ⟨c, e, dv, sq g1, dt g2, g3⟩
  | wish x t g =>
    obtain ⟨vt, vg, g1, g2, g3, g4⟩ := h1
    exact ⟨c, e, vt, vg, sq g1, dt g2, dt g3, g4⟩
  | first x => exact ⟨c, e, sq h1.1, h1.2⟩
  | drop x => exact ⟨c, e, sq h1.1, h1.2⟩
section
variable {P : Program} {w : World} {K : PySem.W.Frag} {mg : Str → Option Value} {base : Heap} {fa : Nat → Addr} {fd : Nat → FuncData}
/-- a call of apply with commands that add ties -/
structure CarA (K : PySem.W.Frag) (C z : Addr) (Z : List Addr) (H : Hp) (b p : Addr) (B : Brd) (cs : List V) (ts : List Cm) : Prop where
  hB : BdA K C z Z H b B false
  hp : SqT K H p cs
  hc : Paired (CmdM K z H) cs ts
  few : ts.length ≤ 10
  ln : B.st.1.length ≤ 40
  pl : B.past.length ≤ 800
structure CarR (K : PySem.W.Frag) (C z : Addr) (Z : List Addr) (H H' : Hp) (b : Addr) (B B' : Brd) (st : Ste) : Prop where
  kp : Kp [b, B.P] H H'
  hB : BdA K C z Z H' b B' false
  st : B'.st = st
  room : B'.room = B.room
  ms : B'.ms = B.ms
  P : B'.P = B.P
  cm : H B'.Cm = none
  past : B'.past = B.past ++ [B.st]
  coming : B'.coming = []
  dn : NewD H B.sv B'.sv H'
  F : B'.F = B.F
  pv : B'.pv = B.pv ++ [B.sv]
  cv : B'.cv = []
def spCarry (K : PySem.W.Frag) (C : Addr) (fa : Nat → Addr) : Sp := fun vs H Q E => ∃ (b p z : Addr) (Z : List Addr) (B : Brd) (cs : List V) (ts : List Cm), vs = [.ref b, .ref p, .bl false] ∧ CarA K C z Z H b p B cs ts ∧ (∀ y ∈ Z, H y ≠ none) ∧
  (∀ r, batchC B.ms B.room B.st ts = .inl r → EE E fa H r) ∧ (∀ st, batchC B.ms B.room B.st ts = .inr st → ∀ H' B', CarR K C z Z H H' b B B' st → Q .non H')
theorem ok_p_BoardCarry (T : Txt K mg fa fd) (TB : TxB K w fa) : FnOk P w K mg base (L2.CX P w) 9 (fa 1715) (fd 1715) ["self", "commands", "guarded"] (spCarry K (fa 171) fa) := by
  refine T.F_BoardCarry.okX sc_p_BoardCarry (fun vs H Q E h => ?_) (fun cdv A outer s H vs Q E hr h => ?_)
  · obtain ⟨b, p, z, Z, B, cs, ts, rfl, _⟩ := h
    rfl
  · obtain ⟨b, p, z, Z, B, cs, ts, rfl, hA, hZ, q1, q2⟩ := h
    refine ⟨_, (C8.pss_cut (ps_fld (pv 0) pe_bl (by rfl))
      (pss_one (ps_finC (tfs := sFld K (tVar 0) (tC (.bl false)) "working") rfl rfl rfl (takes_of rfl rfl rfl rfl) (fun W pn xe tk po => (C8.pss_cut (ps_expr (pe_callS (ok_p_check_commands T TB) (hr.mono (by decide)) (by rfl) T.g_p_check_commands T.F_p_check_commands.kp T.b_p_check_commands (fun σ => passAt tk σ) (pa_cons (pv 1) pa_nil)))
      (C8.pss_cut (ps_set (i := 3) sc_p_BoardCarry.nd rfl (.inl rfl) (pe_fld (pv 0) (by rfl)))
      (C8.pss_cut (ps_for po rfl (pi_tup (pv 1)) (pg_name (i := 4) sc_p_BoardCarry.nd rfl (.inl rfl)) (pss_one (ps_set (i := 3) sc_p_BoardCarry.nd rfl (.inl rfl) (pe_callS (ok_p_carried_out T) (hr.mono (by decide)) (by rfl) T.g_p_carried_out T.F_p_carried_out.kp T.b_p_carried_out (fun σ => passAt tk σ) (pa_cons (pv 3) (pa_cons (pe_fld (pv 0) (by rfl)) (pa_cons (pe_fld (pv 0) (by rfl)) (pa_cons (pv 4) pa_nil))))))))
      (C8.pss_cut (ps_if (PW.pt (pw_and (pt_val (pv 2)) (pw_and1 pt_never))) (pss_one ps_never) pss_nil)
      (C8.pss_cut (ps_expr (pe_bm PySem.F.plainAttrs_list PySem.F.slot_list_append PySem.F.type_list_append mt_append (pe_fld (pv 0) (by rfl)) (pa_cons (pe_fld (pv 0) (by rfl)) pa_nil)))
      (C8.pss_cut (ps_fld (pv 0) (pe_lst pa_nil) (by rfl))
      (pss_one (ps_expr (pe_meth (pv 0) T.cl_Board T.me_BoardTurn (ok_p_BoardTurn T) (hr.mono (by decide)) T.b_BoardTurn .nil pass0 (pa_cons (pv 3) pa_nil))))))))))) (pss_one (ps_fld (pv 0) pe_bl (by rfl))) (fun a pn => (pss_one (ps_fld (pv 0) pe_bl (by rfl))))))), ?_⟩
    have hB := hA.hB
    refine ⟨fun σ G => G = upd H b (insB (fa 171) B true) ∧ σ = [some (.ref b), some (.ref p), some (.bl false), none, none], ⟨_, rfl, b, _, B.dx, _, rfl, hB.ins, T.cl_Board, T.na_Board_working, by show 8 < 1000; decide, rfl, rfl⟩, fun σ G hM => ?_⟩
    obtain ⟨rfl, rfl⟩ := hM
    have m0 : MutS [b] (B.P :: B.Cm :: Z) H := fun x hx => .inl (by rw [List.mem_singleton.mp hx]; exact ⟨_, _, _, hB.ins⟩)
    have k0 : Kp [b] H (upd H b (insB (fa 171) B true)) := Kp.upd (List.mem_singleton.mpr rfl)
    -- where an error goes
    have away : ∀ (r : Er) (G : Hp), EE E fa H r → Same (upd H b (insB (fa 171) B true)) G → ∀ d H', Same G H' → H' d = some (.xd [("tag", .str r.tag), (r.fld, r.v)]) → H' b = some (insB (fa 171) B true) ∧ E (.ref (fa r.c)) (some d) (upd H' b (insB (fa 171) B false)) := fun r G he s d H' s' hd => by
      have hb' := (s.trans s') _ _ (upd_same : upd H b (insB (fa 171) B true) b = _)
      refine ⟨hb', he d _ (fun x o e => ?_) ?_⟩
      · by_cases n : x = b
        · subst n
          rw [hB.ins] at e
          cases e
          exact upd_same
        · rw [upd_ne n]
          exact (s.trans s') _ _ ((upd_ne n).trans e)
      · rw [upd_ne (ne_of hd hb' (by intro z; cases z))]
        exact hd
    generalize hG0 : upd H b (insB (fa 171) B true) = G0 at m0 k0 away ⊢
    have hb0 : G0 b = some (insB (fa 171) B true) := by rw [← hG0]; exact upd_same
    have st0 := hB.st.kp m0 k0
    have tt0 : TT H G0 := m0.tt k0
    have hp0 : SqT K G0 p cs := by
      rcases hA.hp with (e | ⟨o, e⟩) | e
      · exact .inl (.inl (k0 _ _ e fun z => by rw [List.mem_singleton.mp z, hB.ins] at e; cases e))
      · exact .inl (.inr ⟨o, k0 _ _ e fun z => by rw [List.mem_singleton.mp z, hB.ins] at e; cases e⟩)
      · exact .inr e
    have hc0 : Paired (CmdM K z G0) cs ts := paired_mono (fun _ _ q => q.kp1 hB.ins k0) hA.hc
    have un0 : G0 B.un = some (.tup (B.ms.map V.str)) := tt0 _ _ hB.un
    have nk0 : ∀ {x : Addr} {o : HO}, x ≠ b → H x = some o → G0 x = some o := fun n e => k0 _ _ e fun m => n (List.mem_singleton.mp m)
    have few := hA.few
    have cl : cs.length = ts.length := Paired.length hc0
    obtain ⟨xss, hx1, hx2⟩ := cmds_head hc0
    intro pn xe
    -- the commands are commands
    refine ⟨fun σ G => G = G0 ∧ σ = [some (.ref b), some (.ref p), some (.bl false), none, none], ⟨_, rfl, p, cs, xss, rfl, hp0, by omega, hx1, fun _ => ⟨rfl, rfl⟩, fun xs e => by rw [hx2] at e; cases e⟩, fun σ G hM => ?_⟩
    obtain ⟨rfl, rfl⟩ := hM
    refine ⟨fun σ G' => G' = G ∧ σ = [some (.ref b), some (.ref p), some (.bl false), some B.sv, none], ⟨_, rfl, _, _, B.dx, _, _, rfl, hb0, T.cl_Board, T.na_Board_state, bf_state, rfl, rfl⟩, fun σ G' hM => ?_⟩
    obtain ⟨rfl, rfl⟩ := hM
    -- one after another
    refine ⟨fun σ G => Same G' G ∧ ∃ sv st y4, StA z (B.P :: B.Cm :: Z) G sv st ∧ NewD G' B.sv sv G ∧ batchC B.ms B.room B.st ts = .inr st ∧ st.1.length ≤ 50 ∧ σ = [some (.ref b), some (.ref p), some (.bl false), some sv, y4], ?_, fun σ G hM => ?_⟩
    · refine ⟨_, rfl, p, rfl, ⟨_, hp0⟩, for_tup (K := K) (a := p) (xs := cs) (fun i σ G => Same G' G ∧ ∃ sv st y4, StA z (B.P :: B.Cm :: Z) G sv st ∧ NewD G' B.sv sv G ∧ batchC B.ms B.room B.st ts = batchC B.ms B.room st (ts.drop i) ∧ st.1.length ≤ B.st.1.length + i ∧ i ≤ ts.length ∧ σ = [some (.ref b), some (.ref p), some (.bl false), some sv, y4]) ⟨Same.refl _, _, _, _, st0, NewD.refl, rfl, Nat.le_refl _, Nat.zero_le _, rfl⟩ (fun i σ G _ hq => SqT_sm hq.1 hp0) (fun i x σ G hx hq => ?_) (fun σ G hq => ?_)⟩
      · obtain ⟨sG, sv, st, y4, hst, hnd, hbt, hln, hil, rfl⟩ := hq
        have lt : i < ts.length := by
          have := (List.getElem?_eq_some_iff.mp hx).1
          omega
        obtain ⟨t, ht⟩ : ∃ t, ts[i]? = some t := ⟨_, List.getElem?_eq_getElem lt⟩
        obtain ⟨v, hv, c, rfl, hcc⟩ := paired_at i hc0 ht
        rw [hx] at hv
        cases hv
        have dr : ts.drop i = t :: ts.drop (i + 1) := by
          rw [List.drop_eq_getElem_cons lt]
          congr 1
          exact (List.getElem?_eq_some_iff.mp ht).2
        rw [dr] at hbt
        have hbG := sG _ _ hb0
        have hzG : ∀ y ∈ B.P :: B.Cm :: Z, G y ≠ none := fun y hy e => by
          have g0 : ∀ {x : Addr} {o : HO}, H x = some o → G x ≠ none := fun {x o} e2 e3 => by
            by_cases n : x = b
            · rw [n, hbG] at e3
              cases e3
            · rw [sG _ _ (nk0 n e2)] at e3
              cases e3
          rcases List.mem_cons.mp hy with rfl | hy
          · exact g0 hB.hP e
          rcases List.mem_cons.mp hy with rfl | hy
          · exact g0 hB.hC e
          · cases e2 : H y with
            | none => exact hZ y hy e2
            | some o => exact g0 e2 e
        refine ⟨_, rfl, _, rfl, _, _, B.dx, _, _, rfl, hbG, T.cl_Board, T.na_Board_unknowns, bf_un, _, rfl, _, _, B.dx, _, _, rfl, hbG, T.cl_Board, T.na_Board_room, bf_room, _, rfl, ?_⟩
        refine ⟨sv, B.un, c, z, B.P :: B.Cm :: Z, B.room, st, B.ms, t, rfl, hst, .inr (SqT.of (sG _ _ un0)), hcc.same sG, by have := hA.ln; omega, hzG, fun r hr => ?_, fun hn sv' G2 s2 hst2 hn2 => ?_⟩
        · have he := q1 r (hbt.trans (batchC_err hr))
          intro d H' s' hd
          obtain ⟨a1, a2⟩ := away r G he sG d H' s' hd
          exact ⟨_, rfl, b, _, B.dx, _, rfl, a1, T.cl_Board, T.na_Board_working, by show 8 < 1000; decide, a2⟩
        · refine ⟨sG.trans s2, sv', t.go st, some (.ref c), hst2, hnd.trans hn2 sG, hbt.trans (batchC_ok hn), ?_, lt, rfl⟩
          cases t with
          | tie x d =>
            show (st.1 ++ [(x, d)]).length ≤ _
            rw [List.length_append]
            show _ + 1 ≤ _
            omega
          | wish x u v =>
            show st.1.length ≤ _
            omega
          | first x =>
            show st.1.length ≤ _
            omega
          | drop x =>
            show (st.1.filter _).length ≤ _
            exact Nat.le_trans (List.length_filter_le ..) (by omega)
      · obtain ⟨sG, sv, st, y4, hst, hnd, hbt, hln, hil, rfl⟩ := hq
        rw [cl, List.drop_length] at hbt
        exact ⟨sG, sv, st, y4, hst, hnd, hbt, by have := hA.ln; omega, rfl⟩
    obtain ⟨sG, sv, st, y4, hst, hnd, hbt, hln, rfl⟩ := hM
    refine ⟨fun σ G2 => G2 = G ∧ σ = [some (.ref b), some (.ref p), some (.bl false), some sv, y4], ⟨_, rfl, _, rfl, iteF (iteF ⟨rfl, rfl⟩)⟩, fun σ G2 hM => ?_⟩
    obtain ⟨rfl, rfl⟩ := hM
    have hbG := sG _ _ hb0
    have hPG := sG _ _ (nk0 hB.bP hB.hP)
    have hCG := sG _ _ (nk0 hB.bC hB.hC)
    have hFG := sG _ _ (m0.dk k0 hB.hF)
    have unG := sG _ _ un0
    have pvl : B.pv.length = B.past.length := Paired.length hB.past
    have hpl := hA.pl
    -- the past
    refine ⟨fun σ G3 => G3 = upd G2 B.P (.lst (B.pv ++ [B.sv])) ∧ σ = [some (.ref b), some (.ref p), some (.bl false), some sv, y4], ?_, fun σ G3 hM => ?_⟩
    · exact ⟨_, rfl, _, _, B.dx, _, _, rfl, hbG, T.cl_Board, T.na_Board_past, bf_past, .inl ⟨rfl, _, SqL.of hPG⟩, _, rfl, _, _, B.dx, _, _, rfl, hbG, T.cl_Board, T.na_Board_state, bf_state, B.P, _, _, rfl, rfl, hPG, small1000 (by omega), rfl, rfl⟩
    obtain ⟨rfl, rfl⟩ := hM
    have hb3 : upd G2 B.P (.lst (B.pv ++ [B.sv])) b = some (insB (fa 171) B true) := (upd_ne hB.bP.symm).trans hbG
    -- nothing to come
    refine ⟨fun σ G4 => ∃ Cm : Addr, G2 Cm = none ∧ Cm ≠ B.P ∧ G4 = upd (upd (upd G2 B.P (.lst (B.pv ++ [B.sv]))) Cm (.lst [])) b (insB (fa 171) { B with Cm := Cm } true) ∧ σ = [some (.ref b), some (.ref p), some (.bl false), some sv, y4], ?_, fun σ G4 hM => ?_⟩
    · refine ⟨small_line (by show 0 ≤ 1000; decide), fun Cm nC => ?_⟩
      have n1 : Cm ≠ B.P := fun e => by rw [e, upd_same] at nC; cases nC
      have n2 : G2 Cm = none := by
        rw [upd_ne n1] at nC
        exact nC
      have hb4 : upd (upd G2 B.P (.lst (B.pv ++ [B.sv]))) Cm (.lst []) b = some (insB (fa 171) B true) := same_upd nC _ _ hb3
      exact ⟨_, rfl, b, _, B.dx, _, rfl, hb4, T.cl_Board, T.na_Board_coming, by show 8 < 1000; decide, Cm, n2, n1, rfl, rfl⟩
    obtain ⟨Cm, nCm, nCP, rfl, rfl⟩ := hM
    have nCb : Cm ≠ b := fun e => by rw [e, hbG] at nCm; cases nCm
    have hF4 : upd (upd (upd G2 B.P (.lst (B.pv ++ [B.sv]))) Cm (.lst [])) b (insB (fa 171) { B with Cm := Cm } true) B.F = some (.dK []) := by
      rw [upd_ne (ne_of hFG hbG (by intro z; cases z)), upd_ne (ne_of_none hFG nCm), upd_ne (ne_of hFG hPG (by intro z; cases z))]
      exact hFG
    refine ⟨_, rfl, b, B.dx, _, rfl, upd_same, rfl, _, rfl, b, B.F, { B with Cm := Cm }, true, sv, rfl, upd_same, rfl, hF4, ?_⟩
    refine ⟨_, rfl, b, _, B.dx, _, rfl, upd_same, T.cl_Board, T.na_Board_working, by show 8 < 1000; decide, ?_⟩
    have at3 : ∀ {x : Addr} {o u1 u2 u3 : HO}, x ≠ b → x ≠ Cm → x ≠ B.P → G2 x = some o → upd (upd (upd (upd (upd G2 B.P (.lst (B.pv ++ [B.sv]))) Cm (.lst [])) b u1) b u2) b u3 x = some o := fun h1 h2 h3 e => by
      rw [upd_ne h1, upd_ne h1, upd_ne h1, upd_ne h2, upd_ne h3]
      exact e
    have kp2 : ∀ {u1 u2 u3 : HO}, Kp [b, B.P] G2 (upd (upd (upd (upd (upd G2 B.P (.lst (B.pv ++ [B.sv]))) Cm (.lst [])) b u1) b u2) b u3) := fun x o e n => at3 (fun z => n (z ▸ .head _)) (ne_of_none e nCm) (fun z => n (z ▸ .tail _ (.head _))) e
    have m2 : MutS [b, B.P] (B.P :: Cm :: Z) G2 := fun x hx => by
      rcases List.mem_cons.mp hx with rfl | hx
      · exact .inl ⟨_, _, _, hbG⟩
      · rw [List.mem_singleton.mp hx]
        exact .inr ⟨.head _, _, hPG⟩
    have wd : ∀ {v : V} {s : Ste}, StA z (B.P :: B.Cm :: Z) G2 v s → StA z (B.P :: Cm :: Z) G2 v s := fun h => h.wider fun l us e n m => by
      rcases List.mem_cons.mp m with q | m
      · exact n (q ▸ .head _)
      · rcases List.mem_cons.mp m with q | m
        · rw [q, nCm] at e
          cases e
        · exact n (.tail _ (.tail _ m))
    have toG : ∀ {v : V} {s : Ste}, StA z (B.P :: B.Cm :: Z) H v s → StA z (B.P :: B.Cm :: Z) G2 v s := fun h => (h.kp m0 k0).same sG
    have exH : ∀ {x : Addr} {o : HO}, x ≠ b → H x = some o → G2 x = some o := fun n e => sG _ _ (nk0 n e)
    refine q2 st hbt _ { B with Cm := Cm, sv := sv, st := st, past := B.past ++ [B.st], pv := B.pv ++ [B.sv], coming := [], cv := [] } ⟨?_, ?_, rfl, rfl, rfl, rfl, ?_, rfl, rfl, ?_, rfl, rfl, rfl⟩
    · intro x o e n
      have xb : x ≠ b := fun z => n (z ▸ .head _)
      exact kp2 x o (exH xb e) n
    · refine ⟨upd_same, (m2.tt kp2) _ _ unG, (wd hst).kp m2 kp2, ?_, ?_, m2.dk kp2 hFG, paired_snoc (paired_mono (fun _ _ q => (wd (toG q)).kp m2 kp2) hB.past) ((wd (toG hB.st)).kp m2 kp2), .nil, nCP.symm, hB.nP, fun m => ?_, hB.ml, hB.mx, ?_, Nat.zero_le _⟩
      · show upd (upd (upd (upd (upd G2 B.P _) Cm _) b _) b _) b _ B.P = _
        rw [upd_ne hB.bP, upd_ne hB.bP, upd_ne hB.bP, upd_ne nCP.symm, upd_same]
      · show upd (upd (upd (upd (upd G2 B.P _) Cm _) b _) b _) b _ Cm = _
        rw [upd_ne nCb, upd_ne nCb, upd_ne nCb, upd_same]
      · have hz := hZ _ m
        cases e : H Cm with
        | none => exact hz e
        | some o => rw [exH nCb e] at nCm; cases nCm
      · show (B.past ++ [B.st]).length ≤ 900
        rw [List.length_append]
        show _ + 1 ≤ 900
        omega
    · cases e : H Cm with
      | none => rfl
      | some o => rw [exH nCb e] at nCm; cases nCm
    · intro p0 e0 l0 ev hp0
      obtain ⟨p1, d1, l1, _, _, e1, g1, _⟩ := hst.ex
      have e2 : V.ref p0 = V.ref p1 := ev.symm.trans e1
      cases e2
      have g2 := hp0.symm.trans ((m2.tt kp2) _ _ g1)
      cases g2
      rcases hnd p0 e0 l0 ev g1 with n | ⟨p2, l2, f1, f2⟩
      · refine .inl ?_
        cases e : H e0 with
        | none => rfl
        | some o =>
          by_cases c : e0 = b
          · rw [c, hb0] at n
            cases n
          · rw [nk0 c e] at n
            cases n
      · obtain ⟨p3, d3, l3, _, _, f3, f4, _⟩ := hB.st.ex
        have f5 : V.ref p2 = V.ref p3 := f1.symm.trans f3
        cases f5
        have f6 := tt0 _ _ f4
        rw [f2] at f6
        cases f6
        exact .inr ⟨p2, _, f1, f4⟩
end
section
variable {P : Program} {w : World} {K : PySem.W.Frag} {mg : Str → Option Value} {base : Heap} {fa : Nat → Addr} {fd : Nat → FuncData}
def spBLab (K : PySem.W.Frag) (C : Addr) : Sp := fun vs H Q _ => ∃ (b z : Addr) (Z : List Addr) (B : Brd) (wk : Bool), vs = [.ref b] ∧ BdA K C z Z H b B wk ∧ B.st.1.length + B.st.2.length ≤ 60 ∧ AscQ H Q (tls B.st ++ wls B.st)
theorem ok_p_BoardLabels (T : Txt K mg fa fd) : FnOk P w K mg base CX0 2 (fa 1725) (fd 1725) ["self"] (spBLab K (fa 171)) := by
  refine T.F_BoardLabels.ok sc_p_BoardLabels (fun vs H Q E h => ?_) (fun cdv A outer s H vs Q E hr h => ?_)
  · obtain ⟨b, z, Z, B, wk, rfl, _⟩ := h
    rfl
  · obtain ⟨b, z, Z, B, wk, rfl, hB, few, q⟩ := h
    refine ⟨_, (pss_one (ps_ret (pe_callB cr_sortedS (by rfl) T.m_sorted (by decide +kernel) (pa_cons (pe_lc (own := [("label", 1)]) (g := gName 1) (tt := tYes) rfl sc_p_BoardLabels.nd (pi_list (pe_op op_cat (pe_call (ok_p_tie_labels T) (hr.mono (by decide)) (by rfl) T.g_p_tie_labels T.F_p_tie_labels.kp T.b_p_tie_labels .nil pass0 (pa_cons (pe_fld (pv 0) (by rfl)) pa_nil)) (pe_call (ok_p_wish_labels T) (hr.mono (by decide)) (by rfl) T.g_p_wish_labels T.F_p_wish_labels.kp T.b_p_wish_labels .nil pass0 (pa_cons (pe_fld (pv 0) (by rfl)) pa_nil)))) (blkOk_by (own := [("label", 1)]) (N := ["self", "label"]) (sc := defScope s_p_BoardLabels) (by decide +kernel)) (fun _ _ _ _ _ => pg_name (i := 1) sc_p_BoardLabels.nd rfl (Or.inl rfl)) (fun _ _ _ _ _ => pts_nil) (fun _ _ _ _ _ => (pe_callTy SkE.call_str_str (by rfl) T.m_str (by decide +kernel) (pa_cons (pv 1) pa_nil)))) pa_nil)))), ?_⟩
    have sl : ∃ p d l kvs us, B.sv = V.ref p ∧ H p = some (.tup [.ref d, .ref l]) ∧ H d = some (.dK kvs) ∧ H l = some (.lst us) := by
      obtain ⟨p, d, l, kvs, us, e, h1, h2, h3, _⟩ := hB.st.ex
      exact ⟨p, d, l, kvs, us, e, h1, h2, h3⟩
    have hg := hB.st.g
    refine ⟨_, rfl, _, _, B.dx, _, _, rfl, hB.ins, T.cl_Board, T.na_Board_state, bf_state, B.sv, B.st, z, B.P :: B.Cm :: Z, rfl, hB.st, fun p1 ms H1 s1 np1 hp1 pm sr => ?_⟩
    have hB1 := hB.same s1
    refine ⟨_, rfl, _, _, B.dx, _, _, rfl, hB1.ins, T.cl_Board, T.na_Board_state, bf_state, B.sv, B.st, z, B.P :: B.Cm :: Z, rfl, hB1.st, fun p2 H2 s2 np2 hp2 => ?_⟩
    have tl : (tls B.st).length = B.st.1.length := List.length_map ..
    have wl : (wls B.st).length = B.st.2.length := List.length_map ..
    have ml := pm.length_eq
    refine ⟨p1, p2, _, _, rfl, rfl, s2 _ _ hp1, hp2, small_line (by rw [List.length_map, List.length_map]; omega), fun p3 n3 => ?_⟩
    rw [← List.map_append]
    have s3 := same_upd (o := .lst ((ms ++ wls B.st).map V.str)) n3
    have sz := s1.trans (s2.trans s3)
    refine ⟨p3, rfl, ⟨_, SqL.of upd_same⟩, fun D nD => ?_⟩
    have h3 : (upd H2 p3 (.lst ((ms ++ wls B.st).map V.str))) p3 = some (.lst ((ms ++ wls B.st).map V.str)) := upd_same
    generalize upd H2 p3 (.lst ((ms ++ wls B.st).map V.str)) = H3 at nD h3 sz ⊢
    refine lc_list (K := K) (a := p3) (xs := (ms ++ wls B.st).map V.str) (fun j G => Same H3 G ∧ G D = some (.lst (((ms ++ wls B.st).take j).map V.str))) ⟨same_upd nD, upd_same⟩ (fun j G _ hp => SqL.of (hp.1 _ _ h3)) (fun j y G hy hp => ?_) (fun G hp => ?_)
    · rw [List.getElem?_map] at hy
      obtain ⟨x, hx, rfl⟩ := Option.map_eq_some_iff.mp hy
      have jl := (List.getElem?_eq_some_iff.mp hx).1
      rw [List.length_append] at jl
      refine ⟨rfl, _, rfl, _, rfl, _, hp.2, ?_, ?_, ?_⟩
      · rw [List.length_map, List.length_take, List.length_append]
        exact small1000 (by omega)
      · exact fun c o e => (upd_ne (ne_of_none e nD)).trans (hp.1 c o e)
      · rw [upd_same, List.take_add_one, hx, List.map_append]
        rfl
    · rw [List.length_map, List.take_length] at hp
      have s4 := sz.trans hp.1
      refine ⟨D, _, rfl, SqL.of hp.2, by rw [List.length_append]; omega, fun ys p4 perm srt np => ?_⟩
      refine q p4 ys _ (s4.trans (same_upd np)) (by
        cases e : H p4 with
        | none => rfl
        | some o => rw [s4 _ _ e] at np; cases np) upd_same (perm.trans (pm.append_right _)) srt
end
def LL (x : List Nat) : Prop := x ≠ [] ∧ x.length ≤ 8 ∧ x.all lowc = true
theorem LL.lab {x : List Nat} (h : LL x) : labB x = true := by
  obtain ⟨h1, h2, h3⟩ := h
  unfold labB letB
  rw [decide_eq_true h2, h3]
  cases x with
  | nil => exact absurd rfl h1
  | cons _ _ => rfl
def thr (f k : Nat) : Nat := 97 + (f + 3 * k) % 26
theorem thr_inj {f i j : Nat} (hi : i < 5) (hj : j < 5) (e : thr f i = thr f j) : i = j := by
  unfold thr at e
  omega
def oddLs : List Str := ["", "A", "a b", "abcdefghi", "a'", "1"].map Str.ofString
section
variable {P : Program} {w : World} {K : PySem.W.Frag} {mg : Str → Option Value} {base : Heap} {fa : Nat → Addr} {fd : Nat → FuncData}
def spLabels : Sp := fun vs H Q _ => ∃ (a c : Addr), vs = [.ref a] ∧ FeedOk H a c ∧ ∀ (p : Addr) (ws : List (List Nat)) (o : Str) (H' : Hp), FeedOk H' a c → But a H H' → p ≠ a → H p = none → H' p = some (.lst (ws.map vS ++ [.str o])) → ws.length = 5 → ws.Nodup → (∀ x ∈ ws, LL x) → o ∈ oddLs → Q (.ref p) H'
theorem ok_labels (T : Txt K mg fa fd) : FnOk P w K mg base CX0 3 (fa 194) (fd 194) ["_law_feed_here"] spLabels := by
  refine T.F_labels.ok sc_labels (fun vs H Q E h => ?_) (fun cdv A outer s H vs Q E hr h => ?_)
  · obtain ⟨a, c, rfl, _⟩ := h
    rfl
  · obtain ⟨a, c, rfl, hF, q⟩ := h
    refine ⟨_, (C8.pss_cut (ps_set (i := 1) sc_labels.nd rfl (.inr rfl) pe_str)
      (C8.pss_cut (ps_set (i := 2) sc_labels.nd rfl (.inr rfl) (pe_m1 PySem.F.slot_str_join PySem.F.type_str_join mt_join pe_str (pe_lc (own := [("_law_k", 6)]) (g := gName 6) (tt := tYes) rfl sc_labels.nd (pi_range1 (by rfl) T.m_range (pa_cons (pe_call (ok_draw T) (hr.mono (by decide)) (by rfl) T.g_draw T.F_draw.kp T.b_draw .nil pass0 (pa_cons (pv 0) (pa_cons pe_int pa_nil))) pa_nil)) (blkOk_by (own := [("_law_k", 6)]) (N := ["_law_feed_here", "_law_letters", "_law_stem", "_law_spot", "_law_first", "_law_found", "_law_k"]) (sc := defScope s_labels) (by decide +kernel)) (fun _ _ _ _ _ => pg_name (i := 6) sc_labels.nd rfl (Or.inl rfl)) (fun _ _ _ _ _ => pts_nil) (fun _ _ _ _ _ => (pe_ix ix_str (pv 1) (pe_call (ok_draw T) (hr.mono (by decide)) (by rfl) T.g_draw T.F_draw.kp T.b_draw .nil pass0 (pa_cons (pv 0) (pa_cons pe_int pa_nil))) (fun _ _ => rfl)))) (by rfl) (by rfl) (by rfl)))
      (C8.pss_cut (ps_asg (pe_tup (pa_cons (pe_call (ok_draw T) (hr.mono (by decide)) (by rfl) T.g_draw T.F_draw.kp T.b_draw .nil pass0 (pa_cons (pv 0) (pa_cons (pe_op op_add (pe_callB call_len_str (by rfl) T.m_len PySem.boot_len (pa_cons (pv 2) pa_nil)) pe_int) pa_nil))) (pa_cons (pe_call (ok_draw T) (hr.mono (by decide)) (by rfl) T.g_draw T.F_draw.kp T.b_draw .nil pass0 (pa_cons (pv 0) (pa_cons pe_int pa_nil))) pa_nil))) (pg_tup (by rfl) (pgs_cons (pg_name (i := 3) sc_labels.nd rfl (.inr rfl)) (pgs_cons (pg_name (i := 4) sc_labels.nd rfl (.inr rfl)) pgs_nil))))
      (C8.pss_cut (ps_setLc (i := 5) (own := [("_law_k", 6)]) (g := gName 6) (tt := tYes) rfl sc_labels.nd rfl rfl (sw_true rfl rfl rfl (by decide +kernel)) (pi_range1 (by rfl) T.m_range (pa_cons pe_int pa_nil)) (blkOk_by (own := [("_law_k", 6)]) (N := ["_law_feed_here", "_law_letters", "_law_stem", "_law_spot", "_law_first", "_law_found", "_law_k"]) (sc := defScope s_labels) (by decide +kernel)) (fun _ _ _ _ _ => pg_name (i := 6) sc_labels.nd rfl (Or.inl rfl)) (fun _ _ _ _ _ => pts_nil) (fun _ _ _ _ _ => (pe_op op_add_str (pe_op op_add_str (pe_slice sl_str (pv 2) po_none (po_some (pv 3))) (pe_ix ix_str (pv 1) (pe_op op_mod (pe_callTy call_int1 (by rfl) T.m_int PySem.Pv.boot_int (pa_cons (pe_op op_add (pv 4) (pe_op op_mul pe_int (pv 6))) pa_nil)) pe_int) (fun _ _ => rfl))) (pe_slice sl_str (pv 2) (po_some (pv 3)) po_none))))
      (pss_one (ps_ret (pe_op op_cat (pv 5) (pe_lst (pa_cons (pe_call (ok_any T) (hr.mono (by decide)) (by rfl) T.g_any T.F_any.kp T.b_any .nil pass0 (pa_cons (pv 0) (pa_cons (pe_lst (pa_cons pe_str (pa_cons pe_str (pa_cons pe_str (pa_cons pe_str (pa_cons pe_str (pa_cons pe_str pa_nil))))))) pa_nil))) pa_nil))))))))), ?_⟩
    refine ⟨fun σ H1 => H1 = H ∧ σ = [some (.ref a), some (.str ABC), none, none, none, none, none], ⟨rfl, rfl⟩, fun σ H1 hM => ?_⟩
    obtain ⟨rfl, rfl⟩ := hM
    -- stem
    refine ⟨fun σ H2 => FeedOk H2 a c ∧ But a H1 H2 ∧ ∃ st : List Nat, st.length ≤ 7 ∧ st.all lowc = true ∧ σ = [some (.ref a), some (.str ABC), some (vS st), none, none, none, none], ?_, fun σ H2 hM => ?_⟩
    · refine ⟨⟨_, rfl⟩, _, rfl, a, c, _, rfl, hF, mid_of (by decide) (by decide), fun r H2 r0 r1 hF2 b2 => ?_⟩
      refine ⟨r, rfl, by omega, by omega, fun D nD => ?_⟩
      obtain ⟨n, rfl⟩ := Int.eq_ofNat_of_zero_le r0
      have nDa := new_ne hF2 nD
      have nDc := new_nc hF2 nD
      have nD1 := but_none b2 nD nDa
      refine lc_range (n := n) (fun i H3 => FeedOk H3 a c ∧ But a H1 H3 ∧ ∃ st : List Nat, st.length = i ∧ st.all lowc = true ∧ H3 D = some (.lst (st.map fun c => vS [c]))) ⟨hF2.new nD, b2.updN nD1, [], rfl, rfl, upd_same⟩ (fun i H3 hi hp => ?_) (fun H3 hp => ?_)
      · obtain ⟨hF3, b3, st, hl, hs, hD⟩ := hp
        refine ⟨rfl, _, rfl, _, rfl, a, c, _, rfl, hF3, mid_of (by decide) (by decide), fun r2 H4 r3 r4 hF4 b4 => ?_⟩
        refine ⟨_, _, _, rfl, rfl, small_line (by decide), abc_at r3 r4, _, b4 _ _ nDa hD, ?_, hF4.put nDa nDc, (b3.trans b4).updN nD1, st ++ [97 + r2.toNat], ?_, ?_, ?_⟩
        · rw [List.length_map]
          exact small1000 (by omega)
        · rw [List.length_append, hl]
          rfl
        · rw [List.all_append, hs, Bool.true_and]
          simp [low_abc (show r2.toNat < 26 by omega)]
        · rw [upd_same, List.map_append]
          rfl
      · obtain ⟨hF3, b3, st, hl, hs, hD⟩ := hp
        have em : (st.map fun c => vS [c]) = (st.map fun c => SX.S [c]).map V.str := by rw [List.map_map]; rfl
        refine ⟨_, D, st.map fun c => SX.S [c], rfl, rfl, .inl (SqL.of (by rw [← em]; exact hD)), ?_, hF3, b3, st, by omega, hs, ?_⟩
        · have : ∀ l : List Nat, ((l.map fun c => SX.S [c]).map (·.length)).sum = l.length := fun l => by
            induction l with
            | nil => rfl
            | cons x l ih =>
              rw [List.map_cons, List.map_cons, List.sum_cons, ih, List.length_cons, SX.S_len]
              exact Nat.add_comm _ _
          rw [this, List.length_map]
          show st.length + st.length * 0 ≤ _
          omega
        · have e : Txt.join (Str.ofString "") (st.map fun c => SX.S [c]) = SX.S st := by
            have := SX.join_S [] (st.map fun c => [c])
            rw [join_singles, List.map_map] at this
            exact this
          rw [e]
          rfl
    obtain ⟨hF2, b2, st, hst, hsl, rfl⟩ := hM
    -- spot, first
    refine ⟨fun σ H3 => FeedOk H3 a c ∧ But a H1 H3 ∧ ∃ (sp f : Nat), f < 26 ∧ σ = [some (.ref a), some (.str ABC), some (vS st), some (.int sp), some (.int f), none, none], ?_, fun σ H3 hM => ?_⟩
    · have sl : (SX.S st).length = st.length := SX.S_len st
      refine ⟨_, rfl, _, rfl, _, rfl, small_line (by omega), _, _, rfl, rfl, a, c, _, rfl, hF2, mid_of (by omega) (by omega), fun r H3 r0 r1 hF3 b3 => ?_⟩
      refine ⟨_, rfl, a, c, _, rfl, hF3, mid_of (by decide) (by decide), fun r2 H4 r3 r4 hF4 b4 => ?_⟩
      obtain ⟨sp, rfl⟩ := Int.eq_ofNat_of_zero_le r0
      obtain ⟨f, rfl⟩ := Int.eq_ofNat_of_zero_le r3
      refine ⟨two_line, fun p np => ?_⟩
      have sq := same_upd (o := .tup [V.int (sp : Int), .int (f : Int)]) np
      exact ⟨p, _, rfl, .inl (.inl upd_same), rfl, _, _, rfl, _, _, rfl, rfl, hF4.same sq, b2.trans (b3.trans (b4.trans (But.of sq))), sp, f, by omega, rfl⟩
    clear hF2 b2 H2
    obtain ⟨hF3, b3, sp, f, hf, rfl⟩ := hM
    -- found
    refine ⟨fun σ H4 => FeedOk H4 a c ∧ But a H1 H4 ∧ ∃ p, p ≠ a ∧ H4 p = some (.lst (((List.range 5).map fun k => st.take sp ++ [thr f k] ++ st.drop sp).map vS)) ∧ σ = [some (.ref a), some (.str ABC), some (vS st), some (.int sp), some (.int f), some (.ref p), none], ?_, fun σ H4 hM => ?_⟩
    · refine ⟨5, rfl, by decide, by decide, fun D nD => ?_⟩
      have nDa := new_ne hF3 nD
      have nDc := new_nc hF3 nD
      have nD1 := but_none b3 nD nDa
      have sl : (SX.S st).length = st.length := SX.S_len st
      refine lc_range (n := 5) (fun i H4 => FeedOk H4 a c ∧ But a H1 H4 ∧ H4 D = some (.lst (((List.range i).map fun k => st.take sp ++ [thr f k] ++ st.drop sp).map vS))) ⟨hF3.new nD, b3.updN nD1, upd_same⟩ (fun i H4 hi hp => ?_) (fun H4 hp => ⟨hp.1, hp.2.1, D, nDa, hp.2.2, rfl⟩)
      obtain ⟨hF4, b4, hD⟩ := hp
      have m0 : (0 : Int) ≤ ((f : Int) + 3 * (0 + (i : Int))) % 26 := by omega
      have m1 : ((f : Int) + 3 * (0 + (i : Int))) % 26 < 26 := by omega
      have m2 : 97 + (((f : Int) + 3 * (0 + (i : Int))) % 26).toNat = thr f i := by
        unfold thr
        omega
      have it := abc_at m0 m1
      rw [m2] at it
      refine ⟨rfl, _, rfl, _, rfl, _, rfl, _, rfl, small_line (by omega), _, rfl, _, rfl, _, rfl, _, _, rfl, rfl, .inl (by decide), _, _, rfl, rfl, .inl ⟨_, rfl, _, _, rfl, rfl, (by show (0 : Int) < 26; decide), ?_⟩⟩
      refine ⟨_, _, _, rfl, rfl, small_line (by decide), it, _, _, rfl, rfl, ?_, _, rfl, _, rfl, _, rfl, _, rfl, small_line (by omega), _, _, rfl, rfl, ?_, _, hD, ?_, ?_, ?_, ?_⟩
      · rw [cut_to, SX.S_len, List.length_take]
        exact small_line (by show min sp st.length + 1 ≤ 1000; omega)
      · rw [cut_to, cut_from, show ({ cps := #[thr f i] } : Str) = SX.S [thr f i] from rfl, SX.S_cat, SX.S_len, SX.S_len, List.length_append, List.length_take, List.length_drop]
        exact small_line (by show min sp st.length + 1 + (st.length - sp) ≤ 1000; omega)
      · rw [List.length_map, List.length_map, List.length_range]
        exact small1000 (by omega)
      · exact hF4.put nDa nDc
      · exact b4.updN nD1
      · rw [upd_same, cut_to, cut_from, show ({ cps := #[thr f i] } : Str) = SX.S [thr f i] from rfl, SX.S_cat, SX.S_cat, List.range_succ, List.map_append, List.map_append]
        rfl
    clear hF3 b3 H3
    obtain ⟨hF4, b4, p, npa, hp, rfl⟩ := hM
    have lw0 : ∀ x ∈ (List.range 5).map fun k => st.take sp ++ [thr f k] ++ st.drop sp, LL x := fun x hx => by
      obtain ⟨k, hk, rfl⟩ := List.mem_map.mp hx
      refine ⟨by simp, ?_, ?_⟩
      · rw [List.length_append, List.length_append, List.length_take, List.length_drop]
        show min sp st.length + 1 + (st.length - sp) ≤ 8
        omega
      · rw [List.all_append, List.all_append, List.all_eq_true.mpr fun y hy => List.all_eq_true.mp hsl y (List.mem_of_mem_take hy), List.all_eq_true.mpr fun y hy => List.all_eq_true.mp hsl y (List.mem_of_mem_drop hy)]
        have l : lowc (thr f k) = true := low_abc (Nat.mod_lt _ (by decide))
        simp [l]
    have nd0 : ((List.range 5).map fun k => st.take sp ++ [thr f k] ++ st.drop sp).Nodup := nodup_range_map fun i j hi hj e => thr_inj (by omega) (by omega) (put_inj e)
    refine ⟨_, rfl, _, rfl, small_line (by show 6 ≤ 1000; decide), fun e ne => ?_⟩
    have se := same_upd (o := .lst (oddLs.map V.str)) ne
    refine ⟨a, c, e, oddLs.map V.str, rfl, hF4.same se, upd_same, new_ne hF4 ne, by show 0 < 6; decide, by show 6 ≤ 1000; decide, fun v H6 hv hF6 b6 => ⟨one_line, fun e2 ne2 => ?_⟩⟩
    obtain ⟨o, ho, rfl⟩ := List.mem_map.mp hv
    have s2 := same_upd (o := .lst [V.str o]) ne2
    have b16 := b4.trans ((But.of se).trans b6)
    have hp6 : upd H6 e2 (.lst [V.str o]) p = some (.lst (((List.range 5).map fun k => st.take sp ++ [thr f k] ++ st.drop sp).map vS)) := s2 _ _ (b6 _ _ npa (se _ _ hp))
    refine ⟨p, e2, _, _, rfl, rfl, hp6, upd_same, small_line (by rw [List.length_map, List.length_map, List.length_range]; show 5 + 1 ≤ 1000; decide), fun L nL => ?_⟩
    have s3 := same_upd (o := .lst (((List.range 5).map fun k => st.take sp ++ [thr f k] ++ st.drop sp).map vS ++ [V.str o])) nL
    have nLa := new_ne (hF6.same s2) nL
    have bF := b16.trans ((But.of s2).trans (But.of s3))
    refine q L _ o _ (hF6.same (s2.trans s3)) bF nLa (but_none (b16.trans (But.of s2)) nL nLa) upd_same (by rw [List.length_map, List.length_range]) nd0 lw0 ho
end
/-- a list that is not the feed's -/
def Ls (a : Addr) (H : Hp) (p : Addr) (xs : List V) : Prop := p ≠ a ∧ H p = some (.lst xs)
theorem Ls.but {a p : Addr} {H H' : Hp} {xs : List V} (h : Ls a H p xs) (b : But a H H') : Ls a H' p xs := ⟨h.1, b _ _ h.1 h.2⟩
theorem tabs_but {L : List (Addr × Str)} {H H' : Hp} {a c : Addr} (hF : FeedOk H a c) (b : But a H H') (t : LamX.Tabs L H) : LamX.Tabs L H' := fun p hp => by
  obtain ⟨ns, k, big, mark, ha, _⟩ := hF
  obtain ⟨ps, h1, h2, h3⟩ := t p hp
  refine ⟨ps, b _ _ (ne_of h1 ha (by intro z; cases z)) h1, h2, fun pos cv hc => ?_⟩
  obtain ⟨c', e1, e2⟩ := h3 pos cv hc
  exact ⟨c', e1, b _ _ (ne_of e2 ha (by intro z; unfold LamX.CodeO at z; cases z)) e2⟩
theorem FeedOk.ext {H H' : Hp} {a c : Addr} (h : FeedOk H a c) (s : LamX.ExtN H H') : FeedOk H' a c := by
  obtain ⟨ns, k, big, mark, h1, h2, h3⟩ := h
  exact ⟨ns, k, big, mark, s _ _ h1 (by intro ps z; cases z), s _ _ h2 (by intro ps z; cases z), h3⟩
theorem eqd_bl {H : Hp} {n : Nat} (b : Bool) : Eqd H n (.bl b) (.bl b) := Eqd.leaf ⟨rfl, .inr (.inl ⟨b, rfl⟩)⟩
def tbs (Pt : Addr) : List (Addr × Str) := [(Pt, (("law" : Str) ++ ".<locals>.") ++ "<lambda>")]

theorem Dt.ext {z : Addr} {H H' : Hp} {v : V} {d : PyData} (h : Dt z H v d) (x : LamX.ExtN H H') : Dt z H' v d := Dt.via (fun a o e k => x a o e (by
  rcases k with ⟨⟨xs, rfl⟩, _⟩ | ⟨xs, rfl⟩
  · intro ps z; cases z
  · intro ps z; cases z)) d v h
theorem DtAll.ext {z : Addr} {H H' : Hp} {v : List V} {d : List PyData} (h : DtAll z H v d) (x : LamX.ExtN H H') : DtAll z H' v d := DtAll.via (fun a o e k => x a o e (by
  rcases k with ⟨⟨xs, rfl⟩, _⟩ | ⟨xs, rfl⟩
  · intro ps z; cases z
  · intro ps z; cases z)) d v h
theorem DtAll.but {z : Addr} {H H' : Hp} {c : Addr} (hF : FeedOk H z c) (b : But z H H') : ∀ {vs : List V} {ds : List PyData}, DtAll z H vs ds → DtAll z H' vs ds
  | _, _, .nil => .nil
  | _, _, .cons h t => .cons (h.but hF b) (DtAll.but hF b t)
theorem tabs_lst {L : List (Addr × Str)} {H : Hp} {D : Addr} {xs : List V} {o : HO} (t : LamX.Tabs L H) (hD : H D = some (.lst xs)) : LamX.Tabs L (upd H D o) := fun p hp => by
  obtain ⟨ps, h1, h2, h3⟩ := t p hp
  refine ⟨ps, ?_, h2, fun pos cv hc => ?_⟩
  · rw [upd_ne (ne_of h1 hD (by intro z; cases z))]
    exact h1
  · obtain ⟨c', e1, e2⟩ := h3 pos cv hc
    refine ⟨c', e1, ?_⟩
    rw [upd_ne (ne_of e2 hD (by intro z; unfold LamX.CodeO at z; cases z))]
    exact e2
theorem keep_ext {H H' : Hp} (x : LamX.ExtN H H') : Keep2 H H' := fun b o e n _ => x b o e n
theorem keep_same {H H' : Hp} (x : Same H H') : Keep2 H H' := fun b o e _ _ => x b o e
theorem keep_lst {H : Hp} {D : Addr} {xs : List V} {o : HO} (hD : H D = some (.lst xs)) : Keep2 H (upd H D o) := fun b u e _ n => by
  rw [upd_ne (ne_of e hD (n _))]
  exact e
theorem ext_same {H H' : Hp} (x : Same H H') : LamX.ExtN H H' := fun b o e _ => x b o e
/-- a tuple of a tag and a field -/
def tgD (r : Str × PyData) : PyData := .tuple [.str r.1, r.2]
theorem dp_tags {K : PySem.W.Frag} {H : Hp} : ∀ {ps : List Addr} {res : List (Str × V)} {ds : List (Str × PyData)}, Paired (fun p (r : Str × V) => H p = some (.tup [.str r.1, r.2])) ps res → Paired (fun (r : Str × V) d => r.1 = d.1 ∧ Dp K H r.2 d.2) res ds → DpAll K H (ps.map V.ref) (ds.map tgD)
  | _, _, _, .nil, .nil => .nil
  | _, _, _, .cons (b := r) h t, .cons (b := d) k u => by
    obtain ⟨e, k⟩ := k
    refine .cons (.tup (SqT.of h) (.cons ?_ (.cons k .nil))) (dp_tags t u)
    rw [e]
    exact .str _
def spLaw (K : PySem.W.Frag) (Pt : Addr) : Sp := fun vs H Q _ => ∃ (a : Addr) (ns : List Int), vs = [.ref a] ∧ SqL K H a (ns.map V.int) ∧ ns.length ≤ 63 ∧ LamX.Tabs (tbs Pt) H ∧ ∀ H', Q (.bl true) H'
theorem Ls.ext {a p : Addr} {H H' : Hp} {xs : List V} (h : Ls a H p xs) (x : LamX.ExtN H H') : Ls a H' p xs := ⟨h.1, x _ _ h.2 (fun ps z => by cases z)⟩
theorem lay_tag {tag : Str} (h : PyData.strOk tag = true) (d : PyData) : PyData.canLay0 (.tuple [.str tag, d]) = (PyData.canLay0 d && true) := by
  have e : PyData.canLay0 (.tuple [.str tag, d]) = (PyData.strOk tag && (PyData.canLay0 d && true)) := rfl
  rw [e, h, Bool.true_and]
theorem tag1_sh {tag o : Str} (ht : PyData.strOk tag = true) (h : PyData.strOk o = true) : SeqAt.shaped (.tuple [.str tag, .str o]) = true := by
  unfold SeqAt.shaped
  have d : (PyData.tuple [.str tag, .str o]).depth = 1 := rfl
  have e1 : PyData.canLay0 (.str o) = PyData.strOk o := rfl
  rw [d, lay_tag ht, e1, h]
  decide
theorem sh_eqv {d : PyData} (h : SeqAt.shaped d = true) : PyData.eqv d d = true := SeqAt.eqv_refl _ (SeqAt.canLay_of_shaped h)
theorem low_ok {x : List Nat} (h : LW x) : PyData.strOk (SX.S x) = true := lw_uni h
theorem Eqd.up {H : Hp} : ∀ {n : Nat} {v w : V}, Eqd H n v w → Eqd H (n + 1) v w
  | 0, _, _, h => .leaf h
  | n + 1, _, _, h => by
    rcases h with h | ⟨a, b, xs, ys, e1, e2, h, l1, l2, r⟩
    · exact .inl h
    · exact .inr ⟨a, b, xs, ys, e1, e2, h, l1, l2, fun i x y h1 h2 => Eqd.up (r i x y h1 h2)⟩
theorem eqd_strs {H : Hp} {n : Nat} {a b : Addr} {l : List Str} (ha : H a = some (.lst (l.map V.str))) (hb : H b = some (.lst (l.map V.str))) (h : l.length ≤ 1000) : Eqd H (n + 1) (.ref a) (.ref b) := by
  refine .inr ⟨a, b, _, _, rfl, rfl, .inl ⟨ha, hb⟩, rfl, by rw [List.length_map]; exact h, fun i y z h1 h2 => ?_⟩
  have e : y = z := Option.some.inj (h1.symm.trans h2)
  subst e
  rw [List.getElem?_map] at h1
  obtain ⟨o, ho, rfl⟩ := Option.map_eq_some_iff.mp h1
  exact Eqd.leaf ⟨rfl, .inr (.inr (.inr ⟨_, rfl⟩))⟩
theorem prd_at {α β : Type} {R : α → β → Prop} : ∀ {xs : List α} {ys : List β} {i : Nat} {x : α}, Paired R xs ys → xs[i]? = some x → ∃ y, ys[i]? = some y ∧ R x y
  | _, _, 0, _, .cons (b := b) h _, e => by
    cases e
    exact ⟨b, rfl, h⟩
  | _, _, i + 1, _, .cons _ t, e => prd_at (i := i) t e
theorem eqd_row {H : Hp} {n : Nat} {a b : Addr} {xs ys : List V} (ha : H a = some (.lst xs)) (hb : H b = some (.lst ys)) (l : xs.length ≤ 1000) (h : Paired (Eqd H n) xs ys) : Eqd H (n + 1) (.ref a) (.ref b) :=
  .inr ⟨a, b, xs, ys, rfl, rfl, .inl ⟨ha, hb⟩, Paired.length h, l, fun i x y h1 h2 => by
    obtain ⟨y', e, r⟩ := prd_at h h1
    rw [h2] at e
    cases e
    exact r⟩
theorem eqd_s {H : Hp} {n : Nat} (x : Str) : Eqd H n (.str x) (.str x) := Eqd.leaf ⟨rfl, .inr (.inr (.inr ⟨_, rfl⟩))⟩
theorem eqd_i {H : Hp} {n : Nat} (x : Int) : Eqd H n (.int x) (.int x) := Eqd.leaf ⟨rfl, .inr (.inr (.inl ⟨_, rfl⟩))⟩
theorem eqd_b {H : Hp} {n : Nat} (x : Bool) : Eqd H n (.bl x) (.bl x) := Eqd.leaf ⟨rfl, .inr (.inl ⟨_, rfl⟩)⟩
/-! ### errors(asks), as the law calls it -/
section
variable {fa : Nat → Addr} {fd : Nat → FuncData}
/-- an error by its tag and its field -/
def ErrI (K : PySem.W.Frag) (fa : Nat → Addr) (cls : Value) (d : Option Addr) (H' : Hp) (r : Str × V) : Prop := ∃ (C dd : Addr) (fs : List (Str × V)), cls = .ref C ∧ d = some dd ∧ PySem.W.exmAny K (.ref C) [.ref (fa 2), .ref (fa 16)] = some true ∧ XfC K C ∧ PySem.W.findIn K (.ref C) "tag" = some none ∧ H' dd = some (.xd fs) ∧
  fs.lookup ("tag" : Str) = some (.str r.1) ∧ FldOk K C fs r.1 r.2
/-- what a kept lambda does: an error, or a value -/
def ErrT (X : Cx) (fa : Nat → Addr) (σ : List (Option V)) (t : XK → TE) (r : Str × V) (G : Hp) : Prop := ∀ (E' : XK) (Q' : VK),
  (∀ cls d H', Same G H' → ErrI X.K fa cls d H' r → E' cls d H') → (∀ v H', Same G H' → r = (("" : Str), v) → Q' v H') → t E' σ G Q'
theorem tells_of {X : Cx} {σ : L2.St} {t : XK → TE} {r : Str × V} {Hu HZ : Hp} {hh : Heap} (h : ∀ G, Same Hu G → ErrT X fa σ t r G) (s : Same (hpC X hh Hu) HZ) (nu : ∀ c, isC X c → Hu c = none) :
    TTWhy X.K (fa 2) (fa 16) (fun E HZ Q' => tRun X σ t E HZ Q') HZ (fun v H2 => Same HZ H2 ∧ ∃ p, v = .ref p ∧ H2 p = some (.tup [.str r.1, r.2])) := by
  intro H1 Q' E' s1 hv he
  have su : Same Hu (minC X H1) := fun b o e => by
    have nb : ¬ isC X b := fun z => by
      rw [nu b z] at e
      cases e
    rw [minC_n nb]
    exact s1 _ _ (s _ _ ((hpC_n nb).trans e))
  have back : ∀ H', Same (minC X H1) H' → Same H1 (putC X H1 H') := fun H' sG b o e => by
    by_cases z : isC X b
    · rw [putC_c z]
      exact e
    · rw [putC_n z]
      exact sG _ _ ((minC_n z).trans e)
  refine h (minC X H1) su _ _ (fun cls d H' sG hE nn => he cls d _ ?_) (fun v H' sG er nn => hv v _ fun p np => ?_)
  · obtain ⟨C, dd, fs, e1, e2, e3, e4, e5, e6, e7, e8⟩ := hE
    have nd : ¬ isC X dd := fun z => by
      rw [nn dd z] at e6
      cases e6
    exact ⟨C, dd, fs, r.1, r.2, e1, e2, e3, e4, e5, (putC_n nd).trans e6, e7, e8, fun p H'' s2 hp => ⟨s1.trans ((back H' sG).trans s2), p, rfl, hp⟩⟩
  · refine ⟨s1.trans ((back H' sG).trans (same_upd np)), p, rfl, ?_⟩
    rw [upd_same, er]
def tErrs (X : Cx) (k : Nat) (fa : Nat → Addr) (te : TE) : TE := fun σ H Q => te σ H fun x H1 => ∃ (L : Addr) (fs : List Addr) (ts : List (XK → TE)) (res : List (Str × V)), x = .ref L ∧ H1 L = some (.lst (fs.map V.ref)) ∧ fs.length ≤ 900 ∧ Paired (fun f t => LqT X k t H1 f) fs ts ∧
  Paired (fun t r => ∀ G, Same H1 G → ErrT X fa σ t r G) ts res ∧ ∀ D ps H3, Same H1 H3 → H3 D = some (.lst (ps.map V.ref)) → Paired (fun p (r : Str × V) => H3 p = some (.tup [.str r.1, r.2])) ps res → Q (.ref D) H3
theorem lq_paired_mono {α β : Type} {R S : α → β → Prop} (h : ∀ a b, R a b → S a b) : ∀ {xs : List α} {ys : List β}, Paired R xs ys → Paired S xs ys
  | _, _, .nil => .nil
  | _, _, .cons r t => .cons (h _ _ r) (lq_paired_mono h t)
theorem pe_errs {X : Cx} (T : Txt X.K X.mg fa fd) (hfn : ∀ x, X.fn x = true) {k : Nat} (hr : Room (k + 6) X.A) {e : Expr} {te : TE} {p pos : Pos} (hg : Gl X "_law_errors") (he : PE X e te)
    (hst : starEach [e] X.env = (false, eval e X.env) :: starEach [] X.env := by rfl) : PE X (.Call (.Name "_law_errors" p) [e] [] pos) (tErrs X k fa te) := by
  refine ⟨fun pins s σ H Q I h => ?_⟩
  refine wpAny_Call_Name_kw (ld_glob I hg T.g_errors ?_ (by decide))
  refine PySem.W.callWith_K (h₀ := X.base) I.ok.mod.kin T.F_errors.kp (thn ((pa_cons he pa_nil hst).run pos pins s σ H (fun vs H1 => match vs with
    | [x] => ∃ (L : Addr) (fs : List Addr) (ts : List (XK → TE)) (res : List (Str × V)), x = .ref L ∧ H1 L = some (.lst (fs.map V.ref)) ∧ fs.length ≤ 900 ∧ Paired (fun f t => LqT X k t H1 f) fs ts ∧
        Paired (fun t r => ∀ G, Same H1 G → ErrT X fa σ t r G) ts res ∧ ∀ D ps H3, Same H1 H3 → H3 D = some (.lst (ps.map V.ref)) → Paired (fun p (r : Str × V) => H3 p = some (.tup [.str r.1, r.2])) ps res → Q (.ref D) H3
    | _ => False) I h) fun us s1 hq => ?_) hst (by rfl)
  obtain ⟨vs, H1, I1, r, q⟩ := hq
  refine ⟨I1.kIn, ?_⟩
  match vs, q with
  | [x], q =>
    obtain ⟨L, fs, ts, res, rfl, hL, hsz, hts, hres, q⟩ := q
    have C := hpC_cells I1
    have nu : ∀ c, isC X c → H1 c = none := fun c ⟨y, e⟩ => I1.freeC y c e
    have kp := hpC_keep I1
    have notc : ∀ {H3 : Hp} {b : Addr} {o : HO}, Same (hpC X s1.heap H1) H3 → H3 b = some o → (∀ ob u, o ≠ .frz ob u) → ¬ isC X b := fun {H3 b o} s3 e n z => by
      obtain ⟨ob, w, e2, _⟩ := C.all b z
      rw [s3 _ _ e2] at e
      exact n _ _ (Option.some.inj e).symm
    have hl : (us ++ ([] : List Value)).length = (["_law_asks"] : List Str).length := by
      rw [List.append_nil, ← r.length]
      rfl
    have hb := T.b_errors s1 us I1.kIn hl
    rw [List.append_nil] at hb
    refine wpAny_call (codeAny_mono ((ok_errs T I1.ok I1.len (k := k)).run X.A X.stack s1 (hpC X s1.heap H1) ⟨us, []⟩ us [.ref L] (fun v H' => Q v (minC X H')) (fun _ _ _ => False) hr (hpC_env hfn I1) hb r
      ⟨L, fs, ts, res, rfl, kp _ _ hL, hsz, C, lq_paired_mono (fun f t h => LqT.keep h (Same.keep2 kp)) hts, lq_paired_mono (fun t r h HZ sZ => tells_of h sZ nu) hres, fun D ps H3 s3 hD hps => ?_⟩) fun r2 s2 hq2 => ?_)
    · refine q D ps _ (fun b o e => ?_) ?_ (lq_paired_mono (fun p r e => ?_) hps)
      · have nb : ¬ isC X b := fun z => by
          rw [nu b z] at e
          cases e
        rw [minC_n nb]
        exact s3 _ _ (kp _ _ e)
      · rw [minC_n (notc s3 hD fun _ _ z => by cases z)]
        exact hD
      · rw [minC_n (notc s3 e fun _ _ z => by cases z)]
        exact e
    · cases r2 with
      | error e => exact (show False from hq2).elim
      | ok fl =>
        cases fl with
        | ret u => exact hpC_after I1 hq2
        | next => exact False.elim hq2
        | brk => exact False.elim hq2
        | cont => exact False.elim hq2
end
section
variable {P : Program} {w : World} {K : PySem.W.Frag} {mg : Str → Option Value} {base : Heap} {fa : Nat → Addr} {fd : Nat → FuncData}
theorem errI_InvalidName (T : Txt K mg fa fd) {d : Addr} {H : Hp} {v : V} (hd : H d = some (.xd [("tag", .str "InvalidName"), ("name", v)])) : ErrI K fa (.ref (fa 4)) (some d) H ("InvalidName", v) := by
  refine ⟨_, d, _, rfl, rfl, T.eInvalidName.any, T.eInvalidName.xf, T.eInvalidName.tag, hd, by rfl, ?_⟩
  unfold FldOk
  rw [show fieldOf "InvalidName" = some "name" by decide +kernel]
  exact ⟨T.nInvalidName_name, by rfl⟩
theorem errI_InvalidTie (T : Txt K mg fa fd) {d : Addr} {H : Hp} {v : V} (hd : H d = some (.xd [("tag", .str "InvalidTie"), ("at", v)])) : ErrI K fa (.ref (fa 5)) (some d) H ("InvalidTie", v) := by
  refine ⟨_, d, _, rfl, rfl, T.eInvalidTie.any, T.eInvalidTie.xf, T.eInvalidTie.tag, hd, by rfl, ?_⟩
  unfold FldOk
  rw [show fieldOf "InvalidTie" = some "at" by decide +kernel]
  exact ⟨T.nInvalidTie_at, by rfl⟩
theorem errI_InvalidLimit (T : Txt K mg fa fd) {d : Addr} {H : Hp} {v : V} (hd : H d = some (.xd [("tag", .str "InvalidLimit"), ("given", v)])) : ErrI K fa (.ref (fa 8)) (some d) H ("InvalidLimit", v) := by
  refine ⟨_, d, _, rfl, rfl, T.eInvalidLimit.any, T.eInvalidLimit.xf, T.eInvalidLimit.tag, hd, by rfl, ?_⟩
  unfold FldOk
  rw [show fieldOf "InvalidLimit" = some "given" by decide +kernel]
  exact ⟨T.nInvalidLimit_given, by rfl⟩
theorem errI_InvalidCommand (T : Txt K mg fa fd) {d : Addr} {H : Hp} {v : V} (hd : H d = some (.xd [("tag", .str "InvalidCommand"), ("first", v)])) : ErrI K fa (.ref (fa 9)) (some d) H ("InvalidCommand", v) := by
  refine ⟨_, d, _, rfl, rfl, T.eInvalidCommand.any, T.eInvalidCommand.xf, T.eInvalidCommand.tag, hd, by rfl, ?_⟩
  unfold FldOk
  rw [show fieldOf "InvalidCommand" = some "first" by decide +kernel]
  exact ⟨T.nInvalidCommand_first, by rfl⟩
theorem errI_DuplicateLabel (T : Txt K mg fa fd) {d : Addr} {H : Hp} {v : V} (hd : H d = some (.xd [("tag", .str "DuplicateLabel"), ("label", v)])) : ErrI K fa (.ref (fa 14)) (some d) H ("DuplicateLabel", v) := by
  refine ⟨_, d, _, rfl, rfl, T.eDuplicateLabel.any, T.eDuplicateLabel.xf, T.eDuplicateLabel.tag, hd, by rfl, ?_⟩
  unfold FldOk
  rw [show fieldOf "DuplicateLabel" = some "label" by decide +kernel]
  exact ⟨T.nDuplicateLabel_label, by rfl⟩
theorem errI_CapacityExceeded (T : Txt K mg fa fd) {d : Addr} {H : Hp} {v : V} (hd : H d = some (.xd [("tag", .str "CapacityExceeded"), ("most", v)])) : ErrI K fa (.ref (fa 15)) (some d) H ("CapacityExceeded", v) := by
  refine ⟨_, d, _, rfl, rfl, T.eCapacityExceeded.any, T.eCapacityExceeded.xf, T.eCapacityExceeded.tag, hd, by rfl, ?_⟩
  unfold FldOk
  rw [show fieldOf "CapacityExceeded" = some "most" by decide +kernel]
  exact ⟨T.nCapacityExceeded_most, by rfl⟩
theorem errI_InvalidWish (T : Txt K mg fa fd) {d : Addr} {H : Hp} {v : V} (hd : H d = some (.xd [("tag", .str "InvalidWish"), ("at", v)])) : ErrI K fa (.ref (fa 6)) (some d) H ("InvalidWish", v) := by
  refine ⟨_, d, _, rfl, rfl, T.eInvalidWish.any, T.eInvalidWish.xf, T.eInvalidWish.tag, hd, by rfl, ?_⟩
  unfold FldOk
  rw [show fieldOf "InvalidWish" = some "at" by decide +kernel]
  exact ⟨T.nInvalidWish_at, by rfl⟩
theorem errI_InvalidTimes (T : Txt K mg fa fd) {d : Addr} {H : Hp} {v : V} (hd : H d = some (.xd [("tag", .str "InvalidTimes"), ("given", v)])) : ErrI K fa (.ref (fa 7)) (some d) H ("InvalidTimes", v) := by
  refine ⟨_, d, _, rfl, rfl, T.eInvalidTimes.any, T.eInvalidTimes.xf, T.eInvalidTimes.tag, hd, by rfl, ?_⟩
  unfold FldOk
  rw [show fieldOf "InvalidTimes" = some "given" by decide +kernel]
  exact ⟨T.nInvalidTimes_given, by rfl⟩
theorem errI_UnknownName (T : Txt K mg fa fd) {d : Addr} {H : Hp} {v : V} (hd : H d = some (.xd [("tag", .str "UnknownName"), ("name", v)])) : ErrI K fa (.ref (fa 17)) (some d) H ("UnknownName", v) := by
  refine ⟨_, d, _, rfl, rfl, T.mUnknownName, T.eUnknownName.xf, T.eUnknownName.tag, hd, by rfl, ?_⟩
  unfold FldOk
  rw [show fieldOf "UnknownName" = some "name" by decide +kernel]
  exact ⟨T.nUnknownName_name, by rfl⟩
theorem errI_UnknownLabel (T : Txt K mg fa fd) {d : Addr} {H : Hp} {v : V} (hd : H d = some (.xd [("tag", .str "UnknownLabel"), ("label", v)])) : ErrI K fa (.ref (fa 18)) (some d) H ("UnknownLabel", v) := by
  refine ⟨_, d, _, rfl, rfl, T.mUnknownLabel, T.eUnknownLabel.xf, T.eUnknownLabel.tag, hd, by rfl, ?_⟩
  unfold FldOk
  rw [show fieldOf "UnknownLabel" = some "label" by decide +kernel]
  exact ⟨T.nUnknownLabel_label, by rfl⟩
theorem why_of {cls : Value} {d : Option Addr} {H' : Hp} {r : Str × V} {Q : VK} (h : ErrI K fa cls d H' r) (q : ∀ p H'', Same H' H'' → H'' p = some (.tup [.str r.1, r.2]) → Q (.ref p) H'') : WhyE K (fa 2) (fa 16) Q cls d H' := by
  obtain ⟨C, dd, fs, e1, e2, e3, e4, e5, e6, e7, e8⟩ := h
  exact ⟨C, dd, fs, r.1, r.2, e1, e2, e3, e4, e5, e6, e7, e8, q⟩
end
theorem ix_listK {X : Cx} {K : PySem.W.Frag} (h : X.K = K) : IxR X (rIxL K) := h ▸ ix_list
theorem StA.ext {z : Addr} {Z : List Addr} {H H' : Hp} {v : V} {st : Ste} (h : StA z Z H v st) (x : LamX.ExtN H H') : StA z Z H' v st := by
  obtain ⟨p, d, l, kvs, us, e, h1, h2, h3, h4, h5, h6⟩ := h.ex
  exact ⟨⟨p, d, l, kvs, us, e, x _ _ h1 (by intro ps z; cases z), x _ _ h2 (by intro ps z; cases z), x _ _ h3 (by intro ps z; cases z), h4, paired_mono (fun _ _ q => ⟨q.1, q.2.ext x⟩) h5, h6.ext x⟩, h.g⟩
section
variable {K : PySem.W.Frag} {C z b : Addr} {Z : List Addr} {H H' : Hp} {B : Brd} {wk : Bool}
theorem BdA.ext (h : BdA K C z Z H b B wk) (x : LamX.ExtN H H') : BdA K C z Z H' b B wk :=
  ⟨x _ _ h.ins (by intro ps z; cases z), x _ _ h.un (by intro ps z; cases z), h.st.ext x, x _ _ h.hP (by intro ps z; cases z), x _ _ h.hC (by intro ps z; cases z), x _ _ h.hF (by intro ps z; cases z), paired_mono (fun _ _ q => q.ext x) h.past, paired_mono (fun _ _ q => q.ext x) h.coming, h.ne, h.nP, h.nC, h.ml, h.mx, h.pl, h.cl⟩
theorem BdA.kp {S : List Addr} (h : BdA K C z Z H b B wk) (m : MutS S (B.P :: B.Cm :: Z) H) (k : Kp S H H') (nb : b ∉ S) (nP : B.P ∉ S) (nC : B.Cm ∉ S) : BdA K C z Z H' b B wk :=
  ⟨k _ _ h.ins nb, (m.tt k) _ _ h.un, h.st.kp m k, k _ _ h.hP nP, k _ _ h.hC nC, m.dk k h.hF, paired_mono (fun _ _ q => q.kp m k) h.past, paired_mono (fun _ _ q => q.kp m k) h.coming, h.ne, h.nP, h.nC, h.ml, h.mx, h.pl, h.cl⟩
theorem BdA.but {a c : Addr} (h : BdA K C z Z H b B wk) (hF : FeedOk H a c) (ha : a ∈ Z) (k : But a H H') : BdA K C z Z H' b B wk := by
  obtain ⟨ns, k1, big, mark, e1, e2, _⟩ := hF
  refine h.kp (S := [a]) (fun x hx => .inr ?_) (fun x o e n => k x o (fun y => n (y ▸ .head _)) e) (fun y => ?_) (fun y => ?_) fun y => ?_
  · rw [List.mem_singleton.mp hx]
    exact ⟨.tail _ (.tail _ ha), _, e1⟩
  · have e := List.mem_singleton.mp y
    have := h.ins
    rw [e, e1] at this
    cases this
  · exact h.nP (List.mem_singleton.mp y ▸ ha)
  · exact h.nC (List.mem_singleton.mp y ▸ ha)
end
theorem tabs_kp {L : List (Addr × Str)} {S Z : List Addr} {H H' : Hp} (t : LamX.Tabs L H) (m : MutS S Z H) (k : Kp S H H') : LamX.Tabs L H' := fun p hp => by
  obtain ⟨ps, h1, h2, h3⟩ := t p hp
  have no : ∀ {x : Addr} {o : HO}, H x = some o → (∀ C d f, o ≠ .ins C d f) → (∀ xs, o ≠ .lst xs) → H' x = some o := fun {x o} e n1 n2 => k x o e fun y => by
    rcases m x y with ⟨C, dx, fs, e2⟩ | ⟨_, ys, e2⟩
    · rw [e] at e2
      exact n1 _ _ _ (Option.some.inj e2)
    · rw [e] at e2
      exact n2 _ (Option.some.inj e2)
  refine ⟨ps, no h1 (by intro _ _ _ z; cases z) (by intro _ z; cases z), h2, fun pos cv hc => ?_⟩
  obtain ⟨c', e1, e2⟩ := h3 pos cv hc
  exact ⟨c', e1, no e2 (by intro _ _ _ z; unfold LamX.CodeO at z; cases z) (by intro _ z; unfold LamX.CodeO at z; cases z)⟩
/-- o.m() by a positional promise -/
theorem pe_methR0 {X : Cx} {CX : CXT} {k : Nat} {C f : Addr} {m : Str} {sp : Sp} {E : XK} {o : Expr} {ta : TE} {apos pos : Pos} {pl : Sem Bool} (he : PE X o ta) (c : Cls X.K C) (hm : Meth X.K C m f) (F : FnR X.prog X.w X.K X.mg X.base CX k f sp) (hr : Room k X.A) (hx : Passes CX X E)
    (ht : eval (.Call (.Attribute o m apos) [] [] pos) X.env = (do let ov ← eval o X.env; standAt apos.atName; let (g, one) ← holding [ov] (getMethod ov m pl); callWith pos g one (backTo pos (starEach [] X.env)) (backToKw pos (keywordEach [] X.env))) := by rfl) :
    PE X (.Call (.Attribute o m apos) [] [] pos) (tMethR C m sp E ta tNil) := by
  refine ⟨fun pins s σ H Q I h => ?_⟩
  refine PySem.W.methodCall_KW (pl := pl) (thn (he.run pins s σ H _ I h) fun u s1 ⟨x, H1, I1, rx, a, dx, fs, ex, ea, l, q⟩ => ?_) ht
  subst ex
  obtain rfl : u = Value.ref a := rx
  refine getmeth_ok I1 ea c hm l ?_
  exact PySem.W.callWith_K0 (first := [.ref a]) I1.kIn hm.kp (wpAny_call (run_fnR (us := [.ref a]) (vs := [.ref a]) F hr hx I1 (.cons rfl .nil) q))
theorem room65Q {k : Nat} {A : Around} (r : Room (k + 1) A) : A.units + 65 < cLine := by
  have := r.un
  omega
/-! ### o.m(e, .., k = v, ..) -/
def tMethKw (C : Addr) (m : Str) (n j : Nat) (sp : Sp) (gV : List V → List V → List V) (E : XK) (ta : TE) (t tk : TA) : TE := fun σ H Q => ta σ H fun x H1 => ∃ a dx fs, x = .ref a ∧ H1 a = some (.ins C dx fs) ∧ fs.lookup m = none ∧
  t σ H1 fun vs H2 => tk σ H2 fun zs H3 => vs.length = n ∧ zs.length = j ∧ sp (gV (x :: vs) zs) H3 Q E
theorem pe_methKw {X : Cx} {CX : CXT} {k n : Nat} {C f : Addr} {fd : FuncData} {ps ks : List Str} {sp : Sp} {E : XK} {o e : Expr} {es : List Expr} {kws : List Keyword} {m : Str} {pos apos : Pos} {ta : TE} {t tk : TA} {g : List Value → List Value → List Value} {gV : List V → List V → List V} {pl : Sem Bool} (he : PE X o ta) (c : Cls X.K C) (hm : Meth X.K C m f)
    (F : FnOk X.prog X.w X.K X.mg X.base CX k f fd ps sp) (hr : Room k X.A) (hb : KBn X.K fd ps (n + 1) ks g gV) (hx : Passes CX X E) (ha : PA X (e :: es) t) (hkw : PK X kws tk)
    (hall : (backToKw pos (keywordEach kws X.env)).all (·.1.isSome) = true := by rfl) (hks : (backToKw pos (keywordEach kws X.env)).filterMap (·.1) = ks := by rfl)
    (hst : starEach (e :: es) X.env = (false, eval e X.env) :: starEach es X.env := by rfl)
    (hpl : ((backTo pos (starEach (e :: es) X.env)).any (·.1) || (backToKw pos (keywordEach kws X.env)).any (·.1.isNone)) = false := by rfl)
    (ht : eval (.Call (.Attribute o m apos) (e :: es) kws pos) X.env = (do
      let ov ← eval o X.env
      standAt apos.atName
      let (f, first) ← holding [ov] (getMethod ov m pl)
      callWith pos f first (backTo pos (starEach (e :: es) X.env)) (backToKw pos (keywordEach kws X.env))) := by rfl) :
    PE X (.Call (.Attribute o m apos) (e :: es) kws pos) (tMethKw C m n ks.length sp gV E ta t tk) := by
  refine ⟨fun pins s σ H Q I h => ?_⟩
  refine PySem.W.methodCall_KW (pl := pl) (thn (he.run pins s σ H _ I h) fun u s1 ⟨x, H1, I1, rx, a, dx, fs, ex, ea, l, q⟩ => ?_) ht
  subst ex
  obtain rfl : u = Value.ref a := rx
  refine getmeth_ok I1 ea c hm l ?_
  refine PySem.W.callWith_KW (first := [.ref a]) (h₀ := X.base) I1.ok.mod.kin hm.kp hall (thn (ha.run pos pins s1 σ H1 _ I1 q) fun us s3 ⟨vs, H2, I3, r, q2⟩ => ?_) hpl hst
  refine thn (hkw.run pos pins s3 σ H2 _ I3 q2) fun ws s4 ⟨zs, H3, I4, rz, l1, l2, q3⟩ => ⟨I4.kIn, ?_⟩
  rw [hks]
  exact run_fnN (us := .ref a :: us) (vs := .ref a :: vs) F hr hb hx I4 (.cons rfl r) rz (by rw [List.length_cons, l1]) l2 q3
/-! ### C(e, ..) where __init__ is known by a positional promise -/
def tMakeR (C : Addr) (sp : Sp) (E : XK) (t : TA) : TE := fun σ H Q => t σ H fun vs H2 => ∀ x dx, H2 x = none → H2 dx = none → dx ≠ x → sp (.ref x :: vs) (upd (upd H2 dx (.own x)) x (.ins C dx [])) (fun v H3 => v = .non ∧ Q (.ref x) H3) E
section
variable {X : Cx} {CX : CXT} {k : Nat} {f C : Addr} {sp : Sp} {E : XK} {x : Str} {p pos : Pos} {e : Expr} {es : List Expr} {t : TA}
theorem run_makeR {pins : List (Addr × Obj)} {σ : L2.St} {H : Hp} {s : Shared} {Q : VK} {us : List Value} {vs : List V} (M : Mk X.K C f) (F : FnR X.prog X.w X.K X.mg X.base CX k f sp) (hr : Room (k + 1) X.A)
    (hx : Passes CX X E) (I : Inv X pins σ H s) (r : Vals vs us)
    (h : ∀ x dx, H x = none → H dx = none → dx ≠ x → sp (.ref x :: vs) (upd (upd H dx (.own x)) x (.ins C dx [])) (fun v H2 => v = .non ∧ Q (.ref x) H2) E) :
    wpAny (model X.prog X.w) X.A (call (.ref C) us) (EP X pins σ Q) X.xe s := by
  have hq := h (s.heap.objs.size + 1) s.heap.objs.size (I.hok.fresh (Nat.le_succ _)) (I.hok.fresh (Nat.le_refl _)) (Nat.ne_of_lt (Nat.lt_succ_self _))
  have I2 := Inv.made (C := C) I
  have r2 : Vals (V.ref (s.heap.objs.size + 1) :: vs) (Value.ref (s.heap.objs.size + 1) :: us) := .cons rfl r
  refine wpAny_call (make_map (f := f) I.kIn M.makes M.init (beq_iff_eq.mp M.fn) (codeAny_mono (F _ X.stack _ _ (Value.ref (s.heap.objs.size + 1) :: us) _ _ E (hr.make C us [])
    (I2.env0.make C us []) r2 hq) fun r s' hq' => ?_))
  cases r with
  | error e => exact hx pins σ _ _ e s' I2 hq'
  | ok fl =>
    cases fl with
    | ret u =>
      obtain ⟨v, H', I3, rv, ev, q3⟩ := I2.after hq'
      subst ev
      exact ⟨rv, ⟨V.ref (s.heap.objs.size + 1), H', I3, rfl, q3⟩⟩
    | next => exact False.elim hq'
    | brk => exact False.elim hq'
    | cont => exact False.elim hq'
theorem pe_makeR (M : Mk X.K C f) (F : FnR X.prog X.w X.K X.mg X.base CX k f sp) (hr : Room (k + 1) X.A) (hg : Gl X x) (hm : X.mg x = some (.ref C)) (hx : Passes CX X E)
    (ha : PA X (e :: es) t) (hdb : (x == ("__debug__" : Str)) = false := by decide) (he : starEach (e :: es) X.env = (false, eval e X.env) :: starEach es X.env := by rfl) (hpl : (backTo pos (starEach es X.env)).any (·.1) = false := by rfl) :
    PE X (.Call (.Name x p) (e :: es) [] pos) (tMakeR C sp E t) := by
  refine ⟨fun pins s σ H Q I h => ?_⟩
  refine wpAny_Call_Name_kw (ld_glob I hg hm ?_ hdb)
  refine PySem.W.callWith_K (h₀ := X.base) I.ok.mod.kin M.kp (thn (ha.run pos pins s σ H _ I h) fun us s1 ⟨vs, H1, I1, r, q⟩ => ⟨I1.kIn, ?_⟩) he hpl
  exact run_makeR M F hr hx I1 r q
end
section
variable {P : Program} {w : World} {K : PySem.W.Frag} {mg : Str → Option Value} {base : Heap}
/-- two parameters and a star parameter -/
theorem star_meth2 {x qual : Str} {st : Stmt} {f : Addr} {fdd : FuncData} {N : List Str} {a b pv : Str} {k : Nat} {sp : Sp} (F : Fun K x qual st f fdd) (S : FnScope N [a, b, pv] (defScope st))
    (hb : ∀ (kV doc pm : Value) (an : Option Addr) (cdv ct : Value) (u u2 : Value) (rest : List Value), bindArgs (PySem.W.fnOf x qual (defArgs st) (defBody st) (defScope st) .none kV doc pm an cdv ct) ⟨u :: u2 :: rest, []⟩ = (newTuple rest >>= fun t => pure [(a, u), (b, u2), (pv, t)]))
    (hbody : ∀ (cdv : Value) (A : Around) (outer : List Env) (s : Shared) (H : Hp) (vs : List V) (Q : VK) (E : XK), Room k (A.deeper (envOfC qual (defScope st) s.heap.objs.size f cdv)) → sp vs H Q E →
      ∃ t, PSs (cxOf (L2.CX P w) P w K mg base N qual (defScope st) f cdv A outer s H E) (defBody st) t ∧ t { nx := fun _ H' => Q .non H', rt := Q } (start N vs) H) :
    FnR P w K mg base (L2.CX P w) (k + 1) f (fun vs H Q E => ∃ y z rest, vs = y :: z :: rest ∧ rest.length ≤ sizeLine ∧ ∀ p, H p = none → sp [y, z, .ref p] (upd H p (.tup rest)) Q E) := by
  obtain ⟨oc, od, kV, doc, pm, an, cdv, ct, osl, rfl, lk, hcd⟩ := F.ex
  refine FnR.imp (StX.fn_star (ps := [a, b]) (pv := pv) (sp := sp) lk hcd S StX.cxUp (fun us rest hl => ?_) fun A outer s H vs Q E hr hsp => ?_) fun vs H Q E ⟨y, z, rest, e, h1, h2⟩ => ⟨[y, z], rest, e, rfl, h1, h2⟩
  · match us, hl with
    | [u, u2], _ => exact hb kV doc pm an cdv ct u u2 rest
  · exact hbody cdv A outer s H vs Q E hr hsp
end
/-- data of few levels, its lists short -/
def fitsN : Nat → PyData → Bool
  | _, .none | _, .bool _ | _, .int _ | _, .str _ => true
  | n + 1, .list ds | n + 1, .tuple ds => decide (ds.length ≤ 1000) && ds.all (fitsN n)
  | 0, .list _ | 0, .tuple _ | _, .dict _ => false
/-- two values with the same data are the same -/
theorem eqd_dt {z : Addr} {H : Hp} : ∀ (n : Nat) {d : PyData} {v u : V}, fitsN n d = true → Dt z H v d → Dt z H u d → Eqd H n v u := by
  intro n
  induction n with
  | zero =>
    intro d v u f h k
    cases h with
    | non => cases k; exact Eqd.leaf ⟨rfl, .inl rfl⟩
    | bl b => cases k; exact Eqd.leaf ⟨rfl, .inr (.inl ⟨_, rfl⟩)⟩
    | int i _ => cases k; exact Eqd.leaf ⟨rfl, .inr (.inr (.inl ⟨_, rfl⟩))⟩
    | str x _ => cases k; exact Eqd.leaf ⟨rfl, .inr (.inr (.inr ⟨_, rfl⟩))⟩
    | lst _ _ _ => cases f
    | tup _ _ => cases f
  | succ n ih =>
    intro d v u f h k
    have rec_ : ∀ {xs ys : List V} {ds : List PyData}, ds.all (fitsN n) = true → DtAll z H xs ds → DtAll z H ys ds → ∀ (i : Nat) (x y : V), xs[i]? = some x → ys[i]? = some y → Eqd H n x y := fun f2 a b i x y ex ey => by
      obtain ⟨d1, e1, k1⟩ := a.at i ex
      obtain ⟨d2, e2, k2⟩ := b.at i ey
      obtain rfl : d1 = d2 := Option.some.inj (e1.symm.trans e2)
      exact ih (List.all_eq_true.mp f2 _ (List.mem_of_getElem? e1)) k1 k2
    cases h with
    | non => cases k; exact Eqd.leaf ⟨rfl, .inl rfl⟩
    | bl b => cases k; exact Eqd.leaf ⟨rfl, .inr (.inl ⟨_, rfl⟩)⟩
    | int i _ => cases k; exact Eqd.leaf ⟨rfl, .inr (.inr (.inl ⟨_, rfl⟩))⟩
    | str x _ => cases k; exact Eqd.leaf ⟨rfl, .inr (.inr (.inr ⟨_, rfl⟩))⟩
    | lst ha _ hs =>
      cases k with
      | lst hb _ ks =>
        have f := (Bool.and_eq_true _ _ ▸ f : decide (_ ≤ 1000) = true ∧ _)
        exact .inr ⟨_, _, _, _, rfl, rfl, .inl ⟨ha, hb⟩, hs.len.trans ks.len.symm, by rw [hs.len]; exact of_decide_eq_true f.1, rec_ f.2 hs ks⟩
    | tup ha hs =>
      cases k with
      | tup hb ks =>
        have f := (Bool.and_eq_true _ _ ▸ f : decide (_ ≤ 1000) = true ∧ _)
        exact .inr ⟨_, _, _, _, rfl, rfl, .inr ⟨ha, hb⟩, hs.len.trans ks.len.symm, by rw [hs.len]; exact of_decide_eq_true f.1, rec_ f.2 hs ks⟩
/-! ### values that are no texts, in the place of labels -/
structure OddA (z : Addr) (H : Hp) (v : V) (d : PyData) : Prop where
  dt : Dt z H v d
  ns : ∀ x, d ≠ .str x
  sh : SeqAt.shaped d = true
theorem OddA.same {z : Addr} {H H' : Hp} {v : V} {d : PyData} (h : OddA z H v d) (s : Same H H') : OddA z H' v d := ⟨h.dt.same s, h.ns, h.sh⟩
theorem OddA.lab {z : Addr} {H : Hp} {v : V} {d : PyData} (h : OddA z H v d) : labD d = false := by
  have := h.ns
  cases d <;> first | rfl | exact absurd rfl (this _)
theorem eqv_no {x : Str} {d : PyData} (h : ∀ y, d ≠ .str y) : PyData.eqv (.str x) d = false := by
  cases d <;> first | rfl | exact absurd rfl (h _)
theorem any_no {d : PyData} (h : ∀ y, d ≠ .str y) (xs : List Str) : ((xs.map PyData.str).any fun z => PyData.eqv z d) = false := by
  induction xs with
  | nil => rfl
  | cons x xs ih =>
    rw [List.map_cons, List.any_cons, eqv_no h, ih]
    rfl
theorem str_layAll : ∀ xs : List Str, (∀ x ∈ xs, PyData.strOk x = true) → PyData.canLayAll0 (xs.map PyData.str) = true
  | [], _ => rfl
  | x :: xs, h => by
    rw [List.map_cons]
    show (PyData.strOk x && PyData.canLayAll0 (xs.map PyData.str)) = true
    rw [h x (.head _), str_layAll xs fun y m => h y (.tail _ m)]
    rfl
theorem str_depth : ∀ xs : List Str, PyData.depthAll (xs.map PyData.str) = 0
  | [] => rfl
  | x :: r => by simp [PyData.depthAll, PyData.depth, str_depth r]
theorem shaped_strs {xs : List Str} (h : ∀ x ∈ xs, PyData.strOk x = true) : SeqAt.shaped (.list (xs.map PyData.str)) = true := by
  simp [SeqAt.shaped, PyData.canLay0, PyData.depth, str_layAll xs h, str_depth]
theorem dp_strL {K : PySem.W.Frag} {H : Hp} : ∀ xs : List Str, DpAll K H (xs.map V.str) (xs.map PyData.str)
  | [] => .nil
  | x :: r => .cons (.str x) (dp_strL r)
def StrOks (st : Ste) : Prop := ∀ x ∈ tls st ++ wls st, PyData.strOk x = true
def erNameV (v : V) : Er := ⟨4, "InvalidName", "name", v⟩
def erLabV (v : V) : Er := ⟨18, "UnknownLabel", "label", v⟩
section
variable {P : Program} {w : World} {K : PySem.W.Frag} {mg : Str → Option Value} {base : Heap} {fa : Nat → Addr} {fd : Nat → FuncData}
def spNewLabQ (fa : Nat → Addr) : Sp := fun vs H Q E => ∃ (sv v : V) (z : Addr) (d : PyData), vs = [sv, v] ∧ OddA z H v d ∧ EE E fa H (erNameV v)
theorem ok_p_check_new_labelQ (T : Txt K mg fa fd) : FnOk P w K mg base (L2.CX P w) 3 (fa 162) (fd 162) ["state", "label"] (spNewLabQ fa) := by
  refine T.F_p_check_new_label.okX sc_p_check_new_label (fun vs H Q E h => ?_) (fun cdv A outer s H vs Q E hr h => ?_)
  · obtain ⟨sv, v, z, d, rfl, _⟩ := h
    rfl
  · obtain ⟨sv, v, z, d, rfl, hv, q⟩ := h
    refine ⟨_, (C8.pss_cut (ps_if (pt_not (pt_val (pe_call (ok_p_is_label T) (hr.mono (by decide)) (by rfl) T.g_p_is_label T.F_p_is_label.kp T.b_p_is_label .nil pass0 (pa_cons (pv 1) pa_nil)))) (pss_one (ps_raise rfl (takes_of rfl rfl rfl rfl) (pmk_oex T.eInvalidName.oex T.eInvalidName.iC T.eInvalidName.tI (ok_InvalidName T) (hr.mono (by decide)) T.bIInvalidName .nil pass0 (by rfl) T.eInvalidName.gC (pa_cons (pv 1) pa_nil)))) pss_nil)
      (pss_one (ps_if (PW.pt (pw_or (pt_cmpR (op_in_seqK (K := K) rfl) (pv 1) (pe_call (ok_p_tie_labels T) (hr.mono (by decide)) (by rfl) T.g_p_tie_labels T.F_p_tie_labels.kp T.b_p_tie_labels .nil pass0 (pa_cons (pv 0) pa_nil)) (by rfl)) (pw_or1 (pt_cmpR (op_in_seqK (K := K) rfl) (pv 1) (pe_call (ok_p_wish_labels T) (hr.mono (by decide)) (by rfl) T.g_p_wish_labels T.F_p_wish_labels.kp T.b_p_wish_labels .nil pass0 (pa_cons (pv 0) pa_nil)) (by rfl))))) (pss_one (ps_raise rfl (takes_of rfl rfl rfl rfl) (pmk_oex T.eDuplicateLabel.oex T.eDuplicateLabel.iC T.eDuplicateLabel.tI (ok_DuplicateLabel T) (hr.mono (by decide)) T.bIDuplicateLabel .nil pass0 (by rfl) T.eDuplicateLabel.gC (pa_cons (pv 1) pa_nil)))) pss_nil))), ?_⟩
    refine ⟨fun _ _ => False, ?_, fun σ G hM => hM.elim⟩
    refine ⟨_, rfl, v, d, z, rfl, hv.dt, _, rfl, ?_⟩
    rw [hv.lab]
    exact iteT ⟨_, rfl, rz1 T.eInvalidName.oex T.nInvalidName_name T.eInvalidName.tag q⟩
def spWithTQ (fa : Nat → Addr) : Sp := fun vs H Q E => ∃ (sv w1 w2 v w3 : V) (z zd : Addr) (Z : List Addr) (st : Ste) (d : PyData), vs = [sv, w1, w2, v, w3] ∧ StA z Z H sv st ∧ OddA zd H v d ∧ EE E fa H (erNameV v)
theorem ok_p_with_tieQ (T : Txt K mg fa fd) : FnOk P w K mg base (L2.CX P w) 7 (fa 163) (fd 163) ["state", "names", "limit", "label", "tie"] (spWithTQ fa) := by
  refine T.F_p_with_tie.okX sc_p_with_tie (fun vs H Q E h => ?_) (fun cdv A outer s H vs Q E hr h => ?_)
  · obtain ⟨sv, w1, w2, v, w3, z, zd, Z, st, d, rfl, _⟩ := h
    rfl
  · obtain ⟨sv, w1, w2, v, w3, z, zd, Z, st, d, rfl, hst, hv, q⟩ := h
    obtain ⟨p, D, l, kvs, us, rfl, h1, _⟩ := hst.ex
    refine ⟨_, (C8.pss_cut (ps_asg (pv 0) (pg_tup (by rfl) (pgs_cons (pg_name (i := 5) sc_p_with_tie.nd rfl (.inl rfl)) (pgs_cons (pg_name (i := 6) sc_p_with_tie.nd rfl (.inl rfl)) pgs_nil))))
      (C8.pss_cut (ps_expr (pe_call (ok_p_check_new_labelQ T) (hr.mono (by decide)) (by rfl) T.g_p_check_new_label T.F_p_check_new_label.kp T.b_p_check_new_label .nil (passes_call (takes_of rfl rfl rfl rfl) (fun _ _ _ _ h => h)) (pa_cons (pv 0) (pa_cons (pv 3) pa_nil))))
      (C8.pss_cut (ps_if (pt_cmpR op_ge (pe_callB call_lenD (by rfl) T.m_len PySem.boot_len (pa_cons (pv 5) pa_nil)) (pv 2) (nomark _)) (pss_one (ps_raise rfl (takes_of rfl rfl rfl rfl) (pmk_oex T.eCapacityExceeded.oex T.eCapacityExceeded.iC T.eCapacityExceeded.tI (ok_CapacityExceeded T) (hr.mono (by decide)) T.bICapacityExceeded .nil pass0 (by rfl) T.eCapacityExceeded.gC (pa_cons (pv 2) pa_nil)))) pss_nil)
      (C8.pss_cut (ps_if (pt_cmpR op_notN (pe_call (ok_p_first_wrong_tieB T) (hr.mono (by decide)) (by rfl) T.g_p_first_wrong_tie T.F_p_first_wrong_tie.kp T.b_p_first_wrong_tie .nil pass0 (pa_cons (pe_lst (pa_cons (pv 4) pa_nil)) (pa_cons (pv 1) pa_nil))) pe_non (nomark _)) (pss_one (ps_raise rfl (takes_of rfl rfl rfl rfl) (pmk_oex T.eInvalidTie.oex T.eInvalidTie.iC T.eInvalidTie.tI (ok_InvalidTie T) (hr.mono (by decide)) T.bIInvalidTie .nil pass0 (by rfl) T.eInvalidTie.gC (pa_cons (pe_callB call_lenD (by rfl) T.m_len PySem.boot_len (pa_cons (pv 5) pa_nil)) pa_nil)))) pss_nil)
      (pss_one (ps_ret (pe_tup (pa_cons (pe_star1 (pv 5) (pv 3) (pv 4)) (pa_cons (pv 6) pa_nil))))))))), ?_⟩
    refine ⟨fun σ G => G = H ∧ σ = [some (.ref p), some w1, some w2, some v, some w3, some (.ref D), some (.ref l)], ⟨_, rfl, p, _, rfl, SqT.of h1, rfl, _, _, rfl, _, _, rfl, rfl, rfl, rfl⟩, fun σ G hM => ?_⟩
    obtain ⟨rfl, rfl⟩ := hM
    refine ⟨fun _ _ => False, ?_, fun σ G hM => hM.elim⟩
    exact ⟨_, rfl, _, rfl, _, v, zd, d, rfl, hv, q⟩
def spWithWQ (K : PySem.W.Frag) (fa : Nat → Addr) : Sp := fun vs H Q E => ∃ (sv w1 v w2 w3 : V) (c z zd : Addr) (Z : List Addr) (st : Ste) (d : PyData), vs = [sv, w1, .ref c] ∧ StA z Z H sv st ∧ SqT K H c [v, w2, w3] ∧ OddA zd H v d ∧ EE E fa H (erNameV v)
theorem ok_p_with_wishQ (T : Txt K mg fa fd) : FnOk P w K mg base (L2.CX P w) 7 (fa 164) (fd 164) ["state", "names", "wish"] (spWithWQ K fa) := by
  refine T.F_p_with_wish.okX sc_p_with_wish (fun vs H Q E h => ?_) (fun cdv A outer s H vs Q E hr h => ?_)
  · obtain ⟨sv, w1, v, w2, w3, c, z, zd, Z, st, d, rfl, _⟩ := h
    rfl
  · obtain ⟨sv, w1, v, w2, w3, c, z, zd, Z, st, d, rfl, hst, hc, hv, q⟩ := h
    obtain ⟨p, D, l, kvs, us, rfl, h1, _⟩ := hst.ex
    refine ⟨_, (C8.pss_cut (ps_asg (pv 0) (pg_tup (by rfl) (pgs_cons (pg_name (i := 3) sc_p_with_wish.nd rfl (.inl rfl)) (pgs_cons (pg_name (i := 4) sc_p_with_wish.nd rfl (.inl rfl)) pgs_nil))))
      (C8.pss_cut (ps_asg (pv 2) (pg_tup (by rfl) (pgs_cons (pg_name (i := 5) sc_p_with_wish.nd rfl (.inl rfl)) (pgs_cons (pg_name (i := 6) sc_p_with_wish.nd rfl (.inl rfl)) (pgs_cons (pg_name (i := 7) sc_p_with_wish.nd rfl (.inl rfl)) pgs_nil)))))
      (C8.pss_cut (ps_expr (pe_call (ok_p_check_new_labelQ T) (hr.mono (by decide)) (by rfl) T.g_p_check_new_label T.F_p_check_new_label.kp T.b_p_check_new_label .nil (passes_call (takes_of rfl rfl rfl rfl) (fun _ _ _ _ h => h)) (pa_cons (pv 0) (pa_cons (pv 5) pa_nil))))
      (C8.pss_cut (ps_if (pt_cmpR op_ge (pe_callB call_len_seq (by rfl) T.m_len PySem.boot_len (pa_cons (pv 4) pa_nil)) (pe_clsI T.most_Layout.choose_spec.choose_spec (pe_glob (v := V.ref (fa 154)) (by rfl) T.g_Layout rfl)) (nomark _)) (pss_one (ps_raise rfl (takes_of rfl rfl rfl rfl) (pmk_oex T.eCapacityExceeded.oex T.eCapacityExceeded.iC T.eCapacityExceeded.tI (ok_CapacityExceeded T) (hr.mono (by decide)) T.bICapacityExceeded .nil pass0 (by rfl) T.eCapacityExceeded.gC (pa_cons (pe_clsI T.most_Layout.choose_spec.choose_spec (pe_glob (v := V.ref (fa 154)) (by rfl) T.g_Layout rfl)) pa_nil)))) pss_nil)
      (C8.pss_cut (ps_if (pt_not (pt_val (pe_call (ok_p_is_wish T) (hr.mono (by decide)) (by rfl) T.g_p_is_wish T.F_p_is_wish.kp T.b_p_is_wish .nil pass0 (pa_cons (pe_tup (pa_cons (pv 6) (pa_cons (pv 7) pa_nil))) (pa_cons (pv 1) pa_nil))))) (pss_one (ps_raise rfl (takes_of rfl rfl rfl rfl) (pmk_oex T.eInvalidWish.oex T.eInvalidWish.iC T.eInvalidWish.tI (ok_InvalidWish T) (hr.mono (by decide)) T.bIInvalidWish .nil pass0 (by rfl) T.eInvalidWish.gC (pa_cons (pe_callB call_len_seq (by rfl) T.m_len PySem.boot_len (pa_cons (pv 4) pa_nil)) pa_nil)))) pss_nil)
      (pss_one (ps_ret (pe_tup (pa_cons (pv 3) (pa_cons (pe_op op_cat (pv 4) (pe_lst (pa_cons (pv 2) pa_nil))) pa_nil)))))))))), ?_⟩
    refine ⟨fun σ G => G = H ∧ σ = [some (.ref p), some w1, some (.ref c), some (.ref D), some (.ref l), none, none, none], ⟨_, rfl, p, _, rfl, SqT.of h1, rfl, _, _, rfl, _, _, rfl, rfl, rfl, rfl⟩, fun σ G hM => ?_⟩
    obtain ⟨rfl, rfl⟩ := hM
    refine ⟨fun σ H1 => H1 = G ∧ σ = [some (.ref p), some w1, some (.ref c), some (.ref D), some (.ref l), some v, some w2, some w3], ⟨_, rfl, c, _, rfl, hc, rfl, _, _, rfl, _, _, rfl, _, _, rfl, rfl, rfl, rfl⟩, fun σ H1 hM => ?_⟩
    obtain ⟨rfl, rfl⟩ := hM
    refine ⟨fun _ _ => False, ?_, fun σ G hM => hM.elim⟩
    exact ⟨_, rfl, _, rfl, _, v, zd, d, rfl, hv, q⟩
def spFirstQ (fa : Nat → Addr) : Sp := fun vs H Q E => ∃ (sv v : V) (z zd : Addr) (Z : List Addr) (st : Ste) (d : PyData), vs = [sv, v] ∧ StA z Z H sv st ∧ StrOks st ∧ OddA zd H v d ∧ EE E fa H (erLabV v)
theorem ok_p_with_firstQ (T : Txt K mg fa fd) : FnOk P w K mg base (L2.CX P w) 7 (fa 165) (fd 165) ["state", "label"] (spFirstQ fa) := by
  refine T.F_p_with_first.okX sc_p_with_first (fun vs H Q E h => ?_) (fun cdv A outer s H vs Q E hr h => ?_)
  · obtain ⟨sv, v, z, zd, Z, st, d, rfl, _⟩ := h
    rfl
  · obtain ⟨sv, v, z, zd, Z, st, d, rfl, hS, hok, hv, q⟩ := h
    obtain ⟨p, D, l, kvs, us, rfl, h1, _⟩ := id hS.ex
    refine ⟨_, (C8.pss_cut (ps_asg (pv 0) (pg_tup (by rfl) (pgs_cons (pg_name (i := 2) sc_p_with_first.nd rfl (.inl rfl)) (pgs_cons (pg_name (i := 3) sc_p_with_first.nd rfl (.inl rfl)) pgs_nil))))
      (C8.pss_cut (ps_if (pt_cmpR (op_notInD (room65Q hr)) (pv 1) (pe_call (ok_p_wish_labels T) (hr.mono (by decide)) (by rfl) T.g_p_wish_labels T.F_p_wish_labels.kp T.b_p_wish_labels .nil pass0 (pa_cons (pv 0) pa_nil)) (by rfl)) (pss_one (ps_raise rfl (takes_of rfl rfl rfl rfl) (pmk_oexG (x := "") PySem.F.excBase_LookupError T.eUnknownLabel.g T.eUnknownLabel.iC T.eUnknownLabel.tI (ok_UnknownLabel T) (hr.mono (by decide)) T.bIUnknownLabel pass0 (by rfl) T.eUnknownLabel.gC (pa_cons (pv 1) pa_nil)))) pss_nil)
      (C8.pss_cut (ps_setLc (i := 4) (own := [("wish", 5)]) (g := gName 5) (tt := _) rfl sc_p_with_first.nd rfl rfl (sw_true rfl rfl rfl (by decide +kernel)) (pi_list (pv 3)) (blkOk_by (own := [("wish", 5)]) (N := ["state", "label", "ties", "wishes", "chosen", "wish"]) (sc := defScope s_p_with_first) (by decide +kernel)) (fun _ _ _ _ _ => pg_name (i := 5) sc_p_with_first.nd rfl (Or.inl rfl)) (fun _ _ _ _ _ => pts_one (pt_cmpR op_eq (pe_ix (ix_tupK (K := K) rfl) (pv 5) pe_int (fun _ _ => rfl)) (pv 1) (nomark _))) (fun _ _ _ _ _ => (pv 5)))
      (pss_one (ps_ret (pe_tup (pa_cons (pv 2) (pa_cons (pe_op op_cat (pv 4) (pe_lc (own := [("wish", 5)]) (g := gName 5) (tt := _) rfl sc_p_with_first.nd (pi_list (pv 3)) (blkOk_by (own := [("wish", 5)]) (N := ["state", "label", "ties", "wishes", "chosen", "wish"]) (sc := defScope s_p_with_first) (by decide +kernel)) (fun _ _ _ _ _ => pg_name (i := 5) sc_p_with_first.nd rfl (Or.inl rfl)) (fun _ _ _ _ _ => pts_one (pt_cmpR op_ne (pe_ix (ix_tupK (K := K) rfl) (pv 5) pe_int (fun _ _ => rfl)) (pv 1) (nomark _))) (fun _ _ _ _ _ => (pv 5)))) pa_nil)))))))), ?_⟩
    refine ⟨fun σ G => G = H ∧ σ = [some (.ref p), some v, some (.ref D), some (.ref l), none, none], ⟨_, rfl, p, _, rfl, SqT.of h1, rfl, _, _, rfl, _, _, rfl, rfl, rfl, rfl⟩, fun σ G hM => ?_⟩
    obtain ⟨rfl, rfl⟩ := hM
    refine ⟨fun _ _ => False, ?_, fun σ G hM => hM.elim⟩
    refine ⟨_, rfl, _, rfl, _, st, z, Z, rfl, hS, fun q0 H1 s1 n1 hq0 => ?_⟩
    refine ⟨d, (wls st).map PyData.str, (hv.same s1).dt.dp _ _, .lst (SqL.of hq0) (dp_strL _), hv.sh, shaped_strs (fun x m => hok x (List.mem_append_right _ m)), ?_⟩
    rw [any_no hv.ns]
    exact ⟨_, rfl, iteT ⟨_, rfl, rzG T.eUnknownLabel.g T.nUnknownLabel_label T.eUnknownLabel.tag (OneE.of q s1)⟩⟩
theorem ok_p_droppedQ (T : Txt K mg fa fd) : FnOk P w K mg base (L2.CX P w) 7 (fa 166) (fd 166) ["state", "label"] (spFirstQ fa) := by
  refine T.F_p_dropped.okX sc_p_dropped (fun vs H Q E h => ?_) (fun cdv A outer s H vs Q E hr h => ?_)
  · obtain ⟨sv, v, z, zd, Z, st, d, rfl, _⟩ := h
    rfl
  · obtain ⟨sv, v, z, zd, Z, st, d, rfl, hS, hok, hv, q⟩ := h
    obtain ⟨p, D, l, kvs, us, rfl, h1, _⟩ := id hS.ex
    refine ⟨_, (C8.pss_cut (ps_asg (pv 0) (pg_tup (by rfl) (pgs_cons (pg_name (i := 2) sc_p_dropped.nd rfl (.inr rfl)) (pgs_cons (pg_name (i := 3) sc_p_dropped.nd rfl (.inl rfl)) pgs_nil))))
      (C8.pss_cut (ps_if (PW.pt (pw_and (pt_cmpR (op_notInD (room65Q hr)) (pv 1) (pe_call (ok_p_tie_labels T) (hr.mono (by decide)) (by rfl) T.g_p_tie_labels T.F_p_tie_labels.kp T.b_p_tie_labels .nil pass0 (pa_cons (pv 0) pa_nil)) (by rfl)) (pw_and1 (pt_cmpR (op_notInD (room65Q hr)) (pv 1) (pe_call (ok_p_wish_labels T) (hr.mono (by decide)) (by rfl) T.g_p_wish_labels T.F_p_wish_labels.kp T.b_p_wish_labels .nil pass0 (pa_cons (pv 0) pa_nil)) (by rfl))))) (pss_one (ps_raise rfl (takes_of rfl rfl rfl rfl) (pmk_oexG (x := "") PySem.F.excBase_LookupError T.eUnknownLabel.g T.eUnknownLabel.iC T.eUnknownLabel.tI (ok_UnknownLabel T) (hr.mono (by decide)) T.bIUnknownLabel pass0 (by rfl) T.eUnknownLabel.gC (pa_cons (pv 1) pa_nil)))) pss_nil)
      (pss_one (ps_ret (pe_tup (pa_cons (pe_lock (pe_dc (own := [("one", 5)]) (g := gName 5) (tt := _) rfl sc_p_dropped.nd (pi_keys (pv 2)) (blkOk_by (own := [("one", 5)]) (N := ["state", "label", "ties", "wishes", "wish", "one"]) (sc := defScope s_p_dropped) (by decide +kernel)) (fun _ _ _ _ _ => pg_name (i := 5) sc_p_dropped.nd rfl (Or.inl rfl)) (fun _ _ _ _ _ => pts_one (pt_cmpR op_ne (pv 5) (pv 1) (nomark _))) (fun _ _ _ _ _ => (pv 5)) (fun _ _ _ _ _ => (pe_dget (Nat.lt_of_le_of_lt (Nat.add_le_add_left (by decide) _) hr.units) (pv 2) (pv 5) (fun _ _ => rfl))))) (pa_cons (pe_lc (own := [("wish", 4)]) (g := gName 4) (tt := _) rfl sc_p_dropped.nd (pi_list (pv 3)) (blkOk_by (own := [("wish", 4)]) (N := ["state", "label", "ties", "wishes", "wish", "one"]) (sc := defScope s_p_dropped) (by decide +kernel)) (fun _ _ _ _ _ => pg_name (i := 4) sc_p_dropped.nd rfl (Or.inl rfl)) (fun _ _ _ _ _ => pts_one (pt_cmpR op_ne (pe_ix (ix_tupK (K := K) rfl) (pv 4) pe_int (fun _ _ => rfl)) (pv 1) (nomark _))) (fun _ _ _ _ _ => (pv 4))) pa_nil))))))), ?_⟩
    refine ⟨fun σ G => G = H ∧ σ = [some (.ref p), some v, some (.ref D), some (.ref l), none, none], ⟨_, rfl, p, _, rfl, SqT.of h1, rfl, _, _, rfl, _, _, rfl, rfl, rfl, rfl⟩, fun σ G hM => ?_⟩
    obtain ⟨rfl, rfl⟩ := hM
    refine ⟨fun _ _ => False, ?_, fun σ G hM => hM.elim⟩
    refine ⟨_, rfl, _, rfl, _, st, z, Z, rfl, hS, fun q0 ls H1 s1 n1 hq0 pm sr => ?_⟩
    refine ⟨d, ls.map PyData.str, (hv.same s1).dt.dp _ _, .lst (SqL.of hq0) (dp_strL _), hv.sh, shaped_strs (fun x m => hok x (List.mem_append_left _ (pm.mem_iff.mp m))), ?_⟩
    rw [any_no hv.ns]
    refine ⟨_, rfl, iteT ?_⟩
    refine ⟨_, rfl, _, rfl, _, st, z, Z, rfl, hS.same s1, fun q5 H2 s2 n2 hq5 => ?_⟩
    refine ⟨d, (wls st).map PyData.str, (hv.same (s1.trans s2)).dt.dp _ _, .lst (SqL.of hq5) (dp_strL _), hv.sh, shaped_strs (fun x m => hok x (List.mem_append_right _ m)), ?_⟩
    rw [any_no hv.ns]
    exact ⟨_, rfl, iteT ⟨_, rfl, rzG T.eUnknownLabel.g T.nUnknownLabel_label T.eUnknownLabel.tag (OneE.of q (s1.trans s2))⟩⟩
end
/-- a command about something that is no text -/
inductive Cq
  | tie (a : V)
  | wish (a b : V)
  | first
  | drop
def CqC (K : PySem.W.Frag) (H : Hp) (c : Addr) (v : V) : Cq → Prop
  | .tie a => SqT K H c [.str "tie", v, a]
  | .wish a b => SqT K H c [.str "wish", v, a, b]
  | .first => SqT K H c [.str "first", v]
  | .drop => SqT K H c [.str "drop", v]
def Cq.er (v : V) : Cq → Er
  | .tie _ | .wish _ _ => erNameV v
  | .first | .drop => erLabV v
theorem CqC.same {K : PySem.W.Frag} {H H' : Hp} {c : Addr} {v : V} (s : Same H H') : ∀ {m : Cq}, CqC K H c v m → CqC K H' c v m
  | .tie _, h => SqT_sm s h
  | .wish _ _, h => SqT_sm s h
  | .first, h => SqT_sm s h
  | .drop, h => SqT_sm s h
theorem badq {w : Str} {v : V} {r : List V} (h : cmdK w = some ((r.length + 2 : Nat) : Int)) : badCmd (.str w :: v :: r) = false := by
  rw [bad_str, h]
  exact (congrArg (!·) (decide_eq_true rfl)).trans rfl
theorem cq_row {K : PySem.W.Frag} {H : Hp} {c : Addr} {v : V} : ∀ {m : Cq}, CqC K H c v m → ∃ xs, SqT K H c xs ∧ xs.length ≤ 900 ∧ HeadOk xs ∧ badCmd xs = false
  | .tie a, h => ⟨_, h, by show 3 ≤ 900; decide, .inl (.head _), badq (w := "tie") (r := [a]) (by show cmdK "tie" = some (3 : Int); decide +kernel)⟩
  | .wish a b, h => ⟨_, h, by show 4 ≤ 900; decide, .inl (.tail _ (.head _)), badq (w := "wish") (r := [a, b]) (by show cmdK "wish" = some (4 : Int); decide +kernel)⟩
  | .first, h => ⟨_, h, by show 2 ≤ 900; decide, .inl (.tail _ (.tail _ (.head _))), badq (w := "first") (r := []) (by show cmdK "first" = some (2 : Int); decide +kernel)⟩
  | .drop, h => ⟨_, h, by show 2 ≤ 900; decide, .inl (.tail _ (.tail _ (.tail _ (.head _)))), badq (w := "drop") (r := []) (by show cmdK "drop" = some (2 : Int); decide +kernel)⟩
section
variable {P : Program} {w : World} {K : PySem.W.Frag} {mg : Str → Option Value} {base : Heap} {fa : Nat → Addr} {fd : Nat → FuncData}
def spCarQ (K : PySem.W.Frag) (fa : Nat → Addr) : Sp := fun vs H Q E => ∃ (sv w1 w2 v : V) (c z zd : Addr) (Z : List Addr) (st : Ste) (d : PyData) (m : Cq), vs = [sv, w1, w2, .ref c] ∧ StA z Z H sv st ∧ StrOks st ∧ OddA zd H v d ∧ CqC K H c v m ∧ EE E fa H (m.er v)
theorem ok_p_carried_outQ (T : Txt K mg fa fd) : FnOk P w K mg base (L2.CX P w) 8 (fa 167) (fd 167) ["state", "names", "limit", "command"] (spCarQ K fa) := by
  refine T.F_p_carried_out.okX sc_p_carried_out (fun vs H Q E h => ?_) (fun cdv A outer s H vs Q E hr h => ?_)
  · obtain ⟨sv, w1, w2, v, c, z, zd, Z, st, d, m, rfl, _⟩ := h
    rfl
  · obtain ⟨sv, w1, w2, v, c, z, zd, Z, st, d, m, rfl, hst, hok, hv, hc, q⟩ := h
    refine ⟨_, (C8.pss_cut (ps_set (i := 4) sc_p_carried_out.nd rfl (.inl rfl) (pe_ix ix_tup (pv 3) pe_int (fun _ _ => rfl)))
      (C8.pss_cut (ps_if (pt_cmpR op_eq (pv 4) pe_str (nomark _)) (pss_one (ps_ret (pe_call (ok_p_with_tieQ T) (hr.mono (by decide)) (by rfl) T.g_p_with_tie T.F_p_with_tie.kp T.b_p_with_tie .nil (passes_call (takes_of rfl rfl rfl rfl) (fun _ _ _ _ h => h)) (pa_cons (pv 0) (pa_cons (pv 1) (pa_cons (pv 2) (pa_cons (pe_ix ix_tup (pv 3) pe_int (fun _ _ => rfl)) (pa_cons (pe_ix ix_tup (pv 3) pe_int (fun _ _ => rfl)) pa_nil)))))))) pss_nil)
      (C8.pss_cut (ps_if (pt_cmpR op_eq (pv 4) pe_str (nomark _)) (pss_one (ps_ret (pe_call (ok_p_with_wishQ T) (hr.mono (by decide)) (by rfl) T.g_p_with_wish T.F_p_with_wish.kp T.b_p_with_wish .nil (passes_call (takes_of rfl rfl rfl rfl) (fun _ _ _ _ h => h)) (pa_cons (pv 0) (pa_cons (pv 1) (pa_cons (pe_slice sl_tup (pv 3) (po_some pe_int) po_none) pa_nil)))))) pss_nil)
      (C8.pss_cut (ps_if (pt_cmpR op_eq (pv 4) pe_str (nomark _)) (pss_one (ps_ret (pe_call (ok_p_with_firstQ T) (hr.mono (by decide)) (by rfl) T.g_p_with_first T.F_p_with_first.kp T.b_p_with_first .nil (passes_call (takes_of rfl rfl rfl rfl) (fun _ _ _ _ h => h)) (pa_cons (pv 0) (pa_cons (pe_ix ix_tup (pv 3) pe_int (fun _ _ => rfl)) pa_nil))))) pss_nil)
      (pss_one (ps_ret (pe_call (ok_p_droppedQ T) (hr.mono (by decide)) (by rfl) T.g_p_dropped T.F_p_dropped.kp T.b_p_dropped .nil (passes_call (takes_of rfl rfl rfl rfl) (fun _ _ _ _ h => h)) (pa_cons (pv 0) (pa_cons (pe_ix ix_tup (pv 3) pe_int (fun _ _ => rfl)) pa_nil))))))))), ?_⟩
    cases m with
    | tie a =>
      have hc : SqT K H c [.str "tie", v, a] := hc
      refine ⟨fun σ G => G = H ∧ σ = [some sv, some w1, some w2, some (.ref c), some (.str "tie")], ⟨_, rfl, c, _, _, _, rfl, rfl, hc, rfl, rfl, rfl⟩, fun σ G hM => ?_⟩
      obtain ⟨rfl, rfl⟩ := hM
      refine ⟨fun _ _ => False, ⟨_, rfl, rfl, _, rfl, iteT ?_⟩, fun σ G hM => hM.elim⟩
      exact ⟨_, rfl, _, rfl, _, rfl, _, rfl, c, _, _, _, rfl, rfl, hc, rfl, _, rfl, c, _, _, _, rfl, rfl, hc, rfl, sv, w1, w2, v, a, z, zd, Z, st, d, rfl, hst, hv, q⟩
    | wish a b =>
      have hc : SqT K H c [.str "wish", v, a, b] := hc
      refine ⟨fun σ G => G = H ∧ σ = [some sv, some w1, some w2, some (.ref c), some (.str "wish")], ⟨_, rfl, c, _, _, _, rfl, rfl, hc, rfl, rfl, rfl⟩, fun σ G hM => ?_⟩
      obtain ⟨rfl, rfl⟩ := hM
      refine ⟨fun σ G2 => G2 = G ∧ σ = [some sv, some w1, some w2, some (.ref c), some (.str "wish")], ⟨_, rfl, rfl, _, rfl, iteFq (by decide +kernel) ⟨rfl, rfl⟩⟩, fun σ G2 hM => ?_⟩
      obtain ⟨rfl, rfl⟩ := hM
      refine ⟨fun _ _ => False, ⟨_, rfl, rfl, _, rfl, iteT ?_⟩, fun σ G hM => hM.elim⟩
      have ec : cutV [V.str "wish", v, a, b] (some 1) none = [v, a, b] := rfl
      refine ⟨_, rfl, _, rfl, _, rfl, _, rfl, c, _, rfl, hc, fun h => absurd h.1 (by show HT.sIx 4 0 (some 1) ≠ 0; decide), fun p np => ?_⟩
      rw [ec]
      have s1 := same_upd (o := .tup [v, a, b]) np
      exact ⟨sv, w1, v, a, b, p, z, zd, Z, st, d, rfl, hst.same s1, SqT.of upd_same, hv.same s1, EE.of q s1⟩
    | first =>
      have hc : SqT K H c [.str "first", v] := hc
      refine ⟨fun σ G => G = H ∧ σ = [some sv, some w1, some w2, some (.ref c), some (.str "first")], ⟨_, rfl, c, _, _, _, rfl, rfl, hc, rfl, rfl, rfl⟩, fun σ G hM => ?_⟩
      obtain ⟨rfl, rfl⟩ := hM
      refine ⟨fun σ G2 => G2 = G ∧ σ = [some sv, some w1, some w2, some (.ref c), some (.str "first")], ⟨_, rfl, rfl, _, rfl, iteFq (by decide +kernel) ⟨rfl, rfl⟩⟩, fun σ G2 hM => ?_⟩
      obtain ⟨rfl, rfl⟩ := hM
      refine ⟨fun σ G3 => G3 = G2 ∧ σ = [some sv, some w1, some w2, some (.ref c), some (.str "first")], ⟨_, rfl, rfl, _, rfl, iteFq (by decide +kernel) ⟨rfl, rfl⟩⟩, fun σ G3 hM => ?_⟩
      obtain ⟨rfl, rfl⟩ := hM
      refine ⟨fun _ _ => False, ⟨_, rfl, rfl, _, rfl, iteT ?_⟩, fun σ G hM => hM.elim⟩
      exact ⟨_, rfl, _, rfl, c, _, _, _, rfl, rfl, hc, rfl, sv, v, z, zd, Z, st, d, rfl, hst, hok, hv, q⟩
    | drop =>
      have hc : SqT K H c [.str "drop", v] := hc
      refine ⟨fun σ G => G = H ∧ σ = [some sv, some w1, some w2, some (.ref c), some (.str "drop")], ⟨_, rfl, c, _, _, _, rfl, rfl, hc, rfl, rfl, rfl⟩, fun σ G hM => ?_⟩
      obtain ⟨rfl, rfl⟩ := hM
      refine ⟨fun σ G2 => G2 = G ∧ σ = [some sv, some w1, some w2, some (.ref c), some (.str "drop")], ⟨_, rfl, rfl, _, rfl, iteFq (by decide +kernel) ⟨rfl, rfl⟩⟩, fun σ G2 hM => ?_⟩
      obtain ⟨rfl, rfl⟩ := hM
      refine ⟨fun σ G3 => G3 = G2 ∧ σ = [some sv, some w1, some w2, some (.ref c), some (.str "drop")], ⟨_, rfl, rfl, _, rfl, iteFq (by decide +kernel) ⟨rfl, rfl⟩⟩, fun σ G3 hM => ?_⟩
      obtain ⟨rfl, rfl⟩ := hM
      refine ⟨fun σ G4 => G4 = G3 ∧ σ = [some sv, some w1, some w2, some (.ref c), some (.str "drop")], ⟨_, rfl, rfl, _, rfl, iteFq (by decide +kernel) ⟨rfl, rfl⟩⟩, fun σ G4 hM => ?_⟩
      obtain ⟨rfl, rfl⟩ := hM
      exact ⟨_, rfl, _, rfl, c, _, _, _, rfl, rfl, hc, rfl, sv, v, z, zd, Z, st, d, rfl, hst, hok, hv, q⟩
end
theorem FnOk_or {P : Program} {w : World} {K : PySem.W.Frag} {mg : Str → Option Value} {base : Heap} {CX : CXT} {k : Nat} {f : Addr} {fd : FuncData} {ps : List Str} {sp sp' : Sp} (F : FnOk P w K mg base CX k f fd ps sp) (G : FnOk P w K mg base CX k f fd ps sp') :
    FnOk P w K mg base CX k f fd ps (fun vs H Q E => sp vs H Q E ∨ sp' vs H Q E) :=
  ⟨fun vs H Q E q => q.elim (F.len vs H Q E) (G.len vs H Q E), fun A outer s H args us vs Q E hr he hb hv hs => hs.elim (F.run A outer s H args us vs Q E hr he hb hv) (G.run A outer s H args us vs Q E hr he hb hv)⟩
section
variable {P : Program} {w : World} {K : PySem.W.Frag} {mg : Str → Option Value} {base : Heap} {fa : Nat → Addr} {fd : Nat → FuncData}
theorem dt_kp1 {z b : Addr} {H H' : Hp} {C dx : Addr} {fs : List (Str × V)} {v : V} {d : PyData} (h : Dt z H v d) (hb : H b = some (.ins C dx fs)) (k : Kp [b] H H') : Dt z H' v d :=
  Dt.via (fun a o e g => k _ _ e fun y => by
    rw [List.mem_singleton.mp y, hb] at e
    rcases g with ⟨⟨xs, rfl⟩, _⟩ | ⟨xs, rfl⟩
    · cases e
    · cases e) _ _ h
theorem OddA.kp1 {z b : Addr} {H H' : Hp} {C dx : Addr} {fs : List (Str × V)} {v : V} {d : PyData} (h : OddA z H v d) (hb : H b = some (.ins C dx fs)) (k : Kp [b] H H') : OddA z H' v d := ⟨dt_kp1 h.dt hb k, h.ns, h.sh⟩
structure CarQ (K : PySem.W.Frag) (C z zd : Addr) (Z : List Addr) (H : Hp) (b : Addr) (B : Brd) (c : Addr) (v : V) (d : PyData) (m : Cq) : Prop where
  hB : BdA K C z Z H b B false
  hc : CqC K H c v m
  hv : OddA zd H v d
  ok : StrOks B.st
theorem CarQ.same {C z zd : Addr} {Z : List Addr} {H H' : Hp} {b : Addr} {B : Brd} {c : Addr} {v : V} {d : PyData} {m : Cq} (h : CarQ K C z zd Z H b B c v d m) (s : Same H H') : CarQ K C z zd Z H' b B c v d m := ⟨h.hB.same s, h.hc.same s, h.hv.same s, h.ok⟩
def spCarryQ (K : PySem.W.Frag) (C : Addr) (fa : Nat → Addr) : Sp := fun vs H Q E => ∃ (b p z zd : Addr) (Z : List Addr) (B : Brd) (c : Addr) (v : V) (d : PyData) (m : Cq), vs = [.ref b, .ref p, .bl false] ∧ CarQ K C z zd Z H b B c v d m ∧ SqT K H p [.ref c] ∧ EE E fa H (m.er v)
theorem ok_p_BoardCarryQ (T : Txt K mg fa fd) (TB : TxB K w fa) : FnOk P w K mg base (L2.CX P w) 9 (fa 1715) (fd 1715) ["self", "commands", "guarded"] (spCarryQ K (fa 171) fa) := by
  refine T.F_BoardCarry.okX sc_p_BoardCarry (fun vs H Q E h => ?_) (fun cdv A outer s H vs Q E hr h => ?_)
  · obtain ⟨b, p, z, zd, Z, B, c, v, d, m, rfl, _⟩ := h
    rfl
  · obtain ⟨b, p, z, zd, Z, B, c, v, d, m, rfl, hA, hp, he⟩ := h
    refine ⟨_, (C8.pss_cut (ps_fld (pv 0) pe_bl (by rfl))
      (pss_one (ps_finC (tfs := sFld K (tVar 0) (tC (.bl false)) "working") rfl rfl rfl (takes_of rfl rfl rfl rfl) (fun W pn xe tk po => (C8.pss_cut (ps_expr (pe_callS (ok_p_check_commands T TB) (hr.mono (by decide)) (by rfl) T.g_p_check_commands T.F_p_check_commands.kp T.b_p_check_commands (fun σ => passAt tk σ) (pa_cons (pv 1) pa_nil)))
      (C8.pss_cut (ps_set (i := 3) sc_p_BoardCarry.nd rfl (.inl rfl) (pe_fld (pv 0) (by rfl)))
      (C8.pss_cut (ps_for po rfl (pi_tup (pv 1)) (pg_name (i := 4) sc_p_BoardCarry.nd rfl (.inl rfl)) (pss_one (ps_set (i := 3) sc_p_BoardCarry.nd rfl (.inl rfl) (pe_callS (ok_p_carried_outQ T) (hr.mono (by decide)) (by rfl) T.g_p_carried_out T.F_p_carried_out.kp T.b_p_carried_out (fun σ => passAt tk σ) (pa_cons (pv 3) (pa_cons (pe_fld (pv 0) (by rfl)) (pa_cons (pe_fld (pv 0) (by rfl)) (pa_cons (pv 4) pa_nil))))))))
      (C8.pss_cut (ps_if (PW.pt (pw_and (pt_val (pv 2)) (pw_and1 pt_never))) (pss_one ps_never) pss_nil)
      (C8.pss_cut (ps_expr (pe_bm PySem.F.plainAttrs_list PySem.F.slot_list_append PySem.F.type_list_append mt_append (pe_fld (pv 0) (by rfl)) (pa_cons (pe_fld (pv 0) (by rfl)) pa_nil)))
      (C8.pss_cut (ps_fld (pv 0) (pe_lst pa_nil) (by rfl))
      (pss_one (ps_expr (pe_meth (pv 0) T.cl_Board T.me_BoardTurn (ok_p_BoardTurn T) (hr.mono (by decide)) T.b_BoardTurn .nil pass0 (pa_cons (pv 3) pa_nil))))))))))) (pss_one (ps_fld (pv 0) pe_bl (by rfl))) (fun a pn => (pss_one (ps_fld (pv 0) pe_bl (by rfl))))))), ?_⟩
    have hB := hA.hB
    refine ⟨fun σ G => G = upd H b (insB (fa 171) B true) ∧ σ = [some (.ref b), some (.ref p), some (.bl false), none, none], ⟨_, rfl, b, _, B.dx, _, rfl, hB.ins, T.cl_Board, T.na_Board_working, by show 8 < 1000; decide, rfl, rfl⟩, fun σ G hM => ?_⟩
    obtain ⟨rfl, rfl⟩ := hM
    have m0 : MutS [b] (B.P :: B.Cm :: Z) H := fun x hx => .inl (by rw [List.mem_singleton.mp hx]; exact ⟨_, _, _, hB.ins⟩)
    have k0 : Kp [b] H (upd H b (insB (fa 171) B true)) := Kp.upd (List.mem_singleton.mpr rfl)
    have away : ∀ d H', Same (upd H b (insB (fa 171) B true)) H' → H' d = some (.xd [("tag", .str (m.er v).tag), ((m.er v).fld, (m.er v).v)]) → H' b = some (insB (fa 171) B true) ∧ E (.ref (fa (m.er v).c)) (some d) (upd H' b (insB (fa 171) B false)) := fun d H' s' hd => by
      have hb' := s' _ _ (upd_same : upd H b (insB (fa 171) B true) b = _)
      refine ⟨hb', he d _ (fun x o e => ?_) ?_⟩
      · by_cases n : x = b
        · subst n
          rw [hB.ins] at e
          cases e
          exact upd_same
        · rw [upd_ne n]
          exact s' _ _ ((upd_ne n).trans e)
      · rw [upd_ne (ne_of hd hb' (by intro z; cases z))]
        exact hd
    have sq : ∀ {c : Addr} {xs : List V}, SqT K H c xs → SqT K (upd H b (insB (fa 171) B true)) c xs := fun h => by
      rcases h with (e | ⟨o, e⟩) | e
      · exact .inl (.inl (k0 _ _ e fun z => by rw [List.mem_singleton.mp z, hB.ins] at e; cases e))
      · exact .inl (.inr ⟨o, k0 _ _ e fun z => by rw [List.mem_singleton.mp z, hB.ins] at e; cases e⟩)
      · exact .inr e
    have hc0 : CqC K (upd H b (insB (fa 171) B true)) c v m := by
      have := hA.hc
      cases m <;> exact sq this
    have hv0 := hA.hv.kp1 hB.ins k0
    have st0 := hB.st.kp m0 k0
    have hp0 := sq hp
    generalize hG0 : upd H b (insB (fa 171) B true) = G0 at m0 k0 away hc0 hv0 st0 hp0 ⊢
    have hb0 : G0 b = some (insB (fa 171) B true) := by rw [← hG0]; exact upd_same
    clear sq hG0
    obtain ⟨xs, x1, x2, x3, x4⟩ := cq_row hc0
    intro pn xe
    refine ⟨fun σ G => G = G0 ∧ σ = [some (.ref b), some (.ref p), some (.bl false), none, none], ⟨_, rfl, p, [.ref c], [xs], rfl, hp0, by show 1 ≤ 900; decide, .cons ⟨c, rfl, x1, x2, x3⟩ .nil, fun _ => ⟨rfl, rfl⟩, fun ys e => by rw [List.find?_cons_of_neg (by rw [x4]; exact Bool.false_ne_true)] at e; cases e⟩, fun σ G hM => ?_⟩
    obtain ⟨rfl, rfl⟩ := hM
    refine ⟨fun σ G' => G' = G ∧ σ = [some (.ref b), some (.ref p), some (.bl false), some B.sv, none], ⟨_, rfl, _, _, B.dx, _, _, rfl, hb0, T.cl_Board, T.na_Board_state, bf_state, rfl, rfl⟩, fun σ G' hM => ?_⟩
    obtain ⟨rfl, rfl⟩ := hM
    refine ⟨fun _ _ => False, ?_, fun σ G hM => hM.elim⟩
    refine ⟨_, rfl, p, rfl, ⟨_, hp0⟩, for_tup (K := K) (a := p) (xs := [.ref c]) (fun i σ G => i = 0 ∧ G = G' ∧ ∃ y4, σ = [some (.ref b), some (.ref p), some (.bl false), some B.sv, y4]) ⟨rfl, rfl, _, rfl⟩ (fun i σ G _ hq => hq.2.1 ▸ hp0) (fun i x σ G hx hq => ?_) (fun σ G hq => absurd hq.1 (by show ¬ (1 = 0); decide))⟩
    obtain ⟨rfl, rfl, y4, rfl⟩ := hq
    obtain rfl : V.ref c = x := Option.some.inj hx
    refine ⟨_, rfl, _, rfl, _, _, B.dx, _, _, rfl, hb0, T.cl_Board, T.na_Board_unknowns, bf_un, _, rfl, _, _, B.dx, _, _, rfl, hb0, T.cl_Board, T.na_Board_room, bf_room, _, rfl, ?_⟩
    refine ⟨_, _, _, v, c, z, zd, _, B.st, d, m, rfl, st0, hA.ok, hv0, hc0, fun dd H' s' hd => ?_⟩
    obtain ⟨a1, a2⟩ := away dd H' s' hd
    exact ⟨_, rfl, b, _, B.dx, _, rfl, a1, T.cl_Board, T.na_Board_working, by show 8 < 1000; decide, a2⟩
def spCarryO (K : PySem.W.Frag) (C : Addr) (fa : Nat → Addr) : Sp := fun vs H Q E => spCarry K C fa vs H Q E ∨ spCarryQ K C fa vs H Q E
theorem ok_p_BoardCarryO (T : Txt K mg fa fd) (TB : TxB K w fa) : FnOk P w K mg base (L2.CX P w) 9 (fa 1715) (fd 1715) ["self", "commands", "guarded"] (spCarryO K (fa 171) fa) := FnOk_or (ok_p_BoardCarry T TB) (ok_p_BoardCarryQ T TB)
end
section
variable {P : Program} {w : World} {K : PySem.W.Frag} {mg : Str → Option Value} {base : Heap} {fa : Nat → Addr} {fd : Nat → FuncData}
/-- a method with a star parameter, which may raise -/
theorem star_methX {x qual : Str} {st : Stmt} {f : Addr} {fdd : FuncData} {N : List Str} {a pv : Str} {k : Nat} {sp : Sp} (F : Fun K x qual st f fdd) (S : FnScope N [a, pv] (defScope st))
    (hb : ∀ (kV doc pm : Value) (an : Option Addr) (cdv ct : Value) (u : Value) (rest : List Value), bindArgs (PySem.W.fnOf x qual (defArgs st) (defBody st) (defScope st) .none kV doc pm an cdv ct) ⟨u :: rest, []⟩ = (newTuple rest >>= fun t => pure [(a, u), (pv, t)]))
    (hbody : ∀ (cdv : Value) (A : Around) (outer : List Env) (s : Shared) (H : Hp) (vs : List V) (Q : VK) (E : XK), Room k (A.deeper (envOfC qual (defScope st) s.heap.objs.size f cdv)) → sp vs H Q E →
      ∃ t, PSs (cxOf (L2.CX P w) P w K mg base N qual (defScope st) f cdv A outer s H E) (defBody st) t ∧ t { nx := fun _ H' => Q .non H', rt := Q } (start N vs) H) :
    FnR P w K mg base (L2.CX P w) (k + 1) f (fun vs H Q E => ∃ y rest, vs = y :: rest ∧ rest.length ≤ sizeLine ∧ ∀ p, H p = none → sp [y, .ref p] (upd H p (.tup rest)) Q E) := by
  obtain ⟨oc, od, kV, doc, pm, an, cdv, ct, osl, rfl, lk, hcd⟩ := F.ex
  refine FnR.imp (StX.fn_star (ps := [a]) (pv := pv) (sp := sp) lk hcd S StX.cxUp (fun us rest hl => ?_) fun A outer s H vs Q E hr hsp => ?_) fun vs H Q E ⟨y, rest, e, h1, h2⟩ => ⟨[y], rest, e, rfl, h1, h2⟩
  · match us, hl with
    | [u], _ => exact hb kV doc pm an cdv ct u rest
  · exact hbody cdv A outer s H vs Q E hr hsp
def spCarB (K : PySem.W.Frag) (C : Addr) (fa : Nat → Addr) : Sp := fun vs H Q E => ∃ (b p : Addr), vs = [.ref b, .ref p] ∧ (∃ dx fs, H b = some (.ins C dx fs)) ∧ spCarryO K C fa [.ref b, .ref p, .bl false] H Q E
/-- apply(commands) -/
def spApplyM (K : PySem.W.Frag) (C : Addr) (fa : Nat → Addr) : Sp := fun vs H Q E => ∃ (b z : Addr) (Z : List Addr) (B : Brd) (cs : List V) (ts : List Cm), vs = .ref b :: cs ∧ BdA K C z Z H b B false ∧ Paired (CmdM K z H) cs ts ∧ ts.length ≤ 10 ∧ B.st.1.length ≤ 40 ∧ B.past.length ≤ 800 ∧ (∀ y ∈ Z, H y ≠ none) ∧
  (∀ r, batchC B.ms B.room B.st ts = .inl r → EE E fa H r) ∧ (∀ st, batchC B.ms B.room B.st ts = .inr st → ∀ H' B', CarR K C z Z H H' b B B' st → Q .non H')
/-- .. one command about something that is no text -/
def spApplyQ (K : PySem.W.Frag) (C : Addr) (fa : Nat → Addr) : Sp := fun vs H Q E => ∃ (b z zd : Addr) (Z : List Addr) (B : Brd) (c : Addr) (v : V) (d : PyData) (m : Cq), vs = [.ref b, .ref c] ∧ CarQ K C z zd Z H b B c v d m ∧ EE E fa H (m.er v)
def spApplyO (K : PySem.W.Frag) (C : Addr) (fa : Nat → Addr) : Sp := fun vs H Q E => spApplyM K C fa vs H Q E ∨ spApplyQ K C fa vs H Q E
theorem ok_p_BoardApply (T : Txt K mg fa fd) (TB : TxB K w fa) : FnR P w K mg base (L2.CX P w) 10 (fa 1716) (spApplyO K (fa 171) fa) := by
  refine FnR.imp (star_methX (sp := spCarB K (fa 171) fa) T.F_BoardApply sc_p_BoardApply (fun _ _ _ _ _ _ u rest => by cases rest <;> rfl) fun cdv A outer s H vs Q E hr h => ?_) fun vs H Q E h => ?_
  · obtain ⟨b, p, rfl, ⟨dx, fs, hb⟩, hO⟩ := h
    refine ⟨_, (pss_one (ps_expr (pe_meth (pv 0) T.cl_Board T.me_BoardCarry (ok_p_BoardCarryO T TB) (hr.mono (by decide)) T.b_BoardCarry .nil (passes_call (takes_of rfl rfl rfl rfl) (fun _ _ _ _ h => h)) (pa_cons (pv 1) (pa_cons pe_bl pa_nil))))), ?_⟩
    have lk : fs.lookup ("carry_out" : Str) = none := by
      rcases hO with ⟨b', p', z, Z, B, cs, ts, e, hA, _⟩ | ⟨b', p', z, zd, Z, B, c, v, d, m, e, hA, _⟩
      · cases e
        rw [hA.hB.ins] at hb
        cases hb
        rfl
      · cases e
        rw [hA.hB.ins] at hb
        cases hb
        rfl
    exact ⟨_, rfl, b, dx, fs, rfl, hb, lk, _, rfl, hO⟩
  · rcases h with h | h
    · obtain ⟨b, z, Z, B, cs, ts, rfl, hB, hc, hl, ln, pl, hZ, q1, q2⟩ := h
      have cl : cs.length = ts.length := Paired.length hc
      refine ⟨_, cs, rfl, small_line (by omega), fun p np => ?_⟩
      have s1 := same_upd (o := .tup cs) np
      refine ⟨b, p, rfl, ⟨_, _, (hB.same s1).ins⟩, .inl ⟨b, p, z, Z, B, cs, ts, rfl, ⟨hB.same s1, SqT.of upd_same, paired_mono (fun _ _ q => q.same s1) hc, hl, ln, pl⟩, fun y hy => ?_, fun r hr => (q1 r hr).of s1, fun st hst H' B' hR => q2 st hst H' B' ?_⟩⟩
      · cases e : H y with
        | none => exact absurd e (hZ y hy)
        | some o => rw [s1 _ _ e]; intro z; cases z
      · refine ⟨fun x o e n => hR.kp x o (s1 _ _ e) n, hR.hB, hR.st, hR.room, hR.ms, hR.P, ?_, hR.past, hR.coming, hR.dn.back hB.st s1, hR.F, hR.pv, hR.cv⟩
        cases e : H B'.Cm with
        | none => rfl
        | some o =>
          have := hR.cm
          rw [s1 _ _ e] at this
          cases this
    · obtain ⟨b, z, zd, Z, B, c, v, d, m, rfl, hA, he⟩ := h
      refine ⟨_, [.ref c], rfl, one_line, fun p np => ?_⟩
      have s1 := same_upd (o := .tup [V.ref c]) np
      exact ⟨b, p, rfl, ⟨_, _, (hA.same s1).hB.ins⟩, .inr ⟨b, p, z, zd, Z, B, c, v, d, m, rfl, hA.same s1, SqT.of upd_same, EE.of he s1⟩⟩
/-- board.tie(what is no text) -/
def spBTieQ (K : PySem.W.Frag) (C : Addr) (fa : Nat → Addr) : Sp := fun vs H Q E => ∃ (b z zd : Addr) (Z : List Addr) (B : Brd) (wk : Bool) (v : V) (d : PyData), vs = [.ref b, v] ∧ BdA K C z Z H b B wk ∧ StrOks B.st ∧ OddA zd H v d ∧ EE E fa H (erLabV v)
theorem ok_p_BoardTieQ (T : Txt K mg fa fd) : FnOk P w K mg base (L2.CX P w) 3 (fa 1726) (fd 1726) ["self", "label"] (spBTieQ K (fa 171) fa) := by
  refine T.F_BoardTie.okX sc_p_BoardTie (fun vs H Q E h => ?_) (fun cdv A outer s H vs Q E hr h => ?_)
  · obtain ⟨b, z, zd, Z, B, wk, v, d, rfl, _⟩ := h
    rfl
  · obtain ⟨b, z, zd, Z, B, wk, v, d, rfl, hB, hok, hv, q⟩ := h
    refine ⟨_, (C8.pss_cut (ps_if (pt_cmpR (op_notInD (room65Q hr)) (pv 1) (pe_call (ok_p_tie_labels T) (hr.mono (by decide)) (by rfl) T.g_p_tie_labels T.F_p_tie_labels.kp T.b_p_tie_labels .nil pass0 (pa_cons (pe_fld (pv 0) (by rfl)) pa_nil)) (by rfl)) (pss_one (ps_raise rfl (takes_of rfl rfl rfl rfl) (pmk_oexG (x := "") PySem.F.excBase_LookupError T.eUnknownLabel.g T.eUnknownLabel.iC T.eUnknownLabel.tI (ok_UnknownLabel T) (hr.mono (by decide)) T.bIUnknownLabel pass0 (by rfl) T.eUnknownLabel.gC (pa_cons (pv 1) pa_nil)))) pss_nil)
      (pss_one ps_never)), ?_⟩
    refine ⟨fun _ _ => False, ?_, fun σ G hM => hM.elim⟩
    refine ⟨_, rfl, _, rfl, _, _, B.dx, _, _, rfl, hB.ins, T.cl_Board, T.na_Board_state, bf_state, B.sv, B.st, z, B.P :: B.Cm :: Z, rfl, hB.st, fun p ls H1 s1 np hp pm sr => ?_⟩
    refine ⟨d, ls.map PyData.str, (hv.same s1).dt.dp _ _, .lst (SqL.of hp) (dp_strL _), hv.sh, shaped_strs (fun x m => hok x (List.mem_append_left _ (pm.mem_iff.mp m))), ?_⟩
    rw [any_no hv.ns]
    exact ⟨_, rfl, iteT ⟨_, rfl, rzG T.eUnknownLabel.g T.nUnknownLabel_label T.eUnknownLabel.tag (OneE.of q s1)⟩⟩
end
theorem isInt_no {d : PyData} (h : isInt d = false) : ∀ i, d ≠ .int i := fun i e => by rw [e] at h; cases h
section
variable {P : Program} {w : World} {K : PySem.W.Frag} {mg : Str → Option Value} {base : Heap} {fa : Nat → Addr} {fd : Nat → FuncData}
/-! ### limits that are no numbers -/
def spLimQ (fa : Nat → Addr) : Sp := fun vs H Q E => ∃ (b : Addr) (v : V) (z : Addr) (d : PyData), vs = [.ref b, v] ∧ (∃ dx fs, H b = some (.ins (fa 171) dx fs)) ∧ Dt z H v d ∧ isInt d = false ∧ OneE E (fa 8) H "InvalidLimit" "given" v
theorem ok_p_BoardSetLimit (T : Txt K mg fa fd) : FnOk P w K mg base (L2.CX P w) 3 (fa 1711) (fd 1711) ["self", "value"] (spLimQ fa) := by
  refine T.F_BoardSetLimit.okX sc_p_BoardSetLimit (fun vs H Q E h => ?_) (fun cdv A outer s H vs Q E hr h => ?_)
  · obtain ⟨b, v, z, d, rfl, _⟩ := h
    rfl
  · obtain ⟨b, v, z, d, rfl, _, hv, hd, q⟩ := h
    refine ⟨_, (C8.pss_cut (ps_if (PW.pt (pw_or (pt_not (pt_val (pe_call (ok_p_is_whole T) (hr.mono (by decide)) (by rfl) T.g_p_is_whole T.F_p_is_whole.kp T.b_p_is_whole .nil pass0 (pa_cons (pv 1) pa_nil)))) (pw_or (pt_not (pt_chain op_le op_le pe_int (pv 1) (pe_clsI T.most_Board.choose_spec.choose_spec (pe_glob (v := V.ref (fa 171)) (by rfl) T.g_Board rfl)))) (pw_or1 (pt_cmpR op_lt (pv 1) (pe_callB (call_lenO (ok_p_BoardLen T) T.me_BoardLen.at_ T.me_BoardLen.fn T.b_BoardLen pass0 (hr.mono (by decide))) (by rfl) T.m_len PySem.boot_len (pa_cons (pv 0) pa_nil)) (nomark _)))))) (pss_one (ps_raise rfl (takes_of rfl rfl rfl rfl) (pmk_oex T.eInvalidLimit.oex T.eInvalidLimit.iC T.eInvalidLimit.tI (ok_InvalidLimit T) (hr.mono (by decide)) T.bIInvalidLimit .nil pass0 (by rfl) T.eInvalidLimit.gC (pa_cons (pv 1) pa_nil)))) pss_nil)
      (pss_one (ps_fld (pv 0) (pv 1) (by rfl)))), ?_⟩
    refine ⟨fun _ _ => False, ?_, fun σ G hM => hM.elim⟩
    refine ⟨_, rfl, v, d, z, rfl, hv, _, rfl, ?_⟩
    rw [hd]
    exact iteT ⟨_, rfl, rz1 T.eInvalidLimit.oex T.nInvalidLimit_given T.eInvalidLimit.tag q⟩
theorem ok_p_BoardChange (T : Txt K mg fa fd) : FnOk P w K mg base (L2.CX P w) 6 (fa 1712) (fd 1712) ["self", "value"] (spLimQ fa) := by
  refine T.F_BoardChange.okX sc_p_BoardChange (fun vs H Q E h => ?_) (fun cdv A outer s H vs Q E hr h => ?_)
  · obtain ⟨b, v, z, d, rfl, _⟩ := h
    rfl
  · obtain ⟨b, v, z, d, rfl, ⟨dx, fs, hb⟩, hv, hd, q⟩ := h
    refine ⟨_, (pss_one (ps_setp (pv 0) (pv 1) T.cl_Board T.st_BoardSetLimit (ok_p_BoardSetLimit T) (hr.mono (by decide)) T.b_BoardSetLimit (passes_call (takes_of rfl rfl rfl rfl) (fun _ _ _ _ h => h)) (by rfl))), ?_⟩
    exact ⟨_, rfl, _, rfl, b, dx, fs, rfl, hb, b, v, z, d, rfl, ⟨dx, fs, hb⟩, hv, hd, q⟩
/-- an error while an object is made -/
def OneO (E : XK) (C : Addr) (b : Addr) (H : Hp) (tag f : Str) (v : V) : Prop := ∀ d H', Oth b H H' → H' d = some (.xd [("tag", .str tag), (f, v)]) → E (.ref C) (some d) H'
theorem OneO.at_ {E : XK} {C b : Addr} {H G : Hp} {tag f : Str} {v : V} (h : OneO E C b H tag f v) (o : Oth b H G) : OneE E C G tag f v := fun d H' s e => h d H' (o.same s) e
def spBIQ (K : PySem.W.Frag) (C CE : Addr) : Sp := fun vs H Q E => ∃ (b L z : Addr) (ns : List Str) (v : V) (d : PyData) (dx : Addr), vs = [.ref b, .ref L, v] ∧ H b = some (.ins C dx []) ∧ SqL K H L (ns.map V.str) ∧ firstBad 0 [] ns = none ∧ ns.Nodup ∧ ns.length < 60 ∧ (∀ x ∈ ns, x.length ≤ 1000) ∧
  z ≠ b ∧ Dt z H v d ∧ isInt d = false ∧ OneO E CE b H "InvalidLimit" "given" v
theorem dt_oth {z b : Addr} {H H' : Hp} {C dx : Addr} {fs : List (Str × V)} {v : V} {d : PyData} (h : Dt z H v d) (hb : H b = some (.ins C dx fs)) (k : Oth b H H') : Dt z H' v d :=
  Dt.via (fun a o e g => k a o (fun y => by
    rw [y, hb] at e
    rcases g with ⟨⟨xs, rfl⟩, _⟩ | ⟨xs, rfl⟩
    · cases e
    · cases e) e) _ _ h
theorem ok_p_BoardInitQ (T : Txt K mg fa fd) : FnOk P w K mg base (L2.CX P w) 10 (fa 1700) (fd 1700) ["self", "names", "limit"] (spBIQ K (fa 171) (fa 8)) := by
  refine T.F_BoardInit.ok sc_p_BoardInit (fun vs H Q E h => ?_) (fun cdv A outer s H vs Q E hr h => ?_)
  · obtain ⟨b, L, z, ns, v, d, dx, rfl, _⟩ := h
    rfl
  · obtain ⟨b, L, z, ns, v, d, dx, rfl, hb, hL, hfb, hnd, hsz, hlx, zb, hv, hd, he⟩ := h
    refine ⟨_, (C8.pss_cut (ps_fld (pv 0) (pe_callTy call_tuple_of (by rfl) T.m_tuple (by decide +kernel) (pa_cons (pe_meth0 (T.b_LotInit1.elim fun ds hd => pe_make T.mk_Lot (ok_p_LotInit T) (hr.mono (by decide)) (by rfl) T.g_Lot hd.2 hd.1 pass0 (pa_cons (pv 1) pa_nil)) T.cl_Lot T.me_LotNames (ok_p_LotNames T) (hr.mono (by decide)) T.b_LotNames .nil pass0) pa_nil)) (by rfl))
      (C8.pss_cut (ps_if (PW.pt (pw_or (pt_not (pt_val (pe_call (ok_p_is_whole T) (hr.mono (by decide)) (by rfl) T.g_p_is_whole T.F_p_is_whole.kp T.b_p_is_whole .nil pass0 (pa_cons (pv 2) pa_nil)))) (pw_or1 (pt_not (pt_chain op_le op_le pe_int (pv 2) (pe_clsI T.most_Board.choose_spec.choose_spec (pe_glob (v := V.ref (fa 171)) (by rfl) T.g_Board rfl))))))) (pss_one (ps_raise rfl (takes_of rfl rfl rfl rfl) (pmk_oex T.eInvalidLimit.oex T.eInvalidLimit.iC T.eInvalidLimit.tI (ok_InvalidLimit T) (hr.mono (by decide)) T.bIInvalidLimit .nil pass0 (by rfl) T.eInvalidLimit.gC (pa_cons (pv 2) pa_nil)))) pss_nil)
      (C8.pss_cut (ps_fld (pv 0) (pv 2) (by rfl))
      (C8.pss_cut (ps_fld (pv 0) (pe_tup (pa_cons pe_dnewK (pa_cons (pe_lst pa_nil) pa_nil))) (by rfl))
      (C8.pss_cut (ps_fld (pv 0) (pe_lst pa_nil) (by rfl))
      (C8.pss_cut (ps_fld (pv 0) (pe_lst pa_nil) (by rfl))
      (C8.pss_cut (ps_fld (pv 0) pe_dnewK (by rfl))
      (C8.pss_cut (ps_fld (pv 0) pe_int (by rfl))
      (pss_one (ps_fld (pv 0) pe_bl (by rfl))))))))))), ?_⟩
    refine ⟨fun σ G => Oth b H G ∧ σ = [some (.ref b), some (.ref L), some v], ?_, fun σ G hM => ?_⟩
    · refine ⟨_, rfl, fun x dy nx ndy ne => ?_⟩
      have s2 := (same_upd (o := .own x) ndy).trans (same_upd (o := .ins (fa 148) dy []) (H := upd H dy (.own x)) ((upd_ne ne.symm).trans nx))
      refine ⟨x, L, fa 1502, ns, [], dy, rfl, upd_same, ⟨.inl (SqL.sm s2 hL), .inr (T.z_LotInit _), ⟨z, [], .nil, rfl⟩, by show 0 ≤ 900; decide, hfb, hnd, by omega, hlx⟩, fun H' oth hL => ⟨rfl, ?_⟩⟩
      have keep : Same H H' := fun y o e => oth y o (ne_of_none e nx) (s2 _ _ e)
      obtain ⟨dl, u1, u2, msl, f1, f2, f3, f4, f5⟩ := id hL.at_
      refine ⟨x, dl, _, rfl, f1, rfl, x, ns, [], rfl, hL, fun p ms G1 s1 n1 hp pm sr => ?_⟩
      refine ⟨p, _, rfl, .inl ⟨SqL.of hp, fun t nt => ?_⟩⟩
      have st := same_upd (o := .tup (ms.map V.str)) nt
      have k3 := keep.trans (s1.trans st)
      exact ⟨_, rfl, b, _, dx, [], rfl, k3 _ _ hb, T.cl_Board, T.na_Board_unknowns, by show 0 < 1000; decide, fun y o n e => (upd_ne n).trans (k3 _ _ e), rfl⟩
    obtain ⟨oG, rfl⟩ := hM
    refine ⟨fun _ _ => False, ?_, fun σ G2 hM => hM.elim⟩
    have rz := rz1 T.eInvalidLimit.oex T.nInvalidLimit_given T.eInvalidLimit.tag (he.at_ oG)
    refine ⟨_, rfl, v, d, z, rfl, dt_oth hv hb oG, _, rfl, ?_⟩
    rw [hd]
    exact iteT ⟨_, rfl, rz⟩
/-! ### layouts -/
structure LayH (C : Addr) (H : Hp) (x dx lo la : Addr) (us : List V) : Prop where
  ins : H x = some (.ins C dx [("ground", .ref lo), ("asked", .ref la)])
  lst : H la = some (.lst us)
theorem LayH.same {C : Addr} {H H' : Hp} {x dx lo la : Addr} {us : List V} (h : LayH C H x dx lo la us) (s : Same H H') : LayH C H' x dx lo la us := ⟨s _ _ h.ins, s _ _ h.lst⟩
def spLWish (C : Addr) : Sp := fun vs H Q _ => ∃ (x dx lo la : Addr) (us : List V), vs = [.ref x] ∧ LayH C H x dx lo la us ∧ ∀ p, H p = none → Q (.ref p) (upd H p (.lst us))
theorem ok_p_LayWishes (T : Txt K mg fa fd) : FnOk P w K mg base CX0 1 (fa 1813) (fd 1813) ["self"] (spLWish (fa 154)) := by
  refine T.F_LayWishes.ok sc_p_LayWishes (fun vs H Q E h => ?_) (fun cdv A outer s H vs Q E hr h => ?_)
  · obtain ⟨x, dx, lo, la, us, rfl, _⟩ := h
    rfl
  · obtain ⟨x, dx, lo, la, us, rfl, hx, q⟩ := h
    refine ⟨_, (pss_one (ps_ret (pe_callTy call_list_of (by rfl) T.m_list (by decide +kernel) (pa_cons (pe_fld (pv 0) (by rfl)) pa_nil)))), ?_⟩
    exact ⟨_, rfl, _, _, dx, _, _, rfl, hx.ins, T.cl_Layout, T.na_Layout_asked, rfl, la, _, rfl, .inl (SqL.of hx.lst), fun p np => q p np⟩
def spPres (C CE : Addr) : Sp := fun vs H Q E => ∃ (x dx lo la : Addr) (us : List V) (v : V) (z : Addr) (d : PyData), vs = [.ref x, v] ∧ LayH C H x dx lo la us ∧ Dt z H v d ∧
  (isInt d = false → OneE E CE H "InvalidWish" "at" v) ∧ (∀ i, d = .int i → 0 ≤ i ∧ i < (us.length : Int) ∧ Q .non H)
theorem ok_p_LayPresent (T : Txt K mg fa fd) : FnOk P w K mg base (L2.CX P w) 3 (fa 1810) (fd 1810) ["self", "at"] (spPres (fa 154) (fa 6)) := by
  refine T.F_LayPresent.okX sc_p_LayPresent (fun vs H Q E h => ?_) (fun cdv A outer s H vs Q E hr h => ?_)
  · obtain ⟨x, dx, lo, la, us, v, z, d, rfl, _⟩ := h
    rfl
  · obtain ⟨x, dx, lo, la, us, v, z, d, rfl, hx, hv, q1, q2⟩ := h
    refine ⟨_, (pss_one (ps_if (PW.pt (pw_or (pt_not (pt_val (pe_call (ok_p_is_whole T) (hr.mono (by decide)) (by rfl) T.g_p_is_whole T.F_p_is_whole.kp T.b_p_is_whole .nil pass0 (pa_cons (pv 1) pa_nil)))) (pw_or1 (pt_not (pt_chain op_le op_lt pe_int (pv 1) (pe_callB call_len_seq (by rfl) T.m_len PySem.boot_len (pa_cons (pe_fld (pv 0) (by rfl)) pa_nil))))))) (pss_one (ps_raise rfl (takes_of rfl rfl rfl rfl) (pmk_oex T.eInvalidWish.oex T.eInvalidWish.iC T.eInvalidWish.tI (ok_InvalidWish T) (hr.mono (by decide)) T.bIInvalidWish .nil pass0 (by rfl) T.eInvalidWish.gC (pa_cons (pv 1) pa_nil)))) pss_nil)), ?_⟩
    refine ⟨_, rfl, v, d, z, rfl, hv, _, rfl, ?_⟩
    cases hd : isInt d with
    | false => exact iteT ⟨_, rfl, rz1 T.eInvalidWish.oex T.nInvalidWish_at T.eInvalidWish.tag (q1 hd)⟩
    | true =>
      obtain ⟨i, rfl⟩ : ∃ i, d = .int i := by cases d <;> first | exact ⟨_, rfl⟩ | cases hd
      obtain ⟨i0, i1, q⟩ := q2 i rfl
      cases hv
      refine iteF ⟨_, rfl, _, _, rfl, rfl, _, rfl, iteTq (decide_eq_true i0) ?_⟩
      refine ⟨_, rfl, _, _, dx, _, _, rfl, hx.ins, T.cl_Layout, T.na_Layout_asked, rfl, la, us, rfl, .inl (SqL.of hx.lst), _, _, rfl, rfl, _, rfl, ?_⟩
      rw [decide_eq_true i1]
      exact iteF q
def spLDrop (C CE : Addr) : Sp := fun vs H Q E => ∃ (x dx lo la : Addr) (us : List V) (v : V) (z : Addr) (d : PyData), vs = [.ref x, v] ∧ LayH C H x dx lo la us ∧ Dt z H v d ∧ isInt d = false ∧ OneE E CE H "InvalidWish" "at" v
theorem ok_p_LayDrop (T : Txt K mg fa fd) : FnOk P w K mg base (L2.CX P w) 5 (fa 1811) (fd 1811) ["self", "at"] (spLDrop (fa 154) (fa 6)) := by
  refine T.F_LayDrop.okX sc_p_LayDrop (fun vs H Q E h => ?_) (fun cdv A outer s H vs Q E hr h => ?_)
  · obtain ⟨x, dx, lo, la, us, v, z, d, rfl, _⟩ := h
    rfl
  · obtain ⟨x, dx, lo, la, us, v, z, d, rfl, hx, hv, hd, q⟩ := h
    refine ⟨_, (C8.pss_cut (ps_expr (pe_meth (pv 0) T.cl_Layout T.me_LayPresent (ok_p_LayPresent T) (hr.mono (by decide)) T.b_LayPresent .nil (passes_call (takes_of rfl rfl rfl rfl) (fun _ _ _ _ h => h)) (pa_cons (pv 1) pa_nil)))
      (pss_one ps_never)), ?_⟩
    refine ⟨fun _ _ => False, ?_, fun σ G hM => hM.elim⟩
    exact ⟨_, rfl, x, dx, _, rfl, hx.ins, rfl, _, rfl, x, dx, lo, la, us, v, z, d, rfl, hx, hv, fun _ => q, fun i e => absurd e (isInt_no hd i)⟩
def spLMove (C CE : Addr) : Sp := fun vs H Q E => ∃ (x dx lo la : Addr) (us : List V) (v1 v2 v : V) (z : Addr) (d : PyData), vs = [.ref x, v1, v2] ∧ LayH C H x dx lo la us ∧ Dt z H v d ∧ isInt d = false ∧ OneE E CE H "InvalidWish" "at" v ∧ (v1 = v ∨ (∃ i : Int, v1 = .int i ∧ i.natAbs.log2 < 4096 ∧ 0 ≤ i ∧ i < (us.length : Int) ∧ v2 = v))
theorem ok_p_LayMove (T : Txt K mg fa fd) : FnOk P w K mg base (L2.CX P w) 5 (fa 1812) (fd 1812) ["self", "at", "to"] (spLMove (fa 154) (fa 6)) := by
  refine T.F_LayMove.ok sc_p_LayMove (fun vs H Q E h => ?_) (fun cdv A outer s H vs Q E hr h => ?_)
  · obtain ⟨x, dx, lo, la, us, v1, v2, v, z, d, rfl, _⟩ := h
    rfl
  · obtain ⟨x, dx, lo, la, us, v1, v2, v, z, d, rfl, hx, hv, hd, q, hw⟩ := h
    refine ⟨_, (C8.pss_cut (ps_expr (pe_meth (pv 0) T.cl_Layout T.me_LayPresent (ok_p_LayPresent T) (hr.mono (by decide)) T.b_LayPresent .nil (passes_call (takes_of rfl rfl rfl rfl) (fun _ _ _ _ h => h)) (pa_cons (pv 1) pa_nil)))
      (C8.pss_cut (ps_expr (pe_meth (pv 0) T.cl_Layout T.me_LayPresent (ok_p_LayPresent T) (hr.mono (by decide)) T.b_LayPresent .nil (passes_call (takes_of rfl rfl rfl rfl) (fun _ _ _ _ h => h)) (pa_cons (pv 2) pa_nil)))
      (pss_one ps_never))), ?_⟩
    rcases hw with rfl | ⟨i, rfl, ib, i0, i1, rfl⟩
    · refine ⟨fun _ _ => False, ?_, fun σ G hM => hM.elim⟩
      exact ⟨_, rfl, x, dx, _, rfl, hx.ins, rfl, _, rfl, x, dx, lo, la, us, _, z, d, rfl, hx, hv, fun _ => q, fun i e => absurd e (isInt_no hd i)⟩
    · refine ⟨fun σ G => G = H ∧ σ = [some (.ref x), some (.int i), some v2], ?_, fun σ G hM => ?_⟩
      · exact ⟨_, rfl, x, dx, _, rfl, hx.ins, rfl, _, rfl, x, dx, lo, la, us, .int i, z, .int i, rfl, hx, .int i ib, (fun e => by cases e), fun j e => by cases e; exact ⟨i0, i1, rfl, rfl⟩⟩
      obtain ⟨rfl, rfl⟩ := hM
      refine ⟨fun _ _ => False, ?_, fun σ G hM => hM.elim⟩
      exact ⟨_, rfl, x, dx, _, rfl, hx.ins, rfl, _, rfl, x, dx, lo, la, us, _, z, d, rfl, hx, hv, fun _ => q, fun i e => absurd e (isInt_no hd i)⟩
/-- wishes for some names -/
def WiH (z : Addr) (H : Hp) (ns : List Str) (v : V) : Prop := ∃ (c : Addr) (vt vg : V) (t g : PyData), v = .ref c ∧ H c = some (.tup [vt, vg]) ∧ Dt z H vt t ∧ Dt z H vg g ∧ wishG ns t g = true
theorem WiH.same {z : Addr} {H H' : Hp} {ns : List Str} {v : V} (h : WiH z H ns v) (s : Same H H') : WiH z H' ns v := by
  obtain ⟨c, vt, vg, t, g, e, h1, h2, h3, h4⟩ := h
  exact ⟨c, vt, vg, t, g, e, s _ _ h1, h2.same s, h3.same s, h4⟩
theorem wishG_perm {ms ns : List Str} {t g : PyData} (p : ms.Perm ns) (h : wishG ns t g = true) : wishG ms t g = true := by
  unfold wishG at h ⊢
  rw [Bool.and_eq_true, Bool.and_eq_true] at h ⊢
  refine ⟨h.1, ?_, h.2.2⟩
  rw [List.all_eq_true] at h ⊢
  exact fun x m => decide_eq_true (p.mem_iff.mpr (of_decide_eq_true (h.2.1 x m)))
def spChkW (K : PySem.W.Frag) (C : Addr) : Sp := fun vs H Q _ => ∃ (x p z : Addr) (ns : List Str) (bs us : List V), vs = [.ref x, .ref p] ∧ LotH K C H x ns bs ∧ SqT K H p us ∧ (∀ v ∈ us, WiH z H ns v) ∧ ∀ H', Same H H' → Q .non H'
theorem ok_p_check_wishes (T : Txt K mg fa fd) : FnOk P w K mg base CX0 7 (fa 151) (fd 151) ["lot", "wishes"] (spChkW K (fa 148)) := by
  refine T.F_p_check_wishes.ok sc_p_check_wishes (fun vs H Q E h => ?_) (fun cdv A outer s H vs Q E hr h => ?_)
  · obtain ⟨x, p, z, ns, bs, us, rfl, _⟩ := h
    rfl
  · obtain ⟨x, p, z, ns, bs, us, rfl, hL, hp, hw, q⟩ := h
    refine ⟨_, (C8.pss_cut (ps_set (i := 2) sc_p_check_wishes.nd rfl (.inl rfl) (pe_meth0 (pv 0) T.cl_Lot T.me_LotNames (ok_p_LotNames T) (hr.mono (by decide)) T.b_LotNames .nil pass0))
      (pss_one (ps_for PassesOwn.never rfl (pi_enumT (by rfl) T.m_enumerate (pa_cons (pv 1) pa_nil)) (pg_tup (by rfl) (pgs_cons (pg_name (i := 3) sc_p_check_wishes.nd rfl (.inl rfl)) (pgs_cons (pg_name (i := 4) sc_p_check_wishes.nd rfl (.inl rfl)) pgs_nil))) (pss_one (ps_if (pt_not (pt_val (pe_call (ok_p_is_wish T) (hr.mono (by decide)) (by rfl) T.g_p_is_wish T.F_p_is_wish.kp T.b_p_is_wish .nil pass0 (pa_cons (pv 4) (pa_cons (pv 2) pa_nil))))) (pss_one ps_never) pss_nil))))), ?_⟩
    obtain ⟨dl, u1, u2, msl, f1, f2, f3, f4, f5⟩ := id hL.at_
    refine ⟨fun σ G => Same H G ∧ ∃ (l : Addr) (ms : List Str), G l = some (.lst (ms.map V.str)) ∧ ms.Perm ns ∧ σ = [some (.ref x), some (.ref p), some (.ref l), none, none], ?_, fun σ G hM => ?_⟩
    · exact ⟨_, rfl, x, dl, _, rfl, f1, rfl, x, ns, bs, rfl, hL, fun l ms G1 s1 n1 hl pm sr => ⟨s1, l, ms, hl, pm, rfl⟩⟩
    obtain ⟨s1, l, ms, hl, pm, rfl⟩ := hM
    refine ⟨_, rfl, p, _, rfl, SqT_sm s1 hp, for_enumT (K := K) (a := p) (xs := us) (fun i σ G2 => Same G G2 ∧ ∃ y3 y4, σ = [some (.ref x), some (.ref p), some (.ref l), y3, y4]) ⟨Same.refl _, _, _, rfl⟩ (fun i σ G2 _ hq => SqT_sm (s1.trans hq.1) hp) (fun i y σ G2 Tt hy hq nT => ?_) (fun σ G2 hq => q _ (s1.trans hq.1))⟩
    obtain ⟨sG, y3, y4, rfl⟩ := hq
    have sT := same_upd (o := .tup [V.int (i : Nat), y]) nT
    have s2 := s1.trans (sG.trans sT)
    obtain ⟨c, vt, vg, t, g, rfl, h1, h2, h3, h4⟩ := (hw y (List.mem_of_getElem? hy)).same s2
    refine ⟨Tt, _, rfl, SqT.of upd_same, rfl, _, _, rfl, _, _, rfl, rfl, ?_⟩
    refine ⟨_, rfl, _, rfl, c, l, z, vt, vg, t, g, ms, rfl, h1, h2, h3, .inl (SqL.of ((sG.trans sT) _ _ hl)), fun H' s' => ⟨_, rfl, ?_⟩⟩
    rw [wishG_perm pm h4]
    exact iteF ⟨sG.trans (sT.trans s'), _, _, rfl⟩
end
section
variable {P : Program} {w : World} {K : PySem.W.Frag} {mg : Str → Option Value} {base : Heap} {fa : Nat → Addr} {fd : Nat → FuncData}
def spLayB (K : PySem.W.Frag) (C CL : Addr) : Sp := fun vs H Q _ => ∃ (x dx lo p z : Addr) (ns : List Str) (bs us : List V), vs = [.ref x, .ref lo, .ref p] ∧ H x = some (.ins C dx []) ∧ LotH K CL H lo ns bs ∧ H p = some (.tup us) ∧ us.length ≤ 8 ∧ (∀ v ∈ us, WiH z H ns v) ∧ ∀ H' la, (∀ b o, b ≠ x → H b = some o → H' b = some o) → LayH C H' x dx lo la us → H la = none → Q .non H'
def spLayI (K : PySem.W.Frag) (C CL : Addr) : Sp := fun vs H Q _ => ∃ (x dx lo z : Addr) (ns : List Str) (bs us : List V), vs = .ref x :: .ref lo :: us ∧ H x = some (.ins C dx []) ∧ LotH K CL H lo ns bs ∧ us.length ≤ 8 ∧ (∀ v ∈ us, WiH z H ns v) ∧ ∀ H' la, (∀ b o, b ≠ x → H b = some o → H' b = some o) → LayH C H' x dx lo la us → H la = none → Q .non H'
theorem ok_p_LayInit (T : Txt K mg fa fd) : FnR P w K mg base (L2.CX P w) 10 (fa 1800) (spLayI K (fa 154) (fa 148)) := by
  refine FnR.imp (star_meth2 (sp := spLayB K (fa 154) (fa 148)) T.F_LayInit sc_p_LayInit (fun _ _ _ _ _ _ u u2 rest => by cases rest <;> rfl) fun cdv A outer s H vs Q E hr h => ?_) fun vs H Q E h => ?_
  · obtain ⟨x, dx, lo, p, z, ns, bs, us, rfl, hx, hL, hp, hl, hw, q⟩ := h
    refine ⟨_, (C8.pss_cut (ps_expr (pe_call (ok_p_check_wishes T) (hr.mono (by decide)) (by rfl) T.g_p_check_wishes T.F_p_check_wishes.kp T.b_p_check_wishes .nil pass0 (pa_cons (pv 1) (pa_cons (pv 2) pa_nil))))
      (C8.pss_cut (ps_if (pt_cmpR op_gt (pe_callB call_len_seq (by rfl) T.m_len PySem.boot_len (pa_cons (pv 2) pa_nil)) (pe_clsI T.most_Layout.choose_spec.choose_spec (pe_glob (v := V.ref (fa 154)) (by rfl) T.g_Layout rfl)) (nomark _)) (pss_one ps_never) pss_nil)
      (C8.pss_cut (ps_fld (pv 0) (pv 1) (by rfl))
      (pss_one (ps_fld (pv 0) (pe_callTy call_list_of (by rfl) T.m_list (by decide +kernel) (pa_cons (pv 2) pa_nil)) (by rfl)))))), ?_⟩
    refine ⟨fun σ G => Same H G ∧ σ = [some (.ref x), some (.ref lo), some (.ref p)], ⟨_, rfl, _, rfl, lo, p, z, ns, bs, us, rfl, hL, SqT.of hp, hw, fun H' s' => ⟨s', rfl⟩⟩, fun σ G hM => ?_⟩
    obtain ⟨s1, rfl⟩ := hM
    refine ⟨fun σ G2 => G2 = G ∧ σ = [some (.ref x), some (.ref lo), some (.ref p)], ⟨_, rfl, p, us, rfl, .inr (SqT.of (s1 _ _ hp)), rfl, _, _, rfl, rfl, _, rfl, iteFq (decide_eq_false (by omega)) ⟨rfl, rfl⟩⟩, fun σ G2 hM => ?_⟩
    obtain ⟨rfl, rfl⟩ := hM
    have hx1 := s1 _ _ hx
    have px : p ≠ x := ne_of hp hx (by intro z; cases z)
    refine ⟨fun σ G3 => G3 = upd G2 x (.ins (fa 154) dx [("ground", .ref lo)]) ∧ σ = [some (.ref x), some (.ref lo), some (.ref p)], ⟨_, rfl, _, rfl, x, _, dx, [], rfl, hx1, T.cl_Layout, T.na_Layout_ground, by show 0 < 1000; decide, rfl, rfl⟩, fun σ G3 hM => ?_⟩
    obtain ⟨rfl, rfl⟩ := hM
    refine ⟨_, rfl, p, us, rfl, .inr (SqT.of ((upd_ne px).trans (s1 _ _ hp))), fun la nla => ?_⟩
    have lx : la ≠ x := fun e => by rw [e, upd_same] at nla; cases nla
    have nlG : G2 la = none := by rw [upd_ne lx] at nla; exact nla
    refine ⟨_, rfl, x, _, dx, _, rfl, (upd_ne lx.symm).trans upd_same, T.cl_Layout, T.na_Layout_asked, by show 1 < 1000; decide, q _ la (fun b o nb e => ?_) ⟨upd_same, (upd_ne lx).trans upd_same⟩ ?_⟩
    · have e1 := s1 _ _ e
      rw [upd_ne nb, upd_ne (ne_of_none e1 nlG), upd_ne nb]
      exact e1
    · cases e : H la with
      | none => rfl
      | some o => rw [s1 _ _ e] at nlG; cases nlG
  · obtain ⟨x, dx, lo, z, ns, bs, us, rfl, hx, hL, hl, hw, q⟩ := h
    refine ⟨_, _, us, rfl, small_line (by omega), fun p np => ?_⟩
    have s1 := same_upd (o := .tup us) np
    refine ⟨x, dx, lo, p, z, ns, bs, us, rfl, s1 _ _ hx, hL.same s1, upd_same, hl, fun v m => (hw v m).same s1, fun H' la ho hl2 n => q H' la (fun b o nb e => ho b o nb (s1 _ _ e)) hl2 ?_⟩
    cases e : H la with
    | none => rfl
    | some o => rw [s1 _ _ e] at n; cases n
/-! ### steps -/
def spRepQ (C CE : Addr) : Sp := fun vs H Q E => ∃ (x : Addr) (v : V) (z : Addr) (d : PyData), vs = [.ref x, v] ∧ Dt z H v d ∧ isInt d = false ∧ OneE E CE H "InvalidTimes" "given" v
theorem ok_p_StepRepeated (T : Txt K mg fa fd) : FnOk P w K mg base (L2.CX P w) 3 (fa 1611) (fd 1611) ["self", "times"] (spRepQ (fa 179) (fa 7)) := by
  refine T.F_StepRepeated.okX sc_p_StepRepeated (fun vs H Q E h => ?_) (fun cdv A outer s H vs Q E hr h => ?_)
  · obtain ⟨x, v, z, d, rfl, _⟩ := h
    rfl
  · obtain ⟨x, v, z, d, rfl, hv, hd, q⟩ := h
    refine ⟨_, (C8.pss_cut (ps_if (PW.pt (pw_or (pt_not (pt_val (pe_call (ok_p_is_whole T) (hr.mono (by decide)) (by rfl) T.g_p_is_whole T.F_p_is_whole.kp T.b_p_is_whole .nil pass0 (pa_cons (pv 1) pa_nil)))) (pw_or1 (pt_not (pt_chain op_le op_le pe_int (pv 1) (C8.pe_gc (by rfl) T.c_MOST_TIMES)))))) (pss_one (ps_raise rfl (takes_of rfl rfl rfl rfl) (pmk_oex T.eInvalidTimes.oex T.eInvalidTimes.iC T.eInvalidTimes.tI (ok_InvalidTimes T) (hr.mono (by decide)) T.bIInvalidTimes .nil pass0 (by rfl) T.eInvalidTimes.gC (pa_cons (pv 1) pa_nil)))) pss_nil)
      (C8.pss_cut ps_never
      (C8.pss_cut ps_never
      (C8.pss_cut ps_never
      (pss_one ps_never))))), ?_⟩
    refine ⟨fun _ _ => False, ?_, fun σ G hM => hM.elim⟩
    refine ⟨_, rfl, v, d, z, rfl, hv, _, rfl, ?_⟩
    rw [hd]
    exact iteT ⟨_, rfl, rz1 T.eInvalidTimes.oex T.nInvalidTimes_given T.eInvalidTimes.tag q⟩
end
/-! ### names of steps -/
/-- an apostrophe at the end -/
def endQ (a : List Nat) : Bool := decide (a.getLast? = some 39)
theorem ends_quote (a : List Nat) : Txt.endswith (SX.S a) (SX.S [39]) = endQ a := by
  rcases List.eq_nil_or_concat a with rfl | ⟨b, c, rfl⟩
  · rfl
  · rw [List.concat_eq_append]
    unfold Txt.endswith
    have e1 : decide (0 + (SX.S [39]).length ≤ (SX.S (b ++ [c])).length) = true := by
      rw [SX.S_len, SX.S_len, List.length_append]
      exact decide_eq_true (by show 0 + 1 ≤ b.length + 1; omega)
    first
      | rw [e1, Bool.true_and, last_at]
      | (rw [Nat.zero_add] at e1; rw [e1, Bool.true_and, last_at])
    unfold endQ
    rw [List.getLast?_append, List.getLast?_singleton, Option.some_or]
    by_cases h : c = 39
    · rw [decide_eq_true h, decide_eq_true (by rw [h])]
    · rw [decide_eq_false h, decide_eq_false (fun z => h (Option.some.inj z))]
theorem ends_str (x : Str) : Txt.endswith x (Str.ofString "'") = endQ x.cps.toList := by
  have := ends_quote x.cps.toList
  rwa [S_of, ← quote] at this
/-- what a name of a step is -/
def stepN (x : Str) : Bool := nameB x.cps.toList && !endQ x.cps.toList
/-- the first name that is none, or there before, or beyond the third -/
def firstBadS : Nat → List Str → List Str → Option Nat
  | _, _, [] => none
  | i, pre, x :: r => if (stepN x = true ∧ x ∉ pre) ∧ i < 3 then firstBadS (i + 1) (pre ++ [x]) r else some i
abbrev prNs (ns : List Str) : List Str := ns.map fun x => x ++ Str.ofString "'"
def PrQ (H : Hp) (Q : VK) (ns : List Str) : Prop := ∀ D H', H D = none → Same H H' → H' D = some (.lst ((prNs ns).map V.str)) → Q (.ref D) H'
section
variable {P : Program} {w : World} {K : PySem.W.Frag} {mg : Str → Option Value} {base : Heap} {fa : Nat → Addr} {fd : Nat → FuncData}
def spPrB (K : PySem.W.Frag) : Sp := fun vs H Q _ => ∃ (L : Addr) (ns : List Str), vs = [.ref L] ∧ SqB K H L (ns.map V.str) ∧ ns.length ≤ 900 ∧ (∀ x ∈ ns, x.length ≤ 900) ∧ PrQ H Q ns
theorem ok_p_primedL (T : Txt K mg fa fd) : FnOk P w K mg base CX0 1 (fa 174) (fd 174) ["names"] (fun vs H Q _ => ∃ (L : Addr) (ns : List Str), vs = [.ref L] ∧ SqL K H L (ns.map V.str) ∧ ns.length ≤ 900 ∧ (∀ x ∈ ns, x.length ≤ 900) ∧ PrQ H Q ns) := by
  refine T.F_p_primed.ok sc_p_primed (fun vs H Q E h => ?_) (fun cdv A outer s H vs Q E hr h => ?_)
  · obtain ⟨L, ns, rfl, _⟩ := h
    rfl
  · obtain ⟨L, ns, rfl, hL, hsz, hlen, q⟩ := h
    refine ⟨_, (pss_one (ps_ret (pe_lc (own := [("name", 1)]) (g := gName 1) (tt := tYes) rfl sc_p_primed.nd (pi_list (pv 0)) (blkOk_by (own := [("name", 1)]) (N := ["names", "name"]) (sc := defScope s_p_primed) (by decide +kernel)) (fun _ _ _ _ _ => pg_name (i := 1) sc_p_primed.nd rfl (Or.inl rfl)) (fun _ _ _ _ _ => pts_nil) (fun _ _ _ _ _ => (pe_op op_add_str (pv 1) pe_str))))), ?_⟩
    refine ⟨_, rfl, L, rfl, ⟨_, hL⟩, fun D nD => ?_⟩
    refine lc_list (K := K) (a := L) (xs := ns.map V.str) (fun i G => Same H G ∧ G D = some (.lst (((ns.take i).map fun x => x ++ Str.ofString "'").map V.str))) ⟨same_upd nD, upd_same⟩ (fun i G _ hq => SqL.sm hq.1 hL) (fun i x G hx hq => ?_) (fun G hq => ?_)
    · rw [List.getElem?_map] at hx
      obtain ⟨n, hz, rfl⟩ := Option.map_eq_some_iff.mp hx
      have il := (List.getElem?_eq_some_iff.mp hz).1
      have ln := hlen n (List.mem_of_getElem? hz)
      refine ⟨rfl, _, rfl, _, _, rfl, rfl, small_line (by have : (Str.ofString "'" : Str).length = 1 := (by decide +kernel); omega), _, hq.2, small1000 (by rw [List.length_map, List.length_map, List.length_take]; omega), fun b o e => (upd_ne (ne_of_none e nD)).trans (hq.1 _ _ e), ?_⟩
      rw [upd_same, List.take_add_one, hz, List.map_append, List.map_append]
      rfl
    · rw [List.length_map, List.take_length] at hq
      exact q D G nD hq.1 hq.2
theorem ok_p_primedT (T : Txt K mg fa fd) : FnOk P w K mg base CX0 1 (fa 174) (fd 174) ["names"] (fun vs H Q _ => ∃ (L : Addr) (ns : List Str), vs = [.ref L] ∧ SqT K H L (ns.map V.str) ∧ ns.length ≤ 900 ∧ (∀ x ∈ ns, x.length ≤ 900) ∧ PrQ H Q ns) := by
  refine T.F_p_primed.ok sc_p_primed (fun vs H Q E h => ?_) (fun cdv A outer s H vs Q E hr h => ?_)
  · obtain ⟨L, ns, rfl, _⟩ := h
    rfl
  · obtain ⟨L, ns, rfl, hL, hsz, hlen, q⟩ := h
    refine ⟨_, (pss_one (ps_ret (pe_lc (own := [("name", 1)]) (g := gName 1) (tt := tYes) rfl sc_p_primed.nd (pi_tup (pv 0)) (blkOk_by (own := [("name", 1)]) (N := ["names", "name"]) (sc := defScope s_p_primed) (by decide +kernel)) (fun _ _ _ _ _ => pg_name (i := 1) sc_p_primed.nd rfl (Or.inl rfl)) (fun _ _ _ _ _ => pts_nil) (fun _ _ _ _ _ => (pe_op op_add_str (pv 1) pe_str))))), ?_⟩
    refine ⟨_, rfl, L, rfl, ⟨_, hL⟩, fun D nD => ?_⟩
    refine lc_tup (K := K) (a := L) (xs := ns.map V.str) (fun i G => Same H G ∧ G D = some (.lst (((ns.take i).map fun x => x ++ Str.ofString "'").map V.str))) ⟨same_upd nD, upd_same⟩ (fun i G _ hq => SqT_sm hq.1 hL) (fun i x G hx hq => ?_) (fun G hq => ?_)
    · rw [List.getElem?_map] at hx
      obtain ⟨n, hz, rfl⟩ := Option.map_eq_some_iff.mp hx
      have il := (List.getElem?_eq_some_iff.mp hz).1
      have ln := hlen n (List.mem_of_getElem? hz)
      refine ⟨rfl, _, rfl, _, _, rfl, rfl, small_line (by have : (Str.ofString "'" : Str).length = 1 := (by decide +kernel); omega), _, hq.2, small1000 (by rw [List.length_map, List.length_map, List.length_take]; omega), fun b o e => (upd_ne (ne_of_none e nD)).trans (hq.1 _ _ e), ?_⟩
      rw [upd_same, List.take_add_one, hz, List.map_append, List.map_append]
      rfl
    · rw [List.length_map, List.take_length] at hq
      exact q D G nD hq.1 hq.2
theorem ok_p_primedB (T : Txt K mg fa fd) : FnOk P w K mg base CX0 1 (fa 174) (fd 174) ["names"] (spPrB K) :=
  (FnOk.or (ok_p_primedL T) (ok_p_primedT T)).imp fun vs H Q E ⟨L, ns, e, h, r⟩ => h.elim (fun h => .inl ⟨L, ns, e, h, r⟩) fun h => .inr ⟨L, ns, e, h, r⟩
end
/-- what holds of a call Step(names, ties) that is right -/
structure StepA (K : PySem.W.Frag) (H : Hp) (L T : Addr) (ns : List Str) (us : List V) : Prop where
  ln : SqB K H L (ns.map V.str)
  lt : SqB K H T us
  ds : ∃ z ds, DtAll z H us ds ∧ firstBadT (ns ++ prNs ns) 0 ds = none
  us : us.length ≤ 900
  fb : firstBadS 0 [] ns = none
  nd : ns.Nodup
  sz : ns.length ≤ 3
  lx : ∀ x ∈ ns, x.length ≤ 900
theorem StepA.same {K : PySem.W.Frag} {H H' : Hp} {L T : Addr} {ns : List Str} {us : List V} (h : StepA K H L T ns us) (s : Same H H') : StepA K H' L T ns us := by
  obtain ⟨z, ds, a, b⟩ := h.ds
  exact ⟨h.ln.sm s, h.lt.sm s, ⟨z, ds, a.same s, b⟩, h.us, h.fb, h.nd, h.sz, h.lx⟩
theorem cutT_no {i n : Nat} (il : i < n) : ¬ (HT.sIx n 0 none = 0 ∧ HT.sIx n n (some (i : Int)) = n) := fun z => by
  have z2 := z.2
  rw [HT.sIx_nat] at z2
  omega
section
variable {P : Program} {w : World} {K : PySem.W.Frag} {mg : Str → Option Value} {base : Heap} {fa : Nat → Addr} {fd : Nat → FuncData}
def spStepI (K : PySem.W.Frag) (C : Addr) : Sp := fun vs H Q _ => ∃ (self L T : Addr) (ns : List Str) (us : List V) (dx : Addr), vs = [.ref self, .ref L, .ref T] ∧ H self = some (.ins C dx []) ∧ StepA K H L T ns us ∧
  ∀ H', (∀ b o, b ≠ self → H b = some o → H' b = some o) → LotH K C H' self ns us → Q .non H'
def spStepS (S : PySem.W.Frag → Hp → Addr → List V → Prop) (K : PySem.W.Frag) (C : Addr) : Sp := fun vs H Q _ => ∃ (self L T : Addr) (ns : List Str) (us : List V) (dx : Addr), vs = [.ref self, .ref L, .ref T] ∧ H self = some (.ins C dx []) ∧ StepA K H L T ns us ∧ S K H L (ns.map V.str) ∧
  ∀ H', (∀ b o, b ≠ self → H b = some o → H' b = some o) → LotH K C H' self ns us → Q .non H'
theorem ok_p_StepInitL (T : Txt K mg fa fd) : FnOk P w K mg base CX0 7 (fa 1600) (fd 1600) ["self", "names", "ties"] (spStepS (fun K H L xs => SqL K H L xs) K (fa 179)) := by
  refine T.F_StepInit.ok sc_p_StepInit (fun vs H Q E h => ?_) (fun cdv A outer s H vs Q E hr h => ?_)
  · obtain ⟨self, L, T, ns, us, dx, rfl, _⟩ := h
    rfl
  · obtain ⟨self, L, T0, ns, us, dx, rfl, hself, hA, hL, q⟩ := h
    refine ⟨_, PSs.nox (C8.pss_cut (ps_for PassesOwn.never rfl (pi_enum (by rfl) T.m_enumerate (pa_cons (pv 1) pa_nil)) (pg_tup (by rfl) (pgs_cons (pg_name (i := 3) sc_p_StepInit.nd rfl (.inl rfl)) (pgs_cons (pg_name (i := 4) sc_p_StepInit.nd rfl (.inl rfl)) pgs_nil))) (pss_one (ps_if (PW.pt (pw_or (pt_not (pt_val (pe_call (ok_p_is_name T) (hr.mono (by decide)) (by rfl) T.g_p_is_name T.F_p_is_name.kp T.b_p_is_name .nil pass0 (pa_cons (pv 4) pa_nil)))) (pw_or (pt_val (pe_m1 PySem.F.slot_str_endswith PySem.F.type_str_endswith mt_endswith (pv 4) pe_str (by rfl) (by rfl) (by rfl))) (pw_or (pt_cmpR op_in_seq (pv 4) (pe_slice sl_list (pv 1) po_none (po_some (pv 3))) (by rfl)) (pw_or1 (pt_cmpR op_ge (pv 3) (pe_clsI T.most_Step.choose_spec.choose_spec (pe_glob (v := V.ref (fa 179)) (by rfl) T.g_Step rfl)) (nomark _))))))) (pss_one ps_never) pss_nil)))
      (C8.pss_cut (ps_set (i := 5) sc_p_StepInit.nd rfl (.inl rfl) (pe_call (ok_p_first_wrong_tieB T) (hr.mono (by decide)) (by rfl) T.g_p_first_wrong_tie T.F_p_first_wrong_tie.kp T.b_p_first_wrong_tie .nil pass0 (pa_cons (pv 2) (pa_cons (pe_op op_cat (pe_callTy call_list_of (by rfl) T.m_list (by decide +kernel) (pa_cons (pv 1) pa_nil)) (pe_call (ok_p_primedB T) (hr.mono (by decide)) (by rfl) T.g_p_primed T.F_p_primed.kp T.b_p_primed .nil pass0 (pa_cons (pv 1) pa_nil))) pa_nil))))
      (C8.pss_cut (ps_if (pt_cmpR op_notN (pv 5) pe_non (nomark _)) (pss_one ps_never) pss_nil)
      (C8.pss_cut (ps_fld (pv 0) (pe_callTy call_tuple_of (by rfl) T.m_tuple (by decide +kernel) (pa_cons (pe_call (ok_p_ascendingB T) (hr.mono (by decide)) (by rfl) T.g_p_ascending T.F_p_ascending.kp T.b_p_ascending .nil pass0 (pa_cons (pv 1) pa_nil)) pa_nil)) (by rfl))
      (pss_one (ps_fld (pv 0) (pe_callTy call_tuple_of (by rfl) T.m_tuple (by decide +kernel) (pa_cons (pv 2) pa_nil)) (by rfl))))))), ?_⟩
    refine ⟨fun σ H1 => Same H H1 ∧ ∃ y3 y4, σ = [some (.ref self), some (.ref L), some (.ref T0), y3, y4, none], ?_, fun σ H1 hM => ?_⟩
    · refine ⟨_, rfl, L, _, rfl, hL, for_enum (K := K) (a := L) (xs := ns.map V.str) (fun i σ G => Same H G ∧ firstBadS 0 [] ns = firstBadS i (ns.take i) (ns.drop i) ∧ ∃ y3 y4, σ = [some (.ref self), some (.ref L), some (.ref T0), y3, y4, none]) ⟨Same.refl H, rfl, _, _, rfl⟩ (fun i σ G _ hq => SqL.sm hq.1 hL) (fun i x σ G Tt hx hq nT => ?_) (fun σ G hq => ?_)⟩
      · obtain ⟨sG, fb, y3, y4, rfl⟩ := hq
        rw [List.getElem?_map] at hx
        obtain ⟨n, hz, rfl⟩ := Option.map_eq_some_iff.mp hx
        have lt : i < ns.length := (List.getElem?_eq_some_iff.mp hz).1
        have dr : ns.drop i = n :: ns.drop (i + 1) := by
          rw [List.drop_eq_getElem_cons lt]
          congr 1
          exact (List.getElem?_eq_some_iff.mp hz).2
        rw [dr, hA.fb] at fb
        have sT := same_upd (o := .tup [V.int (i : Nat), .str n]) nT
        have s1 := sG.trans sT
        have mem : n ∈ ns := List.mem_of_getElem? hz
        have ok : (stepN n = true ∧ n ∉ ns.take i) ∧ i < 3 := by
          apply Decidable.byContradiction
          intro z
          have e : firstBadS i (ns.take i) (n :: ns.drop (i + 1)) = some i := by
            show (if _ then _ else _) = _
            rw [if_neg z]
          rw [e] at fb
          cases fb
        have fb2 : firstBadS i (ns.take i) (n :: ns.drop (i + 1)) = firstBadS (i + 1) (ns.take (i + 1)) (ns.drop (i + 1)) := by
          show (if _ then _ else _) = _
          rw [if_pos ok, List.take_add_one, hz]
          rfl
        have hn := ok.1.1
        unfold stepN at hn
        rw [Bool.and_eq_true, Bool.not_eq_true'] at hn
        refine ⟨Tt, _, rfl, SqT.of upd_same, rfl, _, _, rfl, _, _, rfl, rfl, ?_⟩
        have hb' : nameD (.str n) = true := hn.1
        have l9 := hA.lx n mem
        refine ⟨_, rfl, _, _, 0, rfl, .str n (by omega), _, rfl, ?_⟩
        rw [hb']
        refine iteF ⟨_, rfl, ⟨_, rfl⟩, _, _, rfl, rfl, _, rfl, ?_⟩
        rw [ends_str, hn.2]
        refine iteF ⟨_, rfl, _, rfl, _, rfl, _, rfl, L, _, rfl, SqL.sm s1 hL, fun p np => ?_⟩
        have sp := same_upd (o := .lst (cutV (ns.map V.str) none (some (i : Int)))) np
        have ec : cutV (ns.map V.str) none (some (i : Int)) = (ns.take i).map V.str := by
          rw [cut_take _ _ (by rw [List.length_map]; omega), List.map_take]
        refine ⟨p, _, rfl, .inl (SqL.of upd_same), rfl, ?_, _, rfl, ?_⟩
        · rw [ec]
          exact flat_strs _
        · rw [ec] at sp ⊢
          rw [inV_strs, decide_eq_false ok.1.2]
          refine iteF ⟨_, rfl, rfl, _, _, rfl, rfl, _, rfl, ?_⟩
          rw [decide_eq_false (by omega)]
          exact iteF ⟨s1.trans sp, by rw [hA.fb, fb, fb2], _, _, rfl⟩
      · obtain ⟨sG, fb, y3, y4, rfl⟩ := hq
        exact ⟨sG, _, _, rfl⟩
    obtain ⟨s1, y3, y4, rfl⟩ := hM
    have hA1 := hA.same s1
    refine ⟨fun σ H2 => Same H H2 ∧ σ = [some (.ref self), some (.ref L), some (.ref T0), y3, y4, some .non], ?_, fun σ H2 hM => ?_⟩
    · obtain ⟨z, ds, hds, hbt⟩ := hA1.ds
      refine ⟨_, rfl, _, rfl, L, _, rfl, .inl (SqL.sm s1 hL), fun l nl => ?_⟩
      have sl := same_upd (o := .lst (ns.map V.str)) nl
      refine ⟨_, rfl, L, ns, rfl, hA1.ln.sm sl, by have := hA.sz; omega, hA.lx, fun D H3 nD s3 hD => ?_⟩
      refine ⟨l, D, _, _, rfl, rfl, s3 _ _ upd_same, hD, small_line (by have := hA.sz; rw [List.length_map, List.length_map, List.length_map]; omega), fun q2 nq2 => ?_⟩
      have s4 := sl.trans (s3.trans (same_upd (o := .lst (ns.map V.str ++ (prNs ns).map V.str)) nq2))
      refine ⟨T0, q2, us, ds, ns ++ prNs ns, z, rfl, hA1.lt.sm s4, hds.same s4, hA.us, .inl (SqL.of (by rw [upd_same, List.map_append])), fun H' s' => ⟨s1.trans (s4.trans s'), ?_⟩⟩
      rw [hbt]
      rfl
    obtain ⟨s2, rfl⟩ := hM
    have hA2 := hA.same s2
    refine ⟨fun σ H2 => Same H H2 ∧ σ = [some (.ref self), some (.ref L), some (.ref T0), y3, y4, some .non], ⟨_, rfl, rfl, _, rfl, iteF ⟨s2, rfl⟩⟩, fun σ H4 hM => ?_⟩
    obtain ⟨s4, rfl⟩ := hM
    have hA4 := hA.same s4
    refine ⟨fun σ G => ∃ p1 ms, (∀ b o, b ≠ self → H b = some o → G b = some o) ∧ G self = some (.ins (fa 179) dx [("unknowns", .ref p1)]) ∧ G p1 = some (.tup (ms.map V.str)) ∧ p1 ≠ self ∧ ms.Perm ns ∧ sortedS ms = true ∧ σ = [some (.ref self), some (.ref L), some (.ref T0), y3, y4, some .non], ?_, fun σ G hM => ?_⟩
    · refine ⟨_, rfl, L, ns, rfl, .inl hA4.ln, hA4.nd, by have := hA4.sz; omega, fun x hx => by have := hA4.lx x hx; omega, fun p ms H5 s5 np hp perm srt => ?_⟩
      refine ⟨p, _, rfl, .inl ⟨SqL.of hp, fun p1 np1 => ?_⟩⟩
      have sp := same_upd (o := .tup (ms.map V.str)) np1
      have hs5 := (s4.trans s5) _ _ hself
      have hs6 := sp _ _ hs5
      have np1s : p1 ≠ self := fun e => by rw [e, hs5] at np1; cases np1
      refine ⟨_, rfl, self, _, dx, [], rfl, hs6, T.cl_Step, T.na_Step_unknowns, by show 0 < 1000; decide, p1, ms, fun b o nb e => (upd_ne nb).trans (((s4.trans s5).trans sp) _ _ e), upd_same, ?_, np1s, perm, srt, rfl⟩
      rw [upd_ne np1s, upd_same]
    obtain ⟨p1, ms, oth, hs, hp1, np1s, perm, srt, rfl⟩ := hM
    have ltG : SqB K G T0 us := by
      rcases hA.lt with h | h
      · refine .inl ?_
        rcases h with (e | ⟨o, e⟩) | e
        · exact .inl (.inl (oth _ _ (fun z => by rw [z, hself] at e; cases e) e))
        · exact .inl (.inr ⟨o, oth _ _ (fun z => by rw [z, hself] at e; cases e) e⟩)
        · exact .inr e
      · refine .inr ?_
        rcases h with (e | ⟨o, e⟩) | e
        · exact .inl (.inl (oth _ _ (fun z => by rw [z, hself] at e; cases e) e))
        · exact .inl (.inr ⟨o, oth _ _ (fun z => by rw [z, hself] at e; cases e) e⟩)
        · exact .inr e
    have fin : ∀ (p2 : Addr) (G2 : Hp), (∀ b o, G b = some o → G2 b = some o) → (∀ o, SqT K (upd G2 self o) p2 us) → Q .non (upd G2 self (.ins (fa 179) dx [("unknowns", .ref p1), ("bonds", .ref p2)])) := fun p2 G2 sg h2 => by
      refine q _ (fun b o nb e => (upd_ne nb).trans (sg _ _ (oth b o nb e))) ⟨dx, p1, p2, ms, upd_same, SqT.of ((upd_ne np1s).trans (sg _ _ hp1)), perm, srt, h2 _⟩
    refine ⟨_, rfl, T0, us, rfl, ?_⟩
    rcases ltG with h | h
    · refine .inl ⟨h, fun p2 np2 => ?_⟩
      have sp := same_upd (o := .tup us) np2
      have n2 : p2 ≠ self := fun e => by rw [e, hs] at np2; cases np2
      exact ⟨_, rfl, self, _, dx, _, rfl, sp _ _ hs, T.cl_Step, T.na_Step_bonds, by show 1 < 1000; decide, fin p2 _ sp fun o => SqT.of ((upd_ne n2).trans upd_same)⟩
    · refine .inr ⟨h, ?_⟩
      refine ⟨_, rfl, self, _, dx, _, rfl, hs, T.cl_Step, T.na_Step_bonds, by show 1 < 1000; decide, fin T0 _ (fun _ _ e => e) fun o => ?_⟩
      rcases h with (e | ⟨o, e⟩) | e
      · exact .inl (.inl ((upd_ne (fun z => by rw [z, hs] at e; cases e)).trans e))
      · exact .inl (.inr ⟨_, (upd_ne (fun z => by rw [z, hs] at e; cases e)).trans e⟩)
      · exact .inr e
theorem ok_p_StepInitT (T : Txt K mg fa fd) : FnOk P w K mg base CX0 7 (fa 1600) (fd 1600) ["self", "names", "ties"] (spStepS (fun K H L xs => SqT K H L xs) K (fa 179)) := by
  refine T.F_StepInit.ok sc_p_StepInit (fun vs H Q E h => ?_) (fun cdv A outer s H vs Q E hr h => ?_)
  · obtain ⟨self, L, T, ns, us, dx, rfl, _⟩ := h
    rfl
  · obtain ⟨self, L, T0, ns, us, dx, rfl, hself, hA, hL, q⟩ := h
    refine ⟨_, PSs.nox (C8.pss_cut (ps_for PassesOwn.never rfl (pi_enumT (by rfl) T.m_enumerate (pa_cons (pv 1) pa_nil)) (pg_tup (by rfl) (pgs_cons (pg_name (i := 3) sc_p_StepInit.nd rfl (.inl rfl)) (pgs_cons (pg_name (i := 4) sc_p_StepInit.nd rfl (.inl rfl)) pgs_nil))) (pss_one (ps_if (PW.pt (pw_or (pt_not (pt_val (pe_call (ok_p_is_name T) (hr.mono (by decide)) (by rfl) T.g_p_is_name T.F_p_is_name.kp T.b_p_is_name .nil pass0 (pa_cons (pv 4) pa_nil)))) (pw_or (pt_val (pe_m1 PySem.F.slot_str_endswith PySem.F.type_str_endswith mt_endswith (pv 4) pe_str (by rfl) (by rfl) (by rfl))) (pw_or (pt_cmpR op_in_seq (pv 4) (pe_slice sl_tup (pv 1) po_none (po_some (pv 3))) (by rfl)) (pw_or1 (pt_cmpR op_ge (pv 3) (pe_clsI T.most_Step.choose_spec.choose_spec (pe_glob (v := V.ref (fa 179)) (by rfl) T.g_Step rfl)) (nomark _))))))) (pss_one ps_never) pss_nil)))
      (C8.pss_cut (ps_set (i := 5) sc_p_StepInit.nd rfl (.inl rfl) (pe_call (ok_p_first_wrong_tieB T) (hr.mono (by decide)) (by rfl) T.g_p_first_wrong_tie T.F_p_first_wrong_tie.kp T.b_p_first_wrong_tie .nil pass0 (pa_cons (pv 2) (pa_cons (pe_op op_cat (pe_callTy call_list_of (by rfl) T.m_list (by decide +kernel) (pa_cons (pv 1) pa_nil)) (pe_call (ok_p_primedB T) (hr.mono (by decide)) (by rfl) T.g_p_primed T.F_p_primed.kp T.b_p_primed .nil pass0 (pa_cons (pv 1) pa_nil))) pa_nil))))
      (C8.pss_cut (ps_if (pt_cmpR op_notN (pv 5) pe_non (nomark _)) (pss_one ps_never) pss_nil)
      (C8.pss_cut (ps_fld (pv 0) (pe_callTy call_tuple_of (by rfl) T.m_tuple (by decide +kernel) (pa_cons (pe_call (ok_p_ascendingB T) (hr.mono (by decide)) (by rfl) T.g_p_ascending T.F_p_ascending.kp T.b_p_ascending .nil pass0 (pa_cons (pv 1) pa_nil)) pa_nil)) (by rfl))
      (pss_one (ps_fld (pv 0) (pe_callTy call_tuple_of (by rfl) T.m_tuple (by decide +kernel) (pa_cons (pv 2) pa_nil)) (by rfl))))))), ?_⟩
    refine ⟨fun σ H1 => Same H H1 ∧ ∃ y3 y4, σ = [some (.ref self), some (.ref L), some (.ref T0), y3, y4, none], ?_, fun σ H1 hM => ?_⟩
    · refine ⟨_, rfl, L, _, rfl, hL, for_enumT (K := K) (a := L) (xs := ns.map V.str) (fun i σ G => Same H G ∧ firstBadS 0 [] ns = firstBadS i (ns.take i) (ns.drop i) ∧ ∃ y3 y4, σ = [some (.ref self), some (.ref L), some (.ref T0), y3, y4, none]) ⟨Same.refl H, rfl, _, _, rfl⟩ (fun i σ G _ hq => SqT_sm hq.1 hL) (fun i x σ G Tt hx hq nT => ?_) (fun σ G hq => ?_)⟩
      · obtain ⟨sG, fb, y3, y4, rfl⟩ := hq
        rw [List.getElem?_map] at hx
        obtain ⟨n, hz, rfl⟩ := Option.map_eq_some_iff.mp hx
        have lt : i < ns.length := (List.getElem?_eq_some_iff.mp hz).1
        have dr : ns.drop i = n :: ns.drop (i + 1) := by
          rw [List.drop_eq_getElem_cons lt]
          congr 1
          exact (List.getElem?_eq_some_iff.mp hz).2
        rw [dr, hA.fb] at fb
        have sT := same_upd (o := .tup [V.int (i : Nat), .str n]) nT
        have s1 := sG.trans sT
        have mem : n ∈ ns := List.mem_of_getElem? hz
        have ok : (stepN n = true ∧ n ∉ ns.take i) ∧ i < 3 := by
          apply Decidable.byContradiction
          intro z
          have e : firstBadS i (ns.take i) (n :: ns.drop (i + 1)) = some i := by
            show (if _ then _ else _) = _
            rw [if_neg z]
          rw [e] at fb
          cases fb
        have fb2 : firstBadS i (ns.take i) (n :: ns.drop (i + 1)) = firstBadS (i + 1) (ns.take (i + 1)) (ns.drop (i + 1)) := by
          show (if _ then _ else _) = _
          rw [if_pos ok, List.take_add_one, hz]
          rfl
        have hn := ok.1.1
        unfold stepN at hn
        rw [Bool.and_eq_true, Bool.not_eq_true'] at hn
        refine ⟨Tt, _, rfl, SqT.of upd_same, rfl, _, _, rfl, _, _, rfl, rfl, ?_⟩
        have hb' : nameD (.str n) = true := hn.1
        have l9 := hA.lx n mem
        refine ⟨_, rfl, _, _, 0, rfl, .str n (by omega), _, rfl, ?_⟩
        rw [hb']
        refine iteF ⟨_, rfl, ⟨_, rfl⟩, _, _, rfl, rfl, _, rfl, ?_⟩
        rw [ends_str, hn.2]
        refine iteF ⟨_, rfl, _, rfl, _, rfl, _, rfl, L, _, rfl, SqT_sm s1 hL, (by rw [List.length_map]; exact cutT_no lt), fun p np => ?_⟩
        have sp := same_upd (o := .tup (cutV (ns.map V.str) none (some (i : Int)))) np
        have ec : cutV (ns.map V.str) none (some (i : Int)) = (ns.take i).map V.str := by
          rw [cut_take _ _ (by rw [List.length_map]; omega), List.map_take]
        refine ⟨p, _, rfl, .inr (SqT.of upd_same), rfl, ?_, _, rfl, ?_⟩
        · rw [ec]
          exact flat_strs _
        · rw [ec] at sp ⊢
          rw [inV_strs, decide_eq_false ok.1.2]
          refine iteF ⟨_, rfl, rfl, _, _, rfl, rfl, _, rfl, ?_⟩
          rw [decide_eq_false (by omega)]
          exact iteF ⟨s1.trans sp, by rw [hA.fb, fb, fb2], _, _, rfl⟩
      · obtain ⟨sG, fb, y3, y4, rfl⟩ := hq
        exact ⟨sG, _, _, rfl⟩
    obtain ⟨s1, y3, y4, rfl⟩ := hM
    have hA1 := hA.same s1
    refine ⟨fun σ H2 => Same H H2 ∧ σ = [some (.ref self), some (.ref L), some (.ref T0), y3, y4, some .non], ?_, fun σ H2 hM => ?_⟩
    · obtain ⟨z, ds, hds, hbt⟩ := hA1.ds
      refine ⟨_, rfl, _, rfl, L, _, rfl, .inr (SqT_sm s1 hL), fun l nl => ?_⟩
      have sl := same_upd (o := .lst (ns.map V.str)) nl
      refine ⟨_, rfl, L, ns, rfl, hA1.ln.sm sl, by have := hA.sz; omega, hA.lx, fun D H3 nD s3 hD => ?_⟩
      refine ⟨l, D, _, _, rfl, rfl, s3 _ _ upd_same, hD, small_line (by have := hA.sz; rw [List.length_map, List.length_map, List.length_map]; omega), fun q2 nq2 => ?_⟩
      have s4 := sl.trans (s3.trans (same_upd (o := .lst (ns.map V.str ++ (prNs ns).map V.str)) nq2))
      refine ⟨T0, q2, us, ds, ns ++ prNs ns, z, rfl, hA1.lt.sm s4, hds.same s4, hA.us, .inl (SqL.of (by rw [upd_same, List.map_append])), fun H' s' => ⟨s1.trans (s4.trans s'), ?_⟩⟩
      rw [hbt]
      rfl
    obtain ⟨s2, rfl⟩ := hM
    have hA2 := hA.same s2
    refine ⟨fun σ H2 => Same H H2 ∧ σ = [some (.ref self), some (.ref L), some (.ref T0), y3, y4, some .non], ⟨_, rfl, rfl, _, rfl, iteF ⟨s2, rfl⟩⟩, fun σ H4 hM => ?_⟩
    obtain ⟨s4, rfl⟩ := hM
    have hA4 := hA.same s4
    refine ⟨fun σ G => ∃ p1 ms, (∀ b o, b ≠ self → H b = some o → G b = some o) ∧ G self = some (.ins (fa 179) dx [("unknowns", .ref p1)]) ∧ G p1 = some (.tup (ms.map V.str)) ∧ p1 ≠ self ∧ ms.Perm ns ∧ sortedS ms = true ∧ σ = [some (.ref self), some (.ref L), some (.ref T0), y3, y4, some .non], ?_, fun σ G hM => ?_⟩
    · refine ⟨_, rfl, L, ns, rfl, .inl hA4.ln, hA4.nd, by have := hA4.sz; omega, fun x hx => by have := hA4.lx x hx; omega, fun p ms H5 s5 np hp perm srt => ?_⟩
      refine ⟨p, _, rfl, .inl ⟨SqL.of hp, fun p1 np1 => ?_⟩⟩
      have sp := same_upd (o := .tup (ms.map V.str)) np1
      have hs5 := (s4.trans s5) _ _ hself
      have hs6 := sp _ _ hs5
      have np1s : p1 ≠ self := fun e => by rw [e, hs5] at np1; cases np1
      refine ⟨_, rfl, self, _, dx, [], rfl, hs6, T.cl_Step, T.na_Step_unknowns, by show 0 < 1000; decide, p1, ms, fun b o nb e => (upd_ne nb).trans (((s4.trans s5).trans sp) _ _ e), upd_same, ?_, np1s, perm, srt, rfl⟩
      rw [upd_ne np1s, upd_same]
    obtain ⟨p1, ms, oth, hs, hp1, np1s, perm, srt, rfl⟩ := hM
    have ltG : SqB K G T0 us := by
      rcases hA.lt with h | h
      · refine .inl ?_
        rcases h with (e | ⟨o, e⟩) | e
        · exact .inl (.inl (oth _ _ (fun z => by rw [z, hself] at e; cases e) e))
        · exact .inl (.inr ⟨o, oth _ _ (fun z => by rw [z, hself] at e; cases e) e⟩)
        · exact .inr e
      · refine .inr ?_
        rcases h with (e | ⟨o, e⟩) | e
        · exact .inl (.inl (oth _ _ (fun z => by rw [z, hself] at e; cases e) e))
        · exact .inl (.inr ⟨o, oth _ _ (fun z => by rw [z, hself] at e; cases e) e⟩)
        · exact .inr e
    have fin : ∀ (p2 : Addr) (G2 : Hp), (∀ b o, G b = some o → G2 b = some o) → (∀ o, SqT K (upd G2 self o) p2 us) → Q .non (upd G2 self (.ins (fa 179) dx [("unknowns", .ref p1), ("bonds", .ref p2)])) := fun p2 G2 sg h2 => by
      refine q _ (fun b o nb e => (upd_ne nb).trans (sg _ _ (oth b o nb e))) ⟨dx, p1, p2, ms, upd_same, SqT.of ((upd_ne np1s).trans (sg _ _ hp1)), perm, srt, h2 _⟩
    refine ⟨_, rfl, T0, us, rfl, ?_⟩
    rcases ltG with h | h
    · refine .inl ⟨h, fun p2 np2 => ?_⟩
      have sp := same_upd (o := .tup us) np2
      have n2 : p2 ≠ self := fun e => by rw [e, hs] at np2; cases np2
      exact ⟨_, rfl, self, _, dx, _, rfl, sp _ _ hs, T.cl_Step, T.na_Step_bonds, by show 1 < 1000; decide, fin p2 _ sp fun o => SqT.of ((upd_ne n2).trans upd_same)⟩
    · refine .inr ⟨h, ?_⟩
      refine ⟨_, rfl, self, _, dx, _, rfl, hs, T.cl_Step, T.na_Step_bonds, by show 1 < 1000; decide, fin T0 _ (fun _ _ e => e) fun o => ?_⟩
      rcases h with (e | ⟨o, e⟩) | e
      · exact .inl (.inl ((upd_ne (fun z => by rw [z, hs] at e; cases e)).trans e))
      · exact .inl (.inr ⟨_, (upd_ne (fun z => by rw [z, hs] at e; cases e)).trans e⟩)
      · exact .inr e
theorem ok_p_StepInit (T : Txt K mg fa fd) : FnOk P w K mg base CX0 7 (fa 1600) (fd 1600) ["self", "names", "ties"] (spStepI K (fa 179)) :=
  (FnOk.or (ok_p_StepInitL T) (ok_p_StepInitT T)).imp fun vs H Q E ⟨self, L, T0, ns, us, dx, e, h1, h2, q⟩ => h2.ln.elim (fun h => .inl ⟨self, L, T0, ns, us, dx, e, h1, h2, h, q⟩) fun h => .inr ⟨self, L, T0, ns, us, dx, e, h1, h2, h, q⟩
end
section
variable {P : Program} {w : World} {K : PySem.W.Frag} {mg : Str → Option Value} {base : Heap} {fa : Nat → Addr} {fd : Nat → FuncData}
/-- good terms: what terms are drawn -/
def TrmOk (ws : List (List Nat)) (ts : List (Str × PyData)) : Prop := (ts.length = 1 ∨ ts.length = 2) ∧ termsD (trmD ts) = true ∧ (∀ t ∈ ts, okR t.2 ∧ ∃ x ∈ ws, t.1 = SX.S x)
def spTerms : Sp := fun vs H Q _ => ∃ (a c p : Addr) (ws : List (List Nat)) (m : Int), vs = [.ref a, .ref p, .int m] ∧ FeedOk H a c ∧ p ≠ a ∧ H p = some (.lst (ws.map vS)) ∧ ws ≠ [] ∧ ws.length ≤ 6 ∧ ws.Nodup ∧ (∀ x ∈ ws, nameB x = true ∧ x.length ≤ 7) ∧
  ∀ (v : V) (ts : List (Str × PyData)) (H' : Hp), FeedOk H' a c → But a H H' → Dt a H' v (trmD ts) → TrmOk ws ts → Q v H'
theorem ok_terms (T : Txt K mg fa fd) : FnOk P w K mg base CX0 4 (fa 193) (fd 193) ["_law_feed_here", "_law_words_here", "_law_pairs"] spTerms := by
  refine T.F_terms.ok sc_terms (fun vs H Q E h => ?_) (fun cdv A outer s H vs Q E hr h => ?_)
  · obtain ⟨a, c, p, ws, m, rfl, _⟩ := h
    rfl
  · obtain ⟨a, c, p, ws, m, rfl, hF, npa, hp, ne, hl, hn, hw, q⟩ := h
    refine ⟨_, (C8.pss_cut (ps_set (i := 3) sc_terms.nd rfl (.inl rfl) (pe_call (ok_draw T) (hr.mono (by decide)) (by rfl) T.g_draw T.F_draw.kp T.b_draw .nil pass0 (pa_cons (pv 0) (pa_cons (pe_callB call_len_seq (by rfl) T.m_len PySem.boot_len (pa_cons (pv 1) pa_nil)) pa_nil))))
      (C8.pss_cut (ps_set (i := 4) sc_terms.nd rfl (.inl rfl) (pe_lst (pa_cons (pe_ix ix_list (pv 1) (pv 3) (fun _ _ => rfl)) pa_nil)))
      (C8.pss_cut (ps_if (PW.pt (pw_and (pt_cmpR op_gt (pe_callB call_len_seq (by rfl) T.m_len PySem.boot_len (pa_cons (pv 1) pa_nil)) pe_int (nomark _)) (pw_and1 (pt_cmpR op_lt (pe_call (ok_draw T) (hr.mono (by decide)) (by rfl) T.g_draw T.F_draw.kp T.b_draw .nil pass0 (pa_cons (pv 0) (pa_cons pe_int pa_nil))) (pv 2) (nomark _))))) (pss_one (ps_expr (pe_bm PySem.F.plainAttrs_list PySem.F.slot_list_append PySem.F.type_list_append mt_append (pv 4) (pa_cons (pe_ix ix_list (pv 1) (pe_op op_mod (pe_callTy call_int1 (by rfl) T.m_int PySem.Pv.boot_int (pa_cons (pe_op op_add (pe_op op_add (pv 3) pe_int) (pe_call (ok_draw T) (hr.mono (by decide)) (by rfl) T.g_draw T.F_draw.kp T.b_draw .nil pass0 (pa_cons (pv 0) (pa_cons (pe_op op_sub (pe_callB call_len_seq (by rfl) T.m_len PySem.boot_len (pa_cons (pv 1) pa_nil)) pe_int) pa_nil)))) pa_nil)) (pe_callB call_len_seq (by rfl) T.m_len PySem.boot_len (pa_cons (pv 1) pa_nil))) (fun _ _ => rfl)) pa_nil)))) pss_nil)
      (pss_one (ps_ret (pe_callTy call_tuple_of (by rfl) T.m_tuple (by decide +kernel) (pa_cons (pe_lc (own := [("_law_name", 5)]) (g := gName 5) (tt := tYes) rfl sc_terms.nd (pi_list (pe_callB cr_sortedS (by rfl) T.m_sorted (by decide +kernel) (pa_cons (pv 4) pa_nil))) (blkOk_by (own := [("_law_name", 5)]) (N := ["_law_feed_here", "_law_words_here", "_law_pairs", "_law_one", "_law_chosen", "_law_name"]) (sc := defScope s_terms) (by decide +kernel)) (fun _ _ _ _ _ => pg_name (i := 5) sc_terms.nd rfl (Or.inl rfl)) (fun _ _ _ _ _ => pts_nil) (fun _ _ _ _ _ => (pe_tup (pa_cons (pv 5) (pa_cons (pe_call (ok_rate T) (hr.mono (by decide)) (by rfl) T.g_rate T.F_rate.kp T.b_rate .nil pass0 (pa_cons (pv 0) pa_nil)) pa_nil))))) pa_nil))))))), ?_⟩
    have l0 : 0 < ws.length := by
      cases ws with
      | nil => exact absurd rfl ne
      | cons _ _ => simp
    have lv : (ws.map vS).length = ws.length := List.length_map ..
    refine ⟨fun σ H1 => FeedOk H1 a c ∧ But a H H1 ∧ ∃ i : Nat, i < ws.length ∧ σ = [some (.ref a), some (.ref p), some (.int m), some (.int i), none, none], ?_, fun σ H1 hM => ?_⟩
    · refine ⟨_, rfl, _, rfl, p, _, rfl, .inl (SqL.of hp), a, c, _, rfl, hF, mid_of (by omega) (by omega), fun r H1 r0 r1 hF1 b1 => ?_⟩
      obtain ⟨i, rfl⟩ := Int.eq_ofNat_of_zero_le r0
      exact ⟨hF1, b1, i, by omega, rfl⟩
    · obtain ⟨hF1, b1, i, hi, rfl⟩ := hM
      have gi : (ws.map vS)[i]? = some (vS ws[i]) := by rw [List.getElem?_map, List.getElem?_eq_getElem hi]; rfl
      -- chosen
      refine ⟨fun σ H2 => Same H1 H2 ∧ ∃ C, C ≠ a ∧ C ≠ c ∧ H C = none ∧ H2 C = some (.lst ([ws[i]].map vS)) ∧ σ = [some (.ref a), some (.ref p), some (.int m), some (.int i), some (.ref C), none], ?_, fun σ H2 hM => ?_⟩
      · refine ⟨_, rfl, _, rfl, p, _, _, _, rfl, rfl, SqL.of (b1 _ _ npa hp), at_of (j := i) rfl gi, small_line (by show 1 ≤ 1000; decide), fun C nC => ?_⟩
        exact ⟨same_upd nC, C, new_ne hF1 nC, new_nc hF1 nC, but_none b1 nC (new_ne hF1 nC), upd_same, rfl⟩
      · obtain ⟨s2, C, nCa, nCc, nC, hC, rfl⟩ := hM
        have hF2 := hF1.same s2
        have b2 := b1.trans (But.of (a := a) s2)
        clear hF1 b1 s2 H1
        -- one more
        refine ⟨fun σ H3 => FeedOk H3 a c ∧ But a H H3 ∧ ∃ xs : List (List Nat), (xs.length = 1 ∨ xs.length = 2) ∧ xs.Nodup ∧ (∀ x ∈ xs, x ∈ ws) ∧ H3 C = some (.lst (xs.map vS)) ∧ σ = [some (.ref a), some (.ref p), some (.int m), some (.int i), some (.ref C), none], ?_, fun σ H3 hM => ?_⟩
        · have stay : ∀ H3, FeedOk H3 a c → But a H2 H3 → (FeedOk H3 a c ∧ But a H H3 ∧ ∃ xs : List (List Nat), (xs.length = 1 ∨ xs.length = 2) ∧ xs.Nodup ∧ (∀ x ∈ xs, x ∈ ws) ∧ H3 C = some (.lst (xs.map vS)) ∧ [some (V.ref a), some (.ref p), some (.int m), some (.int (i : Int)), some (.ref C), none] = [some (.ref a), some (.ref p), some (.int m), some (.int i), some (.ref C), none]) := fun H3 hF3 b3 =>
            ⟨hF3, b2.trans b3, [ws[i]], .inl rfl, by simp, fun x hx => by rw [List.mem_singleton.mp hx]; exact List.getElem_mem hi, b3 _ _ nCa hC, rfl⟩
          refine ⟨_, rfl, p, _, rfl, .inl (SqL.of (b2 _ _ npa hp)), _, _, rfl, rfl, _, rfl, ite2 (fun e => ?_) (fun _ => stay H2 hF2 (But.refl _ _))⟩
          have e : (1 : Int) < ((ws.map vS).length : Int) := of_decide_eq_true e
          rw [lv] at e
          refine ⟨_, rfl, a, c, _, rfl, hF2, mid_of (by decide) (by decide), fun r H3 _ _ hF3 b3 => ?_⟩
          refine ⟨_, rfl, _, _, rfl, rfl, _, rfl, ite2 (fun _ => ?_) (fun _ => stay H3 hF3 b3)⟩
          have hp3 := b3 _ _ npa (b2 _ _ npa hp)
          refine ⟨_, rfl, .inl ⟨rfl, _, SqL.of (b3 _ _ nCa hC)⟩, _, rfl, _, rfl, _, _, rfl, rfl, _, rfl, _, rfl, p, _, rfl, .inl (SqL.of hp3), _, _, rfl, rfl, a, c, _, rfl, hF3, mid_of (by omega) (by omega), fun r2 H4 r3 r4 hF4 b4 => ?_⟩
          rw [lv] at r4
          have hp4 := b4 _ _ npa hp3
          have hC4 := b4 _ _ nCa (b3 _ _ nCa hC)
          obtain ⟨j, hj, ej, ji⟩ : ∃ j : Nat, j < ws.length ∧ ((i : Int) + 1 + r2) % ((ws.map vS).length : Int) = (j : Int) ∧ j ≠ i := by
            rw [lv]
            refine ⟨(((i : Int) + 1 + r2) % (ws.length : Int)).toNat, ?_, ?_, ?_⟩
            · have h1 := Int.emod_lt_of_pos ((i : Int) + 1 + r2) (show (0 : Int) < ws.length by omega)
              omega
            · have h0 := Int.emod_nonneg ((i : Int) + 1 + r2) (show (ws.length : Int) ≠ 0 by omega)
              omega
            · intro z
              have h0 := Int.emod_nonneg ((i : Int) + 1 + r2) (show (ws.length : Int) ≠ 0 by omega)
              by_cases c1 : (i : Int) + 1 + r2 < ws.length
              · rw [Int.emod_eq_of_lt (by omega) c1] at z
                omega
              · have e2 : ((i : Int) + 1 + r2) % (ws.length : Int) = (i : Int) + 1 + r2 - ws.length := by
                  rw [← Int.sub_emod_right, Int.emod_eq_of_lt (by omega) (by omega)]
                rw [e2] at z
                omega
          have gj : (ws.map vS)[j]? = some (vS ws[j]) := by rw [List.getElem?_map, List.getElem?_eq_getElem hj]; rfl
          refine ⟨_, _, rfl, rfl, .inl ⟨_, rfl, _, rfl, p, _, rfl, .inl (SqL.of hp4), _, _, rfl, rfl, (by show (0 : Int) < _; omega), p, _, _, _, rfl, rfl, SqL.of hp4, at_of (j := j) ej gj, ?_⟩⟩
          refine ⟨C, _, _, rfl, rfl, hC4, small1000 (by show 1 ≤ 1000; decide), ?_⟩
          refine ⟨hF4.put nCa nCc, ((b2.trans b3).trans b4).updN nC, [ws[i], ws[j]], .inr rfl, ?_, ?_, upd_same, rfl⟩
          · refine List.nodup_cons.mpr ⟨fun z => ?_, by simp⟩
            rw [List.mem_singleton] at z
            exact ji (nd_ix hn (List.getElem?_eq_getElem hi) (by rw [List.getElem?_eq_getElem hj, z])).symm
          · intro x hx
            rcases List.mem_cons.mp hx with rfl | hx
            · exact List.getElem_mem hi
            · rw [List.mem_singleton.mp hx]
              exact List.getElem_mem hj
        · clear hC hF2 b2 H2
          obtain ⟨hF3, b3, xs, hx, hxn, hxw, hC, rfl⟩ := hM
          have hCS : H3 C = some (.lst ((xs.map SX.S).map V.str)) := by
            rw [List.map_map]
            exact hC
          refine ⟨_, rfl, C, _, rfl, SqL.of hCS, by rw [List.length_map]; omega, fun zs r pm srt nr => ?_⟩
          have sr := same_upd (o := .lst (zs.map V.str)) nr
          have hF4 := hF3.same sr
          have b4 := b3.trans (But.of (a := a) sr)
          have nra := new_ne hF3 nr
          have nr0 := but_none b3 nr nra
          have hr4 : (upd H3 r (.lst (zs.map V.str))) r = some (.lst (zs.map V.str)) := upd_same
          generalize upd H3 r (.lst (zs.map V.str)) = H4 at hF4 b4 hr4 ⊢
          refine ⟨r, rfl, ⟨_, SqL.of hr4⟩, fun D nD => ?_⟩
          have nDa := new_ne hF4 nD
          have nDc := new_nc hF4 nD
          have nD0 := but_none b4 nD nDa
          have nDr : r ≠ D := ne_of_none hr4 nD
          have zl : zs.length ≤ 2 := by
            rw [pm.length_eq, List.length_map]
            omega
          refine lc_list (K := K) (a := r) (xs := zs.map V.str) (fun i H5 => FeedOk H5 a c ∧ But a H H5 ∧ H5 r = some (.lst (zs.map V.str)) ∧ ∃ (vs : List V) (ts : List (Str × PyData)), H5 D = some (.lst vs) ∧ DtAll a H5 vs (ts.map trm1) ∧ ts.map (·.1) = zs.take i ∧ ∀ t ∈ ts, okR t.2)
            ⟨hF4.new nD, b4.updN nD0, same_upd nD _ _ hr4, [], [], upd_same, .nil, rfl, fun t h => by cases h⟩ (fun i H5 _ hq => SqL.of hq.2.2.1) (fun i x H5 hx hq => ?_) (fun H5 hq => ?_)
          · obtain ⟨hF5, b5, hr5, vs, ts, hD, hts, hnm, hok⟩ := hq
            rw [List.getElem?_map] at hx
            obtain ⟨x, hxz, rfl⟩ := Option.map_eq_some_iff.mp hx
            refine ⟨rfl, _, rfl, _, rfl, a, c, rfl, hF5, fun v t u H6 hF6 b6 hR t0 tb ub => ⟨two_line, fun e ne => ?_⟩⟩
            have hD6 := b6 _ _ nDa hD
            have xl : x.length ≤ 1000 := by
              obtain ⟨y, hy, rfl⟩ := List.mem_map.mp (pm.mem_iff.mp (List.mem_of_getElem? hxz))
              rw [SX.S_len]
              have := (hw y (hxw y hy)).2
              omega
            obtain ⟨se, de⟩ := dnewT (z := a) ne (.cons (.str x xl) (.cons hR.1 .nil))
            have hD7 := se _ _ hD6
            have hts7 := hts.tups (z' := a) ((TT.but hF5 b6).trans (TT.of se)) _ _ (noLs_trms hok)
            have vl : vs.length < sizeLine := by
              have e1 := hts.len
              rw [List.length_map, ← List.length_map (f := Prod.fst) (as := ts), hnm, List.length_take] at e1
              exact small1000 (by omega)
            refine ⟨vs, hD7, vl, (hF6.same se).put nDa nDc, ((b5.trans b6).trans (But.of se)).updN nD0, ?_, vs ++ [.ref e], ts ++ [(x, frD t u)], upd_same, ?_, ?_, ?_⟩
            · rw [upd_ne nDr]
              exact se _ _ (b6 _ _ nra hr5)
            · rw [List.map_append]
              refine DtAll.snoc (hts7.tups (TT.upd hD7) _ _ (noLs_trms hok)) ?_
              exact Dt.tups (TT.upd hD7) _ _ rfl de
            · rw [List.map_append, hnm, List.take_add_one, hxz]
              rfl
            · intro s hs
              rcases List.mem_append.mp hs with h | h
              · exact hok s h
              · rw [List.mem_singleton.mp h]
                exact ⟨hR.2, decide_eq_true t0, decide_eq_true ⟨tb, ub⟩⟩
          · obtain ⟨hF5, b5, hr5, vs, ts, hD, hts, hnm, hok⟩ := hq
            rw [List.length_map, List.take_length] at hnm
            refine ⟨D, vs, rfl, .inl ⟨SqL.of hD, fun l nl => ?_⟩⟩
            have sl := same_upd (o := .tup vs) nl
            refine q (.ref l) ts _ (hF5.same sl) (b5.trans (But.of sl)) (.tup upd_same (hts.same sl)) ?_
            have nm : ∀ t ∈ ts, ∃ x ∈ ws, t.1 = SX.S x := fun t ht => by
              have : t.1 ∈ zs := by
                rw [← hnm]
                exact List.mem_map_of_mem ht
              obtain ⟨y, hy, e⟩ := List.mem_map.mp (pm.mem_iff.mp this)
              exact ⟨y, hxw y hy, e.symm⟩
            have tl : ts.length = xs.length := by
              rw [← List.length_map (f := Prod.fst), hnm, pm.length_eq, List.length_map]
            have tr : ∀ t ∈ ts, termD (trm1 t) = true := fun t ht => by
              obtain ⟨x, hx, e⟩ := nm t ht
              show (nameB t.1.cps.toList && ratD t.2 && nonz t.2) = true
              rw [e, S_list, (hw x hx).1, (hok t ht).1, (hok t ht).2.1]
              rfl
            refine ⟨by omega, ?_, fun t ht => ⟨hok t ht, nm t ht⟩⟩
            have zn : zs.Nodup := by
              refine pm.nodup_iff.mpr ?_
              rw [List.Nodup, List.pairwise_map]
              exact List.Pairwise.imp (fun h z => h (S_inj z)) hxn
            match ts, tl, tr, hnm with
            | [t], _, tr, _ => exact tr t List.mem_cons_self
            | [t, u], _, tr, hnm =>
              show (termD (trm1 t) && termD (trm1 u) && ltD (trm1 t) (trm1 u)) = true
              rw [tr t List.mem_cons_self, tr u (List.mem_cons_of_mem _ List.mem_cons_self)]
              have hnm : [t.1, u.1] = zs := hnm
              subst hnm
              exact sorted_two srt (fun z => (List.nodup_cons.mp zn).1 (by rw [z]; exact List.mem_cons_self))
            | [], tl, _, _ => simp at tl; omega
            | _ :: _ :: _ :: _, tl, _, _ => simp at tl; omega
end
theorem ratD_shape {d : PyData} (h : ratD d = true) : ∃ t u, d = frD t u := by
  unfold ratD at h
  split at h
  · exact ⟨_, _, rfl⟩
  · cases h
theorem tieN_trm (ts : List (Str × PyData)) (b : PyData) : tieN (.tuple [trmD ts, b]) = ts.map (·.1) := by
  show (ts.map trm1).map _ = _
  rw [List.map_map]
  rfl
/-- terms and a fraction, for some names -/
structure TwG (ns : List Str) (t g : PyData) : Prop where
  w : wishG ns t g = true
  k : goodT ns (.tuple [t, g]) = true
  nl : noL (.tuple [t, g]) = true
  ft : fitsN 4 (.tuple [t, g]) = true
theorem TwG.of {ws : List Nm} {ts : List (Str × PyData)} {p q : Int} (h : TrmOk ws ts) (hr : ratD (frD p q) = true) : TwG (ws.map SX.S) (trmD ts) (frD p q) := by
  have ht := h.2.1
  have nm : ((ts.map (·.1)).all fun x => decide (x ∈ ws.map SX.S)) = true := by
    rw [List.all_map, List.all_eq_true]
    intro t m
    obtain ⟨_, x, hx, e⟩ := h.2.2 t m
    exact decide_eq_true (List.mem_map.mpr ⟨x, hx, e.symm⟩)
  have td : tieD (.tuple [trmD ts, frD p q]) = true := by
    show (termsD (trmD ts) && ratD (frD p q)) = true
    rw [ht, hr]
    rfl
  refine ⟨?_, ?_, noL_tieD td, ?_⟩
  · unfold wishG
    rw [tieN_trm, nm, ht, hr]
    rfl
  · unfold goodT
    rw [tieN_trm, nm, td]
    rfl
  · rcases ts with _ | ⟨⟨n, r⟩, _ | ⟨⟨n2, r2⟩, _ | ⟨c, w⟩⟩⟩
    · exact absurd h.1 (by simp)
    · obtain ⟨a, b, e⟩ := ratD_shape (h.2.2 (n, r) (.head _)).1.1
      obtain rfl : r = frD a b := e
      rfl
    · obtain ⟨a, b, e⟩ := ratD_shape (h.2.2 (n, r) (.head _)).1.1
      obtain rfl : r = frD a b := e
      obtain ⟨a2, b2, e2⟩ := ratD_shape (h.2.2 (n2, r2) (.tail _ (.head _))).1.1
      obtain rfl : r2 = frD a2 b2 := e2
      rfl
    · exact absurd h.1 (by simp)
/-- what is put in the place of a label -/
abbrev odds1 (x : Str) : List PyData := [.none, .int 5, .tuple [.str x], .list [.str x], .bool true, .tuple [.int 1, .list [.none]]]
abbrev odds2 : List PyData := [.none, .str "1", .bool true, .bool false, .tuple [.int 1], .list [.int 0], .tuple [.int 1, .int 1]]
theorem odds1_ok {x : Str} (h : PyData.strOk x = true) : ∀ d ∈ odds1 x, (∀ y, d ≠ .str y) ∧ SeqAt.shaped d = true ∧ fitsN 3 d = true := by
  intro d m
  simp only [odds1, List.mem_cons, List.not_mem_nil, or_false] at m
  rcases m with rfl | rfl | rfl | rfl | rfl | rfl
  · exact ⟨(fun y z => by cases z), by decide, rfl⟩
  · exact ⟨(fun y z => by cases z), by decide, rfl⟩
  · refine ⟨(fun y z => by cases z), ?_, rfl⟩
    simp [SeqAt.shaped, PyData.canLay0, PyData.canLayAll0, PyData.depth, PyData.depthAll, h]
  · refine ⟨(fun y z => by cases z), ?_, rfl⟩
    simp [SeqAt.shaped, PyData.canLay0, PyData.canLayAll0, PyData.depth, PyData.depthAll, h]
  · exact ⟨(fun y z => by cases z), by decide, rfl⟩
  · exact ⟨(fun y z => by cases z), by decide, rfl⟩
theorem odds2_ok : ∀ d ∈ odds2, isInt d = false ∧ fitsN 3 d = true := by
  intro d m
  simp only [odds2, List.mem_cons, List.not_mem_nil, or_false] at m
  rcases m with rfl | rfl | rfl | rfl | rfl | rfl | rfl
  all_goals exact ⟨rfl, rfl⟩
/-- what the law holds -/
structure Q7 (K : PySem.W.Frag) (C CY : Addr) (tb : List (Addr × Str)) (b x dx lo la pw c : Addr) (ws : List Nm) (lb : Nm) (tv vt vg : V) (td wt wg : PyData) (B : Brd) (H : Hp) : Prop where
  t : LamX.Tabs tb H
  w : H pw = some (.lst (ws.map vS))
  hB : BdA K C b [pw] H b B false
  st : B.st = ([(SX.S lb, td)], [])
  room : B.room = 20
  past : B.past.length = 1
  com : B.coming = []
  hY : LayH CY H x dx lo la [.ref c, .ref c]
  tm : Dt b H tv td
  wm : H c = some (.tup [vt, vg])
  w1 : Dt b H vt wt
  w2 : Dt b H vg wg
section
variable {K : PySem.W.Frag} {C CY : Addr} {tb : List (Addr × Str)} {b x dx lo la pw c : Addr} {ws : List Nm} {lb : Nm} {tv vt vg : V} {td wt wg : PyData} {B : Brd} {H H' : Hp}
theorem Q7.ext (h : Q7 K C CY tb b x dx lo la pw c ws lb tv vt vg td wt wg B H) (e : LamX.ExtN H H') (t : LamX.Tabs tb H') : Q7 K C CY tb b x dx lo la pw c ws lb tv vt vg td wt wg B H' :=
  ⟨t, e _ _ h.w (by intro ps z; cases z), h.hB.ext e, h.st, h.room, h.past, h.com, ⟨e _ _ h.hY.ins (by intro ps z; cases z), e _ _ h.hY.lst (by intro ps z; cases z)⟩, h.tm.ext e, e _ _ h.wm (by intro ps z; cases z), h.w1.ext e, h.w2.ext e⟩
theorem Q7.same (h : Q7 K C CY tb b x dx lo la pw c ws lb tv vt vg td wt wg B H) (s : Same H H') : Q7 K C CY tb b x dx lo la pw c ws lb tv vt vg td wt wg B H' := h.ext (ext_same s) (h.t.ext s)
end
/-- errors of one tag, as the law lists them -/
theorem dt_errs {z : Addr} {H : Hp} {v : V} {d : PyData} (hv : Dt z H v d) : ∀ {ps : List Addr} {res : List (Str × V)} {tags : List Str}, Paired (fun p (r : Str × V) => H p = some (.tup [.str r.1, r.2])) ps res → res = tags.map (fun t => (t, v)) → (∀ t ∈ tags, t.length ≤ 1000) → DtAll z H (ps.map V.ref) (tags.map fun t => .tuple [.str t, d])
  | _, _, [], .nil, _, _ => .nil
  | _, _, t :: tags, .cons (a := p) (b := r) h k, e, l => by
    rw [List.map_cons] at e
    injection e with e1 e2
    subst e1
    exact .cons (.tup h (.cons (.str _ (l _ (.head _))) (.cons hv .nil))) (dt_errs hv k e2 fun y m => l y (.tail _ m))
theorem at_labO {ls : List Nm} {o : Str} {n : Nat} {x : Nm} (h : ls[n]? = some x) : atI (ls.map vS ++ [V.str o]) (n : Int) = some (vS x) := atI_nat (by
  have lt := (List.getElem?_eq_some_iff.mp h).1
  rw [List.getElem?_append_left (by rw [List.length_map]; exact lt), List.getElem?_map, h]
  rfl)
theorem LL.ln {x : Nm} (h : LL x) : (SX.S x).length ≤ 1000 := by
  rw [SX.S_len]
  have := h.2.1
  omega
theorem low_okL {x : List Nat} (h : LL x) : PyData.strOk (SX.S x) = true := by
  unfold PyData.strOk
  show (x.toArray.all _) = true
  rw [List.all_toArray, List.all_eq_true]
  intro c hc
  have := List.all_eq_true.mp h.2.2 c hc
  unfold lowc at this
  rw [Bool.and_eq_true, decide_eq_true_eq, decide_eq_true_eq] at this
  exact decide_eq_true (by omega)
theorem goodT_perm {ms ns : List Str} {d : PyData} (p : ms.Perm ns) (h : goodT ns d = true) : goodT ms d = true := by
  unfold goodT at h ⊢
  rw [Bool.and_eq_true] at h ⊢
  refine ⟨h.1, ?_⟩
  rw [List.all_eq_true] at h ⊢
  exact fun x m => decide_eq_true (p.mem_iff.mpr (of_decide_eq_true (h.2 x m)))
theorem batch1 {ms ns : List Str} {room : Int} {st : Ste} {x : Nm} {d : PyData} (p : ms.Perm ns) (g : goodT ns d = true) (hr : room = 20) (hs : st = ([], [])) (hx : LL x) : batchC ms room st [.tie (SX.S x) d] = .inr ([(SX.S x, d)], []) := by
  rw [hr, hs, batchC_ok (m := .tie (SX.S x) d) (st := ([], [])) (td_ok (by rw [S_list]; exact hx.lab) (fun z => by cases z) (by decide) (goodT_perm p g))]
  rfl
theorem fits_row {d : PyData} (h : fitsN 3 d = true) (tags : List Str) (l : tags.length ≤ 1000) : fitsN 5 (.list (tags.map fun t => .tuple [.str t, d])) = true := by
  show (decide ((tags.map fun t => PyData.tuple [.str t, d]).length ≤ 1000) && (tags.map fun t => PyData.tuple [.str t, d]).all (fitsN 4)) = true
  rw [List.length_map, decide_eq_true l, Bool.true_and, List.all_map, List.all_eq_true]
  intro t _
  show (decide (2 ≤ 1000) && (true && (fitsN 3 d && true))) = true
  rw [h]
  rfl
theorem dt_due {z : Addr} {H : Hp} {v : V} {d : PyData} (hv : Dt z H v d) : ∀ {us : List V} {tags : List Str}, Paired (fun u t => ∃ q, u = V.ref q ∧ H q = some (.tup [.str t, v])) us tags → (∀ t ∈ tags, t.length ≤ 1000) → DtAll z H us (tags.map fun t => .tuple [.str t, d])
  | _, _, .nil, _ => .nil
  | _, _, .cons h k, l => by
    obtain ⟨q, rfl, h⟩ := h
    exact .cons (.tup h (.cons (.str _ (l _ (.head _))) (.cons hv .nil))) (dt_due hv k fun y m => l y (.tail _ m))
/-- the errors that are told are those that are due -/
theorem eq_errs {b D p : Addr} {H : Hp} {C dx : Addr} {fs : List (Str × V)} {v : V} {d : PyData} {ps : List Addr} {us : List V} (tags : List Str) (hb : H b = some (.ins C dx fs)) (hv : Dt b H v d) (hf : fitsN 3 d = true) (hD : H D = some (.lst (ps.map V.ref)))
    (hps : Paired (fun p (r : Str × V) => H p = some (.tup [.str r.1, r.2])) ps (tags.map fun t => (t, v))) (hp : H p = some (.lst us)) (hu : Paired (fun u t => ∃ q, u = V.ref q ∧ H q = some (.tup [.str t, v])) us tags) (l : ∀ t ∈ tags, t.length ≤ 1000) (l2 : tags.length ≤ 1000) : Eqd H 7 (.ref D) (.ref p) :=
  (eqd_dt 5 (z := b) (fits_row hf tags l2) (.lst hD (ne_of hD hb (by intro z; cases z)) (dt_errs hv hps rfl l)) (.lst hp (ne_of hp hb (by intro z; cases z)) (dt_due hv hu l))).up.up
theorem Q7.ok {K : PySem.W.Frag} {C CY : Addr} {tb : List (Addr × Str)} {b x dx lo la pw c : Addr} {ws : List Nm} {lb : Nm} {tv vt vg : V} {td wt wg : PyData} {B : Brd} {H : Hp} (h : Q7 K C CY tb b x dx lo la pw c ws lb tv vt vg td wt wg B H) (hl : LL lb) : StrOks B.st := by
  intro y m
  rw [h.st] at m
  have e : y = SX.S lb := List.mem_singleton.mp m
  rw [e]
  exact low_okL hl
theorem fbs_none : ∀ (xs : List Str) (i : Nat) (pre : List Str), (∀ x ∈ xs, stepN x = true) → (pre ++ xs).Nodup → i + xs.length ≤ 3 → firstBadS i pre xs = none
  | [], _, _, _, _, _ => rfl
  | x :: xs, i, pre, hn, hd, hl => by
    rw [List.length_cons] at hl
    have c : (stepN x = true ∧ x ∉ pre) ∧ i < 3 := ⟨⟨hn x List.mem_cons_self, fun z => (List.nodup_append.mp hd).2.2 x z x List.mem_cons_self rfl⟩, by omega⟩
    have e : pre ++ x :: xs = (pre ++ [x]) ++ xs := by rw [List.append_assoc]; rfl
    rw [e] at hd
    show (if _ then _ else _) = _
    rw [if_pos c]
    exact fbs_none xs (i + 1) (pre ++ [x]) (fun u hu => hn u (List.mem_cons_of_mem _ hu)) hd (by omega)
theorem low39 {x : Nm} (h : LW x) : (39 : Nat) ∉ x := fun z => by
  have := List.all_eq_true.mp h.2.2 _ z
  exact absurd this (by decide)
theorem lw_last {x : Nm} (h : LW x) : endQ x = false := by
  unfold endQ
  refine decide_eq_false fun z => ?_
  have m := List.mem_of_getLast? z
  exact low39 h m
theorem stepB (ws : List Nm) (l : ws.length ≤ 3) (n : ws.Nodup) (h : ∀ x ∈ ws, LW x) : firstBadS 0 [] (ws.map SX.S) = none :=
  fbs_none _ 0 [] (fun x m => by
    obtain ⟨z, hz, rfl⟩ := List.mem_map.mp m
    unfold stepN
    rw [S_list, (lw_nm (h z hz)).1, lw_last (h z hz)]
    rfl) (by rw [List.nil_append]; exact nodup_mapB _ (fun a b e => S_inj e) n) (by rw [List.length_map]; omega)
theorem eqd_ie {H : Hp} {n : Nat} {i j : Int} (e : i = j) : Eqd H n (.int i) (.int j) := e ▸ eqd_i _
section
variable {P : Program} {w : World} {K : PySem.W.Frag} {mg : Str → Option Value} {base : Heap} {fa : Nat → Addr} {fd : Nat → FuncData}
theorem ok_p_law (T : Txt K mg fa fd) (TX : TxB K w fa) {c Pt : Addr} (FL : FunC K "law" s_p_law (fa 195) (fd 195) c) (TB : LamX.TabB base mg c Pt) : FnOk P w K mg base CX0 21 (fa 195) (fd 195) ["_law_script"] (spLaw K Pt) := by
  refine FL.ok sc_p_law (fun vs H Q E h => ?_) (fun A outer s H vs Q E hr h => ?_)
  · obtain ⟨a, ns, rfl, _⟩ := h
    rfl
  · obtain ⟨s0, ns, rfl, hS, hlen, hT0, q⟩ := h
    refine ⟨_, (C8.pss_cut (ps_set (i := 1) sc_p_law.nd rfl (.inl rfl) (pe_call (ok_feed T) (hr.mono (by decide)) (by rfl) T.g_feed T.F_feed.kp T.b_feed .nil pass0 (pa_cons (pv 0) pa_nil)))
      (C8.pss_cut (ps_asg (pe_tup (pa_cons (pe_call (ok_words T) (hr.mono (by decide)) (by rfl) T.g_words T.F_words.kp T.b_words .nil pass0 (pa_cons (pv 1) (pa_cons pe_int pa_nil))) (pa_cons (pe_ix (ix_listK (K := K) rfl) (pe_call (ok_labels T) (hr.mono (by decide)) (by rfl) T.g_labels T.F_labels.kp T.b_labels .nil pass0 (pa_cons (pv 1) pa_nil)) pe_int (fun _ _ => rfl)) pa_nil))) (pg_tup (by rfl) (pgs_cons (pg_name (i := 9) sc_p_law.nd rfl (.inr rfl)) (pgs_cons (pg_name (i := 2) sc_p_law.nd rfl (.inl rfl)) pgs_nil))))
      (C8.pss_cut (ps_asg (pe_tup (pa_cons (pe_tup (pa_cons (pe_call (ok_terms T) (hr.mono (by decide)) (by rfl) T.g_terms T.F_terms.kp T.b_terms .nil pass0 (pa_cons (pv 1) (pa_cons (pv 9) (pa_cons pe_int pa_nil)))) (pa_cons (pe_call (ok_part T) (hr.mono (by decide)) (by rfl) T.g_part T.F_part.kp T.b_part .nil pass0 (pa_cons (pv 1) (pa_cons pe_int pa_nil))) pa_nil))) (pa_cons (pe_tup (pa_cons (pe_call (ok_terms T) (hr.mono (by decide)) (by rfl) T.g_terms T.F_terms.kp T.b_terms .nil pass0 (pa_cons (pv 1) (pa_cons (pv 9) (pa_cons pe_int pa_nil)))) (pa_cons (pe_call (ok_part T) (hr.mono (by decide)) (by rfl) T.g_part T.F_part.kp T.b_part .nil pass0 (pa_cons (pv 1) (pa_cons pe_int pa_nil))) pa_nil))) pa_nil))) (pg_tup (by rfl) (pgs_cons (pg_name (i := 7) sc_p_law.nd rfl (.inr rfl)) (pgs_cons (pg_name (i := 8) sc_p_law.nd rfl (.inr rfl)) pgs_nil))))
      (C8.pss_cut (ps_asg (pe_tup (pa_cons (T.b_BoardInit1.elim fun ds hd => pe_make T.mk_Board (ok_p_BoardInit T) (hr.mono (by decide)) (by rfl) T.g_Board hd.2 hd.1 pass0 (pa_cons (pv 9) pa_nil)) (pa_cons (pe_makeR T.mk_Layout (ok_p_LayInit T) (hr.mono (by decide)) (by rfl) T.g_Layout passL (pa_cons (T.b_LotInit1.elim fun ds hd => pe_make T.mk_Lot (ok_p_LotInit T) (hr.mono (by decide)) (by rfl) T.g_Lot hd.2 hd.1 pass0 (pa_cons (pv 9) pa_nil)) (pa_cons (pv 8) (pa_cons (pv 8) pa_nil)))) pa_nil))) (pg_tup (by rfl) (pgs_cons (pg_name (i := 4) sc_p_law.nd rfl (.inr rfl)) (pgs_cons (pg_name (i := 6) sc_p_law.nd rfl (.inr rfl)) pgs_nil))))
      (C8.pss_cut (ps_expr (pe_methR (pv 4) T.cl_Board T.me_BoardApply (ok_p_BoardApply T TX) (hr.mono (by decide)) passL (pa_cons (pe_tup (pa_cons pe_str (pa_cons (pv 2) (pa_cons (pv 7) pa_nil)))) pa_nil)))
      (C8.pss_cut (ps_for PassesOwn.never rfl (pi_list (pe_lst (pa_cons pe_non (pa_cons pe_int (pa_cons (pe_tup (pa_cons (pv 2) pa_nil)) (pa_cons (pe_lst (pa_cons (pv 2) pa_nil)) (pa_cons pe_bl (pa_cons (pe_tup (pa_cons pe_int (pa_cons (pe_lst (pa_cons pe_non pa_nil)) pa_nil))) pa_nil)))))))) (pg_name (i := 5) sc_p_law.nd rfl (.inr rfl)) (pss_cons (ps_set (i := 3) sc_p_law.nd rfl (.inl rfl) (pe_lst (pa_cons (pe_lq TB rfl List.mem_cons_self (fun q hq _ => by rw [List.mem_singleton.mp hq]) (lamQ_by (by show lamQB ["_law_script", "_law_feed_here", "_law_label", "_law_asks", "_law_board", "_law_odd", "_law_row", "_law_tie", "_law_wish", "_law_words_here"] (defScope s_p_law) _ = true; decide +kernel)) ⟨fun _ => [], (fun _ y h => absurd h (by simp)), fun _ _ _ _ _ _ _ => ⟨fun _ => rfl, fun h => nomatch h⟩⟩ (k := 13) (fun A outer s H E f c2 hr2 => (pe_methR (pv 4) T.cl_Board T.me_BoardApply (ok_p_BoardApply T TX) (hr2.mono (by decide)) (passes_call (takes_of rfl rfl rfl rfl) (fun _ _ _ _ h => h)) (pa_cons (pe_tup (pa_cons pe_str (pa_cons (pv 5) (pa_cons (pv 7) pa_nil)))) pa_nil)))) (pa_cons (pe_lqD TB rfl List.mem_cons_self (fun q hq _ => by rw [List.mem_singleton.mp hq]) (lamQ_by (by show lamQB ["_law_script", "_law_feed_here", "_law_label", "_law_asks", "_law_board", "_law_odd", "_law_row", "_law_tie", "_law_wish", "_law_words_here"] (defScope s_p_law) _ = true; decide +kernel)) ⟨fun its => [("_law_a", its.headD Value.none)], (fun its y h => by rw [List.mem_singleton.mp h]; rfl), fun _ _ _ _ _ _ _ => ⟨(fun h => nomatch h), fun _ T => ⟨_, rfl, fun u => rfl⟩⟩⟩ (k := 13) (fun A outer s H E f c2 hr2 => (pe_methR (pv 4) T.cl_Board T.me_BoardApply (ok_p_BoardApply T TX) (hr2.mono (by decide)) (passes_call (takes_of rfl rfl rfl rfl) (fun _ _ _ _ h => h)) (pa_cons (pe_tup (pa_cons pe_str (pa_cons (pv 5) (pa_cons (pe_ix (ix_tupK (K := K) rfl) (pv 8) pe_int (fun _ _ => rfl)) (pa_cons (pe_ix (ix_tupK (K := K) rfl) (pv 8) pe_int (fun _ _ => rfl)) pa_nil))))) pa_nil)))) pa_nil))))
      (C8.pss_cut (ps_if (pt_not (pt_val (pe_call (ok_same T 8) (hr.mono (by decide)) (by rfl) T.g_same T.F_same.kp T.b_same .nil pass0 (pa_cons (pe_errs T (fun _ => rfl) (k := 13) (hr.mono (by decide)) (by rfl) (pv 3)) (pa_cons (pe_op op_rep (pe_lst (pa_cons (pe_tup (pa_cons pe_str (pa_cons (pv 5) pa_nil))) pa_nil)) pe_int) pa_nil))))) (pss_one (ps_ret pe_bl)) pss_nil)
      (pss_cons (ps_set (i := 3) sc_p_law.nd rfl (.inl rfl) (pe_lst (pa_cons (pe_lq TB rfl List.mem_cons_self (fun q hq _ => by rw [List.mem_singleton.mp hq]) (lamQ_by (by show lamQB ["_law_script", "_law_feed_here", "_law_label", "_law_asks", "_law_board", "_law_odd", "_law_row", "_law_tie", "_law_wish", "_law_words_here"] (defScope s_p_law) _ = true; decide +kernel)) ⟨fun _ => [], (fun _ y h => absurd h (by simp)), fun _ _ _ _ _ _ _ => ⟨fun _ => rfl, fun h => nomatch h⟩⟩ (k := 13) (fun A outer s H E f c2 hr2 => (pe_methR (pv 4) T.cl_Board T.me_BoardApply (ok_p_BoardApply T TX) (hr2.mono (by decide)) (passes_call (takes_of rfl rfl rfl rfl) (fun _ _ _ _ h => h)) (pa_cons (pe_tup (pa_cons pe_str (pa_cons (pv 5) pa_nil))) pa_nil)))) (pa_cons (pe_lqD TB rfl List.mem_cons_self (fun q hq _ => by rw [List.mem_singleton.mp hq]) (lamQ_by (by show lamQB ["_law_script", "_law_feed_here", "_law_label", "_law_asks", "_law_board", "_law_odd", "_law_row", "_law_tie", "_law_wish", "_law_words_here"] (defScope s_p_law) _ = true; decide +kernel)) ⟨fun its => [("_law_a", its.headD Value.none)], (fun its y h => by rw [List.mem_singleton.mp h]; rfl), fun _ _ _ _ _ _ _ => ⟨(fun h => nomatch h), fun _ T => ⟨_, rfl, fun u => rfl⟩⟩⟩ (k := 13) (fun A outer s H E f c2 hr2 => (pe_methR (pv 4) T.cl_Board T.me_BoardApply (ok_p_BoardApply T TX) (hr2.mono (by decide)) (passes_call (takes_of rfl rfl rfl rfl) (fun _ _ _ _ h => h)) (pa_cons (pe_tup (pa_cons pe_str (pa_cons (pv 5) pa_nil))) pa_nil)))) (pa_cons (pe_lqD TB rfl List.mem_cons_self (fun q hq _ => by rw [List.mem_singleton.mp hq]) (lamQ_by (by show lamQB ["_law_script", "_law_feed_here", "_law_label", "_law_asks", "_law_board", "_law_odd", "_law_row", "_law_tie", "_law_wish", "_law_words_here"] (defScope s_p_law) _ = true; decide +kernel)) ⟨fun its => [("_law_b", its.headD Value.none)], (fun its y h => by rw [List.mem_singleton.mp h]; rfl), fun _ _ _ _ _ _ _ => ⟨(fun h => nomatch h), fun _ T => ⟨_, rfl, fun u => rfl⟩⟩⟩ (k := 13) (fun A outer s H E f c2 hr2 => (pe_meth (pv 4) T.cl_Board T.me_BoardTie (ok_p_BoardTieQ T) (hr2.mono (by decide)) T.b_BoardTie .nil (passes_call (takes_of rfl rfl rfl rfl) (fun _ _ _ _ h => h)) (pa_cons (pv 5) pa_nil)))) pa_nil)))))
      (pss_one (ps_if (pt_not (pt_val (pe_call (ok_same T 8) (hr.mono (by decide)) (by rfl) T.g_same T.F_same.kp T.b_same .nil pass0 (pa_cons (pe_errs T (fun _ => rfl) (k := 13) (hr.mono (by decide)) (by rfl) (pv 3)) (pa_cons (pe_op op_rep (pe_lst (pa_cons (pe_tup (pa_cons pe_str (pa_cons (pv 5) pa_nil))) pa_nil)) pe_int) pa_nil))))) (pss_one (ps_ret pe_bl)) pss_nil))))))
      (C8.pss_cut (ps_for PassesOwn.never rfl (pi_list (pe_lst (pa_cons pe_non (pa_cons pe_str (pa_cons pe_bl (pa_cons pe_bl (pa_cons (pe_tup (pa_cons pe_int pa_nil)) (pa_cons (pe_lst (pa_cons pe_int pa_nil)) (pa_cons (pe_tup (pa_cons pe_int (pa_cons pe_int pa_nil))) pa_nil))))))))) (pg_name (i := 5) sc_p_law.nd rfl (.inr rfl)) (pss_cons (ps_set (i := 3) sc_p_law.nd rfl (.inl rfl) (pe_lst (pa_cons (pe_lq TB rfl List.mem_cons_self (fun q hq _ => by rw [List.mem_singleton.mp hq]) (lamQ_by (by show lamQB ["_law_script", "_law_feed_here", "_law_label", "_law_asks", "_law_board", "_law_odd", "_law_row", "_law_tie", "_law_wish", "_law_words_here"] (defScope s_p_law) _ = true; decide +kernel)) ⟨fun _ => [], (fun _ y h => absurd h (by simp)), fun _ _ _ _ _ _ _ => ⟨fun _ => rfl, fun h => nomatch h⟩⟩ (k := 13) (fun A outer s H E f c2 hr2 => (pe_meth (pv 6) T.cl_Layout T.me_LayDrop (ok_p_LayDrop T) (hr2.mono (by decide)) T.b_LayDrop .nil (passes_call (takes_of rfl rfl rfl rfl) (fun _ _ _ _ h => h)) (pa_cons (pv 5) pa_nil)))) (pa_cons (pe_lqD TB rfl List.mem_cons_self (fun q hq _ => by rw [List.mem_singleton.mp hq]) (lamQ_by (by show lamQB ["_law_script", "_law_feed_here", "_law_label", "_law_asks", "_law_board", "_law_odd", "_law_row", "_law_tie", "_law_wish", "_law_words_here"] (defScope s_p_law) _ = true; decide +kernel)) ⟨fun its => [("_law_a", its.headD Value.none)], (fun its y h => by rw [List.mem_singleton.mp h]; rfl), fun _ _ _ _ _ _ _ => ⟨(fun h => nomatch h), fun _ T => ⟨_, rfl, fun u => rfl⟩⟩⟩ (k := 13) (fun A outer s H E f c2 hr2 => (T.b_LayMove1.elim fun ds hd => pe_meth (pv 6) T.cl_Layout T.me_LayMove (ok_p_LayMove T) (hr2.mono (by decide)) hd.2 hd.1 (passes_call (takes_of rfl rfl rfl rfl) (fun _ _ _ _ h => h)) (pa_cons (pv 5) pa_nil)))) (pa_cons (pe_lqD TB rfl List.mem_cons_self (fun q hq _ => by rw [List.mem_singleton.mp hq]) (lamQ_by (by show lamQB ["_law_script", "_law_feed_here", "_law_label", "_law_asks", "_law_board", "_law_odd", "_law_row", "_law_tie", "_law_wish", "_law_words_here"] (defScope s_p_law) _ = true; decide +kernel)) ⟨fun its => [("_law_b", its.headD Value.none)], (fun its y h => by rw [List.mem_singleton.mp h]; rfl), fun _ _ _ _ _ _ _ => ⟨(fun h => nomatch h), fun _ T => ⟨_, rfl, fun u => rfl⟩⟩⟩ (k := 13) (fun A outer s H E f c2 hr2 => (pe_methKw (pv 6) T.cl_Layout T.me_LayMove (ok_p_LayMove T) (hr2.mono (by decide)) T.kb_LayMove (passes_call (takes_of rfl rfl rfl rfl) (fun _ _ _ _ h => h)) (pa_cons pe_int pa_nil) (pk_cons (pv 5) pk_nil)))) pa_nil)))))
      (C8.pss_cut (ps_if (pt_not (pt_val (pe_call (ok_same T 8) (hr.mono (by decide)) (by rfl) T.g_same T.F_same.kp T.b_same .nil pass0 (pa_cons (pe_errs T (fun _ => rfl) (k := 13) (hr.mono (by decide)) (by rfl) (pv 3)) (pa_cons (pe_op op_rep (pe_lst (pa_cons (pe_tup (pa_cons pe_str (pa_cons (pv 5) pa_nil))) pa_nil)) pe_int) pa_nil))))) (pss_one (ps_ret pe_bl)) pss_nil)
      (pss_cons (ps_set (i := 3) sc_p_law.nd rfl (.inl rfl) (pe_lst (pa_cons (pe_lq TB rfl List.mem_cons_self (fun q hq _ => by rw [List.mem_singleton.mp hq]) (lamQ_by (by show lamQB ["_law_script", "_law_feed_here", "_law_label", "_law_asks", "_law_board", "_law_odd", "_law_row", "_law_tie", "_law_wish", "_law_words_here"] (defScope s_p_law) _ = true; decide +kernel)) ⟨fun _ => [], (fun _ y h => absurd h (by simp)), fun _ _ _ _ _ _ _ => ⟨fun _ => rfl, fun h => nomatch h⟩⟩ (k := 13) (fun A outer s H E f c2 hr2 => (pe_makeK T.mk_Board (ok_p_BoardInitQ T) (hr2.mono (by decide)) (by rfl) T.g_Board T.kb_BoardInit (passes_call (takes_of rfl rfl rfl rfl) (fun _ _ _ _ h => h)) (pa_cons (pv 9) pa_nil) (pk_cons (pv 5) pk_nil)))) (pa_cons (pe_lqD TB rfl List.mem_cons_self (fun q hq _ => by rw [List.mem_singleton.mp hq]) (lamQ_by (by show lamQB ["_law_script", "_law_feed_here", "_law_label", "_law_asks", "_law_board", "_law_odd", "_law_row", "_law_tie", "_law_wish", "_law_words_here"] (defScope s_p_law) _ = true; decide +kernel)) ⟨fun its => [("_law_a", its.headD Value.none)], (fun its y h => by rw [List.mem_singleton.mp h]; rfl), fun _ _ _ _ _ _ _ => ⟨(fun h => nomatch h), fun _ T => ⟨_, rfl, fun u => rfl⟩⟩⟩ (k := 13) (fun A outer s H E f c2 hr2 => (pe_meth (pv 4) T.cl_Board T.me_BoardChange (ok_p_BoardChange T) (hr2.mono (by decide)) T.b_BoardChange .nil (passes_call (takes_of rfl rfl rfl rfl) (fun _ _ _ _ h => h)) (pa_cons (pv 5) pa_nil)))) (pa_cons (pe_lqD TB rfl List.mem_cons_self (fun q hq _ => by rw [List.mem_singleton.mp hq]) (lamQ_by (by show lamQB ["_law_script", "_law_feed_here", "_law_label", "_law_asks", "_law_board", "_law_odd", "_law_row", "_law_tie", "_law_wish", "_law_words_here"] (defScope s_p_law) _ = true; decide +kernel)) ⟨fun its => [("_law_b", its.headD Value.none)], (fun its y h => by rw [List.mem_singleton.mp h]; rfl), fun _ _ _ _ _ _ _ => ⟨(fun h => nomatch h), fun _ T => ⟨_, rfl, fun u => rfl⟩⟩⟩ (k := 13) (fun A outer s H E f c2 hr2 => (pe_meth (T.b_StepInit1.elim fun ds hd => pe_make T.mk_Step (ok_p_StepInit T) (hr2.mono (by decide)) (by rfl) T.g_Step hd.2 hd.1 pass0 (pa_cons (pv 9) pa_nil)) T.cl_Step T.me_StepRepeated (ok_p_StepRepeated T) (hr2.mono (by decide)) T.b_StepRepeated .nil (passes_call (takes_of rfl rfl rfl rfl) (fun _ _ _ _ h => h)) (pa_cons (pv 5) pa_nil)))) pa_nil)))))
      (pss_one (ps_if (pt_not (pt_val (pe_call (ok_same T 8) (hr.mono (by decide)) (by rfl) T.g_same T.F_same.kp T.b_same .nil pass0 (pa_cons (pe_errs T (fun _ => rfl) (k := 13) (hr.mono (by decide)) (by rfl) (pv 3)) (pa_cons (pe_op op_cat (pe_op op_rep (pe_lst (pa_cons (pe_tup (pa_cons pe_str (pa_cons (pv 5) pa_nil))) pa_nil)) pe_int) (pe_lst (pa_cons (pe_tup (pa_cons pe_str (pa_cons (pv 5) pa_nil))) pa_nil))) pa_nil))))) (pss_one (ps_ret pe_bl)) pss_nil))))))
      (pss_one (ps_ret (pe_call (ok_same T 8) (hr.mono (by decide)) (by rfl) T.g_same T.F_same.kp T.b_same .nil pass0 (pa_cons (pe_lst (pa_cons (pe_meth0 (pv 4) T.cl_Board T.me_BoardLabels (ok_p_BoardLabels T) (hr.mono (by decide)) T.b_BoardLabels .nil pass0) (pa_cons (pe_meth0 (pv 4) T.cl_Board T.me_BoardHistory (ok_p_BoardHistory T) (hr.mono (by decide)) T.b_BoardHistory .nil pass0) (pa_cons (pe_prop (pv 4) T.cl_Board T.pr_BoardLimit.choose_spec (ok_p_BoardLimit T) (hr.mono (by decide)) T.b_BoardLimit .nil pass0 (by rfl)) (pa_cons (pe_meth0 (pv 6) T.cl_Layout T.me_LayWishes (ok_p_LayWishes T) (hr.mono (by decide)) T.b_LayWishes .nil pass0) pa_nil))))) (pa_cons (pe_lst (pa_cons (pe_lst (pa_cons (pv 2) pa_nil)) (pa_cons (pe_tup (pa_cons pe_int (pa_cons pe_int pa_nil))) (pa_cons pe_int (pa_cons (pe_lst (pa_cons (pv 8) (pa_cons (pv 8) pa_nil))) pa_nil))))) pa_nil)))))))))))), ?_⟩
    refine ⟨fun σ H1 => ∃ a c, σ = [some (.ref s0), some (.ref a), none, none, none, none, none, none, none, none] ∧ FeedOk H1 a c ∧ LamX.Tabs (tbs Pt) H1, ⟨_, rfl, s0, ns, rfl, hS, hlen, fun a c H1 _ _ s1 hF => ⟨a, c, rfl, hF, hT0.ext s1⟩⟩, fun σ H1 hM => ?_⟩
    obtain ⟨a, c, rfl, hF, hT1⟩ := hM
    -- words, label
    refine ⟨fun σ H2 => ∃ (pw : Addr) (ws : List Nm) (lb : Nm), FeedOk H2 a c ∧ LamX.Tabs (tbs Pt) H2 ∧ Ls a H2 pw (ws.map vS) ∧ ws.length = 2 ∧ ws.Nodup ∧ (∀ x ∈ ws, LW x) ∧ LL lb ∧ σ = [some (.ref s0), some (.ref a), some (vS lb), none, none, none, none, none, none, some (.ref pw)], ?_, fun σ H2 hM => ?_⟩
    · refine ⟨_, rfl, a, c, 2, rfl, hF, by omega, fun pw ws H3 hF3 b3 npa hpw hl hn hw => ?_⟩
      refine ⟨_, rfl, a, c, rfl, hF3, fun pl ls o H4 hF4 b4 np0 n0 hp0 h5 hnd hll ho => ?_⟩
      obtain ⟨x0, hx0⟩ : ∃ x, ls[0]? = some x := ⟨ls[0]'(by omega), List.getElem?_eq_getElem (by omega)⟩
      refine ⟨pl, _, _, _, rfl, rfl, SqL.of hp0, at_labO (n := 0) hx0, two_line, fun t nt => ?_⟩
      have s2 := same_upd (o := .tup [V.ref pw, vS x0]) nt
      have t4 := tabs_but hF3 b4 (tabs_but hF b3 hT1)
      exact ⟨t, _, rfl, .inl (.inl upd_same), rfl, _, _, rfl, _, _, rfl, rfl, pw, ws, x0, hF4.same s2, t4.ext s2, ⟨npa, s2 _ _ (b4 _ _ npa hpw)⟩, hl, hn, hw, hll _ (List.mem_of_getElem? hx0), rfl⟩
    obtain ⟨pw, ws, lb, hF, hT, hpw, hl, hn, hw, hlb, rfl⟩ := hM
    have hne : ws ≠ [] := by
      intro z
      rw [z] at hl
      cases hl
    have hnm : ∀ x ∈ ws, nameB x = true ∧ x.length ≤ 7 := fun x m => ⟨(lw_nm (hw x m)).1, by have := (hw x m).2.1; omega⟩
    -- tie, wish
    refine ⟨fun σ H3 => ∃ (tv : V) (cw : Addr) (vt vg : V) (tt tg wt wg : PyData), FeedOk H3 a c ∧ LamX.Tabs (tbs Pt) H3 ∧ Ls a H3 pw (ws.map vS) ∧ Dt a H3 tv (.tuple [tt, tg]) ∧ TwG (ws.map SX.S) tt tg ∧ H3 cw = some (.tup [vt, vg]) ∧ Dt a H3 vt wt ∧ Dt a H3 vg wg ∧ TwG (ws.map SX.S) wt wg ∧ σ = [some (.ref s0), some (.ref a), some (vS lb), none, none, none, none, some tv, some (.ref cw), some (.ref pw)], ?_, fun σ H3 hM => ?_⟩
    · refine ⟨_, rfl, _, rfl, a, c, pw, ws, 3, rfl, hF, hpw.1, hpw.2, hne, by omega, hn, hnm, fun v1 ts1 H4 hF4 b4 hd1 ht1 => ?_⟩
      refine ⟨_, rfl, a, c, 4, rfl, hF4, by decide, by decide, fun v2 t2 u2 H5 hF5 b5 hr2 _ _ => ?_⟩
      refine ⟨two_line, fun p1 n1 => ?_⟩
      obtain ⟨s1, e1⟩ := dnewT (z := a) n1 (.cons (Dt.but hF4 b5 hd1) (.cons hr2.1 .nil))
      have hF5 := hF5.same s1
      have hp5 := s1 _ _ (b5 _ _ hpw.1 (b4 _ _ hpw.1 hpw.2))
      refine ⟨_, rfl, _, rfl, a, c, pw, ws, 2, rfl, hF5, hpw.1, hp5, hne, by omega, hn, hnm, fun v3 ts3 H6 hF6 b6 hd3 ht3 => ?_⟩
      refine ⟨_, rfl, a, c, 4, rfl, hF6, by decide, by decide, fun v4 t4 u4 H7 hF7 b7 hr4 _ _ => ?_⟩
      refine ⟨two_line, fun p2 n2 => ?_⟩
      have s2 := same_upd (o := .tup [v3, v4]) n2
      have hcw : (upd H7 p2 (.tup [v3, v4])) p2 = some (.tup [v3, v4]) := upd_same
      have hF8 := hF7.same s2
      have b8 := b6.trans (b7.trans (But.of (a := a) s2))
      have hp8 := b8 _ _ hpw.1 hp5
      have g1 := Dt.but hF5 b8 e1
      have g3 := (Dt.but hF6 b7 hd3).same s2
      have g4 := hr4.1.same s2
      have t8 := tabs_but hF5 b8 ((tabs_but hF4 b5 (tabs_but hF b4 hT)).ext s1)
      generalize upd H7 p2 (.tup [v3, v4]) = H8 at hcw hF8 b8 hp8 g1 g3 g4 t8 ⊢
      refine ⟨two_line, fun t nt => ?_⟩
      have s3 := same_upd (o := .tup [V.ref p1, .ref p2]) nt
      exact ⟨t, _, rfl, .inl (.inl upd_same), rfl, _, _, rfl, _, _, rfl, rfl, .ref p1, p2, v3, v4, _, _, _, _, hF8.same s3, t8.ext s3, ⟨hpw.1, s3 _ _ hp8⟩, g1.same s3, TwG.of ht1 hr2.2, s3 _ _ hcw, g3.same s3, g4.same s3, TwG.of ht3 hr4.2, rfl⟩
    obtain ⟨tv, cw, vt, vg, tt, tg, wt, wg, hF', hT', hpw', htv, gt, hcw, hvt, hvg, gw, rfl⟩ := hM
    clear hF hT hpw
    obtain ⟨npa, hpw⟩ := hpw'
    have wvS : ws.map vS = (ws.map SX.S).map V.str := by
      rw [List.map_map]
      rfl
    have wnm : ∀ x ∈ ws.map SX.S, nameB x.cps.toList = true ∧ x.length ≤ 1000 := fun x m => by
      obtain ⟨z, hz, rfl⟩ := List.mem_map.mp m
      refine ⟨by rw [S_list]; exact (lw_nm (hw _ hz)).1, ?_⟩
      rw [SX.S_len]
      have := (hw _ hz).2.1
      omega
    have wnd : (ws.map SX.S).Nodup := nodup_mapB _ (fun a b e => S_inj e) hn
    have wfb : firstBad 0 [] (ws.map SX.S) = none := fb_none _ _ _ (fun x m => (wnm x m).1) wnd
    have wlen : (ws.map SX.S).length < 60 := by rw [List.length_map]; omega
    -- the board, the layout
    refine ⟨fun σ H4 => ∃ (b x dx lo la : Addr) (B : Brd), LamX.Tabs (tbs Pt) H4 ∧ H4 pw = some (.lst (ws.map vS)) ∧ BdA K (fa 171) b [pw] H4 b B false ∧ B.room = 20 ∧ B.st = ([], []) ∧ B.past = [] ∧ B.coming = [] ∧ B.ms.Perm (ws.map SX.S) ∧ LayH (fa 154) H4 x dx lo la [.ref cw, .ref cw] ∧ la ≠ B.P ∧ Dt b H4 tv (.tuple [tt, tg]) ∧ H4 cw = some (.tup [vt, vg]) ∧ Dt b H4 vt wt ∧ Dt b H4 vg wg ∧ x ≠ b ∧ σ = [some (.ref s0), some (.ref a), some (vS lb), none, some (.ref b), none, some (.ref x), some tv, some (.ref cw), some (.ref pw)], ?_, fun σ H4 hM => ?_⟩
    · refine ⟨_, rfl, fun b dxb nb ndx ne => ?_⟩
      have s1 := (same_upd (o := .own b) ndx).trans (same_upd (o := .ins (fa 171) dxb []) (H := upd H3 dxb (.own b)) ((upd_ne ne.symm).trans nb))
      refine ⟨b, pw, b, [pw], ws.map SX.S, 20, dxb, rfl, upd_same, ⟨SqL.of (wvS ▸ s1 _ _ hpw), wfb, wnd, wlen, fun x m => (wnm x m).2, by decide, by decide, fun y m => ?_⟩, fun H' B oth hB hroom hst hpast hcom hperm hsort => ⟨rfl, ?_⟩⟩
      · rw [List.mem_singleton.mp m, s1 _ _ hpw]
        intro z
        cases z
      have keep : Same H3 H' := fun y o e => oth y o (ne_of_none e nb) (s1 _ _ e)
      refine ⟨_, rfl, fun y dy ny ndy ney => ?_⟩
      have s2 := (same_upd (o := .own y) ndy).trans (same_upd (o := .ins (fa 148) dy []) (H := upd H' dy (.own y)) ((upd_ne ney.symm).trans ny))
      have k2 := keep.trans s2
      refine ⟨y, pw, fa 1502, ws.map SX.S, [], dy, rfl, upd_same, ⟨.inl (SqL.of (wvS ▸ k2 _ _ hpw)), .inr (T.z_LotInit _), ⟨b, [], .nil, rfl⟩, by show 0 ≤ 900; decide, wfb, wnd, by omega, fun x m => (wnm x m).2⟩, fun H5 oth5 hL => ⟨rfl, ?_⟩⟩
      have keep5 : Same H' H5 := fun y0 o e => oth5 y0 o (ne_of_none e ny) (s2 _ _ e)
      refine ⟨_, rfl, _, rfl, fun x dx nx ndx nex => ?_⟩
      have s3 := (same_upd (o := .own x) ndx).trans (same_upd (o := .ins (fa 154) dx []) (H := upd H5 dx (.own x)) ((upd_ne nex.symm).trans nx))
      have k3 := keep.trans (keep5.trans s3)
      have nlw : noL wt = true ∧ noL wg = true := by
        have := gw.nl
        have e : noL (.tuple [wt, wg]) = (noL wt && (noL wg && true)) := rfl
        rw [e, Bool.and_eq_true, Bool.and_eq_true] at this
        exact ⟨this.1, this.2.1⟩
      have tup : ∀ {v : V} {d : PyData} {G : Hp}, Same H3 G → noL d = true → Dt a H3 v d → Dt b G v d := fun s n h => Dt.tups (fun _ _ e => s _ _ e) _ _ n h
      refine ⟨x, dx, y, b, ws.map SX.S, [], [.ref cw, .ref cw], rfl, upd_same, hL.same s3, by show 2 ≤ 8; decide, fun v m => ?_, fun H6 la oth6 hY nla => ⟨rfl, ?_⟩⟩
      · have e : v = .ref cw := by simpa using m
        exact ⟨cw, vt, vg, wt, wg, e, k3 _ _ hcw, tup k3 nlw.1 hvt, tup k3 nlw.2 hvg, gw.w⟩
      have keep6 : Same H5 H6 := fun y0 o e => oth6 y0 o (ne_of_none e nx) (s3 _ _ e)
      refine ⟨two_line, fun t nt => ?_⟩
      have s4 := same_upd (o := .tup [V.ref b, .ref x]) nt
      have k56 := keep5.trans (keep6.trans s4)
      have kz := keep.trans k56
      exact ⟨t, _, rfl, .inl (.inl upd_same), rfl, _, _, rfl, _, _, rfl, rfl, b, x, dx, y, la, B, hT'.ext kz, kz _ _ hpw, hB.same k56, hroom, hst, hpast, hcom, hperm, hY.same s4, (ne_of_none ((keep5.trans s3) _ _ hB.hP) nla).symm, tup kz gt.nl htv, kz _ _ hcw, tup kz nlw.1 hvt, tup kz nlw.2 hvg, (ne_of_none (keep5 _ _ hB.ins) nx).symm, rfl⟩
    clear hF hT1 hT' hF' htv hcw hvt hvg hpw
    obtain ⟨b, x, dx, lo, la, B, hT, hpw, hB, hroom, hst, hpast, hcom, hperm, hY, nla, htv, hcw, hvt, hvg, nxb, rfl⟩ := hM
    -- a tie
    refine ⟨fun σ G => ∃ (B : Brd), Q7 K (fa 171) (fa 154) (tbs Pt) b x dx lo la pw cw ws lb tv vt vg (.tuple [tt, tg]) wt wg B G ∧ σ = [some (.ref s0), some (.ref a), some (vS lb), none, some (.ref b), none, some (.ref x), some tv, some (.ref cw), some (.ref pw)], ?_, fun σ G hM => ?_⟩
    · refine ⟨_, rfl, b, B.dx, _, rfl, hB.ins, rfl, ?_⟩
      refine ⟨_, rfl, _, rfl, small_line (by show 3 ≤ 1000; decide), fun p1 n1 => ?_⟩
      have s1 := same_upd (o := .tup [V.str "tie", vS lb, tv]) n1
      have hB1 := hB.same s1
      refine .inl ⟨b, b, [pw], B, [.ref p1], [.tie (SX.S lb) (.tuple [tt, tg])], rfl, hB1, .cons ⟨p1, rfl, tv, SqT.of upd_same, htv.same s1, hlb.ln⟩ .nil, by show 1 ≤ 10; decide, by rw [hst]; exact Nat.zero_le _, by rw [hpast]; exact Nat.zero_le _, fun y m => ?_, fun r h => ?_, fun st h G2 B2 r => ?_⟩
      · rw [List.mem_singleton.mp m, s1 _ _ hpw]
        intro z
        cases z
      · rw [batch1 hperm gt.k hroom hst hlb] at h
        cases h
      · rw [batch1 hperm gt.k hroom hst hlb] at h
        obtain rfl := Sum.inr.inj h
        have m : MutS [b, B.P] (B.P :: B.Cm :: [pw]) _ := fun y hy => hB1.mut y (by
          rcases List.mem_cons.mp hy with rfl | hy
          · exact .head _
          · rw [List.mem_singleton.mp hy]; exact .tail _ (.head _))
        have tt2 := m.tt r.kp
        have off : ∀ {y : Addr}, y ≠ b → y ≠ B.P → y ∉ [b, B.P] := fun h1 h2 m => by
          rcases List.mem_cons.mp m with e | m
          · exact h1 e
          · exact h2 (List.mem_singleton.mp m)
        have pwb : pw ≠ b := ne_of hpw hB.ins (by intro z; cases z)
        have pwP : pw ≠ B.P := fun e => hB.nP (by rw [← e]; exact .head _)
        have lab : la ≠ b := ne_of hY.lst hB.ins (by intro z; cases z)
        have xP : x ≠ B.P := ne_of hY.ins hB.hP (by intro z; cases z)
        have nlw : noL wt = true ∧ noL wg = true := by
          have := gw.nl
          have e : noL (.tuple [wt, wg]) = (noL wt && (noL wg && true)) := rfl
          rw [e, Bool.and_eq_true, Bool.and_eq_true] at this
          exact ⟨this.1, this.2.1⟩
        exact ⟨B2, ⟨tabs_kp (hT.ext s1) m r.kp, r.kp _ _ (s1 _ _ hpw) (off pwb pwP), r.hB, r.st, r.room.trans hroom, by rw [r.past, hpast]; rfl, r.coming, ⟨r.kp _ _ (s1 _ _ hY.ins) (off nxb xP), r.kp _ _ (s1 _ _ hY.lst) (off lab nla)⟩, Dt.tups tt2 _ _ gt.nl (htv.same s1), tt2 _ _ (s1 _ _ hcw), Dt.tups tt2 _ _ nlw.1 (hvt.same s1), Dt.tups tt2 _ _ nlw.2 (hvg.same s1)⟩, rfl⟩
    clear hT hpw hB hroom hst hpast hcom hperm hY htv hcw hvt hvg nla
    obtain ⟨B, hQ, rfl⟩ := hM
    -- six values
    refine ⟨fun σ G => ∃ (y3 y5 : Option V), Q7 K (fa 171) (fa 154) (tbs Pt) b x dx lo la pw cw ws lb tv vt vg (.tuple [tt, tg]) wt wg B G ∧ σ = [some (.ref s0), some (.ref a), some (vS lb), y3, some (.ref b), y5, some (.ref x), some tv, some (.ref cw), some (.ref pw)], ?_, fun σ G hM => ?_⟩
    · refine ⟨_, rfl, one_line, fun p1 n1 => ?_⟩
      obtain ⟨s1, d1⟩ := dnewT (z := b) n1 (.cons (.str (SX.S lb) hlb.ln) .nil)
      refine ⟨_, rfl, one_line, fun p2 n2 => ?_⟩
      obtain ⟨s2, d2⟩ := dnewL (z := b) n2 (ne_of_none (s1 _ _ hQ.hB.ins) n2).symm (.cons (.str (SX.S lb) hlb.ln) .nil)
      refine ⟨one_line, fun p3 n3 => ?_⟩
      obtain ⟨s3, d3⟩ := dnewL (z := b) n3 (ne_of_none ((s1.trans s2) _ _ hQ.hB.ins) n3).symm (.cons .non .nil)
      refine ⟨two_line, fun p4 n4 => ?_⟩
      obtain ⟨s4, d4⟩ := dnewT (z := b) n4 (.cons (.int 1 (by decide +kernel)) (.cons d3 .nil))
      refine ⟨small_line (by show 6 ≤ 1000; decide), fun A0 nA => ?_⟩
      have s5 := same_upd (o := .lst [V.non, .int 5, .ref p1, .ref p2, .bl true, .ref p4]) nA
      have sZ := s1.trans (s2.trans (s3.trans (s4.trans s5)))
      have hQ0 := hQ.same sZ
      have hA0 : DtAll b _ [V.non, .int 5, .ref p1, .ref p2, .bl true, .ref p4] (odds1 (SX.S lb)) := .cons .non (.cons (.int 5 (by decide +kernel)) (.cons (d1.same (s2.trans (s3.trans (s4.trans s5)))) (.cons (d2.same (s3.trans (s4.trans s5))) (.cons (.bl true) (.cons (d4.same s5) .nil)))))
      have eA0 : (upd (upd (upd (upd (upd G p1 (.tup [vS lb])) p2 (.lst [vS lb])) p3 (.lst [V.non])) p4 (.tup [V.int 1, V.ref p3])) A0 (.lst [V.non, .int 5, .ref p1, .ref p2, .bl true, .ref p4])) A0 = some (.lst [V.non, .int 5, .ref p1, .ref p2, .bl true, .ref p4]) := upd_same
      generalize (upd (upd (upd (upd (upd G p1 (.tup [vS lb])) p2 (.lst [vS lb])) p3 (.lst [V.non])) p4 (.tup [V.int 1, V.ref p3])) A0 (.lst [V.non, .int 5, .ref p1, .ref p2, .bl true, .ref p4])) = G0 at hQ0 hA0 eA0 ⊢
      clear hQ s1 s2 s3 s4 s5 sZ d1 d2 d3 d4 n1 n2 n3 n4 nA
      refine ⟨A0, rfl, ⟨_, SqL.of eA0⟩, for_list (K := K) (a := A0) (xs := [V.non, .int 5, .ref p1, .ref p2, .bl true, .ref p4]) (fun i σ G => ∃ (y3 y5 : Option V), LamX.ExtN G0 G ∧ LamX.Tabs (tbs Pt) G ∧ σ = [some (.ref s0), some (.ref a), some (vS lb), y3, some (.ref b), y5, some (.ref x), some tv, some (.ref cw), some (.ref pw)]) ⟨_, _, ext_same (Same.refl _), hQ0.t, rfl⟩ (fun i σ G _ hq => ?_) (fun i v σ G hx hq => ?_) (fun σ G hq => ?_)⟩
      · obtain ⟨_, _, e, _⟩ := hq
        exact SqL.of (e _ _ eA0 (by intro ps z; cases z))
      · obtain ⟨y3, y5, eG, tG, rfl⟩ := hq
        obtain ⟨d, hd, hv⟩ := DtAll.at i hA0 hx
        obtain ⟨dn, dsh, dft⟩ := odds1_ok (low_okL hlb) d (List.mem_of_getElem? hd)
        have hQ := hQ0.ext eG tG
        have hv0 := hv
        have hv := hv.ext eG
        have ok := hQ.ok hlb
        -- names
        refine ⟨tG, fun f1 G1 e1 t1 l1 => ?_⟩
        refine ⟨t1, fun f2 G2 e2 t2 l2 => ?_⟩
        refine ⟨two_line, fun A nA => ?_⟩
        have sA := same_upd (o := .lst [V.ref f1, .ref f2]) nA
        have hQ := ((hQ.ext e1 t1).ext e2 t2).same sA
        have hv := ((hv.ext e1).ext e2).same sA
        have eG := eG.trans (e1.trans (e2.trans (ext_same sA)))
        have hA : (upd G2 A (.lst [V.ref f1, .ref f2])) A = some (.lst [V.ref f1, .ref f2]) := upd_same
        have l1 := l1.keep (keep_ext (e2.trans (ext_same sA)))
        have l2 := l2.keep (keep_ext (ext_same sA))
        clear e1 e2 t1 t2 sA tG
        generalize upd G2 A (.lst [V.ref f1, .ref f2]) = HA at hQ hv hA l1 l2 eG ⊢
        have od : OddA b HA v d := ⟨hv, dn, dsh⟩
        refine ⟨fun σ G => ∃ (y3 : Option V), LamX.ExtN G0 G ∧ LamX.Tabs (tbs Pt) G ∧ σ = [some (.ref s0), some (.ref a), some (vS lb), y3, some (.ref b), some v, some (.ref x), some tv, some (.ref cw), some (.ref pw)], ?_, fun σ G hM => ?_⟩
        · refine ⟨_, rfl, A, [f1, f2], [_, _], [("InvalidName", v), ("InvalidName", v)], rfl, hA, by show 2 ≤ 900; decide, .cons l1 (.cons l2 .nil), .cons ?_ (.cons ?_ .nil), fun D ps H3 s3 hD hps => ?_⟩
          · intro G sG E' Q' hE hQ'
            have hQs := hQ.same sG
            refine ⟨_, rfl, b, B.dx, _, rfl, hQs.hB.ins, rfl, _, rfl, _, rfl, small_line (by show 3 ≤ 1000; decide), fun p1 n1 => ?_⟩
            have s1 := same_upd (o := .tup [V.str "tie", v, tv]) n1
            exact .inr ⟨b, b, b, [pw], B, p1, v, d, .tie tv, rfl, ⟨(hQs.same s1).hB, SqT.of upd_same, od.same (sG.trans s1), ok⟩, fun dd H' s' hd => hE _ _ _ (s1.trans s') (errI_InvalidName T hd)⟩
          · intro G sG E' Q' hE hQ'
            have hQs := hQ.same sG
            refine ⟨_, rfl, b, B.dx, _, rfl, hQs.hB.ins, rfl, _, rfl, _, rfl, cw, _, _, _, rfl, rfl, SqT.of hQs.wm, rfl, _, rfl, cw, _, _, _, rfl, rfl, SqT.of hQs.wm, rfl, small_line (by show 4 ≤ 1000; decide), fun p1 n1 => ?_⟩
            have s1 := same_upd (o := .tup [V.str "wish", v, vt, vg]) n1
            exact .inr ⟨b, b, b, [pw], B, p1, v, d, .wish vt vg, rfl, ⟨(hQs.same s1).hB, SqT.of upd_same, od.same (sG.trans s1), ok⟩, fun dd H' s' hd => hE _ _ _ (s1.trans s') (errI_InvalidName T hd)⟩
          · have hQ3 := hQ.same s3
            refine ⟨_, rfl, two_line, fun p1 n1 => ⟨one_line, fun p2 n2 => ⟨p2, 2, _, rfl, rfl, upd_same, by decide, by decide, small_line (by show 2 ≤ 1000; decide), fun p3 n3 => ?_⟩⟩⟩
            have k1 := same_upd (o := .tup [V.str "InvalidName", v]) n1
            have k2 := same_upd (o := .lst [V.ref p1]) n2
            have k3 := same_upd (o := .lst [V.ref p1, V.ref p1]) n3
            have kz := k1.trans (k2.trans k3)
            refine ⟨_, _, rfl, eq_errs ["InvalidName", "InvalidName"] (kz _ _ hQ3.hB.ins) ((hv.same s3).same kz) dft (kz _ _ hD) (lq_paired_mono (fun p (r : Str × V) e => kz _ _ e) hps) upd_same (.cons ⟨p1, rfl, (k2.trans k3) _ _ upd_same⟩ (.cons ⟨p1, rfl, (k2.trans k3) _ _ upd_same⟩ .nil)) (by decide +kernel) (by show 2 ≤ 1000; decide), fun H' s' => ⟨_, rfl, iteFq rfl ⟨_, eG.trans (ext_same (s3.trans (kz.trans s'))), hQ3.t.ext (kz.trans s'), rfl⟩⟩⟩
        obtain ⟨y3, eG, tG, rfl⟩ := hM
        clear hQ hv hA l1 l2 od
        have hQ := hQ0.ext eG tG
        have hv := hv0.ext eG
        -- labels
        refine ⟨tG, fun f1 G1 e1 t1 l1 => ?_⟩
        refine ⟨t1, fun f2 G2 e2 t2 l2 => ?_⟩
        refine ⟨t2, fun f3 G3 e3 t3 l3 => ?_⟩
        refine ⟨small_line (by show 3 ≤ 1000; decide), fun A nA => ?_⟩
        have sA := same_upd (o := .lst [V.ref f1, .ref f2, .ref f3]) nA
        have hQ := (((hQ.ext e1 t1).ext e2 t2).ext e3 t3).same sA
        have hv := (((hv.ext e1).ext e2).ext e3).same sA
        have eG := eG.trans (e1.trans (e2.trans (e3.trans (ext_same sA))))
        have hA : (upd G3 A (.lst [V.ref f1, .ref f2, .ref f3])) A = some (.lst [V.ref f1, .ref f2, .ref f3]) := upd_same
        have l1 := l1.keep (keep_ext (e2.trans (e3.trans (ext_same sA))))
        have l2 := l2.keep (keep_ext (e3.trans (ext_same sA)))
        have l3 := l3.keep (keep_ext (ext_same sA))
        clear e1 e2 e3 t1 t2 t3 sA tG
        generalize upd G3 A (.lst [V.ref f1, .ref f2, .ref f3]) = HA at hQ hv hA l1 l2 l3 eG ⊢
        have od : OddA b HA v d := ⟨hv, dn, dsh⟩
        refine ⟨_, rfl, A, [f1, f2, f3], [_, _, _], [("UnknownLabel", v), ("UnknownLabel", v), ("UnknownLabel", v)], rfl, hA, by show 3 ≤ 900; decide, .cons l1 (.cons l2 (.cons l3 .nil)), .cons ?_ (.cons ?_ (.cons ?_ .nil)), fun D ps H3 s3 hD hps => ?_⟩
        · intro G sG E' Q' hE hQ'
          have hQs := hQ.same sG
          refine ⟨_, rfl, b, B.dx, _, rfl, hQs.hB.ins, rfl, _, rfl, two_line, fun p1 n1 => ?_⟩
          have s1 := same_upd (o := .tup [V.str "drop", v]) n1
          exact .inr ⟨b, b, b, [pw], B, p1, v, d, .drop, rfl, ⟨(hQs.same s1).hB, SqT.of upd_same, od.same (sG.trans s1), ok⟩, fun dd H' s' hd => hE _ _ _ (s1.trans s') (errI_UnknownLabel T hd)⟩
        · intro G sG E' Q' hE hQ'
          have hQs := hQ.same sG
          refine ⟨_, rfl, b, B.dx, _, rfl, hQs.hB.ins, rfl, _, rfl, two_line, fun p1 n1 => ?_⟩
          have s1 := same_upd (o := .tup [V.str "first", v]) n1
          exact .inr ⟨b, b, b, [pw], B, p1, v, d, .first, rfl, ⟨(hQs.same s1).hB, SqT.of upd_same, od.same (sG.trans s1), ok⟩, fun dd H' s' hd => hE _ _ _ (s1.trans s') (errI_UnknownLabel T hd)⟩
        · intro G sG E' Q' hE hQ'
          have hQs := hQ.same sG
          exact ⟨_, rfl, b, B.dx, _, rfl, hQs.hB.ins, rfl, _, rfl, b, b, b, [pw], B, false, v, d, rfl, hQs.hB, ok, od.same sG, fun dd H' s' hd => hE _ _ _ s' (errI_UnknownLabel T hd)⟩
        · have hQ3 := hQ.same s3
          refine ⟨_, rfl, two_line, fun p1 n1 => ⟨one_line, fun p2 n2 => ⟨p2, 3, _, rfl, rfl, upd_same, by decide, by decide, small_line (by show 3 ≤ 1000; decide), fun p3 n3 => ?_⟩⟩⟩
          have k1 := same_upd (o := .tup [V.str "UnknownLabel", v]) n1
          have k2 := same_upd (o := .lst [V.ref p1]) n2
          have k3 := same_upd (o := .lst [V.ref p1, V.ref p1, V.ref p1]) n3
          have kz := k1.trans (k2.trans k3)
          refine ⟨_, _, rfl, eq_errs ["UnknownLabel", "UnknownLabel", "UnknownLabel"] (kz _ _ hQ3.hB.ins) ((hv.same s3).same kz) dft (kz _ _ hD) (lq_paired_mono (fun p (r : Str × V) e => kz _ _ e) hps) upd_same (.cons ⟨p1, rfl, (k2.trans k3) _ _ upd_same⟩ (.cons ⟨p1, rfl, (k2.trans k3) _ _ upd_same⟩ (.cons ⟨p1, rfl, (k2.trans k3) _ _ upd_same⟩ .nil))) (by decide +kernel) (by show 3 ≤ 1000; decide), fun H' s' => ⟨_, rfl, iteFq rfl ⟨_, _, eG.trans (ext_same (s3.trans (kz.trans s'))), hQ3.t.ext (kz.trans s'), rfl⟩⟩⟩
      · obtain ⟨y3, y5, e, t, rfl⟩ := hq
        exact ⟨y3, y5, hQ0.ext e t, rfl⟩
    obtain ⟨y3, y5, hQ, rfl⟩ := hM
    -- seven values
    refine ⟨fun σ G => ∃ (y3 y5 : Option V), Q7 K (fa 171) (fa 154) (tbs Pt) b x dx lo la pw cw ws lb tv vt vg (.tuple [tt, tg]) wt wg B G ∧ σ = [some (.ref s0), some (.ref a), some (vS lb), y3, some (.ref b), y5, some (.ref x), some tv, some (.ref cw), some (.ref pw)], ?_, fun σ G hM => ?_⟩
    · refine ⟨one_line, fun p1 n1 => ?_⟩
      obtain ⟨s1, d1⟩ := dnewT (z := b) n1 (.cons (.int 1 (by decide +kernel)) .nil)
      refine ⟨one_line, fun p2 n2 => ?_⟩
      obtain ⟨s2, d2⟩ := dnewL (z := b) n2 (ne_of_none (s1 _ _ hQ.hB.ins) n2).symm (.cons (.int 0 (by decide +kernel)) .nil)
      refine ⟨two_line, fun p3 n3 => ?_⟩
      obtain ⟨s3, d3⟩ := dnewT (z := b) n3 (.cons (.int 1 (by decide +kernel)) (.cons (.int 1 (by decide +kernel)) .nil))
      refine ⟨small_line (by show 7 ≤ 1000; decide), fun A0 nA => ?_⟩
      have s5 := same_upd (o := .lst [V.non, .str "1", .bl true, .bl false, .ref p1, .ref p2, .ref p3]) nA
      have sZ := s1.trans (s2.trans (s3.trans s5))
      have hQ0 := hQ.same sZ
      have hA0 : DtAll b _ [V.non, .str "1", .bl true, .bl false, .ref p1, .ref p2, .ref p3] odds2 := .cons .non (.cons (.str "1" (by decide +kernel)) (.cons (.bl true) (.cons (.bl false) (.cons (d1.same (s2.trans (s3.trans s5))) (.cons (d2.same (s3.trans s5)) (.cons (d3.same s5) .nil))))))
      have eA0 : (upd (upd (upd (upd G p1 (.tup [V.int 1])) p2 (.lst [V.int 0])) p3 (.tup [V.int 1, .int 1])) A0 (.lst [V.non, .str "1", .bl true, .bl false, .ref p1, .ref p2, .ref p3])) A0 = some (.lst [V.non, .str "1", .bl true, .bl false, .ref p1, .ref p2, .ref p3]) := upd_same
      generalize (upd (upd (upd (upd G p1 (.tup [V.int 1])) p2 (.lst [V.int 0])) p3 (.tup [V.int 1, .int 1])) A0 (.lst [V.non, .str "1", .bl true, .bl false, .ref p1, .ref p2, .ref p3])) = G0 at hQ0 hA0 eA0 ⊢
      clear hQ s1 s2 s3 s5 sZ d1 d2 d3 n1 n2 n3 nA
      refine ⟨A0, rfl, ⟨_, SqL.of eA0⟩, for_list (K := K) (a := A0) (xs := [V.non, .str "1", .bl true, .bl false, .ref p1, .ref p2, .ref p3]) (fun i σ G => ∃ (y3 y5 : Option V), LamX.ExtN G0 G ∧ LamX.Tabs (tbs Pt) G ∧ σ = [some (.ref s0), some (.ref a), some (vS lb), y3, some (.ref b), y5, some (.ref x), some tv, some (.ref cw), some (.ref pw)]) ⟨_, _, ext_same (Same.refl _), hQ0.t, rfl⟩ (fun i σ G _ hq => ?_) (fun i v σ G hx hq => ?_) (fun σ G hq => ?_)⟩
      · obtain ⟨_, _, e, _⟩ := hq
        exact SqL.of (e _ _ eA0 (by intro ps z; cases z))
      · obtain ⟨y3, y5, eG, tG, rfl⟩ := hq
        obtain ⟨d, hd, hv⟩ := DtAll.at i hA0 hx
        obtain ⟨dn, dft⟩ := odds2_ok d (List.mem_of_getElem? hd)
        have hQ := hQ0.ext eG tG
        have hv0 := hv
        have hv := hv.ext eG
        -- places
        refine ⟨tG, fun f1 G1 e1 t1 l1 => ?_⟩
        refine ⟨t1, fun f2 G2 e2 t2 l2 => ?_⟩
        refine ⟨t2, fun f3 G3 e3 t3 l3 => ?_⟩
        refine ⟨small_line (by show 3 ≤ 1000; decide), fun A nA => ?_⟩
        have sA := same_upd (o := .lst [V.ref f1, .ref f2, .ref f3]) nA
        have hQ := (((hQ.ext e1 t1).ext e2 t2).ext e3 t3).same sA
        have hv := (((hv.ext e1).ext e2).ext e3).same sA
        have eG := eG.trans (e1.trans (e2.trans (e3.trans (ext_same sA))))
        have hA : (upd G3 A (.lst [V.ref f1, .ref f2, .ref f3])) A = some (.lst [V.ref f1, .ref f2, .ref f3]) := upd_same
        have l1 := l1.keep (keep_ext (e2.trans (e3.trans (ext_same sA))))
        have l2 := l2.keep (keep_ext (e3.trans (ext_same sA)))
        have l3 := l3.keep (keep_ext (ext_same sA))
        clear e1 e2 e3 t1 t2 t3 sA tG
        generalize upd G3 A (.lst [V.ref f1, .ref f2, .ref f3]) = HA at hQ hv hA l1 l2 l3 eG ⊢
        refine ⟨fun σ G => ∃ (y3 : Option V), LamX.ExtN G0 G ∧ LamX.Tabs (tbs Pt) G ∧ σ = [some (.ref s0), some (.ref a), some (vS lb), y3, some (.ref b), some v, some (.ref x), some tv, some (.ref cw), some (.ref pw)], ?_, fun σ G hM => ?_⟩
        · refine ⟨_, rfl, A, [f1, f2, f3], [_, _, _], [("InvalidWish", v), ("InvalidWish", v), ("InvalidWish", v)], rfl, hA, by show 3 ≤ 900; decide, .cons l1 (.cons l2 (.cons l3 .nil)), .cons ?_ (.cons ?_ (.cons ?_ .nil)), fun D ps H3 s3 hD hps => ?_⟩
          · intro G sG E' Q' hE hQ'
            have hQs := hQ.same sG
            exact ⟨_, rfl, x, dx, _, rfl, hQs.hY.ins, rfl, _, rfl, x, dx, lo, la, _, v, b, d, rfl, hQs.hY, hv.same sG, dn, fun dd H' s' hd => hE _ _ _ s' (errI_InvalidWish T hd)⟩
          · intro G sG E' Q' hE hQ'
            have hQs := hQ.same sG
            exact ⟨_, rfl, x, dx, _, rfl, hQs.hY.ins, rfl, _, rfl, x, dx, lo, la, _, v, .int 0, v, b, d, rfl, hQs.hY, hv.same sG, dn, fun dd H' s' hd => hE _ _ _ s' (errI_InvalidWish T hd), .inl rfl⟩
          · intro G sG E' Q' hE hQ'
            have hQs := hQ.same sG
            exact ⟨_, rfl, x, dx, _, rfl, hQs.hY.ins, rfl, _, rfl, rfl, rfl, x, dx, lo, la, _, .int 1, v, v, b, d, rfl, hQs.hY, hv.same sG, dn, fun dd H' s' hd => hE _ _ _ s' (errI_InvalidWish T hd), .inr ⟨1, rfl, by decide, by decide, by show (1 : Int) < 2; decide, rfl⟩⟩
          · have hQ3 := hQ.same s3
            refine ⟨_, rfl, two_line, fun p1 n1 => ⟨one_line, fun p2 n2 => ⟨p2, 3, _, rfl, rfl, upd_same, by decide, by decide, small_line (by show 3 ≤ 1000; decide), fun p3 n3 => ?_⟩⟩⟩
            have k1 := same_upd (o := .tup [V.str "InvalidWish", v]) n1
            have k2 := same_upd (o := .lst [V.ref p1]) n2
            have k3 := same_upd (o := .lst [V.ref p1, V.ref p1, V.ref p1]) n3
            have kz := k1.trans (k2.trans k3)
            refine ⟨_, _, rfl, eq_errs ["InvalidWish", "InvalidWish", "InvalidWish"] (kz _ _ hQ3.hB.ins) ((hv.same s3).same kz) dft (kz _ _ hD) (lq_paired_mono (fun p (r : Str × V) e => kz _ _ e) hps) upd_same (.cons ⟨p1, rfl, (k2.trans k3) _ _ upd_same⟩ (.cons ⟨p1, rfl, (k2.trans k3) _ _ upd_same⟩ (.cons ⟨p1, rfl, (k2.trans k3) _ _ upd_same⟩ .nil))) (by decide +kernel) (by show 3 ≤ 1000; decide), fun H' s' => ⟨_, rfl, iteFq rfl ⟨_, eG.trans (ext_same (s3.trans (kz.trans s'))), hQ3.t.ext (kz.trans s'), rfl⟩⟩⟩
        obtain ⟨y3, eG, tG, rfl⟩ := hM
        clear hQ hv hA l1 l2 l3
        have hQ := hQ0.ext eG tG
        have hv := hv0.ext eG
        -- limits
        refine ⟨tG, fun f1 G1 e1 t1 l1 => ?_⟩
        refine ⟨t1, fun f2 G2 e2 t2 l2 => ?_⟩
        refine ⟨t2, fun f3 G3 e3 t3 l3 => ?_⟩
        refine ⟨small_line (by show 3 ≤ 1000; decide), fun A nA => ?_⟩
        have sA := same_upd (o := .lst [V.ref f1, .ref f2, .ref f3]) nA
        have hQ := (((hQ.ext e1 t1).ext e2 t2).ext e3 t3).same sA
        have hv := (((hv.ext e1).ext e2).ext e3).same sA
        have eG := eG.trans (e1.trans (e2.trans (e3.trans (ext_same sA))))
        have hA : (upd G3 A (.lst [V.ref f1, .ref f2, .ref f3])) A = some (.lst [V.ref f1, .ref f2, .ref f3]) := upd_same
        have l1 := l1.keep (keep_ext (e2.trans (e3.trans (ext_same sA))))
        have l2 := l2.keep (keep_ext (e3.trans (ext_same sA)))
        have l3 := l3.keep (keep_ext (ext_same sA))
        clear e1 e2 e3 t1 t2 t3 sA tG
        generalize upd G3 A (.lst [V.ref f1, .ref f2, .ref f3]) = HA at hQ hv hA l1 l2 l3 eG ⊢
        refine ⟨_, rfl, A, [f1, f2, f3], [_, _, _], [("InvalidLimit", v), ("InvalidLimit", v), ("InvalidTimes", v)], rfl, hA, by show 3 ≤ 900; decide, .cons l1 (.cons l2 (.cons l3 .nil)), .cons ?_ (.cons ?_ (.cons ?_ .nil)), fun D ps H3 s3 hD hps => ?_⟩
        · intro G sG E' Q' hE hQ'
          have hQs := hQ.same sG
          refine ⟨_, rfl, _, rfl, rfl, rfl, fun y dy ny ndy ney => ?_⟩
          have s1 := (same_upd (o := .own y) ndy).trans (same_upd (o := .ins (fa 171) dy []) (H := upd G dy (.own y)) ((upd_ne ney.symm).trans ny))
          exact ⟨y, pw, b, ws.map SX.S, v, d, dy, rfl, upd_same, SqL.of (wvS ▸ s1 _ _ hQs.w), wfb, wnd, wlen, fun x m => (wnm x m).2, ne_of_none hQs.hB.ins ny, (hv.same sG).same s1, dn, fun dd H' oth hd => hE _ _ _ (fun z o e => oth z o (ne_of_none e ny) (s1 _ _ e)) (errI_InvalidLimit T hd)⟩
        · intro G sG E' Q' hE hQ'
          have hQs := hQ.same sG
          exact ⟨_, rfl, b, B.dx, _, rfl, hQs.hB.ins, rfl, _, rfl, b, v, b, d, rfl, ⟨_, _, hQs.hB.ins⟩, hv.same sG, dn, fun dd H' s' hd => hE _ _ _ s' (errI_InvalidLimit T hd)⟩
        · intro G sG E' Q' hE hQ'
          have hQs := hQ.same sG
          refine ⟨_, rfl, fun y dy ny ndy ney => ?_⟩
          have s1 := (same_upd (o := .own y) ndy).trans (same_upd (o := .ins (fa 179) dy []) (H := upd G dy (.own y)) ((upd_ne ney.symm).trans ny))
          refine ⟨y, pw, fa 1602, ws.map SX.S, [], dy, rfl, upd_same, ⟨.inl (SqL.of (wvS ▸ s1 _ _ hQs.w)), .inr (T.z_StepInit _), ⟨b, [], .nil, rfl⟩, by show 0 ≤ 900; decide, stepB ws (by omega) hn hw, wnd, by rw [List.length_map]; omega, fun z m => ?_⟩, fun H5 oth hL => ⟨rfl, ?_⟩⟩
          · obtain ⟨z0, hz, rfl⟩ := List.mem_map.mp m
            rw [SX.S_len]
            have := (hw z0 hz).2.1
            omega
          have k5 : Same G H5 := fun z o e => oth z o (ne_of_none e ny) (s1 _ _ e)
          obtain ⟨dl, u1, u2, msl, g1, _⟩ := id hL.at_
          exact ⟨y, dl, _, rfl, g1, rfl, _, rfl, y, v, b, d, rfl, (hv.same sG).same k5, dn, fun dd H' s' hd => hE _ _ _ (k5.trans s') (errI_InvalidTimes T hd)⟩
        · have hQ3 := hQ.same s3
          refine ⟨_, rfl, two_line, fun p1 n1 => ⟨one_line, fun p2 n2 => ⟨p2, 2, _, rfl, rfl, upd_same, by decide, by decide, small_line (by show 2 ≤ 1000; decide), fun p3 n3 => ?_⟩⟩⟩
          have k1 := same_upd (o := .tup [V.str "InvalidLimit", v]) n1
          have k2 := same_upd (o := .lst [V.ref p1]) n2
          have k3 := same_upd (o := .lst [V.ref p1, .ref p1]) n3
          refine ⟨_, rfl, two_line, fun p4 n4 => ⟨one_line, fun p5 n5 => ?_⟩⟩
          have k4 := same_upd (o := .tup [V.str "InvalidTimes", v]) n4
          have k5 := same_upd (o := .lst [V.ref p4]) n5
          refine ⟨p3, p5, _, _, rfl, rfl, (k4.trans k5) _ _ upd_same, upd_same, small_line (by show 3 ≤ 1000; decide), fun p6 n6 => ?_⟩
          have k6 := same_upd (o := .lst [V.ref p1, .ref p1, .ref p4]) n6
          have kz := k1.trans (k2.trans (k3.trans (k4.trans (k5.trans k6))))
          have j1 := (k2.trans (k3.trans (k4.trans (k5.trans k6)))) _ _ (upd_same (H := H3) (a := p1) (o := .tup [V.str "InvalidLimit", v]))
          exact ⟨_, _, rfl, eq_errs ["InvalidLimit", "InvalidLimit", "InvalidTimes"] (kz _ _ hQ3.hB.ins) ((hv.same s3).same kz) dft (kz _ _ hD) (lq_paired_mono (fun p (r : Str × V) e => kz _ _ e) hps) upd_same (.cons ⟨p1, rfl, j1⟩ (.cons ⟨p1, rfl, j1⟩ (.cons ⟨p4, rfl, (k5.trans k6) _ _ upd_same⟩ .nil))) (by decide +kernel) (by show 3 ≤ 1000; decide), fun H' s' => ⟨_, rfl, iteFq rfl ⟨_, _, eG.trans (ext_same (s3.trans (kz.trans s'))), hQ3.t.ext (kz.trans s'), rfl⟩⟩⟩
      · obtain ⟨y3, y5, e, t, rfl⟩ := hq
        exact ⟨y3, y5, hQ0.ext e t, rfl⟩
    clear hQ
    obtain ⟨y3, y5, hQ, rfl⟩ := hM
    -- nothing has changed
    have tl : tls B.st ++ wls B.st = [SX.S lb] := by rw [hQ.st]; rfl
    refine ⟨_, rfl, b, B.dx, _, rfl, hQ.hB.ins, rfl, b, b, [pw], B, false, rfl, hQ.hB, by rw [hQ.st]; show 1 ≤ 60; decide, fun r1 ms G1 k1 m1 hr1 pm _ => ?_⟩
    rw [tl] at pm
    obtain rfl : ms = [SX.S lb] := List.perm_singleton.mp pm
    have h1 := hQ.same k1
    refine ⟨_, rfl, b, B.dx, _, rfl, h1.hB.ins, rfl, b, b, [pw], B, false, rfl, h1.hB, fun r2 m2 => ?_⟩
    have k2 := same_upd (o := .tup [.int (B.past.length : Nat), .int (B.coming.length : Nat)]) m2
    have h2 := h1.same k2
    refine ⟨_, rfl, b, B.dx, _, rfl, h2.hB.ins, b, b, [pw], B, false, rfl, h2.hB, ?_⟩
    refine ⟨_, rfl, x, dx, _, rfl, h2.hY.ins, rfl, x, dx, lo, la, _, rfl, h2.hY, fun r3 m3 => ?_⟩
    have k3 := same_upd (o := .lst [V.ref cw, .ref cw]) m3
    refine ⟨small_line (by show 4 ≤ 1000; decide), fun r4 m4 => ?_⟩
    have k4 := same_upd (o := .lst [V.ref r1, .ref r2, .int B.room, .ref r3]) m4
    refine ⟨_, rfl, one_line, fun r5 m5 => ?_⟩
    have k5 := same_upd (o := .lst [vS lb]) m5
    refine ⟨two_line, fun r6 m6 => ?_⟩
    have k6 := same_upd (o := .tup [V.int 1, .int 0]) m6
    refine ⟨_, rfl, _, rfl, two_line, fun r7 m7 => ?_⟩
    have k7 := same_upd (o := .lst [V.ref cw, .ref cw]) m7
    refine ⟨small_line (by show 4 ≤ 1000; decide), fun r8 m8 => ?_⟩
    have k8 := same_upd (o := .lst [V.ref r5, .ref r6, .int 20, .ref r7]) m8
    have c7 := k7.trans k8
    have c6 := k6.trans c7
    have c5 := k5.trans c6
    have c4 := k4.trans c5
    have c3 := k3.trans c4
    have hZ := h2.same c3
    have i1 : ∀ {H : Hp}, Dt b H (.int (B.past.length : Nat)) (.int 1) := by
      rw [hQ.past]
      exact .int 1 (by decide +kernel)
    have i0 : ∀ {H : Hp}, Dt b H (.int (B.coming.length : Nat)) (.int 0) := by
      rw [hQ.com]
      exact .int 0 (by decide +kernel)
    have wd : Dt b _ (.ref cw) (.tuple [wt, wg]) := .tup hZ.wm (.cons hZ.w1 (.cons hZ.w2 .nil))
    have we := eqd_dt 4 gw.ft wd wd
    refine ⟨_, _, rfl, eqd_row (n := 6) (c5 _ _ upd_same) upd_same (by show 4 ≤ 1000; decide) (.cons (eqd_row (n := 5) ((k2.trans c3) _ _ hr1) (c6 _ _ upd_same) (by show 1 ≤ 1000; decide) (.cons (eqd_s _) .nil)) (.cons ?_ (.cons (eqd_ie hQ.room) (.cons (eqd_row (n := 5) (c4 _ _ upd_same) (k8 _ _ upd_same) (by show 2 ≤ 1000; decide) (.cons we.up (.cons we.up .nil))) .nil)))), fun H' s' => q _⟩
    exact (eqd_dt 5 (z := b) (d := .tuple [.int 1, .int 0]) rfl (.tup (c3 _ _ upd_same) (.cons i1 (.cons i0 .nil))) (.tup (c7 _ _ upd_same) (.cons (.int 1 (by decide +kernel)) (.cons (.int 0 (by decide +kernel)) .nil)))).up
end
set_option maxHeartbeats 0 in
theorem all_hk {w : World} {K : PySem.W.Frag} {h : Heap} {mg : Str → Option Value} {fl : Addr} (cz : SaysZ hA hFn hE hT w h K) (G : h.Ns mainGlobals mg) (hfa : mg "law" = some (.ref fl)) :
    LamX.LawAtS PySem.Challenge.rw_tiespan_k77_values_of_other_kinds w K CX0 21 63 "_law_script" mg fl h := by
  have c := cz.c
  have KX := c.kin
  have e := hfa.symm.trans (He.glo_ok KX G (c.fact 40 (f := .glo "law") rfl))
  cases e
  obtain ⟨fd25, D25⟩ := c.get 0 (d := hd25) rfl
  have F25 : Fun K "is_whole" "is_whole" s_p_is_whole (He.ga K "is_whole") fd25 := fun_of D25
  obtain ⟨fd27, D27⟩ := c.get 1 (d := hd27) rfl
  have F27 : Fun K "common_divisor" "common_divisor" s_p_common_divisor (He.ga K "common_divisor") fd27 := fun_of D27
  obtain ⟨fd29, D29⟩ := c.get 2 (d := hd29) rfl
  have F29 : Fun K "is_ratio" "is_ratio" s_p_is_ratio (He.ga K "is_ratio") fd29 := fun_of D29
  obtain ⟨fd93, D93⟩ := c.get 3 (d := hd93) rfl
  have F93 : Fun K "is_name" "is_name" s_p_is_name (He.ga K "is_name") fd93 := fun_of D93
  obtain ⟨fd94, D94⟩ := c.get 4 (d := hd94) rfl
  have F94 : Fun K "is_term" "is_term" s_p_is_term (He.ga K "is_term") fd94 := fun_of D94
  obtain ⟨fd95, D95⟩ := c.get 5 (d := hd95) rfl
  have F95 : Fun K "are_terms" "are_terms" s_p_are_terms (He.ga K "are_terms") fd95 := fun_of D95
  obtain ⟨fd96, D96⟩ := c.get 6 (d := hd96) rfl
  have F96 : Fun K "is_tie" "is_tie" s_p_is_tie (He.ga K "is_tie") fd96 := fun_of D96
  obtain ⟨fd97, D97⟩ := c.get 7 (d := hd97) rfl
  have F97 : Fun K "names_in" "names_in" s_p_names_in (He.ga K "names_in") fd97 := fun_of D97
  obtain ⟨fd117, D117⟩ := c.get 8 (d := hd117) rfl
  have F117 : Fun K "ascending" "ascending" s_p_ascending (He.ga K "ascending") fd117 := fun_of D117
  obtain ⟨fd118, D118⟩ := c.get 9 (d := hd118) rfl
  have F118 : Fun K "pairs_of" "pairs_of" s_p_pairs_of (He.ga K "pairs_of") fd118 := fun_of D118
  obtain ⟨fd145, D145⟩ := c.get 10 (d := hd145) rfl
  have F145 : Fun K "first_wrong_name" "first_wrong_name" s_p_first_wrong_name (He.ga K "first_wrong_name") fd145 := fun_of D145
  obtain ⟨fd146, D146⟩ := c.get 11 (d := hd146) rfl
  have F146 : Fun K "first_wrong_tie" "first_wrong_tie" s_p_first_wrong_tie (He.ga K "first_wrong_tie") fd146 := fun_of D146
  obtain ⟨fd150, D150⟩ := c.get 12 (d := hd150) rfl
  have F150 : Fun K "is_wish" "is_wish" s_p_is_wish (He.ga K "is_wish") fd150 := fun_of D150
  obtain ⟨fd151, D151⟩ := c.get 13 (d := hd151) rfl
  have F151 : Fun K "check_wishes" "check_wishes" s_p_check_wishes (He.ga K "check_wishes") fd151 := fun_of D151
  obtain ⟨fd158, D158⟩ := c.get 14 (d := hd158) rfl
  have F158 : Fun K "check_commands" "check_commands" s_p_check_commands (He.ga K "check_commands") fd158 := fun_of D158
  obtain ⟨fd159, D159⟩ := c.get 15 (d := hd159) rfl
  have F159 : Fun K "is_label" "is_label" s_p_is_label (He.ga K "is_label") fd159 := fun_of D159
  obtain ⟨fd160, D160⟩ := c.get 16 (d := hd160) rfl
  have F160 : Fun K "tie_labels" "tie_labels" s_p_tie_labels (He.ga K "tie_labels") fd160 := fun_of D160
  obtain ⟨fd161, D161⟩ := c.get 17 (d := hd161) rfl
  have F161 : Fun K "wish_labels" "wish_labels" s_p_wish_labels (He.ga K "wish_labels") fd161 := fun_of D161
  obtain ⟨fd162, D162⟩ := c.get 18 (d := hd162) rfl
  have F162 : Fun K "check_new_label" "check_new_label" s_p_check_new_label (He.ga K "check_new_label") fd162 := fun_of D162
  obtain ⟨fd163, D163⟩ := c.get 19 (d := hd163) rfl
  have F163 : Fun K "with_tie" "with_tie" s_p_with_tie (He.ga K "with_tie") fd163 := fun_of D163
  obtain ⟨fd164, D164⟩ := c.get 20 (d := hd164) rfl
  have F164 : Fun K "with_wish" "with_wish" s_p_with_wish (He.ga K "with_wish") fd164 := fun_of D164
  obtain ⟨fd165, D165⟩ := c.get 21 (d := hd165) rfl
  have F165 : Fun K "with_first" "with_first" s_p_with_first (He.ga K "with_first") fd165 := fun_of D165
  obtain ⟨fd166, D166⟩ := c.get 22 (d := hd166) rfl
  have F166 : Fun K "dropped" "dropped" s_p_dropped (He.ga K "dropped") fd166 := fun_of D166
  obtain ⟨fd167, D167⟩ := c.get 23 (d := hd167) rfl
  have F167 : Fun K "carried_out" "carried_out" s_p_carried_out (He.ga K "carried_out") fd167 := fun_of D167
  obtain ⟨fd169, D169⟩ := c.get 24 (d := hd169) rfl
  have F169 : Fun K "lot_of" "lot_of" s_p_lot_of (He.ga K "lot_of") fd169 := fun_of D169
  obtain ⟨fd174, D174⟩ := c.get 25 (d := hd174) rfl
  have F174 : Fun K "primed" "primed" s_p_primed (He.ga K "primed") fd174 := fun_of D174
  obtain ⟨fd181, D181⟩ := c.get 26 (d := hd181) rfl
  have F181 : Fun K "_law_feed" "_law_feed" s_feed (He.ga K "_law_feed") fd181 := fun_of D181
  obtain ⟨fd182, D182⟩ := c.get 27 (d := hd182) rfl
  have F182 : Fun K "_law_draw" "_law_draw" s_draw (He.ga K "_law_draw") fd182 := fun_of D182
  obtain ⟨fd183, D183⟩ := c.get 28 (d := hd183) rfl
  have F183 : Fun K "_law_any" "_law_any" s_any (He.ga K "_law_any") fd183 := fun_of D183
  obtain ⟨fd184, D184⟩ := c.get 29 (d := hd184) rfl
  have F184 : Fun K "_law_same" "_law_same" s_same (He.ga K "_law_same") fd184 := fun_of D184
  obtain ⟨fd185, D185⟩ := c.get 30 (d := hd185) rfl
  have F185 : Fun K "_law_field" "_law_field" s_field (He.ga K "_law_field") fd185 := fun_of D185
  obtain ⟨fd186, D186⟩ := c.get 31 (d := hd186) rfl
  have F186 : Fun K "_law_why" "_law_why" s_why (He.ga K "_law_why") fd186 := fun_of D186
  obtain ⟨fd187, D187⟩ := c.get 32 (d := hd187) rfl
  have F187 : Fun K "_law_errors" "_law_errors" s_errors (He.ga K "_law_errors") fd187 := fun_of D187
  obtain ⟨fd188, D188⟩ := c.get 33 (d := hd188) rfl
  have F188 : Fun K "_law_gcd" "_law_gcd" s_gcd (He.ga K "_law_gcd") fd188 := fun_of D188
  obtain ⟨fd189, D189⟩ := c.get 34 (d := hd189) rfl
  have F189 : Fun K "_law_low" "_law_low" s_low (He.ga K "_law_low") fd189 := fun_of D189
  obtain ⟨fd190, D190⟩ := c.get 35 (d := hd190) rfl
  have F190 : Fun K "_law_part" "_law_part" s_part (He.ga K "_law_part") fd190 := fun_of D190
  obtain ⟨fd191, D191⟩ := c.get 36 (d := hd191) rfl
  have F191 : Fun K "_law_rate" "_law_rate" s_rate (He.ga K "_law_rate") fd191 := fun_of D191
  obtain ⟨fd192, D192⟩ := c.get 37 (d := hd192) rfl
  have F192 : Fun K "_law_words" "_law_words" s_words (He.ga K "_law_words") fd192 := fun_of D192
  obtain ⟨fd193, D193⟩ := c.get 38 (d := hd193) rfl
  have F193 : Fun K "_law_terms" "_law_terms" s_terms (He.ga K "_law_terms") fd193 := fun_of D193
  obtain ⟨fd194, D194⟩ := c.get 39 (d := hd194) rfl
  have F194 : Fun K "_law_labels" "_law_labels" s_labels (He.ga K "_law_labels") fd194 := fun_of D194
  obtain ⟨fd195, D195⟩ := c.get 40 (d := hd195) rfl
  have F195 : Fun K "law" "law" s_p_law (He.ga K "law") fd195 := fun_of D195
  obtain ⟨fd1004, D1004⟩ := c.get 41 (d := hd1004) rfl
  have F1004 : Fun K "__init__" "InvalidName.__init__" (inClass (topS 4) 0) (He.ma K (He.ga K "InvalidName") "__init__") fd1004 := fun_of D1004
  obtain ⟨fd1005, D1005⟩ := c.get 42 (d := hd1005) rfl
  have F1005 : Fun K "__init__" "InvalidTie.__init__" (inClass (topS 5) 0) (He.ma K (He.ga K "InvalidTie") "__init__") fd1005 := fun_of D1005
  obtain ⟨fd1008, D1008⟩ := c.get 43 (d := hd1008) rfl
  have F1008 : Fun K "__init__" "InvalidLimit.__init__" (inClass (topS 8) 0) (He.ma K (He.ga K "InvalidLimit") "__init__") fd1008 := fun_of D1008
  obtain ⟨fd1009, D1009⟩ := c.get 44 (d := hd1009) rfl
  have F1009 : Fun K "__init__" "InvalidCommand.__init__" (inClass (topS 9) 0) (He.ma K (He.ga K "InvalidCommand") "__init__") fd1009 := fun_of D1009
  obtain ⟨fd1014, D1014⟩ := c.get 45 (d := hd1014) rfl
  have F1014 : Fun K "__init__" "DuplicateLabel.__init__" (inClass (topS 14) 0) (He.ma K (He.ga K "DuplicateLabel") "__init__") fd1014 := fun_of D1014
  obtain ⟨fd1015, D1015⟩ := c.get 46 (d := hd1015) rfl
  have F1015 : Fun K "__init__" "CapacityExceeded.__init__" (inClass (topS 15) 0) (He.ma K (He.ga K "CapacityExceeded") "__init__") fd1015 := fun_of D1015
  obtain ⟨fd1006, D1006⟩ := c.get 47 (d := hd1006) rfl
  have F1006 : Fun K "__init__" "InvalidWish.__init__" (inClass (topS 6) 0) (He.ma K (He.ga K "InvalidWish") "__init__") fd1006 := fun_of D1006
  obtain ⟨fd1007, D1007⟩ := c.get 48 (d := hd1007) rfl
  have F1007 : Fun K "__init__" "InvalidTimes.__init__" (inClass (topS 7) 0) (He.ma K (He.ga K "InvalidTimes") "__init__") fd1007 := fun_of D1007
  obtain ⟨fd1500, D1500⟩ := c.get 49 (d := hd1500) rfl
  have F1500 : FunD K "__init__" "Lot.__init__" (defArgs s_p_LotInit) (defBody s_p_LotInit) (defScope s_p_LotInit) [V.ref (He.dflAt ("Lot", some "__init__") 0 K)] [] (He.ma K (He.ga K "Lot") "__init__") fd1500 := D1500
  obtain ⟨fd1510, D1510⟩ := c.get 50 (d := hd1510) rfl
  have F1510 : Fun K "names" "Lot.names" s_p_LotNames (He.ma K (He.ga K "Lot") "names") fd1510 := fun_of D1510
  obtain ⟨fd1511, D1511⟩ := c.get 51 (d := hd1511) rfl
  have F1511 : Fun K "ties" "Lot.ties" s_p_LotTies (He.ma K (He.ga K "Lot") "ties") fd1511 := fun_of D1511
  obtain ⟨fd1700, D1700⟩ := c.get 52 (d := hd1700) rfl
  have F1700 : Fun K "__init__" "Board.__init__" s_p_BoardInit (He.ma K (He.ga K "Board") "__init__") fd1700 := fun_of D1700
  obtain ⟨fd1710, D1710⟩ := c.get 53 (d := hd1710) rfl
  have F1710 : Fun K "limit" "Board.limit" s_p_BoardLimit (prG "Board" "limit" K) fd1710 := fun_of D1710
  obtain ⟨fd1711, D1711⟩ := c.get 54 (d := hd1711) rfl
  have F1711 : Fun K "limit" "Board.limit" s_p_BoardSetLimit (prS "Board" "limit" K) fd1711 := fun_of D1711
  obtain ⟨fd1712, D1712⟩ := c.get 55 (d := hd1712) rfl
  have F1712 : Fun K "change_limit" "Board.change_limit" s_p_BoardChange (He.ma K (He.ga K "Board") "change_limit") fd1712 := fun_of D1712
  obtain ⟨fd1713, D1713⟩ := c.get 56 (d := hd1713) rfl
  have F1713 : Fun K "busy" "Board.busy" s_p_BoardBusy (prG "Board" "busy" K) fd1713 := fun_of D1713
  obtain ⟨fd1714, D1714⟩ := c.get 57 (d := hd1714) rfl
  have F1714 : Fun K "turn_to" "Board.turn_to" s_p_BoardTurn (He.ma K (He.ga K "Board") "turn_to") fd1714 := fun_of D1714
  obtain ⟨fd1715, D1715⟩ := c.get 58 (d := hd1715) rfl
  have F1715 : Fun K "carry_out" "Board.carry_out" s_p_BoardCarry (He.ma K (He.ga K "Board") "carry_out") fd1715 := fun_of D1715
  obtain ⟨fd1716, D1716⟩ := c.get 59 (d := hd1716) rfl
  have F1716 : Fun K "apply" "Board.apply" s_p_BoardApply (He.ma K (He.ga K "Board") "apply") fd1716 := fun_of D1716
  obtain ⟨fd1719, D1719⟩ := c.get 60 (d := hd1719) rfl
  have F1719 : Fun K "history" "Board.history" s_p_BoardHistory (He.ma K (He.ga K "Board") "history") fd1719 := fun_of D1719
  obtain ⟨fd1723, D1723⟩ := c.get 61 (d := hd1723) rfl
  have F1723 : Fun K "__len__" "Board.__len__" s_p_BoardLen (He.ma K (He.ga K "Board") "__len__") fd1723 := fun_of D1723
  obtain ⟨fd1725, D1725⟩ := c.get 62 (d := hd1725) rfl
  have F1725 : Fun K "labels" "Board.labels" s_p_BoardLabels (He.ma K (He.ga K "Board") "labels") fd1725 := fun_of D1725
  obtain ⟨fd1726, D1726⟩ := c.get 63 (d := hd1726) rfl
  have F1726 : Fun K "tie" "Board.tie" s_p_BoardTie (He.ma K (He.ga K "Board") "tie") fd1726 := fun_of D1726
  obtain ⟨fd1600, D1600⟩ := c.get 64 (d := hd1600) rfl
  have F1600 : FunD K "__init__" "Step.__init__" (defArgs s_p_StepInit) (defBody s_p_StepInit) (defScope s_p_StepInit) [V.ref (He.dflAt ("Step", some "__init__") 0 K)] [] (He.ma K (He.ga K "Step") "__init__") fd1600 := D1600
  obtain ⟨fd1611, D1611⟩ := c.get 65 (d := hd1611) rfl
  have F1611 : Fun K "repeated" "Step.repeated" s_p_StepRepeated (He.ma K (He.ga K "Step") "repeated") fd1611 := fun_of D1611
  obtain ⟨fd1800, D1800⟩ := c.get 66 (d := hd1800) rfl
  have F1800 : Fun K "__init__" "Layout.__init__" s_p_LayInit (He.ma K (He.ga K "Layout") "__init__") fd1800 := fun_of D1800
  obtain ⟨fd1810, D1810⟩ := c.get 67 (d := hd1810) rfl
  have F1810 : Fun K "present" "Layout.present" s_p_LayPresent (He.ma K (He.ga K "Layout") "present") fd1810 := fun_of D1810
  obtain ⟨fd1811, D1811⟩ := c.get 68 (d := hd1811) rfl
  have F1811 : Fun K "drop" "Layout.drop" s_p_LayDrop (He.ma K (He.ga K "Layout") "drop") fd1811 := fun_of D1811
  obtain ⟨fd1812, D1812⟩ := c.get 69 (d := hd1812) rfl
  have F1812 : Fun K "move" "Layout.move" s_p_LayMove (He.ma K (He.ga K "Layout") "move") fd1812 := fun_of D1812
  obtain ⟨fd1813, D1813⟩ := c.get 70 (d := hd1813) rfl
  have F1813 : Fun K "wishes" "Layout.wishes" s_p_LayWishes (He.ma K (He.ga K "Layout") "wishes") fd1813 := fun_of D1813
  obtain ⟨fd1017, D1017⟩ := c.get 71 (d := hd1017) rfl
  have F1017 : Fun K "__init__" "UnknownName.__init__" (inClass (topS 17) 0) (He.ma K (He.ga K "UnknownName") "__init__") fd1017 := fun_of D1017
  obtain ⟨fd1018, D1018⟩ := c.get 72 (d := hd1018) rfl
  have F1018 : Fun K "__init__" "UnknownLabel.__init__" (inClass (topS 18) 0) (He.ma K (He.ga K "UnknownLabel") "__init__") fd1018 := fun_of D1018
  have FC : FunC K "law" s_p_law (He.ga K "law") fd195 (He.cT K lawD).1 := funC_of D195
  have E4 : ErrC K mg "InvalidName" (He.ga K "InvalidName") (He.ga K "TieError") (He.ga K "Missing") (He.ma K (He.ga K "InvalidName") "__init__") := errB_ok KX G (c.own 0 (b := errB "InvalidName") rfl)
  have E5 : ErrC K mg "InvalidTie" (He.ga K "InvalidTie") (He.ga K "TieError") (He.ga K "Missing") (He.ma K (He.ga K "InvalidTie") "__init__") := errB_ok KX G (c.own 1 (b := errB "InvalidTie") rfl)
  have E8 : ErrC K mg "InvalidLimit" (He.ga K "InvalidLimit") (He.ga K "TieError") (He.ga K "Missing") (He.ma K (He.ga K "InvalidLimit") "__init__") := errB_ok KX G (c.own 2 (b := errB "InvalidLimit") rfl)
  have E9 : ErrC K mg "InvalidCommand" (He.ga K "InvalidCommand") (He.ga K "TieError") (He.ga K "Missing") (He.ma K (He.ga K "InvalidCommand") "__init__") := errB_ok KX G (c.own 3 (b := errB "InvalidCommand") rfl)
  have E14 : ErrC K mg "DuplicateLabel" (He.ga K "DuplicateLabel") (He.ga K "TieError") (He.ga K "Missing") (He.ma K (He.ga K "DuplicateLabel") "__init__") := errB_ok KX G (c.own 4 (b := errB "DuplicateLabel") rfl)
  have E15 : ErrC K mg "CapacityExceeded" (He.ga K "CapacityExceeded") (He.ga K "TieError") (He.ga K "Missing") (He.ma K (He.ga K "CapacityExceeded") "__init__") := errB_ok KX G (c.own 5 (b := errB "CapacityExceeded") rfl)
  have E6 : ErrC K mg "InvalidWish" (He.ga K "InvalidWish") (He.ga K "TieError") (He.ga K "Missing") (He.ma K (He.ga K "InvalidWish") "__init__") := errB_ok KX G (c.own 6 (b := errB "InvalidWish") rfl)
  have E7 : ErrC K mg "InvalidTimes" (He.ga K "InvalidTimes") (He.ga K "TieError") (He.ga K "Missing") (He.ma K (He.ga K "InvalidTimes") "__init__") := errB_ok KX G (c.own 7 (b := errB "InvalidTimes") rfl)
  have Bn1500 : Binds K (fd1500) ["self", "names", "ties"] [] := by
    obtain ⟨ds, v, b⟩ := F1500.binds1 (ps := ["self", "names", "ties"]) 3 1 (by simp) rfl fun T kV doc pm an cdv ct us its h1 h2 => match us, its, h1, h2 with | [_, _, _], [_], _, _ => ⟨_, rfl, rfl⟩
    cases v
    exact b
  have Bd1500 := F1500.binds1 (ps := ["self", "names", "ties"]) 2 0 (by simp) rfl fun T kV doc pm an cdv ct us its h1 h2 => match us, its, h1, h2 with | [_, _], [_], _, _ => ⟨_, rfl, rfl⟩
  have FK1700 : FunD K "__init__" "Board.__init__" (defArgs s_p_BoardInit) (defBody s_p_BoardInit) (defScope s_p_BoardInit) [] [("limit", V.int 20)] (He.ma K (He.ga K "Board") "__init__") fd1700 := kw_of (f := fun K => He.ma K (He.ga K "Board") "__init__") D1700 (c.own 11 (b := kwB (fun K => He.ma K (He.ga K "Board") "__init__") "limit" 20) rfl)
  have Bd1700 : ∃ ds, Vals [V.int 20] ds ∧ Binds K fd1700 ["self", "names", "limit"] ds := FK1700.binds0 2 (by simp) rfl fun D doc pm an cdv ct us ks h1 h2 => match us, ks, h1, h2 with | [_, _], [_], _, _ => ⟨_, _, _, _, _, _, rfl, rfl, rfl⟩
  have KB1700 : KBn K fd1700 ["self", "names", "limit"] 2 ["limit"] (fun us ws => us ++ ws) (fun vs zs => vs ++ zs) := by
    obtain ⟨mv, q⟩ := FK1700.kbinds0 (ps := ["self", "names", "limit"]) 2 ["limit"] [] (fun us _ ws => us ++ ws) (by simp) (fun q hq => by cases hq) (fun a _ b => a.append b) fun D doc pm an cdv ct us mv ws h1 h2 h3 => match us, mv, ws, h1, h2, h3 with | [_, _], [], [_], _, _, _ => rfl
    exact q
  have Bn1600 : Binds K (fd1600) ["self", "names", "ties"] [] := by
    obtain ⟨ds, v, b⟩ := F1600.binds1 (ps := ["self", "names", "ties"]) 3 1 (by simp) rfl fun T kV doc pm an cdv ct us its h1 h2 => match us, its, h1, h2 with | [_, _, _], [_], _, _ => ⟨_, rfl, rfl⟩
    cases v
    exact b
  have Bd1600 := F1600.binds1 (ps := ["self", "names", "ties"]) 2 0 (by simp) rfl fun T kV doc pm an cdv ct us its h1 h2 => match us, its, h1, h2 with | [_, _], [_], _, _ => ⟨_, rfl, rfl⟩
  have FK1812 : FunD K "move" "Layout.move" (defArgs s_p_LayMove) (defBody s_p_LayMove) (defScope s_p_LayMove) [] [("to", V.int 0)] (He.ma K (He.ga K "Layout") "move") fd1812 := kw_of (f := fun K => He.ma K (He.ga K "Layout") "move") D1812 (c.own 18 (b := kwB (fun K => He.ma K (He.ga K "Layout") "move") "to" 0) rfl)
  have Bd1812 : ∃ ds, Vals [V.int 0] ds ∧ Binds K fd1812 ["self", "at", "to"] ds := FK1812.binds0 2 (by simp) rfl fun D doc pm an cdv ct us ks h1 h2 => match us, ks, h1, h2 with | [_, _], [_], _, _ => ⟨_, _, _, _, _, _, rfl, rfl, rfl⟩
  have KB1812 : KBn K fd1812 ["self", "at", "to"] 2 ["to"] (fun us ws => us ++ ws) (fun vs zs => vs ++ zs) := by
    obtain ⟨mv, q⟩ := FK1812.kbinds0 (ps := ["self", "at", "to"]) 2 ["to"] [] (fun us _ ws => us ++ ws) (by simp) (fun q hq => by cases hq) (fun a _ b => a.append b) fun D doc pm an cdv ct us mv ws h1 h2 h3 => match us, mv, ws, h1, h2, h3 with | [_, _], [], [_], _, _, _ => rfl
    exact q
  have EG17 := ercB_ok KX G (c.own 19 (b := ercB "UnknownName") rfl)
  have EG18 := ercB_ok KX G (c.own 20 (b := ercB "UnknownLabel") rfl)
  have T : Txt K mg (fun i => match i with
      | 25 => He.ga K "is_whole"
      | 27 => He.ga K "common_divisor"
      | 29 => He.ga K "is_ratio"
      | 93 => He.ga K "is_name"
      | 94 => He.ga K "is_term"
      | 95 => He.ga K "are_terms"
      | 96 => He.ga K "is_tie"
      | 97 => He.ga K "names_in"
      | 117 => He.ga K "ascending"
      | 118 => He.ga K "pairs_of"
      | 145 => He.ga K "first_wrong_name"
      | 146 => He.ga K "first_wrong_tie"
      | 150 => He.ga K "is_wish"
      | 151 => He.ga K "check_wishes"
      | 158 => He.ga K "check_commands"
      | 159 => He.ga K "is_label"
      | 160 => He.ga K "tie_labels"
      | 161 => He.ga K "wish_labels"
      | 162 => He.ga K "check_new_label"
      | 163 => He.ga K "with_tie"
      | 164 => He.ga K "with_wish"
      | 165 => He.ga K "with_first"
      | 166 => He.ga K "dropped"
      | 167 => He.ga K "carried_out"
      | 169 => He.ga K "lot_of"
      | 174 => He.ga K "primed"
      | 181 => He.ga K "_law_feed"
      | 182 => He.ga K "_law_draw"
      | 183 => He.ga K "_law_any"
      | 184 => He.ga K "_law_same"
      | 185 => He.ga K "_law_field"
      | 186 => He.ga K "_law_why"
      | 187 => He.ga K "_law_errors"
      | 188 => He.ga K "_law_gcd"
      | 189 => He.ga K "_law_low"
      | 190 => He.ga K "_law_part"
      | 191 => He.ga K "_law_rate"
      | 192 => He.ga K "_law_words"
      | 193 => He.ga K "_law_terms"
      | 194 => He.ga K "_law_labels"
      | 195 => He.ga K "law"
      | 2 => He.ga K "TieError"
      | 16 => He.ga K "Missing"
      | 4 => He.ga K "InvalidName"
      | 1004 => He.ma K (He.ga K "InvalidName") "__init__"
      | 5 => He.ga K "InvalidTie"
      | 1005 => He.ma K (He.ga K "InvalidTie") "__init__"
      | 8 => He.ga K "InvalidLimit"
      | 1008 => He.ma K (He.ga K "InvalidLimit") "__init__"
      | 9 => He.ga K "InvalidCommand"
      | 1009 => He.ma K (He.ga K "InvalidCommand") "__init__"
      | 14 => He.ga K "DuplicateLabel"
      | 1014 => He.ma K (He.ga K "DuplicateLabel") "__init__"
      | 15 => He.ga K "CapacityExceeded"
      | 1015 => He.ma K (He.ga K "CapacityExceeded") "__init__"
      | 6 => He.ga K "InvalidWish"
      | 1006 => He.ma K (He.ga K "InvalidWish") "__init__"
      | 7 => He.ga K "InvalidTimes"
      | 1007 => He.ma K (He.ga K "InvalidTimes") "__init__"
      | 148 => He.ga K "Lot"
      | 1500 => He.ma K (He.ga K "Lot") "__init__"
      | 1502 => He.dflAt ("Lot", some "__init__") 0 K
      | 1510 => He.ma K (He.ga K "Lot") "names"
      | 1511 => He.ma K (He.ga K "Lot") "ties"
      | 171 => He.ga K "Board"
      | 1700 => He.ma K (He.ga K "Board") "__init__"
      | 1710 => prG "Board" "limit" K
      | 1711 => prS "Board" "limit" K
      | 1712 => He.ma K (He.ga K "Board") "change_limit"
      | 1713 => prG "Board" "busy" K
      | 1714 => He.ma K (He.ga K "Board") "turn_to"
      | 1715 => He.ma K (He.ga K "Board") "carry_out"
      | 1716 => He.ma K (He.ga K "Board") "apply"
      | 1719 => He.ma K (He.ga K "Board") "history"
      | 1723 => He.ma K (He.ga K "Board") "__len__"
      | 1725 => He.ma K (He.ga K "Board") "labels"
      | 1726 => He.ma K (He.ga K "Board") "tie"
      | 179 => He.ga K "Step"
      | 1600 => He.ma K (He.ga K "Step") "__init__"
      | 1602 => He.dflAt ("Step", some "__init__") 0 K
      | 1611 => He.ma K (He.ga K "Step") "repeated"
      | 154 => He.ga K "Layout"
      | 1800 => He.ma K (He.ga K "Layout") "__init__"
      | 1810 => He.ma K (He.ga K "Layout") "present"
      | 1811 => He.ma K (He.ga K "Layout") "drop"
      | 1812 => He.ma K (He.ga K "Layout") "move"
      | 1813 => He.ma K (He.ga K "Layout") "wishes"
      | 17 => He.ga K "UnknownName"
      | 1017 => He.ma K (He.ga K "UnknownName") "__init__"
      | 18 => He.ga K "UnknownLabel"
      | 1018 => He.ma K (He.ga K "UnknownLabel") "__init__"
      | 2100 => He.ga K "LENGTHS"
      | _ => He.ga K "law") (fun i => match i with
      | 25 => fd25
      | 27 => fd27
      | 29 => fd29
      | 93 => fd93
      | 94 => fd94
      | 95 => fd95
      | 96 => fd96
      | 97 => fd97
      | 117 => fd117
      | 118 => fd118
      | 145 => fd145
      | 146 => fd146
      | 150 => fd150
      | 151 => fd151
      | 158 => fd158
      | 159 => fd159
      | 160 => fd160
      | 161 => fd161
      | 162 => fd162
      | 163 => fd163
      | 164 => fd164
      | 165 => fd165
      | 166 => fd166
      | 167 => fd167
      | 169 => fd169
      | 174 => fd174
      | 181 => fd181
      | 182 => fd182
      | 183 => fd183
      | 184 => fd184
      | 185 => fd185
      | 186 => fd186
      | 187 => fd187
      | 188 => fd188
      | 189 => fd189
      | 190 => fd190
      | 191 => fd191
      | 192 => fd192
      | 193 => fd193
      | 194 => fd194
      | 195 => fd195
      | 1004 => fd1004
      | 1005 => fd1005
      | 1008 => fd1008
      | 1009 => fd1009
      | 1014 => fd1014
      | 1015 => fd1015
      | 1006 => fd1006
      | 1007 => fd1007
      | 1500 => fd1500
      | 1510 => fd1510
      | 1511 => fd1511
      | 1700 => fd1700
      | 1710 => fd1710
      | 1711 => fd1711
      | 1712 => fd1712
      | 1713 => fd1713
      | 1714 => fd1714
      | 1715 => fd1715
      | 1716 => fd1716
      | 1719 => fd1719
      | 1723 => fd1723
      | 1725 => fd1725
      | 1726 => fd1726
      | 1600 => fd1600
      | 1611 => fd1611
      | 1800 => fd1800
      | 1810 => fd1810
      | 1811 => fd1811
      | 1812 => fd1812
      | 1813 => fd1813
      | 1017 => fd1017
      | 1018 => fd1018
      | _ => fd195) := {
    F_p_is_whole := F25, g_p_is_whole := He.glo_ok KX G (c.fact 0 (f := .glo "is_whole") rfl)
    b_p_is_whole := F25.binds (ps := ["thing"]) fun _ _ _ _ _ _ us hl => match us, hl with | [_], _ => rfl
    F_p_common_divisor := F27, g_p_common_divisor := He.glo_ok KX G (c.fact 1 (f := .glo "common_divisor") rfl)
    b_p_common_divisor := F27.binds (ps := ["one", "other"]) fun _ _ _ _ _ _ us hl => match us, hl with | [_, _], _ => rfl
    F_p_is_ratio := F29, g_p_is_ratio := He.glo_ok KX G (c.fact 2 (f := .glo "is_ratio") rfl)
    b_p_is_ratio := F29.binds (ps := ["thing"]) fun _ _ _ _ _ _ us hl => match us, hl with | [_], _ => rfl
    F_p_is_name := F93, g_p_is_name := He.glo_ok KX G (c.fact 3 (f := .glo "is_name") rfl)
    b_p_is_name := F93.binds (ps := ["text"]) fun _ _ _ _ _ _ us hl => match us, hl with | [_], _ => rfl
    F_p_is_term := F94, g_p_is_term := He.glo_ok KX G (c.fact 4 (f := .glo "is_term") rfl)
    b_p_is_term := F94.binds (ps := ["thing"]) fun _ _ _ _ _ _ us hl => match us, hl with | [_], _ => rfl
    F_p_are_terms := F95, g_p_are_terms := He.glo_ok KX G (c.fact 5 (f := .glo "are_terms") rfl)
    b_p_are_terms := F95.binds (ps := ["thing"]) fun _ _ _ _ _ _ us hl => match us, hl with | [_], _ => rfl
    F_p_is_tie := F96, g_p_is_tie := He.glo_ok KX G (c.fact 6 (f := .glo "is_tie") rfl)
    b_p_is_tie := F96.binds (ps := ["thing"]) fun _ _ _ _ _ _ us hl => match us, hl with | [_], _ => rfl
    F_p_names_in := F97, g_p_names_in := He.glo_ok KX G (c.fact 7 (f := .glo "names_in") rfl)
    b_p_names_in := F97.binds (ps := ["tie"]) fun _ _ _ _ _ _ us hl => match us, hl with | [_], _ => rfl
    F_p_ascending := F117, g_p_ascending := He.glo_ok KX G (c.fact 8 (f := .glo "ascending") rfl)
    b_p_ascending := F117.binds (ps := ["names"]) fun _ _ _ _ _ _ us hl => match us, hl with | [_], _ => rfl
    F_p_pairs_of := F118, g_p_pairs_of := He.glo_ok KX G (c.fact 9 (f := .glo "pairs_of") rfl)
    b_p_pairs_of := F118.binds (ps := ["names"]) fun _ _ _ _ _ _ us hl => match us, hl with | [_], _ => rfl
    F_p_first_wrong_name := F145, g_p_first_wrong_name := He.glo_ok KX G (c.fact 10 (f := .glo "first_wrong_name") rfl)
    b_p_first_wrong_name := F145.binds (ps := ["names"]) fun _ _ _ _ _ _ us hl => match us, hl with | [_], _ => rfl
    F_p_first_wrong_tie := F146, g_p_first_wrong_tie := He.glo_ok KX G (c.fact 11 (f := .glo "first_wrong_tie") rfl)
    b_p_first_wrong_tie := F146.binds (ps := ["ties", "names"]) fun _ _ _ _ _ _ us hl => match us, hl with | [_, _], _ => rfl
    F_p_is_wish := F150, g_p_is_wish := He.glo_ok KX G (c.fact 12 (f := .glo "is_wish") rfl)
    b_p_is_wish := F150.binds (ps := ["thing", "names"]) fun _ _ _ _ _ _ us hl => match us, hl with | [_, _], _ => rfl
    F_p_check_wishes := F151, g_p_check_wishes := He.glo_ok KX G (c.fact 13 (f := .glo "check_wishes") rfl)
    b_p_check_wishes := F151.binds (ps := ["lot", "wishes"]) fun _ _ _ _ _ _ us hl => match us, hl with | [_, _], _ => rfl
    F_p_check_commands := F158, g_p_check_commands := He.glo_ok KX G (c.fact 14 (f := .glo "check_commands") rfl)
    b_p_check_commands := F158.binds (ps := ["commands"]) fun _ _ _ _ _ _ us hl => match us, hl with | [_], _ => rfl
    F_p_is_label := F159, g_p_is_label := He.glo_ok KX G (c.fact 15 (f := .glo "is_label") rfl)
    b_p_is_label := F159.binds (ps := ["thing"]) fun _ _ _ _ _ _ us hl => match us, hl with | [_], _ => rfl
    F_p_tie_labels := F160, g_p_tie_labels := He.glo_ok KX G (c.fact 16 (f := .glo "tie_labels") rfl)
    b_p_tie_labels := F160.binds (ps := ["state"]) fun _ _ _ _ _ _ us hl => match us, hl with | [_], _ => rfl
    F_p_wish_labels := F161, g_p_wish_labels := He.glo_ok KX G (c.fact 17 (f := .glo "wish_labels") rfl)
    b_p_wish_labels := F161.binds (ps := ["state"]) fun _ _ _ _ _ _ us hl => match us, hl with | [_], _ => rfl
    F_p_check_new_label := F162, g_p_check_new_label := He.glo_ok KX G (c.fact 18 (f := .glo "check_new_label") rfl)
    b_p_check_new_label := F162.binds (ps := ["state", "label"]) fun _ _ _ _ _ _ us hl => match us, hl with | [_, _], _ => rfl
    F_p_with_tie := F163, g_p_with_tie := He.glo_ok KX G (c.fact 19 (f := .glo "with_tie") rfl)
    b_p_with_tie := F163.binds (ps := ["state", "names", "limit", "label", "tie"]) fun _ _ _ _ _ _ us hl => match us, hl with | [_, _, _, _, _], _ => rfl
    F_p_with_wish := F164, g_p_with_wish := He.glo_ok KX G (c.fact 20 (f := .glo "with_wish") rfl)
    b_p_with_wish := F164.binds (ps := ["state", "names", "wish"]) fun _ _ _ _ _ _ us hl => match us, hl with | [_, _, _], _ => rfl
    F_p_with_first := F165, g_p_with_first := He.glo_ok KX G (c.fact 21 (f := .glo "with_first") rfl)
    b_p_with_first := F165.binds (ps := ["state", "label"]) fun _ _ _ _ _ _ us hl => match us, hl with | [_, _], _ => rfl
    F_p_dropped := F166, g_p_dropped := He.glo_ok KX G (c.fact 22 (f := .glo "dropped") rfl)
    b_p_dropped := F166.binds (ps := ["state", "label"]) fun _ _ _ _ _ _ us hl => match us, hl with | [_, _], _ => rfl
    F_p_carried_out := F167, g_p_carried_out := He.glo_ok KX G (c.fact 23 (f := .glo "carried_out") rfl)
    b_p_carried_out := F167.binds (ps := ["state", "names", "limit", "command"]) fun _ _ _ _ _ _ us hl => match us, hl with | [_, _, _, _], _ => rfl
    F_p_lot_of := F169, g_p_lot_of := He.glo_ok KX G (c.fact 24 (f := .glo "lot_of") rfl)
    b_p_lot_of := F169.binds (ps := ["names", "state"]) fun _ _ _ _ _ _ us hl => match us, hl with | [_, _], _ => rfl
    F_p_primed := F174, g_p_primed := He.glo_ok KX G (c.fact 25 (f := .glo "primed") rfl)
    b_p_primed := F174.binds (ps := ["names"]) fun _ _ _ _ _ _ us hl => match us, hl with | [_], _ => rfl
    F_feed := F181, g_feed := He.glo_ok KX G (c.fact 26 (f := .glo "_law_feed") rfl)
    b_feed := F181.binds (ps := ["_law_script"]) fun _ _ _ _ _ _ us hl => match us, hl with | [_], _ => rfl
    F_draw := F182, g_draw := He.glo_ok KX G (c.fact 27 (f := .glo "_law_draw") rfl)
    b_draw := F182.binds (ps := ["_law_feed_here", "_law_many"]) fun _ _ _ _ _ _ us hl => match us, hl with | [_, _], _ => rfl
    F_any := F183, g_any := He.glo_ok KX G (c.fact 28 (f := .glo "_law_any") rfl)
    b_any := F183.binds (ps := ["_law_feed_here", "_law_row"]) fun _ _ _ _ _ _ us hl => match us, hl with | [_, _], _ => rfl
    F_same := F184, g_same := He.glo_ok KX G (c.fact 29 (f := .glo "_law_same") rfl)
    b_same := F184.binds (ps := ["_law_found", "_law_due"]) fun _ _ _ _ _ _ us hl => match us, hl with | [_, _], _ => rfl
    F_field := F185, g_field := He.glo_ok KX G (c.fact 30 (f := .glo "_law_field") rfl)
    b_field := F185.binds (ps := ["_law_e"]) fun _ _ _ _ _ _ us hl => match us, hl with | [_], _ => rfl
    F_why := F186, g_why := He.glo_ok KX G (c.fact 31 (f := .glo "_law_why") rfl)
    b_why := F186.binds (ps := ["_law_ask"]) fun _ _ _ _ _ _ us hl => match us, hl with | [_], _ => rfl
    F_errors := F187, g_errors := He.glo_ok KX G (c.fact 32 (f := .glo "_law_errors") rfl)
    b_errors := F187.binds (ps := ["_law_asks"]) fun _ _ _ _ _ _ us hl => match us, hl with | [_], _ => rfl
    F_gcd := F188, g_gcd := He.glo_ok KX G (c.fact 33 (f := .glo "_law_gcd") rfl)
    b_gcd := F188.binds (ps := ["_law_one", "_law_two"]) fun _ _ _ _ _ _ us hl => match us, hl with | [_, _], _ => rfl
    F_low := F189, g_low := He.glo_ok KX G (c.fact 34 (f := .glo "_law_low") rfl)
    b_low := F189.binds (ps := ["_law_upper", "_law_lower"]) fun _ _ _ _ _ _ us hl => match us, hl with | [_, _], _ => rfl
    F_part := F190, g_part := He.glo_ok KX G (c.fact 35 (f := .glo "_law_part") rfl)
    b_part := F190.binds (ps := ["_law_feed_here", "_law_size"]) fun _ _ _ _ _ _ us hl => match us, hl with | [_, _], _ => rfl
    F_rate := F191, g_rate := He.glo_ok KX G (c.fact 36 (f := .glo "_law_rate") rfl)
    b_rate := F191.binds (ps := ["_law_feed_here"]) fun _ _ _ _ _ _ us hl => match us, hl with | [_], _ => rfl
    F_words := F192, g_words := He.glo_ok KX G (c.fact 37 (f := .glo "_law_words") rfl)
    b_words := F192.binds (ps := ["_law_feed_here", "_law_many"]) fun _ _ _ _ _ _ us hl => match us, hl with | [_, _], _ => rfl
    F_terms := F193, g_terms := He.glo_ok KX G (c.fact 38 (f := .glo "_law_terms") rfl)
    b_terms := F193.binds (ps := ["_law_feed_here", "_law_words_here", "_law_pairs"]) fun _ _ _ _ _ _ us hl => match us, hl with | [_, _, _], _ => rfl
    F_labels := F194, g_labels := He.glo_ok KX G (c.fact 39 (f := .glo "_law_labels") rfl)
    b_labels := F194.binds (ps := ["_law_feed_here"]) fun _ _ _ _ _ _ us hl => match us, hl with | [_], _ => rfl
    F_p_law := F195, g_p_law := He.glo_ok KX G (c.fact 40 (f := .glo "law") rfl)
    b_p_law := F195.binds (ps := ["_law_script"]) fun _ _ _ _ _ _ us hl => match us, hl with | [_], _ => rfl
    eInvalidName := E4, IInvalidName := F1004
    bIInvalidName := F1004.binds (ps := ["self", "name"]) fun _ _ _ _ _ _ us hl => match us, hl with | [_, _], _ => rfl
    nInvalidName_name := He.noat_ok (c.fact 43 (f := .noat "InvalidName" "name") rfl)
    eInvalidTie := E5, IInvalidTie := F1005
    bIInvalidTie := F1005.binds (ps := ["self", "at"]) fun _ _ _ _ _ _ us hl => match us, hl with | [_, _], _ => rfl
    nInvalidTie_at := He.noat_ok (c.fact 44 (f := .noat "InvalidTie" "at") rfl)
    eInvalidLimit := E8, IInvalidLimit := F1008
    bIInvalidLimit := F1008.binds (ps := ["self", "given"]) fun _ _ _ _ _ _ us hl => match us, hl with | [_, _], _ => rfl
    nInvalidLimit_given := He.noat_ok (c.fact 45 (f := .noat "InvalidLimit" "given") rfl)
    eInvalidCommand := E9, IInvalidCommand := F1009
    bIInvalidCommand := F1009.binds (ps := ["self", "first"]) fun _ _ _ _ _ _ us hl => match us, hl with | [_, _], _ => rfl
    nInvalidCommand_first := He.noat_ok (c.fact 46 (f := .noat "InvalidCommand" "first") rfl)
    eDuplicateLabel := E14, IDuplicateLabel := F1014
    bIDuplicateLabel := F1014.binds (ps := ["self", "label"]) fun _ _ _ _ _ _ us hl => match us, hl with | [_, _], _ => rfl
    nDuplicateLabel_label := He.noat_ok (c.fact 47 (f := .noat "DuplicateLabel" "label") rfl)
    eCapacityExceeded := E15, ICapacityExceeded := F1015
    bICapacityExceeded := F1015.binds (ps := ["self", "most"]) fun _ _ _ _ _ _ us hl => match us, hl with | [_, _], _ => rfl
    nCapacityExceeded_most := He.noat_ok (c.fact 48 (f := .noat "CapacityExceeded" "most") rfl)
    eInvalidWish := E6, IInvalidWish := F1006
    bIInvalidWish := F1006.binds (ps := ["self", "at"]) fun _ _ _ _ _ _ us hl => match us, hl with | [_, _], _ => rfl
    nInvalidWish_at := He.noat_ok (c.fact 49 (f := .noat "InvalidWish" "at") rfl)
    eInvalidTimes := E7, IInvalidTimes := F1007
    bIInvalidTimes := F1007.binds (ps := ["self", "given"]) fun _ _ _ _ _ _ us hl => match us, hl with | [_, _], _ => rfl
    nInvalidTimes_given := He.noat_ok (c.fact 50 (f := .noat "InvalidTimes" "given") rfl)
    gTieError := He.glo_ok KX G (c.fact 41 (f := .glo "TieError") rfl), gMissing := He.glo_ok KX G (c.fact 42 (f := .glo "Missing") rfl)
    m_int := He.free_ok KX G (c.fact 55 (f := .free "int") rfl)
    m_len := He.free_ok KX G (c.fact 56 (f := .free "len") rfl)
    m_abs := He.free_ok KX G (c.fact 57 (f := .free "abs") rfl)
    m_range := He.free_ok KX G (c.fact 58 (f := .free "range") rfl)
    m_zip := He.free_ok KX G (c.fact 59 (f := .free "zip") rfl)
    m_all := He.free_ok KX G (c.fact 60 (f := .free "all") rfl)
    m_isinstance := He.free_ok KX G (c.fact 61 (f := .free "isinstance") rfl)
    m_bool := He.free_ok KX G (c.fact 62 (f := .free "bool") rfl)
    m_str := He.free_ok KX G (c.fact 63 (f := .free "str") rfl)
    m_tuple := He.free_ok KX G (c.fact 64 (f := .free "tuple") rfl)
    m_list := He.free_ok KX G (c.fact 65 (f := .free "list") rfl)
    m_dict := He.free_ok KX G (c.fact 66 (f := .free "dict") rfl)
    m_sorted := He.free_ok KX G (c.fact 67 (f := .free "sorted") rfl)
    m_set := He.free_ok KX G (c.fact 68 (f := .free "set") rfl)
    m_enumerate := He.free_ok KX G (c.fact 69 (f := .free "enumerate") rfl)
    m_max := He.free_ok KX G (c.fact 70 (f := .free "max") rfl)
    c_LONG := intC KX G (c.fact 51 rfl)
    c_MOST_LETTERS_symbols := intC KX G (c.fact 52 rfl)
    c_MOST_LETTERS_commands := intC KX G (c.fact 53 rfl)
    c_MOST_TIMES := intC KX G (c.fact 54 rfl)
    F_LotInit := F1500, b_LotInit := Bn1500, b_LotInit1 := Bd1500
    z_LotInit := fun H => tupY_ok (c.own 9 (b := fun K => tupY K (He.dflAt ("Lot", some "__init__") 0 K) []) rfl) H
    mk_Lot := mkB_ok (c.own 8 (b := mkB (fun K => He.ga K "Lot") (fun K => He.ma K (He.ga K "Lot") "__init__")) rfl), g_Lot := He.glo_ok KX G (c.fact 73 (f := .glo "Lot") rfl)
    cl_Lot := He.cls_ok (c.fact 74 (f := .cls "Lot") rfl)
    na_Lot_unknowns := He.noat_ok (c.fact 75 (f := .noat "Lot" "unknowns") rfl)
    na_Lot_bonds := He.noat_ok (c.fact 76 (f := .noat "Lot" "bonds") rfl)
    F_LotNames := F1510
    me_LotNames := He.meth_ok (c.fact 71 (f := .meth "Lot" "names") rfl)
    b_LotNames := F1510.binds (ps := ["self"]) fun _ _ _ _ _ _ us hl => match us, hl with | [_], _ => rfl
    F_LotTies := F1511
    me_LotTies := He.meth_ok (c.fact 72 (f := .meth "Lot" "ties") rfl)
    b_LotTies := F1511.binds (ps := ["self"]) fun _ _ _ _ _ _ us hl => match us, hl with | [_], _ => rfl
    F_BoardInit := FK1700, b_BoardInit1 := Bd1700, kb_BoardInit := KB1700
    most_Board := clsiB_ok (c.own 23 (b := clsiB "Board" "MOST" 40) rfl)
    mk_Board := mkB_ok (c.own 10 (b := mkB (fun K => He.ga K "Board") (fun K => He.ma K (He.ga K "Board") "__init__")) rfl), g_Board := He.glo_ok KX G (c.fact 85 (f := .glo "Board") rfl)
    cl_Board := He.cls_ok (c.fact 86 (f := .cls "Board") rfl)
    na_Board_unknowns := He.noat_ok (c.fact 87 (f := .noat "Board" "unknowns") rfl)
    na_Board_room := He.noat_ok (c.fact 88 (f := .noat "Board" "room") rfl)
    na_Board_state := He.noat_ok (c.fact 89 (f := .noat "Board" "state") rfl)
    na_Board_past := He.noat_ok (c.fact 90 (f := .noat "Board" "past") rfl)
    na_Board_coming := He.noat_ok (c.fact 91 (f := .noat "Board" "coming") rfl)
    na_Board_figures := He.noat_ok (c.fact 92 (f := .noat "Board" "figures") rfl)
    na_Board_computed := He.noat_ok (c.fact 93 (f := .noat "Board" "computed") rfl)
    na_Board_working := He.noat_ok (c.fact 94 (f := .noat "Board" "working") rfl)
    F_BoardLimit := F1710
    pr_BoardLimit := ⟨_, prB_ok (c.own 12 (b := prB "Board" "limit") rfl)⟩
    b_BoardLimit := F1710.binds (ps := ["self"]) fun _ _ _ _ _ _ us hl => match us, hl with | [_], _ => rfl
    F_BoardSetLimit := F1711
    st_BoardSetLimit := stB_ok (c.own 13 (b := stB "Board" "limit") rfl)
    b_BoardSetLimit := F1711.binds (ps := ["self", "value"]) fun _ _ _ _ _ _ us hl => match us, hl with | [_, _], _ => rfl
    F_BoardChange := F1712
    me_BoardChange := He.meth_ok (c.fact 77 (f := .meth "Board" "change_limit") rfl)
    b_BoardChange := F1712.binds (ps := ["self", "value"]) fun _ _ _ _ _ _ us hl => match us, hl with | [_, _], _ => rfl
    F_BoardBusy := F1713
    pr_BoardBusy := ⟨_, prB_ok (c.own 14 (b := prB "Board" "busy") rfl)⟩
    b_BoardBusy := F1713.binds (ps := ["self"]) fun _ _ _ _ _ _ us hl => match us, hl with | [_], _ => rfl
    F_BoardTurn := F1714
    me_BoardTurn := He.meth_ok (c.fact 78 (f := .meth "Board" "turn_to") rfl)
    b_BoardTurn := F1714.binds (ps := ["self", "state"]) fun _ _ _ _ _ _ us hl => match us, hl with | [_, _], _ => rfl
    F_BoardCarry := F1715
    me_BoardCarry := He.meth_ok (c.fact 79 (f := .meth "Board" "carry_out") rfl)
    b_BoardCarry := F1715.binds (ps := ["self", "commands", "guarded"]) fun _ _ _ _ _ _ us hl => match us, hl with | [_, _, _], _ => rfl
    F_BoardApply := F1716
    me_BoardApply := He.meth_ok (c.fact 80 (f := .meth "Board" "apply") rfl)
    F_BoardHistory := F1719
    me_BoardHistory := He.meth_ok (c.fact 81 (f := .meth "Board" "history") rfl)
    b_BoardHistory := F1719.binds (ps := ["self"]) fun _ _ _ _ _ _ us hl => match us, hl with | [_], _ => rfl
    F_BoardLen := F1723
    me_BoardLen := He.meth_ok (c.fact 82 (f := .meth "Board" "__len__") rfl)
    b_BoardLen := F1723.binds (ps := ["self"]) fun _ _ _ _ _ _ us hl => match us, hl with | [_], _ => rfl
    F_BoardLabels := F1725
    me_BoardLabels := He.meth_ok (c.fact 83 (f := .meth "Board" "labels") rfl)
    b_BoardLabels := F1725.binds (ps := ["self"]) fun _ _ _ _ _ _ us hl => match us, hl with | [_], _ => rfl
    F_BoardTie := F1726
    me_BoardTie := He.meth_ok (c.fact 84 (f := .meth "Board" "tie") rfl)
    b_BoardTie := F1726.binds (ps := ["self", "label"]) fun _ _ _ _ _ _ us hl => match us, hl with | [_, _], _ => rfl
    F_StepInit := F1600, b_StepInit := Bn1600, b_StepInit1 := Bd1600
    z_StepInit := fun H => tupY_ok (c.own 16 (b := fun K => tupY K (He.dflAt ("Step", some "__init__") 0 K) []) rfl) H
    mk_Step := mkB_ok (c.own 15 (b := mkB (fun K => He.ga K "Step") (fun K => He.ma K (He.ga K "Step") "__init__")) rfl), g_Step := He.glo_ok KX G (c.fact 96 (f := .glo "Step") rfl)
    cl_Step := He.cls_ok (c.fact 97 (f := .cls "Step") rfl)
    na_Step_unknowns := He.noat_ok (c.fact 98 (f := .noat "Step" "unknowns") rfl)
    na_Step_bonds := He.noat_ok (c.fact 99 (f := .noat "Step" "bonds") rfl)
    F_StepRepeated := F1611
    me_StepRepeated := He.meth_ok (c.fact 95 (f := .meth "Step" "repeated") rfl)
    b_StepRepeated := F1611.binds (ps := ["self", "times"]) fun _ _ _ _ _ _ us hl => match us, hl with | [_, _], _ => rfl
    F_LayInit := F1800
    mk_Layout := mkB_ok (c.own 17 (b := mkB (fun K => He.ga K "Layout") (fun K => He.ma K (He.ga K "Layout") "__init__")) rfl), g_Layout := He.glo_ok KX G (c.fact 104 (f := .glo "Layout") rfl)
    cl_Layout := He.cls_ok (c.fact 105 (f := .cls "Layout") rfl)
    na_Layout_ground := He.noat_ok (c.fact 106 (f := .noat "Layout" "ground") rfl)
    na_Layout_asked := He.noat_ok (c.fact 107 (f := .noat "Layout" "asked") rfl)
    F_LayPresent := F1810
    me_LayPresent := He.meth_ok (c.fact 100 (f := .meth "Layout" "present") rfl)
    b_LayPresent := F1810.binds (ps := ["self", "at"]) fun _ _ _ _ _ _ us hl => match us, hl with | [_, _], _ => rfl
    F_LayDrop := F1811
    me_LayDrop := He.meth_ok (c.fact 101 (f := .meth "Layout" "drop") rfl)
    b_LayDrop := F1811.binds (ps := ["self", "at"]) fun _ _ _ _ _ _ us hl => match us, hl with | [_, _], _ => rfl
    F_LayMove := FK1812, b_LayMove1 := Bd1812, kb_LayMove := KB1812
    me_LayMove := He.meth_ok (c.fact 102 (f := .meth "Layout" "move") rfl)
    F_LayWishes := F1813
    me_LayWishes := He.meth_ok (c.fact 103 (f := .meth "Layout" "wishes") rfl)
    b_LayWishes := F1813.binds (ps := ["self"]) fun _ _ _ _ _ _ us hl => match us, hl with | [_], _ => rfl
    eUnknownName := EG17.1, mUnknownName := EG17.2, IUnknownName := F1017
    bIUnknownName := F1017.binds (ps := ["self", "name"]) fun _ _ _ _ _ _ us hl => match us, hl with | [_, _], _ => rfl
    nUnknownName_name := He.noat_ok (c.fact 108 (f := .noat "UnknownName" "name") rfl)
    eUnknownLabel := EG18.1, mUnknownLabel := EG18.2, IUnknownLabel := F1018
    bIUnknownLabel := F1018.binds (ps := ["self", "label"]) fun _ _ _ _ _ _ us hl => match us, hl with | [_, _], _ => rfl
    nUnknownLabel_label := He.noat_ok (c.fact 109 (f := .noat "UnknownLabel" "label") rfl)
    most_Layout := clsiB_ok (c.own 21 (b := clsiB "Layout" "MOST" 8) rfl), most_Step := clsiB_ok (c.own 22 (b := clsiB "Step" "MOST" 3) rfl)
    g_LENGTHS := He.glo_ok KX G (c.fact 110 (f := .glo "LENGTHS") rfl)
  }
  have at1 : ∀ p ∈ [(Str.ofString "tie", (3 : Int)), (Str.ofString "wish", (4 : Int)), (Str.ofString "first", (2 : Int)), (Str.ofString "drop", (2 : Int))], ∃ t, PySem.W.nsIn K (He.ga K "LENGTHS") p.1 = some (some (.int p.2 t)) := fun p hp => by
    rcases List.mem_cons.mp hp with rfl | hp
    · exact natB_ok (c.own 24 (b := natB "LENGTHS" "tie" 3) rfl)
    rcases List.mem_cons.mp hp with rfl | hp
    · exact natB_ok (c.own 25 (b := natB "LENGTHS" "wish" 4) rfl)
    rcases List.mem_cons.mp hp with rfl | hp
    · exact natB_ok (c.own 26 (b := natB "LENGTHS" "first" 2) rfl)
    rcases List.mem_cons.mp hp with rfl | hp
    · exact natB_ok (c.own 27 (b := natB "LENGTHS" "drop" 2) rfl)
    cases hp
  have no1 : ∀ z ∈ [Str.ofString "lose", Str.ofString "", Str.ofString "Tie"], PySem.W.nsIn K (He.ga K "LENGTHS") z = some none := fun z hp => by
    rcases List.mem_cons.mp hp with rfl | hp
    · exact He.eqO_ok (c.own 28 (b := nokB "LENGTHS" "lose") rfl)
    rcases List.mem_cons.mp hp with rfl | hp
    · exact He.eqO_ok (c.own 29 (b := nokB "LENGTHS" "") rfl)
    rcases List.mem_cons.mp hp with rfl | hp
    · exact He.eqO_ok (c.own 30 (b := nokB "LENGTHS" "Tie") rfl)
    cases hp
  refine ⟨_, [He.cT K lawD], spLaw K (He.cT K lawD).2, fun p hp => by rw [List.mem_singleton.mp hp]; exact c.tab, fun p hp => by rw [List.mem_singleton.mp hp]; exact c.out, fun p hp => by rw [List.mem_singleton.mp hp]; exact PySem.W.codeHd_of_K KX c.hd, fun s u => D195.bindsA (ps := ["_law_script"]) (fun _ _ _ _ _ _ us hl => match us, hl with | [_], _ => rfl) s [u] rfl, fun H a ns hl _ hT hS => ⟨a, ns, rfl, hS, hl, fun p hp => by rw [List.mem_singleton.mp hp]; exact LamX.TabS.nil (hT _ List.mem_cons_self), fun _ => rfl⟩, fun base _ _ TB => ok_p_law T ⟨cz.tab 0 rfl, at1, no1⟩ FC (TB _ List.mem_cons_self)⟩
end T8
open PySem PySem.W PySem.Calls PyProof.Rows
set_option maxHeartbeats 0 in
theorem PySem.Challenge.cw_tiespan_k77_values_of_other_kinds_holds : PySem.Challenge.rw_tiespan_k77_values_of_other_kinds.Holds := by
  w_on
  refine T8.hlaw fun said => ?_
  refine HandSHeadRun.head_any (r := T8.hR) (q := T8.hQ) (H := T8.hk) (ob := T8.hob) (M := 40000) (loose := T8.hN) (d := HandSHeadRun.topDef T8.hR.prog 195) (kwd := []) T8.hob_eq
    (by kernel_rfl) (fun s => by kernel_rfl) T8.hrun (by kernel_rfl) (by kernel_rfl) (by kernel_rfl) (by rfl) (by first | assumption | decide +kernel) T8.hok T8.hbare ?hw ?hc
  case hw => w_witness2
  case hc =>
    refine LamX.walk_ofTsE (l := PySem.Challenge.rw_tiespan_k77_values_of_other_kinds) (n := 63) (k := 21) (x := "_law_script") (CX := fun _ => L2.CX0) rfl (by decide) (by kernel_rfl) ⟨rfl, by decide, by decide⟩ ?F (fun _ _ _ _ _ z => z)
    intro w mg fa h Y G hmg0
    obtain ⟨K, c⟩ := Y
    have hmg : mg ("law" : PySem.Str) = some (.ref fa) := by
      have e : (HandSHeadRun.topDef T8.hR.prog 195).name = ("law" : PySem.Str) := by kernel_rfl
      rw [← e]
      exact hmg0
    exact ⟨K, c.c.kin, T8.all_hk (w := w) c G hmg⟩

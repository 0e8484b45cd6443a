import PyProof.Rows.All
import Wide.All
import OpenK.AllK
import Wide.FinOn
import HandS.Base
import HandS.Call
import HandS.List
import HandS.Comp
import HandS.Ends
import HandS.Words
import HandS.WordsList
import HandS.Codes
import HandS.Wide
import HandS.Iter
import HandS.Zip
import HandS.Star
import HandS.More
import HandS.IsInst
import HandS.Conv
import HandS.NoneIn
import HandS.WideBits
import HandS.WordsExc
import HandS.Exc
import HandS.TryMany
import HandS.HotCalls
import HandS.ExcInit
import HandS.ExcField
import HandS.Lambda
import HandS.EndTab
import HandS.Defaults
import KE.KNest
import HandS.Text
import HandS.StrMore
import KE.IntTextText
import HandS.Style
import PyProof.ListStr
import PyProof.StrBlock2
import HandS.More
import HandS.SetTxt0
import HandS.Set
import HandS.Strs
import HandS.Dict
import HandS.DictComp
import HandS.RaiseMore
import HandS.Deep
import HandS.TupMul
import HandS.Finally
import KE.KDictPairs
import HandS.Replace
import KE.KDflt
import HandS.ExcValue
import HandS.ExcIs
import HandS.ClsMeth
import HandS.MakeKw
import HandS.MakeKwOnly
import KE.GoesEnum
import HandS.OwnEq
import HandS.FStr
import KE.KStateDown
import KE.KNest
import KE.KNestM
import HandS.Head0
import HandS.Head1
import HandS.Head2
import HandS.HeadHook1
import HandS.HeadHook2
import HandS.HeadHook3
import HandS.HeadHook4
import HandS.HeadWalk
import PySem.Challenge.RW_tiespan_k16_lots_return_what_they_are_ma
set_option Elab.async false
set_option linter.all false
set_option maxRecDepth 100000
set_option maxHeartbeats 4000000
namespace EK
open PySem PySem.Spec PyProof.Rows L2
/-! ### try: body, except (c1, c2) as n: suite, and what stands behind it is not reached -/
theorem flyingZ_push {B h : Heap} {l : List Env} {e : Addr} {Z : Obj → Prop} (x : PySem.HandSPX.FlyingZ B l e Z h) (o : Obj) : PySem.HandSPX.FlyingZ B l e Z (h.push o) := by
  obtain ⟨h1, h2, h3, oe, vs, tb, ot, ts, a1, a2, a3, a4, a5, a6, a7, a8, a9⟩ := x
  exact ⟨fun b u q => Heap.get?_push_of_some _ (h1 b u q), h2, h3.of_keeps fun b u q _ => ⟨u, Heap.get?_push_of_some _ q, rfl⟩, oe, vs, tb, ot, ts, Heap.get?_push_of_some _ a1, a2, a3, a4, a5, a6, Heap.get?_push_of_some _ a7, a8, a9⟩
/-- the wish: the clause takes it -/
def wTup (K : PySem.W.Frag) (c1 c2 : Value) (i : Nat) (ts : Addr → Value → Option Addr → TS) (D : Ends) : WX := fun cls d σ H =>
  PySem.W.exmAny K cls [c1, c2] = some true ∧ ∀ a, H a = none → ts a cls d { nx := fun σ' H' => D.nx (σ'.set i none) H', rt := D.rt, bk := fun σ' H' => D.bk (σ'.set i none) H', ct := fun σ' H' => D.ct (σ'.set i none) H' } (σ.set i (some (.ref a))) H
theorem ps_try_tup {X : Cx} {x1 x2 n : Str} {c1 c2 : Value} {i kk : Nat} {body suite : List Stmt} {b₀ : Stmt} {np1 np2 tpos pos pos' : Pos} {tb : WX → TS} {ts : Addr → Value → Option Addr → TS} {hds : List ExceptHandler}
    (hs : X.stack = X.env :: X.outer) (hf : X.env.frame = some X.env.locals) (hN : X.N.Nodup) (hi : X.N[i]? = some n) (hln : X.env.kindOf n = some .local) (h1 : Gl X x1) (m1 : X.mg x1 = some c1) (h2 : Gl X x2) (m2 : X.mg x2 = some c2)
    (hb : ∀ (W : WX) (pn : List (Addr × Obj)) (xe : Value → Shared → Prop), Takes (X.tr pn xe) W → PassesOwn (model X.prog X.w) X.A X.env xe → PSs (X.tr pn xe) body (tb W))
    (hsu : ∀ (a : Addr) (oe : Obj) (cls : Value) (d : Option Addr) (pn : List (Addr × Obj)), Zc cls d oe → (∃ vs, oe.data = .fields vs) → PSs (X.suite a ((a, oe) :: pn)) (b₀ :: suite) (ts a cls d))
    (d1 : (x1 == ("__debug__" : Str)) = false := by decide) (d2 : (x2 == ("__debug__" : Str)) = false := by decide) :
    PS X (.Try body (.ExceptHandler (some (.Tuple [.Name x1 np1, .Name x2 np2] kk tpos)) (some n) (b₀ :: suite) pos' :: hds) [] [] pos) (fun D σ H => tb (wTup X.K c1 c2 i ts D) D σ H) := by
  refine ⟨fun pins s σ H D I h => ?_⟩
  have ok := I.ok
  have hfr : X.A.frames = some (X.env :: X.outer) := by rw [ok.frames, hs]
  have hloc : Loc X.env.scope n := .inl hln
  refine wpAny_Try_except (wpAny_mono ((hb (wTup X.K c1 c2 i ts D) (X.pn ++ pins) (fun e s₁ => wpAny (model X.prog X.w) X.A (noteFrame e X.env) (fun _ s₂ => wpAny (model X.prog X.w) X.A (setFlight e none) (fun _ s₃ =>
    wpAny (model X.prog X.w) X.A (handleBy e X.env (.ExceptHandler (some (.Tuple [.Name x1 np1, .Name x2 np2] kk tpos)) (some n) (b₀ :: suite) pos' :: hds)) (SP X pins D) X.xe s₃) X.xe s₂) X.xe s₁) (fun u s' xx => ?_) PassesOwn.looking).run [] s σ H D (I.toTry _) h) (fun f s1 hsp => ?_) (fun e s1 he => he))
  · obtain ⟨a, B, sI, pins', σ', H', cls, d, rfl, J', nb, up, sky, na, os, ag, hb1, hyes⟩ := xx
    have J : Inv X pins σ' H' sI := J'.ofTry ok
    have sky' : Sky B (X.env :: X.outer) a (Zc cls d) X.env.locals s'.heap := by rw [← hs]; exact sky
    show wpAny (model X.prog X.w) X.A (noteFrame (.ref a) X.env) _ _ _
    refine Sky.land Zc.steady hfr hf sky' fun h3 fl3 up3 => ?_
    have J3 : Inv X pins σ' H' { s' with heap := h3 } := J.landed nb fl3.1 (up.trans up3) os ag
    obtain ⟨oe3, vs3, he3, hz3, hd3⟩ := fl3.there
    have nfr : a ∉ frs (X.env :: X.outer) := fun hm => by
      obtain ⟨_, o', e', hnf⟩ := fl3.2.2.1.mem hm
      rw [he3] at e'
      cases e'
      exact hnf _ hd3
    have nL : a ≠ X.env.locals := fun z => nfr (List.mem_filterMap.mpr ⟨X.env, List.mem_cons_self, by rw [hf, z]⟩)
    have nF : a ∉ X.fs := fun hm => by
      obtain ⟨e, he, q⟩ := List.mem_filterMap.mp hm
      exact nfr (List.mem_filterMap.mpr ⟨e, List.mem_cons_of_mem _ he, q⟩)
    have S3 := J3.suite he3 hd3 na nL nF
    refine wpAny_handleBy_cons (codeAny_handlers_test ?_) (by intro q; cases q)
    refine wpAny_Tuple ?_
    refine wpAny_items_cons (ld_glob (X := X.suite a ((a, oe3) :: (X.pn ++ pins))) S3 h1 m1 ?_ d1)
    refine wpAny_items_cons (ld_glob (X := X.suite a ((a, oe3) :: (X.pn ++ pins))) S3 h2 m2 ?_ d2)
    refine wpAny_items_nil ⟨Nat.le_trans (by decide : 2 ≤ 1000) (Nat.le_of_lt (small1000 (Nat.le_refl _))), ?_⟩
    have kp : ∀ q o, h3.get? q = some o → (h3.push { cls := .type "tuple", data := .seq [c1, c2].toArray }).get? q = some o := fun _ _ z => Heap.get?_push_of_some _ z
    have LT : PySem.W.Looks (model X.prog X.w) (h3.push { cls := .type "tuple", data := .seq [c1, c2].toArray }) (typeOf (.ref a)) cls := fun A Q E s k q => wpAny_typeOf_ref (k _ _ (kp _ _ he3)) (by rw [hz3.1]; exact q)
    refine (PySem.W.exm_tup2 (M := model X.prog X.w) (J3.kIn.keeps kp) LT (Heap.get?_push_size h3 rfl) hb1).here ?_
    have up3p := (up.trans up3).trans (Heap.UpToSlots.of_keeps kp)
    have fl3p := flyingZ_push fl3 { cls := .type "tuple", data := .seq [c1, c2].toArray }
    generalize h3.push { cls := .type "tuple", data := .seq [c1, c2].toArray } = g3 at up3p fl3p
    refine codeAny_handlers_suite_as ?_
    refine PySem.HandSPX.lands_againZ fl3p fun h4 fl4 up4 => ?_
    have J4 : Inv X pins σ' H' { s' with heap := h4 } := J.landed nb fl4.1 (up3p.trans up4) os ag
    obtain ⟨oe4, vs4, he4, hz4, hd4⟩ := fl4.there
    have S4 := J4.suite he4 hd4 na nL nF
    refine store_ok (X := X.suite a ((a, oe4) :: (X.pn ++ pins))) (v := .ref a) S4 hN hi hloc rfl (fun s5 S5 => ?_) (.inr hln)
    refine wpAny_mono ((hsu a oe4 cls d (X.pn ++ pins) hz4 ⟨_, hd4⟩).run [] s5 _ H' _ S5 (hyes a na)) (fun f s6 hsp => ?_) (fun _ _ z => False.elim z)
    have end_ : ∀ {σ6 : L2.St} {H6 : Hp} {Q : Shared → Prop}, Inv (X.suite a ((a, oe4) :: (X.pn ++ pins))) [] σ6 H6 s6 → (∀ s7, Inv X pins (σ6.set i none) H6 s7 → Q s7) →
        wpAny (model X.prog X.w) X.A (do bindName X.env n .none; unbindBehindTheSuite X.env n pos') (fun _ s7 => Q s7) X.xe s6 := fun {σ6 H6 Q} S6 hq => gone_ok (S6.unsuite ok) hN hi hln hq
    cases f with
    | next =>
      obtain ⟨σ6, H6, S6, q6⟩ := hsp
      exact end_ S6 fun s7 J7 => ⟨_, _, J7, q6⟩
    | brk =>
      obtain ⟨σ6, H6, S6, q6⟩ := hsp
      exact end_ S6 fun s7 J7 => ⟨_, _, J7, q6⟩
    | cont =>
      obtain ⟨σ6, H6, S6, q6⟩ := hsp
      exact end_ S6 fun s7 J7 => ⟨_, _, J7, q6⟩
    | ret u =>
      obtain ⟨v6, σ6, H6, S6, r6, q6⟩ := hsp
      exact end_ S6 fun s7 J7 => ⟨_, _, _, J7, r6, q6⟩
  · cases f with
    | next =>
      obtain ⟨σ', H', J', q⟩ := hsp
      exact wpAny_execs_nil ⟨σ', H', J'.ofTry ok, q⟩
    | brk =>
      obtain ⟨σ', H', J', q⟩ := hsp
      exact ⟨σ', H', J'.ofTry ok, q⟩
    | cont =>
      obtain ⟨σ', H', J', q⟩ := hsp
      exact ⟨σ', H', J'.ofTry ok, q⟩
    | ret u =>
      obtain ⟨v, σ', H', J', r, q⟩ := hsp
      exact ⟨v, σ', H', J'.ofTry ok, r, q⟩
/-! ### defs that are called where an exception is handled, and read it; nothing is raised there -/
structure FnP (P : Program) (w : World) (K : PySem.W.Frag) (mg : Str → Option Value) (base : Heap) (k : Nat) (f : Addr) (fd : FuncData) (ps : List Str) (sp : Addr × Obj → Sp) : Prop where
  len : ∀ p vs H Q E, sp p vs H Q E → vs.length = ps.length
  run : ∀ (A : Around) (outer : List Env) (s : Shared) (H : Hp) (args : Args) (us : List Value) (vs : List V) (Q : VK) (p : Addr × Obj), L2H.RoomH k A → L2H.PinOk outer H s p → Env0 P w K mg base A outer s H → BindsTo s fd args (ps.zip us) → Vals vs us → sp p vs H Q E0 →
    codeAny (model P w) A (.call (.ref f) args) (CR CX0 outer P w H s Q E0) s
theorem fn_ofP {P : Program} {w : World} {K : PySem.W.Frag} {mg : Str → Option Value} {base : Heap} {k : Nat} {x : Str} {st : Stmt} {f : Addr} {fd : FuncData} {N ps : List Str} {sp : Addr × Obj → Sp} (F : Fun K x x st f fd) (S : FnScope N ps (defScope st))
    (len : ∀ p vs H Q E, sp p vs H Q E → vs.length = ps.length)
    (hbody : ∀ (cdv : Value) (A : Around) (outer : List Env) (s : Shared) (H : Hp) (vs : List V) (Q : VK) (p : Addr × Obj), L2H.RoomH k (A.deeper (envOfC x (defScope st) s.heap.objs.size f cdv)) → sp p vs H Q E0 →
      ∃ t, PSs (L2H.cxH CX0 P w K mg base N x (defScope st) f cdv A outer s H E0 p) (defBody st) t ∧ t { nx := fun _ H' => Q .non H', rt := Q } (L2.start N vs) H) : FnP P w K mg base (k + 1) f fd ps sp := by
  obtain ⟨oc, od, kV, doc, pm, an, cdv, ct, osl, rfl, lk, hcd⟩ := F.ex
  refine ⟨len, fun A outer s H args us vs Q p hr hpin e0 hb r hsp => ?_⟩
  have hl := len _ _ _ _ _ hsp
  have KX : K.In s.heap := e0.mod.kin.keeps fun b o e => (e0.bs b o e).1
  have lim : s.heap.NoLimit := e0.mod.nolimit.keeps fun b o e => (e0.bs b o e).1
  refine codeAny_call_function hr.depth (KX _ _ lk) rfl S.co S.gen rfl (PySem.W.codeRec_of KX hcd) (hb _ _ _ _ ?_)
  refine wpAny_newFunctionEnv_cells S.kind (fun ⟨n, v⟩ hy => ?_) fun env he s1 xc => ?_
  · rcases S.par n (List.of_mem_zip hy).1 with q | q
    · exact .inl q
    · exact .inr ⟨q, PySem.W.cellsFrom_some _ _ _ (.inl q)⟩
  · subst he
    refine ⟨lim.keeps xc.toInCall.keep, codeAny_func ?_⟩
    obtain ⟨t, ht, hq⟩ := hbody cdv A outer s H vs Q p (hr.deeper _) hsp
    refine wpAny_mono (ht.run [] s1 (L2.start N vs) H _ (L2H.inv_startH S hpin e0 hl r xc) hq) (fun fl s' hs => ?_) fun e s' hs => hs
    cases fl with
    | ret u =>
      obtain ⟨v, σ', H', J, rv, q⟩ := hs
      exact ⟨v, H', J.os, J.bare, J.base, J.hok, rv, q⟩
    | next =>
      obtain ⟨σ', H', J, q⟩ := hs
      exact ⟨.non, H', J.os, J.bare, J.base, J.hok, rfl, q⟩
    | brk =>
      obtain ⟨_, _, _, q⟩ := hs
      exact False.elim q
    | cont =>
      obtain ⟨_, _, _, q⟩ := hs
      exact False.elim q
theorem pe_callP {X : Cx} {k : Nat} {f : Addr} {fd : FuncData} {ps : List Str} {sp : Addr × Obj → Sp} {x : Str} {q pos : Pos} {e : Expr} {es : List Expr} {t : TA} {p : Addr × Obj} (F : FnP X.prog X.w X.K X.mg X.base k f fd ps sp) (hr : L2H.RoomH k X.A) (hp : p ∈ X.pn) (hg : Gl X x) (hm : X.mg x = some (.ref f))
    (hk : PySem.W.keepIn X.K (.ref f) = true) (hb : Binds X.K fd ps []) (ha : PA X (e :: es) t) (hdb : (x == ("__debug__" : Str)) = false := by decide) (he : starEach (e :: es) X.env = (false, eval e X.env) :: starEach es X.env := by rfl) (hpl : (backTo pos (starEach es X.env)).any (·.1) = false := by rfl) :
    PE X (.Call (.Name x q) (e :: es) [] pos) (fun σ H Q => t σ H fun vs H1 => sp p vs H1 Q E0) := by
  refine ⟨fun pins s σ H Q I h => wpAny_Call_Name_kw (ld_glob I hg hm (PySem.W.callWith_K (h₀ := X.base) I.ok.mod.kin hk (thn (ha.run pos pins s σ H _ I h) fun us s1 ⟨vs, H1, I1, r, q1⟩ => ⟨I1.kIn, ?_⟩) he hpl) hdb)⟩
  have hl : us.length = ps.length := by rw [← r.length]; exact F.len _ _ _ _ _ q1
  have b := hb s1 us I1.kIn (by rw [List.append_nil]; exact hl)
  rw [List.append_nil] at b
  have P1 := I1.pin p (List.mem_append_left _ hp)
  have hpin : L2H.PinOk X.stack H1 s1 p := ⟨P1.1, P1.2.1, fun hm => (List.mem_cons.mp (I1.stkSub p.1 hm)).elim P1.2.2.1 P1.2.2.2.1, P1.2.2.2.2⟩
  refine wpAny_call (codeAny_mono (F.run X.A X.stack s1 H1 ⟨us, []⟩ us vs Q p hr hpin I1.env0 b r q1) fun r s' hq => ?_)
  cases r with
  | error e => exact (show False from hq).elim
  | ok fl =>
    cases fl with
    | ret u => exact I1.after hq
    | next => exact False.elim hq
    | brk => exact False.elim hq
    | cont => exact False.elim hq
/-- what is told of the exception at p: its class, its own dict, the fields -/
structure Xat (K : PySem.W.Frag) (p : Addr × Obj) (C dd : Addr) : Prop where
  z : Zc (.ref C) (some dd) p.2
  fl : ∃ vs, p.2.data = .fields vs
  xf : XfC K C
def tXp (K : PySem.W.Frag) (p : Addr × Obj) (n : Str) (te : TE) : TE := fun σ H Q => te σ H fun x H1 => x = .ref p.1 ∧ ∃ (C dd : Addr) (fs : List (Str × V)) (v : V), Xat K p C dd ∧ PySem.W.findIn K (.ref C) n = some none ∧ H1 dd = some (.xd fs) ∧ fs.lookup n = some v ∧ Q v H1
theorem pe_xp {X : Cx} {p : Addr × Obj} {e : Expr} {te : TE} {pos : Pos} {n : Str} (hp : p ∈ X.pn) (he : PE X e te) (hb : attributeBase e n X.env (eval e X.env) = eval e X.env := by rfl) : PE X (.Attribute e n pos) (tXp X.K p n te) := by
  refine ⟨fun pins s σ H Q I h => attr_of hb (thn (he.run pins s σ H _ I h) fun u s1 hh => ?_)⟩
  obtain ⟨x, H1, I1, rx, ex, C, dd, fs, v, T, hno, ea, l, q⟩ := hh
  subst ex
  obtain rfl : u = Value.ref p.1 := rx
  obtain ⟨ha, _⟩ := I1.pin p (List.mem_append_left _ hp)
  obtain ⟨vs, hd⟩ := T.fl
  have hx : ObjOk X.prog X.w H1 s1.heap dd (.xd fs) := I1.hok dd _ ea
  obtain ⟨mA, hns, hr⟩ := hx
  obtain ⟨od, ho, hl⟩ := lookIn_ns hns
  obtain ⟨u, hu, ru⟩ := RelO.some_of (v := v) (o := mA n) (by rw [← l]; exact hr n)
  have J : PySem.W.InstAt s1.heap p.1 p.2 C (some od) := ⟨ha, T.z.1, by unfold PySem.W.notCls; rw [hd] <;> rfl, by rw [T.z.2]; exact ho⟩
  exact PySem.HandSPX.exc_get I1.kIn J T.xf.ga T.xf.gg T.xf.exC (PySem.W.findObj_own T.xf.hdC hno rfl (by rw [hl, hu])) (handed_of ru) ⟨v, H1, I1.tok _, ru, q⟩
/-! ### own errors: what K tells of a class, making one, what why tells of it -/
structure ErrC (K : PySem.W.Frag) (mg : Str → Option Value) (x : Str) (C Tie Miss fI : Addr) : Prop where
  oex : OexC K C
  xf : XfC K C
  gC : mg x = some (.ref C)
  tag : PySem.W.findIn K (.ref C) "tag" = some none
  any : PySem.W.exmAny K (.ref C) [.ref Tie, .ref Miss] = some true
  iC : PySem.W.findIn K (.ref C) "__init__" = some (some (.ref fI))
  tI : PySem.W.typeIn K (.ref fI) = some (.type "function")
/-- __init__(self, v): self.n = v; self.tag = x -/
def spInit1 (K : PySem.W.Frag) (n x : Str) : Sp := fun vs H Q _ => ∃ (a C : Addr) (v : V), vs = [.ref a, v] ∧ OexC K C ∧ PySem.W.findIn K (.ref C) n = some none ∧ PySem.W.findIn K (.ref C) "tag" = some none ∧ H a = some (exo a C none) ∧
  ∀ dx, H dx = none → dx ≠ a → Q .non (upd (upd (upd H dx (exd dx [(n, v)])) a (exo a C (some dx))) dx (exd dx [("tag", .str x), (n, v)]))
def spInit0 (K : PySem.W.Frag) (x : Str) : Sp := fun vs H Q _ => ∃ (a C : Addr), vs = [.ref a] ∧ OexC K C ∧ PySem.W.findIn K (.ref C) "tag" = some none ∧ H a = some (exo a C none) ∧
  ∀ dx, H dx = none → dx ≠ a → Q .non (upd (upd H dx (exd dx [("tag", .str x)])) a (exo a C (some dx)))
theorem Same.del {H H2 : Hp} {a d : Addr} {o : HO} (na : H a = none) (nd : H d = none) (h : ∀ b u, b ≠ a → H b = some u → H2 b = some u) : Same H (upd (del H2 a) d o) := fun b u e => by
  rw [upd_ne (ne_of_none e nd), del_ne (ne_of_none e na)]
  exact h b u (ne_of_none e na) e
/-! ### a def whose code object is known -/
structure FunC (K : PySem.W.Frag) (x : Str) (st : Stmt) (f : Addr) (fd : FuncData) (c : Addr) : Prop where
  ex : ∃ (oc : Value) (od : Option Addr) (kV doc pm : Value) (an : Option Addr) (ct : Value) (osl : Array (Option Value)),
    fd = PySem.W.fnOf x x (defArgs st) (defBody st) (defScope st) .none kV doc pm an (.ref c) ct ∧ K.lookup f = some ⟨oc, od, .func fd, osl⟩ ∧ PySem.W.codeIn K (.ref c) x = true
theorem FunC.ok {P : Program} {w : World} {K : PySem.W.Frag} {mg : Str → Option Value} {base : Heap} {x : Str} {st : Stmt} {f c : Addr} {fd : FuncData} {N ps : List Str} {k : Nat} {sp : Sp} (F : FunC K x st f fd c) (S : FnScope N ps (defScope st)) (len : ∀ vs H Q E, sp vs H Q E → vs.length = ps.length)
    (hbody : ∀ (A : Around) (outer : List Env) (s : Shared) (H : Hp) (vs : List V) (Q : VK) (E : XK), Room k (A.deeper (envOfC x (defScope st) s.heap.objs.size f (.ref c))) → sp vs H Q E →
      ∃ t, PSs (cxOf CX0 P w K mg base N x (defScope st) f (.ref c) A outer s H E).nox (defBody st) t ∧ t { nx := fun _ H' => Q .non H', rt := Q } (L2.start N vs) H) : FnOk P w K mg base CX0 (k + 1) f fd ps sp := by
  obtain ⟨oc, od, kV, doc, pm, an, ct, osl, rfl, lk, hcd⟩ := F.ex
  refine fn_of lk hcd S len fun A outer s H vs Q E hr hsp => ?_
  obtain ⟨t, h, q⟩ := hbody A outer s H vs Q E hr hsp
  exact ⟨t, h.nox, q⟩
theorem ExtN.same {H H' : Hp} (s : Same H H') : LamX.ExtN H H' := fun b o e _ => s b o e
/-! ### the end with tables -/
theorem walk_T {l : PySem.W.OpenLaw} {n k : Nat} {q : Program} {loose : List Str} {XP : (Str → Option Value) → Heap → Prop} {YP : World → Heap → Prop} {d : DefRec} {K : Params → PySem.W.Frag} {CX : World → CXT} {x : Str}
    (hn : l.most = some n) (hn2 : n ≤ sizeLine) (hdf : d.params.defaults = []) (hr : Room k callerA) (hY : ∀ (w : World) (h : Heap), YP w h → (K w.params).In h)
    (F : ∀ (w : World) (lo : List Str) (mean : ExcName → Option Value) (mg mb : Str → Option Value) (fa : Addr) (h : Heap), Top q lo mean mg mb h → (K w.params).In h → mg d.name = some (.ref fa) → LamX.LawAtS l w (K w.params) (CX w) k n x mg fa h)
    (hCX : ∀ (w : World) (H : Hp) (s : Shared) (e : Value) (s' : Shared), CX w [] H s (fun _ _ _ => False) e s' → False) :
    PySem.W.WalkO q loose XP YP l.row.toRowW d [] (fun f vs => PySem.call f vs) := by
  refine Att.attach_callB hn hdf fun w s₀ s₁ mg mb fa o pm cd doc a vs ns G Y ho hd hcd hmg hobj hints hlen hbits hg => ?_
  have KX := hY w _ Y
  obtain ⟨fd, cs, sp, hT, nT, C, hb, hsp, hF⟩ := F w _ _ mg mb fa _ G.T KX hmg
  exact LamX.law_callTs KX G.T.g G.T.b G.T.builtins G.T.nolimit hg hT nT C G.T.bmain hobj hints (Nat.le_trans hlen hn2) hr hF hb (fun H hH hS => hsp H a ns hlen hbits hH hS) fun H e s' => hCX w H s₁ e s'
theorem exm_by {K : PySem.W.Frag} {S : Addr} {cls : Value} {b : Bool} (h1 : PySem.W.subIn K (.ref S) (.type "BaseException") = some true) (h2 : PySem.W.isClsIn K S = true) (h3 : PySem.W.typeIn K (.ref S) = some (.type "type")) (h4 : PySem.W.subIn K cls (.ref S) = some b) :
    PySem.W.exmOne K cls (.ref S) = some b := by
  have e1 : (PySem.W.subIn K (.ref S) (.type "BaseException") == some true) = true := by rw [h1] <;> rfl
  have e2 : ((PySem.W.clsIn K S).isSome && PySem.W.typeIn K (.ref S) == some (.type "type")) = true := by
    have h2' : (PySem.W.clsIn K S).isSome = true := h2
    rw [h2', h3] <;> rfl
  unfold PySem.W.exmOne PySem.W.kitCls
  rw [if_pos e1]
  exact (if_pos e2).trans h4
theorem exm_any {K : PySem.W.Frag} {c1 c2 cls : Value} (h1 : PySem.W.exmOne K cls c1 = some true) (h2 : PySem.W.exmOne K cls c2 = some false) : PySem.W.exmAny K cls [c1, c2] = some true := by
  unfold PySem.W.exmAny PySem.W.exmAny PySem.W.exmAny
  rw [h1, h2]
  rfl
/-! ### calls with keywords alone -/
theorem pe_callN0 {X : Cx} {CX : CXT} {k : Nat} {f : Addr} {fd : FuncData} {ps ks : List Str} {sp : Sp} {E : XK} {x : Str} {p pos : Pos} {kws : List Keyword} {tk : TA} {g : List Value → List Value → List Value} {gV : List V → List V → List V}
    (F : FnOk X.prog X.w X.K X.mg X.base CX k f fd ps sp) (hr : Room k X.A) (hg : Gl X x) (hm : X.mg x = some (.ref f)) (hk : PySem.W.keepIn X.K (.ref f) = true) (hb : KBn X.K fd ps 0 ks g gV) (hx : Passes CX X E) (hkw : PK X kws tk)
    (hall : (backToKw pos (keywordEach kws X.env)).all (·.1.isSome) = true := by rfl) (hks : (backToKw pos (keywordEach kws X.env)).filterMap (·.1) = ks := by rfl) (hdb : (x == ("__debug__" : Str)) = false := by decide)
    (hpl : ((backTo pos (starEach [] X.env)).any (·.1) || (backToKw pos (keywordEach kws X.env)).any (·.1.isNone)) = false := by rfl) :
    PE X (.Call (.Name x p) [] kws pos) (fun σ H Q => tk σ H fun zs H2 => zs.length = ks.length ∧ sp (gV [] zs) H2 Q E) := by
  refine ⟨fun pins s σ H Q I h => wpAny_Call_Name_kw (ld_glob I hg hm (PySem.W.callWith_KW0 (h₀ := X.base) I.ok.mod.kin hk hall (thn (hkw.run pos pins s σ H _ I h) fun ws s2 ⟨zs, H2, I2, rz, l2, q2⟩ => ⟨I2.kIn, ?_⟩) hpl) hdb)⟩
  rw [hks]
  exact run_fnN (us := []) (vs := []) F hr hb hx I2 .nil rz rfl l2 q2
/-- two values in the other order -/
theorem swap_rel : ∀ {vs : List V} {us : List Value} {zs : List V} {ws : List Value}, Vals vs us → Vals zs ws → Vals [zs.getD 1 .non, zs.getD 0 .non] [ws.getD 1 Value.none, ws.getD 0 Value.none]
  | _, _, _, _, _, .nil => .cons rfl (.cons rfl .nil)
  | _, _, _, _, _, .cons r .nil => .cons rfl (.cons r .nil)
  | _, _, _, _, _, .cons r (.cons r2 _) => .cons r2 (.cons r .nil)
/-! ### an error as a value -/
/-- at a: an exception whose object is known -/
def ExV (oe : Obj) (a : Addr) : HO := .ext fun h => h.get? a = some oe
theorem exv_ok {P : Program} {w : World} {H : Hp} {h : Heap} {a : Addr} {oe : Obj} (e : h.get? a = some oe) : ObjOk P w H h a (ExV oe a) := ⟨e, ⟨_, e⟩, fun _ _ z k => k _ z⟩
theorem exv_at {P : Program} {w : World} {H : Hp} {h : Heap} {a : Addr} {oe : Obj} (hok : HOk P w H h) (e : H a = some (ExV oe a)) : h.get? a = some oe := by
  have x : ObjOk P w H h a (.ext fun h => h.get? a = some oe) := hok a _ e
  exact x.1
/-- C(..) of an error class, its object kept -/
theorem pe_exv {X : Cx} {e : Expr} {t : L2.St → Hp → XK → Prop} (h : PMk X e t) : PE X e (fun σ H Q => t σ H fun cls d H' => ∀ (a : Addr) (oe : Obj), Zc cls d oe → (∃ vs, oe.data = .fields vs) → H' a = none → Q (.ref a) (upd H' a (ExV oe a))) := by
  refine ⟨fun pins s σ H Q I q => wpAny_mono (h pins s σ H _ I q) (fun v s1 hm => ?_) fun _ _ z => z⟩
  obtain ⟨a, oe, vs, sI, H', cls, d, rfl, J, k, ga, ha, hz, hd, h1, na, os, ag, r, qq⟩ := hm
  have J2 := J.laidN (t' := s1.toks) (a := a) (o := ExV oe a) k ga na (exv_ok ha)
  exact ⟨.ref a, _, ⟨J2.ok, os.trans J2.os, ag, J2.base, J2.loc, J2.cell, J2.free, J2.freeC, J2.pin, J2.hok, J2.len⟩, rfl, qq a oe hz ⟨vs, hd⟩ na⟩
/-- an attribute of it -/
def tXv (K : PySem.W.Frag) (n : Str) (te : TE) : TE := fun σ H Q => te σ H fun x H1 => ∃ (a : Addr) (oe : Obj) (C dd : Addr) (fs : List (Str × V)) (v : V), x = .ref a ∧ H1 a = some (ExV oe a) ∧ Xat K (a, oe) C dd ∧ PySem.W.findIn K (.ref C) n = some none ∧ H1 dd = some (.xd fs) ∧ fs.lookup n = some v ∧ Q v H1
theorem pe_xv {X : Cx} {e : Expr} {te : TE} {pos : Pos} {n : Str} (he : PE X e te) (hb : attributeBase e n X.env (eval e X.env) = eval e X.env := by rfl) : PE X (.Attribute e n pos) (tXv X.K n te) := by
  refine ⟨fun pins s σ H Q I h => attr_of hb (thn (he.run pins s σ H _ I h) fun u s1 hh => ?_)⟩
  obtain ⟨x, H1, I1, rx, a, oe, C, dd, fs, v, ex, hv, T, hno, ea, l, q⟩ := hh
  subst ex
  obtain rfl : u = Value.ref a := rx
  have ha := exv_at I1.hok hv
  obtain ⟨vs, hd⟩ := T.fl
  have hx : ObjOk X.prog X.w H1 s1.heap dd (.xd fs) := I1.hok dd _ ea
  obtain ⟨mA, hns, hr⟩ := hx
  obtain ⟨od, ho, hl⟩ := lookIn_ns hns
  obtain ⟨u, hu, ru⟩ := RelO.some_of (v := v) (o := mA n) (by rw [← l]; exact hr n)
  have J : PySem.W.InstAt s1.heap a oe C (some od) := ⟨ha, T.z.1, by unfold PySem.W.notCls; rw [hd] <;> rfl, by rw [T.z.2]; exact ho⟩
  exact PySem.HandSPX.exc_get I1.kIn J T.xf.ga T.xf.gg T.xf.exC (PySem.W.findObj_own T.xf.hdC hno rfl (by rw [hl, hu])) (handed_of ru) ⟨v, H1, I1.tok _, ru, q⟩
/-! ### lambdas that are kept: made as values, called later -/
section
open PySem.W LamX PySem.Calls
/-- the names of a kept lambda: captured ones, globals, and its own parameters (which the maker does not name) -/
structure LamQ (N : List Str) (sc scope : Scope) : Prop where
  kind : scope.kind = .function
  co : scope.isCoroutine = false
  gen : scope.isGenerator = false
  own : ∀ y ∈ scope.names, y.2 ≠ .cell ∧ (y.2 = .local → y.1 ∉ N)
  free : ∀ y ∈ scope.names, y.2 = .free → sc.names.lookup y.1 = some .cell ∨ sc.names.lookup y.1 = some .free
def lamQB (N : List Str) (sc scope : Scope) : Bool :=
  (decide (scope.kind = .function) && (!scope.isCoroutine && !scope.isGenerator)) && scope.names.all fun y => (!decide (y.2 = .cell) && (!decide (y.2 = .local) || !decide (y.1 ∈ N))) && (!decide (y.2 = .free) || (decide (sc.names.lookup y.1 = some .cell) || decide (sc.names.lookup y.1 = some .free)))
theorem lamQ_by {N : List Str} {sc scope : Scope} (h : lamQB N sc scope = true) : LamQ N sc scope := by
  unfold lamQB at h
  rw [Bool.and_eq_true, Bool.and_eq_true, Bool.and_eq_true, decide_eq_true_eq, Bool.not_eq_true', Bool.not_eq_true'] at h
  obtain ⟨⟨h1, h2, h3⟩, h4⟩ := h
  have each := List.all_eq_true.mp h4
  refine ⟨h1, h2, h3, fun y hy => ⟨fun e => ?_, fun e m => ?_⟩, fun y hy e => ?_⟩
  · have z := each y hy
    simp [e] at z
  · have z := each y hy
    simp [e, m] at z
  · have z := each y hy
    simpa [e] using z
theorem LamQ.has {X : Cx} {scope : Scope} (L : LamQ X.N X.env.scope scope) (ok : X.Ok) {y : Str × NameKind} (hy : y ∈ scope.names) (e : y.2 = .free) : ∃ c, X.env.cells.lookup y.1 = some c :=
  (L.free y hy e).elim (fun k => ok.has _ (.inl k)) fun k => ok.has _ (.inr k)
/-- the object of a lambda -/
abbrev lqO (q : Str) (ps : Arguments) (b : Expr) (sc : Scope) (cl : List (Str × Addr)) (dV doc pm : Value) (c' : Addr) (ct : Value) : Obj := kdv_obj "<lambda>" q ps (.expr b) sc cl dV doc pm c' ct
/-- no default, or the one default 0 in its tuple -/
def DfltAt (H : Hp) (dV : Value) : Bool → Prop
  | false => dV = .none
  | true => ∃ T, dV = .ref T ∧ H T = some (.tup [V.int 0])
def LqAt (X : Cx) (H : Hp) (d : Bool) (ps : Arguments) (b : Expr) (sc : Scope) (f : Addr) : Prop := ∃ (dV doc pm ct : Value) (c' : Addr),
  H f = some (ExV (lqO (X.env.qual ++ "<lambda>") ps b sc (cloFrom X.env.cells sc.names []) dV doc pm c' ct) f) ∧ H c' = some (CodeO c' (X.env.qual ++ "<lambda>")) ∧ DfltAt H dV d
theorem exv_ne_tbl {o : Obj} {a : Addr} (ps : Array Value) : ExV o a ≠ .tbl ps := fun z => by
  unfold ExV at z
  cases z
theorem exv_ne_lst {o : Obj} {a : Addr} (xs : List V) : ExV o a ≠ .lst xs := fun z => by
  unfold ExV at z
  cases z
theorem codeO_ne_lst {c : Addr} {q : Str} (xs : List V) : CodeO c q ≠ .lst xs := fun z => by
  unfold CodeO at z
  cases z
/-- what neither is a list nor a table stays -/
def Keep2 (H H' : Hp) : Prop := ∀ b o, H b = some o → (∀ ps, o ≠ .tbl ps) → (∀ xs, o ≠ .lst xs) → H' b = some o
theorem LqAt.keep {X : Cx} {H H' : Hp} {d : Bool} {ps : Arguments} {b : Expr} {sc : Scope} {f : Addr} (h : LqAt X H d ps b sc f) (k : Keep2 H H') : LqAt X H' d ps b sc f := by
  obtain ⟨dV, doc, pm, ct, c', h1, h2, h3⟩ := h
  refine ⟨dV, doc, pm, ct, c', k _ _ h1 exv_ne_tbl exv_ne_lst, k _ _ h2 codeO_ne codeO_ne_lst, ?_⟩
  cases d with
  | false => exact h3
  | true =>
    obtain ⟨T, e, h3⟩ := h3
    exact ⟨T, e, k _ _ h3 (fun ps z => by cases z) fun xs z => by cases z⟩
section
variable {X : Cx} {pins : List (Addr × Obj)} {σ : L2.St} {H : Hp} {s : Shared}
theorem lq_sup {H : Hp} {a : Addr} {o : HO} (n : H a = none) : ∀ b u, H b = some u → upd H a o b = some u := fun b u e => (upd_ne (ne_of_none e n)).trans e
/-- the function object laid -/
theorem lq_lay {H1 : Hp} {s1 : Shared} {o : Obj} {h2 : Heap} {tk : Nat} (I1 : Inv X pins σ H1 s1) (hf : o.isFreed = false) (eh : h2 = s1.heap.push o) : Inv X pins σ (upd H1 s1.heap.objs.size (ExV o s1.heap.objs.size)) { s1 with heap := h2, toks := tk } := by
  subst eh
  exact I1.laid (fun b u e => Heap.get?_push_of_some _ e) (Nat.le_refl _) (exv_ok (Heap.get?_push_size _ hf))
/-- a lambda is made, its default given -/
theorem lq_make {T : List (Addr × Str)} {c P : Addr} {params : Arguments} {body : Expr} {scope : Scope} {pos : Pos} {dV : Value} {d : Bool} {E : Value → Shared → Prop} {Q : Value → Shared → Prop} (I : Inv X pins σ H s) (TB : TabB X.base X.mg c P) (hcode : X.env.code = .ref c)
    (hm : (P, X.env.qual ++ "<lambda>") ∈ T) (hu : ∀ p ∈ T, p.1 = P → p.2 = X.env.qual ++ "<lambda>") (hT : Tabs T H) (hfree : ∀ y ∈ scope.names, y.2 = .free → ∃ c, X.env.cells.lookup y.1 = some c) (hd : DfltAt H dV d)
    (go : ∀ (f : Addr) (H2 : Hp) (s' : Shared), Inv X pins σ H2 s' → ExtN H H2 → Tabs T H2 → LqAt X H2 d params body scope f → Q (.ref f) s') :
    wpAny (model X.prog X.w) X.A (makeTail "<lambda>" (X.env.qual ++ "<lambda>") params (.expr body) scope X.env dV .none none pos pos.line) Q E s := by
  obtain ⟨ps, hP, ht, ha⟩ := hT _ hm
  have bP : s.heap.BuiltinsAt X.mg P := TB.bm.keeps I.bk
  have hP' : s.heap.get? P = some { cls := .none, data := .fields ps } := I.hok P _ hP
  have last : ∀ (c' : Addr) (doc ctv : Value) (H1 : Hp) (h1 : Heap) (tk : Nat), Inv X pins σ H1 { s with heap := h1, toks := tk } → ExtN H H1 → Tabs T H1 → H1 c' = some (CodeO c' (X.env.qual ++ "<lambda>")) →
      Q (.ref h1.objs.size) { s with heap := h1.push (lqO (X.env.qual ++ "<lambda>") params body scope (cloFrom X.env.cells scope.names []) dV doc ((X.mg "__name__").getD .none) c' ctv), toks := tk } := by
    intro c' doc ctv H1 h1 tk I1 e1 t1 hc1
    have nf : H1 h1.objs.size = none := I1.hok.fresh (Nat.le_refl _)
    have sm : ∀ b u, H1 b = some u → (upd H1 h1.objs.size (ExV (lqO (X.env.qual ++ "<lambda>") params body scope (cloFrom X.env.cells scope.names []) dV doc ((X.mg "__name__").getD .none) c' ctv) h1.objs.size)) b = some u := lq_sup nf
    refine go h1.objs.size _ _ (lq_lay (s1 := { s with heap := h1, toks := tk }) (tk := tk) I1 rfl rfl) (e1.trans (ExtN.of sm)) (t1.ext sm) ⟨_, _, _, _, _, upd_same, sm _ _ hc1, ?_⟩
    cases d with
    | false => exact hd
    | true =>
      obtain ⟨D, e, hd⟩ := hd
      exact ⟨D, e, sm _ _ (e1 _ _ hd (fun _ z => by cases z))⟩
  cases hc : codeAmong pos ps.toList with
  | none =>
    refine kdv_makeTail (mg := X.mg) (c := c) (P := P) (ps := ps) (closure_ok hfree) I.ok.glob (I.mod.glob.keeps I.bk) hcode (TB.code.keeps I.bk) hP' ht hc TB.gP bP fun c' ctv doc h' tk hx hge hlt hrec htb => ?_
    obtain ⟨c2, oc, vs, t, e2, hoc, hdt, hv⟩ := hrec
    cases e2
    have nC : H c' = none := I.hok.fresh hge
    have I1 := inv_table (t' := tk) (more := #[rawInt pos.line, rawInt pos.col, .ref c']) (h' := h') (c := c') (q := X.env.qual ++ "<lambda>") I hP hx htb hge ⟨oc, vs, t, hoc, hdt, hv⟩
    have hE : ExtN H (upd (upd H P (.tbl (ps ++ #[rawInt pos.line, rawInt pos.col, .ref c']))) c' (CodeO c' (X.env.qual ++ "<lambda>"))) := by
      intro b o e n
      have b1 : b ≠ P := fun z => n ps (Option.some.inj (e.symm.trans (by rw [z]; exact hP)))
      rw [upd_ne (ne_of_none e nC), upd_ne b1]
      exact e
    refine last c' doc ctv _ _ _ I1 hE (fun p hp => ?_) upd_same
    by_cases hb : p.1 = P
    · have eL : (ps ++ #[rawInt pos.line, rawInt pos.col, .ref c']).toList = ps.toList ++ [rawInt pos.line, rawInt pos.col, .ref c'] := by simp
      rw [hu p hp hb, hb]
      refine ⟨_, (upd_ne (ne_of_none hP nC)).trans upd_same, eL ▸ PySem.TriplesOk_snoc _ _ _ _ ht, fun p' cv hcv => ?_⟩
      rw [eL] at hcv
      rcases among_app _ ht hcv with z | z
      · obtain ⟨c0, e1, e2⟩ := ha p' cv z
        exact ⟨c0, e1, hE _ _ e2 codeO_ne⟩
      · exact ⟨c', z, upd_same⟩
    · obtain ⟨ps', a1, a2, a3⟩ := hT p hp
      refine ⟨ps', (upd_ne (ne_of_none a1 nC)).trans ((upd_ne hb).trans a1), a2, fun p' cv hcv => ?_⟩
      obtain ⟨c0, e1, e2⟩ := a3 p' cv hcv
      exact ⟨c0, e1, hE _ _ e2 codeO_ne⟩
  | some cv =>
    obtain ⟨c', e, hco⟩ := ha pos cv hc
    subst e
    refine kdv_makeTailHit (mg := X.mg) (c := c) (P := P) (ps := ps) (closure_ok hfree) I.ok.glob (I.mod.glob.keeps I.bk) hcode (TB.code.keeps I.bk) hP' ht hc bP fun ctv doc h' tk hx hsz => ?_
    exact last c' doc ctv H h' tk (I.kept hx) (ExtN.refl H) hT hco
end
end
/-! ### a kept lambda is entered -/
section
open PySem.W LamX PySem.Calls
/-- an address of a cell of the maker's -/
def isC (X : Cx) (c : Addr) : Prop := ∃ x, X.env.cells.lookup x = some c
open Classical in
/-- without the maker's cells -/
noncomputable def minC (X : Cx) (H : Hp) : Hp := fun b => if isC X b then none else H b
open Classical in
/-- with the cells as they stand in G -/
noncomputable def putC (X : Cx) (G H : Hp) : Hp := fun b => if isC X b then G b else H b
theorem minC_c {X : Cx} {H : Hp} {b : Addr} (h : isC X b) : minC X H b = none := if_pos h
theorem minC_n {X : Cx} {H : Hp} {b : Addr} (h : ¬ isC X b) : minC X H b = H b := if_neg h
theorem putC_c {X : Cx} {G H : Hp} {b : Addr} (h : isC X b) : putC X G H b = G b := if_pos h
theorem putC_n {X : Cx} {G H : Hp} {b : Addr} (h : ¬ isC X b) : putC X G H b = H b := if_neg h
/-- the maker's cells stand in the heap, with the values of its names -/
structure CellsAt (X : Cx) (σ : List (Option V)) (H : Hp) : Prop where
  all : ∀ c, isC X c → ∃ o w, H c = some (.frz o (.own 0)) ∧ o.data = .cell w
  at_ : ∀ (i : Nat) (x : Str) (v : V), X.N[i]? = some x → σ[i]? = some (some v) → (X.env.scope.names.lookup x = some .cell ∨ X.env.scope.names.lookup x = some .free) → ∃ c o u, X.env.cells.lookup x = some c ∧ H c = some (.frz o (.own 0)) ∧ o.data = .cell (some u) ∧ RelV v u
section
variable {X : Cx} {σ : L2.St} {HZ H' : Hp} {s : Shared}
theorem CellsAt.not_own (C : CellsAt X σ HZ) {b a : Addr} (h : HZ b = some (.own a)) : ¬ isC X b := fun z => by
  obtain ⟨o, w, e, _⟩ := C.all b z
  rw [h] at e
  cases e
theorem CellsAt.not_tup (C : CellsAt X σ HZ) {b : Addr} {xs : List V} (h : HZ b = some (.tup xs)) : ¬ isC X b := fun z => by
  obtain ⟨o, w, e, _⟩ := C.all b z
  rw [h] at e
  cases e
theorem CellsAt.not_tbl (C : CellsAt X σ HZ) {b : Addr} {xs : Array Value} (h : HZ b = some (.tbl xs)) : ¬ isC X b := fun z => by
  obtain ⟨o, w, e, _⟩ := C.all b z
  rw [h] at e
  cases e
theorem CellsAt.not_none (C : CellsAt X σ HZ) {b : Addr} (h : HZ b = none) : ¬ isC X b := fun z => by
  obtain ⟨o, w, e, _⟩ := C.all b z
  rw [h] at e
  cases e
theorem minC_none {b : Addr} (h : HZ b = none) : minC X HZ b = none := by
  by_cases z : isC X b
  · exact minC_c z
  · rw [minC_n z, h]
theorem minC_hok {P : Program} {w : World} {h : Heap} (C : CellsAt X σ HZ) (hok : HOk P w HZ h) : HOk P w (minC X HZ) h := by
  intro a o e
  have na : ¬ isC X a := fun z => by
    rw [minC_c z] at e
    cases e
  rw [minC_n na] at e
  refine (hok a o e).stay (fun b u _ q => q) (fun b q => ?_) fun b xs q => ?_
  · rw [minC_n (C.not_own q)]
    exact q
  · rw [minC_n (C.not_tup q)]
    exact q
theorem minC_env {P : Program} {w : World} {K : PySem.W.Frag} {mg : Str → Option Value} {base : Heap} {A : Around} {outer : List Env} (C : CellsAt X σ HZ) (e0 : Env0 P w K mg base A outer s HZ) : Env0 P w K mg base A outer s (minC X HZ) :=
  ⟨e0.frames, e0.mod, fun b o e => ⟨(e0.bs b o e).1, minC_none (e0.bs b o e).2⟩, e0.bsz, e0.funs, fun b hb => minC_none (e0.frf b hb), minC_hok C e0.hok, e0.bare⟩
/-- behind the lambda: the cells are put back -/
theorem putC_un {P : Program} {w : World} {K : PySem.W.Frag} {mg : Str → Option Value} {base : Heap} {A : Around} {outer : List Env} {h' : Heap} (C : CellsAt X σ HZ) (e0 : Env0 P w K mg base A outer s HZ) (un : Un (frs outer) [] (minC X HZ) H' s.heap h') :
    (∀ c, isC X c → H' c = none) ∧ Un (frs outer) [] HZ (putC X HZ H') s.heap h' := by
  have cell : ∀ c, isC X c → ∃ o, HZ c = some (.frz o (.own 0)) ∧ s.heap.get? c = some o := fun c hc => by
    obtain ⟨o, w, e, _⟩ := C.all c hc
    exact ⟨o, e, (show s.heap.get? c = some o ∧ _ from e0.hok c _ e).1⟩
  refine ⟨fun c hc => ?_, ⟨fun b o q n => un.keep b o q (minC_none n), fun b o q n => un.slot b o q (minC_none n), fun b o q n hx => ?_, un.there, fun b xs q => ?_, fun b o u q => ?_, fun b ps q => ?_⟩⟩
  · obtain ⟨o, e, g⟩ := cell c hc
    exact un.free c o g (minC_c hc) (by simp)
  · rw [putC_n (C.not_none n)]
    exact un.free b o q (minC_none n) hx
  · have nb := C.not_tup q
    rw [putC_n nb]
    exact un.tups b xs ((minC_n nb).trans q)
  · by_cases z : isC X b
    · rw [putC_c z]
      exact q
    · rw [putC_n z]
      exact un.frzs b o u ((minC_n z).trans q)
  · have nb := C.not_tbl q
    obtain ⟨more, e⟩ := un.tbls b ps ((minC_n nb).trans q)
    exact ⟨more, (putC_n nb).trans e⟩
theorem putC_hok {P : Program} {w : World} {h' : Heap} (C : CellsAt X σ HZ) (none_ : ∀ c, isC X c → H' c = none) (cells : ∀ c o, HZ c = some (.frz o (.own 0)) → isC X c → h'.get? c = some o) (hok : HOk P w H' h') : HOk P w (putC X HZ H') h' := by
  intro a o e
  by_cases z : isC X a
  · rw [putC_c z] at e
    obtain ⟨o1, w1, e1, _⟩ := C.all a z
    rw [e1] at e
    cases e
    exact ⟨cells a o1 e1 z, o1, cells a o1 e1 z⟩
  · rw [putC_n z] at e
    have out : ∀ {b : Addr} {u : HO}, H' b = some u → putC X HZ H' b = some u := fun {b u} q => by
      have nb : ¬ isC X b := fun y => by
        rw [none_ b y] at q
        cases q
      exact (putC_n nb).trans q
    exact (hok a o e).stay (fun b u _ q => q) (fun b q => out q) fun b xs q => out q
end
section
variable {X : Cx} {σ : L2.St} {HZ : Hp} {s1 : Shared}
theorem lq_start {A : Around} {outer : List Env} {E : XK} {scope : Scope} {f c' : Addr} {h₁ : Heap} {tk : Nat} {binds : List (Str × Value)} (ok : X.Ok) (len : σ.length = X.N.length) (L : LamQ X.N X.env.scope scope) (e0 : Env0 X.prog X.w X.K X.mg X.base A outer s1 HZ) (hd : A.handled = none)
    (C : CellsAt X σ HZ) (hns : h₁.Ns s1.heap.objs.size fun y => binds.reverse.lookup y) (kp : ∀ b o, s1.heap.get? b = some o → h₁.get? b = some o) :
    Inv (lamCx X A outer s1 (minC X HZ) E scope f c') [] σ (minC X HZ) { s1 with heap := h₁, toks := tk } := by
  have e1 := minC_env C e0
  have cm : ∀ {y c}, (cloFrom X.env.cells scope.names []).lookup y = some c → X.env.cells.lookup y = some c := by
    intro y c e
    rcases cloFrom_mem (PySem.mem_of_lookup e) with hm | ⟨h1, h2⟩
    · cases hm
    · obtain ⟨c1, hc⟩ := L.has ok h1 rfl
      have hc' : X.env.cells.lookup y = some c1 := hc
      have h3 : c = c1 := by
        rw [h2, hc'] <;> rfl
      exact h3 ▸ hc'
  have look : ∀ {y}, scope.names.lookup y = some .free → ∃ c, (cloFrom X.env.cells scope.names []).lookup y = some c := by
    intro y hl
    have hy : (y, NameKind.free) ∈ scope.names := PySem.mem_of_lookup hl
    exact mem_lookup (cloFrom_has (cells := X.env.cells) (acc := []) hy)
  have inC : ∀ {y c}, (cloFrom X.env.cells scope.names []).lookup y = some c → isC X c := fun {y c} e => ⟨y, cm e⟩
  have cellK : ∀ {c : Addr} {o : Obj} {v : Option Value}, HZ c = some (.frz o (.own 0)) → o.data = .cell v → h₁.IsCell c v := by
    intro c o v e d
    have g : s1.heap.get? c = some o ∧ _ := e0.hok c _ e
    exact ⟨o, kp _ _ g.1, d⟩
  have noA : ∀ b : Addr, b ∉ (lamCx X A outer s1 (minC X HZ) E scope f c').ex := fun b z => absurd (show b ∈ ([] : List Addr) from z) (by simp)
  refine ⟨⟨e1.mod, L.kind, rfl, rfl, Nat.le_refl _, fun y z c q1 q2 => ok.inj y z c (cm q1) (cm q2), fun y hy => ?_, fun y c z _ => ?_, fun _ => hd, Around.frames_deeper e1.frames, .inr ⟨rfl, rfl⟩, fun b z => absurd z (noA b), e1.bs, e1.bsz, fun b _ _ => noA b, fun b z => absurd z (noA b), e1.funs, e1.frf⟩,
    rfl, e1.bare, Un.kept kp, ⟨_, hns, fun i y v q1 q2 q3 => ?_⟩, fun y c e => ?_, e1.hok.fresh (Nat.le_refl _), fun y c e => minC_c (inC e), fun q hq => absurd (show q ∈ ([] : List (Addr × Obj)) ++ [] from hq) (by simp), e1.hok.kept kp, len⟩
  · have hy : scope.names.lookup y = some .cell ∨ scope.names.lookup y = some .free := hy
    rcases hy with hy | hy
    · exact absurd rfl (L.own _ (PySem.mem_of_lookup hy)).1
    · exact look hy
  · have z : false = true := z
    cases z
  · have q3 : Vis scope y := q3
    rcases q3 with k | k | k
    · exact absurd (List.mem_of_getElem? q1) ((L.own _ (PySem.mem_of_lookup k)).2 rfl)
    · exact absurd rfl (L.own _ (PySem.mem_of_lookup k)).1
    · obtain ⟨c2, h2⟩ := look k
      obtain ⟨c, o, u, g1, g2, g3, g4⟩ := C.at_ i y v q1 q2 (L.free _ (PySem.mem_of_lookup k) rfl)
      have c1 := cm h2
      rw [c1] at g1
      cases g1
      exact ⟨u, g4, .inr ⟨.inr k, c2, h2, cellK g2 g3⟩⟩
  · obtain ⟨o, w, g1, g2⟩ := C.all c (inC e)
    exact ⟨w, cellK g1 g2⟩
/-- how the lambda takes no argument; d: it has a default -/
def LqBind (ps : Arguments) (sc : Scope) (d : Bool) : Prop := ∃ binds : List Value → List (Str × Value), (∀ its, ∀ y ∈ binds its, sc.names.lookup y.1 = some .local) ∧
  ∀ (q : Str) (b : Expr) (cl : List (Str × Addr)) (doc pm cdv ct : Value), (d = false → bindArgs (kdv_fn "<lambda>" q ps (.expr b) sc cl .none doc pm cdv ct) ⟨[], []⟩ = pure (binds [])) ∧
   (d = true → ∀ T : Addr, ∃ k, bindArgs (kdv_fn "<lambda>" q ps (.expr b) sc cl (.ref T) doc pm cdv ct) ⟨[], []⟩ = seqItems? (.ref T) >>= k ∧ ∀ u, k (some #[u]) = pure (binds [u]))
end
end
/-! ### a kept lambda is called -/
section
open PySem.W LamX PySem.Calls
section
variable {X : Cx} {σ : L2.St} {HZ : Hp} {s : Shared}
theorem lq_items {its : List Value} {T : Addr} {k : Option (Array Value) → Sem (List (Str × Value))} {r : List (Str × Value)} {A : Around} {Q : List (Str × Value) → Shared → Prop} {E : Value → Shared → Prop} {P : Program} {w : World} {ob : Obj} {n : Nat}
    (ho : s.heap.get? T = some ob) (hd : ob.data = .seq its.toArray n) (e : k (some its.toArray) = pure r) (q : Q r s) : wpAny (model P w) A (seqItems? (.ref T) >>= k) Q E s := by
  refine wpAny_bind (wpAny_seqItems ho hd ?_)
  rw [e]
  exact wpAny_pure q
/-- from any place: the lambda at f is called -/
theorem lq_call {k : Nat} {A : Around} {outer : List Env} {d : Bool} {ps : Arguments} {body : Expr} {scope : Scope} {t : XK → TE} {f : Addr} {Q : VK} {E : XK} (ok : X.Ok) (len : σ.length = X.N.length) (L : LamQ X.N X.env.scope scope) (B : LqBind ps scope d)
    (hbody : ∀ (A : Around) (outer : List Env) (s : Shared) (H : Hp) (E : XK) (f c' : Addr), Room k (A.deeper (lamEnv X scope s.heap.objs.size f c')) → PE (lamCx X A outer s H E scope f c') body (t E))
    (hr : Room (k + 1) A) (e0 : Env0 X.prog X.w X.K X.mg X.base A outer s HZ) (C : CellsAt X σ HZ) (hf : LqAt X HZ d ps body scope f)
    (h : t (fun cls d H' => (∀ c, isC X c → H' c = none) → E cls d (putC X HZ H')) σ (minC X HZ) (fun v H' => (∀ c, isC X c → H' c = none) → Q v (putC X HZ H'))) :
    codeAny (model X.prog X.w) A (.call (.ref f) ⟨[], []⟩) (CR (L2.CX X.prog X.w) outer X.prog X.w HZ s Q E) s := by
  obtain ⟨dV, doc, pm, ct, c', h1, h2, h3⟩ := hf
  have ho := exv_at e0.hok h1
  obtain ⟨⟨oc, vs, tq, hoc, hdc, hvc⟩, _, _⟩ := e0.hok c' _ h2
  have cell : ∀ c o, HZ c = some (.frz o (.own 0)) → isC X c → s.heap.get? c = some o ∧ c ∉ frs outer := fun c o e hc => by
    refine ⟨(show s.heap.get? c = some o ∧ _ from e0.hok c _ e).1, fun z => ?_⟩
    rw [e0.frf c z] at e
    cases e
  refine PySem.W.kla_callFunE hr.depth ho rfl L.co L.gen rfl ⟨c', oc, vs, tq, rfl, hoc, hdc, hvc⟩ ?_
  obtain ⟨binds, b1, bB⟩ := B
  obtain ⟨b2, b3⟩ := bB (X.env.qual ++ "<lambda>") body (cloFrom X.env.cells scope.names []) doc pm (.ref c') ct
  have lim : s.heap.NoLimit := e0.mod.nolimit.keeps fun b o e => (e0.bs b o e).1
  have go : ∀ its : List Value, wpAny (model X.prog X.w) A.in1 (newFunctionEnv scope mainGlobals (cloFrom X.env.cells scope.names []) (binds its) ((X.env.qual ++ "<lambda>") ++ ".<locals>.") (some f) (.ref c') none builtinsNs)
      (fun env s₂ => s₂.heap.NoLimit ∧ codeAny (model X.prog X.w) A (.expr body env) (CR (L2.CX X.prog X.w) outer X.prog X.w HZ s Q E) s₂) (fun e s' => CR (L2.CX X.prog X.w) outer X.prog X.w HZ s Q E (.error e) s') s := by
    intro its
    refine wpAny_newFunctionEnv (fun y hy => (L.own y hy).1) (b1 its) (fun h₁ hns hsb => ⟨lim.fresh _ hsb, ?_⟩) L.kind
    show codeAny _ _ (.expr body (lamEnv X scope s.heap.objs.size f c')) _ _
    have kp : ∀ b o, s.heap.get? b = some o → h₁.get? b = some o := fun b o e => hsb.extBut b o (Nat.ne_of_lt (Heap.lt_size e)) (Heap.get?_push_of_some _ e)
    have J := lq_start (E := fun cls d H' => (∀ c, isC X c → H' c = none) → E cls d (putC X HZ H')) (f := f) (c' := c') (tk := s.toks + (binds its).length) ok len L e0 hr.hd C hns kp
    refine PySem.W.kla_codeExpr (wpAny_mono ((hbody A outer s (minC X HZ) _ f c' (hr.deeper _)).run [] _ _ _ _ J h) (fun v s' hq => ?_) fun e s' hq => ?_)
    · obtain ⟨w', H', J', rv, q⟩ := hq
      obtain ⟨nn, un⟩ := putC_un C e0 J'.base
      refine ⟨w', putC X HZ H', J'.os, J'.bare, un, putC_hok C nn (fun c o e hc => ?_) J'.hok, rv, q nn⟩
      obtain ⟨g1, g2⟩ := cell c o e hc
      exact J'.base.keep c o g1 (minC_c hc) g2 (fun z => absurd (show c ∈ ([] : List Addr) from z) (by simp))
    · refine wpAny_mono hq (fun _ s2 z => ?_) fun e2 s2 z => ?_
      all_goals
        obtain ⟨a, B0, H', cls, d, rfl, fl, hok, ub, na, os, ag, hE⟩ := z
        have nn : ∀ c, isC X c → H' c = none := fun c hc => by
          obtain ⟨o, w, e, _⟩ := C.all c hc
          exact ub.free c o (cell c o e hc).1 (minC_c hc)
        have B1 : ∀ c o, HZ c = some (.frz o (.own 0)) → isC X c → B0.get? c = some o := fun c o e hc => ub.keep c o (cell c o e hc).1 (minC_c hc) (cell c o e hc).2
        refine ⟨a, B0, putC X HZ H', cls, d, rfl, fl, putC_hok C nn B1 hok, ⟨fun b o q n => ub.keep b o q (minC_none n), ub.slot, fun b o q n => ?_, ub.there, fun b xs q => ?_, fun b o u q => ?_, fun b ps q => ?_⟩, ?_, os, ag, hE nn⟩
        · rw [putC_n (C.not_none n)]
          exact ub.free b o q (minC_none n)
        · have nb := C.not_tup q
          rw [putC_n nb]
          exact ub.tups b xs ((minC_n nb).trans q)
        · by_cases y : isC X b
          · rw [putC_c y]
            exact q
          · rw [putC_n y]
            exact ub.frzs b o u ((minC_n y).trans q)
        · have nb := C.not_tbl q
          obtain ⟨more, e⟩ := ub.tbls b ps ((minC_n nb).trans q)
          exact ⟨more, (putC_n nb).trans e⟩
        · by_cases y : isC X a
          · obtain ⟨o, w, e, _⟩ := C.all a y
            have g := B1 a o e y
            rw [fl.2.1] at g
            cases g
          · rw [putC_n y]
            exact na
  cases d with
  | false =>
    obtain rfl : dV = .none := h3
    rw [show bindArgs _ _ = _ from b2 rfl]
    exact wpAny_pure (go _)
  | true =>
    obtain ⟨T, e, hT⟩ := h3
    subst e
    obtain ⟨k', e1, e2⟩ := b3 rfl T
    rw [show bindArgs _ _ = _ from e1]
    obtain ⟨_, its, rv, ob, g1, g2, n, g3⟩ := (show ObjOk X.prog X.w HZ s.heap T (.tup [V.int 0]) from e0.hok T _ hT)
    cases rv with
    | cons r1 r2 =>
      cases r2
      exact lq_items (its := [_]) g1 g3 (e2 _) (go _)
end
/-! ### the lambda as a value -/
/-- at f: a lambda without arguments that is read as t tells -/
def LqT (X : Cx) (k : Nat) (t : XK → TE) (H : Hp) (f : Addr) : Prop := ∃ (d : Bool) (ps : Arguments) (body : Expr) (scope : Scope), LamQ X.N X.env.scope scope ∧ LqBind ps scope d ∧
  (∀ (A : Around) (outer : List Env) (s : Shared) (H : Hp) (E : XK) (f c' : Addr), Room k (A.deeper (lamEnv X scope s.heap.objs.size f c')) → PE (lamCx X A outer s H E scope f c') body (t E)) ∧ LqAt X H d ps body scope f
theorem LqT.keep {X : Cx} {k : Nat} {t : XK → TE} {H H' : Hp} {f : Addr} (h : LqT X k t H f) (s : Keep2 H H') : LqT X k t H' f := by
  obtain ⟨d, ps, body, scope, L, B, b, l⟩ := h
  exact ⟨d, ps, body, scope, L, B, b, l.keep s⟩
def tLq (X : Cx) (T : List (Addr × Str)) (k : Nat) (t : XK → TE) : TE := fun _ H Q => Tabs T H ∧ ∀ f H2, ExtN H H2 → Tabs T H2 → LqT X k t H2 f → Q (.ref f) H2
section
variable {X : Cx} {T : List (Addr × Str)} {c P : Addr} {k : Nat} {params : Arguments} {body : Expr} {scope : Scope} {pos : Pos} {t : XK → TE}
theorem pe_lq (TB : TabB X.base X.mg c P) (hcode : X.env.code = .ref c) (hm : (P, X.env.qual ++ "<lambda>") ∈ T) (hu : ∀ p ∈ T, p.1 = P → p.2 = X.env.qual ++ "<lambda>") (L : LamQ X.N X.env.scope scope) (B : LqBind params scope false)
    (hbody : ∀ (A : Around) (outer : List Env) (s : Shared) (H : Hp) (E : XK) (f c' : Addr), Room k (A.deeper (lamEnv X scope s.heap.objs.size f c')) → PE (lamCx X A outer s H E scope f c') body (t E))
    (hdef : defaultsOf params X.env = ([], []) := by rfl) : PE X (.Lambda params body scope pos) (tLq X T k t) := by
  refine ⟨fun pins s σ H Q I h => ?_⟩
  refine PySem.W.kla_eval hdef ?_
  rw [makeFunction_eq, List.zip_nil_right, List.filterMap_nil]
  simp only [List.isEmpty_nil, if_true, pure_bind]
  exact lq_make I TB hcode hm hu h.1 (fun y hy e => L.has I.ok hy e) (d := false) rfl fun f H2 s' I2 e1 t1 l => ⟨.ref f, H2, I2, rfl, h.2 f H2 e1 t1 ⟨false, params, body, scope, L, B, hbody, l⟩⟩
theorem pe_lqD {j : Nat} {cp : Pos} (TB : TabB X.base X.mg c P) (hcode : X.env.code = .ref c) (hm : (P, X.env.qual ++ "<lambda>") ∈ T) (hu : ∀ p ∈ T, p.1 = P → p.2 = X.env.qual ++ "<lambda>") (L : LamQ X.N X.env.scope scope) (B : LqBind params scope true)
    (hbody : ∀ (A : Around) (outer : List Env) (s : Shared) (H : Hp) (E : XK) (f c' : Addr), Room k (A.deeper (lamEnv X scope s.heap.objs.size f c')) → PE (lamCx X A outer s H E scope f c') body (t E))
    (hdef : defaultsOf params X.env = ([eval (.Constant (.int 0) j cp) X.env], []) := by rfl) : PE X (.Lambda params body scope pos) (tLq X T k t) := by
  refine ⟨fun pins s σ H Q I h => ?_⟩
  rw [arm_eval_Lambda, hdef]
  show wpAny _ _ (do let dv ← evalAll [eval (.Constant (.int 0) j cp) X.env]; let kdv ← holding dv (evalAllOpt []); makeFunction "<lambda>" (X.env.qual ++ "<lambda>") params (.expr body) scope X.env dv kdv [] pos pos.line) _ _ s
  refine wpAny_bind (wpAny_evalAll_cons (thn ((pe_int (X := X) (i := 0)).run pins s σ H (fun v H1 => v = .int 0 ∧ H1 = H) I ⟨rfl, rfl⟩) fun u s1 hq => ?_))
  obtain ⟨v, H1, I1, r1, rfl, rfl⟩ := hq
  refine wpAny_evalAll_nil (wpAny_bind (wpAny_holding (wpAny_pure ?_)))
  rw [makeFunction_eq, List.zip_nil_right, List.filterMap_nil]
  simp only [List.isEmpty_nil, if_true, pure_bind]
  rw [if_neg (show ¬ (([u] : List Value).isEmpty = true) from Bool.false_ne_true)]
  refine wpAny_bind (wpAny_newTextTuple ?_)
  have I2 : Inv X pins σ (upd H1 s1.heap.objs.size (.tup [V.int 0])) { s1 with heap := s1.heap.push { cls := .type "tuple", data := .seq [u].toArray }, toks := s1.toks } :=
    I1.laid (fun b w e => Heap.get?_push_of_some _ e) (Nat.le_refl _) ⟨Nat.le_trans (by decide : 1 ≤ 1000) (Nat.le_of_lt (small1000 (Nat.le_refl _))), [u], .cons r1 .nil, _, Heap.get?_push_size _ rfl, rfl, _, rfl⟩
  have nn : H1 s1.heap.objs.size = none := I1.hok.fresh (Nat.le_refl _)
  have sm := lq_sup (o := .tup [V.int 0]) nn
  exact lq_make I2 TB hcode hm hu (h.1.ext sm) (fun y hy e => L.has I.ok hy e) (d := true) ⟨_, rfl, upd_same⟩ fun f H2 s' I3 e1 t1 l => ⟨.ref f, H2, I3, rfl, h.2 f H2 ((ExtN.of sm).trans e1) t1 ⟨true, params, body, scope, L, B, hbody, l⟩⟩
end
end
/-! ### .. by a name of any def, and out of the maker -/
section
open PySem.W LamX PySem.Calls
/-- what the caller sees of a kept lambda's run -/
def tRun (X : Cx) (σ : List (Option V)) (t : XK → TE) (E : XK) (HZ : Hp) (Q : VK) : Prop := t (fun cls d H' => (∀ c, isC X c → H' c = none) → E cls d (putC X HZ H')) σ (minC X HZ) (fun v H' => (∀ c, isC X c → H' c = none) → Q v (putC X HZ H'))
section
variable {X : Cx} {σ : L2.St}
theorem pe_lqact {CXg : CXT} {Eg : XK} {Ng : List Str} {qg : Str} {sg : Scope} {g : Addr} {cdg : Value} {A0 : Around} {outer0 : List Env} {sE : Shared} {HE : Hp} {pn : List (Addr × Obj)} {xe : Value → Shared → Prop} {W : WX} {E : XK} {p1 p2 : Pos} {i k : Nat} {a : Str} {f : Addr} {t : XK → TE}
    (ok : X.Ok) (len : σ.length = X.N.length) (tk : Takes ((cxOf CXg X.prog X.w X.K X.mg X.base Ng qg sg g cdg A0 outer0 sE HE Eg).tr pn xe) W) (hW : ∀ cls d σ' H', E cls d H' → W cls d σ' H') (hr : Room (k + 1) (A0.deeper (envOfC qg sg sE.heap.objs.size g cdg)))
    (hN : Ng[i]? = some a) (hv : Vis sg a) (hd : (a == ("__debug__" : Str)) = false := by decide) (hcd : (a == ("__classdict__" : Str)) = false := by decide) :
    PE ((cxOf CXg X.prog X.w X.K X.mg X.base Ng qg sg g cdg A0 outer0 sE HE Eg).tr pn xe) (.Call (.Name a p1) [] [] p2)
      (fun σZ HZ Q => σZ[i]? = some (some (.ref f)) ∧ LqT X k t HZ f ∧ CellsAt X σ HZ ∧ tRun X σ t E HZ Q) := by
  refine ⟨fun pinsZ sZ σZ HZ Q IZ h => ?_⟩
  obtain ⟨hs, ⟨d, ps, body, scope, L, B, hbody, hl⟩, C, ht⟩ := h
  refine wpAny_Call_Name_kw (thn ((pe_var (pos := p1) (i := i) hN hv hd hcd).run pinsZ sZ σZ HZ (fun v H1 => v = .ref f ∧ H1 = HZ) IZ ⟨.ref f, hs, rfl, rfl⟩) fun u s1 hq => ?_)
  obtain ⟨v, H1, I1, r1, rfl, rfl⟩ := hq
  cases (show u = Value.ref f from r1)
  obtain ⟨dV, doc, pm, ct, c', h1, _⟩ := id hl
  refine PySem.W.callWith_F0 ⟨_, _, _, _, exv_at I1.hok h1⟩ ?_
  refine wpAny_call (codeAny_mono (lq_call (X := X) (E := E) (Q := Q) ok len L B hbody hr I1.env0 C hl ht) fun r s' hq => ?_)
  have hx : Passes (L2.CX X.prog X.w) ((cxOf CXg X.prog X.w X.K X.mg X.base Ng qg sg g cdg A0 outer0 sE HE Eg).tr pn xe) E := passes_call tk hW
  cases r with
  | error e => exact hx pinsZ σZ H1 s1 e s' I1 hq
  | ok fl =>
    cases fl with
    | ret u => exact I1.after hq
    | next => exact False.elim hq
    | brk => exact False.elim hq
    | cont => exact False.elim hq
end
/-! ### the maker calls a def with its cells told -/
open Classical in
/-- with the maker's cells as they stand in h -/
noncomputable def hpC (X : Cx) (h : Heap) (H : Hp) : Hp := fun b => if isC X b then (match h.get? b with | some o => some (.frz o (.own 0)) | none => none) else H b
theorem hpC_n {X : Cx} {h : Heap} {H : Hp} {b : Addr} (z : ¬ isC X b) : hpC X h H b = H b := if_neg z
theorem hpC_c {X : Cx} {h : Heap} {H : Hp} {b : Addr} {o : Obj} (z : isC X b) (e : h.get? b = some o) : hpC X h H b = some (.frz o (.own 0)) := by
  unfold hpC
  rw [if_pos z, e]
section
variable {X : Cx} {pins : List (Addr × Obj)} {σ : L2.St} {H : Hp} {s : Shared}
theorem hpC_cells (I : Inv X pins σ H s) : CellsAt X σ (hpC X s.heap H) := by
  refine ⟨fun c hc => ?_, fun i x v e1 e2 e3 => ?_⟩
  · obtain ⟨x, e⟩ := id hc
    obtain ⟨w, o, ho, hd⟩ := I.cell x c e
    exact ⟨o, w, hpC_c hc ho, hd⟩
  · obtain ⟨m, hn, hl⟩ := I.loc
    obtain ⟨u, r, q⟩ := hl i x v e1 e2 (e3.elim (fun z => .inr (.inl z)) fun z => .inr (.inr z))
    rcases q with ⟨k', _⟩ | ⟨_, c, e', o, ho, hd⟩
    · have k' : X.env.scope.names.lookup x = some .local := k'
      rcases e3 with k2 | k2 <;> rw [k2] at k' <;> cases k'
    · exact ⟨c, o, u, e', hpC_c ⟨x, e'⟩ ho, hd, r⟩
theorem hpC_keep (I : Inv X pins σ H s) : ∀ b o, H b = some o → hpC X s.heap H b = some o := fun b o e => by
  have nb : ¬ isC X b := fun ⟨x, z⟩ => by
    rw [I.freeC x b z] at e
    cases e
  rw [hpC_n nb]
  exact e
theorem hpC_hok (I : Inv X pins σ H s) : HOk X.prog X.w (hpC X s.heap H) s.heap := by
  intro a o e
  by_cases z : isC X a
  · obtain ⟨x, ex⟩ := id z
    obtain ⟨w, ob, ho, hd⟩ := I.cell x a ex
    rw [hpC_c z ho] at e
    cases e
    exact ⟨ho, ob, ho⟩
  · rw [hpC_n z] at e
    exact (I.hok a o e).stay (fun b u _ q => q) (fun b q => hpC_keep I _ _ q) fun b xs q => hpC_keep I _ _ q
theorem cell_out (hfn : ∀ x, X.fn x = true) (I : Inv X pins σ H s) {b : Addr} (z : isC X b) : X.base.get? b = none ∧ b ∉ frs X.stack := by
  obtain ⟨x, e⟩ := z
  have ge : X.s_0.heap.objs.size ≤ b := I.ok.cab x b (hfn x) e
  have out : b ∉ frs X.outer := fun hb => by
    obtain ⟨_, o, ho, _⟩ := I.ok.funs.mem hb
    exact Nat.lt_irrefl _ (Nat.lt_of_lt_of_le (Heap.lt_size ho) ge)
  refine ⟨Heap.get?_none_of_le (Nat.le_trans I.ok.bsz ge), ?_⟩
  rcases I.ok.stk with h | ⟨h, hf⟩
  · rw [h]
    exact out
  · rw [h]
    intro hb
    have hb' : b ∈ (X.env :: X.outer).filterMap (·.frame) := hb
    rw [List.filterMap_cons, hf] at hb'
    rcases List.mem_cons.mp hb' with e2 | e2
    · obtain ⟨v, o, ho, hd⟩ := I.cell x b e
      obtain ⟨m, ⟨o2, es, ep, ho2, hd2, _⟩, _⟩ := I.loc
      rw [e2, ho2] at ho
      cases ho
      rw [hd2] at hd
      cases hd
    · exact out e2
theorem hpC_env (hfn : ∀ x, X.fn x = true) (I : Inv X pins σ H s) : Env0 X.prog X.w X.K X.mg X.base X.A X.stack s (hpC X s.heap H) := by
  have e0 := I.env0
  refine ⟨e0.frames, e0.mod, fun b o e => ⟨(e0.bs b o e).1, ?_⟩, e0.bsz, e0.funs, fun b hb => ?_, hpC_hok I, e0.bare⟩
  · have nb : ¬ isC X b := fun z => by
      have q := (cell_out hfn I z).1
      rw [e] at q
      cases q
    rw [hpC_n nb]
    exact (e0.bs b o e).2
  · have nb : ¬ isC X b := fun z => (cell_out hfn I z).2 hb
    rw [hpC_n nb]
    exact e0.frf b hb
theorem hpC_after {Q : VK} {u : Value} {s' : Shared} (I : Inv X pins σ H s) (h : CE X.stack X.prog X.w (hpC X s.heap H) s (fun v H' => Q v (minC X H')) u s') : EP X pins σ Q u s' := by
  obtain ⟨v, H', os, bare, un, hok, r, q⟩ := h
  have C := hpC_cells I
  have back : ∀ c, isC X c → ∃ o, H' c = some (.frz o (.own 0)) ∧ hpC X s.heap H c = some (.frz o (.own 0)) := fun c hc => by
    obtain ⟨o, w, e, _⟩ := C.all c hc
    exact ⟨o, un.frzs c o _ e, e⟩
  have nn : ∀ {b : Addr} {o : HO}, H b = some o → ¬ isC X b := fun {b o} e ⟨x, z⟩ => by
    rw [I.freeC x b z] at e
    cases e
  refine I.after ⟨v, minC X H', os, bare, ⟨fun b o g n hf hx => ?_, fun b o g n hf hx => ?_, fun b o g n hx => ?_, un.there, fun b xs e => ?_, fun b o u e => ?_, fun b ps e => ?_⟩, ?_, r, q⟩
  · by_cases z : isC X b
    · obtain ⟨o1, e1, e2⟩ := back b z
      have g1 : s.heap.get? b = some o1 ∧ _ := hpC_hok I b _ e2
      have g2 : s'.heap.get? b = some o1 ∧ _ := hok b _ e1
      rw [g1.1] at g
      cases g
      exact g2.1
    · exact un.keep b o g ((hpC_n z).trans n) hf hx
  · by_cases z : isC X b
    · obtain ⟨o1, e1, e2⟩ := back b z
      have g1 : s.heap.get? b = some o1 ∧ _ := hpC_hok I b _ e2
      have g2 : s'.heap.get? b = some o1 ∧ _ := hok b _ e1
      rw [g1.1] at g
      cases g
      exact ⟨o.slots, g2.1⟩
    · exact un.slot b o g ((hpC_n z).trans n) hf hx
  · by_cases z : isC X b
    · exact minC_c z
    · rw [minC_n z]
      exact un.free b o g ((hpC_n z).trans n) hx
  · rw [minC_n (nn e)]
    exact un.tups b xs ((hpC_n (nn e)).trans e)
  · rw [minC_n (nn e)]
    exact un.frzs b o u ((hpC_n (nn e)).trans e)
  · rw [minC_n (nn e)]
    exact un.tbls b ps ((hpC_n (nn e)).trans e)
  · intro a o e
    have na : ¬ isC X a := fun z => by
      rw [minC_c z] at e
      cases e
    rw [minC_n na] at e
    have nc : ∀ {b : Addr} {u : HO}, H' b = some u → (∀ o v, u ≠ .frz o v) → minC X H' b = some u := fun {b u} e2 n2 => by
      have nb : ¬ isC X b := fun z => by
        obtain ⟨o1, e1, _⟩ := back b z
        rw [e1] at e2
        exact n2 _ _ (Option.some.inj e2).symm
      rw [minC_n nb]
      exact e2
    exact (hok a o e).stay (fun b u _ q => q) (fun b q => nc q fun _ _ z => by cases z) fun b xs q => nc q fun _ _ z => by cases z
theorem minC_hpC (I : Inv X pins σ H s) : minC X (hpC X s.heap H) = H := by
  funext b
  by_cases z : isC X b
  · rw [minC_c z]
    obtain ⟨x, e⟩ := z
    exact (I.freeC x b e).symm
  · rw [minC_n z, hpC_n z]
end
end
/-! ### a static method, called of its class -/
structure SMet (K : PySem.W.Frag) (C : Addr) (mc : Value) (m : Str) (p g : Addr) : Prop where
  rd : PySem.W.readsIn K C mc = true
  ga : PySem.W.specialIn K (.ref C) "__getattribute__" = some (some (.builtin "type.__getattribute__"))
  at_ : PySem.W.findCls K (.ref C) mc m = some (.get (.builtin "staticmethod.__get__") (.ref p) .none (.ref C))
  rc : ∃ rest, PySem.W.recIn K p "staticmethod" = some (.ref g :: rest)
  kp : PySem.W.keepIn K (.ref g) = true
def tSMeth (C : Addr) (sp : Sp) (dvs : List V) (E : XK) (ta : TE) (t : TA) : TE := fun σ H Q => ta σ H fun x H1 => x = .ref C ∧ t σ H1 fun vs H2 => sp (vs ++ dvs) H2 Q E
theorem pe_smeth {X : Cx} {CX : CXT} {k : Nat} {C p g : Addr} {mc : Value} {fd : FuncData} {ps : List Str} {ds : List Value} {dvs : List V} {sp : Sp} {E : XK} {o e : Expr} {es : List Expr} {m : Str} {pos apos : Pos} {ta : TE} {t : TA} {pl : Sem Bool} (he : PE X o ta) (c : SMet X.K C mc m p g)
    (F : FnOk X.prog X.w X.K X.mg X.base CX k g fd ps sp) (hr : Room k X.A) (hb : Binds X.K fd ps ds) (hd : Vals dvs ds) (hx : Passes CX X E) (ha : PA X (e :: es) t)
    (hst : starEach (e :: es) X.env = (false, eval e X.env) :: starEach es X.env := by rfl) (hpl : (backTo pos (starEach es X.env)).any (·.1) = false := by rfl)
    (ht : eval (.Call (.Attribute o m apos) (e :: es) [] pos) X.env = (do
      let ov ← eval o X.env
      standAt apos.atName
      let (f, first) ← holding [ov] (getMethod ov m pl)
      callWith pos f first (backTo pos (starEach (e :: es) X.env)) (backToKw pos (keywordEach [] X.env))) := by rfl) :
    PE X (.Call (.Attribute o m apos) (e :: es) [] pos) (tSMeth C sp dvs E ta t) := by
  refine ⟨fun pins s σ H Q I h => ?_⟩
  refine PySem.W.methodCall_KW (pl := pl) (thn (he.run pins s σ H _ I h) fun u s1 ⟨x, H1, I1, rx, ex, q⟩ => ?_) ht
  subst ex
  cases (show u = Value.ref C from rx)
  obtain ⟨rest, hp⟩ := c.rc
  refine PySem.W.method_cls I1.kIn c.ga (PySem.W.cls_bind I1.kIn c.rd c.at_ (wpAny_call (PySem.W.sm_get (s := { s1 with toks := s1.toks + 1 }) I1.kIn hp (PySem.W.handed_on rfl ?_))))
  have I2 : Inv X pins σ H1 { s1 with toks := s1.toks + 1 } := I1.tok _
  refine PySem.W.callWith_K (h₀ := X.base) I2.ok.mod.kin c.kp (thn (ha.run pos pins _ σ H1 _ I2 q) fun us s3 ⟨vs, H2, I3, rv, q2⟩ => ⟨I3.kIn, ?_⟩) hst hpl
  exact run_fn F hr hb hd hx I3 rv q2
/-! ### list(text); text * number -/
theorem call_list_text {X : Cx} (hc : X.calm = true) : CallR X (.type "list") (fun xs H Q => ∃ z : Str, xs = [.str z] ∧ z.length ≤ sizeLine ∧ ∀ p, H p = none → Q (.ref p) (upd H p (.lst (z.cps.toList.map fun c => V.str ⟨#[c]⟩)))) := by
  intro pn s σ H xs us Q I r h
  obtain ⟨z, e, hz, q⟩ := h
  subst e
  obtain ⟨u, eu, rx⟩ := vals1 r
  subst eu
  obtain ⟨t, rfl⟩ := rx
  refine call_list_str (I.ok.hd hc) z t (fun h' tk acc' c' hkeep hS hacc => ?_) hz
  refine ⟨.ref s.heap.objs.size, upd H s.heap.objs.size (.lst (z.cps.toList.map fun c => V.str ⟨#[c]⟩)), I.laid hkeep (Nat.le_refl _) (show ObjOk X.prog X.w _ _ _ (.lst (z.cps.toList.map fun c => V.str ⟨#[c]⟩)) from ⟨?_, acc'.toList, c', ?_, ?_⟩), rfl, q _ (I.hok.fresh (Nat.le_refl _))⟩
  · rw [List.length_map]
    exact hz
  · refine vals_of_idx _ _ (by rw [List.length_map, Array.length_toList, Array.length_toList, hacc.1]) fun j v hj => ?_
    obtain ⟨c, u, hc2, rfl⟩ := hacc.2 j v (by rw [← Array.getElem?_toList]; exact hj)
    refine ⟨.str ⟨#[c]⟩, ?_, ⟨_, rfl⟩⟩
    rw [List.getElem?_map, Array.getElem?_toList, hc2]
    rfl
  · exact hS
theorem op_mul_str {X : Cx} : OpR X (binaryOp .Mult) (fun x y H Q => ∃ (z : Str) (n : Int), x = .str z ∧ y = .int n ∧ MulOk z n ∧ Q (.str (Txt.mul z n)) H) := by
  intro pn s σ H x y v u Q I rx ry h
  obtain ⟨z, n, rfl, rfl, hz, q⟩ := h
  obtain ⟨t, rfl⟩ := rx
  obtain ⟨t', rfl⟩ := ry
  exact PySem.SB.mul hz fun t' tk => ⟨.str (Txt.mul z n), H, I.tok _, ⟨_, rfl⟩, q⟩
/-! ### sets of texts: what an add keeps -/
open PySem.Froz
structure TxW (P : Program) (w : World) (D : SD) (l : List Str) : Prop where
  ok : TxOk P w D l
  ris : Ris D.2.2.place.toList
  led : w.params.followText "set-order" = true ∨ D.2.2.led = true
theorem tail_keeps {ep : Nat} {es : Array (Int × Value)} {t : SetTable} {b : Bool} (r : Ris t.place.toList) : Ris (tailTx ep es t b).2.2.place.toList ∧ (tailTx ep es t b).2.2.led = t.led := by
  unfold tailTx
  split
  · exact ⟨relayAll_ris t es _, relayAll_led t es _⟩
  · exact ⟨r, rfl⟩
theorem add_keeps {D : SD} {h : Int} {v : Value} (r : Ris D.2.2.place.toList) : Ris (addTx h v D).2.2.place.toList ∧ (addTx h v D).2.2.led = D.2.2.led := by
  have r1 := layNew_ris D.2.2 D.1 h v r
  have l1 := layNew_led D.2.2 D.1 h v
  have key : ∀ t : SetTable, Ris t.place.toList → t.led = D.2.2.led → Ris (if t.plain = true then { t with plain := false } else t).place.toList ∧ (if t.plain = true then { t with plain := false } else t).led = D.2.2.led := fun t a b => by
    split <;> exact ⟨a, b⟩
  obtain ⟨k1, k2⟩ := key _ r1 l1
  obtain ⟨t1, t2⟩ := tail_keeps (ep := D.2.1) (es := (layNew D.2.2 D.1 h v).1) (b := (layNew D.2.2 D.1 h v).2.2.1) k1
  exact ⟨t1, t2.trans k2⟩
theorem TxW.add {P : Program} {w : World} {D : SD} {l : List Str} {k : Str} (u : Tok) (F : TxW P w D l) : TxW P w (addTx (hashStr w k) (.str k u) D) (k :: l) := by
  obtain ⟨a, b⟩ := add_keeps (D := D) (h := hashStr w k) (v := .str k u) F.ris
  exact ⟨add_ok u F.ok, a, F.led.imp id fun z => b.trans z⟩
section
variable {A : Around} {s : Shared} {P : Program} {w : World} {E : Value → Shared → Prop}
/-- a text that is there already -/
theorem add_there {a : Addr} {T : String} {D : SD} {l : List Str} {k : Str} {u : Tok} {Q : Bool → Shared → Prop} (ho : s.heap.get? a = some (sObj T D)) (F : TxOk P w D l) (hk : k ∈ l) (hb : l.length < scanBound)
    (h : Q false s) : wpAny (model P w) A (setAddHashed a (.str k u) (hashStr w k)) Q E s := by
  obtain ⟨es, ep, t⟩ := D
  obtain ⟨el, mem, sz, fit⟩ := F
  obtain ⟨e, he, hp⟩ := (mem k).mp hk
  have small : es.size < scanBound := Nat.lt_of_le_of_lt (Nat.le_of_eq sz) hb
  obtain ⟨j, hj⟩ : ∃ j, List.findIdx? (fun e => (strKind P w).is k e.2) es.toList = some j := by
    cases q : List.findIdx? (fun e => (strKind P w).is k e.2) es.toList with
    | some j => exact ⟨j, rfl⟩
    | none =>
      have c := List.findIdx?_eq_none_iff.mp q e he
      rw [hp] at c
      cases c
  unfold setAddHashed; unfold setAddHashedIn
  refine wpAny_holding (wpAny_bind (wpAny_setState_of ho (ep := ep) (es := es) (t := t) rfl fit ?_))
  dsimp only
  rw [byScan_of rfl small el, if_pos rfl]
  unfold setAddByScan
  refine wpAny_bind (wpAny_bind (wpAny_rule (wpAny_bind (wpAny_setScan_of (knd := strKind P w) (k := k) (is_str k u) ho rfl fit el ?_))))
  rw [hj]
  exact wpAny_pure <| wpAny_pure h
/-- either way -/
def ins (k : Str) (l : List Str) : List Str := if k ∈ l then l else k :: l
theorem add_any {a : Addr} {T : String} {D : SD} {l : List Str} {k : Str} {u : Tok} {Q : Bool → Shared → Prop} (ho : s.heap.get? a = some (sObj T D)) (F : TxW P w D l) (hb : l.length + 1 < scanBound)
    (h : ∀ b h' D', TxW P w D' (ins k l) → h'.get? a = some (sObj T D') → (∀ c o, c ≠ a → s.heap.get? c = some o → h'.get? c = some o) → h'.objs.size = s.heap.objs.size → Q b { s with heap := h' }) : wpAny (model P w) A (setAddHashed a (.str k u) (hashStr w k)) Q E s := by
  by_cases hk : k ∈ l
  · refine add_there ho F.ok hk (by omega) (h false s.heap D ?_ ho (fun _ _ _ e => e) rfl)
    unfold ins
    rw [if_pos hk]
    exact F
  · refine add_x ho F.ok hk hb (h true _ _ ?_ (get_upd _ ho rfl) (fun c o hc e => ?_) ?_)
    · unfold ins
      rw [if_neg hk]
      exact F.add u
    · exact (Heap.get?_update_other _ _ (Ne.symm hc)).trans e
    · exact Heap.size_update _ _ _
end
def insAll : List Str → List Str → List Str
  | [], l => l
  | x :: xs, l => insAll xs (ins x l)
theorem ins_len (x : Str) (l : List Str) : (ins x l).length ≤ l.length + 1 := by
  unfold ins
  split
  · omega
  · exact Nat.le_refl _
theorem ins_mem (x y : Str) (l : List Str) : y ∈ ins x l ↔ y = x ∨ y ∈ l := by
  unfold ins
  split
  · rename_i h
    exact ⟨.inr, fun z => z.elim (fun e => e ▸ h) id⟩
  · exact List.mem_cons
theorem ins_nodup {x : Str} {l : List Str} (h : l.Nodup) : (ins x l).Nodup := by
  unfold ins
  split
  · exact h
  · rename_i n
    exact List.nodup_cons.mpr ⟨n, h⟩
theorem insAll_mem (y : Str) : ∀ xs l : List Str, y ∈ insAll xs l ↔ y ∈ xs ∨ y ∈ l
  | [], l => by simp [insAll]
  | x :: xs, l => by
    show y ∈ insAll xs (ins x l) ↔ _
    rw [insAll_mem y xs, ins_mem, List.mem_cons]
    constructor
    · rintro (h | h | h)
      · exact .inl (.inr h)
      · exact .inl (.inl h)
      · exact .inr h
    · rintro ((h | h) | h)
      · exact .inr (.inl h)
      · exact .inl h
      · exact .inr (.inr h)
theorem insAll_nodup : ∀ (xs : List Str) {l : List Str}, l.Nodup → (insAll xs l).Nodup
  | [], _, h => h
  | _ :: xs, _, h => insAll_nodup xs (ins_nodup h)
theorem insAll_len : ∀ (xs l : List Str), (insAll xs l).length ≤ xs.length + l.length
  | [], l => by simp [insAll]
  | x :: xs, l => by
    have h1 := insAll_len xs (ins x l)
    have h2 := ins_len x l
    show (insAll xs (ins x l)).length ≤ xs.length + 1 + l.length
    omega
section
variable {prog : Program} {w : World} {A : Around} {R : Result → Shared → Prop} {I : Addr} {fp wr : List Addr} {G : Array GenState → Array GenState → Prop} {n : Nat} {Pv : Nat → Value → Prop} {St : Nat → Shared → Prop}
theorem upd_loop (W : WalksS prog w A.in1 I fp wr G n Pv St) (a : Addr) (hf : a ∉ fp) (xs : List Str) (hl : xs.length = n) (hv : ∀ i v, Pv i v → ∃ t, v = .str (xs.getD i Str.empty) t) (hb : n + 1 < scanBound) :
    ∀ (k i : Nat) (s : Shared) (D : SD) (l : List Str), n - i = k → i ≤ n → l.length ≤ i → St i s → s.heap.get? a = some (sObj "set" D) → TxW prog w D l →
      (∀ s' D', Moved (a :: wr) G s s' → s'.heap.get? a = some (sObj "set" D') → TxW prog w D' (insAll (xs.drop i) l) → R (.ok (.ret .none)) s') →
      codeAny (model prog w) A (.builtin "set.update.loop" ⟨[.ref a, .ref I], []⟩) R s := by
  have haw : a ∉ wr := fun h => hf (W.sub _ h)
  have more : ∀ b ∈ wr, b ∈ a :: wr := fun b h => List.mem_cons_of_mem _ h
  intro k
  induction k with
  | zero =>
    intro i s D l hk hi _ hst ho F hR
    have e : i = n := by omega
    refine codeAny_builtin PyProof.Rows.F.entry_set_update_loop (by
      rw [(Around.under_plainId PyProof.Rows.F.plain_set_update_loop _)]
      refine wpAny_bind (W.done s _ _ (e ▸ hst) fun s' hm => wpAny_pure (hR s' D (hm.mono more) (hm.heap a _ haw ho) ?_))
      rw [e, ← hl, List.drop_length]
      exact F)
  | succ k ih =>
    intro i s D l hk hi hll hst ho F hR
    have lt : i < n := by omega
    refine codeAny_builtin PyProof.Rows.F.entry_set_update_loop (by
      rw [(Around.under_plainId PyProof.Rows.F.plain_set_update_loop _)]
      refine wpAny_bind (W.item i s _ _ lt hst fun v s1 hp hst1 hm => ?_)
      obtain ⟨t, rfl⟩ := hv i v hp
      have ho1 := hm.heap a _ haw ho
      show wpAny _ A.in1 (holding [Value.str (xs.getD i Str.empty) t] (setAdd a (.str (xs.getD i Str.empty) t)) >>= _) _ _ s1
      refine wpAny_bind (wpAny_holding (by
        unfold setAdd
        refine wpAny_holding (wpAny_bind ((strKind prog w).pyHash (k := xs.getD i Str.empty) (is_str _ _) ?_))
        refine add_any (s := { s1 with toks := s1.toks + 1 }) ho1 F (by omega) fun b h2 D2 F2 ho2 oth sz => ?_
        have hd : xs.drop i = xs.getD i Str.empty :: xs.drop (i + 1) := by
          have : i < xs.length := by omega
          rw [List.drop_eq_getElem_cons this]
          congr 1
          rw [List.getD_eq_getElem?_getD, List.getElem?_eq_getElem this]
          rfl
        have il := ins_len (xs.getD i Str.empty) l
        refine wpAny_pure ⟨plainId_quiet PyProof.Rows.F.plain_set_update_loop _, ih (i + 1) _ D2 _ (by omega) lt (by omega) (W.frame _ s1 _ _ hst1 (Nat.le_succ _) fun b hb o e => oth b o (fun z => hf (z ▸ hb)) e) ho2 F2 fun s3 D3 hm3 ho3 F3 => ?_⟩
        refine hR s3 D3 (Moved.trans W.gtrans ((hm.mono more).then_heap (Nat.le_succ _) fun b o hb e => oth b o (fun z => hb (by rw [z]; exact List.mem_cons_self)) e) hm3) ho3 ?_
        rw [hd]
        exact F3)))
end
section
variable {A : Around} {s : Shared} {prog : Program} {w : World} {E : Value → Shared → Prop}
/-- a new set's table -/
abbrev tb0 (w : World) : SetTable := .fresh 0 0 (!w.params.followText "set-order")
theorem new_keeps (P : Program) (w : World) : TxW P w (#[], 0, tb0 w) [] := by
  refine ⟨TxOk.nil (by rfl), List.Pairwise.nil, ?_⟩
  show (_ ∨ (!w.params.followText "set-order") = true)
  cases w.params.followText "set-order" <;> simp
theorem code_new1 (x : Value) {Q₁ : Value → Shared → Prop} (h : Q₁ (.ref s.heap.objs.size) { s with heap := s.heap.push (sObj "set" (#[], 0, tb0 w)) }) :
    codeAny (model prog w) A (.call (.builtin "set.__new__") ⟨[.type "set", x], []⟩) (wants Q₁ E) s := by
  refine codeAny_of_tree (wpAny_bind (wpAny_of_eq (PySem.F.newCall_set_1 x) (wpAny_pure ⟨plainId_quiet PySem.F.plain_set_new _, codeAny_builtin PySem.F.entry_set_new (by
    rw [Around.under_plainId PySem.F.plain_set_new _]
    unfold Builtin.«set.__new__»; unfold Builtin.Frozenset.newClass
    have self := PySem.sub_set_self
    obtain ⟨hp0, g0, d0, tk0, os0⟩ := s
    dsimp only
    wp_walk
    refine wpAny_askSetting (wpAny_pure (by
      dsimp only
      simp only [newObj]
      exact wpAny_bind (wpAny_alloc (wpAny_pure (wpAny_pure h))))))⟩)))
theorem str_at : ∀ {us : List Value} {ys : List Str}, StrsAre us ys → ∀ (i : Nat) (v : Value), us[i]? = some v → ∃ t, v = .str (ys.getD i Str.empty) t
  | _, _, .cons y t _, 0, v, e => ⟨t, (Option.some.inj e).symm⟩
  | _, _, .cons _ _ r, i + 1, v, e => str_at r i v e
theorem call_set_texts {l : Addr} {items : Array Value} {xs : List Str} {Q : Value → Shared → Prop} (hh : A.handled = none) (hl : s.heap.IsList l items) (hi : StrsAre items.toList xs) (hb : xs.length + 1 < scanBound)
    (h : ∀ (h' : Heap) (tk : Nat) (D : SD), TxW prog w D (insAll xs []) → h'.get? s.heap.objs.size = some (sObj "set" D) → (∀ b o, b < s.heap.objs.size → s.heap.get? b = some o → h'.get? b = some o) → Q (.ref s.heap.objs.size) { s with heap := h', toks := tk }) :
    (wpAny (model prog w) A (call (.type "set") [.ref l]) Q E s) := by
  obtain ⟨c, tl, mro⟩ := PySem.F.called_set.mro
  have made := PySem.F.called_set.made; have subs := PySem.F.called_set.sub
  refine wpAny_call (codeAny_of_tree (wpAny_pure ⟨Code.quiet_builtin _ (by decide +kernel), codeAny_builtin PySem.F.entry_type_call (by
    rw [(Around.under_plain (weight_type_call_type "set" [.ref l] []) rfl)]
    have n1 := PySem.F.called_set.notType; have n2 := PySem.F.called_set.canCreate; have n3 := PySem.F.typeCall_set_1 (.ref l)
    repeat (any_goals first | assumption | wp_step)
    refine codeAny_mono (code_new1 (.ref l) (E := E) (Q₁ := fun obj s1 => obj = .ref s.heap.objs.size ∧ s1 = { s with heap := s.heap.push (sObj "set" (#[], 0, tb0 w)) }) ⟨rfl, rfl⟩) fun r s1 hr => ?_
    match r, hr with
    | .error e, hr => exact hr
    | .ok (.ret obj), hr =>
      obtain ⟨rfl, rfl⟩ := hr
      have hN : (s.heap.push (sObj "set" (#[], 0, tb0 w))).get? s.heap.objs.size = some (sObj "set" (#[], 0, tb0 w)) := Heap.get?_push_size _ rfl
      have hT : Shared.TypeIs { s with heap := s.heap.push (sObj "set" (#[], 0, tb0 w)) } (.ref s.heap.objs.size) "set" := ⟨_, hN, rfl⟩
      have i1 := PySem.F.called_set.init.lookup; have i2 := PySem.F.called_set.init.bind (.ref s.heap.objs.size)
      repeat (any_goals first | assumption | wp_step)
      refine codeAny_mono (codeAny_call_builtin (R := wants (fun r s2 => r = .none ∧ ∃ h' tk D, s2 = { s with heap := h', toks := tk } ∧ TxW prog w D (insAll xs []) ∧ h'.get? s.heap.objs.size = some (sObj "set" D) ∧
          (∀ b o, b < s.heap.objs.size → s.heap.get? b = some o → h'.get? b = some o)) E) PySem.F.called_set.init.plain PySem.F.entry_set_init (check_set_init_1 hT ?_)) fun r2 s2 hr2 => ?_
      · obtain ⟨⟨oc, od, da, os⟩, ho, hc, nl, hd⟩ := hl
        simp only at hc hd
        subst hc hd
        have ho2 : (s.heap.push (sObj "set" (#[], 0, tb0 w))).get? l = some { cls := .type "list", dict := od, data := .seq items nl, slots := os } := Heap.get?_push_of_some _ ho
        have q1 := PySem.F.sub_list_set; have q2 := PySem.F.sub_list_frozenset; have q3 : (Value.type "list" == Value.type "dict") = false := by decide
        have hl1 : (s.heap.push (sObj "set" (#[], 0, tb0 w))).IsList l items := ⟨_, ho2, rfl, nl, rfl⟩
        unfold Builtin.«set.__init__»; unfold noKeywords; unfold Builtin.Frozenset.updateFrom
        generalize hPI : pyIter = PI
        wp_walk
        subst hPI
        refine wpAny_pyIter_list hl1 (wpAny_bind (wpAny_runValue ?_))
        have lS : l < s.heap.objs.size := Heap.lt_size ho
        have h3 : A.in1.in1.in1.handled = none := by simp [hh]
        have neI : l ≠ (s.heap.push (sObj "set" (#[], 0, tb0 w))).objs.size := by
          rw [Heap.size_push]
          exact Nat.ne_of_lt (Nat.lt_succ_of_lt lS)
        have nfp : s.heap.objs.size ∉ [(s.heap.push (sObj "set" (#[], 0, tb0 w))).objs.size, l] := by
          rw [Heap.size_push]
          intro z
          rcases (List.mem_cons.mp z) with z | z
          · omega
          · rw [List.mem_singleton] at z
            exact absurd z (Nat.ne_of_gt lS)
        have len : xs.length = items.size := by rw [← StrsAre.len_eq hi, Array.length_toList]
        refine upd_loop ((Walks.list h3 _ l neI items).toS) s.heap.objs.size nfp xs len (fun i v hv => str_at hi i v (by rw [Array.getElem?_toList]; exact hv)) (by omega) (items.size - 0) 0 _ (#[], 0, tb0 w) [] (by omega) (Nat.zero_le _) (Nat.le_refl _)
          ⟨⟨_, Heap.get?_push_size _ rfl, rfl, rfl⟩, hl1.push _⟩ (Heap.get?_push_of_some _ hN) (new_keeps _ _) fun s3 D3 hm ho3 F3 => ?_
        obtain ⟨h', g', d', tk', os'⟩ := s3
        obtain rfl : g' = s.gens := hm.gens
        obtain rfl : d' = s.drawn := hm.drawn
        obtain rfl : os' = s.os := hm.os
        refine wpAny_pure (wpAny_pure ⟨rfl, h', tk', D3, rfl, F3, ho3, fun b o hb e => hm.heap b o (fun z => ?_) (Heap.get?_push_of_some _ (Heap.get?_push_of_some _ e))⟩)
        rcases (List.mem_cons.mp z) with z | z
        · exact absurd z (Nat.ne_of_lt hb)
        · rw [List.mem_singleton, Heap.size_push] at z
          exact absurd z (Nat.ne_of_lt (Nat.lt_succ_of_lt hb))
      · match r2, hr2 with
        | .error e, hr2 => exact hr2
        | .ok (.ret v), hr2 =>
          obtain ⟨rfl, h', tk, D, rfl, F, ho3, hold⟩ := hr2
          repeat (any_goals first | assumption | wp_step)
          exact h _ _ _ F ho3 hold
        | .ok .next, hr2 => exact hr2.elim
        | .ok .brk, hr2 => exact hr2.elim
        | .ok .cont, hr2 => exact hr2.elim
    | .ok .next, hr => exact hr.elim
    | .ok .brk, hr => exact hr.elim
    | .ok .cont, hr => exact hr.elim)⟩))
end
/-- the set at a holds the texts l -/
def SetW (P : Program) (w : World) (a : Addr) (l : List Str) : HO := .ext fun h => ∃ D, h.get? a = some (sObj "set" D) ∧ TxW P w D l
theorem setW_ok {P : Program} {w : World} {H : Hp} {h : Heap} {a : Addr} {D : SD} {l : List Str} (ho : h.get? a = some (sObj "set" D)) (F : TxW P w D l) : ObjOk P w H h a (SetW P w a l) :=
  ⟨⟨D, ho, F⟩, ⟨_, ho⟩, fun h1 h2 z k => by
    obtain ⟨D', e, F'⟩ := z
    exact ⟨D', k _ e, F'⟩⟩
theorem perm_of : ∀ (l ys : List Str), l.Nodup → (∀ y ∈ l, y ∈ ys) → ys.length = l.length → ys.Perm l
  | [], ys, _, _, e => by
    rw [List.length_eq_zero_iff.mp e]
  | y :: l, ys, n, h, e => by
    obtain ⟨n1, n2⟩ := List.nodup_cons.mp n
    obtain ⟨p, q, rfl⟩ := List.append_of_mem (h y List.mem_cons_self)
    have pm : (p ++ y :: q).Perm (y :: (p ++ q)) := List.perm_middle
    refine pm.trans (List.Perm.cons y (perm_of l (p ++ q) n2 (fun z hz => ?_) ?_))
    · have zy : z ≠ y := fun c => n1 (c ▸ hz)
      rcases List.mem_append.mp (h z (List.mem_cons_of_mem _ hz)) with c | c
      · exact List.mem_append_left _ c
      · rcases List.mem_cons.mp c with c | c
        · exact absurd c zy
        · exact List.mem_append_right _ c
    · simp only [List.length_append, List.length_cons] at e ⊢
      omega
theorem strs_are : ∀ (vs : List Value), (∀ v ∈ vs, ∃ y t, v = Value.str y t) → ∃ ys, StrsAre vs ys
  | [], _ => ⟨[], .nil⟩
  | v :: vs, h => by
    obtain ⟨y, t, rfl⟩ := h _ List.mem_cons_self
    obtain ⟨ys, r⟩ := strs_are vs fun u hu => h u (List.mem_cons_of_mem _ hu)
    exact ⟨y :: ys, .cons y t r⟩
theorem strs_mem : ∀ {vs : List Value} {ys : List Str}, StrsAre vs ys → ∀ y t, Value.str y t ∈ vs → y ∈ ys
  | _, _, .cons z u r, y, t, h => by
    rcases (List.mem_cons.mp h) with e | e
    · injection e with e1 e2
      rw [e1]
      exact List.mem_cons_self
    · exact List.mem_cons_of_mem _ (strs_mem r y t e)
section
variable {X : Cx}
/-- set(xs), xs a list of texts -/
theorem cr_setS (hc : X.calm = true) : CallR X (.type "set") (fun vs H Q => ∃ (p : Addr) (ys : List Str), vs = [.ref p] ∧ SqL X.K H p (ys.map V.str) ∧ ys.length ≤ 1000 ∧ ∀ q, H q = none → Q (.ref q) (upd H q (SetW X.prog X.w q (insAll ys [])))) := by
  intro pn s σ H vs us Q I r h
  obtain ⟨p, ys, rfl, hq, hz, q⟩ := h
  rw [Vals.ref1 r]
  obtain ⟨its, rv, pl, _⟩ := I.list hq
  refine call_set_texts (I.ok.hd hc) pl.isList (by simpa using L2.strsAre_of rv) (by unfold scanBound; omega) fun h' tk D F ho keep => ?_
  exact ⟨.ref _, _, I.laid (t' := tk) (fun b o e => keep b o (Heap.lt_size e) e) (Nat.le_refl _) (setW_ok ho F), rfl, q _ (I.hok.fresh (Nat.le_refl _))⟩
/-- sorted(S), S a set of texts -/
theorem cr_sortedW (hc : X.calm = true) : CallR X (.builtin "sorted") (fun vs H Q => ∃ (a : Addr) (l : List Str), vs = [.ref a] ∧ H a = some (SetW X.prog X.w a l) ∧ l.Nodup ∧ l.length < 64 ∧
    ∀ (ys : List Str) (p : Addr), ys.Perm l → sortedS ys = true → H p = none → Q (.ref p) (upd H p (.lst (ys.map V.str)))) := by
  intro pn s σ H vs us Q I r h
  obtain ⟨a, l, rfl, ha, nd, l64, q⟩ := h
  rw [Vals.ref1 r]
  obtain ⟨⟨es, ep, t⟩, ho, F⟩ := (I.hok a _ ha).1
  have sz : es.size = l.length := F.ok.sz
  have small : es.size < scanBound := by unfold scanBound; omega
  refine Calls.call_function_entry PyProof.Rows.kind_sorted PyProof.Rows.plain_sorted PyProof.Rows.entry_sorted (PyProof.Rows.args_sorted1 _) (by
    unfold Builtin.«sorted»
    refine wpAny_bind (m := checkCount "sorted" 1 1 _) (wpAny_pure (wpAny_bind (collect_set (A := X.A.in1) (I.ok.hd hc) ⟨_, ho, rfl, rfl⟩ F.ok.fit small F.ris F.led fun s1 out k1 hz g1 o1 pm => ?_)))
    have all : ∀ v ∈ out, ∃ y u, v = Value.str y u := fun v hv => by
      obtain ⟨e, he, rfl⟩ := List.mem_map.mp (pm.mem_iff.mp hv)
      obtain ⟨⟨k, hk, _⟩, _⟩ := F.ok.el e he
      obtain ⟨u, ev⟩ := Value.isStrOf_shape (x := k) (v := e.2) hk
      exact ⟨k, u, ev⟩
    obtain ⟨zs, hS⟩ := strs_are out all
    have len : out.length = es.size := by rw [pm.length_eq, List.length_map, Array.length_toList]
    have zl : zs.length = l.length := by rw [← hS.len_eq, len, sz]
    have zp : zs.Perm l := perm_of l zs nd (fun y hy => by
      obtain ⟨e, he, z⟩ := (F.ok.mem y).mp hy
      obtain ⟨u, ev⟩ := Value.isStrOf_shape (x := y) (v := e.2) z
      refine strs_mem hS y u (pm.mem_iff.mpr ?_)
      rw [← ev]
      exact List.mem_map.mpr ⟨e, he, rfl⟩) zl
    have o64 : out.length < 64 := by rw [len, sz]; exact l64
    have hoL : (s1.heap.push (seqObj "list" out.toArray 0)).get? s1.heap.objs.size = some (seqObj "list" out.toArray 0) := Heap.get?_push_size _ rfl
    refine wpAny_bind (wpAny_newList (wpAny_bind (wpAny_holding (wpAny_call_entry PyProof.Rows.slot_list_sort ⟨_, hoL, rfl⟩ PyProof.Rows.entry_list_sort
      (list_sort_treeK strKind_oneLt (s := { s1 with heap := s1.heap.push (seqObj "list" out.toArray 0) }) hoL hS.keysOf (fun v₁ v₂ rest e => keyKind_strs (by rw [← e]; exact hS)) o64 fun st' hp hs => ⟨_, rfl, by
        obtain ⟨ys, r1, r2, r3⟩ := sorted_out_str hS hp hs
        obtain ⟨c, hc2⟩ := PyProof.Rows.sortedHeap_at (vs := out) (out := (arrOf st').map (·.2)) hoL
        have hn : H s1.heap.objs.size = none := I.hok.fresh hz
        have ylen : (ys.map V.str).length ≤ sizeLine := by
          rw [List.length_map, r2.length_eq, zl]
          exact Nat.le_trans (Nat.le_of_lt l64) (by decide)
        have k2 : ∀ b u, s.heap.get? b = some u → (PyProof.Rows.sortedHeap (s1.heap.push (seqObj "list" out.toArray 0)) s1.heap.objs.size out ((arrOf st').map (·.2))).get? b = some u := fun b u e => by
          have lt := Heap.lt_size (k1 b u e)
          rw [PyProof.Rows.sortedHeap_old (Nat.ne_of_lt lt) (by rw [size_push']; exact Nat.lt_succ_of_lt lt)]
          exact Heap.get?_push_of_some _ (k1 b u e)
        obtain ⟨hp1, gn1, dr1, tk1, os1⟩ := s1
        dsimp only at g1 o1 hn k2 hc2 ⊢
        subst g1 o1
        refine wpAny_pure ⟨_, rfl, .ref hp1.objs.size, upd H hp1.objs.size (.lst (ys.map V.str)), ?_, rfl, q ys _ (r2.trans zp) r3 hn⟩
        exact I.call (ch := []) (Un.laid k2 hz hn) (I.hok.laid k2 hz ⟨ylen, ((arrOf st').map (·.2)).toList, c, vals_of_strs r1, by rw [Array.toArray_toList]; exact hc2⟩) I.bare (fun _ z => nomatch z)⟩) (PyProof.Rows.args_list_sort _)))) (by rw [sizeLine_eq]; omega)))
end
/-! ### names: the plain mathematics -/
def lowc (c : Nat) : Bool := decide (97 ≤ c) && decide (c ≤ 122)
def upc (c : Nat) : Bool := decide (65 ≤ c) && decide (c ≤ 90)
theorem uni_alpha : ∀ c : Nat, c < 128 → Unicode.isAlpha c = (lowc c || upc c) := by decide +kernel
theorem uni_lower : ∀ c : Nat, c < 128 → Unicode.isLower c = lowc c := by decide +kernel
theorem uni_upper : ∀ c : Nat, c < 128 → (Unicode.isUpper c || Unicode.isTitle c) = upc c := by decide +kernel
/-- the letters of a name -/
def letB (a : List Nat) : Bool := !a.isEmpty && a.all lowc
theorem lower_letters (a : List Nat) : (Txt.isascii (SX.S a) && (Txt.isalpha (SX.S a) && Txt.islower (SX.S a))) = letB a := by
  have e1 : Txt.isascii (SX.S a) = a.all (fun c => decide (c < 128)) := by
    unfold Txt.isascii
    rw [← Array.all_toList]
  have e2 : Txt.isalpha (SX.S a) = (!a.isEmpty && a.all Unicode.isAlpha) := by
    unfold Txt.isalpha
    rw [← Array.all_toList, SX.S_len]
    cases a <;> rfl
  have e3 : Txt.islower (SX.S a) = (a.any Unicode.isLower && !a.any fun c => Unicode.isUpper c || Unicode.isTitle c) := by
    unfold Txt.islower
    rw [← Array.any_toList, ← Array.any_toList]
  rw [e1, e2, e3]
  unfold letB
  cases h : a.all (fun c => decide (c < 128))
  · rw [Bool.false_and]
    symm
    rw [Bool.and_eq_false_iff]
    refine .inr (Bool.eq_false_iff.mpr fun z => ?_)
    have z2 := List.all_eq_true.mp z
    have : a.all (fun c => decide (c < 128)) = true := List.all_eq_true.mpr fun c hc => decide_eq_true (by
      have q := z2 c hc
      unfold lowc at q
      rw [Bool.and_eq_true, decide_eq_true_eq, decide_eq_true_eq] at q
      omega)
    rw [h] at this
    cases this
  · rw [Bool.true_and]
    have h3 : ∀ c ∈ a, c < 128 := fun c hc => of_decide_eq_true (List.all_eq_true.mp h c hc)
    have a1 : a.all Unicode.isAlpha = a.all (fun c => lowc c || upc c) := by
      rw [Bool.eq_iff_iff, List.all_eq_true, List.all_eq_true]
      exact ⟨fun q c hc => by rw [← uni_alpha c (h3 c hc)]; exact q c hc, fun q c hc => by rw [uni_alpha c (h3 c hc)]; exact q c hc⟩
    have a2 : a.any Unicode.isLower = a.any lowc := by
      rw [Bool.eq_iff_iff, List.any_eq_true, List.any_eq_true]
      exact ⟨fun ⟨c, hc, q⟩ => ⟨c, hc, by rw [← uni_lower c (h3 c hc)]; exact q⟩, fun ⟨c, hc, q⟩ => ⟨c, hc, by rw [uni_lower c (h3 c hc)]; exact q⟩⟩
    have a3 : (a.any fun c => Unicode.isUpper c || Unicode.isTitle c) = a.any upc := by
      rw [Bool.eq_iff_iff, List.any_eq_true, List.any_eq_true]
      exact ⟨fun ⟨c, hc, q⟩ => ⟨c, hc, by rw [← uni_upper c (h3 c hc)]; exact q⟩, fun ⟨c, hc, q⟩ => ⟨c, hc, by rw [uni_upper c (h3 c hc)]; exact q⟩⟩
    rw [a1, a2, a3]
    have dis : ∀ c : Nat, lowc c = true → upc c = false := fun c q => by
      unfold lowc at q
      unfold upc
      rw [Bool.and_eq_true, decide_eq_true_eq, decide_eq_true_eq] at q
      rw [Bool.and_eq_false_iff, decide_eq_false_iff_not, decide_eq_false_iff_not]
      omega
    rw [Bool.eq_iff_iff]
    simp only [Bool.and_eq_true, Bool.not_eq_true', List.any_eq_true, List.all_eq_true, Bool.or_eq_true]
    constructor
    · rintro ⟨⟨n, al⟩, _, nu⟩
      refine ⟨n, fun c hc => ?_⟩
      rcases al c hc with q | q
      · exact q
      · exfalso
        have : a.any upc = true := List.any_eq_true.mpr ⟨c, hc, q⟩
        rw [nu] at this
        cases this
    · rintro ⟨n, al⟩
      refine ⟨⟨n, fun c hc => .inl (al c hc)⟩, ?_, ?_⟩
      · cases a with
        | nil => cases n
        | cons c r => exact ⟨c, List.mem_cons_self, al c List.mem_cons_self⟩
      · refine Bool.eq_false_iff.mpr fun q => ?_
        obtain ⟨c, hc, q⟩ := List.any_eq_true.mp q
        rw [dis c (al c hc)] at q
        cases q
/-- without one apostrophe at the end -/
def cutQ (a : List Nat) : List Nat := if a.getLast? = some 39 then a.dropLast else a
def nameB (a : List Nat) : Bool := decide ((cutQ a).length ≤ 6) && letB (cutQ a)
theorem last_at (b : List Nat) (c : Nat) : PySem.Builtin.Str.subAt (SX.S (b ++ [c])) (SX.S [39]) ((SX.S (b ++ [c])).length - (SX.S [39]).length) = decide (c = 39) := by
  have e : (SX.S (b ++ [c])).cps.extract ((SX.S (b ++ [c])).length - (SX.S [39]).length) ((SX.S (b ++ [c])).length - (SX.S [39]).length + (SX.S [39]).length) = [c].toArray := by
    rw [SX.S_len, SX.S_len, List.length_append]
    simp [List.extract]
  show ((SX.S (b ++ [c])).cps.extract ((SX.S (b ++ [c])).length - (SX.S [39]).length) ((SX.S (b ++ [c])).length - (SX.S [39]).length + (SX.S [39]).length) == (SX.S [39]).cps) = _
  rw [e]
  by_cases h : c = 39
  · subst h
    rfl
  · rw [decide_eq_false h, beq_eq_false_iff_ne]
    intro z
    exact h (List.cons.inj (congrArg Array.toList z)).1
theorem rem_quote (a : List Nat) : Txt.removesuffix (SX.S a) (SX.S [39]) = SX.S (cutQ a) := by
  have e := eq_of_beq (PyProof.Rows.removesuffix_closes (SX.S a) (SX.S [39]))
  rw [e]
  rcases List.eq_nil_or_concat a with rfl | ⟨b, c, rfl⟩
  · rfl
  · rw [List.concat_eq_append, last_at]
    have e1 : decide (0 + (SX.S [39]).length ≤ (SX.S (b ++ [c])).length) = true := by
      rw [SX.S_len, SX.S_len, List.length_append]
      exact decide_eq_true (by show 0 + 1 ≤ b.length + 1; omega)
    rw [e1, Bool.true_and]
    unfold cutQ
    rw [List.getLast?_append, List.getLast?_singleton, Option.some_or, List.dropLast_concat]
    by_cases h : c = 39
    · subst h
      rw [decide_eq_true rfl, if_pos rfl, if_pos rfl]
      refine TL.ext_tl ?_
      show ((b ++ [39]).drop 0).take ((((SX.S (b ++ [39])).length : Nat) : Int) - (((SX.S [39]).length : Nat) : Int) - 0).toNat = b
      rw [SX.S_len, SX.S_len, List.length_append, List.drop_zero]
      have : ((((b.length + [39].length : Nat)) : Int) - (([39] : List Nat).length : Nat) - 0).toNat = b.length := by
        show (((b.length + 1 : Nat) : Int) - 1 - 0).toNat = b.length
        omega
      rw [this, List.take_left]
    · rw [decide_eq_false h, if_neg (by decide), if_neg (fun z => h (Option.some.inj z))]
/-! ### drawn words: the plain mathematics -/
abbrev ABC : Str := Str.ofString "abcdefghijklmnopqrstuvwxyz"
theorem abc_nat : ∀ n : Nat, n < 26 → L2.atI ABC.cps.toList (n : Int) = some (97 + n) := by decide +kernel
theorem abc_at {r : Int} (h0 : 0 ≤ r) (h1 : r < 26) : L2.atI ABC.cps.toList r = some (97 + r.toNat) := by
  obtain ⟨n, rfl⟩ := Int.eq_ofNat_of_zero_le h0
  rw [Int.toNat_natCast]
  exact abc_nat n (by omega)
theorem low_abc {n : Nat} (h : n < 26) : lowc (97 + n) = true := by
  unfold lowc
  rw [decide_eq_true (by omega), decide_eq_true (by omega)]
  rfl
theorem mul_one1 {x : Str} (hx : x.length = 1) {n : Int} (h1 : n ≤ 8) (h0 : -8 ≤ n) : MulOk x n := by
  unfold MulOk
  rw [hx]
  obtain ⟨k, rfl⟩ : ∃ k : Nat, n = (k : Int) - 8 := ⟨(n + 8).toNat, by omega⟩
  have : ∀ k : Nat, k < 17 → (decide (((k : Int) - 8) < -(2 ^ 63 : Int)) || decide (((k : Int) - 8) ≥ 2 ^ 63)) = false ∧ (¬ ((k : Int) - 8) < 1 → (((k : Int) - 8) == 1 || (1 : Nat) == 0) = false → ¬ (((1 : Nat) : Int) > (2 ^ 63 - 1) / ((k : Int) - 8))) ∧
    (¬ ((k : Int) - 8) < 1 → (((k : Int) - 8) == 1 || (1 : Nat) == 0) = false → PySem.Builtin.Str.tooLong (1 * ((k : Int) - 8).toNat) = false) := by decide +kernel
  exact this k (by omega)
theorem fold_rep (c : Nat) : ∀ (k : Nat) (acc : Array Nat), (List.replicate k (#[c] : Array Nat)).foldl (· ++ ·) acc = acc ++ (List.replicate k c).toArray
  | 0, acc => by simp
  | k + 1, acc => by
    rw [List.replicate_succ, List.foldl_cons, fold_rep c k, List.replicate_succ]
    apply Array.toList_inj.mp
    simp
theorem mul_rep (c : Nat) (n : Int) : Txt.mul (SX.S [c]) n = SX.S (List.replicate n.toNat c) := by
  unfold Txt.mul
  by_cases h : n < 1
  · rw [if_pos h, show n.toNat = 0 by omega]
    rfl
  · rw [if_neg h]
    by_cases h1 : n = 1
    · subst h1
      rfl
    · have : (n == 1 || (SX.S [c]).length == 0) = false := by
        rw [beq_eq_false_iff_ne.mpr h1]
        rfl
      rw [this, if_neg (by decide)]
      unfold SX.S
      have e : (List.replicate n.toNat (⟨[c].toArray⟩ : Str).cps) = List.replicate n.toNat (#[c] : Array Nat) := rfl
      rw [e, fold_rep]
      simp
theorem cut_last (a : List Nat) {k : Nat} (h : a.length ≤ k) (hk : 0 < k) : L2.cutS (SX.S a) (some (-(k : Int))) none = SX.S a := by
  unfold L2.cutS
  have e : HT.sIx (SX.S a).length 0 (some (-(k : Int))) = 0 := by
    rw [SX.S_len]
    unfold HT.sIx
    simp
    omega
  rw [HT.sIx_none, e, SX.S_len]
  refine TL.ext_tl ?_
  show (a.drop 0).take (a.length - 0) = a
  rw [List.drop_zero, Nat.sub_zero, List.take_length]
theorem cut_to (a : List Nat) (k : Nat) : L2.cutS (SX.S a) none (some (k : Int)) = SX.S (a.take k) := by
  unfold L2.cutS
  rw [HT.sIx_none, HT.sIx_nat, SX.S_len, Nat.sub_zero]
  refine TL.ext_tl ?_
  show (a.drop 0).take (min k a.length) = a.take k
  rw [List.drop_zero]
  by_cases h : k ≤ a.length
  · rw [Nat.min_eq_left h]
  · rw [Nat.min_eq_right (by omega), List.take_of_length_le (Nat.le_refl _), List.take_of_length_le (by omega)]
theorem cut_from (a : List Nat) (k : Nat) : L2.cutS (SX.S a) (some (k : Int)) none = SX.S (a.drop k) := by
  unfold L2.cutS
  rw [HT.sIx_none, HT.sIx_nat, SX.S_len]
  refine TL.ext_tl ?_
  show (a.drop (min k a.length)).take (a.length - min k a.length) = a.drop k
  by_cases h : k ≤ a.length
  · rw [Nat.min_eq_left h, List.take_of_length_le (by rw [List.length_drop]; exact Nat.le_refl _)]
  · rw [Nat.min_eq_right (by omega), List.drop_of_length_le (Nat.le_refl _), List.drop_of_length_le (by omega), List.take_nil]
/-- a word of one to six letters -/
def LW (a : List Nat) : Prop := a ≠ [] ∧ a.length ≤ 6 ∧ a.all lowc = true
theorem LW.put {a : List Nat} {c : Nat} {k : Nat} (h : a.length ≤ 5) (ha : a.all lowc = true) (hc : lowc c = true) : LW (a.take k ++ [c] ++ a.drop k) := by
  refine ⟨by simp, ?_, ?_⟩
  · simp only [List.length_append, List.length_take, List.length_drop, List.length_singleton]
    omega
  · rw [List.all_append, List.all_append]
    have e := List.all_eq_true.mp ha
    rw [List.all_eq_true.mpr fun x hx => e x (List.mem_of_mem_take hx), List.all_eq_true.mpr fun x hx => e x (List.mem_of_mem_drop hx)]
    simp [hc]
theorem LW.rep {a : List Nat} {c n : Nat} (ha : a.all lowc = true) (hc : lowc c = true) (n1 : 1 ≤ n) (n4 : n ≤ 5) : LW (a.take 1 ++ List.replicate n c) := by
  refine ⟨?_, ?_, ?_⟩
  · intro z
    have := congrArg List.length z
    rw [List.length_append, List.length_replicate] at this
    simp at this
    omega
  · simp only [List.length_append, List.length_take, List.length_replicate]
    omega
  · rw [List.all_append]
    have e := List.all_eq_true.mp ha
    rw [List.all_eq_true.mpr fun x hx => e x (List.mem_of_mem_take hx), Bool.true_and]
    exact List.all_eq_true.mpr fun x hx => by
      rw [List.eq_of_mem_replicate hx]
      exact hc
theorem LW.one {c : Nat} (hc : lowc c = true) : LW [c] := ⟨by simp, by simp, by simp [hc]⟩
theorem S_inj {a b : List Nat} (h : SX.S a = SX.S b) : a = b := by
  have := congrArg (fun s : Str => s.cps.toList) h
  simpa [SX.S] using this
theorem ins_all_full : ∀ (xs l : List Str), (insAll xs l).length = xs.length + l.length → xs.Nodup ∧ ∀ x ∈ xs, x ∉ l
  | [], _, _ => ⟨List.nodup_nil, fun _ h => nomatch h⟩
  | x :: xs, l, h => by
    unfold insAll at h
    by_cases hx : x ∈ l
    · exfalso
      unfold ins at h
      rw [if_pos hx] at h
      have := insAll_len xs l
      rw [List.length_cons] at h
      omega
    · unfold ins at h
      rw [if_neg hx] at h
      obtain ⟨h1, h2⟩ := ins_all_full xs (x :: l) (by rw [h]; simp only [List.length_cons]; omega)
      refine ⟨List.nodup_cons.mpr ⟨fun z => h2 x z List.mem_cons_self, h1⟩, fun y hy => ?_⟩
      rcases List.mem_cons.mp hy with rfl | hy
      · exact hx
      · exact fun z => h2 y hy (List.mem_cons_of_mem _ z)
theorem nodup_S : ∀ {ws : List (List Nat)}, (ws.map SX.S).Nodup → ws.Nodup
  | [], _ => List.nodup_nil
  | w :: ws, h => by
    rw [List.map_cons, List.nodup_cons] at h
    exact List.nodup_cons.mpr ⟨fun z => h.1 (List.mem_map_of_mem z), nodup_S h.2⟩
/-- the kth letter from a first one, by fives -/
def five (f k : Nat) : Nat := 97 + (f + 5 * k) % 26
theorem five_inj {f i j : Nat} (hi : i < 20) (hj : j < 20) (h : five f i = five f j) : i = j := by
  unfold five at h
  omega
theorem nodup_range_map {α : Type} {f : Nat → α} {m : Nat} (h : ∀ i j, i < m → j < m → f i = f j → i = j) : ((List.range m).map f).Nodup := by
  rw [List.Nodup, List.pairwise_map]
  refine List.Pairwise.imp_of_mem ?_ List.nodup_range
  intro a b ha hb hne e
  exact hne (h a b (List.mem_range.mp ha) (List.mem_range.mp hb) e)
theorem put_inj {a : List Nat} {k c d : Nat} (h : a.take k ++ [c] ++ a.drop k = a.take k ++ [d] ++ a.drop k) : c = d := by
  have h1 := (List.append_cancel_right h)
  have h2 := (List.append_cancel_left h1)
  exact (List.cons.inj h2).1
theorem lc_str {x : Str} {g : TG} {tt : TT} {te : TE} {vs : List Nat} {σ : L2.St} {H1 : Hp} {D : Addr} {Qd : Hp → Prop} (Pv : Nat → Hp → Prop) (h0 : Pv 0 (upd H1 D (.lst [])))
    (hs : ∀ i c H, x.cps[i]? = some c → Pv i H → g (.str ⟨#[c]⟩) (wipe σ vs) H fun σ2 H2 => wipe σ2 vs = wipe σ vs ∧ tt σ2 H2 fun b H3 =>
      if b = true then te σ2 H3 fun y H4 => ∃ acc, H4 D = some (.lst acc) ∧ acc.length < sizeLine ∧ Pv (i + 1) (upd H4 D (.lst (acc ++ [y]))) else Pv (i + 1) H3) (hd : ∀ H, Pv x.cps.size H → Qd H) :
    ∃ W : Nat → Nat → Hp → Prop, (∃ m, W 0 m (upd H1 D (.lst []))) ∧ ∀ i m H, W i m H →
      ((Its x).stop i H ∧ Qd H) ∨ ((Its x).go i H ∧ ∃ Nx : Hp → Prop, (∀ H', Nx H' → ∃ m', m' < m ∧ W (i + 1) m' H') ∧ ∀ y H', (Its x).yld i H y H' → g y (wipe σ vs) H' fun σ2 H2 => wipe σ2 vs = wipe σ vs ∧ tt σ2 H2 fun b H3 =>
        if b = true then te σ2 H3 fun y H4 => ∃ acc, H4 D = some (.lst acc) ∧ acc.length < sizeLine ∧ Nx (upd H4 D (.lst (acc ++ [y]))) else Nx H3) := by
  refine ⟨fun i m H => m = x.cps.size - i ∧ i ≤ x.cps.size ∧ Pv i H, ⟨x.cps.size, by simp, Nat.zero_le _, h0⟩, ?_⟩
  rintro i m H ⟨rfl, hi, p⟩
  by_cases hlt : i < x.cps.size
  · refine .inr ⟨hlt, Pv (i + 1), fun H' p' => ⟨x.cps.size - (i + 1), by omega, rfl, hlt, p'⟩, fun y H' q => ?_⟩
    obtain ⟨e, c, hc, ev⟩ := q
    subst e ev
    exact hs i c _ hc p
  · have e : i = x.cps.size := by omega
    subst e
    exact .inl ⟨Nat.le_refl _, hd H p⟩
/-! ### names with an apostrophe; the law's own test of names -/
theorem last_low {x : List Nat} (h : x.all lowc = true) : x.getLast? ≠ some 39 := fun z => by
  have := List.all_eq_true.mp h 39 (List.mem_of_getLast? z)
  revert this
  decide
theorem cutQ_lw {x : List Nat} (h : LW x) {k : Nat} (hk : k ≤ 1) : cutQ (x ++ List.replicate k 39) = x := by
  unfold cutQ
  match k, hk with
  | 0, _ => rw [List.replicate_zero, List.append_nil, if_neg (last_low h.2.2)]
  | 1, _ => rw [show List.replicate 1 39 = [39] from rfl, List.getLast?_append, List.getLast?_singleton, Option.some_or, if_pos rfl, List.dropLast_concat]
theorem name_lw {x : List Nat} (h : LW x) {k : Nat} (hk : k ≤ 1) : nameB (x ++ List.replicate k 39) = true ∧ (x ++ List.replicate k 39).length ≤ 7 := by
  constructor
  · unfold nameB letB
    rw [cutQ_lw h hk, h.2.2, decide_eq_true h.2.1]
    cases x with
    | nil => exact absurd rfl h.1
    | cons _ _ => rfl
  · rw [List.length_append, List.length_replicate]
    have := h.2.1
    omega
theorem nodup_of_map {α β : Type} (f : α → β) : ∀ {l : List α}, (l.map f).Nodup → l.Nodup
  | [], _ => List.nodup_nil
  | w :: ws, h => by
    rw [List.map_cons, List.nodup_cons] at h
    exact List.nodup_cons.mpr ⟨fun z => h.1 (List.mem_map_of_mem z), nodup_of_map f h.2⟩
theorem sIx_neg1 (n : Nat) (d : Nat) : HT.sIx n d (some (-1)) = n - 1 := by
  unfold HT.sIx
  simp
  omega
theorem cut_but1 (t : List Nat) : L2.cutS (SX.S t) none (some (-1)) = SX.S t.dropLast := by
  unfold L2.cutS
  rw [HT.sIx_none, sIx_neg1, SX.S_len, Nat.sub_zero]
  refine TL.ext_tl ?_
  show (t.drop 0).take (t.length - 1) = t.dropLast
  rw [List.drop_zero, List.dropLast_eq_take]
theorem cut_end1 (t : List Nat) : L2.cutS (SX.S t) (some (-1)) none = SX.S (t.drop (t.length - 1)) := by
  unfold L2.cutS
  rw [HT.sIx_none, sIx_neg1, SX.S_len]
  refine TL.ext_tl ?_
  show (t.drop (t.length - 1)).take (t.length - (t.length - 1)) = t.drop (t.length - 1)
  rw [List.take_of_length_le]
  rw [List.length_drop]
  exact Nat.le_refl _
theorem drop_last (t : List Nat) : (t.drop (t.length - 1) = [39]) ↔ t.getLast? = some 39 := by
  rcases List.eq_nil_or_concat t with rfl | ⟨b, c, rfl⟩
  · simp
  · rw [List.concat_eq_append, List.getLast?_append, List.getLast?_singleton, Option.some_or]
    have e : (b ++ [c]).length - 1 = b.length := by simp
    rw [e, List.drop_left]
    simp
theorem abc_mem (c : Nat) : decide (c ∈ ABC.cps.toList) = lowc c := by
  rw [show ABC.cps.toList = (List.range 26).map (97 + ·) by decide +kernel]
  unfold lowc
  rw [Bool.eq_iff_iff, decide_eq_true_eq, Bool.and_eq_true, decide_eq_true_eq, decide_eq_true_eq, List.mem_map]
  constructor
  · rintro ⟨k, hk, rfl⟩
    have := List.mem_range.mp hk
    omega
  · rintro ⟨h1, h2⟩
    exact ⟨c - 97, List.mem_range.mpr (by omega), by omega⟩
/-! ### lists of texts as data -/
theorem shape_strs : ∀ l : List Str, l.length ≤ 2 → (∀ x ∈ l, PyData.strOk x = true) → SeqAt.shaped (.list (l.map PyData.str)) = true
  | [], _, _ => rfl
  | [x], _, h => by
    show ((PyData.strOk x && true) && true) = true
    rw [h x List.mem_cons_self]
    rfl
  | [x, y], _, h => by
    show ((PyData.strOk x && (PyData.strOk y && true)) && true) = true
    rw [h x List.mem_cons_self, h y (List.mem_cons_of_mem _ List.mem_cons_self)]
    rfl
  | _ :: _ :: _ :: _, h, _ => by simp at h
theorem eqvAll_strs : ∀ l : List Str, PyData.eqvAll (l.map PyData.str) (l.map PyData.str) = true
  | [] => rfl
  | x :: l => by
    show (PyData.eqv (.str x) (.str x) && PyData.eqvAll (l.map PyData.str) (l.map PyData.str)) = true
    rw [eqvAll_strs l, Bool.and_true]
    show (x == x) = true
    exact beq_self_eq_true x
theorem dp_strs {K : PySem.W.Frag} {H : Hp} : ∀ l : List Str, DpAll K H (l.map V.str) (l.map PyData.str)
  | [] => .nil
  | x :: l => .cons (.str x) (dp_strs l)
theorem strOk_name {x : List Nat} (h : nameB x = true) : PyData.strOk (SX.S x) = true := by
  unfold nameB letB at h
  rw [Bool.and_eq_true, Bool.and_eq_true] at h
  have hl := List.all_eq_true.mp h.2.2
  have key : ∀ c ∈ x, c < 0x110000 := fun c hc => by
    by_cases e : c ∈ cutQ x
    · have := hl c e
      unfold lowc at this
      rw [Bool.and_eq_true, decide_eq_true_eq, decide_eq_true_eq] at this
      omega
    · unfold cutQ at e
      split at e
      · rename_i z
        rcases List.eq_nil_or_concat x with rfl | ⟨b, d, rfl⟩
        · cases hc
        · rw [List.concat_eq_append] at *
          rw [List.getLast?_append, List.getLast?_singleton, Option.some_or] at z
          rw [List.dropLast_concat] at e
          rcases List.mem_append.mp hc with k | k
          · exact absurd k e
          · rw [List.mem_singleton.mp k, Option.some.inj z]
            decide
      · exact absurd hc e
  unfold PyData.strOk
  rw [← Array.all_toList, show (SX.S x).cps.toList = x by simp [SX.S]]
  exact List.all_eq_true.mpr fun c hc => decide_eq_true (key c hc)
/-! ### the head by a Hook: facts of the heap behind the top, each a Bool -/
/-- a def: where it stands in the heap behind the top, what it is -/
structure DefY where
  to : PySem.W.Frag → Addr
  nm : Str
  ql : Str
  ar : Arguments
  bd : List Stmt
  sc : Scope
  df : PySem.W.Frag → List V
abbrev DTab : Type := Option (Str × Str × Arguments × FuncBody × Scope × Addr × List (Str × Addr) × Addr)
def dtab : Option Obj → DTab
  | some ⟨_, _, .func g, _⟩ => some (g.name, g.qualname, g.params, g.body, g.scope, g.globals, g.closure, g.builtins)
  | _ => none
def dgood (K : PySem.W.Frag) (d : DefY) : Option Obj → Bool
  | some ⟨_, _, .func g, _⟩ => He.dflB K g.defaults (d.df K) && PySem.W.codeIn K g.code d.ql
  | _ => false
def DefY.want (d : DefY) : DTab := some (d.nm, d.ql, d.ar, .stmts d.bd, d.sc, mainGlobals, [], builtinsNs)
def DefY.good (K : PySem.W.Frag) (d : DefY) : Bool := dgood K d (K.lookup (d.to K)) && PySem.W.keepIn K (.ref (d.to K))
theorem DefY.is {K : PySem.W.Frag} {d : DefY} (e : dtab (K.lookup (d.to K)) = d.want) (c : d.good K = true) : ∃ fd, FunD K d.nm d.ql d.ar d.bd d.sc (d.df K) [] (d.to K) fd := by
  obtain ⟨c1, kp⟩ := He.ba c
  generalize ho : K.lookup (d.to K) = oo at e c1
  match oo, ho, e, c1 with
  | some ⟨oc, od, .func ⟨a1, a2, a3, a4, a5, a6, a7, a8, a9, b1, b2, b3, b4, b5, b6⟩, osl⟩, ho, e, c1 =>
    have e2 : (some (a1, a2, a3, a4, a5, a6, a7, b6) : DTab) = some (d.nm, d.ql, d.ar, .stmts d.bd, d.sc, mainGlobals, [], builtinsNs) := e
    obtain ⟨rfl, rfl, rfl, rfl, rfl, rfl, rfl, rfl⟩ : a1 = d.nm ∧ a2 = d.ql ∧ a3 = d.ar ∧ a4 = .stmts d.bd ∧ a5 = d.sc ∧ a6 = mainGlobals ∧ a7 = [] ∧ b6 = builtinsNs := by simpa using e2
    obtain ⟨g1, g2⟩ := He.ba c1
    exact ⟨_, ⟨oc, od, a8, a9, b1, b2, b3, b4, b5, osl, rfl, ho, g2, He.dflB_ok g1, .inl rfl⟩, kp⟩
/-! what the Hook looks at: the module's names, their codes, defaults, classes' names; the statics -/
def toV : Value → List Addr
  | .ref a => [a]
  | _ => []
def kidsY : Option Obj → List Addr
  | some ⟨c, _, .fields vs, _⟩ => (match c with
    | .type "staticmethod" => vs.toList.flatMap toV
    | _ => [])
  | some ⟨_, _, .func g, _⟩ => toV g.code ++ toV g.defaults
  | some ⟨_, _, .cls cd, _⟩ => [cd.ns]
  | some ⟨_, _, .dict es _, _⟩ => es.toList.flatMap fun e => toV e.val
  | some ⟨_, _, .seq its _, _⟩ => its.toList.flatMap toV
  | _ => []
def rowsY (g : Addr → Option Obj) : Nat → List Addr → List Addr
  | 0, _ => []
  | n + 1, as => as ++ rowsY g n (as.flatMap fun a => kidsY (g a))
def partY (n : Nat) (g : Addr → Option Obj) : PySem.W.Frag := He.frG g (cStatics :: rowsY g n [mainGlobals])
def lawD : He.Defn := ("law", none)
def tabB (K : PySem.W.Frag) (g : Addr → Option Obj) : Bool := PySem.W.codeHdIn K (He.cT K lawD).1 (He.cT K lawD).2 && ((K.lookup (He.cT K lawD).2).isNone && ((g (He.cT K lawD).2).any He.emptyTab))
abbrev AlY : Type := Bool × Bool × Bool × Bool × List DTab
def obsK (fa : List He.Fa) (fn : List DefY) (ex : List (PySem.W.Frag → Bool)) (g : Addr → Option Obj) (K : PySem.W.Frag) : AlY := (fa.all fun f => f.ok K, fn.all fun d => d.good K, ex.all fun b => b K, tabB K g, fn.map fun d => dtab (K.lookup (d.to K)))
def obsY (n : Nat) (fa : List He.Fa) (fn : List DefY) (ex : List (PySem.W.Frag → Bool)) (g : Addr → Option Obj) : AlY := obsK fa fn ex g (partY n g)
def wantY (fn : List DefY) : AlY := (true, true, true, true, fn.map DefY.want)
structure SaysY (fa : List He.Fa) (fn : List DefY) (ex : List (PySem.W.Frag → Bool)) (h : Heap) (K : PySem.W.Frag) : Prop where
  kin : K.In h
  fas : ∀ f ∈ fa, f.ok K = true
  exs : ∀ b ∈ ex, b K = true
  def_ : ∀ d ∈ fn, ∃ fd, FunD K d.nm d.ql d.ar d.bd d.sc (d.df K) [] (d.to K) fd
  hd : PySem.W.codeHdIn K (He.cT K lawD).1 (He.cT K lawD).2 = true
  out : K.lookup (He.cT K lawD).2 = none
  tab : h.get? (He.cT K lawD).2 = some { cls := .none, data := .fields #[] }
theorem saysY {n : Nat} {fa : List He.Fa} {fn : List DefY} {ex : List (PySem.W.Frag → Bool)} {h : Heap} (e : obsY n fa fn ex h.get? = wantY fn) : SaysY fa fn ex h (partY n h.get?) := by
  generalize hK : partY n h.get? = K
  have e' : obsK fa fn ex h.get? K = wantY fn := by rw [← hK]; exact e
  obtain ⟨e1, e2, e3, e4, e5⟩ : (fa.all fun f => f.ok K) = true ∧ (fn.all fun d => d.good K) = true ∧ (ex.all fun b => b K) = true ∧ tabB K h.get? = true ∧ (fn.map fun d => dtab (K.lookup (d.to K))) = fn.map DefY.want := by
    have q := e'
    unfold obsK wantY at q
    exact ⟨congrArg (fun z : AlY => z.1) q, congrArg (fun z : AlY => z.2.1) q, congrArg (fun z : AlY => z.2.2.1) q, congrArg (fun z : AlY => z.2.2.2.1) q, congrArg (fun z : AlY => z.2.2.2.2) q⟩
  obtain ⟨t1, t⟩ := He.ba e4
  obtain ⟨t2, t3⟩ := He.ba t
  refine ⟨by rw [← hK]; exact He.frG_in, List.all_eq_true.mp e1, List.all_eq_true.mp e3, fun d hd => DefY.is (List.map_inj_left.mp e5 d hd) (List.all_eq_true.mp e2 d hd), t1, by simpa using t2, ?_⟩
  cases q : h.get? (He.cT K lawD).2 with
  | none => rw [q] at t3; cases t3
  | some o => rw [q] at t3; rw [He.emptyTab_eq (o := o) t3]
def hookY (n : Nat) (fa : List He.Fa) (fn : List DefY) (ex : List (PySem.W.Frag → Bool)) : PySem.W.Hook where
  α := AlY
  obs := fun s => obsY n fa fn ex s.heap.get?
  val := fun _ => wantY fn
  says := fun _ h => ∃ K : PySem.W.Frag, SaysY fa fn ex h K
  of := fun _ _ e => ⟨_, saysY e⟩
  keeps := fun _ _ _ ⟨K, c⟩ k => ⟨K, PySem.W.Frag.In.keeps c.kin k, c.fas, c.exs, c.def_, c.hd, c.out, k _ _ c.tab⟩
theorem obsY_eq {n : Nat} {fa : List He.Fa} {fn : List DefY} {ex : List (PySem.W.Frag → Bool)} {g : Addr → Option Obj} {s : Shared} (h : ∀ a, g a = s.heap.get? a) : obsY n fa fn ex g = (hookY n fa fn ex).obs s := by
  have e : g = s.heap.get? := funext h
  subst e
  rfl
section
variable {fa : List He.Fa} {fn : List DefY} {ex : List (PySem.W.Frag → Bool)} {h : Heap} {K : PySem.W.Frag} (c : SaysY fa fn ex h K)
include c
theorem SaysY.fact (i : Nat) {f : He.Fa} (e : fa[i]? = some f := by rfl) : f.ok K = true := c.fas f (List.mem_of_getElem? e)
theorem SaysY.own (i : Nat) {b : PySem.W.Frag → Bool} (e : ex[i]? = some b := by rfl) : b K = true := c.exs b (List.mem_of_getElem? e)
theorem SaysY.get (i : Nat) {d : DefY} (e : fn[i]? = some d := by rfl) : ∃ fd, FunD K d.nm d.ql d.ar d.bd d.sc (d.df K) [] (d.to K) fd := c.def_ d (List.mem_of_getElem? e)
end
/-- a tuple at an address -/
def tupY (K : PySem.W.Frag) (a : Addr) (vs : List V) : Bool := (K.lookup a).any fun o => decide (o.cls = .type "tuple") && (match o.data with
  | .seq its _ => decide (its.size ≤ 1000) && He.relAll vs its.toList
  | _ => false)
theorem tupY_ok {K : PySem.W.Frag} {a : Addr} {vs : List V} (h : tupY K a vs = true) (H : Hp) : SqT K H a vs := by
  unfold tupY at h
  obtain ⟨o, ho, h⟩ : ∃ o, K.lookup a = some o ∧ (decide (o.cls = .type "tuple") && (match o.data with
    | .seq its _ => decide (its.size ≤ 1000) && He.relAll vs its.toList
    | _ => false)) = true := by
    cases q : K.lookup a with
    | none => rw [q] at h; cases h
    | some o => rw [q] at h; exact ⟨o, rfl, h⟩
  obtain ⟨h1, h2⟩ := He.ba h
  split at h2
  · rename_i its n hd
    obtain ⟨h3, h4⟩ := He.ba h2
    exact .inr ⟨o, its, n, ho, of_decide_eq_true h1, hd, Nat.le_of_lt (small1000 (of_decide_eq_true h3)), He.relAll_ok h4⟩
  · cases h2
/-- a class that makes objects -/
def mkB (C f : PySem.W.Frag → Addr) (K : PySem.W.Frag) : Bool := PySem.W.makesIn K (C K) && (He.eqO (PySem.W.findIn K (.ref (C K)) "__init__") (some (some (.ref (f K)))) && (PySem.W.isFn K (.ref (f K)) && PySem.W.keepIn K (.ref (C K))))
theorem mkB_ok {C f : PySem.W.Frag → Addr} {K : PySem.W.Frag} (h : mkB C f K = true) : Mk K (C K) (f K) := by
  obtain ⟨h1, h⟩ := He.ba h
  obtain ⟨h2, h⟩ := He.ba h
  obtain ⟨h3, h4⟩ := He.ba h
  exact ⟨h1, He.eqO_ok h2, h3, h4⟩
/-- isinstance of an own class -/
def insB (x : Str) (K : PySem.W.Frag) : Bool := He.eqO (PySem.W.findIn K (.ref (He.ga K x)) "__class__") (some (some (.builtin "object.__class__"))) && (He.eqO (PySem.W.specialIn K (.builtin "object.__class__") "__get__") (some (some (.builtin "getset_descriptor.__get__"))) && (decide (PySem.W.takesIn K (.builtin "object.__class__") = some true) &&
  (decide (PySem.W.mroIn K (He.ga K x) (.type "object") = some true) && (decide (PySem.W.kitOne K (.ref (He.ga K x)) (.ref (He.ga K x)) = some true) && decide (PySem.W.kitOne K (.type "list") (.ref (He.ga K x)) = some false)))))
theorem insB_ok {x : Str} {K : PySem.W.Frag} (c : Cls K (He.ga K x)) (h : insB x K = true) : C8.InsC K (He.ga K x) ∧ PySem.W.kitOne K (.type "list") (.ref (He.ga K x)) = some false := by
  obtain ⟨h1, h⟩ := He.ba h
  obtain ⟨h2, h⟩ := He.ba h
  obtain ⟨h3, h⟩ := He.ba h
  obtain ⟨h4, h⟩ := He.ba h
  obtain ⟨h5, h6⟩ := He.ba h
  exact ⟨⟨c, He.eqO_ok h1, He.eqO_ok h2, of_decide_eq_true h3, of_decide_eq_true h4, of_decide_eq_true h5⟩, of_decide_eq_true h6⟩
/-- a static method -/
def smP (C m : Str) (K : PySem.W.Frag) : Addr := He.ma K (He.ga K C) m
def smF (C m : Str) (K : PySem.W.Frag) : Addr := match PySem.W.recIn K (smP C m K) "staticmethod" with
  | some (.ref g :: _) => g
  | _ => 0
def smB (C m : Str) (K : PySem.W.Frag) : Bool := PySem.W.readsIn K (He.ga K C) (.type "type") && (He.eqO (PySem.W.specialIn K (.ref (He.ga K C)) "__getattribute__") (some (some (.builtin "type.__getattribute__"))) && ((match PySem.W.findCls K (.ref (He.ga K C)) (.type "type") m with
  | some (.get (.builtin b) (.ref p) .none (.ref c)) => decide (b = "staticmethod.__get__") && (decide (p = smP C m K) && decide (c = He.ga K C))
  | _ => false) && ((match PySem.W.recIn K (smP C m K) "staticmethod" with
  | some (.ref _ :: _) => true
  | _ => false) && PySem.W.keepIn K (.ref (smF C m K)))))
theorem smB_ok {C m : Str} {K : PySem.W.Frag} (h : smB C m K = true) : ∃ mc p, SMet K (He.ga K C) mc m p (smF C m K) := by
  obtain ⟨h1, h⟩ := He.ba h
  obtain ⟨h2, h⟩ := He.ba h
  obtain ⟨h3, h⟩ := He.ba h
  obtain ⟨h4, h5⟩ := He.ba h
  refine ⟨_, smP C m K, h1, He.eqO_ok h2, ?_, ?_, h5⟩
  · split at h3
    · rename_i b p c e
      obtain ⟨q1, q⟩ := He.ba h3
      obtain ⟨q2, q3⟩ := He.ba q
      rw [e, of_decide_eq_true q1, of_decide_eq_true q2, of_decide_eq_true q3]
    · cases h3
  · unfold smF
    split at h4
    · rename_i g r e
      rw [e]
      exact ⟨r, rfl⟩
    · cases h4
theorem fun_of {K : PySem.W.Frag} {x q : Str} {st : Stmt} {f : Addr} {fd : FuncData} (F : FunD K x q (defArgs st) (defBody st) (defScope st) [] [] f fd) : Fun K x q st f fd := by
  obtain ⟨oc, od, dV, kV, doc, pm, an, cdv, ct, osl, rfl, lk, hcd, hD, hK⟩ := F.ex
  rcases hD with ⟨_, rfl⟩ | ⟨e, _⟩
  · exact ⟨⟨oc, od, kV, doc, pm, an, cdv, ct, osl, rfl, lk, hcd⟩, F.kp⟩
  · exact absurd rfl e
theorem funC_of {K : PySem.W.Frag} {st : Stmt} {fd : FuncData} (F : FunD K "law" "law" (defArgs st) (defBody st) (defScope st) [] [] (He.ga K "law") fd) : FunC K "law" st (He.ga K "law") fd (He.cT K lawD).1 := by
  obtain ⟨oc, od, dV, kV, doc, pm, an, cdv, ct, osl, rfl, lk, hcd, hD, hK⟩ := F.ex
  rcases hD with ⟨_, rfl⟩ | ⟨e, _⟩
  · obtain ⟨c, rfl⟩ := He.codeIn_ref hcd
    have e : (He.cT K lawD).1 = c := He.codeOf_eq (p := lawD) lk rfl
    rw [e]
    exact ⟨oc, od, kV, doc, pm, an, ct, osl, rfl, lk, hcd⟩
  · exact absurd rfl e
/-- an own error class -/
def oexB (K : PySem.W.Frag) (C : Addr) : Bool := (match K.lookup C with
  | some ⟨.type c, _, .cls cd, sl⟩ => (match cd.mro, sl.toList with
    | .ref C' :: bm, [_, _, _, _, some (.builtin n), _] => decide (c = "type") && ((C' == C) && (decide (n = "ValueError.__new__") && (!cd.hasDel && (cd.hasDict && PySem.HandSPX.refsVE bm))))
    | _, _ => false)
  | _ => false) && (He.eqO (PySem.W.findIn K (.ref C) "__setattr__") (some (some (.builtin "object.__setattr__"))) && (decide (PySem.W.subIn K (.ref C) (.type "BaseException") = some true) && (decide (PySem.W.typeIn K (.ref C) = some (.type "type")) && PySem.W.keepIn K (.ref C))))
theorem oexB_ok {K : PySem.W.Frag} {C : Addr} (h : oexB K C = true) : OexC K C := by
  obtain ⟨h1, h⟩ := He.ba h
  obtain ⟨h2, h⟩ := He.ba h
  obtain ⟨h3, h⟩ := He.ba h
  obtain ⟨h4, h5⟩ := He.ba h
  refine ⟨?_, He.eqO_ok h2, of_decide_eq_true h3, of_decide_eq_true h4, h5⟩
  split at h1
  · rename_i c dd cd sl ho
    split at h1
    · rename_i C' bm k0 k1 k2 k3 n k5 hm hs
      obtain ⟨e1, q⟩ := He.ba h1
      obtain ⟨e2, q⟩ := He.ba q
      obtain ⟨e3, q⟩ := He.ba q
      obtain ⟨e4, q⟩ := He.ba q
      obtain ⟨e5, q6⟩ := He.ba q
      have e1 := of_decide_eq_true e1
      have e2 := beq_iff_eq.mp e2
      have e3 := of_decide_eq_true e3
      subst e1 e2 e3
      obtain ⟨nm, bs, mro, ns, qn, hd, sn, sub, ab, col, del⟩ := cd
      dsimp only at hm e4 e5
      have e4 : del = false := by cases del with | false => rfl | true => cases e4
      subst hm e4 e5
      have hsl : sl = #[k0, k1, k2, k3, some (.builtin "ValueError.__new__"), k5] := by
        obtain ⟨sl⟩ := sl
        simp only at hs
        rw [hs]
      subst hsl
      exact ⟨nm, qn, ns, bs, bm, sn, sub, ab, col, dd, k0, k1, k2, k3, k5, ho, q6⟩
    · cases h1
  · cases h1
/-- an own error class with its maker -/
def errB (x : Str) (K : PySem.W.Frag) : Bool := oexB K (He.ga K x) && (xfB K (He.ga K x) && (He.eqO (PySem.W.nsIn K mainGlobals x) (some (some (.ref (He.ga K x)))) && (He.eqO (PySem.W.findIn K (.ref (He.ga K x)) "tag") (some none) && (decide (PySem.W.exmOne K (.ref (He.ga K x)) (.ref (He.ga K "TieError")) = some true) && (decide (PySem.W.exmOne K (.ref (He.ga K x)) (.ref (He.ga K "Missing")) = some false) &&
  (He.eqO (PySem.W.findIn K (.ref (He.ga K x)) "__init__") (some (some (.ref (He.ma K (He.ga K x) "__init__")))) && decide (PySem.W.typeIn K (.ref (He.ma K (He.ga K x) "__init__")) = some (.type "function"))))))))
theorem errB_ok {K : PySem.W.Frag} {mg : Str → Option Value} {hp : Heap} {x : Str} (X : K.In hp) (G : hp.Ns mainGlobals mg) (h : errB x K = true) : ErrC K mg x (He.ga K x) (He.ga K "TieError") (He.ga K "Missing") (He.ma K (He.ga K x) "__init__") := by
  obtain ⟨h1, h⟩ := He.ba h
  obtain ⟨h2, h⟩ := He.ba h
  obtain ⟨h3, h⟩ := He.ba h
  obtain ⟨h4, h⟩ := He.ba h
  obtain ⟨h5, h⟩ := He.ba h
  obtain ⟨h6, h⟩ := He.ba h
  obtain ⟨h7, h8⟩ := He.ba h
  exact ⟨oexB_ok h1, xfB_ok h2, PySem.W.mg_of X G (He.eqO_ok h3), He.eqO_ok h4, exm_any (of_decide_eq_true h5) (of_decide_eq_true h6), He.eqO_ok h7, of_decide_eq_true h8⟩
theorem intC {K : PySem.W.Frag} {mg : Str → Option Value} {hp : Heap} {x : Str} {i : Int} (X : K.In hp) (G : hp.Ns mainGlobals mg) (h : (He.Fa.int x i).ok K = true) : ∃ u, mg x = some u ∧ RelV (V.int i) u := by
  obtain ⟨t, e⟩ := He.int_ok X G h
  exact ⟨_, e, ⟨_, rfl⟩⟩
theorem strC {K : PySem.W.Frag} {mg : Str → Option Value} {hp : Heap} {x z : Str} (X : K.In hp) (G : hp.Ns mainGlobals mg) (h : (He.Fa.str x z).ok K = true) : ∃ u, mg x = some u ∧ RelV (V.str z) u := by
  obtain ⟨t, e⟩ := He.str_ok X G h
  exact ⟨_, e, ⟨_, rfl⟩⟩
theorem refC {K : PySem.W.Frag} {mg : Str → Option Value} {hp : Heap} {x : Str} (X : K.In hp) (G : hp.Ns mainGlobals mg) (h : (He.Fa.glo x).ok K = true) : ∃ u, mg x = some u ∧ RelV (V.ref (He.ga K x)) u := ⟨_, He.glo_ok X G h, rfl⟩
section
open PySem.W PySem.Calls PyProof.Rows
/-- the run's equation in three looks, each its own run -/
noncomputable abbrev endY (r : PySem.W.OpenRow) (M : Nat) (w : World) (os : OsState) : Option PySem.W.SharedT := HandSHeadRun.endF (HandSHeadRun.stepQ (HandSHeadRun.denQ HandSHeadRun.tabQ) r.prog w) M r.prog w os
theorem run_three {r : PySem.W.OpenRow} {q : Program} {H : PySem.W.Hook} {ob : PySem.W.SharedT → H.α} {M : Nat} {loose : List Str} {w : World} (h1 : ∀ os, (endY r M w os).map (fun s => HandSHeadRun.looksF r.prog (boot_heap w.params) s.abs) = some true)
    (h2 : ∀ os, (endY r M w os).map (fun s => HandSHeadRun.seenQ q loose (importedModules r.prog.main.body) (fun s => PySem.W.xlAt q [] s && PySem.W.recOk r.toRowW.records s) s.abs) = some (PySem.W.openGood q loose)) (h3 : ∀ os, (endY r M w os).map ob = some (H.val w)) :
    HandSHeadRun.RunEq r q H ob M loose w := by
  intro os
  obtain ⟨s, e, a⟩ := Option.map_eq_some_iff.mp (h1 os)
  have b := h2 os
  have c := h3 os
  rw [e] at b c
  show (endY r M w os).map _ = _
  rw [e]
  have b' := Option.some.inj b
  have c' := Option.some.inj c
  exact congrArg some (Prod.ext a (Prod.ext b' c'))
end
end EK
namespace T8
open PySem PySem.Spec PyProof.Rows L2 EK
def topS (i : Nat) : Stmt := PySem.Challenge.pw_tiespan_k16_lots_return_what_they_are_ma.main.body.getD i (.Pass ⟨0, 0, 0, 0⟩)
abbrev s_p_is_whole : Stmt := topS 17
abbrev s_p_common_divisor : Stmt := topS 19
abbrev s_p_ratio : Stmt := topS 20
abbrev s_p_is_ratio : Stmt := topS 21
abbrev s_p_add : Stmt := topS 22
abbrev s_p_subtract : Stmt := topS 23
abbrev s_p_multiply : Stmt := topS 24
abbrev s_p_is_less : Stmt := topS 26
abbrev s_p_is_digits : Stmt := topS 29
abbrev s_p_number_text : Stmt := topS 30
abbrev s_p_number_of : Stmt := topS 31
abbrev s_p_ratio_text : Stmt := topS 32
abbrev s_p_ratio_of : Stmt := topS 33
abbrev s_p_run_end : Stmt := topS 77
abbrev s_p_number_symbol : Stmt := topS 78
abbrev s_p_name_symbol : Stmt := topS 79
abbrev s_p_symbol_at : Stmt := topS 80
abbrev s_p_symbols_of : Stmt := topS 81
abbrev s_p_read_term : Stmt := topS 82
abbrev s_p_read_sum : Stmt := topS 83
abbrev s_p_is_name : Stmt := topS 85
abbrev s_p_is_term : Stmt := topS 86
abbrev s_p_are_terms : Stmt := topS 87
abbrev s_p_is_tie : Stmt := topS 88
abbrev s_p_names_in : Stmt := topS 89
abbrev s_p_reduced : Stmt := topS 90
abbrev s_p_is_kept : Stmt := topS 91
abbrev s_p_term_text : Stmt := topS 92
abbrev s_p_terms_text : Stmt := topS 93
abbrev s_p_tie_text : Stmt := topS 94
abbrev s_p_ascending_names : Stmt := topS 95
abbrev s_p_brought_together : Stmt := topS 96
abbrev s_p_tie_below : Stmt := topS 97
abbrev s_p_read_ties : Stmt := topS 98
abbrev s_p_ascending : Stmt := topS 109
abbrev s_p_first_wrong_name : Stmt := topS 135
abbrev s_p_first_wrong_tie : Stmt := topS 136
abbrev s_feed : Stmt := topS 140
abbrev s_draw : Stmt := topS 141
abbrev s_any : Stmt := topS 142
abbrev s_same : Stmt := topS 143
abbrev s_gcd : Stmt := topS 144
abbrev s_low : Stmt := topS 145
abbrev s_plus : Stmt := topS 146
abbrev s_by : Stmt := topS 147
abbrev s_under : Stmt := topS 148
abbrev s_rate : Stmt := topS 149
abbrev s_words : Stmt := topS 150
abbrev s_strange : Stmt := topS 151
abbrev s_total : Stmt := topS 152
abbrev s_keeps : Stmt := topS 153
abbrev s_point : Stmt := topS 154
abbrev s_terms : Stmt := topS 155
abbrev s_ties : Stmt := topS 156
abbrev s_brief : Stmt := topS 157
abbrev s_part_text : Stmt := topS 158
abbrev s_sum_text : Stmt := topS 159
abbrev s_tie_text : Stmt := topS 160
abbrev s_p_law : Stmt := topS 161
theorem sc_p_is_whole : FnScope ["thing"] ["thing"] (defScope s_p_is_whole) := ⟨rfl, rfl, rfl, by decide +kernel, rfl, by decide +kernel, by decide +kernel⟩
theorem sc_p_common_divisor : FnScope ["one", "other"] ["one", "other"] (defScope s_p_common_divisor) := ⟨rfl, rfl, rfl, by decide +kernel, rfl, by decide +kernel, by decide +kernel⟩
theorem sc_p_ratio : FnScope ["top", "under", "shared"] ["top", "under"] (defScope s_p_ratio) := ⟨rfl, rfl, rfl, by decide +kernel, rfl, by decide +kernel, by decide +kernel⟩
theorem sc_p_is_ratio : FnScope ["thing", "top", "under"] ["thing"] (defScope s_p_is_ratio) := ⟨rfl, rfl, rfl, by decide +kernel, rfl, by decide +kernel, by decide +kernel⟩
theorem sc_p_add : FnScope ["one", "other"] ["one", "other"] (defScope s_p_add) := ⟨rfl, rfl, rfl, by decide +kernel, rfl, by decide +kernel, by decide +kernel⟩
theorem sc_p_subtract : FnScope ["one", "other"] ["one", "other"] (defScope s_p_subtract) := ⟨rfl, rfl, rfl, by decide +kernel, rfl, by decide +kernel, by decide +kernel⟩
theorem sc_p_multiply : FnScope ["one", "other"] ["one", "other"] (defScope s_p_multiply) := ⟨rfl, rfl, rfl, by decide +kernel, rfl, by decide +kernel, by decide +kernel⟩
theorem sc_p_is_less : FnScope ["one", "other"] ["one", "other"] (defScope s_p_is_less) := ⟨rfl, rfl, rfl, by decide +kernel, rfl, by decide +kernel, by decide +kernel⟩
theorem sc_p_is_digits : FnScope ["text"] ["text"] (defScope s_p_is_digits) := ⟨rfl, rfl, rfl, by decide +kernel, rfl, by decide +kernel, by decide +kernel⟩
theorem sc_p_number_text : FnScope ["number", "rest", "blocks", "block"] ["number"] (defScope s_p_number_text) := ⟨rfl, rfl, rfl, by decide +kernel, rfl, by decide +kernel, by decide +kernel⟩
theorem sc_p_number_of : FnScope ["digits", "start", "number", "at"] ["digits"] (defScope s_p_number_of) := ⟨rfl, rfl, rfl, by decide +kernel, rfl, by decide +kernel, by decide +kernel⟩
theorem sc_p_ratio_text : FnScope ["one"] ["one"] (defScope s_p_ratio_text) := ⟨rfl, rfl, rfl, by decide +kernel, rfl, by decide +kernel, by decide +kernel⟩
theorem sc_p_ratio_of : FnScope ["text", "top", "slash", "under", "number", "divisor", "found"] ["text"] (defScope s_p_ratio_of) := ⟨rfl, rfl, rfl, by decide +kernel, rfl, by decide +kernel, by decide +kernel⟩
theorem sc_p_run_end : FnScope ["text", "at", "letters"] ["text", "at", "letters"] (defScope s_p_run_end) := ⟨rfl, rfl, rfl, by decide +kernel, rfl, by decide +kernel, by decide +kernel⟩
theorem sc_p_number_symbol : FnScope ["text", "at", "end", "top", "slash", "under", "worth"] ["text", "at"] (defScope s_p_number_symbol) := ⟨rfl, rfl, rfl, by decide +kernel, rfl, by decide +kernel, by decide +kernel⟩
theorem sc_p_name_symbol : FnScope ["text", "at", "end"] ["text", "at"] (defScope s_p_name_symbol) := ⟨rfl, rfl, rfl, by decide +kernel, rfl, by decide +kernel, by decide +kernel⟩
theorem sc_p_symbol_at : FnScope ["text", "at"] ["text", "at"] (defScope s_p_symbol_at) := ⟨rfl, rfl, rfl, by decide +kernel, rfl, by decide +kernel, by decide +kernel⟩
theorem sc_p_symbols_of : FnScope ["text", "symbols", "at", "sort", "worth", "end"] ["text"] (defScope s_p_symbols_of) := ⟨rfl, rfl, rfl, by decide +kernel, rfl, by decide +kernel, by decide +kernel⟩
theorem sc_p_read_term : FnScope ["symbols", "at", "sort", "worth", "place"] ["symbols", "at"] (defScope s_p_read_term) := ⟨rfl, rfl, rfl, by decide +kernel, rfl, by decide +kernel, by decide +kernel⟩
theorem sc_p_read_sum : FnScope ["symbols", "at", "rates", "sign", "name", "rate"] ["symbols", "at"] (defScope s_p_read_sum) := ⟨rfl, rfl, rfl, by decide +kernel, rfl, by decide +kernel, by decide +kernel⟩
theorem sc_p_is_name : FnScope ["text", "letters"] ["text"] (defScope s_p_is_name) := ⟨rfl, rfl, rfl, by decide +kernel, rfl, by decide +kernel, by decide +kernel⟩
theorem sc_p_is_term : FnScope ["thing"] ["thing"] (defScope s_p_is_term) := ⟨rfl, rfl, rfl, by decide +kernel, rfl, by decide +kernel, by decide +kernel⟩
theorem sc_p_are_terms : FnScope ["thing", "term"] ["thing"] (defScope s_p_are_terms) := ⟨rfl, rfl, rfl, by decide +kernel, rfl, by decide +kernel, by decide +kernel⟩
theorem sc_p_is_tie : FnScope ["thing"] ["thing"] (defScope s_p_is_tie) := ⟨rfl, rfl, rfl, by decide +kernel, rfl, by decide +kernel, by decide +kernel⟩
theorem sc_p_names_in : FnScope ["tie", "name", "rate"] ["tie"] (defScope s_p_names_in) := ⟨rfl, rfl, rfl, by decide +kernel, rfl, by decide +kernel, by decide +kernel⟩
theorem sc_p_reduced : FnScope ["tie", "terms", "bound", "under", "name", "rate", "shared", "scale"] ["tie"] (defScope s_p_reduced) := ⟨rfl, rfl, rfl, by decide +kernel, rfl, by decide +kernel, by decide +kernel⟩
theorem sc_p_is_kept : FnScope ["tie", "values", "terms", "bound", "total", "name", "rate"] ["tie", "values"] (defScope s_p_is_kept) := ⟨rfl, rfl, rfl, by decide +kernel, rfl, by decide +kernel, by decide +kernel⟩
theorem sc_p_term_text : FnScope ["name", "rate"] ["name", "rate"] (defScope s_p_term_text) := ⟨rfl, rfl, rfl, by decide +kernel, rfl, by decide +kernel, by decide +kernel⟩
theorem sc_p_terms_text : FnScope ["terms", "text", "name", "rate"] ["terms"] (defScope s_p_terms_text) := ⟨rfl, rfl, rfl, by decide +kernel, rfl, by decide +kernel, by decide +kernel⟩
theorem sc_p_tie_text : FnScope ["tie", "terms", "bound"] ["tie"] (defScope s_p_tie_text) := ⟨rfl, rfl, rfl, by decide +kernel, rfl, by decide +kernel, by decide +kernel⟩
theorem sc_p_ascending_names : FnScope ["rates", "name"] ["rates"] (defScope s_p_ascending_names) := ⟨rfl, rfl, rfl, by decide +kernel, rfl, by decide +kernel, by decide +kernel⟩
theorem sc_p_brought_together : FnScope ["left", "right", "rates", "name"] ["left", "right"] (defScope s_p_brought_together) := ⟨rfl, rfl, rfl, by decide +kernel, rfl, by decide +kernel, by decide +kernel⟩
theorem sc_p_tie_below : FnScope ["left", "right", "rates", "terms", "name"] ["left", "right"] (defScope s_p_tie_below) := ⟨rfl, rfl, rfl, by decide +kernel, rfl, by decide +kernel, by decide +kernel⟩
theorem sc_p_read_ties : FnScope ["text", "symbols", "left", "at", "sort", "sign", "place", "right", "many"] ["text"] (defScope s_p_read_ties) := ⟨rfl, rfl, rfl, by decide +kernel, rfl, by decide +kernel, by decide +kernel⟩
theorem sc_p_ascending : FnScope ["names", "found", "name", "one"] ["names"] (defScope s_p_ascending) := ⟨rfl, rfl, rfl, by decide +kernel, rfl, by decide +kernel, by decide +kernel⟩
theorem sc_p_first_wrong_name : FnScope ["names", "at", "name"] ["names"] (defScope s_p_first_wrong_name) := ⟨rfl, rfl, rfl, by decide +kernel, rfl, by decide +kernel, by decide +kernel⟩
theorem sc_p_first_wrong_tie : FnScope ["ties", "names", "at", "tie", "name"] ["ties", "names"] (defScope s_p_first_wrong_tie) := ⟨rfl, rfl, rfl, by decide +kernel, rfl, by decide +kernel, by decide +kernel⟩
theorem sc_feed : FnScope ["_law_script", "_law_cell", "_law_cells", "_law_mark"] ["_law_script"] (defScope s_feed) := ⟨rfl, rfl, rfl, by decide +kernel, rfl, by decide +kernel, by decide +kernel⟩
theorem sc_draw : FnScope ["_law_feed_here", "_law_many", "_law_cell", "_law_one", "_law_two", "_law_drawn"] ["_law_feed_here", "_law_many"] (defScope s_draw) := ⟨rfl, rfl, rfl, by decide +kernel, rfl, by decide +kernel, by decide +kernel⟩
theorem sc_any : FnScope ["_law_feed_here", "_law_row"] ["_law_feed_here", "_law_row"] (defScope s_any) := ⟨rfl, rfl, rfl, by decide +kernel, rfl, by decide +kernel, by decide +kernel⟩
theorem sc_same : FnScope ["_law_found", "_law_due", "_law_key", "_law_one", "_law_two"] ["_law_found", "_law_due"] (defScope s_same) := ⟨rfl, rfl, rfl, by decide +kernel, rfl, by decide +kernel, by decide +kernel⟩
theorem sc_gcd : FnScope ["_law_one", "_law_two"] ["_law_one", "_law_two"] (defScope s_gcd) := ⟨rfl, rfl, rfl, by decide +kernel, rfl, by decide +kernel, by decide +kernel⟩
theorem sc_low : FnScope ["_law_upper", "_law_lower", "_law_part"] ["_law_upper", "_law_lower"] (defScope s_low) := ⟨rfl, rfl, rfl, by decide +kernel, rfl, by decide +kernel, by decide +kernel⟩
theorem sc_plus : FnScope ["_law_one", "_law_two"] ["_law_one", "_law_two"] (defScope s_plus) := ⟨rfl, rfl, rfl, by decide +kernel, rfl, by decide +kernel, by decide +kernel⟩
theorem sc_by : FnScope ["_law_one", "_law_two"] ["_law_one", "_law_two"] (defScope s_by) := ⟨rfl, rfl, rfl, by decide +kernel, rfl, by decide +kernel, by decide +kernel⟩
theorem sc_under : FnScope ["_law_one", "_law_two"] ["_law_one", "_law_two"] (defScope s_under) := ⟨rfl, rfl, rfl, by decide +kernel, rfl, by decide +kernel, by decide +kernel⟩
theorem sc_rate : FnScope ["_law_feed_here"] ["_law_feed_here"] (defScope s_rate) := ⟨rfl, rfl, rfl, by decide +kernel, rfl, by decide +kernel, by decide +kernel⟩
theorem sc_words : FnScope ["_law_feed_here", "_law_many", "_law_letters", "_law_stem", "_law_spot", "_law_first", "_law_way", "_law_found", "_law_k"] ["_law_feed_here", "_law_many"] (defScope s_words) := ⟨rfl, rfl, rfl, by decide +kernel, rfl, by decide +kernel, by decide +kernel⟩
theorem sc_strange : FnScope ["_law_words_here", "_law_word"] ["_law_words_here"] (defScope s_strange) := ⟨rfl, rfl, rfl, by decide +kernel, rfl, by decide +kernel, by decide +kernel⟩
theorem sc_total : FnScope ["_law_terms_here", "_law_values", "_law_found", "_law_name", "_law_rate_here"] ["_law_terms_here", "_law_values"] (defScope s_total) := ⟨rfl, rfl, rfl, by decide +kernel, rfl, by decide +kernel, by decide +kernel⟩
theorem sc_keeps : FnScope ["_law_tie", "_law_values"] ["_law_tie", "_law_values"] (defScope s_keeps) := ⟨rfl, rfl, rfl, by decide +kernel, rfl, by decide +kernel, by decide +kernel⟩
theorem sc_point : FnScope ["_law_feed_here", "_law_words_here", "_law_name"] ["_law_feed_here", "_law_words_here"] (defScope s_point) := ⟨rfl, rfl, rfl, by decide +kernel, rfl, by decide +kernel, by decide +kernel⟩
theorem sc_terms : FnScope ["_law_feed_here", "_law_words_here", "_law_pairs", "_law_one", "_law_chosen", "_law_name"] ["_law_feed_here", "_law_words_here", "_law_pairs"] (defScope s_terms) := ⟨rfl, rfl, rfl, by decide +kernel, rfl, by decide +kernel, by decide +kernel⟩
theorem sc_ties : FnScope ["_law_feed_here", "_law_words_here", "_law_many", "_law_open_cases", "_law_point_here", "_law_found", "_law_loose", "_law_k", "_law_terms_here", "_law_bound", "_law_room"] ["_law_feed_here", "_law_words_here", "_law_many", "_law_open_cases"] (defScope s_ties) := ⟨rfl, rfl, rfl, by decide +kernel, rfl, by decide +kernel, by decide +kernel⟩
theorem sc_brief : FnScope ["_law_tie", "_law_whole", "_law_part", "_law_name", "_law_rate_here", "_law_scale"] ["_law_tie"] (defScope s_brief) := ⟨rfl, rfl, rfl, by decide +kernel, rfl, by decide +kernel, by decide +kernel⟩
theorem sc_part_text : FnScope ["_law_one"] ["_law_one"] (defScope s_part_text) := ⟨rfl, rfl, rfl, by decide +kernel, rfl, by decide +kernel, by decide +kernel⟩
theorem sc_sum_text : FnScope ["_law_terms_here", "_law_text", "_law_name", "_law_rate_here", "_law_size", "_law_word", "_law_lead"] ["_law_terms_here"] (defScope s_sum_text) := ⟨rfl, rfl, rfl, by decide +kernel, rfl, by decide +kernel, by decide +kernel⟩
theorem sc_tie_text : FnScope ["_law_tie", "_law_terms_here", "_law_bound"] ["_law_tie"] (defScope s_tie_text) := ⟨rfl, rfl, rfl, by decide +kernel, rfl, by decide +kernel, by decide +kernel⟩
theorem sc_p_law : FnScope ["_law_script", "_law_feed_here", "_law_turn", "_law_words_here", "_law_bonds", "_law_given", "_law_handed", "_law_made", "_law_told", "_law_text", "_law_shown", "_law_again", "_law_brief_here", "_law_both", "_law_parts", "_law_alike", "_law_values", "_law_name", "_law_tie"] ["_law_script"] (defScope s_p_law) := ⟨rfl, rfl, rfl, by decide +kernel, rfl, by decide +kernel, by decide +kernel⟩
abbrev s_p_LotInit : Stmt := inClass (topS 138) 0
theorem sc_p_LotInit : FnScope ["self", "names", "ties", "wrong"] ["self", "names", "ties"] (defScope s_p_LotInit) := ⟨rfl, rfl, rfl, by decide +kernel, rfl, by decide +kernel, by decide +kernel⟩
abbrev s_p_LotRead : Stmt := inClass (topS 138) 1
theorem sc_p_LotRead : FnScope ["names", "text", "ties", "part"] ["names", "text"] (defScope s_p_LotRead) := ⟨rfl, rfl, rfl, by decide +kernel, rfl, by decide +kernel, by decide +kernel⟩
abbrev s_p_LotNames : Stmt := inClass (topS 138) 2
theorem sc_p_LotNames : FnScope ["self"] ["self"] (defScope s_p_LotNames) := ⟨rfl, rfl, rfl, by decide +kernel, rfl, by decide +kernel, by decide +kernel⟩
abbrev s_p_LotTies : Stmt := inClass (topS 138) 3
theorem sc_p_LotTies : FnScope ["self"] ["self"] (defScope s_p_LotTies) := ⟨rfl, rfl, rfl, by decide +kernel, rfl, by decide +kernel, by decide +kernel⟩
abbrev s_p_LotText : Stmt := inClass (topS 138) 4
theorem sc_p_LotText : FnScope ["self", "tie"] ["self"] (defScope s_p_LotText) := ⟨rfl, rfl, rfl, by decide +kernel, rfl, by decide +kernel, by decide +kernel⟩
abbrev s_p_LotHolds : Stmt := inClass (topS 138) 7
theorem sc_p_LotHolds : FnScope ["self", "values", "tie"] ["self", "values"] (defScope s_p_LotHolds) := ⟨rfl, rfl, rfl, by decide +kernel, rfl, by decide +kernel, by decide +kernel⟩
abbrev s_p_LotEq : Stmt := inClass (topS 138) 18
theorem sc_p_LotEq : FnScope ["self", "other"] ["self", "other"] (defScope s_p_LotEq) := ⟨rfl, rfl, rfl, by decide +kernel, rfl, by decide +kernel, by decide +kernel⟩
abbrev s_p_LotLen : Stmt := inClass (topS 138) 19
theorem sc_p_LotLen : FnScope ["self"] ["self"] (defScope s_p_LotLen) := ⟨rfl, rfl, rfl, by decide +kernel, rfl, by decide +kernel, by decide +kernel⟩
abbrev s_p_LotRepr : Stmt := inClass (topS 138) 20
theorem sc_p_LotRepr : FnScope ["self"] ["self"] (defScope s_p_LotRepr) := ⟨rfl, rfl, rfl, by decide +kernel, rfl, by decide +kernel, by decide +kernel⟩
structure Txt (K : PySem.W.Frag) (mg : Str → Option Value) (fa : Nat → Addr) (fd : Nat → FuncData) : Prop where
  F_LotInit : FunD K "__init__" "Lot.__init__" (defArgs s_p_LotInit) (defBody s_p_LotInit) (defScope s_p_LotInit) [V.ref (fa 1502)] [] (fa 1500) (fd 1500)
  b_LotInit : Binds K (fd 1500) ["self", "names", "ties"] []
  b_LotInit1 : ∃ ds, Vals [V.ref (fa 1502)] ds ∧ Binds K (fd 1500) ["self", "names", "ties"] ds
  kb_LotInit : KBn K (fd 1500) ["self", "names", "ties"] 1 ["ties", "names"] (fun us ws => us ++ [ws.getD 1 Value.none, ws.getD 0 Value.none]) (fun vs zs => vs ++ [zs.getD 1 V.non, zs.getD 0 V.non])
  z_LotInit : ∀ H : Hp, SqT K H (fa 1502) []
  F_LotRead : Fun K "read" "Lot.read" s_p_LotRead (fa 1501) (fd 1501)
  b_LotRead : Binds K (fd 1501) ["names", "text"] []
  mk_Lot : Mk K (fa 138) (fa 1500)
  g_Lot : mg "Lot" = some (.ref (fa 138))
  sm_Lot : ∃ mc p, SMet K (fa 138) mc "read" p (fa 1501)
  cl_Lot : Cls K (fa 138)
  na_unknowns : NoAttr K (fa 138) "unknowns"
  na_bonds : NoAttr K (fa 138) "bonds"
  F_LotNames : Fun K "names" "Lot.names" s_p_LotNames (fa 1510) (fd 1510)
  b_LotNames : Binds K (fd 1510) ["self"] []
  me_LotNames : Meth K (fa 138) "names" (fa 1510)
  F_LotTies : Fun K "ties" "Lot.ties" s_p_LotTies (fa 1511) (fd 1511)
  b_LotTies : Binds K (fd 1511) ["self"] []
  me_LotTies : Meth K (fa 138) "ties" (fa 1511)
  F_LotText : Fun K "text" "Lot.text" s_p_LotText (fa 1512) (fd 1512)
  b_LotText : Binds K (fd 1512) ["self"] []
  me_LotText : Meth K (fa 138) "text" (fa 1512)
  F_LotHolds : Fun K "holds" "Lot.holds" s_p_LotHolds (fa 1513) (fd 1513)
  b_LotHolds : Binds K (fd 1513) ["self", "values"] []
  me_LotHolds : Meth K (fa 138) "holds" (fa 1513)
  F_LotEq : Fun K "__eq__" "Lot.__eq__" s_p_LotEq (fa 1514) (fd 1514)
  b_LotEq : Binds K (fd 1514) ["self", "other"] []
  me_LotEq : Meth K (fa 138) "__eq__" (fa 1514)
  F_LotLen : Fun K "__len__" "Lot.__len__" s_p_LotLen (fa 1515) (fd 1515)
  b_LotLen : Binds K (fd 1515) ["self"] []
  me_LotLen : Meth K (fa 138) "__len__" (fa 1515)
  F_LotRepr : Fun K "__repr__" "Lot.__repr__" s_p_LotRepr (fa 1516) (fd 1516)
  b_LotRepr : Binds K (fd 1516) ["self"] []
  me_LotRepr : Meth K (fa 138) "__repr__" (fa 1516)
  F_p_is_whole : Fun K "is_whole" "is_whole" s_p_is_whole (fa 17) (fd 17)
  g_p_is_whole : mg "is_whole" = some (.ref (fa 17))
  b_p_is_whole : Binds K (fd 17) ["thing"] []
  F_p_common_divisor : Fun K "common_divisor" "common_divisor" s_p_common_divisor (fa 19) (fd 19)
  g_p_common_divisor : mg "common_divisor" = some (.ref (fa 19))
  b_p_common_divisor : Binds K (fd 19) ["one", "other"] []
  F_p_ratio : FunD K "ratio" "ratio" (defArgs s_p_ratio) (defBody s_p_ratio) (defScope s_p_ratio) [V.int 1] [] (fa 20) (fd 20)
  g_p_ratio : mg "ratio" = some (.ref (fa 20))
  b_p_ratio : Binds K (fd 20) ["top", "under"] []
  d_p_ratio : ∃ ds, Vals [V.int 1] ds ∧ Binds K (fd 20) ["top", "under"] ds
  F_p_is_ratio : Fun K "is_ratio" "is_ratio" s_p_is_ratio (fa 21) (fd 21)
  g_p_is_ratio : mg "is_ratio" = some (.ref (fa 21))
  b_p_is_ratio : Binds K (fd 21) ["thing"] []
  F_p_add : Fun K "add" "add" s_p_add (fa 22) (fd 22)
  g_p_add : mg "add" = some (.ref (fa 22))
  b_p_add : Binds K (fd 22) ["one", "other"] []
  F_p_subtract : Fun K "subtract" "subtract" s_p_subtract (fa 23) (fd 23)
  g_p_subtract : mg "subtract" = some (.ref (fa 23))
  b_p_subtract : Binds K (fd 23) ["one", "other"] []
  F_p_multiply : Fun K "multiply" "multiply" s_p_multiply (fa 24) (fd 24)
  g_p_multiply : mg "multiply" = some (.ref (fa 24))
  b_p_multiply : Binds K (fd 24) ["one", "other"] []
  F_p_is_less : Fun K "is_less" "is_less" s_p_is_less (fa 26) (fd 26)
  g_p_is_less : mg "is_less" = some (.ref (fa 26))
  b_p_is_less : Binds K (fd 26) ["one", "other"] []
  F_p_is_digits : Fun K "is_digits" "is_digits" s_p_is_digits (fa 29) (fd 29)
  g_p_is_digits : mg "is_digits" = some (.ref (fa 29))
  b_p_is_digits : Binds K (fd 29) ["text"] []
  F_p_number_text : Fun K "number_text" "number_text" s_p_number_text (fa 30) (fd 30)
  g_p_number_text : mg "number_text" = some (.ref (fa 30))
  b_p_number_text : Binds K (fd 30) ["number"] []
  F_p_number_of : Fun K "number_of" "number_of" s_p_number_of (fa 31) (fd 31)
  g_p_number_of : mg "number_of" = some (.ref (fa 31))
  b_p_number_of : Binds K (fd 31) ["digits"] []
  F_p_ratio_text : Fun K "ratio_text" "ratio_text" s_p_ratio_text (fa 32) (fd 32)
  g_p_ratio_text : mg "ratio_text" = some (.ref (fa 32))
  b_p_ratio_text : Binds K (fd 32) ["one"] []
  F_p_ratio_of : Fun K "ratio_of" "ratio_of" s_p_ratio_of (fa 33) (fd 33)
  g_p_ratio_of : mg "ratio_of" = some (.ref (fa 33))
  b_p_ratio_of : Binds K (fd 33) ["text"] []
  F_p_run_end : Fun K "run_end" "run_end" s_p_run_end (fa 77) (fd 77)
  g_p_run_end : mg "run_end" = some (.ref (fa 77))
  b_p_run_end : Binds K (fd 77) ["text", "at", "letters"] []
  F_p_number_symbol : Fun K "number_symbol" "number_symbol" s_p_number_symbol (fa 78) (fd 78)
  g_p_number_symbol : mg "number_symbol" = some (.ref (fa 78))
  b_p_number_symbol : Binds K (fd 78) ["text", "at"] []
  F_p_name_symbol : Fun K "name_symbol" "name_symbol" s_p_name_symbol (fa 79) (fd 79)
  g_p_name_symbol : mg "name_symbol" = some (.ref (fa 79))
  b_p_name_symbol : Binds K (fd 79) ["text", "at"] []
  F_p_symbol_at : Fun K "symbol_at" "symbol_at" s_p_symbol_at (fa 80) (fd 80)
  g_p_symbol_at : mg "symbol_at" = some (.ref (fa 80))
  b_p_symbol_at : Binds K (fd 80) ["text", "at"] []
  F_p_symbols_of : Fun K "symbols_of" "symbols_of" s_p_symbols_of (fa 81) (fd 81)
  g_p_symbols_of : mg "symbols_of" = some (.ref (fa 81))
  b_p_symbols_of : Binds K (fd 81) ["text"] []
  F_p_read_term : Fun K "read_term" "read_term" s_p_read_term (fa 82) (fd 82)
  g_p_read_term : mg "read_term" = some (.ref (fa 82))
  b_p_read_term : Binds K (fd 82) ["symbols", "at"] []
  F_p_read_sum : Fun K "read_sum" "read_sum" s_p_read_sum (fa 83) (fd 83)
  g_p_read_sum : mg "read_sum" = some (.ref (fa 83))
  b_p_read_sum : Binds K (fd 83) ["symbols", "at"] []
  F_p_is_name : Fun K "is_name" "is_name" s_p_is_name (fa 85) (fd 85)
  g_p_is_name : mg "is_name" = some (.ref (fa 85))
  b_p_is_name : Binds K (fd 85) ["text"] []
  F_p_is_term : Fun K "is_term" "is_term" s_p_is_term (fa 86) (fd 86)
  g_p_is_term : mg "is_term" = some (.ref (fa 86))
  b_p_is_term : Binds K (fd 86) ["thing"] []
  F_p_are_terms : Fun K "are_terms" "are_terms" s_p_are_terms (fa 87) (fd 87)
  g_p_are_terms : mg "are_terms" = some (.ref (fa 87))
  b_p_are_terms : Binds K (fd 87) ["thing"] []
  F_p_is_tie : Fun K "is_tie" "is_tie" s_p_is_tie (fa 88) (fd 88)
  g_p_is_tie : mg "is_tie" = some (.ref (fa 88))
  b_p_is_tie : Binds K (fd 88) ["thing"] []
  F_p_names_in : Fun K "names_in" "names_in" s_p_names_in (fa 89) (fd 89)
  g_p_names_in : mg "names_in" = some (.ref (fa 89))
  b_p_names_in : Binds K (fd 89) ["tie"] []
  F_p_reduced : Fun K "reduced" "reduced" s_p_reduced (fa 90) (fd 90)
  g_p_reduced : mg "reduced" = some (.ref (fa 90))
  b_p_reduced : Binds K (fd 90) ["tie"] []
  F_p_is_kept : Fun K "is_kept" "is_kept" s_p_is_kept (fa 91) (fd 91)
  g_p_is_kept : mg "is_kept" = some (.ref (fa 91))
  b_p_is_kept : Binds K (fd 91) ["tie", "values"] []
  F_p_term_text : Fun K "term_text" "term_text" s_p_term_text (fa 92) (fd 92)
  g_p_term_text : mg "term_text" = some (.ref (fa 92))
  b_p_term_text : Binds K (fd 92) ["name", "rate"] []
  F_p_terms_text : Fun K "terms_text" "terms_text" s_p_terms_text (fa 93) (fd 93)
  g_p_terms_text : mg "terms_text" = some (.ref (fa 93))
  b_p_terms_text : Binds K (fd 93) ["terms"] []
  F_p_tie_text : Fun K "tie_text" "tie_text" s_p_tie_text (fa 94) (fd 94)
  g_p_tie_text : mg "tie_text" = some (.ref (fa 94))
  b_p_tie_text : Binds K (fd 94) ["tie"] []
  F_p_ascending_names : Fun K "ascending_names" "ascending_names" s_p_ascending_names (fa 95) (fd 95)
  g_p_ascending_names : mg "ascending_names" = some (.ref (fa 95))
  b_p_ascending_names : Binds K (fd 95) ["rates"] []
  F_p_brought_together : Fun K "brought_together" "brought_together" s_p_brought_together (fa 96) (fd 96)
  g_p_brought_together : mg "brought_together" = some (.ref (fa 96))
  b_p_brought_together : Binds K (fd 96) ["left", "right"] []
  F_p_tie_below : Fun K "tie_below" "tie_below" s_p_tie_below (fa 97) (fd 97)
  g_p_tie_below : mg "tie_below" = some (.ref (fa 97))
  b_p_tie_below : Binds K (fd 97) ["left", "right"] []
  F_p_read_ties : Fun K "read_ties" "read_ties" s_p_read_ties (fa 98) (fd 98)
  g_p_read_ties : mg "read_ties" = some (.ref (fa 98))
  b_p_read_ties : Binds K (fd 98) ["text"] []
  F_p_ascending : Fun K "ascending" "ascending" s_p_ascending (fa 109) (fd 109)
  g_p_ascending : mg "ascending" = some (.ref (fa 109))
  b_p_ascending : Binds K (fd 109) ["names"] []
  F_p_first_wrong_name : Fun K "first_wrong_name" "first_wrong_name" s_p_first_wrong_name (fa 135) (fd 135)
  g_p_first_wrong_name : mg "first_wrong_name" = some (.ref (fa 135))
  b_p_first_wrong_name : Binds K (fd 135) ["names"] []
  F_p_first_wrong_tie : Fun K "first_wrong_tie" "first_wrong_tie" s_p_first_wrong_tie (fa 136) (fd 136)
  g_p_first_wrong_tie : mg "first_wrong_tie" = some (.ref (fa 136))
  b_p_first_wrong_tie : Binds K (fd 136) ["ties", "names"] []
  F_feed : Fun K "_law_feed" "_law_feed" s_feed (fa 140) (fd 140)
  g_feed : mg "_law_feed" = some (.ref (fa 140))
  b_feed : Binds K (fd 140) ["_law_script"] []
  F_draw : Fun K "_law_draw" "_law_draw" s_draw (fa 141) (fd 141)
  g_draw : mg "_law_draw" = some (.ref (fa 141))
  b_draw : Binds K (fd 141) ["_law_feed_here", "_law_many"] []
  F_any : Fun K "_law_any" "_law_any" s_any (fa 142) (fd 142)
  g_any : mg "_law_any" = some (.ref (fa 142))
  b_any : Binds K (fd 142) ["_law_feed_here", "_law_row"] []
  F_same : Fun K "_law_same" "_law_same" s_same (fa 143) (fd 143)
  g_same : mg "_law_same" = some (.ref (fa 143))
  b_same : Binds K (fd 143) ["_law_found", "_law_due"] []
  F_gcd : Fun K "_law_gcd" "_law_gcd" s_gcd (fa 144) (fd 144)
  g_gcd : mg "_law_gcd" = some (.ref (fa 144))
  b_gcd : Binds K (fd 144) ["_law_one", "_law_two"] []
  F_low : Fun K "_law_low" "_law_low" s_low (fa 145) (fd 145)
  g_low : mg "_law_low" = some (.ref (fa 145))
  b_low : Binds K (fd 145) ["_law_upper", "_law_lower"] []
  F_plus : Fun K "_law_plus" "_law_plus" s_plus (fa 146) (fd 146)
  g_plus : mg "_law_plus" = some (.ref (fa 146))
  b_plus : Binds K (fd 146) ["_law_one", "_law_two"] []
  F_by : Fun K "_law_by" "_law_by" s_by (fa 147) (fd 147)
  g_by : mg "_law_by" = some (.ref (fa 147))
  b_by : Binds K (fd 147) ["_law_one", "_law_two"] []
  F_under : Fun K "_law_under" "_law_under" s_under (fa 148) (fd 148)
  g_under : mg "_law_under" = some (.ref (fa 148))
  b_under : Binds K (fd 148) ["_law_one", "_law_two"] []
  F_rate : Fun K "_law_rate" "_law_rate" s_rate (fa 149) (fd 149)
  g_rate : mg "_law_rate" = some (.ref (fa 149))
  b_rate : Binds K (fd 149) ["_law_feed_here"] []
  F_words : Fun K "_law_words" "_law_words" s_words (fa 150) (fd 150)
  g_words : mg "_law_words" = some (.ref (fa 150))
  b_words : Binds K (fd 150) ["_law_feed_here", "_law_many"] []
  F_strange : Fun K "_law_strange" "_law_strange" s_strange (fa 151) (fd 151)
  g_strange : mg "_law_strange" = some (.ref (fa 151))
  b_strange : Binds K (fd 151) ["_law_words_here"] []
  F_total : Fun K "_law_total" "_law_total" s_total (fa 152) (fd 152)
  g_total : mg "_law_total" = some (.ref (fa 152))
  b_total : Binds K (fd 152) ["_law_terms_here", "_law_values"] []
  F_keeps : Fun K "_law_keeps" "_law_keeps" s_keeps (fa 153) (fd 153)
  g_keeps : mg "_law_keeps" = some (.ref (fa 153))
  b_keeps : Binds K (fd 153) ["_law_tie", "_law_values"] []
  F_point : Fun K "_law_point" "_law_point" s_point (fa 154) (fd 154)
  g_point : mg "_law_point" = some (.ref (fa 154))
  b_point : Binds K (fd 154) ["_law_feed_here", "_law_words_here"] []
  F_terms : Fun K "_law_terms" "_law_terms" s_terms (fa 155) (fd 155)
  g_terms : mg "_law_terms" = some (.ref (fa 155))
  b_terms : Binds K (fd 155) ["_law_feed_here", "_law_words_here", "_law_pairs"] []
  F_ties : Fun K "_law_ties" "_law_ties" s_ties (fa 156) (fd 156)
  g_ties : mg "_law_ties" = some (.ref (fa 156))
  b_ties : Binds K (fd 156) ["_law_feed_here", "_law_words_here", "_law_many", "_law_open_cases"] []
  F_brief : Fun K "_law_brief" "_law_brief" s_brief (fa 157) (fd 157)
  g_brief : mg "_law_brief" = some (.ref (fa 157))
  b_brief : Binds K (fd 157) ["_law_tie"] []
  F_part_text : Fun K "_law_part_text" "_law_part_text" s_part_text (fa 158) (fd 158)
  g_part_text : mg "_law_part_text" = some (.ref (fa 158))
  b_part_text : Binds K (fd 158) ["_law_one"] []
  F_sum_text : Fun K "_law_sum_text" "_law_sum_text" s_sum_text (fa 159) (fd 159)
  g_sum_text : mg "_law_sum_text" = some (.ref (fa 159))
  b_sum_text : Binds K (fd 159) ["_law_terms_here"] []
  F_tie_text : Fun K "_law_tie_text" "_law_tie_text" s_tie_text (fa 160) (fd 160)
  g_tie_text : mg "_law_tie_text" = some (.ref (fa 160))
  b_tie_text : Binds K (fd 160) ["_law_tie"] []
  F_p_law : Fun K "law" "law" s_p_law (fa 161) (fd 161)
  g_p_law : mg "law" = some (.ref (fa 161))
  b_p_law : Binds K (fd 161) ["_law_script"] []
  eInvalidRatio : ErrC K mg "InvalidRatio" (fa 3) (fa 2) (fa 10) (fa 1003)
  IInvalidRatio : Fun K "__init__" "InvalidRatio.__init__" (inClass (topS 3) 0) (fa 1003) (fd 1003)
  bIInvalidRatio : Binds K (fd 1003) ["self", "given"] []
  nInvalidRatio_given : PySem.W.findIn K (.ref (fa 3)) "given" = some none
  eInvalidName : ErrC K mg "InvalidName" (fa 4) (fa 2) (fa 10) (fa 1004)
  IInvalidName : Fun K "__init__" "InvalidName.__init__" (inClass (topS 4) 0) (fa 1004) (fd 1004)
  bIInvalidName : Binds K (fd 1004) ["self", "name"] []
  nInvalidName_name : PySem.W.findIn K (.ref (fa 4)) "name" = some none
  eInvalidTie : ErrC K mg "InvalidTie" (fa 5) (fa 2) (fa 10) (fa 1005)
  IInvalidTie : Fun K "__init__" "InvalidTie.__init__" (inClass (topS 5) 0) (fa 1005) (fd 1005)
  bIInvalidTie : Binds K (fd 1005) ["self", "at"] []
  nInvalidTie_at : PySem.W.findIn K (.ref (fa 5)) "at" = some none
  eNotTied : ErrC K mg "NotTied" (fa 6) (fa 2) (fa 10) (fa 1006)
  INotTied : Fun K "__init__" "NotTied.__init__" (inClass (topS 6) 0) (fa 1006) (fd 1006)
  bINotTied : Binds K (fd 1006) ["self", "many"] []
  nNotTied_many : PySem.W.findIn K (.ref (fa 6)) "many" = some none
  eParseError : ErrC K mg "ParseError" (fa 9) (fa 2) (fa 10) (fa 1009)
  IParseError : Fun K "__init__" "ParseError.__init__" (inClass (topS 9) 0) (fa 1009) (fd 1009)
  bIParseError : Binds K (fd 1009) ["self", "at"] []
  nParseError_at : PySem.W.findIn K (.ref (fa 9)) "at" = some none
  gTieError : mg "TieError" = some (.ref (fa 2))
  gMissing : mg "Missing" = some (.ref (fa 10))
  c_LONG : ∃ u, mg "LONG" = some u ∧ RelV (.int 4096) u
  c_ZERO : ∃ u, mg "ZERO" = some u ∧ RelV (.ref (fa 2000)) u
  c_DIGITS : ∃ u, mg "DIGITS" = some u ∧ RelV (.str (Str.ofString "0123456789")) u
  c_LETTERS : ∃ u, mg "LETTERS" = some u ∧ RelV (.str (Str.ofString "abcdefghijklmnopqrstuvwxyz")) u
  c_MOST_DIGITS : ∃ u, mg "MOST_DIGITS" = some u ∧ RelV (.int 30) u
  c_MOST_LETTERS : ∃ u, mg "MOST_LETTERS" = some u ∧ RelV (.int 6) u
  z_ZERO : ∀ H : Hp, SqT K H ((fa 2000)) [V.int 0, V.int 1]
  m_int : mg "int" = none
  m_len : mg "len" = none
  m_abs : mg "abs" = none
  m_range : mg "range" = none
  m_zip : mg "zip" = none
  m_all : mg "all" = none
  m_isinstance : mg "isinstance" = none
  m_bool : mg "bool" = none
  m_str : mg "str" = none
  m_tuple : mg "tuple" = none
  m_list : mg "list" = none
  m_dict : mg "dict" = none
  m_sorted : mg "sorted" = none
  m_set : mg "set" = none
  m_enumerate : mg "enumerate" = none
/-! ### the head -/
section
open PySem.W PySem.Calls
abbrev hR : OpenRow := OpenLaw.row PySem.Challenge.rw_tiespan_k16_lots_return_what_they_are_ma
abbrev hQ : Program := view hR.prog [161]
def hN0 : List PySem.Str := ["_wall", "TieError", "InvalidRatio", "InvalidName", "InvalidTie", "NotTied", "NamesDiffer", "Impossible", "ParseError", "Missing", "UnknownName", "ZERO", "LONG", "LEADING", "HALF", "is_whole", "shortened", "common_divisor", "ratio", "is_ratio", "add", "subtract", "multiply", "divide", "is_less", "least", "greatest", "is_digits", "number_text", "number_of"]
def hN1 : List PySem.Str := ["ratio_text", "ratio_of", "precedes", "merged", "in_order", "cross", "opposite", "loose", "lowest", "tightest", "by_slope", "follows", "chain", "crossing", "wall_stretch", "first_numbers", "second_numbers", "framed", "upright", "wall", "shown", "canonical", "AXES", "meeting", "corner_points", "foot", "spots", "turns_off", "turned_off", "height"]
def hN2 : List PySem.Str := ["reach", "whole_point", "edge", "is_left", "bent", "edges", "joint_rows", "DIGITS", "LETTERS", "MOST_DIGITS", "MOST_LETTERS", "run_end", "number_symbol", "name_symbol", "symbol_at", "symbols_of", "read_term", "read_sum", "is_name", "is_term", "are_terms", "is_tie", "names_in", "reduced", "is_kept", "term_text", "terms_text", "tie_text", "ascending_names", "brought_together"]
def hN3 : List PySem.Str := ["tie_below", "read_ties", "turned_rows", "walls", "frame", "resolved", "envelope", "tight_walls", "settled", "first_stretch", "ascending", "pairs_of", "grouped", "own_stretch", "rows_of", "narrowed", "is_empty", "tied", "web_of", "between", "without", "trail_of", "web_for", "near_rows", "put_back", "closed_web", "joined_web", "wall_ties", "pair_ties", "closed_ties"]
def hN4 : List PySem.Str := ["nearest", "open_stretch", "solution_of", "top_of", "first_wrong_name", "first_wrong_tie", "follows_from", "Lot", "_law_feed", "_law_draw", "_law_any", "_law_same", "_law_gcd", "_law_low", "_law_plus", "_law_by", "_law_under", "_law_rate", "_law_words", "_law_strange", "_law_total", "_law_keeps", "_law_point", "_law_terms", "_law_ties", "_law_brief", "_law_part_text", "_law_sum_text", "_law_tie_text"]
def hN : List PySem.Str := hN0 ++ hN1 ++ hN2 ++ hN3 ++ hN4
def hd17 : DefY := ⟨fun K => He.ga K "is_whole", "is_whole", "is_whole", defArgs s_p_is_whole, defBody s_p_is_whole, defScope s_p_is_whole, fun K => []⟩
def hd19 : DefY := ⟨fun K => He.ga K "common_divisor", "common_divisor", "common_divisor", defArgs s_p_common_divisor, defBody s_p_common_divisor, defScope s_p_common_divisor, fun K => []⟩
def hd20 : DefY := ⟨fun K => He.ga K "ratio", "ratio", "ratio", defArgs s_p_ratio, defBody s_p_ratio, defScope s_p_ratio, fun K => [V.int 1]⟩
def hd21 : DefY := ⟨fun K => He.ga K "is_ratio", "is_ratio", "is_ratio", defArgs s_p_is_ratio, defBody s_p_is_ratio, defScope s_p_is_ratio, fun K => []⟩
def hd22 : DefY := ⟨fun K => He.ga K "add", "add", "add", defArgs s_p_add, defBody s_p_add, defScope s_p_add, fun K => []⟩
def hd23 : DefY := ⟨fun K => He.ga K "subtract", "subtract", "subtract", defArgs s_p_subtract, defBody s_p_subtract, defScope s_p_subtract, fun K => []⟩
def hd24 : DefY := ⟨fun K => He.ga K "multiply", "multiply", "multiply", defArgs s_p_multiply, defBody s_p_multiply, defScope s_p_multiply, fun K => []⟩
def hd26 : DefY := ⟨fun K => He.ga K "is_less", "is_less", "is_less", defArgs s_p_is_less, defBody s_p_is_less, defScope s_p_is_less, fun K => []⟩
def hd29 : DefY := ⟨fun K => He.ga K "is_digits", "is_digits", "is_digits", defArgs s_p_is_digits, defBody s_p_is_digits, defScope s_p_is_digits, fun K => []⟩
def hd30 : DefY := ⟨fun K => He.ga K "number_text", "number_text", "number_text", defArgs s_p_number_text, defBody s_p_number_text, defScope s_p_number_text, fun K => []⟩
def hd31 : DefY := ⟨fun K => He.ga K "number_of", "number_of", "number_of", defArgs s_p_number_of, defBody s_p_number_of, defScope s_p_number_of, fun K => []⟩
def hd32 : DefY := ⟨fun K => He.ga K "ratio_text", "ratio_text", "ratio_text", defArgs s_p_ratio_text, defBody s_p_ratio_text, defScope s_p_ratio_text, fun K => []⟩
def hd33 : DefY := ⟨fun K => He.ga K "ratio_of", "ratio_of", "ratio_of", defArgs s_p_ratio_of, defBody s_p_ratio_of, defScope s_p_ratio_of, fun K => []⟩
def hd77 : DefY := ⟨fun K => He.ga K "run_end", "run_end", "run_end", defArgs s_p_run_end, defBody s_p_run_end, defScope s_p_run_end, fun K => []⟩
def hd78 : DefY := ⟨fun K => He.ga K "number_symbol", "number_symbol", "number_symbol", defArgs s_p_number_symbol, defBody s_p_number_symbol, defScope s_p_number_symbol, fun K => []⟩
def hd79 : DefY := ⟨fun K => He.ga K "name_symbol", "name_symbol", "name_symbol", defArgs s_p_name_symbol, defBody s_p_name_symbol, defScope s_p_name_symbol, fun K => []⟩
def hd80 : DefY := ⟨fun K => He.ga K "symbol_at", "symbol_at", "symbol_at", defArgs s_p_symbol_at, defBody s_p_symbol_at, defScope s_p_symbol_at, fun K => []⟩
def hd81 : DefY := ⟨fun K => He.ga K "symbols_of", "symbols_of", "symbols_of", defArgs s_p_symbols_of, defBody s_p_symbols_of, defScope s_p_symbols_of, fun K => []⟩
def hd82 : DefY := ⟨fun K => He.ga K "read_term", "read_term", "read_term", defArgs s_p_read_term, defBody s_p_read_term, defScope s_p_read_term, fun K => []⟩
def hd83 : DefY := ⟨fun K => He.ga K "read_sum", "read_sum", "read_sum", defArgs s_p_read_sum, defBody s_p_read_sum, defScope s_p_read_sum, fun K => []⟩
def hd85 : DefY := ⟨fun K => He.ga K "is_name", "is_name", "is_name", defArgs s_p_is_name, defBody s_p_is_name, defScope s_p_is_name, fun K => []⟩
def hd86 : DefY := ⟨fun K => He.ga K "is_term", "is_term", "is_term", defArgs s_p_is_term, defBody s_p_is_term, defScope s_p_is_term, fun K => []⟩
def hd87 : DefY := ⟨fun K => He.ga K "are_terms", "are_terms", "are_terms", defArgs s_p_are_terms, defBody s_p_are_terms, defScope s_p_are_terms, fun K => []⟩
def hd88 : DefY := ⟨fun K => He.ga K "is_tie", "is_tie", "is_tie", defArgs s_p_is_tie, defBody s_p_is_tie, defScope s_p_is_tie, fun K => []⟩
def hd89 : DefY := ⟨fun K => He.ga K "names_in", "names_in", "names_in", defArgs s_p_names_in, defBody s_p_names_in, defScope s_p_names_in, fun K => []⟩
def hd90 : DefY := ⟨fun K => He.ga K "reduced", "reduced", "reduced", defArgs s_p_reduced, defBody s_p_reduced, defScope s_p_reduced, fun K => []⟩
def hd91 : DefY := ⟨fun K => He.ga K "is_kept", "is_kept", "is_kept", defArgs s_p_is_kept, defBody s_p_is_kept, defScope s_p_is_kept, fun K => []⟩
def hd92 : DefY := ⟨fun K => He.ga K "term_text", "term_text", "term_text", defArgs s_p_term_text, defBody s_p_term_text, defScope s_p_term_text, fun K => []⟩
def hd93 : DefY := ⟨fun K => He.ga K "terms_text", "terms_text", "terms_text", defArgs s_p_terms_text, defBody s_p_terms_text, defScope s_p_terms_text, fun K => []⟩
def hd94 : DefY := ⟨fun K => He.ga K "tie_text", "tie_text", "tie_text", defArgs s_p_tie_text, defBody s_p_tie_text, defScope s_p_tie_text, fun K => []⟩
def hd95 : DefY := ⟨fun K => He.ga K "ascending_names", "ascending_names", "ascending_names", defArgs s_p_ascending_names, defBody s_p_ascending_names, defScope s_p_ascending_names, fun K => []⟩
def hd96 : DefY := ⟨fun K => He.ga K "brought_together", "brought_together", "brought_together", defArgs s_p_brought_together, defBody s_p_brought_together, defScope s_p_brought_together, fun K => []⟩
def hd97 : DefY := ⟨fun K => He.ga K "tie_below", "tie_below", "tie_below", defArgs s_p_tie_below, defBody s_p_tie_below, defScope s_p_tie_below, fun K => []⟩
def hd98 : DefY := ⟨fun K => He.ga K "read_ties", "read_ties", "read_ties", defArgs s_p_read_ties, defBody s_p_read_ties, defScope s_p_read_ties, fun K => []⟩
def hd109 : DefY := ⟨fun K => He.ga K "ascending", "ascending", "ascending", defArgs s_p_ascending, defBody s_p_ascending, defScope s_p_ascending, fun K => []⟩
def hd135 : DefY := ⟨fun K => He.ga K "first_wrong_name", "first_wrong_name", "first_wrong_name", defArgs s_p_first_wrong_name, defBody s_p_first_wrong_name, defScope s_p_first_wrong_name, fun K => []⟩
def hd136 : DefY := ⟨fun K => He.ga K "first_wrong_tie", "first_wrong_tie", "first_wrong_tie", defArgs s_p_first_wrong_tie, defBody s_p_first_wrong_tie, defScope s_p_first_wrong_tie, fun K => []⟩
def hd140 : DefY := ⟨fun K => He.ga K "_law_feed", "_law_feed", "_law_feed", defArgs s_feed, defBody s_feed, defScope s_feed, fun K => []⟩
def hd141 : DefY := ⟨fun K => He.ga K "_law_draw", "_law_draw", "_law_draw", defArgs s_draw, defBody s_draw, defScope s_draw, fun K => []⟩
def hd142 : DefY := ⟨fun K => He.ga K "_law_any", "_law_any", "_law_any", defArgs s_any, defBody s_any, defScope s_any, fun K => []⟩
def hd143 : DefY := ⟨fun K => He.ga K "_law_same", "_law_same", "_law_same", defArgs s_same, defBody s_same, defScope s_same, fun K => []⟩
def hd144 : DefY := ⟨fun K => He.ga K "_law_gcd", "_law_gcd", "_law_gcd", defArgs s_gcd, defBody s_gcd, defScope s_gcd, fun K => []⟩
def hd145 : DefY := ⟨fun K => He.ga K "_law_low", "_law_low", "_law_low", defArgs s_low, defBody s_low, defScope s_low, fun K => []⟩
def hd146 : DefY := ⟨fun K => He.ga K "_law_plus", "_law_plus", "_law_plus", defArgs s_plus, defBody s_plus, defScope s_plus, fun K => []⟩
def hd147 : DefY := ⟨fun K => He.ga K "_law_by", "_law_by", "_law_by", defArgs s_by, defBody s_by, defScope s_by, fun K => []⟩
def hd148 : DefY := ⟨fun K => He.ga K "_law_under", "_law_under", "_law_under", defArgs s_under, defBody s_under, defScope s_under, fun K => []⟩
def hd149 : DefY := ⟨fun K => He.ga K "_law_rate", "_law_rate", "_law_rate", defArgs s_rate, defBody s_rate, defScope s_rate, fun K => []⟩
def hd150 : DefY := ⟨fun K => He.ga K "_law_words", "_law_words", "_law_words", defArgs s_words, defBody s_words, defScope s_words, fun K => []⟩
def hd151 : DefY := ⟨fun K => He.ga K "_law_strange", "_law_strange", "_law_strange", defArgs s_strange, defBody s_strange, defScope s_strange, fun K => []⟩
def hd152 : DefY := ⟨fun K => He.ga K "_law_total", "_law_total", "_law_total", defArgs s_total, defBody s_total, defScope s_total, fun K => []⟩
def hd153 : DefY := ⟨fun K => He.ga K "_law_keeps", "_law_keeps", "_law_keeps", defArgs s_keeps, defBody s_keeps, defScope s_keeps, fun K => []⟩
def hd154 : DefY := ⟨fun K => He.ga K "_law_point", "_law_point", "_law_point", defArgs s_point, defBody s_point, defScope s_point, fun K => []⟩
def hd155 : DefY := ⟨fun K => He.ga K "_law_terms", "_law_terms", "_law_terms", defArgs s_terms, defBody s_terms, defScope s_terms, fun K => []⟩
def hd156 : DefY := ⟨fun K => He.ga K "_law_ties", "_law_ties", "_law_ties", defArgs s_ties, defBody s_ties, defScope s_ties, fun K => []⟩
def hd157 : DefY := ⟨fun K => He.ga K "_law_brief", "_law_brief", "_law_brief", defArgs s_brief, defBody s_brief, defScope s_brief, fun K => []⟩
def hd158 : DefY := ⟨fun K => He.ga K "_law_part_text", "_law_part_text", "_law_part_text", defArgs s_part_text, defBody s_part_text, defScope s_part_text, fun K => []⟩
def hd159 : DefY := ⟨fun K => He.ga K "_law_sum_text", "_law_sum_text", "_law_sum_text", defArgs s_sum_text, defBody s_sum_text, defScope s_sum_text, fun K => []⟩
def hd160 : DefY := ⟨fun K => He.ga K "_law_tie_text", "_law_tie_text", "_law_tie_text", defArgs s_tie_text, defBody s_tie_text, defScope s_tie_text, fun K => []⟩
def hd161 : DefY := ⟨fun K => He.ga K "law", "law", "law", defArgs s_p_law, defBody s_p_law, defScope s_p_law, fun K => []⟩
def hd1003 : DefY := ⟨fun K => He.ma K (He.ga K "InvalidRatio") "__init__", "__init__", "InvalidRatio.__init__", defArgs (inClass (topS 3) 0), defBody (inClass (topS 3) 0), defScope (inClass (topS 3) 0), fun K => []⟩
def hd1004 : DefY := ⟨fun K => He.ma K (He.ga K "InvalidName") "__init__", "__init__", "InvalidName.__init__", defArgs (inClass (topS 4) 0), defBody (inClass (topS 4) 0), defScope (inClass (topS 4) 0), fun K => []⟩
def hd1005 : DefY := ⟨fun K => He.ma K (He.ga K "InvalidTie") "__init__", "__init__", "InvalidTie.__init__", defArgs (inClass (topS 5) 0), defBody (inClass (topS 5) 0), defScope (inClass (topS 5) 0), fun K => []⟩
def hd1006 : DefY := ⟨fun K => He.ma K (He.ga K "NotTied") "__init__", "__init__", "NotTied.__init__", defArgs (inClass (topS 6) 0), defBody (inClass (topS 6) 0), defScope (inClass (topS 6) 0), fun K => []⟩
def hd1009 : DefY := ⟨fun K => He.ma K (He.ga K "ParseError") "__init__", "__init__", "ParseError.__init__", defArgs (inClass (topS 9) 0), defBody (inClass (topS 9) 0), defScope (inClass (topS 9) 0), fun K => []⟩
def hd1500 : DefY := ⟨fun K => He.ma K (He.ga K "Lot") "__init__", "__init__", "Lot.__init__", defArgs s_p_LotInit, defBody s_p_LotInit, defScope s_p_LotInit, fun K => [V.ref (He.dflAt ("Lot", some "__init__") 0 K)]⟩
def hd1501 : DefY := ⟨fun K => smF "Lot" "read" K, "read", "Lot.read", defArgs s_p_LotRead, defBody s_p_LotRead, defScope s_p_LotRead, fun K => []⟩
def hd1510 : DefY := ⟨fun K => He.ma K (He.ga K "Lot") "names", "names", "Lot.names", defArgs s_p_LotNames, defBody s_p_LotNames, defScope s_p_LotNames, fun K => []⟩
def hd1511 : DefY := ⟨fun K => He.ma K (He.ga K "Lot") "ties", "ties", "Lot.ties", defArgs s_p_LotTies, defBody s_p_LotTies, defScope s_p_LotTies, fun K => []⟩
def hd1512 : DefY := ⟨fun K => He.ma K (He.ga K "Lot") "text", "text", "Lot.text", defArgs s_p_LotText, defBody s_p_LotText, defScope s_p_LotText, fun K => []⟩
def hd1513 : DefY := ⟨fun K => He.ma K (He.ga K "Lot") "holds", "holds", "Lot.holds", defArgs s_p_LotHolds, defBody s_p_LotHolds, defScope s_p_LotHolds, fun K => []⟩
def hd1514 : DefY := ⟨fun K => He.ma K (He.ga K "Lot") "__eq__", "__eq__", "Lot.__eq__", defArgs s_p_LotEq, defBody s_p_LotEq, defScope s_p_LotEq, fun K => []⟩
def hd1515 : DefY := ⟨fun K => He.ma K (He.ga K "Lot") "__len__", "__len__", "Lot.__len__", defArgs s_p_LotLen, defBody s_p_LotLen, defScope s_p_LotLen, fun K => []⟩
def hd1516 : DefY := ⟨fun K => He.ma K (He.ga K "Lot") "__repr__", "__repr__", "Lot.__repr__", defArgs s_p_LotRepr, defBody s_p_LotRepr, defScope s_p_LotRepr, fun K => []⟩
def hFn : List DefY := hd17 :: hd19 :: hd20 :: hd21 :: hd22 :: hd23 :: hd24 :: hd26 :: hd29 :: hd30 :: hd31 :: hd32 :: hd33 :: hd77 :: hd78 :: hd79 :: hd80 :: hd81 :: hd82 :: hd83 :: hd85 :: hd86 :: hd87 :: hd88 :: hd89 :: hd90 :: hd91 :: hd92 :: hd93 :: hd94 :: (hd95 :: hd96 :: hd97 :: hd98 :: hd109 :: hd135 :: hd136 :: hd140 :: hd141 :: hd142 :: hd143 :: hd144 :: hd145 :: hd146 :: hd147 :: hd148 :: hd149 :: hd150 :: hd151 :: hd152 :: hd153 :: hd154 :: hd155 :: hd156 :: hd157 :: hd158 :: hd159 :: hd160 :: hd161 :: hd1003 :: (hd1004 :: hd1005 :: hd1006 :: hd1009 :: hd1500 :: hd1501 :: hd1510 :: hd1511 :: hd1512 :: hd1513 :: hd1514 :: hd1515 :: hd1516 :: []))
def hA0 : List He.Fa := [.glo "is_whole", .glo "common_divisor", .glo "ratio", .glo "is_ratio", .glo "add", .glo "subtract", .glo "multiply", .glo "is_less", .glo "is_digits", .glo "number_text", .glo "number_of", .glo "ratio_text", .glo "ratio_of", .glo "run_end", .glo "number_symbol", .glo "name_symbol", .glo "symbol_at", .glo "symbols_of", .glo "read_term", .glo "read_sum", .glo "is_name", .glo "is_term", .glo "are_terms", .glo "is_tie", .glo "names_in", .glo "reduced", .glo "is_kept", .glo "term_text", .glo "terms_text", .glo "tie_text"]
def hA1 : List He.Fa := [.glo "ascending_names", .glo "brought_together", .glo "tie_below", .glo "read_ties", .glo "ascending", .glo "first_wrong_name", .glo "first_wrong_tie", .glo "_law_feed", .glo "_law_draw", .glo "_law_any", .glo "_law_same", .glo "_law_gcd", .glo "_law_low", .glo "_law_plus", .glo "_law_by", .glo "_law_under", .glo "_law_rate", .glo "_law_words", .glo "_law_strange", .glo "_law_total", .glo "_law_keeps", .glo "_law_point", .glo "_law_terms", .glo "_law_ties", .glo "_law_brief", .glo "_law_part_text", .glo "_law_sum_text", .glo "_law_tie_text", .glo "law", .glo "TieError"]
def hA2 : List He.Fa := [.glo "Missing", .noat "InvalidRatio" "given", .noat "InvalidName" "name", .noat "InvalidTie" "at", .noat "NotTied" "many", .noat "ParseError" "at", .int "LONG" 4096, .glo "ZERO", .str "DIGITS" "0123456789", .str "LETTERS" "abcdefghijklmnopqrstuvwxyz", .int "MOST_DIGITS" 30, .int "MOST_LETTERS" 6, .free "int", .free "len", .free "abs", .free "range", .free "zip", .free "all", .free "isinstance", .free "bool", .free "str", .free "tuple", .free "list", .free "dict", .free "sorted", .free "set", .free "enumerate", .glo "Lot", .cls "Lot", .noat "Lot" "unknowns"]
def hA3 : List He.Fa := [.noat "Lot" "bonds", .free "repr", .meth "Lot" "names", .meth "Lot" "ties", .meth "Lot" "text", .meth "Lot" "holds", .meth "Lot" "__eq__", .meth "Lot" "__len__", .meth "Lot" "__repr__"]
def hA : List He.Fa := hA0 ++ (hA1 ++ (hA2 ++ (hA3)))
def hE : List (PySem.W.Frag → Bool) := [errB "InvalidRatio",
  errB "InvalidName",
  errB "InvalidTie",
  errB "NotTied",
  errB "ParseError",
  fun K => tupY K (He.ga K "ZERO") [V.int 0, V.int 1],
  mkB (fun K => He.ga K "Lot") (fun K => He.ma K (He.ga K "Lot") "__init__"),
  smB "Lot" "read",
  fun K => tupY K (He.dflAt ("Lot", some "__init__") 0 K) [],
  insB "Lot"]
abbrev hk : Hook := hookY 6 hA hFn hE
def hob (s : SharedT) : AlY := obsY 6 hA hFn hE (HandSHeadRun.getT s)
theorem hob_eq (s : SharedT) : hob s = hk.obs s.abs := obsY_eq (HandSHeadRun.getT_eq s)
set_option maxHeartbeats 0 in
theorem hrun1 (w : World) : ∀ os, (endY hR 12000 w os).map (fun s => HandSHeadRun.looksF hR.prog (boot_heap w.params) s.abs) = some true := by
  intro os
  kernel_rfl
set_option maxHeartbeats 0 in
theorem hrun2 (w : World) : ∀ os, (endY hR 12000 w os).map (fun s => HandSHeadRun.seenQ hQ hN (importedModules hR.prog.main.body) (fun s => PySem.W.xlAt hQ [] s && PySem.W.recOk hR.toRowW.records s) s.abs) = some (PySem.W.openGood hQ hN) := by
  intro os
  kernel_rfl
set_option maxHeartbeats 0 in
theorem hrun3 (w : World) : ∀ os, (endY hR 12000 w os).map hob = some (hk.val w) := by
  intro os
  kernel_rfl
theorem hrun (w : World) : HandSHeadRun.RunEq hR hQ hk hob 12000 hN w := run_three (hrun1 w) (hrun2 w) (hrun3 w)
end
/-! ### the law's own words: drawing -/
def FeedOk (H : Hp) (a c : Addr) : Prop := ∃ (ns : List Int) (k big mark : Int), H a = some (.lst [.ref c, .int k, .int big, .int mark]) ∧ H c = some (.lst (ns.map V.int)) ∧ c ≠ a ∧ ns.length ≤ 63 ∧ 0 ≤ k
def But (a : Addr) (H H' : Hp) : Prop := ∀ b o, b ≠ a → H b = some o → H' b = some o
theorem But.refl (a : Addr) (H : Hp) : But a H H := fun _ _ _ h => h
theorem But.trans {a : Addr} {H H1 H2 : Hp} (p : But a H H1) (q : But a H1 H2) : But a H H2 := fun b o n h => q b o n (p b o n h)
theorem But.upd {a : Addr} {H : Hp} {o : HO} : But a H (upd H a o) := fun b _ n h => by rw [upd_ne n]; exact h
theorem But.of {a : Addr} {H H' : Hp} (s : Same H H') : But a H H' := fun b o _ h => s b o h
theorem same_upd {H : Hp} {p : Addr} {o : HO} (h : H p = none) : Same H (upd H p o) := fun b x e => by
  rw [upd_ne (ne_of_none e h)]
  exact e
theorem FeedOk.new {H : Hp} {a c p : Addr} {o : HO} (h : FeedOk H a c) (n : H p = none) : FeedOk (upd H p o) a c := by
  obtain ⟨ns, k, big, mark, h1, h2, h3⟩ := h
  exact ⟨ns, k, big, mark, same_upd n _ _ h1, same_upd n _ _ h2, h3⟩
theorem FeedOk.same {H H' : Hp} {a c : Addr} (h : FeedOk H a c) (s : Same H H') : FeedOk H' a c := by
  obtain ⟨ns, k, big, mark, h1, h2, h3⟩ := h
  exact ⟨ns, k, big, mark, s _ _ h1, s _ _ h2, h3⟩
def Mid (m : Int) : Prop := 0 < m ∧ m.natAbs.log2 < 9000
def spDraw : Sp := fun vs H Q _ => ∃ (a c : Addr) (m : Int), vs = [.ref a, .int m] ∧ FeedOk H a c ∧ Mid m ∧ ∀ r H', 0 ≤ r → r < m → FeedOk H' a c → But a H H' → Q (.int r) H'
section
variable {P : Program} {w : World} {K : PySem.W.Frag} {mg : Str → Option Value} {base : Heap} {fa : Nat → Addr} {fd : Nat → FuncData}
theorem ok_draw (T : Txt K mg fa fd) : FnOk P w K mg base CX0 1 (fa 141) (fd 141) ["_law_feed_here", "_law_many"] spDraw := by
  refine T.F_draw.ok sc_draw (fun vs H Q E h => ?_) (fun cdv A outer s H vs Q E hr h => ?_)
  · obtain ⟨a, c, m, rfl, _⟩ := h
    rfl
  · obtain ⟨a, c, m, rfl, ⟨ns, k, big, mark, ha, hc, nca, hlen, hk⟩, ⟨hm, hm9⟩, q⟩ := h
    refine ⟨_, (C8.pss_cut (ps_if (pt_cmpR op_lt (pe_ix ix_list (pv 0) pe_int (fun _ _ => rfl)) pe_int (nomark _)) (C8.pss_cut (ps_asg (pe_op op_add (pe_ix ix_list (pv 0) pe_int (fun _ _ => rfl)) pe_int) (pg_sub (pv 0) pe_int set_list))
      (pss_cons (ps_set (i := 2) sc_draw.nd rfl (.inl rfl) (pe_op op_add (pe_ix ix_list (pv 0) pe_int (fun _ _ => rfl)) (pe_op op_mul (pe_ix ix_list (pv 0) pe_int (fun _ _ => rfl)) pe_int)))
      (C8.pss_cut (ps_if (pt_cmpR op_le (pe_ix ix_list (pv 0) pe_int (fun _ _ => rfl)) (pe_callB call_len_seq (by rfl) T.m_len PySem.boot_len (pa_cons (pe_ix ix_list (pv 0) pe_int (fun _ _ => rfl)) pa_nil)) (nomark _)) (pss_one (ps_set (i := 2) sc_draw.nd rfl (.inl rfl) (pe_ix ix_list (pe_ix ix_list (pv 0) pe_int (fun _ _ => rfl)) (pe_op op_sub (pe_ix ix_list (pv 0) pe_int (fun _ _ => rfl)) pe_int) (fun _ _ => rfl)))) pss_nil)
      (pss_cons (ps_if (PW.pt (pw_or (pt_cmpR op_gt (pe_ix ix_list (pv 0) pe_int (fun _ _ => rfl)) (pe_callB call_len_seq (by rfl) T.m_len PySem.boot_len (pa_cons (pe_ix ix_list (pv 0) pe_int (fun _ _ => rfl)) pa_nil)) (nomark _)) (pw_or1 (pt_cmpR op_lt (pv 2) (pe_op op_pow pe_int pe_int) (nomark _))))) (pss_cons (ps_set (i := 3) sc_draw.nd rfl (.inl rfl) (pe_op op_mod (pe_callTy call_int1 (by rfl) T.m_int PySem.Pv.boot_int (pa_cons (pe_op op_add (pe_op op_add (pe_op op_mul (pv 2) pe_int) (pe_op op_mul (pe_ix ix_list (pv 0) pe_int (fun _ _ => rfl)) pe_int)) (pe_ix ix_list (pv 0) pe_int (fun _ _ => rfl))) pa_nil)) pe_int))
      (pss_cons (ps_set (i := 4) sc_draw.nd rfl (.inl rfl) (pe_op op_mod (pe_callTy call_int1 (by rfl) T.m_int PySem.Pv.boot_int (pa_cons (pe_op op_add (pe_op op_mul (pv 3) (pv 3)) (pe_op op_mul (pe_ix ix_list (pv 0) pe_int (fun _ _ => rfl)) pe_int)) pa_nil)) pe_int))
      (pss_one (ps_ret (pe_op op_mod (pe_op op_fdiv (pe_op op_mod (pe_callTy call_int1 (by rfl) T.m_int PySem.Pv.boot_int (pa_cons (pe_op op_add (pe_op op_mul (pv 4) pe_int) (pv 3)) pa_nil)) pe_int) pe_int) (pv 1)))))) pss_nil)
      (pss_one (ps_asg (pv 2) (pg_sub (pv 0) pe_int set_list))))))) pss_nil)
      (pss_cons (ps_set (i := 5) sc_draw.nd rfl (.inl rfl) (pe_op op_mod (pe_callTy call_int1 (by rfl) T.m_int PySem.Pv.boot_int (pa_cons (pe_ix ix_list (pv 0) pe_int (fun _ _ => rfl)) pa_nil)) (pv 1)))
      (pss_cons (ps_asg (pe_op op_fdivW (pe_callTy call_int1 (by rfl) T.m_int PySem.Pv.boot_int (pa_cons (pe_ix ix_list (pv 0) pe_int (fun _ _ => rfl)) pa_nil)) (pv 1)) (pg_sub (pv 0) pe_int set_list))
      (pss_one (ps_ret (pv 5)))))), ?_⟩
    have i0 : ∀ (x y z u : V), atI [x, y, z, u] 0 = some x := fun _ _ _ _ => rfl
    have i1 : ∀ (x y z u : V), atI [x, y, z, u] 1 = some y := fun _ _ _ _ => rfl
    have i2 : ∀ (x y z u : V), atI [x, y, z, u] 2 = some z := fun _ _ _ _ => rfl
    have i3 : ∀ (x y z u : V), atI [x, y, z, u] 3 = some u := fun _ _ _ _ => rfl
    refine ⟨fun σ H1 => FeedOk H1 a c ∧ But a H H1 ∧ ∃ y2 y3 y4 y5, σ = [some (.ref a), some (.int m), y2, y3, y4, y5], ?_, fun σ H1 hM => ?_⟩
    · refine ⟨.ref a, rfl, a, _, _, _, rfl, rfl, SqL.of ha, i2 _ _ _ _, _, _, rfl, rfl, _, rfl, ite2 (fun e => ?_) (fun e => ?_)⟩
      · -- feed[1] = feed[1] + 1
        refine ⟨fun σ H1 => σ = [some (.ref a), some (.int m), none, none, none, none] ∧ H1 a = some (.lst [.ref c, .int (k + 1), .int big, .int mark]) ∧ H1 c = some (.lst (ns.map V.int)) ∧ But a H H1,
          ⟨.ref a, rfl, a, _, _, _, rfl, rfl, SqL.of ha, i1 _ _ _ _, _, _, rfl, rfl, .ref a, rfl, a, _, _, 1, rfl, rfl, ha, rfl, rfl, upd_same, by rw [upd_ne nca]; exact hc, But.upd⟩, fun σ H1 hM => ?_⟩
        obtain ⟨rfl, ha1, hc1, b1⟩ := hM
        refine ⟨.ref a, rfl, a, _, _, _, rfl, rfl, SqL.of ha1, i3 _ _ _ _, .ref a, rfl, a, _, _, _, rfl, rfl, SqL.of ha1, i1 _ _ _ _, _, _, rfl, rfl, .inr (by decide), _, _, rfl, rfl, ?_⟩
        refine ⟨fun σ H2 => H2 = H1 ∧ ∃ z : Int, σ = [some (.ref a), some (.int m), some (.int z), none, none, none], ?_, fun σ H2 hM => ?_⟩
        · refine ⟨.ref a, rfl, a, _, _, _, rfl, rfl, SqL.of ha1, i1 _ _ _ _, .ref a, rfl, a, _, _, _, rfl, rfl, SqL.of ha1, i0 _ _ _ _, c, _, rfl, .inl (SqL.of hc1), _, _, rfl, rfl, _, rfl, ite2 (fun e1 => ?_) (fun e1 => ?_)⟩
          · have h1 : k + 1 ≤ ((ns.map V.int).length : Int) := of_decide_eq_true e1
            rw [List.length_map] at h1
            have h2 : k.toNat < ns.length := by omega
            have g : (ns.map V.int)[k.toNat]? = some (.int ns[k.toNat]) := by rw [List.getElem?_map, List.getElem?_eq_getElem h2]; rfl
            exact ⟨.ref a, rfl, a, _, _, _, rfl, rfl, SqL.of ha1, i0 _ _ _ _, .ref a, rfl, a, _, _, _, rfl, rfl, SqL.of ha1, i1 _ _ _ _, _, _, rfl, rfl, c, _, _, _, rfl, rfl, SqL.of hc1, at_of (j := k.toNat) (by omega) g, rfl, _, rfl⟩
          · exact ⟨rfl, _, rfl⟩
        · obtain ⟨rfl, z, rfl⟩ := hM
          have tail : FeedOk (upd H2 a (.lst ([V.ref c, .int (k + 1), .int big, .int mark].set 2 (.int z)))) a c ∧ But a H (upd H2 a (.lst ([V.ref c, .int (k + 1), .int big, .int mark].set 2 (.int z)))) ∧ ∃ y2 y3 y4 y5, [some (V.ref a), some (.int m), some (.int z), none, none, none] = [some (V.ref a), some (.int m), y2, y3, y4, y5] :=
            ⟨⟨ns, k + 1, z, mark, upd_same, by rw [upd_ne nca]; exact hc1, nca, hlen, by omega⟩, b1.trans But.upd, _, _, _, _, rfl⟩
          have pos : ∀ x y : Int, 0 ≤ x % 2147483647 ∧ x % 2147483647 < 2147483647 := fun x _ => ⟨Int.emod_nonneg _ (by decide), Int.emod_lt_of_pos _ (by decide)⟩
          have done : ∀ x : Int, Q (.int (x % m)) H2 := fun x => q _ _ (Int.emod_nonneg _ (by omega)) (Int.emod_lt_of_pos _ hm) ⟨ns, k + 1, big, mark, ha1, hc1, nca, hlen, by omega⟩ b1
          refine ⟨.ref a, rfl, a, _, _, _, rfl, rfl, SqL.of ha1, i1 _ _ _ _, .ref a, rfl, a, _, _, _, rfl, rfl, SqL.of ha1, i0 _ _ _ _, c, _, rfl, .inl (SqL.of hc1), _, _, rfl, rfl, _, rfl, ite2 (fun e1 => ?_) (fun e1 => ?_)⟩
          · exact ⟨_, rfl, _, _, rfl, rfl, .inr (by decide), _, rfl, a, _, _, _, rfl, rfl, SqL.of ha1, i1 _ _ _ _, _, _, rfl, rfl, .inr (by decide), _, _, rfl, rfl, _, rfl, a, _, _, _, rfl, rfl, SqL.of ha1, i3 _ _ _ _, _, _, rfl, rfl, .inl ⟨_, rfl, _, _, rfl, rfl, (by show (0 : Int) < _; decide), _, rfl, _, rfl, _, _, rfl, rfl, .inl (by have p := pos (z * 48271 + (k + 1) * 69621 + mark) 0; exact ⟨by omega, by omega⟩), _, rfl, a, _, _, _, rfl, rfl, SqL.of ha1, i1 _ _ _ _, _, _, rfl, rfl, .inr (by decide), _, _, rfl, rfl, .inl ⟨_, rfl, _, _, rfl, rfl, (by show (0 : Int) < _; decide), _, rfl, _, _, rfl, rfl, .inr (by decide), _, rfl, _, _, rfl, rfl, .inl ⟨_, rfl, _, _, rfl, rfl, (by show (0 : Int) < _; decide), _, _, rfl, rfl, ⟨by decide, by decide⟩, _, rfl, _, _, rfl, rfl, hm, done _⟩⟩⟩⟩
          · refine ⟨_, rfl, _, _, rfl, rfl, ⟨by decide, by decide, by decide⟩, _, _, rfl, rfl, _, rfl, ite2 (fun e2 => ?_) (fun e2 => ?_)⟩
            · exact ⟨_, rfl, _, _, rfl, rfl, .inr (by decide), _, rfl, a, _, _, _, rfl, rfl, SqL.of ha1, i1 _ _ _ _, _, _, rfl, rfl, .inr (by decide), _, _, rfl, rfl, _, rfl, a, _, _, _, rfl, rfl, SqL.of ha1, i3 _ _ _ _, _, _, rfl, rfl, .inl ⟨_, rfl, _, _, rfl, rfl, (by show (0 : Int) < _; decide), _, rfl, _, rfl, _, _, rfl, rfl, .inl (by have p := pos (z * 48271 + (k + 1) * 69621 + mark) 0; exact ⟨by omega, by omega⟩), _, rfl, a, _, _, _, rfl, rfl, SqL.of ha1, i1 _ _ _ _, _, _, rfl, rfl, .inr (by decide), _, _, rfl, rfl, .inl ⟨_, rfl, _, _, rfl, rfl, (by show (0 : Int) < _; decide), _, rfl, _, _, rfl, rfl, .inr (by decide), _, rfl, _, _, rfl, rfl, .inl ⟨_, rfl, _, _, rfl, rfl, (by show (0 : Int) < _; decide), _, _, rfl, rfl, ⟨by decide, by decide⟩, _, rfl, _, _, rfl, rfl, hm, done _⟩⟩⟩⟩
            · exact ⟨_, rfl, .ref a, rfl, a, _, _, 2, rfl, rfl, ha1, rfl, tail⟩
      · exact ⟨⟨ns, k, big, mark, ha, hc, nca, hlen, hk⟩, But.refl _ _, none, none, none, none, rfl⟩
    · obtain ⟨⟨ns1, k1, big1, mark1, ha1, hc1, nca1, hlen1, hk1⟩, b1, y2, y3, y4, y5, rfl⟩ := hM
      refine ⟨.ref a, rfl, a, _, _, _, rfl, rfl, SqL.of ha1, i2 _ _ _ _, .inl ⟨_, rfl, _, rfl, _, _, rfl, rfl, hm, ?_⟩⟩
      refine ⟨.ref a, rfl, a, _, _, _, rfl, rfl, SqL.of ha1, i2 _ _ _ _, .inl ⟨_, rfl, _, rfl, _, _, rfl, rfl, ⟨hm, hm9⟩, ?_⟩⟩
      refine ⟨.ref a, rfl, a, _, _, 2, rfl, rfl, ha1, rfl, ?_⟩
      refine ⟨_, rfl, q _ _ (Int.emod_nonneg _ (by omega)) (Int.emod_lt_of_pos _ hm) ⟨ns1, k1, big1 / m, mark1, upd_same, ?_, nca1, hlen1, hk1⟩ (b1.trans But.upd)⟩
      rw [upd_ne nca1]
      exact hc1
theorem cut63 (xs : List V) (h : xs.length ≤ 63) : cutV xs none (some 63) = xs := by
  unfold cutV
  rw [show HT.sIx xs.length xs.length (some 63) = min 63 xs.length from HT.sIx_nat xs.length xs.length 63, HT.sIx_none]
  rw [Nat.min_eq_right h]
  exact List.take_length
def spFeed (K : PySem.W.Frag) : Sp := fun vs H Q _ => ∃ (a : Addr) (ns : List Int), vs = [.ref a] ∧ SqL K H a (ns.map V.int) ∧ ns.length ≤ 63 ∧ ∀ p c H', H p = none → H c = none → Same H H' → FeedOk H' p c → Q (.ref p) H'
theorem ok_feed (T : Txt K mg fa fd) : FnOk P w K mg base CX0 1 (fa 140) (fd 140) ["_law_script"] (spFeed K) := by
  refine T.F_feed.ok sc_feed (fun vs H Q E h => ?_) (fun cdv A outer s H vs Q E hr h => ?_)
  · obtain ⟨a, ns, rfl, _⟩ := h
    rfl
  · obtain ⟨a, ns, rfl, hS, hlen, q⟩ := h
    refine ⟨_, (C8.pss_cut (ps_setLc (i := 2) (own := [("_law_cell", 1)]) (g := gName 1) (tt := tYes) rfl sc_feed.nd rfl rfl (sw_true rfl rfl rfl (by decide +kernel)) (pi_list (pe_slice sl_list (pv 0) po_none (po_some pe_int))) (blkOk_by (own := [("_law_cell", 1)]) (N := ["_law_script", "_law_cell", "_law_cells", "_law_mark"]) (sc := defScope s_feed) (by decide +kernel)) (fun _ _ _ _ _ => pg_name (i := 1) sc_feed.nd rfl (Or.inl rfl)) (fun _ _ _ _ _ => pts_nil) (fun _ _ _ _ _ => (pe_callTy call_int1 (by rfl) T.m_int PySem.Pv.boot_int (pa_cons (pv 1) pa_nil))))
      (pss_cons (ps_set (i := 3) sc_feed.nd rfl (.inl rfl) (pe_op op_add pe_int (pe_op op_mul pe_int (pe_callB call_len_seq (by rfl) T.m_len PySem.boot_len (pa_cons (pv 2) pa_nil)))))
      (pss_cons (ps_for PassesOwn.never rfl (pi_list (pv 2)) (pg_name (i := 1) sc_feed.nd rfl (.inl rfl)) (pss_one (ps_set (i := 3) sc_feed.nd rfl (.inl rfl) (pe_op op_mod (pe_callTy call_int1 (by rfl) T.m_int PySem.Pv.boot_int (pa_cons (pe_op op_add (pe_op op_mul (pv 3) pe_int) (pv 1)) pa_nil)) pe_int))))
      (pss_one (ps_ret (pe_lst (pa_cons (pv 2) (pa_cons pe_int (pa_cons pe_int (pa_cons (pv 3) pa_nil)))))))))), ?_⟩
    refine ⟨fun σ H1 => ∃ c, σ = [some (.ref a), none, some (.ref c), none] ∧ H c = none ∧ Same H H1 ∧ H1 c = some (.lst (ns.map V.int)), ?_, fun σ H1 hM => ?_⟩
    · refine ⟨.ref a, rfl, 63, rfl, a, _, rfl, hS, fun p np => ?_⟩
      rw [cut63 _ (by rw [List.length_map]; exact hlen)]
      have s1 : Same H (upd H p (.lst (ns.map V.int))) := same_upd np
      refine ⟨p, rfl, ⟨_, SqL.of upd_same⟩, fun D nD => ?_⟩
      have nD0 : H D = none := s1.free nD
      have npD : p ≠ D := ne_of_none upd_same nD
      refine lc_list (K := K) (a := p) (xs := ns.map V.int) (fun i H2 => Same (upd H p (.lst (ns.map V.int))) H2 ∧ H2 D = some (.lst ((ns.take i).map V.int))) ⟨same_upd nD, upd_same⟩ (fun i H2 _ hp => SqL.of (hp.1 _ _ upd_same)) (fun i x H2 hx hp => ?_) (fun H2 hp => ?_)
      · rw [List.getElem?_map] at hx
        obtain ⟨z, hz, rfl⟩ := Option.map_eq_some_iff.mp hx
        refine ⟨rfl, _, rfl, .inl ⟨_, rfl, _, hp.2, ?_, ?_, ?_⟩⟩
        · rw [List.length_map, List.length_take]
          exact Nat.lt_of_le_of_lt (Nat.min_le_left _ _) (small1000 (by
            have := (List.getElem?_eq_some_iff.mp hz).1
            omega))
        · exact fun b o e => by
            rw [upd_ne (ne_of_none e nD)]
            exact hp.1 b o e
        · rw [upd_same, List.take_add_one, hz, List.map_append]
          rfl
      · rw [List.length_map] at hp
        refine ⟨D, rfl, nD0, s1.trans hp.1, ?_⟩
        rw [hp.2, List.take_length]
    · obtain ⟨c, rfl, nc, s1, hc⟩ := hM
      refine ⟨_, rfl, c, _, rfl, .inl (SqL.of hc), _, _, rfl, rfl, .inl (by decide), _, _, rfl, rfl, ?_⟩
      refine ⟨_, rfl, c, rfl, ⟨_, SqL.of hc⟩, for_list (K := K) (a := c) (xs := ns.map V.int) (fun i σ H2 => H2 = H1 ∧ ∃ (y1 : Option V) (m : Int), σ = [some (.ref a), y1, some (.ref c), some (.int m)] ∧ 0 ≤ m ∧ m < 1000000000000) ?_ (fun i σ H2 _ hp => by rw [hp.1]; exact SqL.of hc) (fun i x σ H2 hx hp => ?_) (fun σ H2 hp => ?_)⟩
      · refine ⟨rfl, _, _, rfl, ?_⟩
        rw [List.length_map]
        omega
      · obtain ⟨rfl, y1, m, rfl, h0, h1⟩ := hp
        rw [List.getElem?_map] at hx
        obtain ⟨z, hz, rfl⟩ := Option.map_eq_some_iff.mp hx
        exact ⟨_, rfl, _, _, rfl, rfl, .inr (by decide), _, rfl, _, _, rfl, rfl, .inl ⟨_, rfl, _, _, rfl, rfl, (by show (0 : Int) < _; decide), rfl, _, _, rfl, Int.emod_nonneg _ (by decide), Int.lt_trans (Int.emod_lt_of_pos _ (by decide)) (by decide)⟩⟩
      · obtain ⟨rfl, y1, m, rfl, h0, h1⟩ := hp
        refine ⟨_, rfl, _, rfl, Nat.le_trans (by decide : 4 ≤ 1000) (Nat.le_of_lt (small1000 (Nat.le_refl _))), fun p np => ?_⟩
        refine q p c _ (s1.free np) nc (s1.trans (same_upd np)) ⟨ns, 0, 0, m, upd_same, ?_, ne_of_none hc np, hlen, Int.le_refl _⟩
        rw [upd_ne (ne_of_none hc np)]
        exact hc
/-! ### the row's own draw -/
def spAny : Sp := fun vs H Q _ => ∃ (a c r : Addr) (xs : List V), vs = [.ref a, .ref r] ∧ FeedOk H a c ∧ H r = some (.lst xs) ∧ r ≠ a ∧ 0 < xs.length ∧ xs.length ≤ 1000 ∧ ∀ v H', v ∈ xs → FeedOk H' a c → But a H H' → Q v H'
theorem mid_small {n : Nat} (h0 : 0 < n) (h : n ≤ 1000) : Mid (n : Int) := ⟨by omega, by
  rw [Int.natAbs_natCast]
  exact Nat.lt_of_le_of_lt (Nat.log2_le_self n) (by omega)⟩
theorem ok_any (T : Txt K mg fa fd) : FnOk P w K mg base CX0 2 (fa 142) (fd 142) ["_law_feed_here", "_law_row"] spAny := by
  refine T.F_any.ok sc_any (fun vs H Q E h => ?_) (fun cdv A outer s H vs Q E hr h => ?_)
  · obtain ⟨a, c, m, xs, rfl, _⟩ := h
    rfl
  · obtain ⟨a, c, r, xs, rfl, hF, hx, nra, h0, h1, q⟩ := h
    refine ⟨_, (pss_one (ps_ret (pe_ix ix_list (pv 1) (pe_call (ok_draw T) (hr.mono (by decide)) (by rfl) T.g_draw T.F_draw.kp T.b_draw .nil pass0 (pa_cons (pv 0) (pa_cons (pe_callB call_len_seq (by rfl) T.m_len PySem.boot_len (pa_cons (pv 1) pa_nil)) pa_nil))) (fun _ _ => rfl)))), ?_⟩
    refine ⟨_, rfl, _, rfl, _, rfl, r, _, rfl, .inl (SqL.of hx), a, c, _, rfl, hF, mid_small h0 h1, fun z H' z0 z1 hF' b => ?_⟩
    have hz : z.toNat < xs.length := by omega
    exact ⟨r, xs, z, xs[z.toNat], rfl, rfl, SqL.of (b _ _ nra hx), at_of (j := z.toNat) (by omega) (List.getElem?_eq_getElem hz), q _ _ (List.getElem_mem hz) hF' b⟩
/-! ### the greatest common divisor -/
def spGcd : Sp := fun vs H Q _ => ∃ x y : Int, vs = [.int x, .int y] ∧ Q (.int (Int.gcd x y : Nat)) H
theorem ok_gcd (T : Txt K mg fa fd) : FnOk P w K mg base CX0 1 (fa 144) (fd 144) ["_law_one", "_law_two"] spGcd := by
  refine T.F_gcd.ok sc_gcd (fun vs H Q E h => ?_) (fun cdv A outer s H vs Q E hr h => ?_)
  · obtain ⟨x, y, rfl, _⟩ := h
    rfl
  · obtain ⟨x, y, rfl, q⟩ := h
    refine ⟨_, (pss_cons (ps_par (i := 0) (j := 1) (by rfl) sc_gcd.nd rfl rfl (by decide) rfl rfl (pa_cons (pe_callB call_abs (by rfl) T.m_abs PyProof.Rows.boot_abs (pa_cons (pv 0) pa_nil)) (pa_cons (pe_callB call_abs (by rfl) T.m_abs PyProof.Rows.boot_abs (pa_cons (pv 1) pa_nil)) pa_nil)) (by rfl))
      (pss_cons (ps_while PassesOwn.never (pt_cmpR op_ne (pv 1) pe_int (nomark _)) (pss_one (ps_par (i := 0) (j := 1) (by rfl) sc_gcd.nd rfl rfl (by decide) rfl rfl (pa_cons (pv 1) (pa_cons (pe_op op_mod (pe_callTy call_int1 (by rfl) T.m_int PySem.Pv.boot_int (pa_cons (pv 0) pa_nil)) (pv 1)) pa_nil)) (by rfl))))
      (pss_one (ps_ret (pv 0))))), ?_⟩
    refine ⟨_, rfl, _, rfl, _, rfl, _, rfl, _, _, rfl, ?_⟩
    have ab : ∀ z : Int, (if z < 0 then -z else z) = (z.natAbs : Int) := fun z => by split <;> omega
    rw [ab, ab]
    refine ⟨fun m σ H1 => ∃ u v : Nat, m = v ∧ σ = [some (.int (u : Int)), some (.int (v : Int))] ∧ H1 = H ∧ Nat.gcd u v = Int.gcd x y, ⟨_, x.natAbs, y.natAbs, rfl, rfl, rfl, rfl⟩, fun m σ H1 hW => ?_⟩
    obtain ⟨u, v, rfl, rfl, rfl, hg⟩ := hW
    refine ⟨_, rfl, rfl, _, rfl, ?_⟩
    by_cases hv : m = 0
    · subst hv
      rw [decide_eq_true (show V.int ((0 : Nat) : Int) = V.int 0 from rfl)]
      refine ⟨_, rfl, ?_⟩
      rw [Nat.gcd_zero_right] at hg
      rw [hg]
      exact q
    · rw [decide_eq_false (fun e => hv (by have := V.int.inj e; omega))]
      refine ⟨fun σ' H' => ∃ m', m' < m ∧ ∃ u v : Nat, m' = v ∧ σ' = [some (.int (u : Int)), some (.int (v : Int))] ∧ H' = H1 ∧ Nat.gcd u v = Int.gcd x y, fun σ' H' h => h, ?_⟩
      refine ⟨_, rfl, _, rfl, .inl ⟨_, rfl, _, rfl, _, _, rfl, rfl, (by show (0 : Int) < _; omega), ?_⟩⟩
      refine ⟨_, _, rfl, u % m, Nat.mod_lt _ (by omega), m, u % m, rfl, rfl, rfl, ?_⟩
      rw [← hg, Nat.gcd_comm m, ← Nat.gcd_rec, Nat.gcd_comm]
/-! ### lowest terms -/
def CDivG (_ j : Int) : Prop := j ≠ 0 ∧ j.natAbs.log2 < 9000
theorem op_fdivG {X : Cx} : OpR X (binaryOp .FloorDiv) (rI CDivG fun i j => .int (i.fdiv j)) := opI fun _ _ _ _ _ _ _ hc q => floordiv_int hc.1 q (.inl (PyProof.noPylong_of_log2 hc.2))
def lowG (u v : Int) : Int := if v < 0 then -(Int.gcd u v : Nat) else (Int.gcd u v : Nat)
def lowT (u v : Int) : Int := u.fdiv (lowG u v)
def lowD (u v : Int) : Int := v.fdiv (lowG u v)
theorem gcd_pos {u v : Int} (h : v ≠ 0) : 0 < Int.gcd u v := Nat.pos_of_ne_zero fun e => h (Int.gcd_eq_zero_iff.mp e).2
theorem gcd_le {u v : Int} (h : v ≠ 0) : Int.gcd u v ≤ v.natAbs := Nat.le_of_dvd (by omega) (Nat.gcd_dvd_right _ _)
theorem log2_mono {a b k : Nat} (h : a ≤ b) (hb : b.log2 < k) : a.log2 < k := by
  by_cases h0 : a = 0
  · subst h0
    rw [Nat.log2_zero]
    omega
  · have hb0 : b ≠ 0 := by omega
    exact (Nat.log2_lt h0).mpr (Nat.lt_of_le_of_lt h ((Nat.log2_lt hb0).mp hb))
theorem lowG_ok {u v : Int} (h : v ≠ 0) (h9 : v.natAbs.log2 < 4096) : CDivG u (lowG u v) := by
  have h1 := gcd_pos (u := u) h
  have h2 := gcd_le (u := u) h
  unfold lowG
  split
  · exact ⟨by omega, by rw [Int.natAbs_neg, Int.natAbs_natCast]; exact Nat.lt_trans (log2_mono h2 h9) (by decide)⟩
  · exact ⟨by omega, by rw [Int.natAbs_natCast]; exact Nat.lt_trans (log2_mono h2 h9) (by decide)⟩
def spLow : Sp := fun vs H Q _ => ∃ u v : Int, vs = [.int u, .int v] ∧ v ≠ 0 ∧ v.natAbs.log2 < 4096 ∧ ∀ p, H p = none → Q (.ref p) (upd H p (.tup [.int (lowT u v), .int (lowD u v)]))
theorem two_line : 2 ≤ sizeLine := Nat.le_trans (by decide : 2 ≤ 1000) (Nat.le_of_lt (small1000 (Nat.le_refl _)))
theorem ok_low (T : Txt K mg fa fd) : FnOk P w K mg base CX0 2 (fa 145) (fd 145) ["_law_upper", "_law_lower"] spLow := by
  refine T.F_low.ok sc_low (fun vs H Q E h => ?_) (fun cdv A outer s H vs Q E hr h => ?_)
  · obtain ⟨x, y, rfl, _⟩ := h
    rfl
  · obtain ⟨u, v, rfl, h0, h9, q⟩ := h
    refine ⟨_, (pss_cons (ps_set (i := 2) sc_low.nd rfl (.inl rfl) (pe_call (ok_gcd T) (hr.mono (by decide)) (by rfl) T.g_gcd T.F_gcd.kp T.b_gcd .nil pass0 (pa_cons (pv 0) (pa_cons (pv 1) pa_nil))))
      (C8.pss_cut (ps_if (pt_cmpR op_lt (pv 1) pe_int (nomark _)) (pss_one (ps_set (i := 2) sc_low.nd rfl (.inl rfl) (pe_un un_neg (pv 2)))) pss_nil)
      (pss_one (ps_ret (pe_tup (pa_cons (pe_op op_fdivG (pv 0) (pv 2)) (pa_cons (pe_op op_fdivG (pv 1) (pv 2)) pa_nil))))))), ?_⟩
    refine ⟨_, rfl, _, rfl, u, v, rfl, ?_⟩
    refine ⟨fun σ H1 => H1 = H ∧ σ = [some (.int u), some (.int v), some (.int (lowG u v))], ?_, fun σ H1 hM => ?_⟩
    · refine ⟨_, rfl, _, _, rfl, rfl, _, rfl, ite2 (fun e => ?_) (fun e => ?_)⟩
      · refine ⟨_, rfl, _, rfl, rfl, ?_⟩
        unfold lowG
        rw [if_pos (of_decide_eq_true e)]
        rfl
      · refine ⟨rfl, ?_⟩
        unfold lowG
        rw [if_neg (fun z => e (decide_eq_true z))]
        rfl
    · obtain ⟨rfl, rfl⟩ := hM
      have hG := lowG_ok (u := u) h0 h9
      exact ⟨_, rfl, _, rfl, _, _, rfl, rfl, hG, _, rfl, _, rfl, _, _, rfl, rfl, hG, two_line, q⟩
/-! ### sameness of data -/
def Leaf (v w : V) : Prop := v = w ∧ (v = .non ∨ (∃ b, v = .bl b) ∨ (∃ i, v = .int i) ∨ ∃ x, v = .str x)
def Eqd (H : Hp) : Nat → V → V → Prop
  | 0, v, w => Leaf v w
  | n + 1, v, w => Leaf v w ∨ ∃ (a b : Addr) (xs ys : List V), v = .ref a ∧ w = .ref b ∧ ((H a = some (.lst xs) ∧ H b = some (.lst ys)) ∨ (H a = some (.tup xs) ∧ H b = some (.tup ys))) ∧ xs.length = ys.length ∧ xs.length ≤ 1000 ∧
      ∀ (i : Nat) (x y : V), xs[i]? = some x → ys[i]? = some y → Eqd H n x y
theorem Eqd.leaf {H : Hp} {n : Nat} {v w : V} (h : Leaf v w) : Eqd H n v w := by
  cases n with
  | zero => exact h
  | succ n => exact .inl h
theorem Eqd.mono {H H' : Hp} (s : Same H H') : ∀ (n : Nat) {v w : V}, Eqd H n v w → Eqd H' n v w
  | 0, _, _, h => h
  | n + 1, _, _, h => by
    rcases h with h | ⟨a, b, xs, ys, e1, e2, h, l1, l2, r⟩
    · exact .inl h
    · refine .inr ⟨a, b, xs, ys, e1, e2, ?_, l1, l2, fun i x y h1 h2 => Eqd.mono s n (r i x y h1 h2)⟩
      rcases h with ⟨h1, h2⟩ | ⟨h1, h2⟩
      · exact .inl ⟨s _ _ h1, s _ _ h2⟩
      · exact .inr ⟨s _ _ h1, s _ _ h2⟩
def spSame (n : Nat) : Sp := fun vs H Q _ => ∃ v w : V, vs = [v, w] ∧ Eqd H n v w ∧ ∀ H', Same H H' → Q (.bl true) H'
def spS : Nat → Sp
  | 0 => fun _ _ _ _ => False
  | n + 1 => spSame n
theorem none_of_false {K : PySem.W.Frag} {f : Addr} {fd : FuncData} {st : Stmt} {x : Str} {N ps : List Str} (F : Fun K x x st f fd) (S : FnScope N ps (defScope st)) : FnOk P w K mg base CX0 1 f fd ps (fun _ _ _ _ => False) :=
  F.ok S (fun _ _ _ _ h => h.elim) fun _ _ _ _ _ _ _ _ _ h => h.elim
theorem kit2 {K : PySem.W.Frag} {a b c : String} {r1 r2 : Bool} (h1 : kitB a b = some r1) (h2 : kitB a c = some r2) : PySem.W.kitAny K (.type a) [.type b, .type c] = some (r1 || r2) := by
  cases r1 with
  | true => exact kitAny_cons (kit_ty h1) (fun h => nomatch h) fun _ => rfl
  | false =>
    refine kitAny_cons (kit_ty h1) (fun _ => ?_) fun h => nomatch h
    cases r2 with
    | true => exact kitAny_cons (kit_ty h2) (fun h => nomatch h) fun _ => rfl
    | false => exact kitAny_cons (kit_ty h2) (fun _ => kitAny_nil) fun h => nomatch h
theorem same_step (T : Txt K mg fa fd) (n : Nat) (G : FnOk P w K mg base CX0 (n + 1) (fa 143) (fd 143) ["_law_found", "_law_due"] (spS n)) : FnOk P w K mg base CX0 (n + 2) (fa 143) (fd 143) ["_law_found", "_law_due"] (spSame n) := by
  refine T.F_same.ok sc_same (fun vs H Q E h => ?_) (fun cdv A outer s H vs Q E hr h => ?_)
  · obtain ⟨x, y, rfl, _⟩ := h
    rfl
  · obtain ⟨x, y, rfl, hE, q⟩ := h
    refine ⟨_, (pss_cons (ps_if (pt_cmpR op_isN (pv 1) pe_non (nomark _)) (pss_one (ps_ret (pe_cmpR op_isN (pv 0) pe_non (nomark _)))) pss_nil)
      (pss_cons (ps_if (PW.pt (pw_or (pt_val (pe_callB call_isi (by rfl) T.m_isinstance PyProof.Rows.boot_isinstance (pa_cons (pv 1) (pa_cons (pe_bltn (v := .ty "bool") (by rfl) T.m_bool (by decide +kernel) rfl) pa_nil)))) (pw_or1 (pt_val (pe_callB call_isi (by rfl) T.m_isinstance PyProof.Rows.boot_isinstance (pa_cons (pv 0) (pa_cons (pe_bltn (v := .ty "bool") (by rfl) T.m_bool (by decide +kernel) rfl) pa_nil))))))) (pss_one (ps_ret (pe_and (pe_callB call_isi (by rfl) T.m_isinstance PyProof.Rows.boot_isinstance (pa_cons (pv 1) (pa_cons (pe_bltn (v := .ty "bool") (by rfl) T.m_bool (by decide +kernel) rfl) pa_nil))) (pe_and (pe_callB call_isi (by rfl) T.m_isinstance PyProof.Rows.boot_isinstance (pa_cons (pv 0) (pa_cons (pe_bltn (v := .ty "bool") (by rfl) T.m_bool (by decide +kernel) rfl) pa_nil))) (pe_one (pe_cmpR op_eq (pv 0) (pv 1) (nomark _))))))) pss_nil)
      (pss_cons (ps_if (pt_val (pe_callB call_isiT (by rfl) T.m_isinstance PyProof.Rows.boot_isinstance (pa_cons (pv 1) (pa_cons (pe_tup (pa_cons (pe_bltn (v := .ty "int") (by rfl) T.m_int (by decide +kernel) rfl) (pa_cons (pe_bltn (v := .ty "str") (by rfl) T.m_str (by decide +kernel) rfl) pa_nil))) pa_nil)))) (pss_one (ps_ret (pe_and (pe_callB call_isiT (by rfl) T.m_isinstance PyProof.Rows.boot_isinstance (pa_cons (pv 0) (pa_cons (pe_tup (pa_cons (pe_bltn (v := .ty "int") (by rfl) T.m_int (by decide +kernel) rfl) (pa_cons (pe_bltn (v := .ty "str") (by rfl) T.m_str (by decide +kernel) rfl) pa_nil))) pa_nil))) (pe_and (pe_cmpR op_eq (pe_callB call_isi (by rfl) T.m_isinstance PyProof.Rows.boot_isinstance (pa_cons (pv 0) (pa_cons (pe_bltn (v := .ty "int") (by rfl) T.m_int (by decide +kernel) rfl) pa_nil))) (pe_callB call_isi (by rfl) T.m_isinstance PyProof.Rows.boot_isinstance (pa_cons (pv 1) (pa_cons (pe_bltn (v := .ty "int") (by rfl) T.m_int (by decide +kernel) rfl) pa_nil))) (nomark _)) (pe_one (pe_cmpR op_eq (pv 0) (pv 1) (nomark _))))))) pss_nil)
      (pss_cons (ps_if (pt_val (pe_callB call_isi (by rfl) T.m_isinstance PyProof.Rows.boot_isinstance (pa_cons (pv 1) (pa_cons (pe_bltn (v := .ty "dict") (by rfl) T.m_dict (by decide +kernel) rfl) pa_nil)))) (pss_cons ps_never
      (pss_one ps_never)) pss_nil)
      (pss_cons (ps_if (PW.pt (pw_or (pt_cmpR op_ne (pe_callB call_isi (by rfl) T.m_isinstance PyProof.Rows.boot_isinstance (pa_cons (pv 1) (pa_cons (pe_bltn (v := .ty "list") (by rfl) T.m_list (by decide +kernel) rfl) pa_nil))) (pe_callB call_isi (by rfl) T.m_isinstance PyProof.Rows.boot_isinstance (pa_cons (pv 0) (pa_cons (pe_bltn (v := .ty "list") (by rfl) T.m_list (by decide +kernel) rfl) pa_nil))) (nomark _)) (pw_or1 (pt_cmpR op_ne (pe_callB call_isi (by rfl) T.m_isinstance PyProof.Rows.boot_isinstance (pa_cons (pv 1) (pa_cons (pe_bltn (v := .ty "tuple") (by rfl) T.m_tuple (by decide +kernel) rfl) pa_nil))) (pe_callB call_isi (by rfl) T.m_isinstance PyProof.Rows.boot_isinstance (pa_cons (pv 0) (pa_cons (pe_bltn (v := .ty "tuple") (by rfl) T.m_tuple (by decide +kernel) rfl) pa_nil))) (nomark _))))) (pss_one (ps_ret pe_bl)) pss_nil)
      (pss_one (ps_ret (pe_and (pe_cmpR op_eq (pe_callB call_len_seq (by rfl) T.m_len PySem.boot_len (pa_cons (pv 0) pa_nil)) (pe_callB call_len_seq (by rfl) T.m_len PySem.boot_len (pa_cons (pv 1) pa_nil)) (nomark _)) (pe_one (pe_callB (cr_all rfl) (by rfl) T.m_all PyProof.Rows.boot_all (pa_cons (pe_lc (own := [("_law_one", 3), ("_law_two", 4)]) (g := gTup K 2 (gCons (gName 3) (gCons (gName 4) gNil))) (tt := tYes) rfl sc_same.nd (RZ.pi_zipA (by rfl) T.m_zip (pa_cons (pv 0) (pa_cons (pv 1) pa_nil))) (blkOk_by (own := [("_law_one", 3), ("_law_two", 4)]) (N := ["_law_found", "_law_due", "_law_key", "_law_one", "_law_two"]) (sc := defScope s_same) (by decide +kernel)) (fun _ _ _ _ _ => pg_tup rfl (pgs_cons (pg_name (i := 3) sc_same.nd rfl (Or.inl rfl)) (pgs_cons (pg_name (i := 4) sc_same.nd rfl (Or.inl rfl)) pgs_nil))) (fun _ _ _ _ _ => pts_nil) (fun _ _ _ _ _ => (pe_call G (hr.mono (by omega)) (by rfl) T.g_same T.F_same.kp T.b_same .nil pass0 (pa_cons (pv 3) (pa_cons (pv 4) pa_nil))))) pa_nil))))))))))), ?_⟩
    have leafy : Leaf x y ∨ ∃ (n' : Nat) (a b : Addr) (xs ys : List V), n = n' + 1 ∧ x = .ref a ∧ y = .ref b ∧ ((H a = some (.lst xs) ∧ H b = some (.lst ys)) ∨ (H a = some (.tup xs) ∧ H b = some (.tup ys))) ∧ xs.length = ys.length ∧ xs.length ≤ 1000 ∧
        ∀ (i : Nat) (x y : V), xs[i]? = some x → ys[i]? = some y → Eqd H n' x y := by
      cases n with
      | zero => exact .inl hE
      | succ n' =>
        rcases hE with h | ⟨a, b, xs, ys, h⟩
        · exact .inl h
        · exact .inr ⟨n', a, b, xs, ys, rfl, h⟩
    rcases leafy with ⟨rfl, hl⟩ | ⟨n', a, b, xs, ys, rfl, rfl, rfl, hab, hlen, h1000, hsub⟩
    · refine ⟨_, rfl, rfl, _, rfl, ite2 (fun e => ?_) (fun e => ?_)⟩
      · have ex := of_decide_eq_true e
        subst ex
        exact ⟨_, rfl, rfl, q _ (Same.refl _)⟩
      · rcases hl with rfl | ⟨bb, rfl⟩ | ⟨i, rfl⟩ | ⟨z, rfl⟩
        · exact absurd (decide_eq_true rfl) e
        · refine ⟨_, rfl, _, _, _, _, _, rfl, .ty _, .base (.bl _), kit_ty (r := true) (by decide +kernel), _, rfl, iteT (iteT ?_)⟩
          refine ⟨_, rfl, _, _, _, _, _, rfl, .ty _, .base (.bl _), kit_ty (r := true) (by decide +kernel), _, rfl, iteT ?_⟩
          refine ⟨_, rfl, _, _, _, _, _, rfl, .ty _, .base (.bl _), kit_ty (r := true) (by decide +kernel), _, rfl, iteT ?_⟩
          refine ⟨_, rfl, _, rfl, rfl, ?_⟩
          rw [decide_eq_true rfl]
          exact q _ (Same.refl _)
        · refine ⟨_, rfl, _, _, _, _, _, rfl, .ty _, .base (.int _), kit_ty (r := false) (by decide +kernel), _, rfl, iteF ?_⟩
          refine ⟨_, rfl, _, _, _, _, _, rfl, .ty _, .base (.int _), kit_ty (r := false) (by decide +kernel), _, rfl, iteF ?_⟩
          refine ⟨_, rfl, two_line, fun p np => ?_⟩
          refine ⟨_, p, _, _, _, _, rfl, upd_same, .cons (.ty _) (.cons (.ty _) .nil), .base (.int _), kit2 (r1 := true) (r2 := false) (by decide +kernel) (by decide +kernel), _, rfl, iteT ?_⟩
          refine ⟨_, rfl, two_line, fun p2 np2 => ?_⟩
          refine ⟨_, p2, _, _, _, _, rfl, upd_same, .cons (.ty _) (.cons (.ty _) .nil), .base (.int _), kit2 (r1 := true) (r2 := false) (by decide +kernel) (by decide +kernel), _, rfl, iteT ?_⟩
          refine ⟨_, rfl, _, _, _, _, _, rfl, .ty _, .base (.int _), kit_ty (r := true) (by decide +kernel), ?_⟩
          refine ⟨_, rfl, _, _, _, _, _, rfl, .ty _, .base (.int _), kit_ty (r := true) (by decide +kernel), rfl, _, rfl, iteT ?_⟩
          refine ⟨_, rfl, _, rfl, rfl, ?_⟩
          rw [decide_eq_true rfl]
          exact q _ ((same_upd np).trans (same_upd np2))
        · refine ⟨_, rfl, _, _, _, _, _, rfl, .ty _, .base (.str _), kit_ty (r := false) (by decide +kernel), _, rfl, iteF ?_⟩
          refine ⟨_, rfl, _, _, _, _, _, rfl, .ty _, .base (.str _), kit_ty (r := false) (by decide +kernel), _, rfl, iteF ?_⟩
          refine ⟨_, rfl, two_line, fun p np => ?_⟩
          refine ⟨_, p, _, _, _, _, rfl, upd_same, .cons (.ty _) (.cons (.ty _) .nil), .base (.str _), kit2 (r1 := false) (r2 := true) (by decide +kernel) (by decide +kernel), _, rfl, iteT ?_⟩
          refine ⟨_, rfl, two_line, fun p2 np2 => ?_⟩
          refine ⟨_, p2, _, _, _, _, rfl, upd_same, .cons (.ty _) (.cons (.ty _) .nil), .base (.str _), kit2 (r1 := false) (r2 := true) (by decide +kernel) (by decide +kernel), _, rfl, iteT ?_⟩
          refine ⟨_, rfl, _, _, _, _, _, rfl, .ty _, .base (.str _), kit_ty (r := false) (by decide +kernel), ?_⟩
          refine ⟨_, rfl, _, _, _, _, _, rfl, .ty _, .base (.str _), kit_ty (r := false) (by decide +kernel), rfl, _, rfl, iteT ?_⟩
          refine ⟨_, rfl, _, rfl, rfl, ?_⟩
          rw [decide_eq_true rfl]
          exact q _ ((same_upd np).trans (same_upd np2))
    · refine ⟨_, rfl, rfl, _, rfl, ite2 (fun e => absurd (of_decide_eq_true e) (by intro z; cases z)) (fun e => ?_)⟩
      rcases hab with ⟨ha, hb⟩ | ⟨ha, hb⟩
      · refine ⟨_, rfl, _, _, _, _, _, rfl, .ty _, .base (.lst hb), kit_ty (r := false) (by decide +kernel), _, rfl, iteF ⟨_, rfl, _, _, _, _, _, rfl, .ty _, .base (.lst ha), kit_ty (r := false) (by decide +kernel), _, rfl, iteF ⟨_, rfl, two_line, fun p np => ?_⟩⟩⟩
        have s1 := same_upd (o := .tup [V.ty "int", V.ty "str"]) np
        refine ⟨_, p, _, _, _, _, rfl, upd_same, .cons (.ty _) (.cons (.ty _) .nil), .base (.lst (s1 _ _ hb)), kit2 (r1 := false) (r2 := false) (by decide +kernel) (by decide +kernel), _, rfl, iteF ?_⟩
        generalize upd H p (.tup [V.ty "int", V.ty "str"]) = H2 at s1
        have ha2 := s1 _ _ ha
        have hb2 := s1 _ _ hb
        refine ⟨_, rfl, _, _, _, _, _, rfl, .ty _, .base (.lst hb2), kit_ty (r := false) (by decide +kernel), _, rfl, iteF ?_⟩
        refine ⟨_, rfl, _, _, _, _, _, rfl, .ty _, .base (.lst hb2), kit_ty (r := true) (by decide +kernel), _, rfl, _, _, _, _, _, rfl, .ty _, .base (.lst ha2), kit_ty (r := true) (by decide +kernel), rfl, _, rfl, iteF ?_⟩
        refine ⟨_, rfl, _, _, _, _, _, rfl, .ty _, .base (.lst hb2), kit_ty (r := false) (by decide +kernel), _, rfl, _, _, _, _, _, rfl, .ty _, .base (.lst ha2), kit_ty (r := false) (by decide +kernel), rfl, _, rfl, iteF ?_⟩
        refine ⟨_, rfl, a, _, rfl, .inl (SqL.of ha2), _, rfl, b, _, rfl, .inl (SqL.of hb2), rfl, _, rfl, ?_⟩
        rw [hlen, decide_eq_true rfl]
        refine iteT ⟨_, rfl, _, rfl, a, b, xs, ys, rfl, .inl ⟨SqL.of ha2, SqL.of hb2, fun D nD => ?_⟩⟩
        refine ⟨fun i m H' => i + m = xs.length ∧ Same H2 H' ∧ H' D = some (.lst ((List.replicate i true).map V.bl)), ⟨xs.length, by omega, same_upd nD, upd_same⟩, fun i m H' hW => ?_⟩
        obtain ⟨hm, s2, hD⟩ := hW
        by_cases hi : i < xs.length
        · have hx : xs[i]? = some xs[i] := List.getElem?_eq_getElem hi
          have hy : ys[i]? = some ys[i] := List.getElem?_eq_getElem (by omega)
          refine .inr ⟨⟨_, _, _, _, SqL.of (s2 _ _ ha2), SqL.of (s2 _ _ hb2), hx, hy⟩, fun H'' => Same H2 H'' ∧ H'' D = some (.lst ((List.replicate (i + 1) true).map V.bl)), fun H'' h => ⟨m - 1, by omega, by omega, h⟩, fun v H'' hv => ?_⟩
          obtain ⟨T', x1, y1, rfl, nT, rfl, f1, f2⟩ := hv
          have ex : x1 = xs[i] := Option.some.inj ((f1 _ (SqL.of (s2 _ _ ha2))).symm.trans hx)
          have ey : y1 = ys[i] := Option.some.inj ((f2 _ (SqL.of (s2 _ _ hb2))).symm.trans hy)
          have s3 : Same H' (upd H' T' (.tup [x1, y1])) := same_upd nT
          refine ⟨T', [x1, y1], rfl, .inl (.inl upd_same), rfl, x1, [y1], rfl, y1, [], rfl, rfl, rfl, ?_⟩
          refine ⟨_, rfl, _, rfl, x1, y1, rfl, ?_, fun H4 s4 => ⟨_, s4 _ _ (s3 _ _ hD), ?_, ?_, ?_⟩⟩
          · subst ex ey
            exact Eqd.mono (s1.trans (s2.trans s3)) n' (hsub i _ _ hx hy)
          · rw [List.length_map, List.length_replicate]
            exact small1000 (by omega)
          · intro c o e
            rw [upd_ne (ne_of_none e nD)]
            exact s4 _ _ (s3 _ _ (s2 _ _ e))
          · rw [upd_same, List.replicate_succ', List.map_append]
            rfl
        · have ei : i = xs.length := by omega
          subst ei
          refine .inl ⟨⟨xs, ys, SqL.of (s2 _ _ ha2), SqL.of (s2 _ _ hb2), .inl (Nat.le_refl _)⟩, ?_⟩
          refine ⟨D, _, rfl, .inl (.inl hD), ?_⟩
          have all : ∀ k : Nat, (List.replicate k true).all id = true := fun k => by
            rw [List.all_replicate]
            split <;> rfl
          rw [all]
          exact q _ (s1.trans s2)
      · refine ⟨_, rfl, _, _, _, _, _, rfl, .ty _, .base (.tup hb), kit_ty (r := false) (by decide +kernel), _, rfl, iteF ⟨_, rfl, _, _, _, _, _, rfl, .ty _, .base (.tup ha), kit_ty (r := false) (by decide +kernel), _, rfl, iteF ⟨_, rfl, two_line, fun p np => ?_⟩⟩⟩
        have s1 := same_upd (o := .tup [V.ty "int", V.ty "str"]) np
        refine ⟨_, p, _, _, _, _, rfl, upd_same, .cons (.ty _) (.cons (.ty _) .nil), .base (.tup (s1 _ _ hb)), kit2 (r1 := false) (r2 := false) (by decide +kernel) (by decide +kernel), _, rfl, iteF ?_⟩
        generalize upd H p (.tup [V.ty "int", V.ty "str"]) = H2 at s1
        have ha2 := s1 _ _ ha
        have hb2 := s1 _ _ hb
        refine ⟨_, rfl, _, _, _, _, _, rfl, .ty _, .base (.tup hb2), kit_ty (r := false) (by decide +kernel), _, rfl, iteF ?_⟩
        refine ⟨_, rfl, _, _, _, _, _, rfl, .ty _, .base (.tup hb2), kit_ty (r := false) (by decide +kernel), _, rfl, _, _, _, _, _, rfl, .ty _, .base (.tup ha2), kit_ty (r := false) (by decide +kernel), rfl, _, rfl, iteF ?_⟩
        refine ⟨_, rfl, _, _, _, _, _, rfl, .ty _, .base (.tup hb2), kit_ty (r := true) (by decide +kernel), _, rfl, _, _, _, _, _, rfl, .ty _, .base (.tup ha2), kit_ty (r := true) (by decide +kernel), rfl, _, rfl, iteF ?_⟩
        refine ⟨_, rfl, a, _, rfl, .inr (SqT.of ha2), _, rfl, b, _, rfl, .inr (SqT.of hb2), rfl, _, rfl, ?_⟩
        rw [hlen, decide_eq_true rfl]
        refine iteT ⟨_, rfl, _, rfl, a, b, xs, ys, rfl, .inr ⟨SqT.of ha2, SqT.of hb2, fun D nD => ?_⟩⟩
        refine ⟨fun i m H' => i + m = xs.length ∧ Same H2 H' ∧ H' D = some (.lst ((List.replicate i true).map V.bl)), ⟨xs.length, by omega, same_upd nD, upd_same⟩, fun i m H' hW => ?_⟩
        obtain ⟨hm, s2, hD⟩ := hW
        by_cases hi : i < xs.length
        · have hx : xs[i]? = some xs[i] := List.getElem?_eq_getElem hi
          have hy : ys[i]? = some ys[i] := List.getElem?_eq_getElem (by omega)
          refine .inr ⟨⟨_, _, _, _, SqT.of (s2 _ _ ha2), SqT.of (s2 _ _ hb2), hx, hy⟩, fun H'' => Same H2 H'' ∧ H'' D = some (.lst ((List.replicate (i + 1) true).map V.bl)), fun H'' h => ⟨m - 1, by omega, by omega, h⟩, fun v H'' hv => ?_⟩
          obtain ⟨T', x1, y1, rfl, nT, rfl, f1, f2⟩ := hv
          have ex : x1 = xs[i] := Option.some.inj ((f1 _ (SqT.of (s2 _ _ ha2))).symm.trans hx)
          have ey : y1 = ys[i] := Option.some.inj ((f2 _ (SqT.of (s2 _ _ hb2))).symm.trans hy)
          have s3 : Same H' (upd H' T' (.tup [x1, y1])) := same_upd nT
          refine ⟨T', [x1, y1], rfl, .inl (.inl upd_same), rfl, x1, [y1], rfl, y1, [], rfl, rfl, rfl, ?_⟩
          refine ⟨_, rfl, _, rfl, x1, y1, rfl, ?_, fun H4 s4 => ⟨_, s4 _ _ (s3 _ _ hD), ?_, ?_, ?_⟩⟩
          · subst ex ey
            exact Eqd.mono (s1.trans (s2.trans s3)) n' (hsub i _ _ hx hy)
          · rw [List.length_map, List.length_replicate]
            exact small1000 (by omega)
          · intro c o e
            rw [upd_ne (ne_of_none e nD)]
            exact s4 _ _ (s3 _ _ (s2 _ _ e))
          · rw [upd_same, List.replicate_succ', List.map_append]
            rfl
        · have ei : i = xs.length := by omega
          subst ei
          refine .inl ⟨⟨xs, ys, SqT.of (s2 _ _ ha2), SqT.of (s2 _ _ hb2), .inl (Nat.le_refl _)⟩, ?_⟩
          refine ⟨D, _, rfl, .inl (.inl hD), ?_⟩
          have all : ∀ k : Nat, (List.replicate k true).all id = true := fun k => by
            rw [List.all_replicate]
            split <;> rfl
          rw [all]
          exact q _ (s1.trans s2)
theorem ok_same (T : Txt K mg fa fd) : ∀ n : Nat, FnOk P w K mg base CX0 (n + 1) (fa 143) (fd 143) ["_law_found", "_law_due"] (spS n)
  | 0 => none_of_false T.F_same sc_same
  | n + 1 => same_step T n (ok_same T n)
end
/-! ### more of lowest terms -/
theorem lowG_ne {u v : Int} (h : v ≠ 0) : lowG u v ≠ 0 := by
  have h1 := gcd_pos (u := u) h
  unfold lowG
  split <;> omega
theorem lowG_dvd_left (u v : Int) : lowG u v ∣ u := by
  unfold lowG
  split
  · exact Int.neg_dvd.mpr (Int.gcd_dvd_left _ _)
  · exact (Int.gcd_dvd_left _ _)
theorem lowG_dvd_right (u v : Int) : lowG u v ∣ v := by
  unfold lowG
  split
  · exact Int.neg_dvd.mpr (Int.gcd_dvd_right _ _)
  · exact (Int.gcd_dvd_right _ _)
theorem lowT_mul {u v : Int} (h : v ≠ 0) : u = lowG u v * lowT u v := by
  obtain ⟨t, ht⟩ := lowG_dvd_left u v
  unfold lowT
  generalize lowG u v = g at ht ⊢
  have hg : g ≠ 0 ∨ g = 0 := by omega
  rcases hg with hg | hg
  · rw [ht, Int.mul_fdiv_cancel_left _ hg]
  · rw [ht, hg, Int.zero_mul, Int.zero_mul]
theorem lowT_abs {u v : Int} (h : v ≠ 0) : (lowT u v).natAbs ≤ u.natAbs := by
  have e := lowT_mul (u := u) h
  have h2 : u.natAbs = (lowG u v).natAbs * (lowT u v).natAbs := by
    rw [← Int.natAbs_mul, ← e]
  have h3 : 1 ≤ (lowG u v).natAbs := by
    have := lowG_ne (u := u) h
    omega
  calc (lowT u v).natAbs = 1 * (lowT u v).natAbs := (Nat.one_mul _).symm
    _ ≤ (lowG u v).natAbs * (lowT u v).natAbs := Nat.mul_le_mul_right _ h3
    _ = u.natAbs := h2.symm
theorem lowD_mul {u v : Int} (h : v ≠ 0) : v = lowG u v * lowD u v := by
  obtain ⟨t, ht⟩ := lowG_dvd_right u v
  have hg := lowG_ne (u := u) h
  unfold lowD
  generalize lowG u v = g at ht hg ⊢
  rw [ht, Int.mul_fdiv_cancel_left _ hg]
theorem lowD_abs {u v : Int} (h : v ≠ 0) : (lowD u v).natAbs ≤ v.natAbs := by
  have e := lowD_mul (u := u) h
  have h2 : v.natAbs = (lowG u v).natAbs * (lowD u v).natAbs := by
    rw [← Int.natAbs_mul, ← e]
  have h3 : 1 ≤ (lowG u v).natAbs := by
    have := lowG_ne (u := u) h
    omega
  calc (lowD u v).natAbs = 1 * (lowD u v).natAbs := (Nat.one_mul _).symm
    _ ≤ (lowG u v).natAbs * (lowD u v).natAbs := Nat.mul_le_mul_right _ h3
    _ = v.natAbs := h2.symm
theorem lowD_pos {u v : Int} (h : v ≠ 0) : 0 < lowD u v := by
  have e := lowD_mul (u := u) h
  have h1 := gcd_pos (u := u) h
  have key : ∀ g d : Int, v = g * d → (0 < g ∧ 0 < v) ∨ (g < 0 ∧ v < 0) → 0 < d := fun g d ev hh => by
    rcases Int.lt_trichotomy d 0 with hd | hd | hd
    · rcases hh with ⟨h1, h2⟩ | ⟨h1, h2⟩
      · have := Int.mul_neg_of_pos_of_neg h1 hd
        omega
      · have := Int.mul_pos_of_neg_of_neg h1 hd
        omega
    · rw [hd, Int.mul_zero] at ev
      omega
    · exact hd
  refine key _ _ e ?_
  unfold lowG
  split
  · exact .inr ⟨by omega, by assumption⟩
  · exact .inl ⟨by omega, by omega⟩
theorem low_gcd {u v : Int} (hv : v ≠ 0) : Int.gcd (lowT u v) (lowD u v) = 1 := by
  have e1 := lowT_mul (u := u) hv
  have e2 := lowD_mul (u := u) hv
  have hg := gcd_pos (u := u) hv
  have e3 : Int.gcd u v = (lowG u v).natAbs * Int.gcd (lowT u v) (lowD u v) := by
    have : Int.gcd (lowG u v * lowT u v) (lowG u v * lowD u v) = (lowG u v).natAbs * Int.gcd (lowT u v) (lowD u v) := Int.gcd_mul_left _ _ _
    rw [← e1, ← e2] at this
    exact this
  have e4 : (lowG u v).natAbs = Int.gcd u v := by
    unfold lowG
    split <;> omega
  rw [e4] at e3
  have e5 : Int.gcd u v * 1 = Int.gcd u v * Int.gcd (lowT u v) (lowD u v) := by rw [Nat.mul_one]; exact e3
  exact (Nat.eq_of_mul_eq_mul_left hg e5).symm
/-! ### data in the heap -/
mutual
inductive Dt (z : Addr) (H : Hp) : V → PyData → Prop
  | non : Dt z H .non .none
  | bl (b : Bool) : Dt z H (.bl b) (.bool b)
  | int (i : Int) (h : i.natAbs.log2 < 4096) : Dt z H (.int i) (.int i)
  | str (x : Str) (h : x.length ≤ 1000) : Dt z H (.str x) (.str x)
  | lst {a : Addr} {xs : List V} {ds : List PyData} : H a = some (.lst xs) → a ≠ z → DtAll z H xs ds → Dt z H (.ref a) (.list ds)
  | tup {a : Addr} {xs : List V} {ds : List PyData} : H a = some (.tup xs) → DtAll z H xs ds → Dt z H (.ref a) (.tuple ds)
inductive DtAll (z : Addr) (H : Hp) : List V → List PyData → Prop
  | nil : DtAll z H [] []
  | cons {v : V} {vs : List V} {d : PyData} {ds : List PyData} : Dt z H v d → DtAll z H vs ds → DtAll z H (v :: vs) (d :: ds)
end
mutual
theorem Dt.via {z : Addr} {H H' : Hp} (s : ∀ a o, H a = some o → ((∃ xs, o = .lst xs) ∧ a ≠ z) ∨ (∃ xs, o = .tup xs) → H' a = some o) : ∀ (d : PyData) (v : V), Dt z H v d → Dt z H' v d
  | .none, _, h => by cases h; exact .non
  | .bool _, _, h => by cases h; exact .bl _
  | .int _, _, h => by
    cases h with
    | int _ hb => exact .int _ hb
  | .str _, _, h => by
    cases h with
    | str _ hx => exact .str _ hx
  | .list ds, _, h => by
    cases h with
    | lst h1 hz h2 => exact .lst (s _ _ h1 (.inl ⟨⟨_, rfl⟩, hz⟩)) hz (DtAll.via s ds _ h2)
  | .tuple ds, _, h => by
    cases h with
    | tup h1 h2 => exact .tup (s _ _ h1 (.inr ⟨_, rfl⟩)) (DtAll.via s ds _ h2)
  | .dict _, _, h => by cases h
theorem DtAll.via {z : Addr} {H H' : Hp} (s : ∀ a o, H a = some o → ((∃ xs, o = .lst xs) ∧ a ≠ z) ∨ (∃ xs, o = .tup xs) → H' a = some o) : ∀ (ds : List PyData) (vs : List V), DtAll z H vs ds → DtAll z H' vs ds
  | [], _, h => by cases h; exact .nil
  | d :: ds, _, h => by
    cases h with
    | cons h1 h2 => exact .cons (Dt.via s d _ h1) (DtAll.via s ds _ h2)
end
theorem Dt.same {z : Addr} {H H' : Hp} {v : V} {d : PyData} (h : Dt z H v d) (s : Same H H') : Dt z H' v d := Dt.via (fun a o e _ => s a o e) d v h
theorem DtAll.same {z : Addr} {H H' : Hp} {vs : List V} {ds : List PyData} (h : DtAll z H vs ds) (s : Same H H') : DtAll z H' vs ds := DtAll.via (fun a o e _ => s a o e) ds vs h
theorem DtAll.len {z : Addr} {H : Hp} : ∀ {vs : List V} {ds : List PyData}, DtAll z H vs ds → vs.length = ds.length
  | _, _, .nil => rfl
  | _, _, .cons _ h => congrArg (· + 1) (DtAll.len h)
mutual
theorem Dt.dp {K : PySem.W.Frag} {z : Addr} {H : Hp} : ∀ (d : PyData) (v : V), Dt z H v d → Dp K H v d
  | .none, _, h => by cases h; exact .non
  | .bool _, _, h => by cases h; exact .bl _
  | .int _, _, h => by cases h; exact .int _
  | .str _, _, h => by cases h; exact .str _
  | .list ds, _, h => by
    cases h with
    | lst h1 _ h2 => exact .lst (SqL.of h1) (DtAll.dp ds _ h2)
  | .tuple ds, _, h => by
    cases h with
    | tup h1 h2 => exact .tup (SqT.of h1) (DtAll.dp ds _ h2)
  | .dict _, _, h => by cases h
theorem DtAll.dp {K : PySem.W.Frag} {z : Addr} {H : Hp} : ∀ (ds : List PyData) (vs : List V), DtAll z H vs ds → DpAll K H vs ds
  | [], _, h => by cases h; exact .nil
  | d :: ds, _, h => by
    cases h with
    | cons h1 h2 => exact .cons (Dt.dp d _ h1) (DtAll.dp ds _ h2)
end
theorem Dt.but {z : Addr} {H H' : Hp} {v : V} {d : PyData} {c : Addr} (hF : FeedOk H z c) (b : But z H H') (h : Dt z H v d) : Dt z H' v d := by
  obtain ⟨ns, k, big, mark, ha, _⟩ := hF
  refine Dt.via (fun p o e g => b p o ?_ e) d v h
  rcases g with ⟨_, g⟩ | ⟨xs, rfl⟩
  · exact g
  · exact ne_of e ha (by intro z; cases z)
theorem dnewT {z : Addr} {H : Hp} {p : Addr} {vs : List V} {ds : List PyData} (n : H p = none) (h : DtAll z H vs ds) : Same H (upd H p (.tup vs)) ∧ Dt z (upd H p (.tup vs)) (.ref p) (.tuple ds) :=
  ⟨same_upd n, .tup upd_same (h.same (same_upd n))⟩
theorem dnewL {z : Addr} {H : Hp} {p : Addr} {vs : List V} {ds : List PyData} (n : H p = none) (hz : p ≠ z) (h : DtAll z H vs ds) : Same H (upd H p (.lst vs)) ∧ Dt z (upd H p (.lst vs)) (.ref p) (.list ds) :=
  ⟨same_upd n, .lst upd_same hz (h.same (same_upd n))⟩
theorem drow {z : Addr} {H : Hp} {p : Addr} {vs : List V} {ds : List PyData} (n : H p = none) (h : DtAll z H vs ds) : Same H (upd H p (.lst vs)) ∧ DtAll z (upd H p (.lst vs)) vs ds ∧ (upd H p (.lst vs)) p = some (.lst vs) :=
  ⟨same_upd n, h.same (same_upd n), upd_same⟩
theorem DtAll.mem {z : Addr} {H : Hp} : ∀ {vs : List V} {ds : List PyData} {v : V}, DtAll z H vs ds → v ∈ vs → ∃ d, d ∈ ds ∧ Dt z H v d
  | _, _, _, .cons (d := d) h r, e => by
    rcases List.mem_cons.mp e with rfl | e
    · exact ⟨d, List.mem_cons_self, h⟩
    · obtain ⟨d', h1, h2⟩ := DtAll.mem r e
      exact ⟨d', List.mem_cons_of_mem _ h1, h2⟩
def tagD : PyData → String
  | .none => "NoneType"
  | .bool _ => "bool"
  | .int _ => "int"
  | .str _ => "str"
  | .list _ => "list"
  | .tuple _ => "tuple"
  | .dict _ => "dict"
theorem Dt.ty {K : PySem.W.Frag} {z : Addr} {H : Hp} {v : V} {d : PyData} (h : Dt z H v d) : TyOf K H v (.type (tagD d)) := by
  cases h with
  | non => exact .non
  | bl b => exact .bl b
  | int i _ => exact .int i
  | str x _ => exact .str x
  | lst h _ _ => exact .lst h
  | tup h _ => exact .tup h
def isTup : PyData → Bool
  | .tuple _ => true
  | _ => false
def isTxt : PyData → Bool
  | .str _ => true
  | _ => false
def isInt : PyData → Bool
  | .int _ => true
  | _ => false
theorem kitTup {d : PyData} : kitB (tagD d) "tuple" = some (isTup d) := by cases d <;> rfl
theorem kitTxt {d : PyData} : kitB (tagD d) "str" = some (isTxt d) := by cases d <;> rfl
theorem Dt.split {z : Addr} {H : Hp} {v : V} {d : PyData} (h : Dt z H v d) : isTup d = false ∨ ∃ a xs ds, v = .ref a ∧ d = .tuple ds ∧ H a = some (.tup xs) ∧ DtAll z H xs ds := by
  cases h with
  | tup h1 h2 => exact .inr ⟨_, _, _, rfl, rfl, h1, h2⟩
  | non => exact .inl rfl
  | bl b => exact .inl rfl
  | int i _ => exact .inl rfl
  | str x _ => exact .inl rfl
  | lst h _ _ => exact .inl rfl
/-! ### what is a name, a fraction, a tie -/
def nameD : PyData → Bool
  | .str x => nameB x.cps.toList
  | _ => false
def ratD : PyData → Bool
  | .tuple [.int t, .int u] => decide (1 ≤ u) && decide (Int.gcd t u = 1)
  | _ => false
def nonz : PyData → Bool
  | .tuple (.int t :: _) => decide (t ≠ 0)
  | _ => false
def termD : PyData → Bool
  | .tuple [n, r] => nameD n && ratD r && nonz r
  | _ => false
def ltD : PyData → PyData → Bool
  | .tuple (.str x :: _), .tuple (.str y :: _) => decide (x.cps.toList < y.cps.toList)
  | _, _ => false
def termsD : PyData → Bool
  | .tuple [s] => termD s
  | .tuple [s, t] => termD s && termD t && ltD s t
  | _ => false
def tieD : PyData → Bool
  | .tuple [t, b] => termsD t && ratD b
  | _ => false
mutual
def noL : PyData → Bool
  | .list _ => false
  | .dict _ => false
  | .tuple ds => noLs ds
  | _ => true
def noLs : List PyData → Bool
  | [] => true
  | d :: ds => noL d && noLs ds
end
/-- tuples stay -/
def TT (H H' : Hp) : Prop := ∀ p xs, H p = some (.tup xs) → H' p = some (.tup xs)
theorem TT.of {H H' : Hp} (s : Same H H') : TT H H' := fun p _ e => s p _ e
theorem TT.but {a c : Addr} {H H' : Hp} (hF : FeedOk H a c) (b : But a H H') : TT H H' := fun p xs e => by
  obtain ⟨ns, k, big, mark, ha, _⟩ := hF
  exact b p _ (ne_of e ha (by intro z; cases z)) e
theorem TT.upd {H : Hp} {D : Addr} {ys zs : List V} (hD : H D = some (.lst ys)) : TT H (L2.upd H D (.lst zs)) := fun p xs e => by
  rw [upd_ne (ne_of e hD (by intro z; cases z))]
  exact e
theorem TT.trans {H H1 H2 : Hp} (h : TT H H1) (k : TT H1 H2) : TT H H2 := fun p xs e => k p xs (h p xs e)
mutual
theorem Dt.tups {z z' : Addr} {H H' : Hp} (s : TT H H') : ∀ (d : PyData) (v : V), noL d = true → Dt z H v d → Dt z' H' v d
  | .none, _, _, h => by cases h; exact .non
  | .bool _, _, _, h => by cases h; exact .bl _
  | .int _, _, _, h => by
    cases h with
    | int _ hb => exact .int _ hb
  | .str _, _, _, h => by
    cases h with
    | str _ hx => exact .str _ hx
  | .list ds, _, n, h => by
    unfold noL at n
    cases n
  | .tuple ds, _, n, h => by
    unfold noL at n
    cases h with
    | tup h1 h2 => exact .tup (s _ _ h1) (DtAll.tups s ds _ n h2)
  | .dict _, _, n, h => by cases h
theorem DtAll.tups {z z' : Addr} {H H' : Hp} (s : TT H H') : ∀ (ds : List PyData) (vs : List V), noLs ds = true → DtAll z H vs ds → DtAll z' H' vs ds
  | [], _, _, h => by cases h; exact .nil
  | d :: ds, _, n, h => by
    unfold noLs at n
    rw [Bool.and_eq_true] at n
    cases h with
    | cons h1 h2 => exact .cons (Dt.tups s d _ n.1 h1) (DtAll.tups s ds _ n.2 h2)
end
theorem DtAll.snoc {z : Addr} {H : Hp} : ∀ {vs : List V} {ds : List PyData} {v : V} {d : PyData}, DtAll z H vs ds → Dt z H v d → DtAll z H (vs ++ [v]) (ds ++ [d])
  | _, _, _, _, .nil, k => .cons k .nil
  | _, _, _, _, .cons h r, k => .cons h (DtAll.snoc r k)
theorem ratD_inv {d : PyData} (h : ratD d = true) : ∃ t u, d = .tuple [.int t, .int u] := by
  unfold ratD at h
  split at h
  · exact ⟨_, _, rfl⟩
  · cases h
theorem DtAll.at {z : Addr} {H : Hp} : ∀ {vs : List V} {ds : List PyData} (i : Nat) {x : V}, DtAll z H vs ds → vs[i]? = some x → ∃ d, ds[i]? = some d ∧ Dt z H x d
  | _, _, 0, _, .cons h _, e => ⟨_, rfl, by cases e; exact h⟩
  | _, _, i + 1, _, .cons _ h, e => DtAll.at i h e
def smallR : PyData → Bool
  | .tuple [.int t, .int u] => decide (t.natAbs ≤ 5 ∧ u.natAbs ≤ 3)
  | _ => false
def okR (r : PyData) : Prop := ratD r = true ∧ nonz r = true ∧ smallR r = true
theorem okR.noL {r : PyData} (h : okR r) : noL r = true := by
  obtain ⟨t, u, rfl⟩ := ratD_inv h.1
  rfl
abbrev trm1 (t : Str × PyData) : PyData := .tuple [.str t.1, t.2]
theorem noLs_trms : ∀ {ts : List (Str × PyData)}, (∀ t ∈ ts, okR t.2) → noLs (ts.map trm1) = true
  | [], _ => rfl
  | t :: ts, h => by
    have h1 := (h t List.mem_cons_self).noL
    have h2 := noLs_trms fun u hu => h u (List.mem_cons_of_mem _ hu)
    show (((true && (noL t.2 && true)) && noLs (ts.map trm1)) = true)
    rw [h1, h2]
    rfl
/-- terms: names and rates -/
abbrev trmD (ts : List (Str × PyData)) : PyData := .tuple (ts.map fun t => .tuple [.str t.1, t.2])
theorem tie_inv {z : Addr} {H : Hp} {v : V} {dd : List PyData} {b : PyData} (hv : Dt z H v (.tuple [.tuple dd, b])) : ∃ p t y xs, v = .ref p ∧ H p = some (.tup [.ref t, y]) ∧ H t = some (.tup xs) ∧ DtAll z H xs dd ∧ Dt z H y b := by
  match v, hv with
  | _, .tup hp (.cons (.tup ht hts) (.cons hb .nil)) => exact ⟨_, _, _, _, rfl, hp, ht, hts, hb⟩
theorem trm_inv {z : Addr} {H : Hp} {xs : List V} {n : Str} {r : PyData} {ds : List PyData} (h : DtAll z H xs (.tuple [.str n, r] :: ds)) : ∃ e rv xs', xs = .ref e :: xs' ∧ H e = some (.tup [.str n, rv]) ∧ Dt z H rv r := by
  match xs, h with
  | _, .cons (.tup he (.cons (.str _ _) (.cons hr .nil))) _ => exact ⟨_, _, _, rfl, he, hr⟩
/-! ### names in order -/
theorem S_of (x : Str) : SX.S x.cps.toList = x := by
  cases x
  rfl
theorem lt_tri : ∀ (x y : List Nat), ltCps y x = false → x ≠ y → ltCps x y = true
  | [], [], _, h => absurd rfl h
  | [], _ :: _, _, _ => rfl
  | _ :: _, [], h, _ => by cases h
  | a :: r, b :: t, h, n => by
    unfold ltCps at h ⊢
    rw [Bool.or_eq_false_iff, decide_eq_false_iff_not, Bool.and_eq_false_iff] at h
    rw [Bool.or_eq_true, decide_eq_true_eq, Bool.and_eq_true, beq_iff_eq]
    by_cases e : a = b
    · subst e
      refine .inr ⟨rfl, lt_tri r t ?_ fun z => n (by rw [z])⟩
      rcases h.2 with h | h
      · simp at h
      · exact h
    · exact .inl (by omega)
theorem sorted_two {x y : Str} (h : sortedS [x, y] = true) (n : x ≠ y) : decide (x.cps.toList < y.cps.toList) = true := by
  have h : (!ltCps y.cps.toList x.cps.toList && true) = true := h
  rw [Bool.and_true, Bool.not_eq_true'] at h
  rw [lt_meets]
  refine lt_tri _ _ h fun z => n ?_
  rw [← S_of x, ← S_of y, z]
theorem S_list (a : List Nat) : (SX.S a).cps.toList = a := by simp [SX.S]
/-! ### texts of fractions: the plain mathematics -/
abbrev dig (c : Nat) : Bool := decide (48 ≤ c) && decide (c ≤ 57)
def isD (a : List Nat) : Bool := !a.isEmpty && a.all dig
def bodyM : List Nat → Bool
  | 45 :: _ => true
  | _ => false
def bodyL : List Nat → List Nat
  | 45 :: r => r
  | a => a
def cutL (a : List Nat) : List Nat × Bool × List Nat := match TL.par [47] [] a with
  | some (p, q) => (p, true, q)
  | none => (a, false, [])
def txtL (n d : Int) : List Nat := (if n < 0 then [45] else []) ++ (TL.numL n.natAbs ++ (if d = 1 then [] else 47 :: TL.numL d.natAbs))
def progN (t : List Nat) : Int := if bodyM t then -((NumText.digitsVal (cutL (bodyL t)).1 : Nat) : Int) else (NumText.digitsVal (cutL (bodyL t)).1 : Nat)
def progD (t : List Nat) : Int := if (cutL (bodyL t)).2.1 then ((NumText.digitsVal (cutL (bodyL t)).2.2 : Nat) : Int) else 1
def progR (t : List Nat) : Option (Int × Int) :=
  if !isD (cutL (bodyL t)).1 || ((cutL (bodyL t)).2.1 && !isD (cutL (bodyL t)).2.2) then none
  else if progD t = 0 then none
  else if txtL (lowT (progN t) (progD t)) (lowD (progN t) (progD t)) = t then some (lowT (progN t) (progD t), lowD (progN t) (progD t)) else none
def goodW (p : List Nat) : Bool := isD p && !(decide (1 < p.length) && p.head? == some 48)
def lawR (t : List Nat) : Option (Int × Int) :=
  if !goodW (cutL (bodyL t)).1 || ((cutL (bodyL t)).2.1 && !goodW (cutL (bodyL t)).2.2) then none
  else if ((cutL (bodyL t)).2.1 = true ∧ progD t < 2 ∨ Int.gcd (progN t) (progD t) ≠ 1) ∨ bodyM t = true ∧ progN t = 0 then none
  else some (progN t, progD t)
theorem gcd_low {u v : Int} (h : v ≠ 0) : Int.gcd (lowT u v) (lowD u v) = 1 := by
  have e1 := lowT_mul (u := u) h
  have e2 := lowD_mul (u := u) h
  have g0 := gcd_pos (u := u) h
  have e : Int.gcd u v = (lowG u v).natAbs * Int.gcd (lowT u v) (lowD u v) := by
    rw [← Int.gcd_mul_left, ← e1, ← e2]
  have hg : (lowG u v).natAbs = Int.gcd u v := by
    unfold lowG
    split <;> omega
  rw [hg] at e
  generalize Int.gcd (lowT u v) (lowD u v) = m at e
  generalize Int.gcd u v = g at e g0
  have : g * 1 = g * m := by rw [Nat.mul_one]; exact e
  exact (Nat.eq_of_mul_eq_mul_left g0 this).symm
theorem low_one {u v : Int} (h : 0 < v) (g : Int.gcd u v = 1) : lowT u v = u ∧ lowD u v = v := by
  have hG : lowG u v = 1 := by
    unfold lowG
    rw [if_neg (by omega), g]
    rfl
  unfold lowT lowD
  rw [hG]
  exact ⟨Int.fdiv_one u, Int.fdiv_one v⟩
theorem all_dig {a : List Nat} : a.all dig = true ↔ NumText.AllDigits a := by
  rw [List.all_eq_true]
  constructor
  · intro h c hc
    have z := h c hc
    unfold dig at z
    rw [Bool.and_eq_true, decide_eq_true_eq, decide_eq_true_eq] at z
    exact z
  · intro h c hc
    have z := h c hc
    unfold dig
    rw [Bool.and_eq_true, decide_eq_true_eq, decide_eq_true_eq]
    exact z
theorem isD_num (n : Nat) : isD (TL.numL n) = true := by
  unfold isD
  rw [Bool.and_eq_true]
  refine ⟨?_, all_dig.mpr (TL.numL_digits n)⟩
  have h := TL.numL_ne n
  cases e : TL.numL n with
  | nil => exact absurd e h
  | cons c r => rfl
theorem isD_iff {a : List Nat} : isD a = true ↔ a ≠ [] ∧ NumText.AllDigits a := by
  unfold isD
  rw [Bool.and_eq_true, all_dig]
  cases a with
  | nil => simp
  | cons c r => simp
theorem nat_char {c : Nat} (h : 48 ≤ c ∧ c ≤ 57) : (Char.ofNat c).toNat = c := by
  have : ∀ c : Nat, c ≤ 57 → 48 ≤ c → (Char.ofNat c).toNat = c := by decide
  exact this c h.2 h.1
theorem num_good {p : List Nat} (h : goodW p = true) : TL.numL (NumText.digitsVal p) = p := by
  unfold goodW at h
  rw [Bool.and_eq_true, isD_iff] at h
  obtain ⟨⟨h1, h2⟩, h3⟩ := h
  have back : ∀ l : List Nat, NumText.AllDigits l → (l.map Char.ofNat).map Char.toNat = l := fun l hl => by
    rw [List.map_map]
    conv => rhs; rw [← List.map_id l]
    exact List.map_congr_left fun c hc => nat_char (hl c hc)
  unfold TL.numL
  rw [NumText.toDigits_all p h2]
  cases p with
  | nil => exact absurd rfl h1
  | cons c r =>
    by_cases e : c = 48
    · subst e
      cases r with
      | nil => rfl
      | cons d r =>
        simp at h3
    · rw [List.dropWhile_cons, if_neg (by rw [beq_iff_eq]; exact e)]
      exact back (c :: r) h2
theorem numL_zero : TL.numL 0 = [48] := TL.numL_lt (by decide)
theorem numL_head {n : Nat} (h : 0 < n) : ∀ c r, TL.numL n = c :: r → 49 ≤ c := by
  induction n using Nat.strongRecOn with
  | _ n ih =>
    intro c r e
    by_cases hn : n < 10
    · rw [TL.numL_lt hn] at e
      injection e with e1 e2
      omega
    · rw [TL.numL_step (by omega)] at e
      cases e2 : TL.numL (n / 10) with
      | nil => exact absurd e2 (TL.numL_ne _)
      | cons c' r' =>
        rw [e2, List.cons_append] at e
        injection e with e3 e4
        have := ih (n / 10) (by omega) (by omega) c' r' e2
        omega
theorem good_num (n : Nat) : goodW (TL.numL n) = true := by
  unfold goodW
  rw [Bool.and_eq_true]
  refine ⟨isD_num n, ?_⟩
  by_cases h : n = 0
  · subst h
    rw [numL_zero]
    rfl
  · cases e : TL.numL n with
    | nil => exact absurd e (TL.numL_ne n)
    | cons c r =>
      have := numL_head (Nat.pos_of_ne_zero h) c r e
      have : (List.head? (c :: r) == some 48) = false := by
        show (some c == some 48) = false
        rw [beq_eq_false_iff_ne]
        intro z
        injection z with z
        omega
      rw [this]
      simp
theorem body_at (t : List Nat) : t = (if bodyM t then [45] else []) ++ bodyL t := by
  unfold bodyM bodyL
  split <;> simp_all
theorem body_minus (b : List Nat) : bodyM (45 :: b) = true ∧ bodyL (45 :: b) = b := ⟨rfl, rfl⟩
theorem body_num (n : Nat) (r : List Nat) : bodyM (TL.numL n ++ r) = false ∧ bodyL (TL.numL n ++ r) = TL.numL n ++ r := by
  cases e : TL.numL n with
  | nil => exact absurd e (TL.numL_ne n)
  | cons c l =>
    have hc : c ≠ 45 := by
      intro z
      have := TL.numL_free (n := n) (s := 45) (.inl (by decide))
      rw [e, z] at this
      exact this List.mem_cons_self
    rw [List.cons_append]
    unfold bodyM bodyL
    constructor
    · split
      · rename_i h
        injection h with h1 h2
        exact absurd h1 hc
      · rfl
    · split
      · rename_i h
        injection h with h1 h2
        exact absurd h1 hc
      · rfl
theorem cut_at (a : List Nat) : a = (cutL a).1 ++ (if (cutL a).2.1 then 47 :: (cutL a).2.2 else []) := by
  by_cases h : 47 ∈ a
  · obtain ⟨p, q, e, hp⟩ := List.eq_append_cons_of_mem h
    subst e
    have := SX.par_head (sep := []) q hp
    unfold cutL
    rw [show p ++ 47 :: q = p ++ (47 :: [] ++ q) from rfl, this]
    rfl
  · have := SX.par_head_none (c := 47) (sep := []) h
    unfold cutL
    rw [this]
    simp
theorem cut_num (n : Nat) : cutL (TL.numL n) = (TL.numL n, false, []) := by
  have := SX.par_head_none (c := 47) (sep := []) (p := TL.numL n) (TL.numL_free (.inl (by decide)))
  unfold cutL
  rw [this]
theorem cut_num2 (n : Nat) (q : List Nat) : cutL (TL.numL n ++ 47 :: q) = (TL.numL n, true, q) := by
  have := SX.par_head (c := 47) (sep := []) (p := TL.numL n) q (TL.numL_free (.inl (by decide)))
  unfold cutL
  rw [show TL.numL n ++ 47 :: q = TL.numL n ++ (47 :: [] ++ q) from rfl, this]
theorem parse_txt (n d : Int) (hd : 0 < d) : bodyM (txtL n d) = decide (n < 0) ∧ (cutL (bodyL (txtL n d))).1 = TL.numL n.natAbs ∧ (cutL (bodyL (txtL n d))).2.1 = decide (d ≠ 1) ∧ (d ≠ 1 → (cutL (bodyL (txtL n d))).2.2 = TL.numL d.natAbs) := by
  have hb : bodyM (txtL n d) = decide (n < 0) ∧ bodyL (txtL n d) = TL.numL n.natAbs ++ (if d = 1 then [] else 47 :: TL.numL d.natAbs) := by
    unfold txtL
    by_cases h : n < 0
    · rw [if_pos h, decide_eq_true h]
      exact body_minus _
    · rw [if_neg h, decide_eq_false h, List.nil_append]
      exact body_num _ _
  rw [hb.2]
  refine ⟨hb.1, ?_⟩
  by_cases h : d = 1
  · rw [if_pos h, List.append_nil, cut_num]
    exact ⟨rfl, (decide_eq_false (fun z => z h)).symm, fun z => absurd h z⟩
  · rw [if_neg h, cut_num2]
    exact ⟨rfl, (decide_eq_true h).symm, fun _ => rfl⟩
/-- the text's parts are those of the fraction -/
theorem parse_val (n d : Int) (hd : 0 < d) : progN (txtL n d) = n ∧ progD (txtL n d) = d := by
  obtain ⟨h1, h2, h3, h4⟩ := parse_txt n d hd
  unfold progN progD
  rw [h1, h2, h3, TL.numL_val]
  constructor
  · by_cases h : n < 0
    · rw [decide_eq_true h, if_pos rfl]
      omega
    · rw [decide_eq_false h, if_neg (by decide)]
      omega
  · by_cases h : d = 1
    · rw [decide_eq_false (fun z => z h), if_neg (by decide), h]
    · rw [decide_eq_true h, if_pos rfl, h4 h, TL.numL_val]
      omega
theorem law_txt (n d : Int) (hd : 0 < d) (g : Int.gcd n d = 1) : lawR (txtL n d) = some (n, d) := by
  obtain ⟨h1, h2, h3, h4⟩ := parse_txt n d hd
  obtain ⟨e1, e2⟩ := parse_val n d hd
  unfold lawR
  rw [e1, e2, h1, h2, h3, good_num]
  have c1 : ((!true) || (decide (d ≠ 1) && !goodW (cutL (bodyL (txtL n d))).2.2)) = false := by
    by_cases h : d = 1
    · rw [decide_eq_false (fun z => z h)]
      rfl
    · rw [h4 h, good_num]
      simp
  rw [c1, if_neg (by decide), if_neg ?_]
  rintro ((⟨z1, z2⟩ | z) | ⟨z1, z2⟩)
  · have := of_decide_eq_true z1
    omega
  · exact z g
  · have := of_decide_eq_true z1
    omega
theorem prog_txt (n d : Int) (hd : 0 < d) (g : Int.gcd n d = 1) : progR (txtL n d) = some (n, d) := by
  obtain ⟨h1, h2, h3, h4⟩ := parse_txt n d hd
  obtain ⟨e1, e2⟩ := parse_val n d hd
  obtain ⟨l1, l2⟩ := low_one hd g
  unfold progR
  rw [e1, e2, h2, h3, isD_num, l1, l2]
  have c1 : ((!true) || (decide (d ≠ 1) && !isD (cutL (bodyL (txtL n d))).2.2)) = false := by
    by_cases h : d = 1
    · rw [decide_eq_false (fun z => z h)]
      rfl
    · rw [h4 h, isD_num]
      simp
  rw [c1, if_neg (by decide), if_neg (by omega), if_pos rfl]
theorem prog_some {t : List Nat} {f : Int × Int} (h : progR t = some f) : t = txtL f.1 f.2 ∧ 0 < f.2 ∧ Int.gcd f.1 f.2 = 1 := by
  unfold progR at h
  split at h
  · cases h
  · split at h
    · cases h
    · rename_i h0
      split at h
      · rename_i e
        cases h
        exact ⟨e.symm, lowD_pos h0, gcd_low h0⟩
      · cases h
theorem law_some {t : List Nat} {f : Int × Int} (h : lawR t = some f) : t = txtL f.1 f.2 ∧ 0 < f.2 ∧ Int.gcd f.1 f.2 = 1 := by
  unfold lawR at h
  split at h
  · cases h
  · rename_i h1
    split at h
    · cases h
    · rename_i h2
      cases h
      have k1 : goodW (cutL (bodyL t)).1 = true := by
        cases e : goodW (cutL (bodyL t)).1
        · rw [e] at h1
          exact absurd rfl h1
        · rfl
      have k2 : (cutL (bodyL t)).2.1 = true → goodW (cutL (bodyL t)).2.2 = true := fun z => by
        cases e : goodW (cutL (bodyL t)).2.2
        · rw [e, z, k1] at h1
          exact absurd rfl h1
        · rfl
      have g1 : Int.gcd (progN t) (progD t) = 1 := by
        by_cases z : Int.gcd (progN t) (progD t) = 1
        · exact z
        · exact absurd (.inl (.inr z)) h2
      have d2 : (cutL (bodyL t)).2.1 = true → 2 ≤ progD t := fun z => by
        have : ¬ progD t < 2 := fun y => h2 (.inl (.inl ⟨z, y⟩))
        omega
      have m2 : bodyM t = true → progN t ≠ 0 := fun z y => h2 (.inr ⟨z, y⟩)
      have hd : 0 < progD t := by
        cases e : (cutL (bodyL t)).2.1
        · unfold progD
          rw [e, if_neg (by decide)]
          omega
        · have := d2 e
          omega
      refine ⟨?_, hd, g1⟩
      have p1 := num_good k1
      show t = txtL (progN t) (progD t)
      have sg : (if progN t < 0 then [45] else []) = (if bodyM t then [45] else ([] : List Nat)) := by
        cases e : bodyM t
        · have : ¬ progN t < 0 := by
            unfold progN
            rw [e]
            simp
          rw [if_neg this]
          rfl
        · have y := m2 e
          have : progN t < 0 := by
            unfold progN at y ⊢
            rw [e, if_pos rfl] at y ⊢
            omega
          rw [if_pos this]
          rfl
      have an : (progN t).natAbs = NumText.digitsVal (cutL (bodyL t)).1 := by
        unfold progN
        split <;> omega
      have sd : (if progD t = 1 then [] else 47 :: TL.numL (progD t).natAbs) = (if (cutL (bodyL t)).2.1 then 47 :: (cutL (bodyL t)).2.2 else []) := by
        cases e : (cutL (bodyL t)).2.1
        · have : progD t = 1 := by
            unfold progD
            rw [e]
            rfl
          rw [if_pos this]
          rfl
        · have y := d2 e
          have z : (progD t).natAbs = NumText.digitsVal (cutL (bodyL t)).2.2 := by
            unfold progD
            rw [e, if_pos rfl]
            omega
          rw [if_neg (by omega), z, num_good (k2 e)]
          rfl
      unfold txtL
      rw [sg, an, p1, sd, ← cut_at, ← body_at]
theorem prog_law (t : List Nat) : progR t = lawR t := by
  cases h : progR t with
  | some f =>
    obtain ⟨e, hd, g⟩ := prog_some h
    rw [e, law_txt f.1 f.2 hd g]
  | none =>
    cases h2 : lawR t with
    | none => rfl
    | some f =>
      obtain ⟨e, hd, g⟩ := law_some h2
      rw [e, prog_txt f.1 f.2 hd g] at h
      cases h
/-! ### the texts' own words on lists of signs -/
theorem dash : (Str.ofString "-" : Str) = SX.S [45] := by decide +kernel
theorem stroke : (Str.ofString "/" : Str) = SX.S [47] := by decide +kernel
theorem nought : (Str.ofString "0" : Str) = SX.S [48] := by decide +kernel
theorem emptyS : (Str.ofString "" : Str) = SX.S [] := by decide +kernel
theorem uni_dig : ∀ c : Nat, c < 128 → Unicode.isDigit c = dig c := by decide +kernel
theorem ascii_dig (a : List Nat) : (Txt.isascii (SX.S a) && Txt.isdigit (SX.S a)) = isD a := by
  have e1 : Txt.isascii (SX.S a) = a.all (fun c => decide (c < 128)) := by
    unfold Txt.isascii
    rw [← Array.all_toList]
  have e2 : Txt.isdigit (SX.S a) = (!a.isEmpty && a.all Unicode.isDigit) := by
    unfold Txt.isdigit
    rw [← Array.all_toList, SX.S_len]
    cases a <;> rfl
  rw [e1, e2]
  unfold isD
  cases h : a.all (fun c => decide (c < 128))
  · cases h2 : a.all dig
    · simp
    · exfalso
      have h3 := all_dig.mp h2
      have : a.all (fun c => decide (c < 128)) = true := List.all_eq_true.mpr fun c hc => decide_eq_true (by have := h3 c hc; omega)
      rw [h] at this
      cases this
  · have h3 := List.all_eq_true.mp h
    have : a.all Unicode.isDigit = a.all dig := by
      rw [Bool.eq_iff_iff, List.all_eq_true, List.all_eq_true]
      exact ⟨fun q c hc => by rw [← uni_dig c (of_decide_eq_true (h3 c hc))]; exact q c hc, fun q c hc => by rw [uni_dig c (of_decide_eq_true (h3 c hc))]; exact q c hc⟩
    rw [this]
    rfl
theorem sub_one (c : Nat) (r : List Nat) : PySem.Builtin.Str.subAt (SX.S (c :: r)) (SX.S [45]) 0 = decide (c = 45) := by
  have e : (SX.S (c :: r)).cps.extract 0 (0 + (SX.S [45]).length) = [c].toArray := by
    rw [SX.S_len]
    simp [List.extract]
  show ((SX.S (c :: r)).cps.extract 0 (0 + (SX.S [45]).length) == (SX.S [45]).cps) = _
  rw [e]
  by_cases h : c = 45
  · subst h
    rfl
  · rw [decide_eq_false h, beq_eq_false_iff_ne]
    intro z
    exact h (List.cons.inj (congrArg Array.toList z)).1
theorem starts_minus (a : List Nat) : Txt.startswith (SX.S a) (SX.S [45]) = bodyM a := by
  cases a with
  | nil => rfl
  | cons c r =>
    unfold Txt.startswith
    rw [sub_one, SX.S_len, SX.S_len]
    have : decide (0 + [45].length ≤ (c :: r).length) = true := decide_eq_true (by simp)
    rw [this, Bool.true_and]
    unfold bodyM
    split
    · rename_i h
      injection h with h1 h2
      rw [h1]
      rfl
    · rename_i h
      exact decide_eq_false fun z => h r (by rw [z])
theorem rem_minus (a : List Nat) : Txt.removeprefix (SX.S a) (SX.S [45]) = SX.S (bodyL a) := by
  have e := eq_of_beq (PyProof.Rows.removeprefix_closes (SX.S a) (SX.S [45]))
  have e2 := starts_minus a
  unfold Txt.startswith at e2
  rw [e2] at e
  rw [e, SX.S_len, SX.S_len]
  cases a with
  | nil => rfl
  | cons c r =>
    cases h : bodyM (c :: r)
    · rw [if_neg (by decide)]
      unfold bodyM at h
      unfold bodyL
      split at h
      · cases h
      · rfl
    · rw [if_pos rfl]
      unfold bodyM at h
      split at h
      · rename_i h1
        injection h1 with h1 h2
        subst h1 h2
        unfold bodyL
        refine TL.ext_tl ?_
        show (((45 :: r).drop ((([45] : List Nat).length : Nat) : Int).toNat).take ((((45 :: r).length : Nat) : Int) - ((([45] : List Nat).length : Nat) : Int)).toNat) = r
        have : ((([45] : List Nat).length : Nat) : Int).toNat = 1 := rfl
        rw [this, List.drop_one, List.tail_cons]
        exact List.take_of_length_le (by simp only [List.length_cons, List.length_nil]; omega)
      · cases h
theorem cut_S (a : List Nat) : Txt.partition (SX.S a) (SX.S [47]) = (SX.S (cutL a).1, SX.S (if (cutL a).2.1 then [47] else []), SX.S (cutL a).2.2) := by
  unfold cutL
  cases h : TL.par [47] [] a with
  | none => exact SX.partition_none (by simp) h
  | some pq =>
    obtain ⟨p, q⟩ := pq
    exact SX.partition_some (by simp) h
section
variable {P : Program} {w : World} {K : PySem.W.Frag} {mg : Str → Option Value} {base : Heap} {fa : Nat → Addr} {fd : Nat → FuncData}
/-! ### ParseError; texts of numbers -/
theorem scPE : FnScope ["self", "at"] ["self", "at"] (defScope (inClass (topS 9) 0)) := ⟨rfl, rfl, rfl, by decide +kernel, rfl, by decide +kernel, by decide +kernel⟩
theorem ok_ParseError (T : Txt K mg fa fd) : FnOk P w K mg base CX0 1 (fa 1009) (fd 1009) ["self", "at"] (spInit1 K "at" "ParseError") := by
  refine T.IParseError.ok scPE (fun vs H Q E h => ?_) (fun cdv A outer s H vs Q E hr h => ?_)
  · obtain ⟨a, C, v, rfl, _⟩ := h
    rfl
  · obtain ⟨a, C, v, rfl, hC, h1, h2, ha, q⟩ := h
    refine ⟨_, pss_cons (ps_ost (pv 0) (pv 1)) (pss_one (ps_ost (pv 0) pe_str)), ?_⟩
    refine ⟨_, rfl, _, rfl, a, C, rfl, hC, h1, .inl ⟨ha, fun dx nd ne => ?_⟩⟩
    refine ⟨_, rfl, a, C, rfl, hC, h2, .inr ⟨dx, _, upd_same, ?_, by show 1 ≤ 900; decide, q dx nd ne⟩⟩
    rw [upd_ne ne, upd_same]
theorem small_line {n : Nat} (h : n ≤ 1000) : n ≤ sizeLine := Nat.le_trans h (Nat.le_of_lt (small1000 (Nat.le_refl _)))
def spIsD : Sp := fun vs H Q _ => ∃ a : List Nat, vs = [.str (SX.S a)] ∧ Q (.bl (isD a)) H
theorem ok_p_is_digits (T : Txt K mg fa fd) : FnOk P w K mg base CX0 1 (fa 29) (fd 29) ["text"] spIsD := by
  refine T.F_p_is_digits.ok sc_p_is_digits (fun vs H Q E h => ?_) (fun cdv A outer s H vs Q E hr h => ?_)
  · obtain ⟨a, rfl, _⟩ := h
    rfl
  · obtain ⟨a, rfl, q⟩ := h
    refine ⟨_, (pss_one (ps_ret (pe_and (pe_m0 PySem.F.slot_str_isascii PySem.F.type_str_isascii mt_isascii (pv 0) (by rfl) (by rfl)) (pe_one (pe_m0 PySem.F.slot_str_isdigit PySem.F.type_str_isdigit mt_isdigit (pv 0) (by rfl) (by rfl)))))), ?_⟩
    rw [← ascii_dig] at q
    refine ⟨_, rfl, ⟨_, rfl⟩, _, rfl, rfl, trivial, ?_⟩
    cases h : Txt.isascii (SX.S a)
    · rw [h] at q
      exact ⟨_, rfl, q⟩
    · rw [h] at q
      exact ⟨_, rfl, _, rfl, ⟨_, rfl⟩, _, rfl, rfl, trivial, q⟩
def intL (n : Int) : List Nat := (if n < 0 then [45] else []) ++ TL.numL n.natAbs
theorem abs_nat (z : Int) : (if z < 0 then -z else z) = (z.natAbs : Int) := by split <;> omega
theorem log_of {n : Nat} (h : n < 10 ^ 62) : n.log2 < 1920 := by
  by_cases h0 : n = 0
  · subst h0
    decide
  · rw [Nat.log2_lt h0]
    exact Nat.lt_trans h (by decide +kernel)
def spNumT : Sp := fun vs H Q _ => ∃ n : Int, vs = [.int n] ∧ n.natAbs < 10 ^ 62 ∧ ∀ H', Same H H' → Q (.str (SX.S (intL n))) H'
theorem ok_p_number_text (T : Txt K mg fa fd) : FnOk P w K mg base CX0 1 (fa 30) (fd 30) ["number"] spNumT := by
  refine T.F_p_number_text.ok sc_p_number_text (fun vs H Q E h => ?_) (fun cdv A outer s H vs Q E hr h => ?_)
  · obtain ⟨a, rfl, _⟩ := h
    rfl
  · obtain ⟨n, rfl, hn, q⟩ := h
    refine ⟨_, (pss_cons (ps_set (i := 1) sc_p_number_text.nd rfl (.inl rfl) (pe_callB call_abs (by rfl) T.m_abs PyProof.Rows.boot_abs (pa_cons (pv 0) pa_nil)))
      (pss_cons (ps_set (i := 2) sc_p_number_text.nd rfl (.inl rfl) (pe_lst pa_nil))
      (pss_cons (ps_while PassesOwn.never (pt_cmpR op_ge (pv 1) (pe_op op_pow pe_int pe_int) (nomark _)) (pss_cons ps_never
      (pss_one ps_never)))
      (pss_cons (ps_expr (pe_bm PySem.F.plainAttrs_list PySem.F.slot_list_append PySem.F.type_list_append mt_append (pv 2) (pa_cons (pe_callTy call_str_int (by rfl) T.m_str (by decide +kernel) (pa_cons (pv 1) pa_nil)) pa_nil)))
      (pss_cons (ps_if (pt_cmpR op_lt (pv 0) pe_int (nomark _)) (pss_one (ps_expr (pe_bm PySem.F.plainAttrs_list PySem.F.slot_list_append PySem.F.type_list_append mt_append (pv 2) (pa_cons pe_str pa_nil)))) pss_nil)
      (pss_one (ps_ret (pe_m1 PySem.F.slot_str_join PySem.F.type_str_join mt_join pe_str (pe_revL (pv 2)) (by rfl) (by rfl) (by rfl))))))))), ?_⟩
    refine ⟨_, rfl, _, rfl, Nat.zero_le _, fun p hp => ?_⟩
    refine ⟨fun m σ H1 => σ = [some (.int n), some (.int (n.natAbs : Int)), some (.ref p), none] ∧ H1 = upd H p (.lst []), ⟨0, by rw [← abs_nat]; rfl, rfl⟩, fun m σ H1 hW => ?_⟩
    obtain ⟨rfl, rfl⟩ := hW
    refine ⟨_, rfl, _, _, rfl, rfl, ⟨by decide, by decide, by decide⟩, _, _, rfl, rfl, _, rfl, ite2 (fun e => ?_) (fun e => ?_)⟩
    · exfalso
      have h1 : (10 : Int) ^ 64 ≤ n.natAbs := of_decide_eq_true e
      have h2 : (n.natAbs : Int) < (10 : Int) ^ 62 := by exact_mod_cast hn
      exact absurd (Int.lt_of_lt_of_le h2 (by decide +kernel : (10 : Int) ^ 62 ≤ 10 ^ 64)) (Int.not_lt.mpr h1)
    · refine ⟨_, rfl, .inl ⟨rfl, _, SqL.of upd_same⟩, _, rfl, _, rfl, log_of hn, p, _, _, rfl, rfl, upd_same, small_line (by show 1 ≤ 1000; decide), ?_⟩
      have sm : ∀ {H1 : Hp} (ys : List V), Same H H1 → Same H (upd H1 p (.lst ys)) := fun ys h1 b u e => by
        rw [upd_ne (ne_of_none e hp)]
        exact h1 b u e
      have sn : ∀ {H1 : Hp} {p2 : Addr} {o : HO}, Same H H1 → H1 p2 = none → Same H (upd H1 p2 o) := fun {H1 p2 o} h1 h2 b u e => by
        rw [upd_ne (ne_of_none (h1 b u e) h2)]
        exact h1 b u e
      have s0 : Same H H := fun b u e => e
      have num : ∀ k : Nat, Str.ofString (toString ((k : Nat) : Int)) = SX.S (TL.numL k) := SX.num_S
      have l63 : (TL.numL n.natAbs).length ≤ 62 := TL.numL_len (by decide) hn
      refine ⟨_, rfl, _, _, rfl, rfl, _, rfl, ite2 (fun e => ?_) (fun e => ?_)⟩
      · refine ⟨_, rfl, .inl ⟨rfl, _, SqL.of upd_same⟩, p, _, _, rfl, rfl, upd_same, small_line (by show 2 ≤ 1000; decide), ?_⟩
        refine ⟨⟨_, rfl⟩, _, rfl, p, _, rfl, SqL.of upd_same, fun p2 hp2 => ⟨_, p2, [Str.ofString "-", Str.ofString (toString (n.natAbs : Int))], rfl, rfl, .inl (SqL.of upd_same), ?_, ?_⟩⟩
        · rw [num, dash, emptyS]
          show (SX.S [45]).length + ((SX.S (TL.numL n.natAbs)).length + 0) + 2 * (SX.S []).length ≤ 16777216
          rw [SX.S_len, SX.S_len, SX.S_len]
          show 1 + _ + 2 * 0 ≤ _
          omega
        · have j : Txt.join (Str.ofString "") [Str.ofString "-", Str.ofString (toString (n.natAbs : Int))] = SX.S (intL n) := by
            rw [num, dash, emptyS]
            have := SX.join_S [] [[45], TL.numL n.natAbs]
            refine this.trans ?_
            unfold intL
            rw [if_pos (of_decide_eq_true e)]
            rfl
          have z := q _ (sn (o := .lst [V.str (Str.ofString "-"), V.str (Str.ofString (toString (n.natAbs : Int)))]) (sm ([] ++ [V.str (Str.ofString (toString (n.natAbs : Int)))] ++ [V.str (Str.ofString "-")]) (sm ([] ++ [V.str (Str.ofString (toString (n.natAbs : Int)))]) (sm [] s0))) hp2)
          rw [← j] at z
          exact z
      · refine ⟨⟨_, rfl⟩, _, rfl, p, _, rfl, SqL.of upd_same, fun p2 hp2 => ⟨_, p2, [Str.ofString (toString (n.natAbs : Int))], rfl, rfl, .inl (SqL.of upd_same), ?_, ?_⟩⟩
        · rw [num, emptyS]
          show ((SX.S (TL.numL n.natAbs)).length + 0) + 1 * (SX.S []).length ≤ 16777216
          rw [SX.S_len, SX.S_len]
          show _ + 1 * 0 ≤ _
          omega
        · have j : Txt.join (Str.ofString "") [Str.ofString (toString (n.natAbs : Int))] = SX.S (intL n) := by
            rw [num, emptyS]
            have := SX.join_S [] [TL.numL n.natAbs]
            refine this.trans ?_
            unfold intL
            rw [if_neg (fun y => e (decide_eq_true y))]
            rfl
          have z := q _ (sn (o := .lst [V.str (Str.ofString (toString (n.natAbs : Int)))]) (sm ([] ++ [V.str (Str.ofString (toString (n.natAbs : Int)))]) (sm [] s0)) hp2)
          rw [← j] at z
          exact z
end
section
variable {P : Program} {w : World} {K : PySem.W.Frag} {mg : Str → Option Value} {base : Heap} {fa : Nat → Addr} {fd : Nat → FuncData}
/-! ### InvalidRatio's making; common_divisor; ratio -/
theorem scI : FnScope ["self", "given"] ["self", "given"] (defScope (inClass (topS 3) 0)) := ⟨rfl, rfl, rfl, by decide +kernel, rfl, by decide +kernel, by decide +kernel⟩
theorem ok_InvalidRatio (T : Txt K mg fa fd) : FnOk P w K mg base CX0 1 (fa 1003) (fd 1003) ["self", "given"] (spInit1 K "given" "InvalidRatio") := by
  refine T.IInvalidRatio.ok scI (fun vs H Q E h => ?_) (fun cdv A outer s H vs Q E hr h => ?_)
  · obtain ⟨a, C, v, rfl, _⟩ := h
    rfl
  · obtain ⟨a, C, v, rfl, hC, h1, h2, ha, q⟩ := h
    refine ⟨_, pss_cons (ps_ost (pv 0) (pv 1)) (pss_one (ps_ost (pv 0) pe_str)), ?_⟩
    refine ⟨_, rfl, _, rfl, a, C, rfl, hC, h1, .inl ⟨ha, fun dx nd ne => ?_⟩⟩
    refine ⟨_, rfl, a, C, rfl, hC, h2, .inr ⟨dx, _, upd_same, ?_, by show 1 ≤ 900; decide, q dx nd ne⟩⟩
    rw [upd_ne ne, upd_same]
abbrev Bd (t : Int) : Prop := t.natAbs.log2 < 4096
theorem bits_bd {v : Nat} (h : v.log2 < 4096) : ¬ ((4096 : Int) < ((Builtin.Int.intBits (v : Int) : Nat) : Int)) := by
  unfold Builtin.Int.intBits
  rw [Int.natAbs_natCast]
  split <;> omega
def spDiv : Sp := fun vs H Q _ => ∃ x y : Int, vs = [.int x, .int y] ∧ (Bd x ∨ Bd y) ∧ Q (.int (Int.gcd x y : Nat)) H
theorem ok_p_common_divisor (T : Txt K mg fa fd) : FnOk P w K mg base CX0 1 (fa 19) (fd 19) ["one", "other"] spDiv := by
  refine T.F_p_common_divisor.ok sc_p_common_divisor (fun vs H Q E h => ?_) (fun cdv A outer s H vs Q E hr h => ?_)
  · obtain ⟨x, y, rfl, _⟩ := h
    rfl
  · obtain ⟨x, y, rfl, hb, q⟩ := h
    refine ⟨_, (pss_cons (ps_set (i := 0) sc_p_common_divisor.nd rfl (.inl rfl) (pe_callB call_abs (by rfl) T.m_abs PyProof.Rows.boot_abs (pa_cons (pv 0) pa_nil)))
      (pss_cons (ps_set (i := 1) sc_p_common_divisor.nd rfl (.inl rfl) (pe_callB call_abs (by rfl) T.m_abs PyProof.Rows.boot_abs (pa_cons (pv 1) pa_nil)))
      (C8.pss_cut (ps_if (pt_cmpR op_lt (pv 0) (pv 1) (nomark _)) (pss_one (ps_par (i := 0) (j := 1) (by rfl) sc_p_common_divisor.nd rfl rfl (by decide) rfl rfl (pa_cons (pv 1) (pa_cons (pv 0) pa_nil)) (by rfl))) pss_nil)
      (pss_cons (ps_while PassesOwn.never (pt_cmpR op_gt (pe_bits (pv 1)) (C8.pe_gc (by rfl) T.c_LONG) (nomark _)) (pss_one ps_never))
      (pss_cons (ps_while PassesOwn.never (pt_cmpR op_gt (pv 1) pe_int (nomark _)) (pss_one (ps_par (i := 0) (j := 1) (by rfl) sc_p_common_divisor.nd rfl rfl (by decide) rfl rfl (pa_cons (pv 1) (pa_cons (pe_op op_mod (pv 0) (pv 1)) pa_nil)) (by rfl))))
      (pss_one (ps_ret (pv 0)))))))), ?_⟩
    refine ⟨_, rfl, _, rfl, _, rfl, _, rfl, ?_⟩
    have ab : ∀ z : Int, (if z < 0 then -z else z) = (z.natAbs : Int) := fun z => by split <;> omega
    rw [ab, ab]
    refine ⟨fun σ H1 => H1 = H ∧ ∃ u v : Nat, σ = [some (.int (u : Int)), some (.int (v : Int))] ∧ v.log2 < 4096 ∧ Nat.gcd u v = Int.gcd x y, ?_, fun σ H1 hM => ?_⟩
    · refine ⟨_, rfl, _, rfl, _, _, rfl, rfl, _, rfl, ite2 (fun e => ?_) (fun e => ?_)⟩
      · have lt : (x.natAbs : Int) < (y.natAbs : Int) := of_decide_eq_true e
        refine ⟨_, rfl, _, rfl, _, _, rfl, rfl, y.natAbs, x.natAbs, rfl, ?_, Nat.gcd_comm _ _⟩
        rcases hb with hb | hb
        · exact hb
        · exact log2_mono (by omega) hb
      · have ge : ¬ (x.natAbs : Int) < (y.natAbs : Int) := fun z => e (decide_eq_true z)
        refine ⟨rfl, x.natAbs, y.natAbs, rfl, ?_, rfl⟩
        rcases hb with hb | hb
        · exact log2_mono (by omega) hb
        · exact hb
    obtain ⟨rfl, u0, v0, rfl, hv0, hg0⟩ := hM
    refine ⟨fun m σ H2 => σ = [some (.int (u0 : Int)), some (.int (v0 : Int))] ∧ H2 = H1, ⟨0, rfl, rfl⟩, fun m σ H2 hW => ?_⟩
    obtain ⟨rfl, rfl⟩ := hW
    refine ⟨_, rfl, _, rfl, _, _, rfl, rfl, _, rfl, ite2 (fun e => absurd (of_decide_eq_true e) (bits_bd hv0)) (fun _ => ?_)⟩
    refine ⟨fun m σ H1 => ∃ u v : Nat, m = v ∧ σ = [some (.int (u : Int)), some (.int (v : Int))] ∧ H1 = H2 ∧ Nat.gcd u v = Int.gcd x y, ⟨_, u0, v0, rfl, rfl, rfl, hg0⟩, fun m σ H1 hW => ?_⟩
    obtain ⟨u, v, rfl, rfl, rfl, hg⟩ := hW
    refine ⟨_, rfl, _, _, rfl, rfl, _, rfl, ite2 (fun e => ?_) (fun e => ?_)⟩
    · have hv : 0 < (m : Int) := of_decide_eq_true e
      refine ⟨fun σ' H' => ∃ m', m' < m ∧ ∃ u v : Nat, m' = v ∧ σ' = [some (.int (u : Int)), some (.int (v : Int))] ∧ H' = H1 ∧ Nat.gcd u v = Int.gcd x y, fun σ' H' h => h, ?_⟩
      refine ⟨_, rfl, _, rfl, _, rfl, _, _, rfl, rfl, hv, ?_⟩
      refine ⟨_, _, rfl, u % m, Nat.mod_lt _ (by omega), m, u % m, rfl, rfl, rfl, ?_⟩
      rw [← hg, Nat.gcd_comm m, ← Nat.gcd_rec, Nat.gcd_comm]
    · have hv : m = 0 := by
        have : ¬ 0 < (m : Int) := fun z => e (decide_eq_true z)
        omega
      subst hv
      refine ⟨_, rfl, ?_⟩
      rw [Nat.gcd_zero_right] at hg
      rw [hg]
      exact q
def spRatio (C : Addr) : Sp := fun vs H Q E => ∃ u v : Int, vs = [.int u, .int v] ∧ (v ≠ 0 → v.natAbs.log2 < 4096 ∧ ∀ p, H p = none → Q (.ref p) (upd H p (.tup [.int (lowT u v), .int (lowD u v)]))) ∧
  (v = 0 → ∀ d H', H d = none → Same H H' → H' d = some (.xd [("tag", .str "InvalidRatio"), ("given", .int 0)]) → E (.ref C) (some d) H')
theorem ok_p_ratio (T : Txt K mg fa fd) : FnOk P w K mg base (L2.CX P w) 3 (fa 20) (fd 20) ["top", "under"] (spRatio (fa 3)) := by
  refine T.F_p_ratio.ok sc_p_ratio (fun vs H Q E h => ?_) (fun cdv A outer s H vs Q E hr h => ?_)
  · obtain ⟨x, y, rfl, _⟩ := h
    rfl
  · obtain ⟨u, v, rfl, h1, h0⟩ := h
    refine ⟨_, (pss_cons (ps_if (pt_cmpR op_eq (pv 1) pe_int (nomark _)) (pss_one (ps_raise rfl (takes_of rfl rfl rfl rfl) (pmk_oex T.eInvalidRatio.oex T.eInvalidRatio.iC T.eInvalidRatio.tI (ok_InvalidRatio T) (hr.mono (by decide)) T.bIInvalidRatio .nil pass0 (by rfl) T.eInvalidRatio.gC (pa_cons pe_int pa_nil)))) pss_nil)
      (pss_cons (ps_set (i := 2) sc_p_ratio.nd rfl (.inl rfl) (pe_call (ok_p_common_divisor T) (hr.mono (by decide)) (by rfl) T.g_p_common_divisor T.F_p_common_divisor.kp T.b_p_common_divisor .nil pass0 (pa_cons (pv 0) (pa_cons (pv 1) pa_nil))))
      (C8.pss_cut (ps_if (pt_cmpR op_lt (pv 1) pe_int (nomark _)) (pss_one (ps_set (i := 2) sc_p_ratio.nd rfl (.inl rfl) (pe_un un_neg (pv 2)))) pss_nil)
      (pss_one (ps_ret (pe_tup (pa_cons (pe_op op_fdivG (pv 0) (pv 2)) (pa_cons (pe_op op_fdivG (pv 1) (pv 2)) pa_nil)))))))), ?_⟩
    refine ⟨_, rfl, rfl, _, rfl, ite2 (fun e => ?_) (fun e => ?_)⟩
    · have ev : v = 0 := V.int.inj (of_decide_eq_true e)
      refine ⟨by show 1 ≤ 1000; decide, fun a na => ⟨a, _, .int 0, rfl, T.eInvalidRatio.oex, T.nInvalidRatio_given, T.eInvalidRatio.tag, upd_same, fun dx nd ne => ⟨rfl, dx, _, ?_, upd_same, ?_, ?_⟩⟩⟩
      · rw [upd_ne ne.symm, upd_same]
      · rw [upd_ne ne] at nd
        exact nd
      · have nd' : H dx = none := by
          rw [upd_ne ne] at nd
          exact nd
        refine h0 ev dx _ nd' (Same.del na nd' fun b o hb q => ?_) upd_same
        rw [upd_ne (ne_of_none q nd'), upd_ne hb, upd_ne (ne_of_none q nd'), upd_ne hb]
        exact q
    · have ev : v ≠ 0 := fun z => e (decide_eq_true (by rw [z]))
      obtain ⟨h9, q⟩ := h1 ev
      refine ⟨_, rfl, _, rfl, u, v, rfl, .inr h9, ?_⟩
      refine ⟨fun σ H1 => H1 = H ∧ σ = [some (.int u), some (.int v), some (.int (lowG u v))], ?_, fun σ H1 hM => ?_⟩
      · refine ⟨_, rfl, _, _, rfl, rfl, _, rfl, ite2 (fun e => ?_) (fun e => ?_)⟩
        · refine ⟨_, rfl, _, rfl, rfl, ?_⟩
          unfold lowG
          rw [if_pos (of_decide_eq_true e)]
          rfl
        · refine ⟨rfl, ?_⟩
          unfold lowG
          rw [if_neg (fun z => e (decide_eq_true z))]
          rfl
      · obtain ⟨rfl, rfl⟩ := hM
        have hG := lowG_ok (u := u) ev h9
        exact ⟨_, rfl, _, rfl, _, _, rfl, rfl, hG, _, rfl, _, rfl, _, _, rfl, rfl, hG, two_line, q⟩
end
/-! ### slices of lists of signs -/
theorem cut_to (a : List Nat) (k : Nat) : L2.cutS (SX.S a) none (some (k : Int)) = SX.S (a.take k) := by
  unfold L2.cutS
  rw [HT.sIx_none, HT.sIx_nat, SX.S_len, Nat.sub_zero]
  refine TL.ext_tl ?_
  show (a.drop 0).take (min k a.length) = a.take k
  rw [List.drop_zero]
  by_cases h : k ≤ a.length
  · rw [Nat.min_eq_left h]
  · rw [Nat.min_eq_right (by omega), List.take_of_length_le (Nat.le_refl _), List.take_of_length_le (by omega)]
theorem cut_from (a : List Nat) (k : Nat) : L2.cutS (SX.S a) (some (k : Int)) none = SX.S (a.drop k) := by
  unfold L2.cutS
  rw [HT.sIx_none, HT.sIx_nat, SX.S_len]
  refine TL.ext_tl ?_
  show (a.drop (min k a.length)).take (a.length - min k a.length) = a.drop k
  by_cases h : k ≤ a.length
  · rw [Nat.min_eq_left h, List.take_of_length_le (by rw [List.length_drop]; exact Nat.le_refl _)]
  · rw [Nat.min_eq_right (by omega), List.drop_of_length_le (Nat.le_refl _), List.drop_of_length_le (by omega), List.take_nil]
section
variable {P : Program} {w : World} {K : PySem.W.Frag} {mg : Str → Option Value} {base : Heap} {fa : Nat → Addr} {fd : Nat → FuncData}
def spNumOf : Sp := fun vs H Q _ => ∃ a : List Nat, vs = [.str (SX.S a)] ∧ isD a = true ∧ a.length ≤ 62 ∧ Q (.int ((NumText.digitsVal a : Nat) : Int)) H
theorem ok_p_number_of (T : Txt K mg fa fd) : FnOk P w K mg base CX0 1 (fa 31) (fd 31) ["digits"] spNumOf := by
  refine T.F_p_number_of.ok sc_p_number_of (fun vs H Q E h => ?_) (fun cdv A outer s H vs Q E hr h => ?_)
  · obtain ⟨a, rfl, _⟩ := h
    rfl
  · obtain ⟨a, rfl, hd, hl, q⟩ := h
    have line : (SX.S a).length ≤ sizeLine := by
      rw [SX.S_len]
      exact small_line (by omega)
    have len : (((SX.S a).length : Nat) : Int) % 64 = (a.length : Nat) := by
      rw [SX.S_len]
      omega
    have cut : L2.cutS (SX.S a) none (some ((((SX.S a).length : Nat) : Int) % 64)) = SX.S a := by
      rw [len, cut_to, List.take_length]
    have cat : (Str.ofString "0" : Str) ++ L2.cutS (SX.S a) none (some ((((SX.S a).length : Nat) : Int) % 64)) = SX.S (48 :: a) := by
      rw [cut, nought, SX.S_cat]
      rfl
    have hd2 := (isD_iff.mp hd).2
    have val : intText? ((Str.ofString "0" : Str) ++ L2.cutS (SX.S a) none (some ((((SX.S a).length : Nat) : Int) % 64))) = some ((NumText.digitsVal a : Nat) : Int) := by
      rw [cat]
      have := intText_digits (x := SX.S (48 :: a)) (fun c hc => by
        rcases List.mem_cons.mp hc with e | e
        · omega
        · exact hd2 c e) (by simp) (by rw [SX.S_len]; simp only [List.length_cons]; omega)
      rw [this]
      rfl
    refine ⟨_, (pss_cons (ps_set (i := 1) sc_p_number_of.nd rfl (.inl rfl) (pe_op op_mod (pe_callB call_len_str (by rfl) T.m_len PySem.boot_len (pa_cons (pv 0) pa_nil)) pe_int))
      (pss_cons (ps_set (i := 2) sc_p_number_of.nd rfl (.inl rfl) (pe_callTy call_int_str (by rfl) T.m_int PySem.Pv.boot_int (pa_cons (pe_op op_add_str pe_str (pe_slice sl_str (pv 0) po_none (po_some (pv 1)))) pa_nil)))
      (pss_cons (ps_for PassesOwn.never rfl (pi_range3 (by rfl) T.m_range (pa_cons (pv 1) (pa_cons (pe_callB call_len_str (by rfl) T.m_len PySem.boot_len (pa_cons (pv 0) pa_nil)) (pa_cons pe_int pa_nil)))) (pg_name (i := 3) sc_p_number_of.nd rfl (.inl rfl)) (pss_one ps_never))
      (pss_one (ps_ret (pv 2)))))), ?_⟩
    refine ⟨_, rfl, _, rfl, line, _, _, rfl, rfl, (by decide : (0 : Int) < 64), _, rfl, _, rfl, _, rfl, _, rfl, line, _, _, rfl, rfl, ?_, _, _, rfl, val, ?_, ?_⟩
    · rw [nought, cut, SX.S_len, SX.S_len]
      exact small_line (by show 1 + _ ≤ 1000; omega)
    · rw [cat, SX.S_len]
      simp only [List.length_cons]
      omega
    · refine ⟨_, rfl, _, rfl, _, rfl, line, _, _, _, 0, rfl, ?_, for_rangeC (fun i σ H1 => H1 = H ∧ σ = [some (.str (SX.S a)), some (.int ((((SX.S a).length : Nat) : Int) % 64)), some (.int ((NumText.digitsVal a : Nat) : Int)), none]) ⟨rfl, rfl⟩ (fun i σ H1 hi => absurd hi (Nat.not_lt_zero _)) (fun σ H1 h => ?_)⟩
      · have z : Builtin.Range.rangeSize ((((SX.S a).length : Nat) : Int) % 64) (((SX.S a).length : Nat) : Int) 64 = 0 := by
          unfold Builtin.Range.rangeSize
          rw [if_pos (by decide), if_neg (by rw [len, SX.S_len]; omega)]
        refine ⟨by decide, by decide, ?_, z⟩
        have e : Builtin.Range.small ((a.length : Nat) : Int) ((a.length : Nat) : Int) 64 = true := by
          have : ∀ n : Nat, n ≤ 62 → Builtin.Range.small (n : Int) (n : Int) 64 = true := by decide +kernel
          exact this _ hl
        rw [len, SX.S_len]
        exact e
      · obtain ⟨rfl, rfl⟩ := h
        exact ⟨_, rfl, q⟩
end
theorem val_lt {a : List Nat} (h : NumText.AllDigits a) : NumText.digitsVal a < 10 ^ a.length := by
  have key : ∀ (l : List Nat) (acc : Nat), NumText.AllDigits l → l.foldl (fun acc c => acc * 10 + (c - 48)) acc < (acc + 1) * 10 ^ l.length := by
    intro l
    induction l with
    | nil => intro acc _; show acc < (acc + 1) * 1; omega
    | cons c l ih =>
      intro acc hl
      have hc := hl.head
      have i := ih (acc * 10 + (c - 48)) hl.tail
      refine Nat.lt_of_lt_of_le i ?_
      rw [List.length_cons, Nat.pow_succ, Nat.mul_comm (10 ^ l.length) 10, ← Nat.mul_assoc]
      exact Nat.mul_le_mul_right _ (by omega)
  have := key a 0 h
  rw [Nat.zero_add, Nat.one_mul] at this
  exact this
theorem val_lt62 {a : List Nat} (h : NumText.AllDigits a) (hl : a.length ≤ 61) : NumText.digitsVal a < 10 ^ 62 := Nat.lt_of_lt_of_le (val_lt h) (Nat.pow_le_pow_right (by decide) (by omega))
theorem body_len (t : List Nat) : (bodyL t).length ≤ t.length := by
  have e := congrArg List.length (body_at t)
  rw [List.length_append] at e
  omega
theorem cut_len (a : List Nat) : (cutL a).1.length ≤ a.length ∧ (cutL a).2.2.length ≤ a.length := by
  have e := congrArg List.length (cut_at a)
  rw [List.length_append] at e
  refine ⟨by omega, ?_⟩
  cases h : (cutL a).2.1
  · unfold cutL at h ⊢
    split at h
    · cases h
    · simp
  · rw [h, if_pos rfl, List.length_cons] at e
    omega
theorem intL_len {n : Int} (h : n.natAbs < 10 ^ 62) : (intL n).length ≤ 63 := by
  have := TL.numL_len (n := n.natAbs) (k := 62) (by decide) h
  unfold intL
  rw [List.length_append]
  split
  · show 1 + _ ≤ _
    omega
  · show 0 + _ ≤ _
    omega
theorem txt_int (n d : Int) (hd : 0 < d) : txtL n d = if d = 1 then intL n else intL n ++ (47 :: intL d) := by
  unfold txtL intL
  have : ¬ d < 0 := by omega
  rw [if_neg this, List.nil_append]
  by_cases h : d = 1
  · rw [if_pos h, if_pos h, List.append_nil]
  · rw [if_neg h, if_neg h, List.append_assoc]
section
variable {P : Program} {w : World} {K : PySem.W.Frag} {mg : Str → Option Value} {base : Heap} {fa : Nat → Addr} {fd : Nat → FuncData}
theorem Same.trans {A B C : Hp} (h1 : Same A B) (h2 : Same B C) : Same A C := fun b u e => h2 b u (h1 b u e)
theorem Same.new {A : Hp} {p : Addr} {o : HO} (h : A p = none) : Same A (upd A p o) := fun b u e => by
  rw [upd_ne (ne_of_none e h)]
  exact e
def spRatT : Sp := fun vs H Q _ => ∃ (p : Addr) (n d : Int), vs = [.ref p] ∧ H p = some (.tup [.int n, .int d]) ∧ 0 < d ∧ n.natAbs < 10 ^ 62 ∧ d.natAbs < 10 ^ 62 ∧ ∀ H', Same H H' → Q (.str (SX.S (txtL n d))) H'
theorem ok_p_ratio_text (T : Txt K mg fa fd) : FnOk P w K mg base CX0 2 (fa 32) (fd 32) ["one"] spRatT := by
  refine T.F_p_ratio_text.ok sc_p_ratio_text (fun vs H Q E h => ?_) (fun cdv A outer s H vs Q E hr h => ?_)
  · obtain ⟨p, n, d, rfl, _⟩ := h
    rfl
  · obtain ⟨p, n, d, rfl, hp, hd, hn, hd2, q⟩ := h
    refine ⟨_, (pss_cons (ps_if (pt_cmpR op_eq (pe_ix ix_tup (pv 0) pe_int (fun _ _ => rfl)) pe_int (nomark _)) (pss_one (ps_ret (pe_call (ok_p_number_text T) (hr.mono (by decide)) (by rfl) T.g_p_number_text T.F_p_number_text.kp T.b_p_number_text .nil pass0 (pa_cons (pe_ix ix_tup (pv 0) pe_int (fun _ _ => rfl)) pa_nil)))) pss_nil)
      (pss_one (ps_ret (pe_op op_add_str (pe_op op_add_str (pe_call (ok_p_number_text T) (hr.mono (by decide)) (by rfl) T.g_p_number_text T.F_p_number_text.kp T.b_p_number_text .nil pass0 (pa_cons (pe_ix ix_tup (pv 0) pe_int (fun _ _ => rfl)) pa_nil)) pe_str) (pe_call (ok_p_number_text T) (hr.mono (by decide)) (by rfl) T.g_p_number_text T.F_p_number_text.kp T.b_p_number_text .nil pass0 (pa_cons (pe_ix ix_tup (pv 0) pe_int (fun _ _ => rfl)) pa_nil)))))), ?_⟩
    refine ⟨_, rfl, p, _, 1, _, rfl, rfl, SqT.of hp, rfl, rfl, _, rfl, ite2 (fun e => ?_) (fun e => ?_)⟩
    · have e1 : d = 1 := V.int.inj (of_decide_eq_true e)
      refine ⟨_, rfl, p, _, 0, _, rfl, rfl, SqT.of hp, rfl, n, rfl, hn, fun H1 s1 => ?_⟩
      have := q H1 s1
      rw [txt_int n d hd, if_pos e1] at this
      exact this
    · have e1 : d ≠ 1 := fun z => e (decide_eq_true (by rw [z]))
      refine ⟨_, rfl, p, _, 0, _, rfl, rfl, SqT.of hp, rfl, n, rfl, hn, fun H1 s1 => ⟨_, _, rfl, rfl, ?_, _, rfl, p, _, 1, _, rfl, rfl, SqT.of (s1 _ _ hp), rfl, d, rfl, hd2, fun H2 s2 => ⟨_, _, rfl, rfl, ?_, ?_⟩⟩⟩
      · rw [stroke, SX.S_len, SX.S_len]
        exact small_line (by have := intL_len hn; show _ + 1 ≤ 1000; omega)
      · rw [stroke, SX.S_cat, SX.S_len, SX.S_len, List.length_append]
        exact small_line (by have := intL_len hn; have := intL_len hd2; show _ + 1 + _ ≤ 1000; omega)
      · have := q H2 (Same.trans s1 s2)
        rw [txt_int n d hd, if_neg e1] at this
        rw [stroke, SX.S_cat, SX.S_cat, List.append_assoc]
        exact this
end
theorem sl_eq (b : Bool) : decide (V.str (SX.S (if b then [47] else [])) = V.str (Str.ofString "")) = !b := by
  rw [emptyS]
  cases b
  · exact decide_eq_true rfl
  · refine decide_eq_false fun z => ?_
    exact absurd (SX.S_inj (V.str.inj z)) (by decide)
theorem progR_bad {t : List Nat} (h : (!isD (cutL (bodyL t)).1 || ((cutL (bodyL t)).2.1 && !isD (cutL (bodyL t)).2.2)) = true) : progR t = none := by
  unfold progR
  rw [if_pos h]
theorem progR_zero {t : List Nat} (h : progD t = 0) : progR t = none := by
  unfold progR
  rw [if_pos h]
  split <;> rfl
theorem progR_ne {t : List Nat} (h0 : progD t ≠ 0) (h : txtL (lowT (progN t) (progD t)) (lowD (progN t) (progD t)) ≠ t) : progR t = none := by
  unfold progR
  rw [if_neg h0, if_neg h]
  split <;> rfl
theorem progR_eq {t : List Nat} (hb : (!isD (cutL (bodyL t)).1 || ((cutL (bodyL t)).2.1 && !isD (cutL (bodyL t)).2.2)) = false) (h0 : progD t ≠ 0) (h : txtL (lowT (progN t) (progD t)) (lowD (progN t) (progD t)) = t) :
    progR t = some (lowT (progN t) (progD t), lowD (progN t) (progD t)) := by
  unfold progR
  rw [hb, if_neg (by decide), if_neg h0, if_pos h]
section
variable {P : Program} {w : World} {K : PySem.W.Frag} {mg : Str → Option Value} {base : Heap} {fa : Nat → Addr} {fd : Nat → FuncData}
def spRatOf : Sp := fun vs H Q _ => ∃ t : List Nat, vs = [.str (SX.S t)] ∧ t.length ≤ 61 ∧ (progR t = none → ∀ H', Same H H' → Q .non H') ∧ (∀ f, progR t = some f → ∀ p H', Same H H' → H' p = some (.tup [.int f.1, .int f.2]) → Q (.ref p) H')
theorem ok_p_ratio_of (T : Txt K mg fa fd) : FnOk P w K mg base (L2.CX P w) 4 (fa 33) (fd 33) ["text"] spRatOf := by
  refine T.F_p_ratio_of.okX sc_p_ratio_of (fun vs H Q E h => ?_) (fun cdv A outer s H vs Q E hr h => ?_)
  · obtain ⟨p, rfl, _⟩ := h
    rfl
  · obtain ⟨t, rfl, hl, qn, qs⟩ := h
    have b1 := body_len t
    obtain ⟨c1, c2⟩ := cut_len (bodyL t)
    have line : (SX.S t).length ≤ sizeLine := by
      rw [SX.S_len]
      exact small_line (by omega)
    have rm : Txt.removeprefix (SX.S t) (Str.ofString "-") = SX.S (bodyL t) := by rw [dash, rem_minus]
    have line2 : (Txt.removeprefix (SX.S t) (Str.ofString "-")).length ≤ sizeLine := by
      rw [rm, SX.S_len]
      exact small_line (by omega)
    have pt := cut_S (bodyL t)
    refine ⟨_, (pss_cons (ps_asg (pe_m1 PySem.F.slot_str_partition PySem.F.type_str_partition mt_partition (pe_m1 PySem.F.slot_str_removeprefix PySem.F.type_str_removeprefix mt_removeprefix (pv 0) pe_str (by rfl) (by rfl) (by rfl)) pe_str (by rfl) (by rfl) (by rfl)) (pg_tup (by rfl) (pgs_cons (pg_name (i := 1) sc_p_ratio_of.nd rfl (.inl rfl)) (pgs_cons (pg_name (i := 2) sc_p_ratio_of.nd rfl (.inl rfl)) (pgs_cons (pg_name (i := 3) sc_p_ratio_of.nd rfl (.inl rfl)) pgs_nil)))))
      (C8.pss_cut (ps_if (PW.pt (pw_or (pt_not (pt_val (pe_call (ok_p_is_digits T) (hr.mono (by decide)) (by rfl) T.g_p_is_digits T.F_p_is_digits.kp T.b_p_is_digits .nil pass0 (pa_cons (pv 1) pa_nil)))) (pw_or1 (PW.pt (pw_and (pt_cmpR op_ne (pv 2) pe_str (nomark _)) (pw_and1 (pt_not (pt_val (pe_call (ok_p_is_digits T) (hr.mono (by decide)) (by rfl) T.g_p_is_digits T.F_p_is_digits.kp T.b_p_is_digits .nil pass0 (pa_cons (pv 3) pa_nil)))))))))) (pss_one (ps_ret pe_non)) pss_nil)
      (C8.pss_cut (ps_set (i := 4) sc_p_ratio_of.nd rfl (.inl rfl) (pe_ifExp (pt_val (pe_m1 PySem.F.slot_str_startswith PySem.F.type_str_startswith mt_startswith (pv 0) pe_str (by rfl) (by rfl) (by rfl))) (pe_un un_neg (pe_call (ok_p_number_of T) (hr.mono (by decide)) (by rfl) T.g_p_number_of T.F_p_number_of.kp T.b_p_number_of .nil pass0 (pa_cons (pv 1) pa_nil))) (pe_call (ok_p_number_of T) (hr.mono (by decide)) (by rfl) T.g_p_number_of T.F_p_number_of.kp T.b_p_number_of .nil pass0 (pa_cons (pv 1) pa_nil))))
      (C8.pss_cut (ps_set (i := 5) sc_p_ratio_of.nd rfl (.inl rfl) (pe_ifExp (pt_cmpR op_eq (pv 2) pe_str (nomark _)) pe_int (pe_call (ok_p_number_of T) (hr.mono (by decide)) (by rfl) T.g_p_number_of T.F_p_number_of.kp T.b_p_number_of .nil pass0 (pa_cons (pv 3) pa_nil))))
      (pss_cons (ps_if (pt_cmpR op_eq (pv 5) pe_int (nomark _)) (pss_one (ps_ret pe_non)) pss_nil)
      (pss_cons (ps_set (i := 6) sc_p_ratio_of.nd rfl (.inl rfl) (pe_call (ok_p_ratio T) (hr.mono (by decide)) (by rfl) T.g_p_ratio T.F_p_ratio.kp T.b_p_ratio .nil (passes_call (takes_of rfl rfl rfl rfl) (fun _ _ _ _ h => h)) (pa_cons (pv 4) (pa_cons (pv 5) pa_nil))))
      (pss_one (ps_ret (pe_ifExp (pt_cmpR op_eq (pe_call (ok_p_ratio_text T) (hr.mono (by decide)) (by rfl) T.g_p_ratio_text T.F_p_ratio_text.kp T.b_p_ratio_text .nil pass0 (pa_cons (pv 6) pa_nil)) (pv 0) (nomark _)) (pv 6) pe_non))))))))), ?_⟩
    refine ⟨_, rfl, ⟨_, rfl⟩, _, _, rfl, rfl, line, ⟨_, rfl⟩, _, _, rfl, rfl, by decide +kernel, line2, fun p hp => ?_⟩
    rw [rm, stroke, pt]
    have sp : Same H (upd H p (.tup [.str (SX.S (cutL (bodyL t)).1), .str (SX.S (if (cutL (bodyL t)).2.1 then [47] else [])), .str (SX.S (cutL (bodyL t)).2.2)])) := Same.new hp
    generalize hH : upd H p (.tup [.str (SX.S (cutL (bodyL t)).1), .str (SX.S (if (cutL (bodyL t)).2.1 then [47] else [])), .str (SX.S (cutL (bodyL t)).2.2)]) = H1 at sp
    have hp1 : H1 p = some (.tup [.str (SX.S (cutL (bodyL t)).1), .str (SX.S (if (cutL (bodyL t)).2.1 then [47] else [])), .str (SX.S (cutL (bodyL t)).2.2)]) := by rw [← hH, upd_same]
    have kd : (!isD (cutL (bodyL t)).1 || ((cutL (bodyL t)).2.1 && !isD (cutL (bodyL t)).2.2)) = false → isD (cutL (bodyL t)).1 = true ∧ ((cutL (bodyL t)).2.1 = true → isD (cutL (bodyL t)).2.2 = true) := fun z => by
      cases e1 : isD (cutL (bodyL t)).1 <;> cases e2 : (cutL (bodyL t)).2.1 <;> cases e3 : isD (cutL (bodyL t)).2.2 <;> rw [e1, e2, e3] at z <;> simp_all
    let S1 : L2.St := [some (.str (SX.S t)), some (.str (SX.S (cutL (bodyL t)).1)), some (.str (SX.S (if (cutL (bodyL t)).2.1 then [47] else []))), some (.str (SX.S (cutL (bodyL t)).2.2))]
    refine ⟨p, _, rfl, SqT.of hp1, rfl, _, _, rfl, _, _, rfl, _, _, rfl, rfl, ?_⟩
    refine ⟨fun σ H2 => H2 = H1 ∧ σ = S1 ++ [none, none, none] ∧ (!isD (cutL (bodyL t)).1 || ((cutL (bodyL t)).2.1 && !isD (cutL (bodyL t)).2.2)) = false, ?_, fun σ H2 hM => ?_⟩
    · refine ⟨_, rfl, _, rfl, _, rfl, ite2 (fun e => ?_) (fun e => ?_)⟩
      · refine qn (progR_bad ?_) H1 sp
        rw [e]
        rfl
      · refine ⟨_, rfl, rfl, _, rfl, ?_⟩
        rw [sl_eq]
        have e1 : (!isD (cutL (bodyL t)).1) = false := by
          cases h : isD (cutL (bodyL t)).1
          · rw [h] at e
            exact absurd rfl e
          · rfl
        refine ite2 (fun e2 => ?_) (fun e2 => ?_)
        · refine ⟨_, rfl, _, rfl, _, rfl, ite2 (fun e3 => ?_) (fun e3 => ?_)⟩
          · refine qn (progR_bad ?_) H1 sp
            rw [e1, e3]
            rw [Bool.not_not] at e2
            rw [e2]
            rfl
          · refine ⟨rfl, rfl, ?_⟩
            rw [e1, Bool.false_or]
            rw [Bool.not_not] at e2
            rw [e2, Bool.true_and]
            exact Bool.eq_false_iff.mpr e3
        · refine ⟨rfl, rfl, ?_⟩
          rw [e1, Bool.false_or]
          rw [Bool.not_not] at e2
          rw [Bool.eq_false_iff.mpr e2, Bool.false_and]
    · obtain ⟨h2, h3, hb⟩ := hM
      rw [h2, h3]
      obtain ⟨d1, d2⟩ := kd hb
      have a1 := (isD_iff.mp d1).2
      have v1 := val_lt62 a1 (by omega)
      have n1 : (progN t).natAbs < 10 ^ 62 := by
        have : (progN t).natAbs = NumText.digitsVal (cutL (bodyL t)).1 := by
          unfold progN
          split <;> omega
        rw [this]
        exact v1
      have n2 : (progD t).natAbs < 10 ^ 62 := by
        unfold progD
        split
        · rename_i e
          have := val_lt62 (isD_iff.mp (d2 e)).2 (by omega)
          rw [Int.natAbs_natCast]
          exact this
        · decide +kernel
      refine ⟨fun σ H3 => H3 = H1 ∧ σ = S1 ++ [some (.int (progN t)), none, none], ?_, fun σ H3 hM => ?_⟩
      · refine ⟨_, rfl, ⟨_, rfl⟩, _, _, rfl, rfl, _, rfl, ?_⟩
        rw [dash, starts_minus]
        refine ite2 (fun e => ?_) (fun e => ?_)
        · refine ⟨_, rfl, _, rfl, d1, by omega, _, rfl, rfl, ?_⟩
          unfold progN
          rw [if_pos e]
          rfl
        · refine ⟨_, rfl, _, rfl, d1, by omega, rfl, ?_⟩
          unfold progN
          rw [if_neg e]
          rfl
      · obtain ⟨h2, h3⟩ := hM
        rw [h2, h3]
        refine ⟨fun σ H3 => H3 = H1 ∧ σ = S1 ++ [some (.int (progN t)), some (.int (progD t)), none], ?_, fun σ H3 hM => ?_⟩
        · refine ⟨_, rfl, rfl, _, rfl, ?_⟩
          rw [sl_eq]
          refine ite2 (fun e => ?_) (fun e => ?_)
          · refine ⟨rfl, ?_⟩
            have e' : (cutL (bodyL t)).2.1 = false := by
              cases h : (cutL (bodyL t)).2.1
              · rfl
              · rw [h] at e
                cases e
            unfold progD
            rw [e']
            rfl
          · have e' : (cutL (bodyL t)).2.1 = true := by
              cases h : (cutL (bodyL t)).2.1
              · rw [h] at e
                exact absurd rfl e
              · rfl
            refine ⟨_, rfl, _, rfl, d2 e', by omega, rfl, ?_⟩
            unfold progD
            rw [if_pos e']
            rfl
        · obtain ⟨h2, h3⟩ := hM
          rw [h2, h3]
          refine ⟨_, rfl, rfl, _, rfl, ite2 (fun e => ?_) (fun e => ?_)⟩
          · exact qn (progR_zero (V.int.inj (of_decide_eq_true e))) H1 sp
          · have h0 : progD t ≠ 0 := fun z => e (decide_eq_true (by rw [z]))
            refine ⟨_, rfl, _, rfl, _, _, rfl, fun hv => ⟨Nat.lt_trans (log_of n2) (by decide), fun p2 hp2 => ?_⟩, fun hv => absurd hv h0⟩
            refine ⟨_, rfl, p2, _, _, rfl, upd_same, lowD_pos h0, Nat.lt_of_le_of_lt (lowT_abs h0) n1, Nat.lt_of_le_of_lt (lowD_abs h0) n2, fun H5 s5 => ⟨_, rfl, rfl, _, rfl, ite2 (fun e => ?_) (fun e => ?_)⟩⟩
            · have e2 : txtL (lowT (progN t) (progD t)) (lowD (progN t) (progD t)) = t := SX.S_inj (V.str.inj (of_decide_eq_true e))
              exact ⟨_, rfl, qs _ (progR_eq hb h0 e2) p2 H5 (Same.trans sp (Same.trans (Same.new hp2) s5)) (s5 _ _ upd_same)⟩
            · exact qn (progR_ne h0 fun z => e (decide_eq_true (by rw [z]))) H5 (Same.trans sp (Same.trans (Same.new hp2) s5))
end
/-! ### runs of signs -/
def runL (s : Nat → Bool) (t : List Nat) (k : Nat) : Nat := k + ((t.drop k).takeWhile s).length
theorem runL_step {s : Nat → Bool} {t : List Nat} {k : Nat} (h : k < t.length) (hs : s t[k] = true) : runL s t k = runL s t (k + 1) := by
  unfold runL
  rw [List.drop_eq_getElem_cons h, List.takeWhile_cons, if_pos hs, List.length_cons]
  omega
theorem runL_stop {s : Nat → Bool} {t : List Nat} {k : Nat} (h : k < t.length) (hs : s t[k] = false) : runL s t k = k := by
  unfold runL
  rw [List.drop_eq_getElem_cons h, List.takeWhile_cons, if_neg (by rw [hs]; decide)]
  rfl
theorem runL_end {s : Nat → Bool} {t : List Nat} {k : Nat} (h : t.length ≤ k) : runL s t k = k := by
  unfold runL
  rw [List.drop_of_length_le h]
  rfl
theorem runL_le (s : Nat → Bool) (t : List Nat) (k : Nat) (h : k ≤ t.length) : runL s t k ≤ t.length := by
  unfold runL
  have := (List.takeWhile_prefix s (l := t.drop k)).length_le
  rw [List.length_drop] at this
  omega
theorem runL_ge (s : Nat → Bool) (t : List Nat) (k : Nat) : k ≤ runL s t k := Nat.le_add_right _ _
section
variable {P : Program} {w : World} {K : PySem.W.Frag} {mg : Str → Option Value} {base : Heap} {fa : Nat → Addr} {fd : Nat → FuncData}
abbrev vS (a : List Nat) : V := .str (SX.S a)
def inZ (z : Str) (c : Nat) : Bool := decide (c ∈ z.cps.toList)
def spRun : Sp := fun vs H Q _ => ∃ (t : List Nat) (k : Nat) (z : Str), vs = [vS t, .int (k : Int), .str z] ∧ t.length ≤ 1000 ∧ k ≤ t.length ∧ Q (.int (runL (inZ z) t k : Nat)) H
theorem ok_p_run_end (T : Txt K mg fa fd) : FnOk P w K mg base CX0 1 (fa 77) (fd 77) ["text", "at", "letters"] spRun := by
  refine T.F_p_run_end.ok sc_p_run_end (fun vs H Q E h => ?_) (fun cdv A outer s H vs Q E hr h => ?_)
  · obtain ⟨t, k, z, rfl, _⟩ := h
    rfl
  · obtain ⟨t, k, z, rfl, ht, hk, q⟩ := h
    refine ⟨_, (pss_cons (ps_while PassesOwn.never (PW.pt (pw_and (pt_cmpR op_lt (pv 1) (pe_callB call_len_str (by rfl) T.m_len PySem.boot_len (pa_cons (pv 0) pa_nil)) (nomark _)) (pw_and1 (pt_cmpR op_in_sign (pe_ix ix_str (pv 0) (pv 1) (fun _ _ => rfl)) (pv 2) (by rfl))))) (pss_one (ps_aug (i := 1) sc_p_run_end.nd rfl (.inl rfl) pe_int ip_add)))
      (pss_one (ps_ret (pv 1)))), ?_⟩
    have st : (SX.S t).length = t.length := SX.S_len t
    refine ⟨fun m σ H1 => ∃ i : Nat, m = t.length - i ∧ i ≤ t.length ∧ runL (inZ z) t i = runL (inZ z) t k ∧ σ = [some (vS t), some (.int i), some (.str z)] ∧ H1 = H, ⟨_, k, rfl, hk, rfl, rfl, rfl⟩, fun m σ H1 hW => ?_⟩
    obtain ⟨i, rfl, hi, er, rfl, rfl⟩ := hW
    refine ⟨_, rfl, _, rfl, _, rfl, small_line (by omega), _, _, rfl, rfl, _, rfl, ite2 (fun e => ?_) (fun e => ?_)⟩
    · have e : (i : Int) < ((SX.S t).length : Int) := of_decide_eq_true e
      have il : i < t.length := by omega
      refine ⟨_, rfl, _, rfl, SX.S t, (i : Int), t[i], rfl, rfl, small_line (by omega), atI_nat (by rw [S_list]; exact List.getElem?_eq_getElem il), _, rfl, t[i], z, rfl, rfl, _, rfl, ?_⟩
      cases hs : inZ z t[i] with
      | true =>
        rw [show decide (t[i] ∈ z.cps.toList) = true from hs]
        refine iteT ⟨fun σ' H' => ∃ m', m' < t.length - i ∧ ∃ j : Nat, m' = t.length - j ∧ j ≤ t.length ∧ runL (inZ z) t j = runL (inZ z) t k ∧ σ' = [some (vS t), some (.int j), some (.str z)] ∧ H' = H1, fun _ _ h => h, ?_⟩
        exact ⟨_, rfl, _, _, rfl, rfl, t.length - (i + 1), by omega, i + 1, rfl, il, by rw [← er, runL_step il hs], rfl, rfl⟩
      | false =>
        rw [show decide (t[i] ∈ z.cps.toList) = false from hs]
        rw [runL_stop il hs] at er
        refine iteF ⟨_, rfl, ?_⟩
        rw [er]
        exact q
    · have e : ¬ ((i : Int) < ((SX.S t).length : Int)) := fun z => e (decide_eq_true z)
      rw [runL_end (by omega)] at er
      refine ⟨_, rfl, ?_⟩
      rw [er]
      exact q
end
/-! ### symbols -/
theorem cut_mid (a : List Nat) {i j : Nat} (h : i ≤ j) (hj : j ≤ a.length) : L2.cutS (SX.S a) (some (i : Int)) (some (j : Int)) = SX.S ((a.drop i).take (j - i)) := by
  unfold L2.cutS
  rw [HT.sIx_nat, HT.sIx_nat, SX.S_len]
  refine TL.ext_tl ?_
  show (a.drop (min i a.length)).take (min j a.length - min i a.length) = (a.drop i).take (j - i)
  rw [show min i a.length = i by omega, show min j a.length = j by omega]
inductive Sy
  | num (f : Int × Int)
  | name (x : List Nat)
  | rel (r : List Nat)
  | sign (c : Nat)
  | fin
  | bad
def mid (t : List Nat) (i j : Nat) : List Nat := (t.drop i).take (j - i)
theorem mid_len (t : List Nat) {i j : Nat} (h : i ≤ j) (hj : j ≤ t.length) : (mid t i j).length = j - i := by
  unfold mid
  rw [List.length_take, List.length_drop]
  omega
def sortS : Sy → Str
  | .num _ => Str.ofString "number"
  | .name _ => Str.ofString "name"
  | .rel _ => Str.ofString "relation"
  | .sign c => SX.S [c]
  | .fin => Str.ofString "end"
  | .bad => Str.ofString "bad"
theorem cut_mid2 (a : List Nat) {i j : Nat} (h : i ≤ j) (hi : i ≤ a.length) : L2.cutS (SX.S a) (some (i : Int)) (some (j : Int)) = SX.S (mid a i j) := by
  by_cases hj : j ≤ a.length
  · exact cut_mid a h hj
  · unfold L2.cutS mid
    rw [HT.sIx_nat, HT.sIx_nat, SX.S_len]
    refine TL.ext_tl ?_
    show (a.drop (min i a.length)).take (min j a.length - min i a.length) = (a.drop i).take (j - i)
    rw [show min i a.length = i by omega, show min j a.length = a.length by omega, List.take_of_length_le (by rw [List.length_drop]; omega), List.take_of_length_le (by rw [List.length_drop]; omega)]
theorem mid_le (t : List Nat) (i j : Nat) : (mid t i j).length ≤ t.length := by
  unfold mid
  rw [List.length_take, List.length_drop]
  omega
theorem quote8 : (Str.ofString "'" : Str) = SX.S [39] := by decide +kernel
theorem numZ : ∀ c : Nat, inZ (Str.ofString "0123456789" ++ Str.ofString "/") c = (dig c || decide (c = 47)) := fun c => by
  unfold inZ dig
  rw [show (Str.ofString "0123456789" ++ Str.ofString "/").cps.toList = [48, 49, 50, 51, 52, 53, 54, 55, 56, 57, 47] by decide +kernel, Bool.eq_iff_iff]
  simp only [decide_eq_true_eq, Bool.or_eq_true, Bool.and_eq_true, List.mem_cons, List.not_mem_nil, or_false]
  omega
def numC (c : Nat) : Bool := dig c || decide (c = 47)
theorem numZ_fun : inZ (Str.ofString "0123456789" ++ Str.ofString "/") = numC := funext numZ
def numP (t : List Nat) (k : Nat) : Sy × Nat :=
  let e := runL numC t k
  let w := mid t k e
  if 30 < (cutL w).1.length ∨ 30 < (cutL w).2.2.length then (.bad, k) else match progR w with
    | none => (.bad, k)
    | some f => (.num f, e)
def numPw (w : List Nat) (k e : Nat) : Sy × Nat :=
  if 30 < (cutL w).1.length ∨ 30 < (cutL w).2.2.length then (.bad, k) else match progR w with
    | none => (.bad, k)
    | some f => (.num f, e)
def WorthV (H : Hp) (v : V) : Sy → Prop
  | .num f => ∃ p, v = .ref p ∧ H p = some (.tup [.int f.1, .int f.2])
  | .name x => v = vS x
  | .rel r => v = vS r
  | .sign c => v = vS [c]
  | .fin => v = vS []
  | .bad => v = vS []
def SyR (H : Hp) (p : Addr) (s : Sy) (e : Nat) : Prop := ∃ v, H p = some (.tup [.str (sortS s), v, .int (e : Int)]) ∧ WorthV H v s
theorem cut_len_le (w : List Nat) : w.length ≤ (cutL w).1.length + 1 + (cutL w).2.2.length := by
  have e := congrArg List.length (cut_at w)
  rw [List.length_append] at e
  split at e
  · rw [List.length_cons] at e
    omega
  · simp only [List.length_nil] at e
    omega
section
variable {P : Program} {w : World} {K : PySem.W.Frag} {mg : Str → Option Value} {base : Heap} {fa : Nat → Addr} {fd : Nat → FuncData}
def spSym (f : List Nat → Nat → Sy × Nat) : Sp := fun vs H Q _ => ∃ (t : List Nat) (k : Nat), vs = [vS t, .int (k : Int)] ∧ t.length ≤ 900 ∧ k < t.length ∧ ∀ p H', Same H H' → SyR H' p (f t k).1 (f t k).2 → Q (.ref p) H'
theorem ok_p_number_symbol (T : Txt K mg fa fd) : FnOk P w K mg base (L2.CX P w) 5 (fa 78) (fd 78) ["text", "at"] (spSym numP) := by
  refine T.F_p_number_symbol.okX sc_p_number_symbol (fun vs H Q E h => ?_) (fun cdv A outer s H vs Q E hr h => ?_)
  · obtain ⟨t, k, rfl, _⟩ := h
    rfl
  · obtain ⟨t, k, rfl, ht, hk, q⟩ := h
    refine ⟨_, (C8.pss_cut (ps_set (i := 2) sc_p_number_symbol.nd rfl (.inl rfl) (pe_call (ok_p_run_end T) (hr.mono (by decide)) (by rfl) T.g_p_run_end T.F_p_run_end.kp T.b_p_run_end .nil pass0 (pa_cons (pv 0) (pa_cons (pv 1) (pa_cons (pe_op op_add_str (C8.pe_gc (by rfl) T.c_DIGITS) pe_str) pa_nil)))))
      (C8.pss_cut (ps_asg (pe_m1 PySem.F.slot_str_partition PySem.F.type_str_partition mt_partition (pe_slice sl_str (pv 0) (po_some (pv 1)) (po_some (pv 2))) pe_str (by rfl) (by rfl) (by rfl)) (pg_tup (by rfl) (pgs_cons (pg_name (i := 3) sc_p_number_symbol.nd rfl (.inl rfl)) (pgs_cons (pg_name (i := 4) sc_p_number_symbol.nd rfl (.inl rfl)) (pgs_cons (pg_name (i := 5) sc_p_number_symbol.nd rfl (.inl rfl)) pgs_nil)))))
      (C8.pss_cut (ps_if (PW.pt (pw_or (pt_cmpR op_gt (pe_callB call_len_str (by rfl) T.m_len PySem.boot_len (pa_cons (pv 3) pa_nil)) (C8.pe_gc (by rfl) T.c_MOST_DIGITS) (nomark _)) (pw_or1 (pt_cmpR op_gt (pe_callB call_len_str (by rfl) T.m_len PySem.boot_len (pa_cons (pv 5) pa_nil)) (C8.pe_gc (by rfl) T.c_MOST_DIGITS) (nomark _))))) (pss_one (ps_ret (pe_tup (pa_cons pe_str (pa_cons pe_str (pa_cons (pv 1) pa_nil)))))) pss_nil)
      (C8.pss_cut (ps_set (i := 6) sc_p_number_symbol.nd rfl (.inl rfl) (pe_call (ok_p_ratio_of T) (hr.mono (by decide)) (by rfl) T.g_p_ratio_of T.F_p_ratio_of.kp T.b_p_ratio_of .nil (passes_call (takes_of rfl rfl rfl rfl) (fun _ _ _ _ h => h)) (pa_cons (pe_slice sl_str (pv 0) (po_some (pv 1)) (po_some (pv 2))) pa_nil)))
      (C8.pss_cut (ps_if (pt_cmpR op_isN (pv 6) pe_non (nomark _)) (pss_one (ps_ret (pe_tup (pa_cons pe_str (pa_cons pe_str (pa_cons (pv 1) pa_nil)))))) pss_nil)
      (pss_one (ps_ret (pe_tup (pa_cons pe_str (pa_cons (pv 6) (pa_cons (pv 2) pa_nil))))))))))), ?_⟩
    have st : (SX.S t).length = t.length := SX.S_len t
    have e1 := runL_ge numC t k
    have e2 := runL_le numC t k (by omega)
    refine ⟨fun σ H1 => H1 = H ∧ σ = [some (vS t), some (.int k), some (.int (runL numC t k : Nat)), none, none, none, none], ?_, fun σ H1 hM => ?_⟩
    · refine ⟨_, rfl, _, rfl, _, _, rfl, rfl, small_line (by decide +kernel), t, k, _, rfl, by omega, by omega, rfl, ?_⟩
      rw [numZ_fun]
      rfl
    obtain ⟨rfl, rfl⟩ := hM
    have qe : numP t k = (if 30 < (cutL (mid t k (runL numC t k))).1.length ∨ 30 < (cutL (mid t k (runL numC t k))).2.2.length then (.bad, k) else match progR (mid t k (runL numC t k)) with
      | none => (.bad, k)
      | some f => (.num f, runL numC t k)) := rfl
    rw [qe] at q
    generalize runL numC t k = e at *
    have cm : L2.cutS (SX.S t) (some (k : Int)) (some (e : Int)) = SX.S (mid t k e) := cut_mid t e1 e2
    have ml := mid_len t e1 e2
    have cl := cut_len_le (mid t k e)
    have sw : (SX.S (mid t k e)).length = (mid t k e).length := SX.S_len _
    generalize mid t k e = w0 at *
    have pt := cut_S w0
    refine ⟨fun σ H2 => Same H1 H2 ∧ σ = [some (vS t), some (.int k), some (.int e), some (vS (cutL w0).1), some (vS (if (cutL w0).2.1 then [47] else [])), some (vS (cutL w0).2.2), none], ?_, fun σ H2 hM => ?_⟩
    · have ln : w0.length ≤ 900 := by omega
      refine ⟨_, rfl, _, rfl, _, rfl, _, rfl, _, rfl, _, rfl, small_line (by omega), ?_⟩
      rw [cm]
      refine ⟨⟨_, rfl⟩, _, _, rfl, rfl, by decide +kernel, small_line (by omega), fun p hp => ?_⟩
      rw [stroke, pt]
      exact ⟨p, _, rfl, SqT.of upd_same, rfl, _, _, rfl, _, _, rfl, _, _, rfl, rfl, same_upd hp, rfl⟩
    obtain ⟨s2, rfl⟩ := hM
    have q := fun p H' (s : Same H2 H') h => q p H' (s2.trans s) h
    clear s2
    have ret : ∀ {H3 : Hp} {p : Addr}, H3 p = none → Same H2 H3 → (numPw w0 k e = (.bad, k)) → Q (.ref p) (upd H3 p (.tup [.str (Str.ofString "bad"), .str (Str.ofString ""), .int (k : Int)])) := fun {H3 p} np s3 eb => by
      refine q p _ (s3.trans (same_upd np)) ?_
      rw [show (if 30 < (cutL w0).1.length ∨ 30 < (cutL w0).2.2.length then ((.bad : Sy), k) else match progR w0 with
        | none => (.bad, k)
        | some f => (.num f, e)) = (.bad, k) from eb]
      exact ⟨_, upd_same, by rw [emptyS]; rfl⟩
    have l1 : (SX.S (cutL w0).1).length = (cutL w0).1.length := SX.S_len _
    have l2 : (SX.S (cutL w0).2.2).length = (cutL w0).2.2.length := SX.S_len _
    have c12 := cut_len w0
    have small : ∀ n : Nat, n ≤ 900 → n ≤ sizeLine := fun n h => small_line (by omega)
    refine ⟨fun σ H3 => H3 = H2 ∧ σ = [some (vS t), some (.int k), some (.int e), some (vS (cutL w0).1), some (vS (if (cutL w0).2.1 then [47] else [])), some (vS (cutL w0).2.2), none] ∧ ¬ (30 < (cutL w0).1.length ∨ 30 < (cutL w0).2.2.length), ?_, fun σ H3 hM => ?_⟩
    · refine ⟨_, rfl, _, rfl, small _ (by omega), _, _, rfl, rfl, _, rfl, ite2 (fun c => ?_) (fun c => ?_)⟩
      · have c := of_decide_eq_true c
        refine ⟨_, rfl, small_line (by show 3 ≤ 1000; decide), fun p np => ret np (Same.refl _) ?_⟩
        unfold numPw
        rw [if_pos (.inl (by omega))]
      · have c : ¬ ((30 : Int) < ((SX.S (cutL w0).1).length : Int)) := fun z => c (decide_eq_true z)
        refine ⟨_, rfl, _, rfl, small _ (by omega), _, _, rfl, rfl, _, rfl, ite2 (fun d => ?_) (fun d => ?_)⟩
        · have d := of_decide_eq_true d
          refine ⟨_, rfl, small_line (by show 3 ≤ 1000; decide), fun p np => ret np (Same.refl _) ?_⟩
          unfold numPw
          rw [if_pos (.inr (by omega))]
        · have d : ¬ ((30 : Int) < ((SX.S (cutL w0).2.2).length : Int)) := fun z => d (decide_eq_true z)
          exact ⟨rfl, rfl, by omega⟩
    obtain ⟨rfl, rfl, hs⟩ := hM
    have w61 : w0.length ≤ 61 := by omega
    -- worth
    refine ⟨fun σ H4 => Same H3 H4 ∧ ((progR w0 = none ∧ σ = [some (vS t), some (.int k), some (.int e), some (vS (cutL w0).1), some (vS (if (cutL w0).2.1 then [47] else [])), some (vS (cutL w0).2.2), some .non]) ∨ ∃ f p, progR w0 = some f ∧ H4 p = some (.tup [.int f.1, .int f.2]) ∧ σ = [some (vS t), some (.int k), some (.int e), some (vS (cutL w0).1), some (vS (if (cutL w0).2.1 then [47] else [])), some (vS (cutL w0).2.2), some (.ref p)]), ?_, fun σ H4 hM => ?_⟩
    · refine ⟨_, rfl, _, rfl, _, rfl, _, rfl, _, rfl, _, rfl, small_line (by omega), ?_⟩
      rw [cm]
      exact ⟨w0, rfl, w61, fun hn H' s' => ⟨s', .inl ⟨hn, rfl⟩⟩, fun f hf p H' s' hp => ⟨s', .inr ⟨f, p, hf, hp, rfl⟩⟩⟩
    obtain ⟨s4, h4⟩ := hM
    rcases h4 with ⟨hn, rfl⟩ | ⟨f, p, hf, hp, rfl⟩
    · refine ⟨fun _ _ => False, ?_, fun _ _ h => h.elim⟩
      refine ⟨_, rfl, rfl, _, rfl, ite2 (fun _ => ?_) (fun c => absurd (decide_eq_true rfl) c)⟩
      refine ⟨_, rfl, small_line (by show 3 ≤ 1000; decide), fun p np => ret np s4 ?_⟩
      unfold numPw
      rw [if_neg hs, hn]
    · refine ⟨fun σ H5 => H5 = H4 ∧ σ = [some (vS t), some (.int k), some (.int e), some (vS (cutL w0).1), some (vS (if (cutL w0).2.1 then [47] else [])), some (vS (cutL w0).2.2), some (.ref p)], ?_, fun σ H5 hM => ?_⟩
      · exact ⟨_, rfl, rfl, _, rfl, ite2 (fun c => absurd (of_decide_eq_true c) (by intro z; cases z)) (fun _ => ⟨rfl, rfl⟩)⟩
      obtain ⟨rfl, rfl⟩ := hM
      refine ⟨_, rfl, _, rfl, small_line (by show 3 ≤ 1000; decide), fun o no => ?_⟩
      have so := same_upd (o := .tup [.str (Str.ofString "number"), .ref p, .int (e : Int)]) no
      refine q o _ (s4.trans so) ?_
      rw [if_neg hs, hf]
      exact ⟨_, upd_same, p, rfl, so _ _ hp⟩
end
def nameP (t : List Nat) (k : Nat) : Sy × Nat :=
  if 6 < runL lowc t k - k then (.bad, k) else
    if mid t (runL lowc t k) (runL lowc t k + 1) = [39] then (.name (mid t k (runL lowc t k + 1)), runL lowc t k + 1) else (.name (mid t k (runL lowc t k)), runL lowc t k)
theorem lowZ : inZ (Str.ofString "abcdefghijklmnopqrstuvwxyz") = lowc := funext fun c => abc_mem c
section
variable {P : Program} {w : World} {K : PySem.W.Frag} {mg : Str → Option Value} {base : Heap} {fa : Nat → Addr} {fd : Nat → FuncData}
theorem ok_p_name_symbol (T : Txt K mg fa fd) : FnOk P w K mg base CX0 2 (fa 79) (fd 79) ["text", "at"] (spSym nameP) := by
  refine T.F_p_name_symbol.ok sc_p_name_symbol (fun vs H Q E h => ?_) (fun cdv A outer s H vs Q E hr h => ?_)
  · obtain ⟨t, k, rfl, _⟩ := h
    rfl
  · obtain ⟨t, k, rfl, ht, hk, q⟩ := h
    refine ⟨_, (C8.pss_cut (ps_set (i := 2) sc_p_name_symbol.nd rfl (.inl rfl) (pe_call (ok_p_run_end T) (hr.mono (by decide)) (by rfl) T.g_p_run_end T.F_p_run_end.kp T.b_p_run_end .nil pass0 (pa_cons (pv 0) (pa_cons (pv 1) (pa_cons (C8.pe_gc (by rfl) T.c_LETTERS) pa_nil)))))
      (C8.pss_cut (ps_if (pt_cmpR op_gt (pe_op op_sub (pv 2) (pv 1)) (C8.pe_gc (by rfl) T.c_MOST_LETTERS) (nomark _)) (pss_one (ps_ret (pe_tup (pa_cons pe_str (pa_cons pe_str (pa_cons (pv 1) pa_nil)))))) pss_nil)
      (C8.pss_cut (ps_if (pt_cmpR op_eq (pe_slice sl_str (pv 0) (po_some (pv 2)) (po_some (pe_op op_add (pv 2) pe_int))) pe_str (nomark _)) (pss_one (ps_aug (i := 2) sc_p_name_symbol.nd rfl (.inl rfl) pe_int ip_add)) pss_nil)
      (pss_one (ps_ret (pe_tup (pa_cons pe_str (pa_cons (pe_slice sl_str (pv 0) (po_some (pv 1)) (po_some (pv 2))) (pa_cons (pv 2) pa_nil))))))))), ?_⟩
    have st : (SX.S t).length = t.length := SX.S_len t
    have e1 := runL_ge lowc t k
    have e2 := runL_le lowc t k (by omega)
    refine ⟨fun σ H1 => H1 = H ∧ σ = [some (vS t), some (.int k), some (.int (runL lowc t k : Nat))], ?_, fun σ H1 hM => ?_⟩
    · refine ⟨_, rfl, _, rfl, t, k, _, rfl, by omega, by omega, rfl, ?_⟩
      rw [lowZ]
      rfl
    obtain ⟨rfl, rfl⟩ := hM
    unfold nameP at q
    generalize runL lowc t k = e at *
    refine ⟨fun σ H2 => H2 = H1 ∧ ¬ 6 < e - k ∧ σ = [some (vS t), some (.int k), some (.int e)], ?_, fun σ H2 hM => ?_⟩
    · refine ⟨_, rfl, _, rfl, _, _, rfl, rfl, _, _, rfl, rfl, _, rfl, ite2 (fun c => ?_) (fun c => ?_)⟩
      · have c : (6 : Int) < (e : Int) - (k : Int) := of_decide_eq_true c
        rw [if_pos (by omega)] at q
        refine ⟨_, rfl, small_line (by show 3 ≤ 1000; decide), fun p np => q p _ (same_upd np) ⟨_, upd_same, by rw [emptyS]; rfl⟩⟩
      · have c : ¬ (6 : Int) < (e : Int) - (k : Int) := fun z => c (decide_eq_true z)
        exact ⟨rfl, by omega, rfl⟩
    obtain ⟨rfl, c, rfl⟩ := hM
    rw [if_neg c] at q
    have ml := mid_le t k (e + 1)
    have ml2 := mid_le t k e
    have m1 := mid_le t e (e + 1)
    refine ⟨fun σ H3 => H3 = H2 ∧ ∃ e' : Nat, k ≤ e' ∧ (∀ p H', Same H2 H' → SyR H' p (.name (mid t k e')) e' → Q (.ref p) H') ∧ σ = [some (vS t), some (.int k), some (.int e')], ?_, fun σ H3 hM => ?_⟩
    · have cm : L2.cutS (SX.S t) (some (e : Int)) (some ((e : Int) + 1)) = SX.S (mid t e (e + 1)) := cut_mid2 t (j := e + 1) (by omega) e2
      refine ⟨_, rfl, _, rfl, _, rfl, _, rfl, _, _, rfl, rfl, _, rfl, _, rfl, small_line (by omega), ?_⟩
      rw [cm]
      refine ⟨rfl, _, rfl, ite2 (fun d => ?_) (fun d => ?_)⟩
      · have d := V.str.inj (of_decide_eq_true d)
        rw [quote8] at d
        rw [if_pos (S_inj d)] at q
        exact ⟨_, rfl, _, _, rfl, rfl, rfl, e + 1, by omega, q, rfl⟩
      · have d : mid t e (e + 1) ≠ [39] := fun z => d (decide_eq_true (by rw [z, quote8]))
        rw [if_neg d] at q
        exact ⟨rfl, e, e1, q, rfl⟩
    obtain ⟨rfl, e', ke, q, rfl⟩ := hM
    have ml3 := mid_le t k e'
    refine ⟨_, rfl, _, rfl, _, rfl, _, rfl, _, rfl, _, rfl, small_line (by omega), _, rfl, ?_⟩
    rw [show L2.cutS (SX.S t) (some (k : Int)) (some (e' : Int)) = SX.S (mid t k e') from cut_mid2 t ke (by omega)]
    exact ⟨small_line (by show 3 ≤ 1000; decide), fun p np => q p _ (same_upd np) ⟨_, upd_same, rfl⟩⟩
end
def symC (c : Nat) (t : List Nat) (k : Nat) : Sy × Nat :=
  if dig c then numP t k else if lowc c then nameP t k else if c = 43 ∨ c = 45 ∨ c = 42 then (.sign c, k + 1) else
    if c = 61 then (.rel [61], k + 1) else if mid t k (k + 2) = [60, 61] ∨ mid t k (k + 2) = [62, 61] then (.rel (mid t k (k + 2)), k + 2) else (.bad, k)
def symP (t : List Nat) (k : Nat) : Sy × Nat := symC (t.getD k 0) t k
theorem digZ : inZ (Str.ofString "0123456789") = dig := funext fun c => by
  unfold inZ dig
  rw [show (Str.ofString "0123456789").cps.toList = [48, 49, 50, 51, 52, 53, 54, 55, 56, 57] by decide +kernel, Bool.eq_iff_iff]
  simp only [decide_eq_true_eq, Bool.and_eq_true, List.mem_cons, List.not_mem_nil, or_false]
  omega
theorem sgnZ (c : Nat) : decide (c ∈ (Str.ofString "+-*").cps.toList) = decide (c = 43 ∨ c = 45 ∨ c = 42) := by
  rw [show (Str.ofString "+-*").cps.toList = [43, 45, 42] by decide +kernel, decide_eq_decide]
  simp only [List.mem_cons, List.not_mem_nil, or_false]
theorem leS : (Str.ofString "<=" : Str) = SX.S [60, 61] := by decide +kernel
theorem geS : (Str.ofString ">=" : Str) = SX.S [62, 61] := by decide +kernel
theorem eqS : (Str.ofString "=" : Str) = SX.S [61] := by decide +kernel
theorem relIn (m : List Nat) : inV (vS m) [V.str (Str.ofString "<="), .str (Str.ofString ">=")] = decide (m = [60, 61] ∨ m = [62, 61]) := by
  rw [leS, geS]
  show ((SX.S [60, 61] == SX.S m) || ((SX.S [62, 61] == SX.S m) || false)) = _
  rw [Bool.or_false, Bool.eq_iff_iff, Bool.or_eq_true, beq_iff_eq, beq_iff_eq, decide_eq_true_eq]
  constructor
  · rintro (h | h)
    · exact .inl (S_inj h).symm
    · exact .inr (S_inj h).symm
  · rintro (h | h)
    · exact .inl (by rw [h])
    · exact .inr (by rw [h])
section
variable {P : Program} {w : World} {K : PySem.W.Frag} {mg : Str → Option Value} {base : Heap} {fa : Nat → Addr} {fd : Nat → FuncData}
theorem ok_p_symbol_at (T : Txt K mg fa fd) : FnOk P w K mg base (L2.CX P w) 6 (fa 80) (fd 80) ["text", "at"] (spSym symP) := by
  refine T.F_p_symbol_at.okX sc_p_symbol_at (fun vs H Q E h => ?_) (fun cdv A outer s H vs Q E hr h => ?_)
  · obtain ⟨t, k, rfl, _⟩ := h
    rfl
  · obtain ⟨t, k, rfl, ht, hk, q⟩ := h
    refine ⟨_, (pss_cons (ps_if (pt_cmpR op_in_sign (pe_ix ix_str (pv 0) (pv 1) (fun _ _ => rfl)) (C8.pe_gc (by rfl) T.c_DIGITS) (by rfl)) (pss_one (ps_ret (pe_call (ok_p_number_symbol T) (hr.mono (by decide)) (by rfl) T.g_p_number_symbol T.F_p_number_symbol.kp T.b_p_number_symbol .nil (passes_call (takes_of rfl rfl rfl rfl) (fun _ _ _ _ h => h)) (pa_cons (pv 0) (pa_cons (pv 1) pa_nil))))) pss_nil)
      (pss_cons (ps_if (pt_cmpR op_in_sign (pe_ix ix_str (pv 0) (pv 1) (fun _ _ => rfl)) (C8.pe_gc (by rfl) T.c_LETTERS) (by rfl)) (pss_one (ps_ret (pe_call (ok_p_name_symbol T) (hr.mono (by decide)) (by rfl) T.g_p_name_symbol T.F_p_name_symbol.kp T.b_p_name_symbol .nil pass0 (pa_cons (pv 0) (pa_cons (pv 1) pa_nil))))) pss_nil)
      (pss_cons (ps_if (pt_cmpR op_in_sign (pe_ix ix_str (pv 0) (pv 1) (fun _ _ => rfl)) pe_str (by rfl)) (pss_one (ps_ret (pe_tup (pa_cons (pe_ix ix_str (pv 0) (pv 1) (fun _ _ => rfl)) (pa_cons (pe_ix ix_str (pv 0) (pv 1) (fun _ _ => rfl)) (pa_cons (pe_op op_add (pv 1) pe_int) pa_nil)))))) pss_nil)
      (pss_cons (ps_if (pt_cmpR op_eq (pe_ix ix_str (pv 0) (pv 1) (fun _ _ => rfl)) pe_str (nomark _)) (pss_one (ps_ret (pe_tup (pa_cons pe_str (pa_cons pe_str (pa_cons (pe_op op_add (pv 1) pe_int) pa_nil)))))) pss_nil)
      (pss_cons (ps_if (pt_cmpR op_in_seq (pe_slice sl_str (pv 0) (po_some (pv 1)) (po_some (pe_op op_add (pv 1) pe_int))) (pe_tup (pa_cons pe_str (pa_cons pe_str pa_nil))) (by rfl)) (pss_one (ps_ret (pe_tup (pa_cons pe_str (pa_cons (pe_slice sl_str (pv 0) (po_some (pv 1)) (po_some (pe_op op_add (pv 1) pe_int))) (pa_cons (pe_op op_add (pv 1) pe_int) pa_nil)))))) pss_nil)
      (pss_one (ps_ret (pe_tup (pa_cons pe_str (pa_cons pe_str (pa_cons (pv 1) pa_nil))))))))))), ?_⟩
    have st : (SX.S t).length = t.length := SX.S_len t
    have ge : t.getD k 0 = t[k] := by rw [List.getD_eq_getElem?_getD, List.getElem?_eq_getElem hk]; rfl
    have it : L2.atI (SX.S t).cps.toList (k : Int) = some t[k] := atI_nat (by rw [S_list]; exact List.getElem?_eq_getElem hk)
    unfold symP at q
    rw [ge] at q
    generalize t[k] = c at *
    unfold symC at q
    refine ⟨_, rfl, _, rfl, _, _, _, rfl, rfl, small_line (by omega), it, c, _, rfl, rfl, _, rfl, ?_⟩
    rw [show decide (c ∈ (Str.ofString "0123456789").cps.toList) = dig c from congrFun digZ c]
    cases h1 : dig c with
    | true =>
      rw [h1, if_pos rfl] at q
      exact iteT ⟨_, rfl, _, rfl, t, k, rfl, ht, hk, q⟩
    | false =>
      rw [h1, if_neg (by decide)] at q
      refine iteF ⟨_, rfl, _, rfl, _, _, _, rfl, rfl, small_line (by omega), it, c, _, rfl, rfl, _, rfl, ?_⟩
      rw [show decide (c ∈ (Str.ofString "abcdefghijklmnopqrstuvwxyz").cps.toList) = lowc c from congrFun lowZ c]
      cases h2 : lowc c with
      | true =>
        rw [h2, if_pos rfl] at q
        exact iteT ⟨_, rfl, _, rfl, t, k, rfl, ht, hk, q⟩
      | false =>
        rw [h2, if_neg (by decide)] at q
        refine iteF ⟨_, rfl, _, rfl, _, _, _, rfl, rfl, small_line (by omega), it, c, _, rfl, rfl, _, rfl, ?_⟩
        rw [sgnZ]
        refine ite2 (fun h3 => ?_) (fun h3 => ?_)
        · rw [if_pos (of_decide_eq_true h3)] at q
          refine ⟨_, rfl, _, rfl, _, _, _, rfl, rfl, small_line (by omega), it, _, rfl, _, rfl, _, _, _, rfl, rfl, small_line (by omega), it, _, rfl, _, _, rfl, rfl, small_line (by show 3 ≤ 1000; decide), fun p np => ?_⟩
          exact q p _ (same_upd np) ⟨_, upd_same, rfl⟩
        · rw [if_neg (fun z => h3 (decide_eq_true z))] at q
          refine ⟨_, rfl, _, rfl, _, _, _, rfl, rfl, small_line (by omega), it, rfl, _, rfl, ite2 (fun h4 => ?_) (fun h4 => ?_)⟩
          · have h4 := V.str.inj (of_decide_eq_true h4)
            rw [eqS] at h4
            have h4 : [c] = [61] := S_inj h4
            rw [if_pos (List.cons.inj h4).1] at q
            refine ⟨_, rfl, _, _, rfl, rfl, small_line (by show 3 ≤ 1000; decide), fun p np => ?_⟩
            exact q p _ (same_upd np) ⟨_, upd_same, by rw [eqS]; rfl⟩
          · have h4 : ¬ c = 61 := fun z => h4 (decide_eq_true (by rw [z, eqS]))
            rw [if_neg h4] at q
            have cm : L2.cutS (SX.S t) (some (k : Int)) (some ((k : Int) + 2)) = SX.S (mid t k (k + 2)) := cut_mid2 t (j := k + 2) (by omega) (by omega)
            have ml := mid_le t k (k + 2)
            refine ⟨_, rfl, _, rfl, _, rfl, _, rfl, _, _, rfl, rfl, _, rfl, _, rfl, small_line (by omega), ?_⟩
            rw [cm]
            refine ⟨small_line (by show 2 ≤ 1000; decide), fun p np => ⟨p, _, rfl, .inr (SqT.of upd_same), rfl, rfl, _, rfl, ?_⟩⟩
            have sp := same_upd (o := .tup [V.str (Str.ofString "<="), .str (Str.ofString ">=")]) np
            show ite (inV (vS (mid t k (k + 2))) [V.str (Str.ofString "<="), .str (Str.ofString ">=")] = true) _ _
            rw [relIn]
            refine ite2 (fun h5 => ?_) (fun h5 => ?_)
            · rw [if_pos (of_decide_eq_true h5)] at q
              refine ⟨_, rfl, _, rfl, _, rfl, _, rfl, _, _, rfl, rfl, _, rfl, _, rfl, small_line (by omega), _, rfl, _, _, rfl, rfl, ?_⟩
              rw [cm]
              exact ⟨small_line (by show 3 ≤ 1000; decide), fun o no => q o _ (sp.trans (same_upd no)) ⟨_, upd_same, rfl⟩⟩
            · rw [if_neg (fun z => h5 (decide_eq_true z))] at q
              refine ⟨_, rfl, small_line (by show 3 ≤ 1000; decide), fun o no => q o _ (sp.trans (same_upd no)) ⟨_, upd_same, by rw [emptyS]; rfl⟩⟩
end
def spc (c : Nat) : Bool := decide (c = 32)
theorem spcZ : inZ (Str.ofString " ") = spc := funext fun c => by
  unfold inZ spc
  rw [show (Str.ofString " ").cps.toList = [32] by decide +kernel, decide_eq_decide, List.mem_singleton]
def isBad : Sy → Bool
  | .bad => true
  | _ => false
theorem sort_bad (s : Sy) : decide (V.str (sortS s) = V.str (Str.ofString "bad")) = isBad s := by
  have nb : (Str.ofString "number" : Str) ≠ Str.ofString "bad" := by decide +kernel
  have ab : (Str.ofString "name" : Str) ≠ Str.ofString "bad" := by decide +kernel
  have rb : (Str.ofString "relation" : Str) ≠ Str.ofString "bad" := by decide +kernel
  have eb : (Str.ofString "end" : Str) ≠ Str.ofString "bad" := by decide +kernel
  have b3 : (Str.ofString "bad" : Str).length = 3 := by decide +kernel
  cases s with
  | num f => exact decide_eq_false (fun z => nb (V.str.inj z))
  | name x => exact decide_eq_false (fun z => ab (V.str.inj z))
  | rel r => exact decide_eq_false (fun z => rb (V.str.inj z))
  | fin => exact decide_eq_false (fun z => eb (V.str.inj z))
  | bad => exact decide_eq_true rfl
  | sign c => exact decide_eq_false (fun z => by
      have e := congrArg Str.length (V.str.inj z)
      rw [b3, show sortS (.sign c) = SX.S [c] from rfl, SX.S_len] at e
      cases e)
theorem num_le (t : List Nat) {k : Nat} (h : k < t.length) (hd : dig t[k] = true) : (numP t k).2 ≤ t.length ∧ (isBad (numP t k).1 = false → k < (numP t k).2) := by
  have e1 := runL_le numC t k (by omega)
  have e2 : k + 1 ≤ runL numC t k := by
    rw [runL_step h (by unfold numC; rw [hd]; rfl)]
    exact runL_ge _ _ _
  unfold numP
  dsimp only
  split
  · exact ⟨by show k ≤ _; omega, fun z => by cases z⟩
  · split
    · exact ⟨by show k ≤ _; omega, fun z => by cases z⟩
    · exact ⟨e1, fun _ => e2⟩
theorem name_le (t : List Nat) {k : Nat} (h : k < t.length) (hd : lowc t[k] = true) : (nameP t k).2 ≤ t.length ∧ (isBad (nameP t k).1 = false → k < (nameP t k).2) := by
  have e1 := runL_le lowc t k (by omega)
  have e2 : k + 1 ≤ runL lowc t k := by
    rw [runL_step h hd]
    exact runL_ge _ _ _
  unfold nameP
  split
  · exact ⟨by show k ≤ _; omega, fun z => by cases z⟩
  · split
    · rename_i c
      have : (mid t (runL lowc t k) (runL lowc t k + 1)).length = 1 := by rw [c]; rfl
      unfold mid at this
      rw [List.length_take, List.length_drop] at this
      exact ⟨by show _ + 1 ≤ _; omega, fun _ => by show k < _ + 1; omega⟩
    · exact ⟨e1, fun _ => e2⟩
theorem sym_le (t : List Nat) {k : Nat} (h : k < t.length) : (symP t k).2 ≤ t.length ∧ (isBad (symP t k).1 = false → k < (symP t k).2) := by
  have ge : t.getD k 0 = t[k] := by rw [List.getD_eq_getElem?_getD, List.getElem?_eq_getElem h]; rfl
  unfold symP symC
  rw [ge]
  by_cases h1 : dig t[k] = true
  · rw [if_pos h1]
    exact num_le t h h1
  · rw [if_neg h1]
    by_cases h2 : lowc t[k] = true
    · rw [if_pos h2]
      exact name_le t h h2
    · rw [if_neg h2]
      split
      · exact ⟨by show k + 1 ≤ _; omega, fun _ => by show k < k + 1; omega⟩
      · split
        · exact ⟨by show k + 1 ≤ _; omega, fun _ => by show k < k + 1; omega⟩
        · split
          · rename_i c
            have : (mid t k (k + 2)).length = 2 := by rcases c with c | c <;> (rw [c]; rfl)
            unfold mid at this
            rw [List.length_take, List.length_drop] at this
            exact ⟨by show k + 2 ≤ _; omega, fun _ => by show k < k + 2; omega⟩
          · exact ⟨by show k ≤ _; omega, fun z => by cases z⟩
def symsL : Nat → List Nat → Nat → List (Sy × Nat)
  | 0, t, _ => [(.fin, t.length)]
  | n + 1, t, k => if k < t.length then (if isBad (symP t k).1 = true then [(.bad, k)] else ((symP t k).1, k) :: symsL n t (runL spc t (symP t k).2)) else [(.fin, t.length)]
def symsOf (t : List Nat) : List (Sy × Nat) := symsL t.length t (runL spc t 0)
theorem syms_stop (n : Nat) (t : List Nat) {k : Nat} (h : t.length ≤ k) : symsL n t k = [(.fin, t.length)] := by
  cases n with
  | zero => rfl
  | succ n =>
    unfold symsL
    rw [if_neg (by omega)]
theorem isBad_eq {s : Sy} (h : isBad s = true) : s = .bad := by cases s <;> first | rfl | cases h
theorem SyR.tt {H H' : Hp} {p : Addr} {s : Sy} {e : Nat} (h : SyR H p s e) (t : TT H H') : SyR H' p s e := by
  obtain ⟨v, h1, h2⟩ := h
  refine ⟨v, t _ _ h1, ?_⟩
  cases s with
  | num f =>
    obtain ⟨q, e, h⟩ := h2
    exact ⟨q, e, t _ _ h⟩
  | name x => exact h2
  | rel r => exact h2
  | sign c => exact h2
  | fin => exact h2
  | bad => exact h2
theorem paired_mono {α β : Type} {R S : α → β → Prop} (h : ∀ a b, R a b → S a b) : ∀ {xs : List α} {ys : List β}, Paired R xs ys → Paired S xs ys
  | _, _, .nil => .nil
  | _, _, .cons r t => .cons (h _ _ r) (paired_mono h t)
theorem paired_snoc {α β : Type} {R : α → β → Prop} : ∀ {xs : List α} {ys : List β} {x : α} {y : β}, Paired R xs ys → R x y → Paired R (xs ++ [x]) (ys ++ [y])
  | _, _, _, _, .nil, h => .cons h .nil
  | _, _, _, _, .cons r t, h => .cons r (paired_snoc t h)
section
variable {P : Program} {w : World} {K : PySem.W.Frag} {mg : Str → Option Value} {base : Heap} {fa : Nat → Addr} {fd : Nat → FuncData}
def spSyms : Sp := fun vs H Q _ => ∃ t : List Nat, vs = [vS t] ∧ t.length ≤ 900 ∧ ∀ D ps H', H D = none → Same H H' → H' D = some (.lst (ps.map V.ref)) → Paired (fun p (si : Sy × Nat) => SyR H' p si.1 si.2) ps (symsOf t) → Q (.ref D) H'
theorem ok_p_symbols_of (T : Txt K mg fa fd) : FnOk P w K mg base (L2.CX P w) 7 (fa 81) (fd 81) ["text"] spSyms := by
  refine T.F_p_symbols_of.okX sc_p_symbols_of (fun vs H Q E h => ?_) (fun cdv A outer s H vs Q E hr h => ?_)
  · obtain ⟨t, rfl, _⟩ := h
    rfl
  · obtain ⟨t, rfl, ht, q⟩ := h
    refine ⟨_, (C8.pss_cut (ps_set (i := 1) sc_p_symbols_of.nd rfl (.inl rfl) (pe_lst pa_nil))
      (C8.pss_cut (ps_set (i := 2) sc_p_symbols_of.nd rfl (.inl rfl) (pe_call (ok_p_run_end T) (hr.mono (by decide)) (by rfl) T.g_p_run_end T.F_p_run_end.kp T.b_p_run_end .nil pass0 (pa_cons (pv 0) (pa_cons pe_int (pa_cons pe_str pa_nil)))))
      (C8.pss_cut (ps_while (passes_of rfl) (pt_cmpR op_lt (pv 2) (pe_callB call_len_str (by rfl) T.m_len PySem.boot_len (pa_cons (pv 0) pa_nil)) (nomark _)) (C8.pss_cut (ps_asg (pe_call (ok_p_symbol_at T) (hr.mono (by decide)) (by rfl) T.g_p_symbol_at T.F_p_symbol_at.kp T.b_p_symbol_at .nil (passes_call (takes_of rfl rfl rfl rfl) (fun _ _ _ _ h => h)) (pa_cons (pv 0) (pa_cons (pv 2) pa_nil))) (pg_tup (by rfl) (pgs_cons (pg_name (i := 3) sc_p_symbols_of.nd rfl (.inl rfl)) (pgs_cons (pg_name (i := 4) sc_p_symbols_of.nd rfl (.inl rfl)) (pgs_cons (pg_name (i := 5) sc_p_symbols_of.nd rfl (.inl rfl)) pgs_nil)))))
      (C8.pss_cut (ps_expr (pe_bm PySem.F.plainAttrs_list PySem.F.slot_list_append PySem.F.type_list_append mt_append (pv 1) (pa_cons (pe_tup (pa_cons (pv 3) (pa_cons (pv 4) (pa_cons (pv 2) pa_nil)))) pa_nil)))
      (C8.pss_cut (ps_if (pt_cmpR op_eq (pv 3) pe_str (nomark _)) (pss_one (ps_ret (pv 1))) pss_nil)
      (pss_one (ps_set (i := 2) sc_p_symbols_of.nd rfl (.inl rfl) (pe_call (ok_p_run_end T) (hr.mono (by decide)) (by rfl) T.g_p_run_end T.F_p_run_end.kp T.b_p_run_end .nil pass0 (pa_cons (pv 0) (pa_cons (pv 5) (pa_cons pe_str pa_nil))))))))))
      (C8.pss_cut (ps_expr (pe_bm PySem.F.plainAttrs_list PySem.F.slot_list_append PySem.F.type_list_append mt_append (pv 1) (pa_cons (pe_tup (pa_cons pe_str (pa_cons pe_str (pa_cons (pe_callB call_len_str (by rfl) T.m_len PySem.boot_len (pa_cons (pv 0) pa_nil)) pa_nil)))) pa_nil)))
      (pss_one (ps_ret (pv 1))))))), ?_⟩
    have st : (SX.S t).length = t.length := SX.S_len t
    refine ⟨fun σ H1 => ∃ D, H D = none ∧ Same H H1 ∧ H1 D = some (.lst []) ∧ σ = [some (vS t), some (.ref D), none, none, none, none], ⟨Nat.zero_le _, fun D nD => ⟨D, nD, same_upd nD, upd_same, rfl⟩⟩, fun σ H1 hM => ?_⟩
    obtain ⟨D, nD, s1, hD1, rfl⟩ := hM
    have e0 := runL_le spc t 0 (Nat.zero_le _)
    refine ⟨fun σ H2 => H2 = H1 ∧ σ = [some (vS t), some (.ref D), some (.int (runL spc t 0 : Nat)), none, none, none], ?_, fun σ H2 hM => ?_⟩
    · refine ⟨_, rfl, t, 0, _, rfl, by omega, Nat.zero_le _, rfl, ?_⟩
      rw [spcZ]
      rfl
    obtain ⟨rfl, rfl⟩ := hM
    refine ⟨fun σ H3 => ∃ ps dn y2 y3 y4 y5, Same H H3 ∧ H3 D = some (.lst (ps.map V.ref)) ∧ Paired (fun p (si : Sy × Nat) => SyR H3 p si.1 si.2) ps dn ∧ symsOf t = dn ++ [(.fin, t.length)] ∧ dn.length ≤ 900 ∧ σ = [some (vS t), some (.ref D), y2, y3, y4, y5], ?_, fun σ H3 hM => ?_⟩
    · refine ⟨fun m σ G => ∃ (k n : Nat) (ps : List Addr) (dn : List (Sy × Nat)) (y3 y4 y5 : Option V), m = t.length - k ∧ k ≤ t.length ∧ t.length - k ≤ n ∧ symsOf t = dn ++ symsL n t k ∧ Same H G ∧ G D = some (.lst (ps.map V.ref)) ∧ Paired (fun p (si : Sy × Nat) => SyR G p si.1 si.2) ps dn ∧ dn.length ≤ k ∧ σ = [some (vS t), some (.ref D), some (.int k), y3, y4, y5],
        ⟨_, runL spc t 0, t.length, [], [], _, _, _, rfl, e0, by omega, rfl, s1, hD1, .nil, Nat.zero_le _, rfl⟩, fun m σ G hW => ?_⟩
      obtain ⟨k, n, ps, dn, y3, y4, y5, rfl, hk, hn, he, sG, hD, hps, hdn, rfl⟩ := hW
      refine ⟨_, rfl, _, rfl, _, rfl, small_line (by omega), _, _, rfl, rfl, _, rfl, ite2 (fun c => ?_) (fun c => ?_)⟩
      · have c : (k : Int) < ((SX.S t).length : Int) := of_decide_eq_true c
        have kl : k < t.length := by omega
        obtain ⟨n, rfl⟩ : ∃ n', n = n' + 1 := ⟨n - 1, by omega⟩
        have hs : symsL (n + 1) t k = if isBad (symP t k).1 = true then [(.bad, k)] else ((symP t k).1, k) :: symsL n t (runL spc t (symP t k).2) := by
          show (if k < t.length then _ else _) = _
          rw [if_pos kl]
        rw [hs] at he
        obtain ⟨sl1, sl2⟩ := sym_le t kl
        refine ⟨fun σ' H' => ∃ m', m' < t.length - k ∧ ∃ (k' n : Nat) (ps : List Addr) (dn : List (Sy × Nat)) (y3 y4 y5 : Option V), m' = t.length - k' ∧ k' ≤ t.length ∧ t.length - k' ≤ n ∧ symsOf t = dn ++ symsL n t k' ∧ Same H H' ∧ H' D = some (.lst (ps.map V.ref)) ∧ Paired (fun p (si : Sy × Nat) => SyR H' p si.1 si.2) ps dn ∧ dn.length ≤ k' ∧ σ' = [some (vS t), some (.ref D), some (.int k'), y3, y4, y5], fun _ _ h => h, ?_⟩
        refine ⟨fun σ G1 => Same G G1 ∧ ∃ v, WorthV G1 v (symP t k).1 ∧ σ = [some (vS t), some (.ref D), some (.int k), some (.str (sortS (symP t k).1)), some v, some (.int ((symP t k).2 : Nat))], ?_, fun σ G1 hM => ?_⟩
        · refine ⟨_, rfl, _, rfl, t, k, rfl, ht, kl, fun p G1 sg hp => ?_⟩
          obtain ⟨v, h1, h2⟩ := hp
          exact ⟨p, _, rfl, SqT.of h1, rfl, _, _, rfl, _, _, rfl, _, _, rfl, rfl, sg, v, h2, rfl⟩
        obtain ⟨sg, v, hv, rfl⟩ := hM
        generalize (symP t k).1 = sy at *
        generalize (symP t k).2 = e at *
        have hDg := sg _ _ hD
        have psl : ps.length ≤ 900 := by
          have := Paired.length hps
          omega
        refine ⟨fun σ G2 => ∃ p, Same H G2 ∧ G2 D = some (.lst ((ps ++ [p]).map V.ref)) ∧ Paired (fun p (si : Sy × Nat) => SyR G2 p si.1 si.2) (ps ++ [p]) (dn ++ [(sy, k)]) ∧ σ = [some (vS t), some (.ref D), some (.int k), some (.str (sortS sy)), some v, some (.int (e : Nat))], ?_, fun σ G2 hM => ?_⟩
        · refine ⟨_, rfl, .inl ⟨rfl, _, SqL.of hDg⟩, _, rfl, _, rfl, _, rfl, small_line (by show 3 ≤ 1000; decide), fun p np => ?_⟩
          have sp := same_upd (o := .tup [.str (sortS sy), v, .int (k : Int)]) np
          have hDp := sp _ _ hDg
          refine ⟨D, _, _, rfl, rfl, hDp, by rw [List.length_map]; exact small1000 (by omega), p, ?_, ?_, ?_, rfl⟩
          · exact fun b o eb => by
              rw [upd_ne (ne_of_none eb nD)]
              exact sp _ _ (sg _ _ (sG _ _ eb))
          · rw [upd_same, List.map_append]
            rfl
          · have tt := TT.upd (zs := ps.map V.ref ++ [.ref p]) hDp
            refine paired_snoc (paired_mono (fun a b h => h.tt (((TT.of sg).trans (TT.of sp)).trans tt)) hps) ?_
            have h0 : SyR (upd G1 p (.tup [.str (sortS sy), v, .int (k : Int)])) p sy k := by
              refine ⟨v, upd_same, ?_⟩
              cases sy with
              | num f =>
                obtain ⟨q, e, h⟩ := hv
                exact ⟨q, e, sp _ _ h⟩
              | name x => exact hv
              | rel r => exact hv
              | sign c => exact hv
              | fin => exact hv
              | bad => exact hv
            exact h0.tt tt
        obtain ⟨p, sH, hD2, hps2, rfl⟩ := hM
        refine ⟨fun σ G3 => G3 = G2 ∧ isBad sy = false ∧ σ = [some (vS t), some (.ref D), some (.int k), some (.str (sortS sy)), some v, some (.int (e : Nat))], ?_, fun σ G3 hM => ?_⟩
        · refine ⟨_, rfl, rfl, _, rfl, ?_⟩
          rw [sort_bad]
          refine ite2 (fun b => ?_) (fun b => ⟨rfl, Bool.eq_false_iff.mpr b, rfl⟩)
          rw [if_pos b] at he
          rw [isBad_eq b] at hps2
          exact ⟨_, rfl, q D _ G2 nD sH hD2 (by rw [he]; exact hps2)⟩
        obtain ⟨rfl, nb, rfl⟩ := hM
        rw [nb, if_neg (by decide)] at he
        have ek := sl2 nb
        have g1 := runL_ge spc t e
        have g2 := runL_le spc t e sl1
        refine ⟨_, rfl, _, rfl, t, e, _, rfl, by omega, sl1, ?_⟩
        rw [spcZ]
        refine ⟨t.length - runL spc t e, by omega, runL spc t e, n, ps ++ [p], dn ++ [(sy, k)], some (.str (sortS sy)), some v, some (.int (e : Nat)), rfl, g2, by omega, ?_, sH, hD2, hps2, ?_, rfl⟩
        · rw [he, List.append_assoc]
          rfl
        · rw [List.length_append]
          show dn.length + 1 ≤ _
          omega
      · have c : ¬ ((k : Int) < ((SX.S t).length : Int)) := fun z => c (decide_eq_true z)
        rw [syms_stop n t (by omega)] at he
        exact ⟨ps, dn, _, _, _, _, sG, hD, hps, he, by omega, rfl⟩
    obtain ⟨ps, dn, y2, y3, y4, y5, sH, hD, hps, he, hdn, rfl⟩ := hM
    have psl : ps.length ≤ 900 := by
      have := Paired.length hps
      omega
    refine ⟨fun σ H4 => ∃ p, Same H H4 ∧ H4 D = some (.lst ((ps ++ [p]).map V.ref)) ∧ Paired (fun p (si : Sy × Nat) => SyR H4 p si.1 si.2) (ps ++ [p]) (dn ++ [(.fin, t.length)]) ∧ σ = [some (vS t), some (.ref D), y2, y3, y4, y5], ?_, fun σ H4 hM => ?_⟩
    · refine ⟨_, rfl, .inl ⟨rfl, _, SqL.of hD⟩, _, rfl, _, rfl, small_line (by omega), small_line (by show 3 ≤ 1000; decide), fun p np => ?_⟩
      rw [st]
      have sp := same_upd (o := .tup [.str (Str.ofString "end"), .str (Str.ofString ""), .int (t.length : Int)]) np
      have hDp := sp _ _ hD
      refine ⟨D, _, _, rfl, rfl, hDp, by rw [List.length_map]; exact small1000 (by omega), p, ?_, ?_, ?_, rfl⟩
      · exact fun b o eb => by
          rw [upd_ne (ne_of_none eb nD)]
          exact sp _ _ (sH _ _ eb)
      · rw [upd_same, List.map_append]
        rfl
      · have tt := TT.upd (zs := ps.map V.ref ++ [.ref p]) hDp
        refine paired_snoc (paired_mono (fun a b h => h.tt ((TT.of sp).trans tt)) hps) ?_
        exact ⟨_, tt _ _ upd_same, by rw [emptyS]; rfl⟩
    obtain ⟨p, s4, hD4, hps4, rfl⟩ := hM
    exact ⟨_, rfl, q D _ H4 nD s4 hD4 (by rw [he]; exact hps4)⟩
end
abbrev FQ := Int × Int
/-- the list of symbols at D -/
def SL (H : Hp) (D : Addr) (S : List (Sy × Nat)) : Prop := ∃ ps : List Addr, H D = some (.lst (ps.map V.ref)) ∧ Paired (fun p (si : Sy × Nat) => SyR H p si.1 si.2) ps S
theorem SL.same {H H' : Hp} {D : Addr} {S : List (Sy × Nat)} (h : SL H D S) (s : Same H H') : SL H' D S := by
  obtain ⟨ps, h1, h2⟩ := h
  exact ⟨ps, s _ _ h1, paired_mono (fun _ _ h => h.tt (TT.of s)) h2⟩
theorem paired_at {α β : Type} {R : α → β → Prop} : ∀ {xs : List α} {ys : List β} (i : Nat) {y : β}, Paired R xs ys → ys[i]? = some y → ∃ x, xs[i]? = some x ∧ R x y
  | _, _, 0, _, .cons r _, e => ⟨_, rfl, by cases e; exact r⟩
  | _, _, i + 1, _, .cons _ t, e => paired_at i t e
theorem SL.at {K : PySem.W.Frag} {H : Hp} {D : Addr} {S : List (Sy × Nat)} (h : SL H D S) {k : Nat} {s : Sy} {i : Nat} (e : S[k]? = some (s, i)) : ∃ xs p v, SqL K H D xs ∧ atI xs (k : Int) = some (.ref p) ∧ H p = some (.tup [.str (sortS s), v, .int (i : Int)]) ∧ WorthV H v s := by
  obtain ⟨ps, h1, h2⟩ := h
  obtain ⟨p, hp, v, hv1, hv2⟩ := paired_at k h2 e
  exact ⟨_, p, v, SqL.of h1, atI_nat (by rw [List.getElem?_map, hp]; rfl), hv1, hv2⟩
/-- behind a symbol that ends nothing stands another one -/
def WF (S : List (Sy × Nat)) : Prop := ∀ k s i, S[k]? = some (s, i) → isBad s = false → (∀ z, s = z → z ≠ .fin) → k + 1 < S.length
def termP (S : List (Sy × Nat)) (k : Nat) : Except Nat (List Nat × FQ × Nat) :=
  match S[k]? with
  | some (.name x, _) => .ok (x, (1, 1), k + 1)
  | some (.num f, _) => match S[k + 1]? with
    | some (.sign 42, _) => match S[k + 2]? with
      | some (.name x, _) => .ok (x, f, k + 3)
      | some (_, i) => .error i
      | none => .error 0
    | _ => .ok ([], f, k + 1)
  | some (_, i) => .error i
  | none => .error 0
def isNm : Sy → Bool
  | .name _ => true
  | _ => false
def isNu : Sy → Bool
  | .num _ => true
  | _ => false
def isSg (c : Nat) : Sy → Bool
  | .sign d => decide (d = c)
  | _ => false
theorem sort_name (s : Sy) : decide (V.str (sortS s) = V.str (Str.ofString "name")) = isNm s := by
  have nb : (Str.ofString "number" : Str) ≠ Str.ofString "name" := by decide +kernel
  have ab : (Str.ofString "bad" : Str) ≠ Str.ofString "name" := by decide +kernel
  have rb : (Str.ofString "relation" : Str) ≠ Str.ofString "name" := by decide +kernel
  have eb : (Str.ofString "end" : Str) ≠ Str.ofString "name" := by decide +kernel
  have b3 : (Str.ofString "name" : Str).length = 4 := by decide +kernel
  cases s with
  | num f => exact decide_eq_false (fun z => nb (V.str.inj z))
  | bad => exact decide_eq_false (fun z => ab (V.str.inj z))
  | rel r => exact decide_eq_false (fun z => rb (V.str.inj z))
  | fin => exact decide_eq_false (fun z => eb (V.str.inj z))
  | name x => exact decide_eq_true rfl
  | sign c => exact decide_eq_false (fun z => by
      have e := congrArg Str.length (V.str.inj z)
      rw [b3, show sortS (.sign c) = SX.S [c] from rfl, SX.S_len] at e
      cases e)
theorem sort_number (s : Sy) : decide (V.str (sortS s) = V.str (Str.ofString "number")) = isNu s := by
  have nb : (Str.ofString "name" : Str) ≠ Str.ofString "number" := by decide +kernel
  have ab : (Str.ofString "bad" : Str) ≠ Str.ofString "number" := by decide +kernel
  have rb : (Str.ofString "relation" : Str) ≠ Str.ofString "number" := by decide +kernel
  have eb : (Str.ofString "end" : Str) ≠ Str.ofString "number" := by decide +kernel
  have b3 : (Str.ofString "number" : Str).length = 6 := by decide +kernel
  cases s with
  | name f => exact decide_eq_false (fun z => nb (V.str.inj z))
  | bad => exact decide_eq_false (fun z => ab (V.str.inj z))
  | rel r => exact decide_eq_false (fun z => rb (V.str.inj z))
  | fin => exact decide_eq_false (fun z => eb (V.str.inj z))
  | num x => exact decide_eq_true rfl
  | sign c => exact decide_eq_false (fun z => by
      have e := congrArg Str.length (V.str.inj z)
      rw [b3, show sortS (.sign c) = SX.S [c] from rfl, SX.S_len] at e
      cases e)
theorem sort_sign (s : Sy) (c : Nat) : decide (V.str (sortS s) = V.str (SX.S [c])) = isSg c s := by
  have len : ∀ z : Str, z.length ≠ 1 → z ≠ SX.S [c] := fun z h e => h (by rw [e, SX.S_len]; rfl)
  cases s with
  | num f => exact decide_eq_false (fun z => len (Str.ofString "number") (by decide +kernel) (V.str.inj z))
  | name x => exact decide_eq_false (fun z => len (Str.ofString "name") (by decide +kernel) (V.str.inj z))
  | bad => exact decide_eq_false (fun z => len _ (by decide +kernel) (V.str.inj z))
  | rel r => exact decide_eq_false (fun z => len (Str.ofString "relation") (by decide +kernel) (V.str.inj z))
  | fin => exact decide_eq_false (fun z => len _ (by decide +kernel) (V.str.inj z))
  | sign d =>
    show decide (V.str (SX.S [d]) = V.str (SX.S [c])) = decide (d = c)
    rw [decide_eq_decide]
    constructor
    · intro z
      exact (List.cons.inj (S_inj (V.str.inj z))).1
    · intro z
      rw [z]
theorem starS : (Str.ofString "*" : Str) = SX.S [42] := by decide +kernel
section
variable {P : Program} {w : World} {K : PySem.W.Frag} {mg : Str → Option Value} {base : Heap} {fa : Nat → Addr} {fd : Nat → FuncData}
/-- a ParseError at i -/
def PEr (E : XK) (C : Addr) (H : Hp) (i : Nat) : Prop := ∀ d H', Same H H' → H' d = some (.xd [("tag", .str "ParseError"), ("at", .int (i : Int))]) → E (.ref C) (some d) H'
def spTerm (C : Addr) : Sp := fun vs H Q E => ∃ (D : Addr) (k : Nat) (S : List (Sy × Nat)), vs = [.ref D, .int (k : Int)] ∧ SL H D S ∧ WF S ∧ k < S.length ∧ S.length ≤ 901 ∧
  (∀ x f k', termP S k = .ok (x, f, k') → ∀ p pr H', Same H H' → H' p = some (.tup [vS x, .ref pr, .int ((k' : Nat) : Int)]) → H' pr = some (.tup [.int f.1, .int f.2]) → Q (.ref p) H') ∧
  (∀ i, termP S k = .error i → PEr E C H i)
theorem ok_p_read_term (T : Txt K mg fa fd) : FnOk P w K mg base (L2.CX P w) 3 (fa 82) (fd 82) ["symbols", "at"] (spTerm (fa 9)) := by
  refine T.F_p_read_term.okX sc_p_read_term (fun vs H Q E h => ?_) (fun cdv A outer s H vs Q E hr h => ?_)
  · obtain ⟨D, k, S, rfl, _⟩ := h
    rfl
  · obtain ⟨D, k, S, rfl, hS, hw, hk, hl, qo, qe⟩ := h
    refine ⟨_, (C8.pss_cut (ps_asg (pe_ix ix_list (pv 0) (pv 1) (fun _ _ => rfl)) (pg_tup (by rfl) (pgs_cons (pg_name (i := 2) sc_p_read_term.nd rfl (.inl rfl)) (pgs_cons (pg_name (i := 3) sc_p_read_term.nd rfl (.inl rfl)) (pgs_cons (pg_name (i := 4) sc_p_read_term.nd rfl (.inl rfl)) pgs_nil)))))
      (C8.pss_cut (ps_if (pt_cmpR op_eq (pv 2) pe_str (nomark _)) (pss_one (ps_ret (pe_tup (pa_cons (pv 3) (pa_cons (pe_tup (pa_cons pe_int (pa_cons pe_int pa_nil))) (pa_cons (pe_op op_add (pv 1) pe_int) pa_nil)))))) pss_nil)
      (C8.pss_cut (ps_if (pt_cmpR op_ne (pv 2) pe_str (nomark _)) (pss_one (ps_raise rfl (takes_of rfl rfl rfl rfl) (pmk_oex T.eParseError.oex T.eParseError.iC T.eParseError.tI (ok_ParseError T) (hr.mono (by decide)) T.bIParseError .nil pass0 (by rfl) T.eParseError.gC (pa_cons (pv 4) pa_nil)))) pss_nil)
      (C8.pss_cut (ps_if (pt_cmpR op_ne (pe_ix ix_tup (pe_ix ix_list (pv 0) (pe_op op_add (pv 1) pe_int) (fun _ _ => rfl)) pe_int (fun _ _ => rfl)) pe_str (nomark _)) (pss_one (ps_ret (pe_tup (pa_cons pe_str (pa_cons (pv 3) (pa_cons (pe_op op_add (pv 1) pe_int) pa_nil)))))) pss_nil)
      (C8.pss_cut (ps_if (pt_cmpR op_ne (pe_ix ix_tup (pe_ix ix_list (pv 0) (pe_op op_add (pv 1) pe_int) (fun _ _ => rfl)) pe_int (fun _ _ => rfl)) pe_str (nomark _)) (pss_one (ps_raise rfl (takes_of rfl rfl rfl rfl) (pmk_oex T.eParseError.oex T.eParseError.iC T.eParseError.tI (ok_ParseError T) (hr.mono (by decide)) T.bIParseError .nil pass0 (by rfl) T.eParseError.gC (pa_cons (pe_ix ix_tup (pe_ix ix_list (pv 0) (pe_op op_add (pv 1) pe_int) (fun _ _ => rfl)) pe_int (fun _ _ => rfl)) pa_nil)))) pss_nil)
      (pss_one (ps_ret (pe_tup (pa_cons (pe_ix ix_tup (pe_ix ix_list (pv 0) (pe_op op_add (pv 1) pe_int) (fun _ _ => rfl)) pe_int (fun _ _ => rfl)) (pa_cons (pv 3) (pa_cons (pe_op op_add (pv 1) pe_int) pa_nil))))))))))), ?_⟩
    obtain ⟨⟨s, i⟩, hs⟩ : ∃ si, S[k]? = some si := ⟨_, List.getElem?_eq_getElem hk⟩
    obtain ⟨xs, p, v, hq, hat, hp, hv⟩ := hS.at (K := K) hs
    refine ⟨fun σ H1 => H1 = H ∧ σ = [some (.ref D), some (.int k), some (.str (sortS s)), some v, some (.int (i : Int))], ⟨_, rfl, _, rfl, D, _, _, _, rfl, rfl, hq, hat, p, _, rfl, .inl (.inl hp), rfl, _, _, rfl, _, _, rfl, _, _, rfl, rfl, rfl, rfl⟩, fun σ H1 hM => ?_⟩
    obtain ⟨rfl, rfl⟩ := hM
    refine ⟨fun σ H2 => H2 = H1 ∧ isNm s = false ∧ σ = [some (.ref D), some (.int k), some (.str (sortS s)), some v, some (.int (i : Int))], ?_, fun σ H2 hM => ?_⟩
    · refine ⟨_, rfl, rfl, _, rfl, ?_⟩
      rw [sort_name]
      refine ite2 (fun c => ?_) (fun c => ⟨rfl, Bool.eq_false_iff.mpr c, rfl⟩)
      obtain ⟨x, rfl⟩ : ∃ x, s = .name x := by cases s <;> first | exact ⟨_, rfl⟩ | cases c
      have ev : v = vS x := hv
      subst ev
      have et : termP S k = .ok (x, (1, 1), k + 1) := by unfold termP; rw [hs]
      refine ⟨_, rfl, two_line, fun e ne => ⟨_, rfl, _, _, rfl, rfl, small_line (by show 3 ≤ 1000; decide), fun o no => ?_⟩⟩
      have se := same_upd (o := .tup [V.int 1, .int 1]) ne
      exact qo x (1, 1) (k + 1) et o e _ (se.trans (same_upd no)) upd_same (same_upd no _ _ upd_same)
    obtain ⟨rfl, nm, rfl⟩ := hM
    refine ⟨fun σ H3 => H3 = H2 ∧ isNu s = true ∧ σ = [some (.ref D), some (.int k), some (.str (sortS s)), some v, some (.int (i : Int))], ?_, fun σ H3 hM => ?_⟩
    · refine ⟨_, rfl, rfl, _, rfl, ?_⟩
      rw [sort_number]
      cases nu : isNu s with
      | true => exact iteF ⟨rfl, rfl, rfl⟩
      | false =>
        have et : termP S k = .error i := by
          unfold termP
          rw [hs]
          cases s with
          | num f => cases nu
          | name x => cases nm
          | rel r => rfl
          | sign c => rfl
          | fin => rfl
          | bad => rfl
        have qe := qe i et
        refine iteT ⟨_, rfl, ?_⟩
        refine ⟨by show 1 ≤ 1000; decide, fun a na => ⟨a, _, .int (i : Int), rfl, T.eParseError.oex, T.nParseError_at, T.eParseError.tag, upd_same, fun dx nd ne => ⟨rfl, dx, _, ?_, upd_same, ?_, ?_⟩⟩⟩
        · rw [upd_ne ne.symm, upd_same]
        · rw [upd_ne ne] at nd
          exact nd
        · have nd' : H2 dx = none := by
            rw [upd_ne ne] at nd
            exact nd
          refine qe dx _ (Same.del na nd' fun b o hb q => ?_) upd_same
          rw [upd_ne (ne_of_none q nd'), upd_ne hb, upd_ne (ne_of_none q nd'), upd_ne hb]
          exact q
    obtain ⟨rfl, nu, rfl⟩ := hM
    obtain ⟨f, rfl⟩ : ∃ f, s = .num f := by cases s <;> first | exact ⟨_, rfl⟩ | cases nu
    obtain ⟨pf, rfl, hpf⟩ : ∃ pf, v = .ref pf ∧ H3 pf = some (.tup [.int f.1, .int f.2]) := hv
    have k1 : k + 1 < S.length := hw k _ _ hs rfl (fun z e => by subst e; intro z; cases z)
    obtain ⟨⟨s1, i1⟩, hs1⟩ : ∃ si, S[k + 1]? = some si := ⟨_, List.getElem?_eq_getElem k1⟩
    obtain ⟨xs1, p1, v1, hq1, hat1, hp1, hv1⟩ := hS.at (K := K) hs1
    refine ⟨fun σ H4 => H4 = H3 ∧ isSg 42 s1 = true ∧ σ = [some (.ref D), some (.int k), some (.str (sortS (.num f))), some (.ref pf), some (.int (i : Int))], ?_, fun σ H4 hM => ?_⟩
    · refine ⟨_, rfl, _, rfl, _, _, rfl, rfl, D, _, _, _, rfl, rfl, hq1, hat1, p1, _, _, _, rfl, rfl, SqT.of hp1, rfl, rfl, _, rfl, ?_⟩
      rw [starS, sort_sign]
      cases sg : isSg 42 s1 with
      | true => exact iteF ⟨rfl, rfl, rfl⟩
      | false =>
        have et : termP S k = .ok ([], f, k + 1) := by
          unfold termP
          rw [hs]
          try dsimp only
          rw [hs1]
          split
          · rename_i h
            cases h
            cases sg
          · rfl
        refine iteT ⟨_, rfl, _, rfl, _, _, rfl, rfl, small_line (by show 3 ≤ 1000; decide), fun o no => ?_⟩
        rw [emptyS]
        exact qo [] f (k + 1) et o pf _ (same_upd no) upd_same (same_upd no _ _ hpf)
    obtain ⟨rfl, sg, rfl⟩ := hM
    obtain rfl : s1 = .sign 42 := by
      cases s1 with
      | sign c =>
        have : c = 42 := of_decide_eq_true sg
        rw [this]
      | _ => cases sg
    have k2 : k + 2 < S.length := hw (k + 1) _ _ hs1 rfl (fun z e => by subst e; intro z; cases z)
    obtain ⟨⟨s2, i2⟩, hs2⟩ : ∃ si, S[k + 2]? = some si := ⟨_, List.getElem?_eq_getElem k2⟩
    obtain ⟨xs2, p2, v2, hq2, hat2, hp2, hv2⟩ := hS.at (K := K) hs2
    refine ⟨fun σ H5 => H5 = H4 ∧ isNm s2 = true ∧ σ = [some (.ref D), some (.int k), some (.str (sortS (.num f))), some (.ref pf), some (.int (i : Int))], ?_, fun σ H5 hM => ?_⟩
    · refine ⟨_, rfl, _, rfl, _, _, rfl, rfl, D, _, _, _, rfl, rfl, hq2, hat2, p2, _, _, _, rfl, rfl, SqT.of hp2, rfl, rfl, _, rfl, ?_⟩
      rw [sort_name]
      cases nm2 : isNm s2 with
      | true => exact iteF ⟨rfl, rfl, rfl⟩
      | false =>
        have et : termP S k = .error i2 := by
          unfold termP
          rw [hs]
          try dsimp only
          rw [hs1]
          try dsimp only
          rw [hs2]
          cases s2 with
          | num f => rfl
          | name x => cases nm2
          | rel r => rfl
          | sign c => rfl
          | fin => rfl
          | bad => rfl
        have qe := qe i2 et
        refine iteT ⟨_, rfl, _, rfl, _, _, rfl, rfl, D, _, _, _, rfl, rfl, hq2, hat2, p2, _, _, _, rfl, rfl, SqT.of hp2, rfl, ?_⟩
        refine ⟨by show 1 ≤ 1000; decide, fun a na => ⟨a, _, .int (i2 : Int), rfl, T.eParseError.oex, T.nParseError_at, T.eParseError.tag, upd_same, fun dx nd ne => ⟨rfl, dx, _, ?_, upd_same, ?_, ?_⟩⟩⟩
        · rw [upd_ne ne.symm, upd_same]
        · rw [upd_ne ne] at nd
          exact nd
        · have nd' : H4 dx = none := by
            rw [upd_ne ne] at nd
            exact nd
          refine qe dx _ (Same.del na nd' fun b o hb q => ?_) upd_same
          rw [upd_ne (ne_of_none q nd'), upd_ne hb, upd_ne (ne_of_none q nd'), upd_ne hb]
          exact q
    obtain ⟨rfl, nm2, rfl⟩ := hM
    obtain ⟨x, rfl⟩ : ∃ x, s2 = .name x := by cases s2 <;> first | exact ⟨_, rfl⟩ | cases nm2
    have ev : v2 = vS x := hv2
    subst ev
    have et : termP S k = .ok (x, f, k + 3) := by
      unfold termP
      rw [hs]
      try dsimp only
      rw [hs1]
      try dsimp only
      rw [hs2]
      try rfl
    refine ⟨_, rfl, _, rfl, _, _, rfl, rfl, D, _, _, _, rfl, rfl, hq2, hat2, p2, _, _, _, rfl, rfl, SqT.of hp2, rfl, _, rfl, _, rfl, _, _, rfl, rfl, small_line (by show 3 ≤ 1000; decide), fun o no => ?_⟩
    exact qo x f (k + 3) et o pf _ (same_upd no) upd_same (same_upd no _ _ hpf)
end
/-! ### the mathematics of reduced ties -/
theorem lowT_self {u v : Int} (hv : v ≠ 0) : lowT u v * v = u * lowD u v := by
  have e1 := lowT_mul (u := u) hv
  have e2 := lowD_mul (u := u) hv
  generalize lowG u v = g at e1 e2
  generalize lowT u v = a at e1 ⊢
  generalize lowD u v = b at e2 ⊢
  subst e1 e2
  rw [← Int.mul_assoc, Int.mul_comm a g]
theorem lowG_scale (u v m : Int) (hm : m ≠ 0) : v ≠ 0 → lowG (u * m) (v * m) = lowG u v * m := fun hv => by
  have g : (Int.gcd (u * m) (v * m) : Int) = (Int.gcd u v : Int) * (m.natAbs : Int) := by
    rw [Int.gcd_mul_right]
    exact Int.natCast_mul _ _
  unfold lowG
  rw [g]
  rcases Int.lt_trichotomy m 0 with h | h | h
  · have em : (m.natAbs : Int) = -m := by omega
    rw [em, Int.mul_neg, Int.neg_neg]
    by_cases h2 : v < 0
    · have := Int.mul_pos_of_neg_of_neg h2 h
      rw [if_neg (by omega), if_pos h2, Int.neg_mul]
    · have := Int.mul_neg_of_pos_of_neg (show 0 < v by omega) h
      rw [if_pos this, if_neg h2]
  · exact absurd h hm
  · have em : (m.natAbs : Int) = m := by omega
    rw [em]
    by_cases h2 : v < 0
    · have := Int.mul_neg_of_neg_of_pos h2 h
      rw [if_pos this, if_pos h2, Int.neg_mul]
    · have := Int.mul_pos (show 0 < v by omega) h
      rw [if_neg (by omega), if_neg h2]
theorem fdiv_scale {g u m : Int} (hg : g ≠ 0) (hm : m ≠ 0) (hd : g ∣ u) : (u * m).fdiv (g * m) = u.fdiv g := by
  obtain ⟨t, rfl⟩ := hd
  have hgm : g * m ≠ 0 := Int.mul_ne_zero hg hm
  rw [Int.mul_fdiv_cancel_left _ hg, show g * t * m = g * m * t by rw [Int.mul_assoc, Int.mul_comm t m, Int.mul_assoc], Int.mul_fdiv_cancel_left _ hgm]
theorem lowT_scale {u v m : Int} (hm : m ≠ 0) (hv : v ≠ 0) : lowT (u * m) (v * m) = lowT u v := by
  unfold lowT
  rw [lowG_scale u v m hm hv]
  exact fdiv_scale (lowG_ne hv) hm (lowG_dvd_left u v)
theorem lowD_scale {u v m : Int} (hm : m ≠ 0) (hv : v ≠ 0) : lowD (u * m) (v * m) = lowD u v := by
  unfold lowD
  rw [lowG_scale u v m hm hv]
  exact fdiv_scale (lowG_ne hv) hm (lowG_dvd_right u v)
theorem lowG_one (u : Int) : lowG u 1 = 1 := by
  unfold lowG
  rw [if_neg (by decide), Int.gcd_one_right]
  rfl
theorem lowT_one (u : Int) : lowT u 1 = u := by
  unfold lowT
  rw [lowG_one, Int.fdiv_one]
theorem lowD_one (u : Int) : lowD u 1 = 1 := by
  unfold lowD
  rw [lowG_one]
  rfl
abbrev FR := Int × Int
def lowF (u v : Int) : FR := (lowT u v, lowD u v)
theorem low_cross {u v u' v' : Int} (hv : v ≠ 0) (hv' : v' ≠ 0) (h : u * v' = u' * v) : lowF u v = lowF u' v' := by
  unfold lowF
  rw [← lowT_scale hv' hv, ← lowD_scale hv' hv, h, ← lowT_scale (u := u') hv hv', ← lowD_scale (u := u') hv hv', Int.mul_comm v v']
/-- the least common denominator, as it is worked out -/
def lcmF (u : Int) : List FR → Int
  | [] => u
  | f :: r => lcmF ((u * f.2).fdiv (Int.gcd u f.2 : Nat)) r
def gcdF (L : Int) (g : Int) : List FR → Int
  | [] => g
  | f :: r => gcdF L (Int.gcd g (L.fdiv f.2 * f.1) : Nat) r
def scl (rs : List FR) : FR := lowF (lcmF 1 rs) (gcdF (lcmF 1 rs) 0 rs)
def redF (s f : FR) : FR := lowF (f.1 * s.1) (f.2 * s.2)
def gl (l : List Int) : Nat := l.foldr (fun m g => Nat.gcd m.natAbs g) 0
theorem gl_mul (A : Int) : ∀ l : List Int, gl (l.map (· * A)) = gl l * A.natAbs
  | [] => (Nat.zero_mul _).symm
  | m :: l => by
    show Nat.gcd (m * A).natAbs (gl (l.map (· * A))) = Nat.gcd m.natAbs (gl l) * A.natAbs
    rw [gl_mul A l, Int.natAbs_mul, Nat.gcd_mul_right]
theorem lcm_step {u d : Int} (hu : 0 < u) (hd : 0 < d) : 0 < (u * d).fdiv (Int.gcd u d : Nat) ∧ u ∣ (u * d).fdiv (Int.gcd u d : Nat) ∧ d ∣ (u * d).fdiv (Int.gcd u d : Nat) := by
  have gp : 0 < Int.gcd u d := gcd_pos (by omega)
  obtain ⟨a, ha⟩ := Int.gcd_dvd_left u d
  obtain ⟨b, hb⟩ := Int.gcd_dvd_right u d
  have g0 : ((Int.gcd u d : Nat) : Int) ≠ 0 := by omega
  have e : (u * d).fdiv (Int.gcd u d : Nat) = u * b := by
    rw [show u * d = ((Int.gcd u d : Nat) : Int) * (u * b) by
      rw [← Int.mul_assoc, Int.mul_comm _ u, Int.mul_assoc, ← hb]]
    exact Int.mul_fdiv_cancel_left _ g0
  have bp : 0 < b := by
    rcases Int.lt_trichotomy b 0 with h | h | h
    · have := Int.mul_neg_of_pos_of_neg (show (0 : Int) < (Int.gcd u d : Nat) by omega) h
      omega
    · rw [h, Int.mul_zero] at hb
      omega
    · exact h
  rw [e]
  refine ⟨Int.mul_pos hu bp, ⟨b, rfl⟩, ⟨a, ?_⟩⟩
  have : ((Int.gcd u d : Nat) : Int) * (u * b) = ((Int.gcd u d : Nat) : Int) * (d * a) := by
    calc ((Int.gcd u d : Nat) : Int) * (u * b) = u * (((Int.gcd u d : Nat) : Int) * b) := by rw [← Int.mul_assoc, Int.mul_comm _ u, Int.mul_assoc]
      _ = u * d := by rw [← hb]
      _ = d * u := Int.mul_comm ..
      _ = d * (((Int.gcd u d : Nat) : Int) * a) := by rw [← ha]
      _ = _ := by rw [← Int.mul_assoc, Int.mul_comm d, Int.mul_assoc]
  exact Int.eq_of_mul_eq_mul_left g0 this
theorem lcmF_ok : ∀ (rs : List FR) (u : Int), 0 < u → (∀ f ∈ rs, 0 < f.2) → 0 < lcmF u rs ∧ u ∣ lcmF u rs ∧ ∀ f ∈ rs, f.2 ∣ lcmF u rs
  | [], u, hu, _ => ⟨hu, ⟨1, (Int.mul_one u).symm⟩, fun _ h => nomatch h⟩
  | f :: r, u, hu, h => by
    have hf := h f List.mem_cons_self
    obtain ⟨h1, h2, h3⟩ := lcm_step hu hf
    obtain ⟨k1, k2, k3⟩ := lcmF_ok r _ h1 fun g hg => h g (List.mem_cons_of_mem _ hg)
    refine ⟨k1, Int.dvd_trans h2 k2, fun g hg => ?_⟩
    rcases List.mem_cons.mp hg with rfl | hg
    · exact Int.dvd_trans h3 k2
    · exact k3 g hg
theorem gcdF_gl (L : Int) : ∀ (rs : List FR) (g : Nat), gcdF L (g : Int) rs = (Nat.gcd g (gl (rs.map fun f => L.fdiv f.2 * f.1)) : Nat)
  | [], g => by
    show (g : Int) = (Nat.gcd g 0 : Nat)
    rw [Nat.gcd_zero_right]
  | f :: r, g => by
    show gcdF L (Int.gcd g (L.fdiv f.2 * f.1) : Nat) r = _
    rw [gcdF_gl L r]
    show ((Nat.gcd (Nat.gcd _ _) _ : Nat) : Int) = (Nat.gcd g (Nat.gcd _ _) : Nat)
    rw [Nat.gcd_assoc]
    rfl
theorem gl_dvd : ∀ (l : List Int) (m : Int), m ∈ l → (gl l : Int) ∣ m
  | a :: l, m, h => by
    have e1 : ((Nat.gcd a.natAbs (gl l) : Nat) : Int) ∣ a := Int.ofNat_dvd_left.mpr (Nat.gcd_dvd_left _ _)
    rcases List.mem_cons.mp h with rfl | h
    · exact e1
    · exact Int.dvd_trans (Int.natCast_dvd_natCast.mpr (Nat.gcd_dvd_right _ _)) (gl_dvd l m h)
/-- good rates -/
def RsOk (rs : List FR) : Prop := rs ≠ [] ∧ ∀ f ∈ rs, 0 < f.2 ∧ f.1 ≠ 0
theorem red_facts {rs : List FR} (h : RsOk rs) : ∃ L G : Int, 0 < L ∧ 0 < G ∧ lcmF 1 rs = L ∧ gcdF L 0 rs = G ∧ ∃ m : FR → Int, (∀ f ∈ rs, m f * G * f.2 = L * f.1) ∧ gl (rs.map m) = 1 := by
  obtain ⟨Lp, _, Ld⟩ := lcmF_ok rs 1 (by decide) fun f hf => (h.2 f hf).1
  have eG := gcdF_gl (lcmF 1 rs) rs 0
  rw [Nat.gcd_zero_left] at eG
  generalize lcmF 1 rs = L at Lp Ld eG ⊢
  have es : ∀ f ∈ rs, L.fdiv f.2 * f.1 * f.2 = L * f.1 ∧ L.fdiv f.2 * f.1 ≠ 0 := fun f hf => by
    obtain ⟨t, ht⟩ := Ld f hf
    have f0 : f.2 ≠ 0 := by have := (h.2 f hf).1; omega
    rw [ht, Int.mul_fdiv_cancel_left _ f0]
    refine ⟨by rw [Int.mul_comm f.2 t, Int.mul_right_comm], ?_⟩
    refine Int.mul_ne_zero (fun z => ?_) (h.2 f hf).2
    rw [z, Int.mul_zero] at ht
    omega
  have Gn : gl (rs.map fun f => L.fdiv f.2 * f.1) ≠ 0 := fun z => by
    obtain ⟨f, r, rfl⟩ : ∃ f r, rs = f :: r := by
      cases rs with
      | nil => exact absurd rfl h.1
      | cons f r => exact ⟨f, r, rfl⟩
    have := gl_dvd _ _ (List.mem_map_of_mem (f := fun f : FR => L.fdiv f.2 * f.1) (List.mem_cons_self (a := f) (l := r)))
    rw [z] at this
    exact (es f List.mem_cons_self).2 (Int.zero_dvd.mp this)
  refine ⟨L, gcdF L 0 rs, Lp, ?_, rfl, rfl, fun f => (L.fdiv f.2 * f.1).fdiv (gcdF L 0 rs), ?_, ?_⟩
  · rw [show gcdF L 0 rs = _ from eG]
    omega
  all_goals
    have eG : gcdF L 0 rs = _ := eG
    have dv : ∀ f ∈ rs, (L.fdiv f.2 * f.1).fdiv (gcdF L 0 rs) * gcdF L 0 rs = L.fdiv f.2 * f.1 := fun f hf => by
      have := gl_dvd _ _ (List.mem_map_of_mem (f := fun f : FR => L.fdiv f.2 * f.1) hf)
      rw [← eG] at this
      obtain ⟨t, ht⟩ := this
      rw [ht, Int.mul_fdiv_cancel_left _ (by rw [eG]; omega), Int.mul_comm]
  · intro f hf
    rw [dv f hf]
    exact (es f hf).1
  · have e2 := gl_mul (gcdF L 0 rs) (rs.map fun f => (L.fdiv f.2 * f.1).fdiv (gcdF L 0 rs))
    have cg : (rs.map fun f => (L.fdiv f.2 * f.1).fdiv (gcdF L 0 rs)).map (· * gcdF L 0 rs) = rs.map fun f => L.fdiv f.2 * f.1 := by
      rw [List.map_map]
      exact List.map_congr_left fun f hf => dv f hf
    rw [cg] at e2
    have e3 : (gcdF L 0 rs).natAbs = gl (rs.map fun f => L.fdiv f.2 * f.1) := by
      rw [eG]
      exact Int.natAbs_natCast _
    rw [e3] at e2
    have : 1 * gl (rs.map fun f => L.fdiv f.2 * f.1) = gl (rs.map fun f => (L.fdiv f.2 * f.1).fdiv (gcdF L 0 rs)) * gl (rs.map fun f => L.fdiv f.2 * f.1) := by rw [Nat.one_mul]; exact e2
    exact (Nat.eq_of_mul_eq_mul_right (by omega) this).symm
theorem cancel3 {k a b : Int} (hk : k ≠ 0) (h : k * a = k * b) : a = b := Int.eq_of_mul_eq_mul_left hk h
/-- a rate times the scale: a whole number -/
theorem redF_of {L G n d m : Int} (hL : 0 < L) (hG : 0 < G) (hd : 0 < d) (h : m * G * d = L * n) : redF (lowF L G) (n, d) = (m, 1) := by
  have e := lowT_self (u := L) (v := G) (by omega)
  have dp := lowD_pos (u := L) (v := G) (by omega)
  unfold redF lowF at *
  have := low_cross (u := n * lowT L G) (v := d * lowD L G) (u' := m) (v' := 1) (Int.mul_ne_zero (by omega) (by omega)) (by decide) ?_
  · unfold lowF at this
    rw [lowT_one, lowD_one] at this
    exact this
  · show n * lowT L G * 1 = m * (d * lowD L G)
    refine cancel3 (k := G) (by omega) ?_
    generalize lowT L G = a at *
    generalize lowD L G = b at *
    calc G * (n * a * 1) = n * (a * G) := by rw [Int.mul_one, Int.mul_comm G, Int.mul_assoc]
      _ = n * (L * b) := by rw [e]
      _ = L * n * b := by rw [← Int.mul_assoc, Int.mul_comm n L]
      _ = m * G * d * b := by rw [h]
      _ = G * (m * (d * b)) := by rw [Int.mul_comm m G, Int.mul_assoc, Int.mul_assoc]
theorem red_scaled {rs : List FR} (h : RsOk rs) {p q : Int} (hp : 0 < p) (hq : 0 < q) :
    RsOk (rs.map fun f => lowF (f.1 * p) (f.2 * q)) ∧ (∀ f ∈ rs, redF (scl (rs.map fun f => lowF (f.1 * p) (f.2 * q))) (lowF (f.1 * p) (f.2 * q)) = redF (scl rs) f) ∧
    ∀ b : FR, 0 < b.2 → redF (scl (rs.map fun f => lowF (f.1 * p) (f.2 * q))) (lowF (b.1 * p) (b.2 * q)) = redF (scl rs) b := by
  have fq : ∀ f ∈ rs, f.2 * q ≠ 0 := fun f hf => Int.mul_ne_zero (by have := (h.2 f hf).1; omega) (by omega)
  have h' : RsOk (rs.map fun f => lowF (f.1 * p) (f.2 * q)) := by
    refine ⟨fun z => h.1 (List.map_eq_nil_iff.mp z), fun g hg => ?_⟩
    obtain ⟨f, hf, rfl⟩ := List.mem_map.mp hg
    refine ⟨lowD_pos (fq f hf), fun z => ?_⟩
    have e := lowT_self (u := f.1 * p) (fq f hf)
    have z : lowT (f.1 * p) (f.2 * q) = 0 := z
    rw [z, Int.zero_mul] at e
    have dp := lowD_pos (u := f.1 * p) (fq f hf)
    exact (Int.mul_ne_zero (Int.mul_ne_zero (h.2 f hf).2 (by omega)) (by omega)) e.symm
  obtain ⟨L, G, Lp, Gp, eL, eG, m, hm, hg⟩ := red_facts h
  obtain ⟨L', G', Lp', Gp', eL', eG', m', hm', hg'⟩ := red_facts h'
  have es : scl rs = lowF L G := by unfold scl; rw [eL, eG]
  have es' : scl (rs.map fun f => lowF (f.1 * p) (f.2 * q)) = lowF L' G' := by unfold scl; rw [eL', eG']
  -- m' (G' q L) = m (L' p G)
  have key : ∀ f ∈ rs, m' (lowF (f.1 * p) (f.2 * q)) * (G' * q * L) = m f * (L' * p * G) := fun f hf => by
    have e1 := hm f hf
    have e2 := hm' _ (List.mem_map_of_mem (f := fun f : FR => lowF (f.1 * p) (f.2 * q)) hf)
    have e3 := lowT_self (u := f.1 * p) (fq f hf)
    have dp := lowD_pos (u := f.1 * p) (fq f hf)
    have fd := (h.2 f hf).1
    generalize m' (lowF (f.1 * p) (f.2 * q)) = M' at *
    change M' * G' * lowD (f.1 * p) (f.2 * q) = L' * lowT (f.1 * p) (f.2 * q) at e2
    generalize lowT (f.1 * p) (f.2 * q) = a at *
    generalize lowD (f.1 * p) (f.2 * q) = b at *
    generalize m f = M at *
    generalize f.1 = n at *
    generalize f.2 = d at *
    refine cancel3 (k := b * d) (Int.mul_ne_zero (by omega) (by omega)) ?_
    calc b * d * (M' * (G' * q * L)) = (M' * G' * b) * (d * q) * L := by ac_rfl
      _ = (L' * a) * (d * q) * L := by rw [e2]
      _ = L' * (a * (d * q)) * L := by ac_rfl
      _ = L' * (n * p * b) * L := by rw [e3]
      _ = L' * p * b * (L * n) := by ac_rfl
      _ = L' * p * b * (M * G * d) := by rw [e1]
      _ = b * d * (M * (L' * p * G)) := by ac_rfl
  have Bp : 0 < G' * q * L := Int.mul_pos (Int.mul_pos Gp' hq) Lp
  have Ap : 0 < L' * p * G := Int.mul_pos (Int.mul_pos Lp' hp) Gp
  have AB : G' * q * L = L' * p * G := by
    have g1 := gl_mul (G' * q * L) (rs.map fun f => m' (lowF (f.1 * p) (f.2 * q)))
    have g2 := gl_mul (L' * p * G) (rs.map m)
    have g3 : gl (rs.map fun f => m' (lowF (f.1 * p) (f.2 * q))) = 1 := by
      rw [List.map_map] at hg'
      exact hg'
    rw [g3, List.map_map, Nat.one_mul] at g1
    rw [hg, List.map_map, Nat.one_mul] at g2
    have g4 : rs.map ((· * (G' * q * L)) ∘ fun f => m' (lowF (f.1 * p) (f.2 * q))) = rs.map ((· * (L' * p * G)) ∘ m) := List.map_congr_left fun f hf => key f hf
    rw [g4, g2] at g1
    omega
  refine ⟨h', fun f hf => ?_, fun b hb => ?_⟩
  · have e := key f hf
    rw [AB] at e
    have e := Int.eq_of_mul_eq_mul_right (by omega) e
    rw [es, es', redF_of Lp Gp (h.2 f hf).1 (hm f hf), ← e]
    exact redF_of Lp' Gp' (lowD_pos (fq f hf)) (hm' _ (List.mem_map_of_mem (f := fun f : FR => lowF (f.1 * p) (f.2 * q)) hf))
  · rw [es, es']
    have bq : b.2 * q ≠ 0 := Int.mul_ne_zero (by omega) (by omega)
    have e3 := lowT_self (u := b.1 * p) bq
    have dp := lowD_pos (u := b.1 * p) bq
    have s1 := lowT_self (u := L) (v := G) (by omega)
    have s2 := lowT_self (u := L') (v := G') (by omega)
    have dp1 := lowD_pos (u := L) (v := G) (by omega)
    have dp2 := lowD_pos (u := L') (v := G') (by omega)
    unfold redF
    refine low_cross (Int.mul_ne_zero (show lowD (b.1 * p) (b.2 * q) ≠ 0 by omega) (show lowD L' G' ≠ 0 by omega)) (Int.mul_ne_zero (by omega) (show lowD L G ≠ 0 by omega)) ?_
    show lowT (b.1 * p) (b.2 * q) * lowT L' G' * (b.2 * lowD L G) = b.1 * lowT L G * (lowD (b.1 * p) (b.2 * q) * lowD L' G')
    generalize lowT (b.1 * p) (b.2 * q) = x at *
    generalize lowD (b.1 * p) (b.2 * q) = y at *
    generalize lowT L G = u at *
    generalize lowD L G = v at *
    generalize lowT L' G' = u' at *
    generalize lowD L' G' = v' at *
    refine cancel3 (k := q * G' * G) (Int.mul_ne_zero (Int.mul_ne_zero (by omega) (by omega)) (by omega)) ?_
    calc q * G' * G * (x * u' * (b.2 * v)) = (x * (b.2 * q)) * (u' * G') * (v * G) := by ac_rfl
      _ = (b.1 * p * y) * (L' * v') * (v * G) := by rw [e3, s2]
      _ = b.1 * y * v' * v * (L' * p * G) := by ac_rfl
      _ = b.1 * y * v' * v * (G' * q * L) := by rw [AB]
      _ = b.1 * (L * v) * y * v' * q * G' := by ac_rfl
      _ = b.1 * (u * G) * y * v' * q * G' := by rw [s1]
      _ = q * G' * G * (b.1 * u * (y * v')) := by ac_rfl
/-! ### sums of fractions -/
def addL (f g : FR) : FR := lowF (f.1 * g.2 + g.1 * f.2) (f.2 * g.2)
def subL (f g : FR) : FR := lowF (f.1 * g.2 - g.1 * f.2) (f.2 * g.2)
def mulL (f g : FR) : FR := lowF (f.1 * g.1) (f.2 * g.2)
def negF (f : FR) : FR := (-f.1, f.2)
def Nf (f : FR) : Prop := 0 < f.2 ∧ Int.gcd f.1 f.2 = 1
theorem nf_low {u v : Int} (h : v ≠ 0) : Nf (lowF u v) := ⟨lowD_pos h, low_gcd h⟩
theorem low_nf {f : FR} (h : Nf f) : lowF f.1 f.2 = f := by
  obtain ⟨a, b⟩ := low_one h.1 h.2
  unfold lowF
  rw [a, b]
theorem Nf.neg {f : FR} (h : Nf f) : Nf (negF f) := ⟨h.1, by show Int.gcd (-f.1) f.2 = 1; rw [Int.neg_gcd]; exact h.2⟩
theorem nf_01 : Nf (0, 1) := ⟨by decide, by decide⟩
theorem nf_11 : Nf (1, 1) := ⟨by decide, by decide⟩
theorem addL_nf {f g : FR} (hf : 0 < f.2) (hg : 0 < g.2) : Nf (addL f g) := nf_low (Int.mul_ne_zero (by omega) (by omega))
theorem subL_nf {f g : FR} (hf : 0 < f.2) (hg : 0 < g.2) : Nf (subL f g) := nf_low (Int.mul_ne_zero (by omega) (by omega))
theorem sub_add {a b c : FR} (ha : 0 < a.2) (hb : 0 < b.2) (hc : 0 < c.2) : addL (subL a b) (negF c) = subL a (addL b c) := by
  have v1 : a.2 * b.2 ≠ 0 := Int.mul_ne_zero (by omega) (by omega)
  have v2 : b.2 * c.2 ≠ 0 := Int.mul_ne_zero (by omega) (by omega)
  have e1 := lowT_self (u := a.1 * b.2 - b.1 * a.2) v1
  have e2 := lowT_self (u := b.1 * c.2 + c.1 * b.2) v2
  have p1 := lowD_pos (u := a.1 * b.2 - b.1 * a.2) v1
  have p2 := lowD_pos (u := b.1 * c.2 + c.1 * b.2) v2
  unfold addL subL negF
  unfold lowF at *
  dsimp only at *
  generalize lowT (a.1 * b.2 - b.1 * a.2) (a.2 * b.2) = t1 at *
  generalize lowD (a.1 * b.2 - b.1 * a.2) (a.2 * b.2) = d1 at *
  generalize lowT (b.1 * c.2 + c.1 * b.2) (b.2 * c.2) = t2 at *
  generalize lowD (b.1 * c.2 + c.1 * b.2) (b.2 * c.2) = d2 at *
  refine low_cross (Int.mul_ne_zero (by omega) (by omega)) (Int.mul_ne_zero (by omega) (by omega)) ?_
  refine Int.eq_of_mul_eq_mul_right (a := a.2 * b.2 * (b.2 * c.2)) (Int.mul_ne_zero v1 v2) ?_
  generalize a.1 = a1 at *
  generalize a.2 = a2 at *
  generalize b.1 = b1 at *
  generalize b.2 = b2 at *
  generalize c.1 = c1 at *
  generalize c.2 = c2 at *
  grind
theorem sub_zero {a : FR} (h : Nf a) : subL a (0, 1) = a := by
  unfold subL
  dsimp only
  rw [Int.mul_one, Int.zero_mul, Int.sub_zero, Int.mul_one]
  exact low_nf h
theorem lowF_neg {u v : Int} (h : v ≠ 0) : lowF (-u) v = negF (lowF u v) := by
  have n := (nf_low (u := u) h).neg
  rw [← low_nf n]
  have e := lowT_self (u := u) h
  have p := lowD_pos (u := u) h
  refine low_cross h (by show lowD u v ≠ 0; omega) ?_
  show -u * lowD u v = -lowT u v * v
  rw [Int.neg_mul, Int.neg_mul, e]
theorem sub_anti {a b : FR} (ha : 0 < a.2) (hb : 0 < b.2) : subL b a = negF (subL a b) := by
  unfold subL
  have v1 : a.2 * b.2 ≠ 0 := Int.mul_ne_zero (by omega) (by omega)
  rw [← lowF_neg v1, Int.mul_comm b.2 a.2]
  congr 1
  omega
theorem low_zero {u v : Int} (h : v ≠ 0) : (lowF u v).1 = 0 ↔ u = 0 := by
  have e := lowT_self (u := u) h
  have p := lowD_pos (u := u) h
  show lowT u v = 0 ↔ u = 0
  constructor
  · intro z
    rw [z, Int.zero_mul] at e
    rcases Int.mul_eq_zero.mp e.symm with y | y
    · exact y
    · omega
  · intro z
    subst z
    rw [Int.zero_mul] at e
    rcases Int.mul_eq_zero.mp e with y | y
    · exact y
    · exact absurd y h
theorem neg_neg {f : FR} : negF (negF f) = f := by
  unfold negF
  rw [Int.neg_neg]
/-- the rate of a name in a list of rates -/
abbrev It := List Nat × FR
def sumX (x : List Nat) (acc : FR) (l : List It) : FR := l.foldl (fun a it => if it.1 = x then addL a it.2 else a) acc
theorem sumX_nf (x : List Nat) : ∀ (l : List It) (acc : FR), Nf acc → (∀ it ∈ l, Nf it.2) → Nf (sumX x acc l)
  | [], _, h, _ => h
  | it :: l, acc, h, hl => by
    refine sumX_nf x l _ ?_ fun i hi => hl i (List.mem_cons_of_mem _ hi)
    show Nf (if it.1 = x then addL acc it.2 else acc)
    split
    · exact addL_nf h.1 (hl it List.mem_cons_self).1
    · exact h
theorem sumX_sub (x : List Nat) (a : FR) (ha : Nf a) : ∀ (l : List It) (b : FR), Nf b → (∀ it ∈ l, Nf it.2) → sumX x (subL a b) (l.map fun it => (it.1, negF it.2)) = subL a (sumX x b l)
  | [], _, _, _ => rfl
  | it :: l, b, hb, hl => by
    have h1 := hl it List.mem_cons_self
    have ih := fun b hb => sumX_sub x a ha l b hb fun i hi => hl i (List.mem_cons_of_mem _ hi)
    show sumX x (if it.1 = x then addL (subL a b) (negF it.2) else subL a b) _ = subL a (sumX x (if it.1 = x then addL b it.2 else b) l)
    split
    · rw [sub_add ha.1 hb.1 h1.1]
      exact ih _ (addL_nf hb.1 h1.1)
    · exact ih _ hb
theorem sumX_app (x : List Nat) (acc : FR) (l r : List It) : sumX x acc (l ++ r) = sumX x (sumX x acc l) r := List.foldl_append
theorem sumX_law (x : List Nat) {l r : List It} (hl : ∀ it ∈ l, Nf it.2) (hr : ∀ it ∈ r, Nf it.2) : sumX x (0, 1) (l ++ r.map fun it => (it.1, negF it.2)) = subL (sumX x (0, 1) l) (sumX x (0, 1) r) := by
  have h := sumX_nf x l (0, 1) nf_01 hl
  rw [sumX_app, ← sumX_sub x _ h r _ nf_01 hr, sub_zero h]
theorem sumX_none (x : List Nat) : ∀ (l : List It) (acc : FR), (∀ it ∈ l, it.1 ≠ x) → sumX x acc l = acc
  | [], _, _ => rfl
  | it :: l, acc, h => by
    show sumX x (if it.1 = x then _ else acc) l = acc
    rw [if_neg (h it List.mem_cons_self)]
    exact sumX_none x l acc fun i hi => h i (List.mem_cons_of_mem _ hi)
/-! ### sizes -/
def Bn (k : Nat) (f : FR) : Prop := f.1.natAbs < 2 ^ k ∧ f.2.natAbs < 2 ^ k
theorem Bn.mono {k j : Nat} {f : FR} (h : Bn k f) (l : k ≤ j) : Bn j f := ⟨Nat.lt_of_lt_of_le h.1 (Nat.pow_le_pow_right (by decide) l), Nat.lt_of_lt_of_le h.2 (Nat.pow_le_pow_right (by decide) l)⟩
theorem Bn.low {k : Nat} {u v : Int} (h : v ≠ 0) (h1 : u.natAbs < 2 ^ k) (h2 : v.natAbs < 2 ^ k) : Bn k (lowF u v) :=
  ⟨Nat.lt_of_le_of_lt (lowT_abs h) h1, Nat.lt_of_le_of_lt (lowD_abs h) h2⟩
theorem pow_mul_lt {k j a b : Nat} (h1 : a < 2 ^ k) (h2 : b < 2 ^ j) : a * b < 2 ^ (k + j) := by
  rw [Nat.pow_add]
  exact Nat.mul_lt_mul'' h1 h2
theorem Bn.add {k j : Nat} {f g : FR} (hf : Bn k f) (hg : Bn j g) (pf : 0 < f.2) (pg : 0 < g.2) : Bn (k + j + 1) (addL f g) := by
  refine Bn.low (Int.mul_ne_zero (by omega) (by omega)) ?_ ?_
  · have h1 : (f.1 * g.2).natAbs < 2 ^ (k + j) := by rw [Int.natAbs_mul]; exact pow_mul_lt hf.1 hg.2
    have h2 : (g.1 * f.2).natAbs < 2 ^ (k + j) := by rw [Int.natAbs_mul, Nat.mul_comm]; exact pow_mul_lt hf.2 hg.1
    have := Int.natAbs_add_le (f.1 * g.2) (g.1 * f.2)
    rw [Nat.pow_succ]
    omega
  · have h1 : (f.2 * g.2).natAbs < 2 ^ (k + j) := by rw [Int.natAbs_mul]; exact pow_mul_lt hf.2 hg.2
    rw [Nat.pow_succ]
    omega
theorem Bn.sub {k j : Nat} {f g : FR} (hf : Bn k f) (hg : Bn j g) (pf : 0 < f.2) (pg : 0 < g.2) : Bn (k + j + 1) (subL f g) := by
  refine Bn.low (Int.mul_ne_zero (by omega) (by omega)) ?_ ?_
  · have h1 : (f.1 * g.2).natAbs < 2 ^ (k + j) := by rw [Int.natAbs_mul]; exact pow_mul_lt hf.1 hg.2
    have h2 : (g.1 * f.2).natAbs < 2 ^ (k + j) := by rw [Int.natAbs_mul, Nat.mul_comm]; exact pow_mul_lt hf.2 hg.1
    have := Int.natAbs_sub_le (f.1 * g.2) (g.1 * f.2)
    rw [Nat.pow_succ]
    omega
  · have h1 : (f.2 * g.2).natAbs < 2 ^ (k + j) := by rw [Int.natAbs_mul]; exact pow_mul_lt hf.2 hg.2
    rw [Nat.pow_succ]
    omega
theorem Bn.mul {k j : Nat} {f g : FR} (hf : Bn k f) (hg : Bn j g) (pf : 0 < f.2) (pg : 0 < g.2) : Bn (k + j) (mulL f g) :=
  Bn.low (Int.mul_ne_zero (by omega) (by omega)) (by rw [Int.natAbs_mul]; exact pow_mul_lt hf.1 hg.1) (by rw [Int.natAbs_mul]; exact pow_mul_lt hf.2 hg.2)
theorem Bn.neg {k : Nat} {f : FR} (h : Bn k f) : Bn k (negF f) := ⟨by show (-f.1).natAbs < _; rw [Int.natAbs_neg]; exact h.1, h.2⟩
def bw (f : FR) : Nat := f.1.natAbs.log2 + f.2.natAbs.log2 + 1
theorem bw_bn (f : FR) : Bn (bw f) f := by
  have key : ∀ n : Nat, n < 2 ^ (n.log2 + 1) := fun n => Nat.lt_log2_self
  exact ⟨Nat.lt_of_lt_of_le (key _) (Nat.pow_le_pow_right (by decide) (by unfold bw; omega)), Nat.lt_of_lt_of_le (key _) (Nat.pow_le_pow_right (by decide) (by unfold bw; omega))⟩
def wIt (l : List It) : Nat := (l.map fun it => bw it.2 + 1).sum
theorem sumX_bn (x : List Nat) : ∀ (l : List It) (acc : FR) (k : Nat), Nf acc → Bn k acc → (∀ it ∈ l, Nf it.2) → Bn (k + wIt l) (sumX x acc l)
  | [], _, _, _, h, _ => h
  | it :: l, acc, k, hn, h, hl => by
    have h1 := hl it List.mem_cons_self
    have e : k + wIt (it :: l) = k + bw it.2 + 1 + wIt l := by
      unfold wIt
      rw [List.map_cons, List.sum_cons]
      omega
    rw [e]
    show Bn _ (sumX x (if it.1 = x then addL acc it.2 else acc) l)
    have hl' : ∀ i ∈ l, Nf i.2 := fun i hi => hl i (List.mem_cons_of_mem _ hi)
    split
    · exact sumX_bn x l _ _ (addL_nf hn.1 h1.1) (Bn.add h (bw_bn _) hn.1 h1.1) hl'
    · exact sumX_bn x l _ _ hn (h.mono (by omega)) hl'
theorem bn_01 : Bn 1 (0, 1) := ⟨by decide, by decide⟩
theorem log_bn {k : Nat} {z : Int} (h : z.natAbs < 2 ^ k) (hk : k ≤ 4096) : z.natAbs.log2 < 4096 ∨ z = 0 := by
  by_cases h0 : z.natAbs = 0
  · exact .inr (by omega)
  · exact .inl ((Nat.log2_lt h0).mpr (Nat.lt_of_lt_of_le h (Nat.pow_le_pow_right (by decide) hk)))
theorem log_lt {k : Nat} {n : Nat} (h : n < 2 ^ k) (hk : 0 < k) : n.log2 < k := by
  by_cases h0 : n = 0
  · rw [h0, Nat.log2_zero]
    exact hk
  · exact (Nat.log2_lt h0).mpr h
/-! ### what lists of symbols are like -/
def wSy : Sy → Nat
  | .num f => bw f + 1
  | .name _ => 2
  | _ => 0
def pm (c : Nat) : Bool := decide (c = 43 ∨ c = 45)
def isPm : Sy → Bool
  | .sign c => pm c
  | _ => false
def isFin : Sy → Bool
  | .fin => true
  | _ => false
def NumOk : Sy → Prop
  | .num f => Nf f ∧ 0 ≤ f.1
  | .name x => 0 < x.length ∧ x.length ≤ 7
  | _ => True
def wS (S : List (Sy × Nat)) : Nat := (S.map fun s => wSy s.1).sum
def cS (S : List (Sy × Nat)) : Nat := S.countP fun s => isPm s.1
def cT (t : List Nat) (k : Nat) : Nat := (t.drop k).countP pm
theorem num_lt (n : Nat) : n.log2 < 4 * (TL.numL n).length := by
  have a : NumText.AllDigits (TL.numL n) := (isD_iff.mp (isD_num n)).2
  have v := val_lt a
  have e : NumText.digitsVal (TL.numL n) = n := TL.numL_val n
  rw [e] at v
  have h0 : 0 < (TL.numL n).length := List.length_pos_iff.mpr (isD_iff.mp (isD_num n)).1
  refine log_lt ?_ (by omega)
  refine Nat.lt_of_lt_of_le v ?_
  rw [Nat.pow_mul]
  exact Nat.pow_le_pow_left (by decide) _
theorem num_w {w : List Nat} {f : FR} (h : progR w = some f) : bw f + 1 ≤ 5 * w.length := by
  obtain ⟨e, hd, _⟩ := prog_some h
  have h1 := num_lt f.1.natAbs
  have h2 := num_lt f.2.natAbs
  have l : w.length = (if f.1 < 0 then [45] else ([] : List Nat)).length + ((TL.numL f.1.natAbs).length + (if f.2 = 1 then ([] : List Nat) else 47 :: TL.numL f.2.natAbs).length) := by
    rw [e]
    unfold txtL
    rw [List.length_append, List.length_append]
  unfold bw
  by_cases c : f.2 = 1
  · rw [if_pos c] at l
    have : f.2.natAbs.log2 = 0 := by rw [c]; decide
    have p : 0 < (TL.numL f.1.natAbs).length := List.length_pos_iff.mpr (isD_iff.mp (isD_num _)).1
    simp only [List.length_nil] at l
    omega
  · rw [if_neg c] at l
    simp only [List.length_cons] at l
    omega
theorem num_nn {w : List Nat} {f : FR} (h : progR w = some f) {c : Nat} {r : List Nat} (hw : w = c :: r) (hc : dig c = true) : 0 ≤ f.1 := by
  obtain ⟨e, _, _⟩ := prog_some h
  rw [hw] at e
  unfold txtL at e
  by_cases z : f.1 < 0
  · rw [if_pos z] at e
    have e1 : c = 45 := (List.cons.inj e).1
    rw [e1] at hc
    exact absurd hc (by decide)
  · omega
theorem mid_head (t : List Nat) {k e : Nat} (h : k < t.length) (he : k < e) : ∃ r, mid t k e = t[k] :: r := by
  unfold mid
  rw [List.drop_eq_getElem_cons h, show e - k = (e - k - 1) + 1 by omega, List.take_succ_cons]
  exact ⟨_, rfl⟩
theorem cT_le (t : List Nat) {k e : Nat} (h : k ≤ e) : cT t e ≤ cT t k := by
  unfold cT
  rw [show t.drop e = (t.drop k).drop (e - k) by rw [List.drop_drop]; congr 1; omega]
  exact List.Sublist.countP_le (List.drop_sublist _ _)
theorem symP_ok (t : List Nat) {k : Nat} (h : k < t.length) (hb : isBad (symP t k).1 = false) :
    isFin (symP t k).1 = false ∧ NumOk (symP t k).1 ∧ wSy (symP t k).1 + 5 * k ≤ 5 * (symP t k).2 ∧ (if isPm (symP t k).1 then 1 else 0) + cT t (symP t k).2 ≤ cT t k := by
  obtain ⟨hl, hk⟩ := sym_le t h
  have hk := hk hb
  have ge : t.getD k 0 = t[k] := by rw [List.getD_eq_getElem?_getD, List.getElem?_eq_getElem h]; rfl
  have cl := cT_le t (Nat.le_of_lt hk)
  have e : symP t k = symC t[k] t k := by unfold symP; rw [ge]
  generalize hr : symP t k = r at *
  have e := e.symm
  clear hr
  unfold symC at e
  split at e
  · rename_i h1
    unfold numP at e
    dsimp only at e
    split at e
    · subst e
      cases hb
    · split at e
      · subst e
        cases hb
      · rename_i f hf
        subst e
        have e2 := runL_le numC t k (by omega)
        have hw := num_w hf
        have hk : k < runL numC t k := hk
        rw [mid_len t (Nat.le_of_lt hk) e2] at hw
        obtain ⟨r, hr⟩ := mid_head t h hk
        refine ⟨rfl, ⟨⟨(prog_some hf).2.1, (prog_some hf).2.2⟩, num_nn hf hr h1⟩, by show bw f + 1 + 5 * k ≤ 5 * runL numC t k; omega, ?_⟩
        show 0 + _ ≤ _
        rw [Nat.zero_add]
        exact cl
  · split at e
    · unfold nameP at e
      split at e
      · subst e
        cases hb
      · rename_i n6
        split at e
        · subst e
          have hk : k < runL lowc t k + 1 := hk
          have e1 := runL_ge lowc t k
          have ml := mid_len t (i := k) (j := runL lowc t k + 1) (by omega) hl
          exact ⟨rfl, ⟨by rw [ml]; omega, by rw [ml]; omega⟩, by show 2 + 5 * k ≤ 5 * (_ + 1); omega, by show 0 + _ ≤ _; rw [Nat.zero_add]; exact cl⟩
        · subst e
          have hk : k < runL lowc t k := hk
          have ml := mid_len t (i := k) (j := runL lowc t k) (by omega) hl
          exact ⟨rfl, ⟨by rw [ml]; omega, by rw [ml]; omega⟩, by show 2 + 5 * k ≤ 5 * _; omega, by show 0 + _ ≤ _; rw [Nat.zero_add]; exact cl⟩
    · split at e
      · subst e
        refine ⟨rfl, trivial, by show 0 + 5 * k ≤ 5 * (k + 1); omega, ?_⟩
        show (if pm t[k] then 1 else 0) + cT t (k + 1) ≤ cT t k
        unfold cT
        rw [List.drop_eq_getElem_cons h, List.countP_cons]
        exact Nat.le_of_eq (Nat.add_comm _ _)
      · split at e
        · subst e
          exact ⟨rfl, trivial, by show 0 + 5 * k ≤ 5 * (k + 1); omega, by show 0 + _ ≤ _; rw [Nat.zero_add]; exact cl⟩
        · split at e
          · subst e
            exact ⟨rfl, trivial, by show 0 + 5 * k ≤ 5 * (k + 2); omega, by show 0 + _ ≤ _; rw [Nat.zero_add]; exact cl⟩
          · subst e
            cases hb
/-- a list of symbols: the last one ends it -/
structure SyL (S : List (Sy × Nat)) (w c : Nat) : Prop where
  ends : ∃ dn z i, S = dn ++ [(z, i)] ∧ (isFin z = true ∨ isBad z = true) ∧ ∀ e ∈ dn, isFin e.1 = false ∧ isBad e.1 = false
  nums : ∀ e ∈ S, NumOk e.1
  wt : wS S ≤ w
  ct : cS S ≤ c
theorem symsL_ok (t : List Nat) : ∀ (n k : Nat), k ≤ t.length → SyL (symsL n t k) (5 * (t.length - k)) (cT t k)
  | 0, k, h => ⟨⟨[], .fin, _, rfl, .inl rfl, fun e h => by cases h⟩, fun e h => by rw [List.mem_singleton.mp h]; trivial, Nat.zero_le _, Nat.zero_le _⟩
  | n + 1, k, h => by
    unfold symsL
    split
    · rename_i hk
      split
      · exact ⟨⟨[], .bad, k, rfl, .inr rfl, fun e h => by cases h⟩, fun e h => by rw [List.mem_singleton.mp h]; trivial, Nat.zero_le _, Nat.zero_le _⟩
      · rename_i nb
        have nb := Bool.eq_false_iff.mpr nb
        obtain ⟨h1, h2, h3, h4⟩ := symP_ok t hk nb
        have e2 := (sym_le t hk).1
        have e3 := runL_ge spc t (symP t k).2
        have e4 := runL_le spc t _ e2
        have ih := symsL_ok t n _ e4
        have c2 := cT_le t e3
        refine ⟨?_, ?_, ?_, ?_⟩
        · obtain ⟨dn, z, i, e, hz, hd⟩ := ih.ends
          refine ⟨((symP t k).1, k) :: dn, z, i, by rw [e]; rfl, hz, fun e he => ?_⟩
          rcases List.mem_cons.mp he with rfl | he
          · exact ⟨h1, nb⟩
          · exact hd e he
        · intro e he
          rcases List.mem_cons.mp he with rfl | he
          · exact h2
          · exact ih.nums e he
        · have := ih.wt
          unfold wS at *
          rw [List.map_cons, List.sum_cons]
          show wSy (symP t k).1 + _ ≤ _
          omega
        · have := ih.ct
          unfold cS at *
          rw [List.countP_cons]
          show _ + (if isPm (symP t k).1 then 1 else 0) ≤ _
          omega
    · exact ⟨⟨[], .fin, _, rfl, .inl rfl, fun e h => by cases h⟩, fun e h => by rw [List.mem_singleton.mp h]; trivial, Nat.zero_le _, Nat.zero_le _⟩
theorem symsOf_ok (t : List Nat) : SyL (symsOf t) (5 * t.length) (cT t 0) := by
  have h := symsL_ok t t.length _ (runL_le spc t 0 (Nat.zero_le _))
  have c := cT_le t (runL_ge spc t 0)
  exact ⟨h.ends, h.nums, Nat.le_trans h.wt (by omega), Nat.le_trans h.ct c⟩
theorem SyL.wf {S : List (Sy × Nat)} {w c : Nat} (h : SyL S w c) : WF S := by
  obtain ⟨dn, z, i, rfl, hz, hd⟩ := h.ends
  intro k s j hs nb nf
  have hk := (List.getElem?_eq_some_iff.mp hs).1
  rw [List.length_append] at hk ⊢
  simp only [List.length_cons, List.length_nil] at *
  by_cases e : k = dn.length
  · subst e
    rw [List.getElem?_append_right (Nat.le_refl _), Nat.sub_self] at hs
    cases hs
    rcases hz with hz | hz
    · cases z with
      | fin => exact absurd rfl (nf _ rfl)
      | _ => cases hz
    · rw [hz] at nb
      cases nb
  · omega
theorem SyL.pos {S : List (Sy × Nat)} {w c : Nat} (h : SyL S w c) : 0 < S.length := by
  obtain ⟨dn, z, i, rfl, _⟩ := h.ends
  simp
theorem symsL_len (t : List Nat) : ∀ (n k : Nat), (symsL n t k).length ≤ n + 1
  | 0, _ => Nat.le_refl _
  | n + 1, k => by
    unfold symsL
    split
    · split
      · exact Nat.succ_le_succ (Nat.zero_le _)
      · exact Nat.succ_le_succ (symsL_len t n _)
    · exact Nat.succ_le_succ (Nat.zero_le _)
section
variable {P : Program} {w : World} {K : PySem.W.Frag} {mg : Str → Option Value} {base : Heap} {fa : Nat → Addr} {fd : Nat → FuncData}
/-! ### fractions, with numbers of any sort -/
theorem ok_p_ratio0 (T : Txt K mg fa fd) : FnOk P w K mg base CX0 3 (fa 20) (fd 20) ["top", "under"] spLow := by
  refine T.F_p_ratio.ok sc_p_ratio (fun vs H Q E h => ?_) (fun cdv A outer s H vs Q E hr h => ?_)
  · obtain ⟨x, y, rfl, _⟩ := h
    rfl
  · obtain ⟨u, v, rfl, ev, h9, q⟩ := h
    refine ⟨_, (pss_cons (ps_if (pt_cmpR op_eq (pv 1) pe_int (nomark _)) (pss_one ps_never) pss_nil)
      (pss_cons (ps_set (i := 2) sc_p_ratio.nd rfl (.inl rfl) (pe_call (ok_p_common_divisor T) (hr.mono (by decide)) (by rfl) T.g_p_common_divisor T.F_p_common_divisor.kp T.b_p_common_divisor .nil pass0 (pa_cons (pv 0) (pa_cons (pv 1) pa_nil))))
      (C8.pss_cut (ps_if (pt_cmpR op_lt (pv 1) pe_int (nomark _)) (pss_one (ps_set (i := 2) sc_p_ratio.nd rfl (.inl rfl) (pe_un un_neg (pv 2)))) pss_nil)
      (pss_one (ps_ret (pe_tup (pa_cons (pe_op op_fdivG (pv 0) (pv 2)) (pa_cons (pe_op op_fdivG (pv 1) (pv 2)) pa_nil)))))))), ?_⟩
    refine ⟨_, rfl, rfl, _, rfl, ite2 (fun e => absurd (V.int.inj (of_decide_eq_true e)) ev) (fun _ => ?_)⟩
    refine ⟨_, rfl, _, rfl, u, v, rfl, .inr h9, ?_⟩
    refine ⟨fun σ H1 => H1 = H ∧ σ = [some (.int u), some (.int v), some (.int (lowG u v))], ?_, fun σ H1 hM => ?_⟩
    · refine ⟨_, rfl, _, _, rfl, rfl, _, rfl, ite2 (fun e => ?_) (fun e => ?_)⟩
      · refine ⟨_, rfl, _, rfl, rfl, ?_⟩
        unfold lowG
        rw [if_pos (of_decide_eq_true e)]
        rfl
      · refine ⟨rfl, ?_⟩
        unfold lowG
        rw [if_neg (fun z => e (decide_eq_true z))]
        rfl
    · obtain ⟨rfl, rfl⟩ := hM
      have hG := lowG_ok (u := u) ev h9
      exact ⟨_, rfl, _, rfl, _, _, rfl, rfl, hG, _, rfl, _, rfl, _, _, rfl, rfl, hG, two_line, q⟩
theorem t0 {x y : V} : atI [x, y] 0 = some x := rfl
theorem t1 {x y : V} : atI [x, y] 1 = some y := rfl
abbrev FrK (K : PySem.W.Frag) (H : Hp) (p : Addr) (f : FR) : Prop := SqT K H p [.int f.1, .int f.2]
abbrev trF (f : FR) : HO := .tup [.int f.1, .int f.2]
theorem wide {k : Nat} {f g : FR} {x y : Int} (hk : k ≤ 2048) (h1 : x.natAbs < 2 ^ k) (h2 : y.natAbs < 2 ^ k) : CMulW x y := by
  have a := log_lt (n := x.natAbs) (k := 2048) (Nat.lt_of_lt_of_le h1 (Nat.pow_le_pow_right (by decide) hk)) (by decide)
  have b := log_lt (n := y.natAbs) (k := 2048) (Nat.lt_of_lt_of_le h2 (Nat.pow_le_pow_right (by decide) hk)) (by decide)
  show _ + _ < 1000000
  omega
theorem den9 {k : Nat} {x y : Int} (hk : k ≤ 2048) (h1 : x.natAbs < 2 ^ k) (h2 : y.natAbs < 2 ^ k) : (x * y).natAbs.log2 < 4096 := by
  rw [Int.natAbs_mul]
  exact log_lt (Nat.lt_of_lt_of_le (pow_mul_lt h1 h2) (Nat.pow_le_pow_right (by decide) (by omega))) (by decide)
def spBn (K : PySem.W.Frag) (G : FR → FR → FR) : Sp := fun vs H Q _ => ∃ (p q : Addr) (f g : FR), vs = [.ref p, .ref q] ∧ FrK K H p f ∧ FrK K H q g ∧ 0 < f.2 ∧ 0 < g.2 ∧ Bn 2048 f ∧ Bn 2048 g ∧ ∀ o, H o = none → Q (.ref o) (upd H o (trF (G f g)))
theorem ok_p_add (T : Txt K mg fa fd) : FnOk P w K mg base CX0 4 (fa 22) (fd 22) ["one", "other"] (spBn K addL) := by
  refine T.F_p_add.ok sc_p_add (fun vs H Q E h => ?_) (fun cdv A outer s H vs Q E hr h => ?_)
  · obtain ⟨p, q, f, g, rfl, _⟩ := h
    rfl
  · obtain ⟨p, r, f, g, rfl, hp, hr', pf, pg, sf, sg, q⟩ := h
    refine ⟨_, (pss_one (ps_ret (pe_call (ok_p_ratio0 T) (hr.mono (by decide)) (by rfl) T.g_p_ratio T.F_p_ratio.kp T.b_p_ratio .nil pass0 (pa_cons (pe_op op_add (pe_op op_mulW (pe_ix ix_tup (pv 0) pe_int (fun _ _ => rfl)) (pe_ix ix_tup (pv 1) pe_int (fun _ _ => rfl))) (pe_op op_mulW (pe_ix ix_tup (pv 1) pe_int (fun _ _ => rfl)) (pe_ix ix_tup (pv 0) pe_int (fun _ _ => rfl)))) (pa_cons (pe_op op_mulW (pe_ix ix_tup (pv 0) pe_int (fun _ _ => rfl)) (pe_ix ix_tup (pv 1) pe_int (fun _ _ => rfl))) pa_nil))))), ?_⟩
    exact ⟨_, rfl, p, _, _, _, rfl, rfl, hp, t0, _, rfl, r, _, _, _, rfl, rfl, hr', t1, _, _, rfl, rfl, wide (f := f) (g := g) (Nat.le_refl _) sf.1 sg.2,
      _, rfl, r, _, _, _, rfl, rfl, hr', t0, _, rfl, p, _, _, _, rfl, rfl, hp, t1, _, _, rfl, rfl, wide (f := f) (g := g) (Nat.le_refl _) sg.1 sf.2, _, _, rfl, rfl,
      _, rfl, p, _, _, _, rfl, rfl, hp, t1, _, rfl, r, _, _, _, rfl, rfl, hr', t1, _, _, rfl, rfl, wide (f := f) (g := g) (Nat.le_refl _) sf.2 sg.2, _, _, rfl, Int.mul_ne_zero (by omega) (by omega), den9 (Nat.le_refl _) sf.2 sg.2, q⟩
theorem ok_p_subtract (T : Txt K mg fa fd) : FnOk P w K mg base CX0 4 (fa 23) (fd 23) ["one", "other"] (spBn K subL) := by
  refine T.F_p_subtract.ok sc_p_subtract (fun vs H Q E h => ?_) (fun cdv A outer s H vs Q E hr h => ?_)
  · obtain ⟨p, q, f, g, rfl, _⟩ := h
    rfl
  · obtain ⟨p, r, f, g, rfl, hp, hr', pf, pg, sf, sg, q⟩ := h
    refine ⟨_, (pss_one (ps_ret (pe_call (ok_p_ratio0 T) (hr.mono (by decide)) (by rfl) T.g_p_ratio T.F_p_ratio.kp T.b_p_ratio .nil pass0 (pa_cons (pe_op op_sub (pe_op op_mulW (pe_ix ix_tup (pv 0) pe_int (fun _ _ => rfl)) (pe_ix ix_tup (pv 1) pe_int (fun _ _ => rfl))) (pe_op op_mulW (pe_ix ix_tup (pv 1) pe_int (fun _ _ => rfl)) (pe_ix ix_tup (pv 0) pe_int (fun _ _ => rfl)))) (pa_cons (pe_op op_mulW (pe_ix ix_tup (pv 0) pe_int (fun _ _ => rfl)) (pe_ix ix_tup (pv 1) pe_int (fun _ _ => rfl))) pa_nil))))), ?_⟩
    exact ⟨_, rfl, p, _, _, _, rfl, rfl, hp, t0, _, rfl, r, _, _, _, rfl, rfl, hr', t1, _, _, rfl, rfl, wide (f := f) (g := g) (Nat.le_refl _) sf.1 sg.2,
      _, rfl, r, _, _, _, rfl, rfl, hr', t0, _, rfl, p, _, _, _, rfl, rfl, hp, t1, _, _, rfl, rfl, wide (f := f) (g := g) (Nat.le_refl _) sg.1 sf.2, _, _, rfl, rfl,
      _, rfl, p, _, _, _, rfl, rfl, hp, t1, _, rfl, r, _, _, _, rfl, rfl, hr', t1, _, _, rfl, rfl, wide (f := f) (g := g) (Nat.le_refl _) sf.2 sg.2, _, _, rfl, Int.mul_ne_zero (by omega) (by omega), den9 (Nat.le_refl _) sf.2 sg.2, q⟩
theorem ok_p_multiply (T : Txt K mg fa fd) : FnOk P w K mg base CX0 4 (fa 24) (fd 24) ["one", "other"] (spBn K mulL) := by
  refine T.F_p_multiply.ok sc_p_multiply (fun vs H Q E h => ?_) (fun cdv A outer s H vs Q E hr h => ?_)
  · obtain ⟨p, q, f, g, rfl, _⟩ := h
    rfl
  · obtain ⟨p, r, f, g, rfl, hp, hr', pf, pg, sf, sg, q⟩ := h
    refine ⟨_, (pss_one (ps_ret (pe_call (ok_p_ratio0 T) (hr.mono (by decide)) (by rfl) T.g_p_ratio T.F_p_ratio.kp T.b_p_ratio .nil pass0 (pa_cons (pe_op op_mulW (pe_ix ix_tup (pv 0) pe_int (fun _ _ => rfl)) (pe_ix ix_tup (pv 1) pe_int (fun _ _ => rfl))) (pa_cons (pe_op op_mulW (pe_ix ix_tup (pv 0) pe_int (fun _ _ => rfl)) (pe_ix ix_tup (pv 1) pe_int (fun _ _ => rfl))) pa_nil))))), ?_⟩
    exact ⟨_, rfl, p, _, _, _, rfl, rfl, hp, t0, _, rfl, r, _, _, _, rfl, rfl, hr', t0, _, _, rfl, rfl, wide (f := f) (g := g) (Nat.le_refl _) sf.1 sg.1,
      _, rfl, p, _, _, _, rfl, rfl, hp, t1, _, rfl, r, _, _, _, rfl, rfl, hr', t1, _, _, rfl, rfl, wide (f := f) (g := g) (Nat.le_refl _) sf.2 sg.2, _, _, rfl, Int.mul_ne_zero (by omega) (by omega), den9 (Nat.le_refl _) sf.2 sg.2, q⟩
theorem ok_plus (T : Txt K mg fa fd) : FnOk P w K mg base CX0 4 (fa 146) (fd 146) ["_law_one", "_law_two"] (spBn K addL) := by
  refine T.F_plus.ok sc_plus (fun vs H Q E h => ?_) (fun cdv A outer s H vs Q E hr h => ?_)
  · obtain ⟨p, q, f, g, rfl, _⟩ := h
    rfl
  · obtain ⟨p, r, f, g, rfl, hp, hr', pf, pg, sf, sg, q⟩ := h
    refine ⟨_, (pss_one (ps_ret (pe_call (ok_low T) (hr.mono (by decide)) (by rfl) T.g_low T.F_low.kp T.b_low .nil pass0 (pa_cons (pe_op op_add (pe_op op_mulW (pe_ix ix_tup (pv 0) pe_int (fun _ _ => rfl)) (pe_ix ix_tup (pv 1) pe_int (fun _ _ => rfl))) (pe_op op_mulW (pe_ix ix_tup (pv 1) pe_int (fun _ _ => rfl)) (pe_ix ix_tup (pv 0) pe_int (fun _ _ => rfl)))) (pa_cons (pe_op op_mulW (pe_ix ix_tup (pv 0) pe_int (fun _ _ => rfl)) (pe_ix ix_tup (pv 1) pe_int (fun _ _ => rfl))) pa_nil))))), ?_⟩
    exact ⟨_, rfl, p, _, _, _, rfl, rfl, hp, t0, _, rfl, r, _, _, _, rfl, rfl, hr', t1, _, _, rfl, rfl, wide (f := f) (g := g) (Nat.le_refl _) sf.1 sg.2,
      _, rfl, r, _, _, _, rfl, rfl, hr', t0, _, rfl, p, _, _, _, rfl, rfl, hp, t1, _, _, rfl, rfl, wide (f := f) (g := g) (Nat.le_refl _) sg.1 sf.2, _, _, rfl, rfl,
      _, rfl, p, _, _, _, rfl, rfl, hp, t1, _, rfl, r, _, _, _, rfl, rfl, hr', t1, _, _, rfl, rfl, wide (f := f) (g := g) (Nat.le_refl _) sf.2 sg.2, _, _, rfl, Int.mul_ne_zero (by omega) (by omega), den9 (Nat.le_refl _) sf.2 sg.2, q⟩
theorem ok_by (T : Txt K mg fa fd) : FnOk P w K mg base CX0 4 (fa 147) (fd 147) ["_law_one", "_law_two"] (spBn K mulL) := by
  refine T.F_by.ok sc_by (fun vs H Q E h => ?_) (fun cdv A outer s H vs Q E hr h => ?_)
  · obtain ⟨p, q, f, g, rfl, _⟩ := h
    rfl
  · obtain ⟨p, r, f, g, rfl, hp, hr', pf, pg, sf, sg, q⟩ := h
    refine ⟨_, (pss_one (ps_ret (pe_call (ok_low T) (hr.mono (by decide)) (by rfl) T.g_low T.F_low.kp T.b_low .nil pass0 (pa_cons (pe_op op_mulW (pe_ix ix_tup (pv 0) pe_int (fun _ _ => rfl)) (pe_ix ix_tup (pv 1) pe_int (fun _ _ => rfl))) (pa_cons (pe_op op_mulW (pe_ix ix_tup (pv 0) pe_int (fun _ _ => rfl)) (pe_ix ix_tup (pv 1) pe_int (fun _ _ => rfl))) pa_nil))))), ?_⟩
    exact ⟨_, rfl, p, _, _, _, rfl, rfl, hp, t0, _, rfl, r, _, _, _, rfl, rfl, hr', t0, _, _, rfl, rfl, wide (f := f) (g := g) (Nat.le_refl _) sf.1 sg.1,
      _, rfl, p, _, _, _, rfl, rfl, hp, t1, _, rfl, r, _, _, _, rfl, rfl, hr', t1, _, _, rfl, rfl, wide (f := f) (g := g) (Nat.le_refl _) sf.2 sg.2, _, _, rfl, Int.mul_ne_zero (by omega) (by omega), den9 (Nat.le_refl _) sf.2 sg.2, q⟩
def spNeg (K : PySem.W.Frag) : Sp := fun vs H Q _ => ∃ (p : Addr) (f : FR), vs = [.ref p] ∧ FrK K H p f ∧ ∀ o, H o = none → Q (.ref o) (upd H o (trF (negF f)))
end
/-! ### sums, as they are read -/
def sgn (s : Int) (f : FR) : FR := (s * f.1, f.2)
def sumP : Nat → List (Sy × Nat) → Nat → Int → Except Nat (List It × Nat)
  | 0, _, _, _ => .error 0
  | n + 1, S, k, s => match termP S k with
    | .error i => .error i
    | .ok (x, f, k') => match S[k']? with
      | some (.sign c, _) => if c = 43 ∨ c = 45 then (match sumP n S (k' + 1) (if c = 43 then 1 else -1) with
          | .error i => .error i
          | .ok (l, k2) => .ok ((x, sgn s f) :: l, k2)) else .ok ([(x, sgn s f)], k')
      | _ => .ok ([(x, sgn s f)], k')
def headP (S : List (Sy × Nat)) (k : Nat) : Except Nat (List It × Nat) :=
  match S[k]? with
  | some (.sign c, _) => if c = 45 then sumP S.length S (k + 1) (-1) else sumP S.length S k 1
  | _ => sumP S.length S k 1
theorem sgn_nf {s : Int} (hs : s = 1 ∨ s = -1) {f : FR} (h : Nf f) : Nf (sgn s f) := by
  rcases hs with rfl | rfl
  · unfold sgn
    rw [Int.one_mul]
    exact h
  · unfold sgn
    rw [Int.neg_mul, Int.one_mul]
    exact h.neg
theorem sgn_bw {s : Int} (hs : s = 1 ∨ s = -1) (f : FR) : bw (sgn s f) = bw f := by
  rcases hs with rfl | rfl
  · unfold sgn
    rw [Int.one_mul]
  · unfold sgn bw
    rw [Int.neg_mul, Int.one_mul, Int.natAbs_neg]
theorem drop_at {S : List (Sy × Nat)} {k : Nat} {s : Sy} {i : Nat} (h : S[k]? = some (s, i)) : S.drop k = (s, i) :: S.drop (k + 1) := by
  obtain ⟨hk, e⟩ := List.getElem?_eq_some_iff.mp h
  rw [List.drop_eq_getElem_cons hk, e]
theorem wS_at {S : List (Sy × Nat)} {k : Nat} {s : Sy} {i : Nat} (h : S[k]? = some (s, i)) : wS (S.drop k) = wSy s + wS (S.drop (k + 1)) := by
  rw [drop_at h]
  unfold wS
  rw [List.map_cons, List.sum_cons]
theorem cS_at {S : List (Sy × Nat)} {k : Nat} {s : Sy} {i : Nat} (h : S[k]? = some (s, i)) : cS (S.drop k) = (if isPm s then 1 else 0) + cS (S.drop (k + 1)) := by
  rw [drop_at h]
  unfold cS
  rw [List.countP_cons, Nat.add_comm]
theorem termP_ok {S : List (Sy × Nat)} {w c : Nat} (hS : SyL S w c) {k k' : Nat} {x : List Nat} {f : FR} (h : termP S k = .ok (x, f, k')) :
    (Nf f ∧ x.length ≤ 7) ∧ k < k' ∧ k' < S.length ∧ bw f + 1 + wS (S.drop k') ≤ wS (S.drop k) ∧ cS (S.drop k') ≤ cS (S.drop k) := by
  have wf := hS.wf
  unfold termP at h
  split at h
  · rename_i y i e
    cases h
    have w1 := wS_at e
    have c1 := cS_at e
    have l := wf k _ _ e rfl (fun z q => by subst q; intro q2; cases q2)
    refine ⟨⟨nf_11, (hS.nums _ (List.mem_of_getElem? e)).2⟩, Nat.lt_succ_self _, l, ?_, by omega⟩
    have : bw (1, 1) + 1 = 2 := by decide
    have : wSy (.name x) = 2 := rfl
    omega
  · rename_i g i e
    have w1 := wS_at e
    have c1 := cS_at e
    have l := wf k _ _ e rfl (fun z q => by subst q; intro q2; cases q2)
    have ng := (hS.nums _ (List.mem_of_getElem? e)).1
    have wg : wSy (.num g) = bw g + 1 := rfl
    split at h
    · rename_i j e1
      have w2 : wS (S.drop (k + 1)) = _ + wS (S.drop (k + 2)) := wS_at e1
      have c2 : cS (S.drop (k + 1)) = _ + cS (S.drop (k + 2)) := cS_at e1
      have l2 := wf (k + 1) _ _ e1 rfl (fun z q => by subst q; intro q2; cases q2)
      split at h
      · rename_i y j2 e2
        cases h
        have w3 : wS (S.drop (k + 2)) = _ + wS (S.drop (k + 3)) := wS_at e2
        have c3 : cS (S.drop (k + 2)) = _ + cS (S.drop (k + 3)) := cS_at e2
        have l3 := wf (k + 2) _ _ e2 rfl (fun z q => by subst q; intro q2; cases q2)
        exact ⟨⟨ng, (hS.nums _ (List.mem_of_getElem? e2)).2⟩, by omega, l3, by omega, by omega⟩
      · cases h
      · cases h
    · cases h
      exact ⟨⟨ng, Nat.zero_le _⟩, Nat.lt_succ_self _, l, by omega, by omega⟩
  · cases h
  · cases h
/-- what is told of a sum that was read -/
def SumOk (S : List (Sy × Nat)) (k : Nat) (l : List It) (k' : Nat) : Prop := (∀ it ∈ l, Nf it.2 ∧ it.1.length ≤ 7) ∧ wIt l + wS (S.drop k') ≤ wS (S.drop k) ∧ l.length + cS (S.drop k') ≤ cS (S.drop k) + 1 ∧ k < k' ∧ k' < S.length
theorem sumP_ok {S : List (Sy × Nat)} {w c : Nat} (hS : SyL S w c) : ∀ (n k : Nat) (s : Int) (l : List It) (k' : Nat), (s = 1 ∨ s = -1) → sumP n S k s = .ok (l, k') → SumOk S k l k'
  | 0, _, _, _, _, _, h => by cases h
  | n + 1, k, s, l, k', hs, h => by
    have wf := hS.wf
    unfold sumP at h
    split at h
    · cases h
    · rename_i x f k1 e
      obtain ⟨⟨nf, x7⟩, lk, ll, hw, hc⟩ := termP_ok hS e
      have base : SumOk S k [(x, sgn s f)] k1 := by
        refine ⟨fun it hit => by rw [List.mem_singleton.mp hit]; exact ⟨sgn_nf hs nf, x7⟩, ?_, by show 1 + _ ≤ _; omega, lk, ll⟩
        show bw (sgn s f) + 1 + 0 + _ ≤ _
        rw [sgn_bw hs]
        omega
      split at h
      · rename_i cc i e1
        split at h
        · rename_i hcc
          split at h
          · cases h
          · rename_i l2 k2 e2
            cases h
            have l1 := wf k1 _ _ e1 rfl (fun z q => by subst q; intro q2; cases q2)
            have hs2 : (if cc = 43 then (1 : Int) else -1) = 1 ∨ (if cc = 43 then (1 : Int) else -1) = -1 := by split <;> simp
            obtain ⟨h1, h2, h3, h4, h5⟩ := sumP_ok hS n (k1 + 1) _ l2 k' hs2 e2
            have w1 := wS_at e1
            have c1 := cS_at e1
            have cp : (if isPm (.sign cc) then 1 else 0) = 1 := by
              show (if decide (cc = 43 ∨ cc = 45) = true then 1 else 0) = 1
              rw [decide_eq_true hcc]
              rfl
            rw [cp] at c1
            refine ⟨fun it hit => ?_, ?_, ?_, by omega, h5⟩
            · rcases List.mem_cons.mp hit with rfl | hit
              · exact ⟨sgn_nf hs nf, x7⟩
              · exact h1 it hit
            · show (bw (sgn s f) + 1 + wIt l2) + _ ≤ _
              rw [sgn_bw hs]
              omega
            · rw [List.length_cons]
              omega
        · cases h
          exact base
      · cases h
        exact base
theorem headP_ok {S : List (Sy × Nat)} {w c : Nat} (hS : SyL S w c) {k k' : Nat} {l : List It} (h : headP S k = .ok (l, k')) : SumOk S k l k' := by
  unfold headP at h
  split at h
  · rename_i cc i e
    split at h
    · obtain ⟨h1, h2, h3, h4, h5⟩ := sumP_ok hS _ _ _ _ _ (.inr rfl) h
      have w1 := wS_at e
      have c1 := cS_at e
      exact ⟨h1, by omega, by omega, by omega, h5⟩
    · exact sumP_ok hS _ _ _ _ _ (.inl rfl) h
  · exact sumP_ok hS _ _ _ _ _ (.inl rfl) h
/-! ### dicts of rates -/
theorem nd_snoc8 {α : Type} {l : List α} {k : α} (h : l.Nodup) (n : ¬ k ∈ l) : (l ++ [k]).Nodup := by
  rw [List.nodup_append]
  refine ⟨h, by simp, fun a ha b hb e => ?_⟩
  rw [List.mem_singleton.mp hb] at e
  rw [e] at ha
  exact n ha
theorem valV_in8 : ∀ {kvs : List (Key × V)} {k : Key} {v : V}, valV kvs k = some v → k ∈ kvs.map (·.1)
  | [], k, v, h => by cases h
  | p :: r, k, v, h => by
    by_cases e : p.1 = k
    · rw [List.map_cons, e]
      exact List.mem_cons_self
    · rw [valV_neg e] at h
      exact List.mem_cons_of_mem _ (valV_in8 h)
def keyOf (x : List Nat) : Key := .inr (SX.S x)
theorem key_inj {x y : List Nat} (h : keyOf x = keyOf y) : x = y := S_inj (Sum.inr.inj h)
def addN (N : List (List Nat)) (x : List Nat) : List (List Nat) := if x ∈ N then N else N ++ [x]
def setV (val : List Nat → FR) (x : List Nat) (f : FR) : List Nat → FR := fun y => if y = x then f else val y
theorem addN_len (N : List (List Nat)) (x : List Nat) : (addN N x).length ≤ N.length + 1 := by
  unfold addN
  split
  · omega
  · rw [List.length_append]
    exact Nat.le_refl _
theorem mem_addN {N : List (List Nat)} {x y : List Nat} : y ∈ addN N x ↔ y ∈ N ∨ y = x := by
  unfold addN
  split
  · rename_i h
    exact ⟨.inl, fun z => z.elim id fun e => by rw [e]; exact h⟩
  · rw [List.mem_append, List.mem_singleton]
theorem addN_nodup {N : List (List Nat)} (h : N.Nodup) (x : List Nat) : (addN N x).Nodup := by
  unfold addN
  split
  · exact h
  · rename_i n
    exact nd_snoc8 h n
/-- a rate in a dict: nought, or a tuple that was made -/
def FrV (K : PySem.W.Frag) (H : Hp) (p : Addr) (f : FR) : Prop := FrK K H p f ∧ (f = (0, 1) ∨ H p = some (trF f))
def Tr (K : PySem.W.Frag) (H H' : Hp) : Prop := (∀ p xs, SqT K H p xs → SqT K H' p xs) ∧ ∀ p xs, H p = some (.tup xs) → H' p = some (.tup xs)
def RDk (K : PySem.W.Frag) (H : Hp) (kvs : List (Key × V)) (N : List (List Nat)) (val : List Nat → FR) : Prop :=
  kvs.map (·.1) = N.map keyOf ∧ N.Nodup ∧ ∀ x ∈ N, ∃ p, valV kvs (keyOf x) = some (.ref p) ∧ FrV K H p (val x)
def RD (K : PySem.W.Frag) (H : Hp) (d : Addr) (N : List (List Nat)) (val : List Nat → FR) : Prop := ∃ kvs, H d = some (.dK kvs) ∧ RDk K H kvs N val
theorem RDk.len {K : PySem.W.Frag} {H : Hp} {kvs : List (Key × V)} {N : List (List Nat)} {val : List Nat → FR} (h : RDk K H kvs N val) : kvs.length = N.length := by
  have := congrArg List.length h.1
  rw [List.length_map, List.length_map] at this
  exact this
theorem RDk.none {K : PySem.W.Frag} {H : Hp} {kvs : List (Key × V)} {N : List (List Nat)} {val : List Nat → FR} (h : RDk K H kvs N val) {x : List Nat} (n : x ∉ N) : valV kvs (keyOf x) = .none := by
  cases e : valV kvs (keyOf x) with
  | none => rfl
  | some v =>
    have m := valV_in8 e
    rw [h.1] at m
    obtain ⟨y, hy, ey⟩ := List.mem_map.mp m
    rw [key_inj ey] at hy
    exact absurd hy n
theorem RDk.mono {K : PySem.W.Frag} {H H' : Hp} {kvs : List (Key × V)} {N : List (List Nat)} {val : List Nat → FR} (h : RDk K H kvs N val) (t : Tr K H H') : RDk K H' kvs N val := by
  refine ⟨h.1, h.2.1, fun x hx => ?_⟩
  obtain ⟨p, e, f⟩ := h.2.2 x hx
  exact ⟨p, e, t.1 _ _ f.1, f.2.imp id (t.2 _ _)⟩
theorem put_keys (kvs : List (Key × V)) (k : Key) (v : V) : (putK kvs k v).map (·.1) = if (valV kvs k).isSome = true then kvs.map (·.1) else kvs.map (·.1) ++ [k] := by
  unfold putK
  rw [valV_any]
  split
  · rw [List.map_map]
    refine List.map_congr_left fun kv _ => ?_
    show (if kv.1 = k then (kv.1, v) else kv).1 = kv.1
    split <;> rfl
  · rw [List.map_append]
    rfl
theorem RDk.put {K : PySem.W.Frag} {H : Hp} {kvs : List (Key × V)} {N : List (List Nat)} {val : List Nat → FR} (h : RDk K H kvs N val) {x : List Nat} {o : Addr} {f : FR} (ho : H o = some (trF f)) : RDk K H (putK kvs (keyOf x) (.ref o)) (addN N x) (setV val x f) := by
  refine ⟨?_, addN_nodup h.2.1 x, fun y hy => ?_⟩
  · rw [put_keys, h.1]
    unfold addN
    by_cases m : x ∈ N
    · obtain ⟨p, e, _⟩ := h.2.2 x m
      rw [e, if_pos m]
      rfl
    · rw [h.none m, if_neg (by decide), if_neg m, List.map_append]
      rfl
  · rw [valV_put]
    by_cases e : y = x
    · subst e
      refine ⟨o, if_pos rfl, ?_⟩
      unfold setV
      rw [if_pos rfl]
      exact ⟨SqT.of ho, .inr ho⟩
    · have hy : y ∈ N := (mem_addN.mp hy).resolve_right e
      obtain ⟨p, e2, f2⟩ := h.2.2 y hy
      refine ⟨p, ?_, ?_⟩
      · rw [if_neg fun z => e (key_inj z)]
        exact e2
      · unfold setV
        rw [if_neg e]
        exact f2
theorem Tr.updD {K : PySem.W.Frag} {H : Hp} {d : Addr} {kvs ks : List (Key × V)} (hd : H d = some (.dK kvs)) : Tr K H (upd H d (.dK ks)) := ⟨fun p xs h => by
  rcases h with (h | ⟨o, h⟩) | h
  · refine .inl (.inl ?_)
    rw [upd_ne (fun e => by rw [e, hd] at h; cases h)]
    exact h
  · refine .inl (.inr ⟨o, ?_⟩)
    rw [upd_ne (fun e => by rw [e, hd] at h; cases h)]
    exact h
  · exact .inr h, fun p xs h => by
  rw [upd_ne (fun e => by rw [e, hd] at h; cases h)]
  exact h⟩
theorem SqT.sm {K : PySem.W.Frag} {H H' : Hp} (s : Same H H') : ∀ p xs, SqT K H p xs → SqT K H' p xs := fun p xs h => by
  rcases h with (h | ⟨o, h⟩) | h
  · exact .inl (.inl (s _ _ h))
  · exact .inl (.inr ⟨o, s _ _ h⟩)
  · exact .inr h
theorem Tr.sm {K : PySem.W.Frag} {H H' : Hp} (s : Same H H') : Tr K H H' := ⟨SqT.sm s, fun p _ h => s p _ h⟩
theorem RD.same {K : PySem.W.Frag} {H H' : Hp} {d : Addr} {N : List (List Nat)} {val : List Nat → FR} (h : RD K H d N val) (s : Same H H') : RD K H' d N val := by
  obtain ⟨kvs, e, h⟩ := h
  exact ⟨kvs, s _ _ e, h.mono (Tr.sm s)⟩
def keysL (l : List It) : List (List Nat) := l.foldl (fun N it => addN N it.1) [[]]
def valL (l : List It) : List Nat → FR := fun x => sumX x (0, 1) l
theorem keysL_snoc (l : List It) (it : It) : keysL (l ++ [it]) = addN (keysL l) it.1 := by
  unfold keysL
  rw [List.foldl_append]
  rfl
theorem valL_snoc (l : List It) (x : List Nat) (f : FR) : valL (l ++ [(x, f)]) = setV (valL l) x (addL (valL l x) f) := by
  funext y
  unfold valL setV
  rw [sumX_app]
  show (if x = y then addL (sumX y (0, 1) l) f else sumX y (0, 1) l) = _
  by_cases e : y = x
  · subst e
    rw [if_pos rfl]
  · rw [if_neg (fun z => e z.symm), if_neg e]
theorem foldN_mem {y : List Nat} : ∀ (l : List It) (N : List (List Nat)), y ∈ l.foldl (fun N it => addN N it.1) N ↔ y ∈ N ∨ ∃ it ∈ l, it.1 = y
  | [], N => by simp
  | it :: l, N => by
    show y ∈ l.foldl _ (addN N it.1) ↔ _
    rw [foldN_mem l, mem_addN]
    constructor
    · rintro ((h | h) | ⟨i, hi, e⟩)
      · exact .inl h
      · exact .inr ⟨it, List.mem_cons_self, h.symm⟩
      · exact .inr ⟨i, List.mem_cons_of_mem _ hi, e⟩
    · rintro (h | ⟨i, hi, e⟩)
      · exact .inl (.inl h)
      · rcases List.mem_cons.mp hi with rfl | hi
        · exact .inl (.inr e.symm)
        · exact .inr ⟨i, hi, e⟩
theorem valL_none {l : List It} {x : List Nat} (h : x ∉ keysL l) : valL l x = (0, 1) :=
  sumX_none x l _ fun it hit e => h ((foldN_mem l _).mpr (.inr ⟨it, hit, e⟩))
theorem foldN_len : ∀ (l : List It) (N : List (List Nat)), (l.foldl (fun N it => addN N it.1) N).length ≤ N.length + l.length
  | [], _ => Nat.le_refl _
  | it :: l, N => by
    have h := foldN_len l (addN N it.1)
    have := addN_len N it.1
    rw [List.length_cons]
    show (l.foldl _ (addN N it.1)).length ≤ _
    omega
theorem keysL_len (l : List It) : (keysL l).length ≤ l.length + 1 := by
  have := foldN_len l [[]]
  rw [List.length_singleton] at this
  show (keysL l).length ≤ _
  unfold keysL
  omega
theorem plusS : (Str.ofString "+" : Str) = SX.S [43] := by decide +kernel
theorem sort_pm (s : Sy) : inV (V.str (sortS s)) [V.str (Str.ofString "+"), .str (Str.ofString "-")] = isPm s := by
  have e : inV (V.str (sortS s)) [V.str (Str.ofString "+"), .str (Str.ofString "-")] = (decide (V.str (sortS s) = V.str (SX.S [43])) || decide (V.str (sortS s) = V.str (SX.S [45]))) := by
    rw [plusS, dash]
    show ((SX.S [43] == sortS s) || ((SX.S [45] == sortS s) || false)) = _
    rw [Bool.or_false, Bool.eq_iff_iff, Bool.or_eq_true, Bool.or_eq_true, beq_iff_eq, beq_iff_eq, decide_eq_true_eq, decide_eq_true_eq]
    constructor
    · rintro (h | h)
      · exact .inl (by rw [h])
      · exact .inr (by rw [h])
    · rintro (h | h)
      · exact .inl (V.str.inj h).symm
      · exact .inr (V.str.inj h).symm
  rw [e, sort_sign, sort_sign]
  cases s with
  | sign c =>
    show (decide (c = 43) || decide (c = 45)) = decide (c = 43 ∨ c = 45)
    rw [Bool.eq_iff_iff]
    simp only [Bool.or_eq_true, decide_eq_true_eq]
  | _ => rfl
theorem wS_drop : ∀ (S : List (Sy × Nat)) (k : Nat), wS (S.drop k) ≤ wS S
  | [], _ => by rw [List.drop_nil]; exact Nat.le_refl _
  | _ :: _, 0 => Nat.le_refl _
  | e :: S, k + 1 => by
    have := wS_drop S k
    have e2 : wS (e :: S) = wSy e.1 + wS S := by
      unfold wS
      rw [List.map_cons, List.sum_cons]
    rw [List.drop_succ_cons]
    omega
theorem cS_drop (S : List (Sy × Nat)) (k : Nat) : cS (S.drop k) ≤ cS S := List.Sublist.countP_le (List.drop_sublist _ _)
def cmb (dn : List It) : Except Nat (List It × Nat) → Except Nat (List It × Nat)
  | .error i => .error i
  | .ok (l, k) => .ok (dn ++ l, k)
def WSum (K : PySem.W.Frag) (H : Hp) (D d : Addr) (S : List (Sy × Nat)) (k0 : Nat) : Nat → L2.St → Hp → Prop := fun m σ G => ∃ (k n : Nat) (s : Int) (dn : List It) (y4 y5 : Option V), m = S.length - k ∧ k < S.length ∧ S.length - k ≤ n ∧ headP S k0 = cmb dn (sumP n S k s) ∧ (s = 1 ∨ s = -1) ∧ Same H G ∧ RD K G d (keysL dn) (valL dn) ∧ (∀ it ∈ dn, Nf it.2) ∧ wIt dn + wS (S.drop k) ≤ 800 ∧ dn.length + cS (S.drop k) ≤ 31 ∧ σ = [some (.ref D), some (.int k), some (.ref d), some (.int s), y4, y5]
section
variable {P : Program} {w : World} {K : PySem.W.Frag} {mg : Str → Option Value} {base : Heap} {fa : Nat → Addr} {fd : Nat → FuncData}
def spSum (K : PySem.W.Frag) (C : Addr) : Sp := fun vs H Q E => ∃ (D : Addr) (k : Nat) (S : List (Sy × Nat)), vs = [.ref D, .int (k : Int)] ∧ SL H D S ∧ SyL S 800 30 ∧ k < S.length ∧ S.length ≤ 901 ∧
  (∀ l k', headP S k = .ok (l, k') → ∀ d o H', Same H H' → H d = none → H' o = some (.tup [.ref d, .int (k' : Int)]) → RD K H' d (keysL l) (valL l) → Q (.ref o) H') ∧
  (∀ i, headP S k = .error i → PEr E C H i)
theorem ok_p_read_sum (T : Txt K mg fa fd) : FnOk P w K mg base (L2.CX P w) 5 (fa 83) (fd 83) ["symbols", "at"] (spSum K (fa 9)) := by
  refine T.F_p_read_sum.okX sc_p_read_sum (fun vs H Q E h => ?_) (fun cdv A outer s H vs Q E hr h => ?_)
  · obtain ⟨D, k, S, rfl, _⟩ := h
    rfl
  · obtain ⟨D, k0, S, rfl, hSL, hS, hk0, hl, qo, qe⟩ := h
    refine ⟨_, (C8.pss_cut (ps_set (i := 2) sc_p_read_sum.nd rfl (.inl rfl) (pe_disp (pps_cons pe_str (C8.pe_gc (by rfl) T.c_ZERO) pps_nil) (by rfl) (by rfl) (fun z => by cases z) (by decide)))
      (C8.pss_cut (ps_set (i := 3) sc_p_read_sum.nd rfl (.inl rfl) pe_int)
      (C8.pss_cut (ps_if (pt_cmpR op_eq (pe_ix ix_tup (pe_ix ix_list (pv 0) (pv 1) (fun _ _ => rfl)) pe_int (fun _ _ => rfl)) pe_str (nomark _)) (C8.pss_cut (ps_set (i := 3) sc_p_read_sum.nd rfl (.inl rfl) (pe_un un_neg pe_int))
      (pss_one (ps_aug (i := 1) sc_p_read_sum.nd rfl (.inl rfl) pe_int ip_add))) pss_nil)
      (pss_one (ps_while (passes_of rfl) (pt_val pe_bl) (C8.pss_cut (ps_asg (pe_call (ok_p_read_term T) (hr.mono (by decide)) (by rfl) T.g_p_read_term T.F_p_read_term.kp T.b_p_read_term .nil (passes_call (takes_of rfl rfl rfl rfl) (fun _ _ _ _ h => h)) (pa_cons (pv 0) (pa_cons (pv 1) pa_nil))) (pg_tup (by rfl) (pgs_cons (pg_name (i := 4) sc_p_read_sum.nd rfl (.inl rfl)) (pgs_cons (pg_name (i := 5) sc_p_read_sum.nd rfl (.inl rfl)) (pgs_cons (pg_name (i := 1) sc_p_read_sum.nd rfl (.inl rfl)) pgs_nil)))))
      (C8.pss_cut (ps_dput (Nat.lt_of_le_of_lt (Nat.add_le_add_left (by decide) _) hr.units) (pv 2) (pv 4) (pe_call (ok_p_add T) (hr.mono (by decide)) (by rfl) T.g_p_add T.F_p_add.kp T.b_p_add .nil pass0 (pa_cons (pe_dget2 (Nat.lt_of_le_of_lt (Nat.add_le_add_left (by decide) _) hr.units) (pv 2) (pv 4) (C8.pe_gc (by rfl) T.c_ZERO) ⟨by rfl, by rfl, by rfl, by rfl⟩) (pa_cons (pe_call (ok_p_ratio0 T) (hr.mono (by decide)) (by rfl) T.g_p_ratio T.F_p_ratio.kp T.b_p_ratio .nil pass0 (pa_cons (pe_op op_mul (pv 3) (pe_ix ix_tup (pv 5) pe_int (fun _ _ => rfl))) (pa_cons (pe_ix ix_tup (pv 5) pe_int (fun _ _ => rfl)) pa_nil))) pa_nil))) (by rfl))
      (C8.pss_cut (ps_if (pt_cmpR op_notIn_seq (pe_ix ix_tup (pe_ix ix_list (pv 0) (pv 1) (fun _ _ => rfl)) pe_int (fun _ _ => rfl)) (pe_tup (pa_cons pe_str (pa_cons pe_str pa_nil))) (by rfl)) (pss_one (ps_ret (pe_tup (pa_cons (pv 2) (pa_cons (pv 1) pa_nil))))) pss_nil)
      (C8.pss_cut (ps_set (i := 3) sc_p_read_sum.nd rfl (.inl rfl) (pe_ifExp (pt_cmpR op_eq (pe_ix ix_tup (pe_ix ix_list (pv 0) (pv 1) (fun _ _ => rfl)) pe_int (fun _ _ => rfl)) pe_str (nomark _)) pe_int (pe_un un_neg pe_int)))
      (pss_one (ps_aug (i := 1) sc_p_read_sum.nd rfl (.inl rfl) pe_int ip_add))))))))))), ?_⟩
    have wf := hS.wf
    obtain ⟨⟨s0, i0⟩, hs0⟩ : ∃ si, S[k0]? = some si := ⟨_, List.getElem?_eq_getElem hk0⟩
    -- the empty sum
    refine ⟨fun σ H1 => ∃ d, H d = none ∧ Same H H1 ∧ RD K H1 d (keysL []) (valL []) ∧ σ = [some (.ref D), some (.int k0), some (.ref d), none, none, none], fun d nd => ?_, fun σ H1 hM => ?_⟩
    · refine ⟨upd_same, [(keyOf [], .ref (fa 2000))], by rw [emptyS]; rfl, (by show 1 ≤ 15; decide), d, nd, ?_, ?_, rfl⟩
      · intro b o e
        rw [upd_ne (ne_of_none e nd), upd_ne (ne_of_none e nd)]
        exact e
      · refine ⟨_, upd_same, rfl, by decide, fun x hx => ?_⟩
        obtain rfl : x = [] := List.mem_singleton.mp hx
        exact ⟨fa 2000, valV_pos (p := (keyOf [], V.ref (fa 2000))) rfl, T.z_ZERO _, .inl rfl⟩
    obtain ⟨d, nd, sH, hd, rfl⟩ := hM
    refine ⟨fun σ H2 => H2 = H1 ∧ σ = [some (.ref D), some (.int k0), some (.ref d), some (.int 1), none, none], ⟨rfl, rfl⟩, fun σ H2 hM => ?_⟩
    obtain ⟨rfl, rfl⟩ := hM
    refine ⟨fun σ H3 => H3 = H2 ∧ ∃ (k : Nat) (s : Int), headP S k0 = sumP S.length S k s ∧ (s = 1 ∨ s = -1) ∧ k0 ≤ k ∧ k < S.length ∧ σ = [some (.ref D), some (.int k), some (.ref d), some (.int s), none, none], ?_, fun σ H3 hM => ?_⟩
    · obtain ⟨xs, p, v, hq, hat, hp, hv⟩ := (hSL.same sH).at (K := K) hs0
      refine ⟨_, rfl, _, rfl, D, _, _, _, rfl, rfl, hq, hat, p, _, _, _, rfl, rfl, SqT.of hp, rfl, rfl, _, rfl, ?_⟩
      rw [dash, sort_sign]
      cases sg : isSg 45 s0 with
      | true =>
        obtain ⟨c, rfl⟩ : ∃ c, s0 = .sign c := by cases s0 <;> first | exact ⟨_, rfl⟩ | cases sg
        have ec : c = 45 := of_decide_eq_true sg
        have hh : headP S k0 = sumP S.length S (k0 + 1) (-1) := by
          unfold headP
          rw [hs0]
          exact if_pos ec
        have kl := wf k0 _ _ hs0 rfl (fun z e => by subst e; intro z; cases z)
        refine iteT ⟨fun σ H' => H' = H2 ∧ σ = [some (.ref D), some (.int k0), some (.ref d), some (.int (-1)), none, none], ⟨_, rfl, rfl, rfl⟩, fun σ H' hM => ?_⟩
        obtain ⟨rfl, rfl⟩ := hM
        exact ⟨_, rfl, _, _, rfl, rfl, rfl, k0 + 1, -1, hh, .inr rfl, by omega, kl, rfl⟩
      | false =>
        have hh : headP S k0 = sumP S.length S k0 1 := by
          unfold headP
          rw [hs0]
          cases s0 with
          | sign c => exact if_neg (of_decide_eq_false sg)
          | _ => rfl
        exact iteF ⟨rfl, k0, 1, hh, .inl rfl, by omega, hk0, rfl⟩
    obtain ⟨rfl, k, s, hh, hs, kk, hk, rfl⟩ := hM
    refine ⟨WSum K H D d S k0, ⟨_, k, S.length, s, [], _, _, rfl, hk, by omega, ?_, hs, sH, hd, (fun it h => by cases h), Nat.le_trans (by show 0 + _ ≤ _; rw [Nat.zero_add]; exact wS_drop S k) hS.wt, Nat.le_succ_of_le (Nat.le_trans (by show 0 + _ ≤ _; rw [Nat.zero_add]; exact cS_drop S k) hS.ct), rfl⟩, fun m σ G hW => ?_⟩
    · rw [hh]
      cases sumP S.length S k s with
      | error i => rfl
      | ok r => rfl
    clear hd sH hh hs hk kk hs0
    clear s k
    obtain ⟨k, n, s, dn, y4, y5, rfl, hk, hn, he, hs, sG, hd, hnf, hw, hc, rfl⟩ := hW
    obtain ⟨n, rfl⟩ : ∃ n', n = n' + 1 := ⟨n - 1, by omega⟩
    refine ⟨_, rfl, iteT ⟨fun σ' H' => ∃ m', m' < S.length - k ∧ WSum K H D d S k0 m' σ' H', fun _ _ h => h, ?_⟩⟩
    -- the term
    refine ⟨fun σ G1 => Same G G1 ∧ ∃ x f k' pr, termP S k = .ok (x, f, k') ∧ G1 pr = some (trF f) ∧ σ = [some (.ref D), some (.int ((k' : Nat) : Int)), some (.ref d), some (.int s), some (vS x), some (.ref pr)], ?_, fun σ G1 hM => ?_⟩
    · refine ⟨_, rfl, _, rfl, D, k, S, rfl, hSL.same sG, wf, hk, hl, fun x f k' e p pr G1 sg hp hpr => ?_, fun i e => ?_⟩
      · exact ⟨p, _, rfl, SqT.of hp, rfl, _, _, rfl, _, _, rfl, _, _, rfl, rfl, sg, x, f, k', pr, e, hpr, rfl⟩
      · have h2 : headP S k0 = .error i := by
          rw [he]
          unfold sumP
          rw [e]
          rfl
        exact fun dd H' s' hd' => qe i h2 dd H' (sG.trans s') hd'
    obtain ⟨sg, x, f, k', pr, et, hpr, rfl⟩ := hM
    obtain ⟨⟨nf, x7⟩, lk, ll, hw2, hc2⟩ := termP_ok hS et
    have he2 : sumP (n + 1) S k s = (match S[k']? with
      | some (.sign c, _) => if c = 43 ∨ c = 45 then (match sumP n S (k' + 1) (if c = 43 then 1 else -1) with
          | .error i => .error i
          | .ok (l, k2) => .ok ((x, sgn s f) :: l, k2)) else .ok ([(x, sgn s f)], k')
      | _ => .ok ([(x, sgn s f)], k')) := by
      rw [sumP, et]
      try rfl
    rw [he2] at he
    clear he2
    have sG := sG.trans sg
    have hd := hd.same sg
    clear sg
    have nfs := sgn_nf hs nf
    have nfv : Nf (valL dn x) := sumX_nf x dn _ nf_01 hnf
    have bnv : Bn 2048 (valL dn x) := (sumX_bn x dn (0, 1) 1 nf_01 bn_01 hnf).mono (by omega)
    have bns : Bn 2048 (sgn s f) := (bw_bn _).mono (by rw [sgn_bw hs]; omega)
    have les : lowF (s * f.1) f.2 = sgn s f := low_nf nfs
    -- the dict
    refine ⟨fun σ G2 => Same H G2 ∧ RD K G2 d (keysL (dn ++ [(x, sgn s f)])) (valL (dn ++ [(x, sgn s f)])) ∧ σ = [some (.ref D), some (.int ((k' : Nat) : Int)), some (.ref d), some (.int s), some (vS x), some (.ref pr)], ?_, fun σ G2 hM => ?_⟩
    · obtain ⟨kvs, hkv, hR⟩ := hd
      have hkl : kvs.length < sizeLine := by
        rw [hR.len]
        have := keysL_len dn
        exact small1000 (by omega)
      have got : ∃ q, (valV kvs (keyOf x)).getD (.ref (fa 2000)) = .ref q ∧ FrK K G1 q (valL dn x) := by
        by_cases m : x ∈ keysL dn
        · obtain ⟨q, e, h⟩ := hR.2.2 x m
          exact ⟨q, by rw [e]; rfl, h.1⟩
        · rw [hR.none m, valL_none m]
          exact ⟨fa 2000, rfl, T.z_ZERO _⟩
      obtain ⟨q, eq, hq⟩ := got
      refine ⟨_, rfl, d, rfl, .inl ⟨kvs, .inl hkv⟩, _, rfl, valV kvs (keyOf x), DGet.k (k := keyOf x) hkv, ?_⟩
      rw [eq]
      refine ⟨_, rfl, _, rfl, pr, _, _, _, rfl, rfl, SqT.of hpr, t0, _, _, rfl, rfl, .inl (by rcases hs with rfl | rfl <;> decide), _, rfl, pr, _, _, _, rfl, rfl, SqT.of hpr, t1, _, _, rfl, by have := nf.1; omega, ?_, fun e ne => ?_⟩
      · exact log_lt ((bw_bn f).mono (show bw f ≤ 4096 by omega)).2 (by decide)
      have se := same_upd (o := .tup [.int (lowT (s * f.1) f.2), .int (lowD (s * f.1) f.2)]) ne
      have fe : FrK K (upd G1 e (.tup [.int (lowT (s * f.1) f.2), .int (lowD (s * f.1) f.2)])) e (sgn s f) := by
        rw [← les]
        exact SqT.of upd_same
      refine ⟨q, e, valL dn x, sgn s f, rfl, SqT.sm se _ _ hq, fe, nfv.1, nfs.1, bnv, bns, fun o no => ?_⟩
      have so := se.trans (same_upd (o := trF (addL (valL dn x) (sgn s f))) no)
      have hkv2 := so _ _ hkv
      refine ⟨_, rfl, _, rfl, d, _, rfl, DPut.k (k := keyOf x) hkv2 hkl, ?_, ?_, rfl⟩
      · intro b u eb
        rw [upd_ne (ne_of_none eb nd)]
        exact so _ _ (sG _ _ eb)
      · rw [keysL_snoc, valL_snoc]
        exact ⟨_, upd_same, ((hR.mono (Tr.sm so)).put upd_same).mono (Tr.updD hkv2)⟩
    obtain ⟨sG, hd, rfl⟩ := hM
    obtain ⟨⟨s2, i2⟩, hs2⟩ : ∃ si, S[k']? = some si := ⟨_, List.getElem?_eq_getElem ll⟩
    rw [hs2] at he
    refine ⟨fun σ G3 => Same G2 G3 ∧ isPm s2 = true ∧ σ = [some (.ref D), some (.int ((k' : Nat) : Int)), some (.ref d), some (.int s), some (vS x), some (.ref pr)], ?_, fun σ G3 hM => ?_⟩
    · obtain ⟨xs, p, v, hq, hat, hp, hv⟩ := (hSL.same sG).at (K := K) hs2
      refine ⟨_, rfl, _, rfl, D, _, _, _, rfl, rfl, hq, hat, p, _, _, _, rfl, rfl, SqT.of hp, rfl, small_line (by show 2 ≤ 1000; decide), fun q nq => ⟨q, _, rfl, .inr (SqT.of upd_same), rfl, rfl, _, rfl, ?_⟩⟩
      have sq := same_upd (o := .tup [V.str (Str.ofString "+"), .str (Str.ofString "-")]) nq
      rw [sort_pm]
      cases pm2 : isPm s2 with
      | true => exact iteF ⟨sq, rfl, rfl⟩
      | false =>
        have h2 : headP S k0 = .ok (dn ++ [(x, sgn s f)], k') := by
          rw [he]
          cases s2 with
          | sign c =>
            have : ¬ (c = 43 ∨ c = 45) := of_decide_eq_false pm2
            simp only [if_neg this]
            rfl
          | _ => rfl
        refine iteT ⟨_, rfl, _, rfl, two_line, fun o no => ?_⟩
        have so := sq.trans (same_upd (o := .tup [.ref d, .int ((k' : Nat) : Int)]) no)
        exact qo _ _ h2 d o _ (sG.trans so) nd upd_same (hd.same so)
    obtain ⟨sg, pm2, rfl⟩ := hM
    have sG := sG.trans sg
    have hd := hd.same sg
    obtain ⟨c, rfl⟩ : ∃ c, s2 = .sign c := by cases s2 <;> first | exact ⟨_, rfl⟩ | cases pm2
    have hcc : c = 43 ∨ c = 45 := of_decide_eq_true pm2
    have l2 := wf k' _ _ hs2 rfl (fun z e => by subst e; intro z; cases z)
    refine ⟨fun σ G4 => G4 = G3 ∧ σ = [some (.ref D), some (.int ((k' : Nat) : Int)), some (.ref d), some (.int (if c = 43 then 1 else -1)), some (vS x), some (.ref pr)], ?_, fun σ G4 hM => ?_⟩
    · obtain ⟨xs, p, v, hq, hat, hp, hv⟩ := (hSL.same sG).at (K := K) hs2
      refine ⟨_, rfl, _, rfl, D, _, _, _, rfl, rfl, hq, hat, p, _, _, _, rfl, rfl, SqT.of hp, rfl, rfl, _, rfl, ?_⟩
      rw [plusS, sort_sign]
      by_cases c3 : c = 43
      · rw [show isSg 43 (.sign c) = true from decide_eq_true c3]
        refine iteT ⟨rfl, ?_⟩
        rw [if_pos c3]
        rfl
      · rw [show isSg 43 (.sign c) = false from decide_eq_false c3]
        refine iteF ⟨_, rfl, rfl, ?_⟩
        rw [if_neg c3]
        rfl
    obtain ⟨rfl, rfl⟩ := hM
    have w3 := wS_at hs2
    have c3 := cS_at hs2
    have cp : (if isPm (.sign c) then 1 else 0) = 1 := by rw [pm2]; rfl
    rw [cp] at c3
    have wz : wSy (.sign c) = 0 := rfl
    refine ⟨_, rfl, _, _, rfl, rfl, S.length - (k' + 1), by omega, k' + 1, n, if c = 43 then 1 else -1, dn ++ [(x, sgn s f)], _, _, rfl, l2, by omega, ?_, by split <;> simp, sG, hd, fun it hit => ?_, ?_, ?_, rfl⟩
    · rw [he]
      simp only [if_pos hcc]
      cases sumP n S (k' + 1) (if c = 43 then 1 else -1) with
      | error i => rfl
      | ok r =>
        show Except.ok (dn ++ ((x, sgn s f) :: r.1), r.2) = Except.ok (dn ++ [(x, sgn s f)] ++ r.1, r.2)
        rw [List.append_assoc]
        rfl
    · rcases List.mem_append.mp hit with h | h
      · exact hnf it h
      · rw [List.mem_singleton.mp h]
        exact nfs
    · have : wIt (dn ++ [(x, sgn s f)]) = wIt dn + (bw f + 1) := by
        unfold wIt
        rw [List.map_append, List.sum_append]
        show _ + (bw (sgn s f) + 1 + 0) = _
        rw [sgn_bw hs]
      omega
    · rw [List.length_append]
      show _ + 1 + _ ≤ _
      omega
end
/-! ### walks over the keys of a dict -/
theorem for_keys {d : Addr} {od : Obj} {kvs : List (Key × V)} {g : TG} {tb : TS} {D : Ends} {σ : L2.St} {H : Hp} (Pv : Nat → L2.St → Hp → Prop) (h0 : Pv 0 σ H) (hf : ∀ i σ H, Pv i σ H → H d = some (.frz od (.dK kvs)))
    (hs : ∀ i k v σ H, kvs[i]? = some (k, v) → Pv i σ H → g (kV k) σ H fun σ2 H2 => tb { nx := Pv (i + 1), rt := D.rt, bk := D.nx, ct := Pv (i + 1) } σ2 H2) (hd : ∀ σ H, Pv kvs.length σ H → D.nx σ H) :
    ∃ W : Nat → Nat → L2.St → Hp → Prop, (∃ m, W 0 m σ H) ∧ ∀ i m σ H, W i m σ H →
      ((Itk d od kvs).stop i H ∧ D.nx σ H) ∨ ((Itk d od kvs).go i H ∧ ∃ N : L2.St → Hp → Prop, (∀ σ' H', N σ' H' → ∃ m', m' < m ∧ W (i + 1) m' σ' H') ∧ ∀ x H', (Itk d od kvs).yld i H x H' → g x σ H' fun σ2 H2 => tb { nx := N, rt := D.rt, bk := D.nx, ct := N } σ2 H2) := by
  refine ⟨fun i m σ H => m = kvs.length - i ∧ i ≤ kvs.length ∧ Pv i σ H, ⟨_, rfl, Nat.zero_le _, h0⟩, ?_⟩
  rintro i m σ H ⟨rfl, hi, p⟩
  by_cases hlt : i < kvs.length
  · refine .inr ⟨⟨hf _ _ _ p, hlt⟩, Pv (i + 1), fun σ' H' p' => ⟨kvs.length - (i + 1), by omega, rfl, hlt, p'⟩, fun y H' q => ?_⟩
    obtain ⟨e, k, v, hc, ev⟩ := q
    subst e ev
    exact hs i k v _ _ hc p
  · have e : i = kvs.length := by omega
    subst e
    exact .inl ⟨⟨hf _ _ _ p, Nat.le_refl _⟩, hd _ _ p⟩
theorem lc_keys {d : Addr} {od : Obj} {kvs : List (Key × V)} {g : TG} {tt : L2.TT} {te : TE} {vs : List Nat} {σ : L2.St} {H1 : Hp} {D : Addr} {Qd : Hp → Prop} (Pv : Nat → Hp → Prop) (h0 : Pv 0 (upd H1 D (.lst []))) (hf : ∀ i H, Pv i H → H d = some (.frz od (.dK kvs)))
    (hs : ∀ i k v H, kvs[i]? = some (k, v) → Pv i H → g (kV k) (wipe σ vs) H fun σ2 H2 => wipe σ2 vs = wipe σ vs ∧ tt σ2 H2 fun b H3 =>
      if b = true then te σ2 H3 fun y H4 => ∃ acc, H4 D = some (.lst acc) ∧ acc.length < sizeLine ∧ Pv (i + 1) (upd H4 D (.lst (acc ++ [y]))) else Pv (i + 1) H3) (hd : ∀ H, Pv kvs.length H → Qd H) :
    ∃ W : Nat → Nat → Hp → Prop, (∃ m, W 0 m (upd H1 D (.lst []))) ∧ ∀ i m H, W i m H →
      ((Itk d od kvs).stop i H ∧ Qd H) ∨ ((Itk d od kvs).go i H ∧ ∃ Nx : Hp → Prop, (∀ H', Nx H' → ∃ m', m' < m ∧ W (i + 1) m' H') ∧ ∀ y H', (Itk d od kvs).yld i H y H' → g y (wipe σ vs) H' fun σ2 H2 => wipe σ2 vs = wipe σ vs ∧ tt σ2 H2 fun b H3 =>
        if b = true then te σ2 H3 fun y H4 => ∃ acc, H4 D = some (.lst acc) ∧ acc.length < sizeLine ∧ Nx (upd H4 D (.lst (acc ++ [y]))) else Nx H3) := by
  refine ⟨fun i m H => m = kvs.length - i ∧ i ≤ kvs.length ∧ Pv i H, ⟨_, rfl, Nat.zero_le _, h0⟩, ?_⟩
  rintro i m H ⟨rfl, hi, p⟩
  by_cases hlt : i < kvs.length
  · refine .inr ⟨⟨hf _ _ p, hlt⟩, Pv (i + 1), fun H' p' => ⟨kvs.length - (i + 1), by omega, rfl, hlt, p'⟩, fun y H' q => ?_⟩
    obtain ⟨e, k, v, hc, ev⟩ := q
    subst e ev
    exact hs i k v _ hc p
  · have e : i = kvs.length := by omega
    subst e
    exact .inl ⟨⟨hf _ _ p, Nat.le_refl _⟩, hd _ p⟩
/-- all but what stands at b -/
def Ex (b : Addr) (H G : Hp) : Prop := ∀ c o, H c = some o → c ≠ b → G c = some o
theorem Ex.sqt {K : PySem.W.Frag} {H G : Hp} {b : Addr} {kvs : List (Key × V)} (h : Ex b H G) (hb : H b = some (.dK kvs)) : Tr K H G := ⟨fun p xs q => by
  rcases q with (q | ⟨o, q⟩) | q
  · exact .inl (.inl (h _ _ q fun e => by rw [e, hb] at q; cases q))
  · exact .inl (.inr ⟨o, h _ _ q fun e => by rw [e, hb] at q; cases q⟩)
  · exact .inr q, fun p xs q => h _ _ q fun e => by rw [e, hb] at q; cases q⟩
theorem Ex.same {H G G' : Hp} {b : Addr} (h : Ex b H G) (s : Same G G') : Ex b H G' := fun c o e n => s _ _ (h c o e n)
theorem Ex.back {H G : Hp} {b : Addr} {u : HO} (h : Ex b H G) (hb : H b = some u) : Same H (upd G b u) := fun c o e => by
  by_cases n : c = b
  · subst n
    rw [hb] at e
    cases e
    exact upd_same
  · rw [upd_ne n]
    exact h c o e n
theorem Ex.upd {H G : Hp} {b d : Addr} {u : HO} (h : Ex b H G) (nd : H d = none) : Ex b H (upd G d u) := fun c o e n => by
  rw [upd_ne (ne_of_none e nd)]
  exact h c o e n
theorem keys_at {kvs : List (Key × V)} {N : List (List Nat)} (h : kvs.map (·.1) = N.map keyOf) {i : Nat} {k : Key} {v : V} (e : kvs[i]? = some (k, v)) : ∃ x, N[i]? = some x ∧ k = keyOf x := by
  have e1 : (kvs.map (·.1))[i]? = some k := by rw [List.getElem?_map, e]; rfl
  rw [h, List.getElem?_map] at e1
  obtain ⟨x, hx, ex⟩ := Option.map_eq_some_iff.mp e1
  exact ⟨x, hx, ex.symm⟩
theorem not_take {N : List (List Nat)} (h : N.Nodup) {i : Nat} {x : List Nat} (e : N[i]? = some x) : x ∉ N.take i := fun m => by
  obtain ⟨j, ej⟩ := List.mem_iff_getElem?.mp m
  have hj := (List.getElem?_eq_some_iff.mp ej).1
  rw [List.length_take] at hj
  rw [List.getElem?_take_of_lt (by omega)] at ej
  obtain ⟨hi, ei⟩ := List.getElem?_eq_some_iff.mp e
  obtain ⟨hj2, ej2⟩ := List.getElem?_eq_some_iff.mp ej
  exact (List.pairwise_iff_getElem.mp h) j i hj2 hi (by omega) (by rw [ei, ej2])
def broN (N M : List (List Nat)) : List (List Nat) := M.foldl addN N
theorem broN_snoc (N M : List (List Nat)) (x : List Nat) : broN N (M ++ [x]) = addN (broN N M) x := by
  unfold broN
  rw [List.foldl_append]
  rfl
theorem broN_mem {y : List Nat} : ∀ (M N : List (List Nat)), y ∈ broN N M ↔ y ∈ N ∨ y ∈ M
  | [], N => by simp [broN]
  | x :: M, N => by
    show y ∈ broN (addN N x) M ↔ _
    rw [broN_mem M, mem_addN, List.mem_cons, or_assoc]
theorem broN_len : ∀ (M N : List (List Nat)), (broN N M).length ≤ N.length + M.length
  | [], _ => Nat.le_refl _
  | x :: M, N => by
    have h := broN_len M (addN N x)
    have := addN_len N x
    rw [List.length_cons]
    show (broN (addN N x) M).length ≤ _
    omega
def nz (val : List Nat → FR) (x : List Nat) : Bool := decide (x ≠ []) && decide ((val x).1 ≠ 0)
section
variable {P : Program} {w : World} {K : PySem.W.Frag} {mg : Str → Option Value} {base : Heap} {fa : Nat → Addr} {fd : Nat → FuncData}
def ValOk (N : List (List Nat)) (val : List Nat → FR) : Prop := (∀ x, Nf (val x) ∧ Bn 1000 (val x)) ∧ ∀ x, x ∉ N → val x = (0, 1)
def spBro (K : PySem.W.Frag) : Sp := fun vs H Q _ => ∃ (a b : Addr) (N M : List (List Nat)) (u v : List Nat → FR), vs = [.ref a, .ref b] ∧ RD K H a N u ∧ RD K H b M v ∧ ValOk N u ∧ ValOk M v ∧ N.length ≤ 40 ∧ M.length ≤ 40 ∧
  ∀ d H', Same H H' → H d = none → RD K H' d (broN N M) (fun x => subL (u x) (v x)) → Q (.ref d) H'
theorem ok_p_brought_together (T : Txt K mg fa fd) : FnOk P w K mg base CX0 5 (fa 96) (fd 96) ["left", "right"] (spBro K) := by
  refine T.F_p_brought_together.ok sc_p_brought_together (fun vs H Q E h => ?_) (fun cdv A outer s H vs Q E hr h => ?_)
  · obtain ⟨a, b, N, M, u, v, rfl, _⟩ := h
    rfl
  · obtain ⟨a, b, N, M, u, v, rfl, ⟨ka, hka, hRa⟩, ⟨kb, hkb, hRb⟩, ou, ov, ln, lm, q⟩ := h
    refine ⟨_, (C8.pss_cut (ps_set (i := 2) sc_p_brought_together.nd rfl (.inl rfl) (pe_callTy call_dictD (by rfl) T.m_dict (by decide +kernel) (pa_cons (pv 0) pa_nil)))
      (C8.pss_cut (ps_lock (ps_for PassesOwn.never rfl (pi_keys (pv 1)) (pg_name (i := 3) sc_p_brought_together.nd rfl (.inl rfl)) (pss_one (ps_dput (Nat.lt_of_le_of_lt (Nat.add_le_add_left (by decide) _) hr.units) (pv 2) (pv 3) (pe_call (ok_p_subtract T) (hr.mono (by decide)) (by rfl) T.g_p_subtract T.F_p_subtract.kp T.b_p_subtract .nil pass0 (pa_cons (pe_dget2 (Nat.lt_of_le_of_lt (Nat.add_le_add_left (by decide) _) hr.units) (pv 2) (pv 3) (C8.pe_gc (by rfl) T.c_ZERO) ⟨by rfl, by rfl, by rfl, by rfl⟩) (pa_cons (pe_dget (Nat.lt_of_le_of_lt (Nat.add_le_add_left (by decide) _) hr.units) (pv 1) (pv 3) (fun _ _ => rfl)) pa_nil))) (by rfl)))))
      (pss_one (ps_ret (pv 2))))), ?_⟩
    refine ⟨fun σ H1 => ∃ d, H d = none ∧ Same H H1 ∧ H1 d = some (.dK ka) ∧ σ = [some (.ref a), some (.ref b), some (.ref d), none], ⟨_, rfl, a, ka, rfl, .inl hka, fun d nd => ⟨d, nd, same_upd nd, upd_same, rfl⟩⟩, fun σ H1 hM => ?_⟩
    obtain ⟨d, nd, s1, hd1, rfl⟩ := hM
    have hb1 := s1 _ _ hkb
    have dnb : d ≠ b := fun e => by rw [e, hkb] at nd; cases nd
    have hRb1 := hRb.mono (Tr.sm s1)
    refine ⟨fun σ H2 => Same H H2 ∧ RD K H2 d (broN N M) (fun x => subL (u x) (v x)) ∧ ∃ y3, σ = [some (.ref a), some (.ref b), some (.ref d), y3], ?_, fun σ H2 hM => ?_⟩
    · refine ⟨b, _, hb1, trivial, fun od => ?_⟩
      refine ⟨_, rfl, b, od, rfl, .inl ⟨kb, upd_same, for_keys (fun i σ G => G b = some (.frz od (.dK kb)) ∧ Ex b H G ∧ (∃ kd, G d = some (.dK kd) ∧ RDk K G kd (broN N (M.take i)) (fun x => if x ∈ M.take i then subL (u x) (v x) else u x)) ∧ ∃ y3, σ = [some (.ref a), some (.ref b), some (.ref d), y3]) ⟨upd_same, ?_, ⟨ka, ?_, ?_⟩, _, rfl⟩ (fun i σ G h => h.1) (fun i k vv σ G hk hp => ?_) (fun σ G hp => ?_)⟩⟩
      · exact fun c o e n => by rw [upd_ne n]; exact s1 _ _ e
      · rw [upd_ne dnb]
        exact hd1
      · exact (show RDk K H ka N u from hRa).mono (Ex.sqt (b := b) (fun c o e n => by rw [upd_ne n]; exact s1 _ _ e) hkb)
      · obtain ⟨hfb, ex, ⟨kd, hkd, hRd⟩, y3, rfl⟩ := hp
        obtain ⟨x, hx, rfl⟩ := keys_at hRb.1 hk
        have nt := not_take hRb.2.1 hx
        have hRbG := hRb.mono (ex.sqt hkb)
        obtain ⟨pv, epv, fpv⟩ := hRbG.2.2 x (List.mem_of_getElem? hx)
        have hkl : kd.length < sizeLine := by
          rw [hRd.len]
          have := broN_len (M.take i) N
          rw [List.length_take] at this
          exact small1000 (by omega)
        have got : ∃ p, (valV kd (keyOf x)).getD (.ref (fa 2000)) = .ref p ∧ FrK K G p (u x) := by
          by_cases m : x ∈ broN N (M.take i)
          · obtain ⟨p, e, h⟩ := hRd.2.2 x m
            have h : FrK K G p (if x ∈ M.take i then subL (u x) (v x) else u x) := h.1
            rw [if_neg nt] at h
            exact ⟨p, by rw [e]; rfl, h⟩
          · rw [hRd.none m, ou.2 x fun z => m ((broN_mem _ _).mpr (.inl z))]
            exact ⟨fa 2000, rfl, T.z_ZERO _⟩
        obtain ⟨p, ep, fp⟩ := got
        refine ⟨_, rfl, d, rfl, .inl ⟨kd, .inl hkd⟩, _, rfl, valV kd (keyOf x), DGet.k (k := keyOf x) hkd, ?_⟩
        rw [ep]
        refine ⟨_, rfl, _, rfl, b, _, rfl, .inl ⟨kb, keyOf x, .inr ⟨od, hfb⟩, rfl, epv.symm⟩, p, pv, u x, v x, rfl, fp, fpv.1, (ou.1 x).1.1, (ov.1 x).1.1, (ou.1 x).2.mono (by decide), (ov.1 x).2.mono (by decide), fun o no => ?_⟩
        have so := same_upd (o := trF (subL (u x) (v x))) no
        have hkd2 := so _ _ hkd
        refine ⟨_, rfl, _, rfl, d, _, rfl, DPut.k (k := keyOf x) hkd2 hkl, ?_, (ex.same so).upd nd, ⟨_, upd_same, ?_⟩, _, rfl⟩
        · rw [upd_ne dnb.symm]
          exact so _ _ hfb
        · have h2 := ((hRd.mono (Tr.sm so)).put (x := x) upd_same).mono (Tr.updD hkd2 (ks := putK kd (keyOf x) (.ref o)))
          rw [List.take_add_one, hx, show (some x).toList = [x] from rfl, broN_snoc]
          refine ⟨h2.1, h2.2.1, fun y hy => ?_⟩
          obtain ⟨p', e', f'⟩ := h2.2.2 y hy
          refine ⟨p', e', ?_⟩
          have ev : setV (fun x => if x ∈ M.take i then subL (u x) (v x) else u x) x (subL (u x) (v x)) y = (if y ∈ M.take i ++ [x] then subL (u y) (v y) else u y) := by
            unfold setV
            by_cases e : y = x
            · subst e
              rw [if_pos rfl, if_pos (List.mem_append_right _ List.mem_cons_self)]
            · rw [if_neg e]
              show (if y ∈ M.take i then subL (u y) (v y) else u y) = _
              by_cases m : y ∈ M.take i
              · rw [if_pos m, if_pos (List.mem_append_left _ m)]
              · rw [if_neg m, if_neg fun z => (List.mem_append.mp z).elim m fun z => e (List.mem_singleton.mp z)]
          have f' : FrV K _ p' (setV (fun x => if x ∈ M.take i then subL (u x) (v x) else u x) x (subL (u x) (v x)) y) := f'
          rw [ev] at f'
          exact f'
      · obtain ⟨hfb, ex, ⟨kd, hkd, hRd⟩, y3, rfl⟩ := hp
        rw [hRb.len, List.take_length] at hRd
        refine ⟨hfb, ex.back hkb, ⟨kd, ?_, hRd.1, hRd.2.1, fun x hx => ?_⟩, y3, rfl⟩
        · rw [upd_ne dnb]
          exact hkd
        · obtain ⟨p', e', f'⟩ := hRd.2.2 x hx
          refine ⟨p', e', ?_⟩
          have ev : (if x ∈ M then subL (u x) (v x) else u x) = subL (u x) (v x) := by
            by_cases m : x ∈ M
            · rw [if_pos m]
            · rw [if_neg m, ov.2 x m, sub_zero (ou.1 x).1]
          have f' : FrV K G p' (if x ∈ M then subL (u x) (v x) else u x) := f'
          rw [ev] at f'
          have tb : ∀ p xs, G p = some (.tup xs) → upd G b (.dK kb) p = some (.tup xs) := fun p xs h => by
            rw [upd_ne fun e => by rw [e, hfb] at h; cases h]
            exact h
          refine ⟨?_, f'.2.imp id (tb _ _)⟩
          rcases f'.1 with (f' | ⟨oo, f'⟩) | f'
          · exact .inl (.inl (tb _ _ f'))
          · exact .inl (.inr ⟨oo, by rw [upd_ne fun e => by rw [e, hfb] at f'; cases f']; exact f'⟩)
          · exact .inr f'
    obtain ⟨s2, hd2, y3, rfl⟩ := hM
    exact ⟨_, rfl, q d H2 s2 nd hd2⟩
end
theorem ix_tupK {X : Cx} {K : PySem.W.Frag} (h : X.K = K) : IxR X (rIxT K) := h ▸ ix_tup
section
variable {P : Program} {w : World} {K : PySem.W.Frag} {mg : Str → Option Value} {base : Heap} {fa : Nat → Addr} {fd : Nat → FuncData}
def spAsc (K : PySem.W.Frag) : Sp := fun vs H Q _ => ∃ (a : Addr) (N : List (List Nat)) (val : List Nat → FR), vs = [.ref a] ∧ RD K H a N val ∧ N.length < 64 ∧
  ∀ (ys : List Str) l H', Same H H' → H' l = some (.lst (ys.map V.str)) → ys.Perm ((N.filter (nz val)).map SX.S) → sortedS ys = true → Q (.ref l) H'
theorem ok_p_ascending_names (T : Txt K mg fa fd) : FnOk P w K mg base CX0 1 (fa 95) (fd 95) ["rates"] (spAsc K) := by
  refine T.F_p_ascending_names.ok sc_p_ascending_names (fun vs H Q E h => ?_) (fun cdv A outer s H vs Q E hr h => ?_)
  · obtain ⟨a, N, val, rfl, _⟩ := h
    rfl
  · obtain ⟨a, N, val, rfl, ⟨kvs, hk, hR⟩, hn, q⟩ := h
    refine ⟨_, (pss_one (ps_ret (pe_callB cr_sortedS (by rfl) T.m_sorted (by decide +kernel) (pa_cons (pe_lock (pe_lc (own := [("name", 1)]) (g := gName 1) (tt := _) rfl sc_p_ascending_names.nd (pi_keys (pv 0)) (blkOk_by (own := [("name", 1)]) (N := ["rates", "name"]) (sc := defScope s_p_ascending_names) (by decide +kernel)) (fun _ _ _ _ _ => pg_name (i := 1) sc_p_ascending_names.nd rfl (Or.inl rfl)) (fun _ _ _ _ _ => pts_one (PW.pt (pw_and (pt_cmpR op_ne (pv 1) pe_str (nomark _)) (pw_and1 (pt_cmpR op_ne (pe_ix (ix_tupK (K := K) rfl) (pe_dget (Nat.lt_of_le_of_lt (Nat.add_le_add_left (by decide) _) hr.units) (pv 0) (pv 1) (fun _ _ => rfl)) pe_int (fun _ _ => rfl)) pe_int (nomark _)))))) (fun _ _ _ _ _ => (pe_callTy SkE.call_str_str (by rfl) T.m_str (by decide +kernel) (pa_cons (pv 1) pa_nil))))) pa_nil)))), ?_⟩
    refine ⟨a, _, hk, trivial, fun od => ?_⟩
    refine ⟨_, rfl, a, od, rfl, .inl ⟨kvs, upd_same, fun D nD => ?_⟩⟩
    have naD : D ≠ a := fun e => by rw [e, upd_same] at nD; cases nD
    have nDH : H D = none := by
      rw [upd_ne naD] at nD
      exact nD
    refine lc_keys (fun i G => G a = some (.frz od (.dK kvs)) ∧ Ex a H G ∧ G D = some (.lst ((((N.take i).filter (nz val)).map SX.S).map V.str))) ⟨?_, ?_, upd_same⟩ (fun i G h => h.1) (fun i k vv G hkv hp => ?_) (fun G hp => ?_)
    · rw [upd_ne naD.symm]
      exact upd_same
    · exact fun c o e n => by
        rw [upd_ne (ne_of_none e nDH), upd_ne n]
        exact e
    · obtain ⟨hfa, ex, hD⟩ := hp
      obtain ⟨x, hx, rfl⟩ := keys_at hR.1 hkv
      have hRG := hR.mono (ex.sqt hk)
      obtain ⟨p, ep, fp⟩ := hRG.2.2 x (List.mem_of_getElem? hx)
      have ll : ((((N.take i).filter (nz val)).map SX.S).map V.str).length < sizeLine := by
        rw [List.length_map, List.length_map]
        have := List.length_filter_le (nz val) (N.take i)
        rw [List.length_take] at this
        exact small1000 (by omega)
      have tk : (N.take (i + 1)).filter (nz val) = (N.take i).filter (nz val) ++ (if nz val x = true then [x] else []) := by
        rw [List.take_add_one, hx, List.filter_append]
        show _ ++ List.filter (nz val) [x] = _
        rw [List.filter_cons]
        split <;> rfl
      have fin : ∀ b : Bool, b = nz val x → (if b = true then tCB (fun xs H Q => ∃ a, xs = [V.str a] ∧ Q (V.str a) H) (tCons (tVar 1) tNil)
          (List.set (wipe (L2.start [Str.ofString "rates", Str.ofString "name"] [V.ref a]) (List.map (fun x => x.snd) [(Str.ofString "name", 1)])) 1 (some (kV (keyOf x)))) G fun y H4 =>
          ∃ acc, H4 D = some (HO.lst acc) ∧ acc.length < sizeLine ∧ upd H4 D (HO.lst (acc ++ [y])) a = some (HO.frz od (HO.dK kvs)) ∧ Ex a H (upd H4 D (HO.lst (acc ++ [y]))) ∧
            upd H4 D (HO.lst (acc ++ [y])) D = some (HO.lst (List.map V.str (List.map SX.S (List.filter (nz val) (List.take (i + 1) N)))))
          else G a = some (HO.frz od (HO.dK kvs)) ∧ Ex a H G ∧ G D = some (HO.lst (List.map V.str (List.map SX.S (List.filter (nz val) (List.take (i + 1) N)))))) := by
        intro b hb
        rw [tk, ← hb]
        cases b with
        | true =>
          refine iteT ⟨_, rfl, _, rfl, _, hD, ll, ?_, ex.upd nDH, ?_⟩
          · rw [upd_ne naD.symm]
            exact hfa
          · rw [upd_same, if_pos rfl, List.map_append, List.map_append]
            rfl
        | false =>
          refine iteF ⟨hfa, ex, ?_⟩
          rw [if_neg (by decide), List.append_nil]
          exact hD
      refine ⟨rfl, _, rfl, rfl, _, rfl, ?_⟩
      have c : (!decide (kV (keyOf x) = V.str (Str.ofString ""))) = decide (x ≠ []) := by
        rw [emptyS, Bool.eq_iff_iff, Bool.not_eq_true', decide_eq_false_iff_not, decide_eq_true_eq]
        constructor
        · intro h e
          exact h (by rw [e]; rfl)
        · intro h e
          exact h (S_inj (V.str.inj e))
      rw [c]
      refine ite2 (fun e => ?_) (fun e => ?_)
      · refine ⟨_, rfl, _, rfl, a, _, rfl, .inl ⟨kvs, keyOf x, .inr ⟨od, hfa⟩, rfl, ep.symm⟩, p, _, _, _, rfl, rfl, fp.1, t0, rfl, _, rfl, fin _ ?_⟩
        unfold nz
        rw [e, Bool.true_and, Bool.eq_iff_iff, Bool.not_eq_true', decide_eq_false_iff_not, decide_eq_true_eq]
        constructor
        · intro h z
          exact h (by rw [z])
        · intro h z
          exact h (V.int.inj z)
      · refine fin false ?_
        unfold nz
        rw [Bool.eq_false_iff.mpr e, Bool.false_and]
    · obtain ⟨hfa, ex, hD⟩ := hp
      rw [hR.len, List.take_length] at hD
      refine ⟨hfa, ?_⟩
      have sb := ex.back hk
      have hD2 : upd G a (.dK kvs) D = some (.lst (((N.filter (nz val)).map SX.S).map V.str)) := by
        rw [upd_ne naD]
        exact hD
      refine ⟨D, (N.filter (nz val)).map SX.S, rfl, SqL.of hD2, ?_, fun ys l perm srt nl => ?_⟩
      · rw [List.length_map]
        exact Nat.lt_of_le_of_lt (List.length_filter_le _ _) hn
      · exact q ys l _ (sb.trans (same_upd nl)) upd_same perm srt
end
theorem lcmF_app (u : Int) : ∀ l r : List FR, lcmF u (l ++ r) = lcmF (lcmF u l) r := fun l r => by
  induction l generalizing u with
  | nil => rfl
  | cons f l ih => exact ih _
theorem gcdF_app (L g : Int) : ∀ l r : List FR, gcdF L g (l ++ r) = gcdF L (gcdF L g l) r := fun l r => by
  induction l generalizing g with
  | nil => rfl
  | cons f l ih => exact ih _
theorem gcdF_nn (L : Int) : ∀ (rs : List FR) (g : Int), 0 ≤ g → 0 ≤ gcdF L g rs
  | [], _, h => h
  | _ :: r, _, _ => gcdF_nn L r _ (Int.natCast_nonneg _)
def BdF (f : FR) : Prop := Bn 800 f ∧ 0 < f.2
abbrev frP (f : FR) : PyData := .tuple [.int f.1, .int f.2]
abbrev tmP (t : List Nat × FR) : PyData := .tuple [.str (SX.S t.1), frP t.2]
abbrev tieP (tl : List (List Nat × FR)) (b : FR) : PyData := .tuple [.tuple (tl.map tmP), frP b]
def rts (tl : List (List Nat × FR)) : List FR := tl.map (·.2)
def redL (tl : List (List Nat × FR)) : List (List Nat × FR) := tl.map fun t => (t.1, redF (scl (rts tl)) t.2)
abbrev redP (tl : List (List Nat × FR)) (b : FR) : PyData := tieP (redL tl) (redF (scl (rts tl)) b)
def TlOk (tl : List (List Nat × FR)) : Prop := (tl.length = 1 ∨ tl.length = 2) ∧ ∀ t ∈ tl, t.2.1 ≠ 0 ∧ BdF t.2 ∧ t.1.length ≤ 7
theorem TlOk.rs {tl : List (List Nat × FR)} (h : TlOk tl) : RsOk (rts tl) := by
  refine ⟨fun z => ?_, fun f hf => ?_⟩
  · cases tl with
    | nil => have := h.1; simp at this
    | cons t r => cases z
  · obtain ⟨t, ht, rfl⟩ := List.mem_map.mp hf
    exact ⟨(h.2 t ht).2.1.2, (h.2 t ht).1⟩
theorem step_le {u d : Int} (hu : 0 < u) (hd : 0 < d) : (u * d).fdiv (Int.gcd u d : Nat) ≤ u * d := by
  have gp : 0 < Int.gcd u d := gcd_pos (by omega)
  have h := Int.mul_pos hu hd
  rw [Int.fdiv_eq_ediv_of_nonneg _ (by omega)]
  exact Int.ediv_le_self _ (by omega)
theorem tl_sizes {tl : List (List Nat × FR)} (h : TlOk tl) : ∀ i, 0 < lcmF 1 (rts (tl.take i)) ∧ (lcmF 1 (rts (tl.take i))).natAbs < 2 ^ 1600 := fun i => by
  have hd : ∀ f ∈ rts (tl.take i), 0 < f.2 ∧ f.2.natAbs < 2 ^ 800 := fun f hf => by
    obtain ⟨t, ht, rfl⟩ := List.mem_map.mp hf
    have := (h.2 t (List.mem_of_mem_take ht)).2.1
    exact ⟨this.2, this.1.2⟩
  have hl : (rts (tl.take i)).length ≤ 2 := by
    unfold rts
    rw [List.length_map, List.length_take]
    have := h.1
    omega
  refine ⟨(lcmF_ok _ 1 (by decide) fun f hf => (hd f hf).1).1, ?_⟩
  have one : ∀ f : FR, 0 < f.2 → (1 * f.2).fdiv (Int.gcd 1 f.2 : Nat) = f.2 := fun f _ => by
    rw [Int.one_mul, Int.gcd_comm, Int.gcd_one_right]
    exact Int.fdiv_one _
  match rts (tl.take i), hl, hd with
  | [], _, _ => exact Nat.lt_of_lt_of_le (show 1 < 2 ^ 1 by decide) (Nat.pow_le_pow_right (by decide) (by decide))
  | [f], _, hd =>
    show ((1 * f.2).fdiv _).natAbs < _
    rw [one f (hd f List.mem_cons_self).1]
    exact Nat.lt_of_lt_of_le (hd f List.mem_cons_self).2 (Nat.pow_le_pow_right (by decide) (by decide))
  | [f, g], _, hd =>
    show ((((1 * f.2).fdiv (Int.gcd 1 f.2 : Nat)) * g.2).fdiv (Int.gcd ((1 * f.2).fdiv (Int.gcd 1 f.2 : Nat)) g.2 : Nat)).natAbs < _
    have hf := hd f List.mem_cons_self
    have hg := hd g (List.mem_cons_of_mem _ List.mem_cons_self)
    rw [one f hf.1]
    have h1 := step_le hf.1 hg.1
    have h2 : 0 ≤ (f.2 * g.2).fdiv (Int.gcd f.2 g.2 : Nat) := by
      have := Int.mul_pos hf.1 hg.1
      rw [Int.fdiv_eq_ediv_of_nonneg _ (by omega)]
      exact Int.ediv_nonneg (by omega) (by omega)
    have h3 : (f.2 * g.2).natAbs < 2 ^ (800 + 800) := by rw [Int.natAbs_mul]; exact pow_mul_lt hf.2 hg.2
    exact Nat.lt_of_le_of_lt (show ((f.2 * g.2).fdiv (Int.gcd f.2 g.2 : Nat)).natAbs ≤ (f.2 * g.2).natAbs by omega) h3
  | _ :: _ :: _ :: _, h, _ => simp at h
theorem lcm_first {t : List Nat × FR} {r : List (List Nat × FR)} (h : TlOk (t :: r)) : ∃ e : Nat, e < 2 ^ 800 ∧ (lcmF 1 (rts (t :: r))).natAbs ≤ t.2.2.natAbs * e := by
  have one : ∀ f : FR, 0 < f.2 → (1 * f.2).fdiv (Int.gcd 1 f.2 : Nat) = f.2 := fun f _ => by
    rw [Int.one_mul, Int.gcd_comm, Int.gcd_one_right]
    exact Int.fdiv_one _
  have ht := (h.2 t List.mem_cons_self).2.1
  match r, h with
  | [], h =>
    refine ⟨1, Nat.lt_of_lt_of_le (show 1 < 2 ^ 1 by decide) (Nat.pow_le_pow_right (by decide) (by decide)), ?_⟩
    show ((1 * t.2.2).fdiv _).natAbs ≤ _
    rw [one t.2 ht.2, Nat.mul_one]
    exact Nat.le_refl _
  | [g], h =>
    have hg := (h.2 g (List.mem_cons_of_mem _ List.mem_cons_self)).2.1
    refine ⟨g.2.2.natAbs, hg.1.2, ?_⟩
    show ((((1 * t.2.2).fdiv (Int.gcd 1 t.2.2 : Nat)) * g.2.2).fdiv (Int.gcd ((1 * t.2.2).fdiv (Int.gcd 1 t.2.2 : Nat)) g.2.2 : Nat)).natAbs ≤ _
    rw [one t.2 ht.2, ← Int.natAbs_mul]
    have h1 := step_le ht.2 hg.2
    have h2 : 0 ≤ (t.2.2 * g.2.2).fdiv (Int.gcd t.2.2 g.2.2 : Nat) := by
      have := Int.mul_pos ht.2 hg.2
      rw [Int.fdiv_eq_ediv_of_nonneg _ (by omega)]
      exact Int.ediv_nonneg (by omega) (by omega)
    omega
  | _ :: _ :: _, h => exact absurd h.1 (by simp)
theorem scl_ok {tl : List (List Nat × FR)} (h : TlOk tl) : 0 < lcmF 1 (rts tl) ∧ (lcmF 1 (rts tl)).natAbs < 2 ^ 1600 ∧ 0 < gcdF (lcmF 1 (rts tl)) 0 (rts tl) ∧ (gcdF (lcmF 1 (rts tl)) 0 (rts tl)).natAbs < 2 ^ 1600 := by
  obtain ⟨L, G, Lp, Gp, eL, eG, m, hm, hg⟩ := red_facts h.rs
  have s := tl_sizes h tl.length
  rw [List.take_length] at s
  rw [eL] at s ⊢
  rw [eG]
  refine ⟨Lp, s.2, Gp, ?_⟩
  obtain ⟨t, r, rfl⟩ : ∃ t r, tl = t :: r := by
    cases tl with
    | nil => have := h.1; simp at this
    | cons t r => exact ⟨t, r, rfl⟩
  obtain ⟨e0, he0, hL⟩ := lcm_first h
  rw [eL] at hL
  have e := hm t.2 List.mem_cons_self
  have ht := h.2 t List.mem_cons_self
  have e2 : L.natAbs * t.2.1.natAbs = (m t.2 * t.2.2).natAbs * G.natAbs := by
    rw [← Int.natAbs_mul, ← Int.natAbs_mul, ← e, Int.mul_right_comm]
  have ne : (m t.2 * t.2.2).natAbs ≠ 0 := fun z => by
    rw [z, Nat.zero_mul] at e2
    have := Nat.mul_eq_zero.mp e2
    have := ht.1
    omega
  rw [Int.natAbs_mul] at e2 ne
  have mp : 0 < (m t.2).natAbs := Nat.pos_of_ne_zero fun z => ne (by rw [z, Nat.zero_mul])
  have dp : 0 < t.2.2.natAbs := Nat.pos_of_ne_zero fun z => ne (by rw [z, Nat.mul_zero])
  have h1 : t.2.2.natAbs * G.natAbs ≤ t.2.2.natAbs * (e0 * t.2.1.natAbs) := by
    refine Nat.le_trans ?_ (show L.natAbs * t.2.1.natAbs ≤ _ from Nat.le_trans (Nat.mul_le_mul_right _ hL) (Nat.le_of_eq (Nat.mul_assoc _ _ _)))
    rw [e2, Nat.mul_assoc]
    exact Nat.le_mul_of_pos_left _ mp
  have h2 := Nat.le_of_mul_le_mul_left h1 dp
  exact Nat.lt_of_le_of_lt h2 (pow_mul_lt (k := 800) (j := 800) he0 ht.2.1.1.1)
theorem scl_sm {tl : List (List Nat × FR)} (h : TlOk tl) : Bn 1600 (scl (rts tl)) ∧ 0 < (scl (rts tl)).2 ∧ 0 < (scl (rts tl)).1 := by
  obtain ⟨h1, h2, h3, h4⟩ := scl_ok h
  unfold scl lowF
  generalize lcmF 1 (rts tl) = L at *
  generalize gcdF L 0 (rts tl) = G at *
  have d := lowD_pos (u := L) (v := G) (by omega)
  have e := lowT_self (u := L) (v := G) (by omega)
  refine ⟨Bn.low (by omega) h2 h4, d, ?_⟩
  show 0 < lowT L G
  have := Int.mul_pos h1 d
  rw [← e] at this
  rcases Int.lt_trichotomy (lowT L G) 0 with h | h | h
  · have := Int.mul_neg_of_neg_of_pos h h3
    omega
  · rw [h, Int.zero_mul] at this
    omega
  · exact h
section
variable {P : Program} {w : World} {K : PySem.W.Frag} {mg : Str → Option Value} {base : Heap} {fa : Nat → Addr} {fd : Nat → FuncData}
theorem low_mul_bd {f g : FR} {k m : Nat} (hf : Bn k f) (hg : Bn m g) (hk : k + m ≤ 4096) (h : f.2 * g.2 ≠ 0) : Bd (lowT (f.1 * g.1) (f.2 * g.2)) ∧ Bd (lowD (f.1 * g.1) (f.2 * g.2)) := by
  have mm : ∀ {x y : Int}, x.natAbs < 2 ^ k → y.natAbs < 2 ^ m → (x * y).natAbs < 2 ^ 4096 := fun hx hy => by
    rw [Int.natAbs_mul]
    exact Nat.lt_of_lt_of_le (pow_mul_lt hx hy) (Nat.pow_le_pow_right (by decide) hk)
  exact ⟨log_lt (Nat.lt_of_le_of_lt (lowT_abs h) (mm hf.1 hg.1)) (by decide), log_lt (Nat.lt_of_le_of_lt (lowD_abs h) (mm hf.2 hg.2)) (by decide)⟩
theorem bd_bn {z : Int} {k : Nat} (h : z.natAbs < 2 ^ k) (hk : k ≤ 4096) : Bd z := log_lt (Nat.lt_of_lt_of_le h (Nat.pow_le_pow_right (by decide) hk)) (by decide)
theorem dt_fr {z : Addr} {H : Hp} {v : V} {f : FR} (h : Dt z H v (frP f)) : ∃ p, v = .ref p ∧ H p = some (.tup [.int f.1, .int f.2]) := by
  match v, h with
  | _, .tup hp (.cons (.int _ _) (.cons (.int _ _) .nil)) => exact ⟨_, rfl, hp⟩
theorem noLs_tm : ∀ l : List (List Nat × FR), noLs (l.map tmP) = true
  | [] => rfl
  | _ :: l => by
    show (true && noLs (l.map tmP)) = true
    rw [noLs_tm l]
    rfl
def spReduced : Sp := fun vs H Q _ => ∃ v tl b z, vs = [v] ∧ Dt z H v (tieP tl b) ∧ TlOk tl ∧ BdF b ∧ ∀ v' H', Same H H' → Dt z H' v' (redP tl b) → Q v' H'
theorem ok_p_reduced (T : Txt K mg fa fd) : FnOk P w K mg base CX0 5 (fa 90) (fd 90) ["tie"] spReduced := by
  refine T.F_p_reduced.ok sc_p_reduced (fun vs H Q E h => ?_) (fun cdv A outer s H vs Q E hr h => ?_)
  · obtain ⟨v, tl, b, z, rfl, _⟩ := h
    rfl
  · obtain ⟨v, tl, b, z, rfl, hv, hok, hb, q⟩ := h
    refine ⟨_, (C8.pss_cut (ps_asg (pv 0) (pg_tup (by rfl) (pgs_cons (pg_name (i := 1) sc_p_reduced.nd rfl (.inl rfl)) (pgs_cons (pg_name (i := 2) sc_p_reduced.nd rfl (.inl rfl)) pgs_nil))))
      (C8.pss_cut (ps_set (i := 3) sc_p_reduced.nd rfl (.inl rfl) pe_int)
      (C8.pss_cut (ps_for PassesOwn.never rfl (pi_tup (pv 1)) (pg_tup (by rfl) (pgs_cons (pg_name (i := 4) sc_p_reduced.nd rfl (.inl rfl)) (pgs_cons (pg_name (i := 5) sc_p_reduced.nd rfl (.inl rfl)) pgs_nil))) (pss_one (ps_set (i := 3) sc_p_reduced.nd rfl (.inl rfl) (pe_op op_fdivG (pe_op op_mulW (pv 3) (pe_ix ix_tup (pv 5) pe_int (fun _ _ => rfl))) (pe_call (ok_p_common_divisor T) (hr.mono (by decide)) (by rfl) T.g_p_common_divisor T.F_p_common_divisor.kp T.b_p_common_divisor .nil pass0 (pa_cons (pv 3) (pa_cons (pe_ix ix_tup (pv 5) pe_int (fun _ _ => rfl)) pa_nil)))))))
      (C8.pss_cut (ps_set (i := 6) sc_p_reduced.nd rfl (.inl rfl) pe_int)
      (C8.pss_cut (ps_for PassesOwn.never rfl (pi_tup (pv 1)) (pg_tup (by rfl) (pgs_cons (pg_name (i := 4) sc_p_reduced.nd rfl (.inl rfl)) (pgs_cons (pg_name (i := 5) sc_p_reduced.nd rfl (.inl rfl)) pgs_nil))) (pss_one (ps_set (i := 6) sc_p_reduced.nd rfl (.inl rfl) (pe_call (ok_p_common_divisor T) (hr.mono (by decide)) (by rfl) T.g_p_common_divisor T.F_p_common_divisor.kp T.b_p_common_divisor .nil pass0 (pa_cons (pv 6) (pa_cons (pe_op op_mulW (pe_op op_fdivG (pv 3) (pe_ix ix_tup (pv 5) pe_int (fun _ _ => rfl))) (pe_ix ix_tup (pv 5) pe_int (fun _ _ => rfl))) pa_nil))))))
      (C8.pss_cut (ps_set (i := 7) sc_p_reduced.nd rfl (.inr rfl) (pe_call (ok_p_ratio0 T) (hr.mono (by decide)) (by rfl) T.g_p_ratio T.F_p_ratio.kp T.b_p_ratio .nil pass0 (pa_cons (pv 3) (pa_cons (pv 6) pa_nil))))
      (pss_one (ps_ret (pe_tup (pa_cons (pe_callTy call_tuple_of (by rfl) T.m_tuple (by decide +kernel) (pa_cons (pe_lc (own := [("name", 4), ("rate", 5)]) (g := gTup K 2 (gCons (gName 4) (gCons (gName 5) gNil))) (tt := tYes) rfl sc_p_reduced.nd (pi_tup (pv 1)) (blkOk_by (own := [("name", 4), ("rate", 5)]) (N := ["tie", "terms", "bound", "under", "name", "rate", "shared", "scale"]) (sc := defScope s_p_reduced) (by decide +kernel)) (fun _ _ _ _ _ => pg_tup rfl (pgs_cons (pg_name (i := 4) sc_p_reduced.nd rfl (Or.inl rfl)) (pgs_cons (pg_name (i := 5) sc_p_reduced.nd rfl (Or.inl rfl)) pgs_nil))) (fun _ _ _ _ _ => pts_nil) (fun _ _ _ _ _ => (pe_tup (pa_cons (pv 4) (pa_cons (pe_call (ok_p_multiply T) (hr.mono (by decide)) (by rfl) T.g_p_multiply T.F_p_multiply.kp T.b_p_multiply .nil pass0 (pa_cons (pv 5) (pa_cons (pv 7) pa_nil))) pa_nil))))) pa_nil)) (pa_cons (pe_call (ok_p_multiply T) (hr.mono (by decide)) (by rfl) T.g_p_multiply T.F_p_multiply.kp T.b_p_multiply .nil pass0 (pa_cons (pv 2) (pa_cons (pv 7) pa_nil))) pa_nil))))))))))), ?_⟩
    obtain ⟨P, t, y, xs, rfl, hP, ht, hts, hy⟩ := tie_inv hv
    obtain ⟨pb, rfl, hpb⟩ := dt_fr hy
    have xl : xs.length = tl.length := by
      have := hts.len
      rw [List.length_map] at this
      exact this
    refine ⟨fun σ H1 => H1 = H ∧ σ = [some (.ref P), some (.ref t), some (.ref pb), none, none, none, none, none], ⟨_, rfl, P, _, rfl, .inl (.inl hP), rfl, _, _, rfl, _, _, rfl, rfl, rfl, rfl⟩, fun σ H1 hM => ?_⟩
    obtain ⟨rfl, rfl⟩ := hM
    refine ⟨fun σ H2 => H2 = H1 ∧ σ = [some (.ref P), some (.ref t), some (.ref pb), some (.int 1), none, none, none, none], ⟨rfl, rfl⟩, fun σ H2 hM => ?_⟩
    obtain ⟨rfl, rfl⟩ := hM
    -- under
    refine ⟨fun σ H3 => H3 = H2 ∧ ∃ y4 y5, σ = [some (.ref P), some (.ref t), some (.ref pb), some (.int (lcmF 1 (rts tl))), y4, y5, none, none], ?_, fun σ H3 hM => ?_⟩
    · refine ⟨_, rfl, t, rfl, ⟨_, SqT.of ht⟩, for_tup (K := K) (a := t) (xs := xs) (fun i σ H3 => H3 = H2 ∧ ∃ y4 y5, σ = [some (.ref P), some (.ref t), some (.ref pb), some (.int (lcmF 1 (rts (tl.take i)))), y4, y5, none, none]) ⟨rfl, _, _, rfl⟩ (fun i σ H3 _ hp => by rw [hp.1]; exact SqT.of ht) (fun i x σ H3 hx hp => ?_) (fun σ H3 hp => ?_)⟩
      · obtain ⟨rfl, y4, y5, rfl⟩ := hp
        obtain ⟨d, hd, hdt⟩ := DtAll.at i hts hx
        rw [List.getElem?_map] at hd
        obtain ⟨⟨n, f⟩, he, rfl⟩ := Option.map_eq_some_iff.mp hd
        have tok : f.1 ≠ 0 ∧ BdF f ∧ n.length ≤ 7 := hok.2 _ (List.mem_of_getElem? he)
        change Dt _ _ _ (.tuple [.str (SX.S n), frP f]) at hdt
        match x, hdt with
        | _, .tup (a := pp) hpp (.cons (.str _ _) (.cons hr .nil)) =>
          obtain ⟨pr, rfl, hpr⟩ := dt_fr hr
          have sz := tl_sizes hok i
          have lp : 0 < f.2 := tok.2.1.2
          refine ⟨pp, _, rfl, .inl (.inl hpp), rfl, _, _, rfl, _, _, rfl, rfl, _, rfl, _, rfl, pr, _, _, _, rfl, rfl, SqT.of hpr, t1, _, _, rfl, rfl, wide (f := f) (g := f) (k := 1600) (by decide) sz.2 (Nat.lt_of_lt_of_le tok.2.1.1.2 (Nat.pow_le_pow_right (by decide) (by decide))), _, rfl, _, rfl, pr, _, _, _, rfl, rfl, SqT.of hpr, t1, _, _, rfl, .inr (bd_bn tok.2.1.1.2 (by decide)), _, _, rfl, rfl, ⟨?_, ?_⟩, rfl, some (.str (SX.S n)), some (.ref pr), ?_⟩
          · have := gcd_pos (u := lcmF 1 (rts (tl.take i))) (v := f.2) (by omega)
            omega
          · rw [Int.natAbs_natCast]
            have := gcd_le (u := lcmF 1 (rts (tl.take i))) (v := f.2) (by omega)
            exact log_lt (Nat.lt_of_le_of_lt this (Nat.lt_of_lt_of_le tok.2.1.1.2 (Nat.pow_le_pow_right (by decide) (show 800 ≤ 9000 by decide)))) (by decide)
          · rw [List.take_add_one, he]
            unfold rts
            rw [List.map_append, lcmF_app]
            rfl
      · obtain ⟨rfl, y4, y5, rfl⟩ := hp
        rw [xl, List.take_length]
        exact ⟨rfl, _, _, rfl⟩
    obtain ⟨rfl, y4, y5, rfl⟩ := hM
    refine ⟨fun σ H4 => H4 = H3 ∧ σ = [some (.ref P), some (.ref t), some (.ref pb), some (.int (lcmF 1 (rts tl))), y4, y5, some (.int 0), none], ⟨rfl, rfl⟩, fun σ H4 hM => ?_⟩
    obtain ⟨rfl, rfl⟩ := hM
    obtain ⟨Lp, Lm, Gp, Gm⟩ := scl_ok hok
    have hscl : scl (rts tl) = lowF (lcmF 1 (rts tl)) (gcdF (lcmF 1 (rts tl)) 0 (rts tl)) := rfl
    obtain ⟨ssm, s2p, s1p⟩ := scl_sm hok
    have ssm := ssm.mono (show 1600 ≤ 2048 by decide)
    have Ldv := (lcmF_ok (rts tl) 1 (by decide) fun f hf => (hok.rs.2 f hf).1).2.2
    generalize lcmF 1 (rts tl) = L at *
    -- shared
    refine ⟨fun σ H5 => H5 = H4 ∧ ∃ y4 y5, σ = [some (.ref P), some (.ref t), some (.ref pb), some (.int L), y4, y5, some (.int (gcdF L 0 (rts tl))), none], ?_, fun σ H5 hM => ?_⟩
    · refine ⟨_, rfl, t, rfl, ⟨_, SqT.of ht⟩, for_tup (K := K) (a := t) (xs := xs) (fun i σ H3 => H3 = H4 ∧ ∃ y4 y5, σ = [some (.ref P), some (.ref t), some (.ref pb), some (.int L), y4, y5, some (.int (gcdF L 0 (rts (tl.take i)))), none]) ⟨rfl, _, _, rfl⟩ (fun i σ H3 _ hp => by rw [hp.1]; exact SqT.of ht) (fun i x σ H3 hx hp => ?_) (fun σ H3 hp => ?_)⟩
      · obtain ⟨rfl, y4, y5, rfl⟩ := hp
        obtain ⟨d, hd, hdt⟩ := DtAll.at i hts hx
        rw [List.getElem?_map] at hd
        obtain ⟨⟨n, f⟩, he, rfl⟩ := Option.map_eq_some_iff.mp hd
        have tok : f.1 ≠ 0 ∧ BdF f ∧ n.length ≤ 7 := hok.2 _ (List.mem_of_getElem? he)
        change Dt _ _ _ (.tuple [.str (SX.S n), frP f]) at hdt
        match x, hdt with
        | _, .tup (a := pp) hpp (.cons (.str _ _) (.cons hr .nil)) =>
          obtain ⟨pr, rfl, hpr⟩ := dt_fr hr
          have lp : 0 < f.2 := tok.2.1.2
          have le : (L.fdiv f.2).natAbs < 2 ^ 1600 := by
            have h1 : L.fdiv f.2 ≤ L ∧ 0 ≤ L.fdiv f.2 := by
              rw [Int.fdiv_eq_ediv_of_nonneg _ (by omega)]
              exact ⟨Int.ediv_le_self _ (by omega), Int.ediv_nonneg (by omega) (by omega)⟩
            exact Nat.lt_of_le_of_lt (show (L.fdiv f.2).natAbs ≤ L.natAbs by omega) Lm
          refine ⟨pp, _, rfl, .inl (.inl hpp), rfl, _, _, rfl, _, _, rfl, rfl, _, rfl, _, rfl, _, rfl, pr, _, _, _, rfl, rfl, SqT.of hpr, t1, _, _, rfl, rfl, ⟨by omega, ?_⟩, _, rfl, pr, _, _, _, rfl, rfl, SqT.of hpr, t0, _, _, rfl, rfl, wide (f := f) (g := f) (k := 1600) (by decide) le (Nat.lt_of_lt_of_le tok.2.1.1.1 (Nat.pow_le_pow_right (by decide) (by decide))), _, _, rfl, .inr (log_lt (Nat.lt_of_lt_of_le (show (L.fdiv f.2 * f.1).natAbs < 2 ^ (1600 + 800) by rw [Int.natAbs_mul]; exact pow_mul_lt le tok.2.1.1.1) (Nat.pow_le_pow_right (by decide) (show 1600 + 800 ≤ 4096 by decide))) (by decide)), rfl, some (.str (SX.S n)), some (.ref pr), ?_⟩
          · exact log_lt (Nat.lt_of_lt_of_le tok.2.1.1.2 (Nat.pow_le_pow_right (by decide) (show 800 ≤ 9000 by decide))) (by decide)
          · rw [List.take_add_one, he]
            unfold rts
            rw [List.map_append, gcdF_app]
            rfl
      · obtain ⟨rfl, y4, y5, rfl⟩ := hp
        rw [xl, List.take_length]
        exact ⟨rfl, _, _, rfl⟩
    clear y4 y5
    obtain ⟨rfl, y4, y5, rfl⟩ := hM
    generalize gcdF L 0 (rts tl) = G at *
    -- scale
    refine ⟨fun σ H6 => ∃ ps, H5 ps = none ∧ Same H5 H6 ∧ H6 ps = some (.tup [.int (scl (rts tl)).1, .int (scl (rts tl)).2]) ∧ σ = [some (.ref P), some (.ref t), some (.ref pb), some (.int L), y4, y5, some (.int G), some (.ref ps)], ?_, fun σ H6 hM => ?_⟩
    · refine ⟨_, rfl, _, rfl, _, _, rfl, by omega, log_lt (Nat.lt_of_lt_of_le Gm (Nat.pow_le_pow_right (by decide) (show 1600 ≤ 4096 by decide))) (by decide), fun ps nps => ⟨ps, nps, same_upd nps, ?_, rfl⟩⟩
      rw [hscl]
      exact upd_same
    obtain ⟨ps, nps, s6, hps, rfl⟩ := hM
    have ht6 := s6 _ _ ht
    have hts6 := hts.same s6
    refine ⟨_, rfl, t, rfl, ⟨_, SqT.of ht6⟩, fun D nD => ?_⟩
    refine lc_tup (K := K) (a := t) (xs := xs) (fun i G => Same H6 G ∧ ∃ vs, G D = some (.lst vs) ∧ DtAll z G vs (((redL tl).take i).map tmP)) ⟨same_upd nD, [], upd_same, .nil⟩ (fun i G _ hq => SqT.of (hq.1 _ _ ht6)) (fun i x G hx hq => ?_) (fun G hq => ?_)
    · obtain ⟨sG, vs, hD, hvs⟩ := hq
      obtain ⟨d, hd, hdt⟩ := DtAll.at i hts6 hx
      rw [List.getElem?_map] at hd
      obtain ⟨⟨n, f⟩, he, rfl⟩ := Option.map_eq_some_iff.mp hd
      have tok : f.1 ≠ 0 ∧ BdF f ∧ n.length ≤ 7 := hok.2 _ (List.mem_of_getElem? he)
      change Dt _ _ _ (.tuple [.str (SX.S n), frP f]) at hdt
      have vl : vs.length < sizeLine := by
        have e1 := hvs.len
        rw [List.length_map, List.length_take] at e1
        have := hok.1
        have : (redL tl).length = tl.length := List.length_map ..
        exact small1000 (by omega)
      match x, hdt with
      | _, .tup (a := pp) hpp (.cons (.str _ hn) (.cons hr .nil)) =>
        obtain ⟨pr, rfl, hpr⟩ := dt_fr hr
        refine ⟨pp, _, rfl, .inl (.inl (sG _ _ hpp)), rfl, _, _, rfl, _, _, rfl, rfl, rfl, _, rfl, _, rfl, _, rfl, pr, ps, f, scl (rts tl), rfl, SqT.of (sG _ _ hpr), SqT.of (sG _ _ hps), tok.2.1.2, s2p, tok.2.1.1.mono (by decide), ssm, fun e ne => ?_⟩
        obtain ⟨se, de⟩ := dnewT (z := z) ne (.cons (.int (lowT (f.1 * (scl (rts tl)).1) (f.2 * (scl (rts tl)).2)) (low_mul_bd tok.2.1.1 ssm (by decide) (Int.mul_ne_zero (by have := tok.2.1.2; omega) (by omega))).1) (.cons (.int (lowD (f.1 * (scl (rts tl)).1) (f.2 * (scl (rts tl)).2)) (low_mul_bd tok.2.1.1 ssm (by decide) (Int.mul_ne_zero (by have := tok.2.1.2; omega) (by omega))).2) .nil))
        refine ⟨two_line, fun e2 ne2 => ?_⟩
        obtain ⟨se2, de2⟩ := dnewT (z := z) ne2 (.cons (.str (SX.S n) hn) (.cons de .nil))
        have hD2 := (se.trans se2) _ _ hD
        refine ⟨vs, hD2, vl, fun b o e => (by rw [upd_ne (ne_of_none e nD)]; exact (se.trans se2) _ _ (sG _ _ e)), vs ++ [.ref e2], upd_same, ?_⟩
        have er : (redL tl)[i]? = some (n, redF (scl (rts tl)) f) := by
          unfold redL
          rw [List.getElem?_map, he]
          rfl
        rw [List.take_add_one, er, List.map_append]
        refine DtAll.snoc (hvs.tups ((TT.of (se.trans se2)).trans (TT.upd hD2)) _ _ (noLs_tm _)) ?_
        exact Dt.tups (TT.upd hD2) _ _ rfl de2
    · obtain ⟨sG, vs, hD, hvs⟩ := hq
      have : (redL tl).length = tl.length := List.length_map ..
      rw [xl, ← this, List.take_length] at hvs
      refine ⟨D, vs, rfl, .inl ⟨SqL.of hD, fun l nl => ?_⟩⟩
      obtain ⟨sl, dl⟩ := dnewT (z := z) nl hvs
      have s5 := s6.trans (sG.trans sl)
      refine ⟨_, rfl, _, rfl, pb, ps, b, scl (rts tl), rfl, SqT.of (s5 _ _ hpb), SqT.of ((sG.trans sl) _ _ hps), hb.2, s2p, hb.1.mono (by decide), ssm, fun e ne => ?_⟩
      obtain ⟨se, de⟩ := dnewT (z := z) ne (.cons (.int (lowT (b.1 * (scl (rts tl)).1) (b.2 * (scl (rts tl)).2)) (low_mul_bd hb.1 ssm (by decide) (Int.mul_ne_zero (by have := hb.2; omega) (by omega))).1) (.cons (.int (lowD (b.1 * (scl (rts tl)).1) (b.2 * (scl (rts tl)).2)) (low_mul_bd hb.1 ssm (by decide) (Int.mul_ne_zero (by have := hb.2; omega) (by omega))).2) .nil))
      refine ⟨two_line, fun o no => ?_⟩
      obtain ⟨so, d0⟩ := dnewT (z := z) no (.cons (dl.same se) (.cons de .nil))
      exact q (.ref o) _ (s5.trans (se.trans so)) d0
end
section
variable {P : Program} {w : World} {K : PySem.W.Frag} {mg : Str → Option Value} {base : Heap} {fa : Nat → Addr} {fd : Nat → FuncData}
theorem ok_brief (T : Txt K mg fa fd) : FnOk P w K mg base CX0 5 (fa 157) (fd 157) ["_law_tie"] spReduced := by
  refine T.F_brief.ok sc_brief (fun vs H Q E h => ?_) (fun cdv A outer s H vs Q E hr h => ?_)
  · obtain ⟨v, tl, b, z, rfl, _⟩ := h
    rfl
  · obtain ⟨v, tl, b, z, rfl, hv, hok, hb, q⟩ := h
    refine ⟨_, (C8.pss_cut (ps_asg (pe_tup (pa_cons pe_int (pa_cons pe_int pa_nil))) (pg_tup (by rfl) (pgs_cons (pg_name (i := 1) sc_brief.nd rfl (.inl rfl)) (pgs_cons (pg_name (i := 2) sc_brief.nd rfl (.inl rfl)) pgs_nil))))
      (C8.pss_cut (ps_for PassesOwn.never rfl (pi_tup (pe_ix ix_tup (pv 0) pe_int (fun _ _ => rfl))) (pg_tup (by rfl) (pgs_cons (pg_name (i := 3) sc_brief.nd rfl (.inl rfl)) (pgs_cons (pg_name (i := 4) sc_brief.nd rfl (.inl rfl)) pgs_nil))) (pss_one (ps_set (i := 1) sc_brief.nd rfl (.inl rfl) (pe_op op_fdivG (pe_op op_mulW (pv 1) (pe_ix ix_tup (pv 4) pe_int (fun _ _ => rfl))) (pe_call (ok_gcd T) (hr.mono (by decide)) (by rfl) T.g_gcd T.F_gcd.kp T.b_gcd .nil pass0 (pa_cons (pv 1) (pa_cons (pe_ix ix_tup (pv 4) pe_int (fun _ _ => rfl)) pa_nil)))))))
      (C8.pss_cut (ps_for PassesOwn.never rfl (pi_tup (pe_ix ix_tup (pv 0) pe_int (fun _ _ => rfl))) (pg_tup (by rfl) (pgs_cons (pg_name (i := 3) sc_brief.nd rfl (.inl rfl)) (pgs_cons (pg_name (i := 4) sc_brief.nd rfl (.inl rfl)) pgs_nil))) (pss_one (ps_set (i := 2) sc_brief.nd rfl (.inl rfl) (pe_call (ok_gcd T) (hr.mono (by decide)) (by rfl) T.g_gcd T.F_gcd.kp T.b_gcd .nil pass0 (pa_cons (pv 2) (pa_cons (pe_op op_mulW (pe_ix ix_tup (pv 4) pe_int (fun _ _ => rfl)) (pe_op op_fdivG (pv 1) (pe_ix ix_tup (pv 4) pe_int (fun _ _ => rfl)))) pa_nil))))))
      (C8.pss_cut (ps_set (i := 5) sc_brief.nd rfl (.inr rfl) (pe_call (ok_low T) (hr.mono (by decide)) (by rfl) T.g_low T.F_low.kp T.b_low .nil pass0 (pa_cons (pv 1) (pa_cons (pv 2) pa_nil))))
      (pss_one (ps_ret (pe_tup (pa_cons (pe_callTy call_tuple_of (by rfl) T.m_tuple (by decide +kernel) (pa_cons (pe_lc (own := [("_law_name", 3), ("_law_rate_here", 4)]) (g := gTup K 2 (gCons (gName 3) (gCons (gName 4) gNil))) (tt := tYes) rfl sc_brief.nd (pi_tup (pe_ix ix_tup (pv 0) pe_int (fun _ _ => rfl))) (blkOk_by (own := [("_law_name", 3), ("_law_rate_here", 4)]) (N := ["_law_tie", "_law_whole", "_law_part", "_law_name", "_law_rate_here", "_law_scale"]) (sc := defScope s_brief) (by decide +kernel)) (fun _ _ _ _ _ => pg_tup rfl (pgs_cons (pg_name (i := 3) sc_brief.nd rfl (Or.inl rfl)) (pgs_cons (pg_name (i := 4) sc_brief.nd rfl (Or.inl rfl)) pgs_nil))) (fun _ _ _ _ _ => pts_nil) (fun _ _ _ _ _ => (pe_tup (pa_cons (pv 3) (pa_cons (pe_call (ok_by T) (hr.mono (by decide)) (by rfl) T.g_by T.F_by.kp T.b_by .nil pass0 (pa_cons (pv 4) (pa_cons (pv 5) pa_nil))) pa_nil))))) pa_nil)) (pa_cons (pe_call (ok_by T) (hr.mono (by decide)) (by rfl) T.g_by T.F_by.kp T.b_by .nil pass0 (pa_cons (pe_ix ix_tup (pv 0) pe_int (fun _ _ => rfl)) (pa_cons (pv 5) pa_nil))) pa_nil))))))))), ?_⟩
    obtain ⟨P, t, y, xs, rfl, hP, ht, hts, hy⟩ := tie_inv hv
    obtain ⟨pb, rfl, hpb⟩ := dt_fr hy
    have xl : xs.length = tl.length := by
      have := hts.len
      rw [List.length_map] at this
      exact this
    refine ⟨fun σ H2 => Same H H2 ∧ σ = [some (.ref P), some (.int 1), some (.int 0), none, none, none], ⟨two_line, fun e ne => ⟨e, _, rfl, .inl (.inl upd_same), rfl, _, _, rfl, _, _, rfl, rfl, same_upd ne, rfl⟩⟩, fun σ H2 hM => ?_⟩
    obtain ⟨s2, rfl⟩ := hM
    have hP := s2 _ _ hP
    have ht := s2 _ _ ht
    have hts := hts.same s2
    have hpb := s2 _ _ hpb
    -- under
    refine ⟨fun σ H3 => H3 = H2 ∧ ∃ y4 y5, σ = [some (.ref P), some (.int (lcmF 1 (rts tl))), some (.int 0), y4, y5, none], ?_, fun σ H3 hM => ?_⟩
    · refine ⟨_, rfl, P, _, _, _, rfl, rfl, SqT.of hP, rfl, t, rfl, ⟨_, SqT.of ht⟩, for_tup (K := K) (a := t) (xs := xs) (fun i σ H3 => H3 = H2 ∧ ∃ y4 y5, σ = [some (.ref P), some (.int (lcmF 1 (rts (tl.take i)))), some (.int 0), y4, y5, none]) ⟨rfl, _, _, rfl⟩ (fun i σ H3 _ hp => by rw [hp.1]; exact SqT.of ht) (fun i x σ H3 hx hp => ?_) (fun σ H3 hp => ?_)⟩
      · obtain ⟨rfl, y4, y5, rfl⟩ := hp
        obtain ⟨d, hd, hdt⟩ := DtAll.at i hts hx
        rw [List.getElem?_map] at hd
        obtain ⟨⟨n, f⟩, he, rfl⟩ := Option.map_eq_some_iff.mp hd
        have tok : f.1 ≠ 0 ∧ BdF f ∧ n.length ≤ 7 := hok.2 _ (List.mem_of_getElem? he)
        change Dt _ _ _ (.tuple [.str (SX.S n), frP f]) at hdt
        match x, hdt with
        | _, .tup (a := pp) hpp (.cons (.str _ _) (.cons hr .nil)) =>
          obtain ⟨pr, rfl, hpr⟩ := dt_fr hr
          have sz := tl_sizes hok i
          have lp : 0 < f.2 := tok.2.1.2
          refine ⟨pp, _, rfl, .inl (.inl hpp), rfl, _, _, rfl, _, _, rfl, rfl, _, rfl, _, rfl, pr, _, _, _, rfl, rfl, SqT.of hpr, t1, _, _, rfl, rfl, wide (f := f) (g := f) (k := 1600) (by decide) sz.2 (Nat.lt_of_lt_of_le tok.2.1.1.2 (Nat.pow_le_pow_right (by decide) (by decide))), _, rfl, _, rfl, pr, _, _, _, rfl, rfl, SqT.of hpr, t1, _, _, rfl, _, _, rfl, rfl, ⟨?_, ?_⟩, rfl, some (.str (SX.S n)), some (.ref pr), ?_⟩
          · have := gcd_pos (u := lcmF 1 (rts (tl.take i))) (v := f.2) (by omega)
            omega
          · rw [Int.natAbs_natCast]
            have := gcd_le (u := lcmF 1 (rts (tl.take i))) (v := f.2) (by omega)
            exact log_lt (Nat.lt_of_le_of_lt this (Nat.lt_of_lt_of_le tok.2.1.1.2 (Nat.pow_le_pow_right (by decide) (show 800 ≤ 9000 by decide)))) (by decide)
          · rw [List.take_add_one, he]
            unfold rts
            rw [List.map_append, lcmF_app]
            rfl
      · obtain ⟨rfl, y4, y5, rfl⟩ := hp
        rw [xl, List.take_length]
        exact ⟨rfl, _, _, rfl⟩
    obtain ⟨rfl, y4, y5, rfl⟩ := hM
    obtain ⟨Lp, Lm, Gp, Gm⟩ := scl_ok hok
    have hscl : scl (rts tl) = lowF (lcmF 1 (rts tl)) (gcdF (lcmF 1 (rts tl)) 0 (rts tl)) := rfl
    obtain ⟨ssm, s2p, s1p⟩ := scl_sm hok
    have ssm := ssm.mono (show 1600 ≤ 2048 by decide)
    have Ldv := (lcmF_ok (rts tl) 1 (by decide) fun f hf => (hok.rs.2 f hf).1).2.2
    generalize lcmF 1 (rts tl) = L at *
    -- shared
    refine ⟨fun σ H5 => H5 = H3 ∧ ∃ y4 y5, σ = [some (.ref P), some (.int L), some (.int (gcdF L 0 (rts tl))), y4, y5, none], ?_, fun σ H5 hM => ?_⟩
    · refine ⟨_, rfl, P, _, _, _, rfl, rfl, SqT.of hP, rfl, t, rfl, ⟨_, SqT.of ht⟩, for_tup (K := K) (a := t) (xs := xs) (fun i σ H4 => H4 = H3 ∧ ∃ y4 y5, σ = [some (.ref P), some (.int L), some (.int (gcdF L 0 (rts (tl.take i)))), y4, y5, none]) ⟨rfl, _, _, rfl⟩ (fun i σ H3 _ hp => by rw [hp.1]; exact SqT.of ht) (fun i x σ H3 hx hp => ?_) (fun σ H3 hp => ?_)⟩
      · obtain ⟨rfl, y4, y5, rfl⟩ := hp
        obtain ⟨d, hd, hdt⟩ := DtAll.at i hts hx
        rw [List.getElem?_map] at hd
        obtain ⟨⟨n, f⟩, he, rfl⟩ := Option.map_eq_some_iff.mp hd
        have tok : f.1 ≠ 0 ∧ BdF f ∧ n.length ≤ 7 := hok.2 _ (List.mem_of_getElem? he)
        change Dt _ _ _ (.tuple [.str (SX.S n), frP f]) at hdt
        match x, hdt with
        | _, .tup (a := pp) hpp (.cons (.str _ _) (.cons hr .nil)) =>
          obtain ⟨pr, rfl, hpr⟩ := dt_fr hr
          have lp : 0 < f.2 := tok.2.1.2
          have le : (L.fdiv f.2).natAbs < 2 ^ 1600 := by
            have h1 : L.fdiv f.2 ≤ L ∧ 0 ≤ L.fdiv f.2 := by
              rw [Int.fdiv_eq_ediv_of_nonneg _ (by omega)]
              exact ⟨Int.ediv_le_self _ (by omega), Int.ediv_nonneg (by omega) (by omega)⟩
            exact Nat.lt_of_le_of_lt (show (L.fdiv f.2).natAbs ≤ L.natAbs by omega) Lm
          refine ⟨pp, _, rfl, .inl (.inl hpp), rfl, _, _, rfl, _, _, rfl, rfl, _, rfl, _, rfl, pr, _, _, _, rfl, rfl, SqT.of hpr, t0, _, rfl, _, rfl, pr, _, _, _, rfl, rfl, SqT.of hpr, t1, _, _, rfl, rfl, ⟨by omega, ?_⟩, _, _, rfl, rfl, wide (f := f) (g := f) (k := 1600) (by decide) (Nat.lt_of_lt_of_le tok.2.1.1.1 (Nat.pow_le_pow_right (by decide) (by decide))) le, _, _, rfl, rfl, some (.str (SX.S n)), some (.ref pr), ?_⟩
          · exact log_lt (Nat.lt_of_lt_of_le tok.2.1.1.2 (Nat.pow_le_pow_right (by decide) (show 800 ≤ 9000 by decide))) (by decide)
          · rw [List.take_add_one, he]
            unfold rts
            rw [List.map_append, gcdF_app, Int.mul_comm f.1]
            rfl
      · obtain ⟨rfl, y4, y5, rfl⟩ := hp
        rw [xl, List.take_length]
        exact ⟨rfl, _, _, rfl⟩
    clear y4 y5
    obtain ⟨rfl, y4, y5, rfl⟩ := hM
    generalize gcdF L 0 (rts tl) = G at *
    -- scale
    refine ⟨fun σ H6 => ∃ ps, H5 ps = none ∧ Same H5 H6 ∧ H6 ps = some (.tup [.int (scl (rts tl)).1, .int (scl (rts tl)).2]) ∧ σ = [some (.ref P), some (.int L), some (.int G), y4, y5, some (.ref ps)], ?_, fun σ H6 hM => ?_⟩
    · refine ⟨_, rfl, _, rfl, _, _, rfl, by omega, log_lt (Nat.lt_of_lt_of_le Gm (Nat.pow_le_pow_right (by decide) (show 1600 ≤ 4096 by decide))) (by decide), fun ps nps => ⟨ps, nps, same_upd nps, ?_, rfl⟩⟩
      rw [hscl]
      exact upd_same
    obtain ⟨ps, nps, s6, hps, rfl⟩ := hM
    have ht6 := s6 _ _ ht
    have hts6 := hts.same s6
    refine ⟨_, rfl, P, _, _, _, rfl, rfl, SqT.of (s6 _ _ hP), rfl, t, rfl, ⟨_, SqT.of ht6⟩, fun D nD => ?_⟩
    refine lc_tup (K := K) (a := t) (xs := xs) (fun i G => Same H6 G ∧ ∃ vs, G D = some (.lst vs) ∧ DtAll z G vs (((redL tl).take i).map tmP)) ⟨same_upd nD, [], upd_same, .nil⟩ (fun i G _ hq => SqT.of (hq.1 _ _ ht6)) (fun i x G hx hq => ?_) (fun G hq => ?_)
    · obtain ⟨sG, vs, hD, hvs⟩ := hq
      obtain ⟨d, hd, hdt⟩ := DtAll.at i hts6 hx
      rw [List.getElem?_map] at hd
      obtain ⟨⟨n, f⟩, he, rfl⟩ := Option.map_eq_some_iff.mp hd
      have tok : f.1 ≠ 0 ∧ BdF f ∧ n.length ≤ 7 := hok.2 _ (List.mem_of_getElem? he)
      change Dt _ _ _ (.tuple [.str (SX.S n), frP f]) at hdt
      have vl : vs.length < sizeLine := by
        have e1 := hvs.len
        rw [List.length_map, List.length_take] at e1
        have := hok.1
        have : (redL tl).length = tl.length := List.length_map ..
        exact small1000 (by omega)
      match x, hdt with
      | _, .tup (a := pp) hpp (.cons (.str _ hn) (.cons hr .nil)) =>
        obtain ⟨pr, rfl, hpr⟩ := dt_fr hr
        refine ⟨pp, _, rfl, .inl (.inl (sG _ _ hpp)), rfl, _, _, rfl, _, _, rfl, rfl, rfl, _, rfl, _, rfl, _, rfl, pr, ps, f, scl (rts tl), rfl, SqT.of (sG _ _ hpr), SqT.of (sG _ _ hps), tok.2.1.2, s2p, tok.2.1.1.mono (by decide), ssm, fun e ne => ?_⟩
        obtain ⟨se, de⟩ := dnewT (z := z) ne (.cons (.int (lowT (f.1 * (scl (rts tl)).1) (f.2 * (scl (rts tl)).2)) (low_mul_bd tok.2.1.1 ssm (by decide) (Int.mul_ne_zero (by have := tok.2.1.2; omega) (by omega))).1) (.cons (.int (lowD (f.1 * (scl (rts tl)).1) (f.2 * (scl (rts tl)).2)) (low_mul_bd tok.2.1.1 ssm (by decide) (Int.mul_ne_zero (by have := tok.2.1.2; omega) (by omega))).2) .nil))
        refine ⟨two_line, fun e2 ne2 => ?_⟩
        obtain ⟨se2, de2⟩ := dnewT (z := z) ne2 (.cons (.str (SX.S n) hn) (.cons de .nil))
        have hD2 := (se.trans se2) _ _ hD
        refine ⟨vs, hD2, vl, fun b o e => (by rw [upd_ne (ne_of_none e nD)]; exact (se.trans se2) _ _ (sG _ _ e)), vs ++ [.ref e2], upd_same, ?_⟩
        have er : (redL tl)[i]? = some (n, redF (scl (rts tl)) f) := by
          unfold redL
          rw [List.getElem?_map, he]
          rfl
        rw [List.take_add_one, er, List.map_append]
        refine DtAll.snoc (hvs.tups ((TT.of (se.trans se2)).trans (TT.upd hD2)) _ _ (noLs_tm _)) ?_
        exact Dt.tups (TT.upd hD2) _ _ rfl de2
    · obtain ⟨sG, vs, hD, hvs⟩ := hq
      have : (redL tl).length = tl.length := List.length_map ..
      rw [xl, ← this, List.take_length] at hvs
      refine ⟨D, vs, rfl, .inl ⟨SqL.of hD, fun l nl => ?_⟩⟩
      obtain ⟨sl, dl⟩ := dnewT (z := z) nl hvs
      have s5 := s6.trans (sG.trans sl)
      refine ⟨_, rfl, P, _, _, _, rfl, rfl, SqT.of (s5 _ _ hP), rfl, _, rfl, pb, ps, b, scl (rts tl), rfl, SqT.of (s5 _ _ hpb), SqT.of ((sG.trans sl) _ _ hps), hb.2, s2p, hb.1.mono (by decide), ssm, fun e ne => ?_⟩
      obtain ⟨se, de⟩ := dnewT (z := z) ne (.cons (.int (lowT (b.1 * (scl (rts tl)).1) (b.2 * (scl (rts tl)).2)) (low_mul_bd hb.1 ssm (by decide) (Int.mul_ne_zero (by have := hb.2; omega) (by omega))).1) (.cons (.int (lowD (b.1 * (scl (rts tl)).1) (b.2 * (scl (rts tl)).2)) (low_mul_bd hb.1 ssm (by decide) (Int.mul_ne_zero (by have := hb.2; omega) (by omega))).2) .nil))
      refine ⟨two_line, fun o no => ?_⟩
      obtain ⟨so, d0⟩ := dnewT (z := z) no (.cons (dl.same se) (.cons de .nil))
      exact q (.ref o) _ (s2.trans (s5.trans (se.trans so))) d0
end
/-! ### names in order, any number of them -/
def leN (a b : List Nat) : Prop := ltCps b a = false
theorem ltc (a b : List Nat) : ltCps a b = decide (a < b) := by
  have h := lt_meets (SX.S a) (SX.S b)
  rw [S_list, S_list] at h
  exact h.symm
theorem leN_iff {a b : List Nat} : leN a b ↔ a ≤ b := by
  unfold leN
  rw [ltc, decide_eq_false_iff_not, List.not_lt]
theorem leN_trans {a b c : List Nat} (h : leN a b) (k : leN b c) : leN a c := leN_iff.mpr (List.le_trans (leN_iff.mp h) (leN_iff.mp k))
theorem leN_anti {a b : List Nat} (h : leN a b) (k : leN b a) : a = b := by
  by_cases e : a = b
  · exact e
  · have := lt_tri a b h e
    rw [show ltCps a b = false from k] at this
    cases this
def leStr (a b : Str) : Prop := leN a.cps.toList b.cps.toList
theorem srt_pw : ∀ (l : List Str), sortedS l = true → l.Pairwise leStr
  | [], _ => .nil
  | [x], _ => List.pairwise_singleton _ _
  | x :: y :: r, h => by
    have h : (!ltCps y.cps.toList x.cps.toList && risingS y r) = true := h
    rw [Bool.and_eq_true, Bool.not_eq_true'] at h
    have ih := srt_pw (y :: r) h.2
    refine List.Pairwise.cons (fun z hz => ?_) ih
    rcases List.mem_cons.mp hz with rfl | hz
    · exact h.1
    · exact leN_trans h.1 ((List.pairwise_cons.mp ih).1 z hz)
theorem str_ext {a b : Str} (h : a.cps.toList = b.cps.toList) : a = b := by rw [← S_of a, ← S_of b, h]
theorem srt_unique {l r : List Str} (hl : l.Pairwise leStr) (hr : r.Pairwise leStr) (h : l.Perm r) : l = r :=
  List.Perm.eq_of_pairwise (fun _ _ _ _ h k => str_ext (leN_anti h k)) hl hr h
theorem zero_sub {f : FR} (h : Nf f) : subL (0, 1) f = negF f := by
  unfold subL
  dsimp only
  rw [Int.zero_mul, Int.mul_one, Int.one_mul, Int.zero_sub, lowF_neg (by have := h.1; omega), low_nf h]
section
variable {P : Program} {w : World} {K : PySem.W.Frag} {mg : Str → Option Value} {base : Heap} {fa : Nat → Addr} {fd : Nat → FuncData}
def diff (u v : List Nat → FR) : List Nat → FR := fun x => subL (u x) (v x)
/-- the names of a tie, ascending -/
structure Nms (N : List (List Nat)) (D : List Nat → FR) (ns : List (List Nat)) : Prop where
  perm : ns.Perm (N.filter (nz D))
  srt : (ns.map SX.S).Pairwise leStr
structure Sides (K : PySem.W.Frag) (H : Hp) (a b : Addr) (N M : List (List Nat)) (u v : List Nat → FR) : Prop where
  ha : RD K H a N u
  hb : RD K H b M v
  ou : ValOk N u
  ov : ValOk M v
  ln : N.length ≤ 31
  lm : M.length ≤ 31
  sm : ∀ x, Bn 800 (diff u v x)
theorem Sides.same {K : PySem.W.Frag} {H H' : Hp} {a b : Addr} {N M : List (List Nat)} {u v : List Nat → FR} (h : Sides K H a b N M u v) (s : Same H H') : Sides K H' a b N M u v := ⟨h.ha.same s, h.hb.same s, h.ou, h.ov, h.ln, h.lm, h.sm⟩
theorem Sides.nf {K : PySem.W.Frag} {H : Hp} {a b : Addr} {N M : List (List Nat)} {u v : List Nat → FR} (h : Sides K H a b N M u v) (x : List Nat) : Nf (diff u v x) := subL_nf (h.ou.1 x).1.1 (h.ov.1 x).1.1
def tlOf (D : List Nat → FR) (ns : List (List Nat)) : List It := ns.map fun x => (x, D x)
def spBelow (K : PySem.W.Frag) : Sp := fun vs H Q _ => ∃ (a b : Addr) (N M : List (List Nat)) (u v : List Nat → FR) (z : Addr) (ns : List (List Nat)), vs = [.ref a, .ref b] ∧ Sides K H a b N M u v ∧ [] ∈ N ∧ (∀ x ∈ broN N M, x.length ≤ 7) ∧ Nms (broN N M) (diff u v) ns ∧ (ns.length = 1 ∨ ns.length = 2) ∧
  ∀ v' H', Same H H' → Dt z H' v' (redP (tlOf (diff u v) ns) (negF (diff u v []))) → Q v' H'
theorem ok_p_tie_below (T : Txt K mg fa fd) : FnOk P w K mg base CX0 6 (fa 97) (fd 97) ["left", "right"] (spBelow K) := by
  refine T.F_p_tie_below.ok sc_p_tie_below (fun vs H Q E h => ?_) (fun cdv A outer s H vs Q E hr h => ?_)
  · obtain ⟨a, b, N, M, u, v, z, ns, rfl, _⟩ := h
    rfl
  · obtain ⟨a, b, N, M, u, v, z, ns, rfl, hs, hN, h7, hns, hl, q⟩ := h
    refine ⟨_, (C8.pss_cut (ps_set (i := 2) sc_p_tie_below.nd rfl (.inr rfl) (pe_call (ok_p_brought_together T) (hr.mono (by decide)) (by rfl) T.g_p_brought_together T.F_p_brought_together.kp T.b_p_brought_together .nil pass0 (pa_cons (pv 0) (pa_cons (pv 1) pa_nil))))
      (C8.pss_cut (ps_set (i := 3) sc_p_tie_below.nd rfl (.inl rfl) (pe_callTy call_tuple_of (by rfl) T.m_tuple (by decide +kernel) (pa_cons (pe_lc (own := [("name", 4)]) (g := gName 4) (tt := tYes) rfl sc_p_tie_below.nd (pi_list (pe_call (ok_p_ascending_names T) (hr.mono (by decide)) (by rfl) T.g_p_ascending_names T.F_p_ascending_names.kp T.b_p_ascending_names .nil pass0 (pa_cons (pv 2) pa_nil))) (blkOk_by (own := [("name", 4)]) (N := ["left", "right", "rates", "terms", "name"]) (sc := defScope s_p_tie_below) (by decide +kernel)) (fun _ _ _ _ _ => pg_name (i := 4) sc_p_tie_below.nd rfl (Or.inl rfl)) (fun _ _ _ _ _ => pts_nil) (fun _ _ _ _ _ => (pe_tup (pa_cons (pv 4) (pa_cons (pe_dget (Nat.lt_of_le_of_lt (Nat.add_le_add_left (by decide) _) hr.units) (pv 2) (pv 4) (fun _ _ => rfl)) pa_nil))))) pa_nil)))
      (pss_one (ps_ret (pe_call (ok_p_reduced T) (hr.mono (by decide)) (by rfl) T.g_p_reduced T.F_p_reduced.kp T.b_p_reduced .nil pass0 (pa_cons (pe_tup (pa_cons (pv 3) (pa_cons (pe_call (ok_p_subtract T) (hr.mono (by decide)) (by rfl) T.g_p_subtract T.F_p_subtract.kp T.b_p_subtract .nil pass0 (pa_cons (C8.pe_gc (by rfl) T.c_ZERO) (pa_cons (pe_dget (Nat.lt_of_le_of_lt (Nat.add_le_add_left (by decide) _) hr.units) (pv 2) pe_str (fun _ _ => rfl)) pa_nil))) pa_nil))) pa_nil)))))), ?_⟩
    have blen := broN_len M N
    have nl := hs.ln
    have ml := hs.lm
    refine ⟨fun σ H1 => Same H H1 ∧ ∃ d, RD K H1 d (broN N M) (diff u v) ∧ σ = [some (.ref a), some (.ref b), some (.ref d), none, none], ⟨_, rfl, _, rfl, a, b, N, M, u, v, rfl, hs.ha, hs.hb, hs.ou, hs.ov, by omega, by omega, fun d H1 s1 _ hd => ⟨s1, d, hd, rfl⟩⟩, fun σ H1 hM => ?_⟩
    obtain ⟨s1, d, hd, rfl⟩ := hM
    have inB : [] ∈ broN N M := (broN_mem _ _).mpr (.inl hN)
    have nsIn : ∀ x ∈ ns, x ∈ broN N M ∧ nz (diff u v) x = true := fun x hx => List.mem_filter.mp (hns.perm.mem_iff.mp hx)
    -- terms
    refine ⟨fun σ H2 => Same H1 H2 ∧ ∃ t vs, H2 t = some (.tup vs) ∧ DtAll z H2 vs ((tlOf (diff u v) ns).map tmP) ∧ ∃ y, σ = [some (.ref a), some (.ref b), some (.ref d), some (.ref t), y], ?_, fun σ H2 hM => ?_⟩
    · refine ⟨_, rfl, d, _, _, rfl, hd, by omega, fun ys l H2 s2 hl2 perm srt => ?_⟩
      have e : ys = ns.map SX.S := srt_unique (srt_pw ys srt) hns.srt (perm.trans (hns.perm.map SX.S).symm)
      subst e
      rw [List.map_map] at hl2
      refine ⟨l, rfl, ⟨_, SqL.of hl2⟩, fun D nD => ?_⟩
      have hd2 := hd.same s2
      refine lc_list (K := K) (a := l) (xs := ns.map (V.str ∘ SX.S)) (fun i G => Same H2 G ∧ ∃ vs, G D = some (.lst vs) ∧ DtAll z G vs (((tlOf (diff u v) ns).take i).map tmP)) ⟨same_upd nD, [], upd_same, .nil⟩ (fun i G _ h => SqL.of (h.1 _ _ hl2)) (fun i x G hx h => ?_) (fun G h => ?_)
      · obtain ⟨sG, vs, hD, hvs⟩ := h
        rw [List.getElem?_map] at hx
        obtain ⟨x, hxi, rfl⟩ := Option.map_eq_some_iff.mp hx
        have hxm := List.mem_of_getElem? hxi
        obtain ⟨kvs, hk, hR⟩ := hd2.same sG
        obtain ⟨p, ep, fp⟩ := hR.2.2 x (nsIn x hxm).1
        have vl : vs.length < sizeLine := by
          have e1 := hvs.len
          rw [List.length_map, List.length_take] at e1
          have : (tlOf (diff u v) ns).length = ns.length := List.length_map ..
          exact small1000 (by omega)
        have h2 := (nsIn x hxm).2
        unfold nz at h2
        rw [Bool.and_eq_true, decide_eq_true_eq, decide_eq_true_eq] at h2
        have hp : G p = some (trF (diff u v x)) := fp.2.resolve_left fun z => h2.2 (by rw [z])
        refine ⟨rfl, _, rfl, _, rfl, _, rfl, d, _, rfl, by rw [← ep]; exact DGet.k (k := keyOf x) hk, two_line, fun e ne => ?_⟩
        have x7 := h7 x (nsIn x hxm).1
        obtain ⟨se, de⟩ := dnewT (z := z) ne (.cons (.str (SX.S x) (by rw [SX.S_len]; omega)) (.cons (.tup hp (.cons (.int (diff u v x).1 (bd_bn (hs.sm x).1 (by decide))) (.cons (.int (diff u v x).2 (bd_bn (hs.sm x).2 (by decide))) .nil))) .nil))
        have hD2 := se _ _ hD
        refine ⟨vs, hD2, vl, fun b o eb => (by rw [upd_ne (ne_of_none eb nD)]; exact se _ _ (sG _ _ eb)), vs ++ [.ref e], upd_same, ?_⟩
        have er : (tlOf (diff u v) ns)[i]? = some (x, diff u v x) := by
          unfold tlOf
          rw [List.getElem?_map, hxi]
          rfl
        rw [List.take_add_one, er, List.map_append]
        refine DtAll.snoc (hvs.tups ((TT.of se).trans (TT.upd hD2)) _ _ (noLs_tm _)) ?_
        exact Dt.tups (TT.upd hD2) _ _ rfl de
      · obtain ⟨sG, vs, hD, hvs⟩ := h
        rw [List.length_map, show ns.length = (tlOf (diff u v) ns).length from (List.length_map ..).symm, List.take_length] at hvs
        refine ⟨D, vs, rfl, .inl ⟨SqL.of hD, fun t nt => ?_⟩⟩
        exact ⟨s2.trans (sG.trans (same_upd nt)), t, vs, upd_same, hvs.same (same_upd nt), _, rfl⟩
    obtain ⟨s2, t, vs, ht, hvs, y, rfl⟩ := hM
    obtain ⟨kvs, hk, hR⟩ := hd.same s2
    obtain ⟨p, ep, fp⟩ := hR.2.2 [] inB
    refine ⟨_, rfl, _, rfl, d, _, rfl, by rw [emptyS, ← ep]; exact DGet.k (k := keyOf []) hk, ?_⟩
    refine ⟨fa 2000, p, (0, 1), diff u v [], rfl, T.z_ZERO _, fp.1, by decide, (hs.nf []).1, ⟨by decide +kernel, by decide +kernel⟩, (hs.sm []).mono (by decide), fun e ne => ?_⟩
    rw [zero_sub (hs.nf [])]
    obtain ⟨se, de⟩ := dnewT (z := z) ne (.cons (.int (negF (diff u v [])).1 (bd_bn (hs.sm []).neg.1 (by decide))) (.cons (.int (negF (diff u v [])).2 (bd_bn (hs.sm []).neg.2 (by decide))) .nil))
    refine ⟨two_line, fun o no => ?_⟩
    obtain ⟨so, d0⟩ := dnewT (z := z) no (.cons (.tup (se _ _ ht) (hvs.same se)) (.cons de .nil))
    refine ⟨.ref o, tlOf (diff u v) ns, negF (diff u v []), z, rfl, d0, ⟨?_, fun tt htt => ?_⟩, ⟨(hs.sm []).neg, (hs.nf []).1⟩, fun v' H' s' hd' => q v' H' (s1.trans (s2.trans (se.trans (so.trans s')))) hd'⟩
    · show (ns.map _).length = 1 ∨ (ns.map _).length = 2
      rw [List.length_map]
      exact hl
    · obtain ⟨x, hx, rfl⟩ := List.mem_map.mp htt
      obtain ⟨h1, h2⟩ := nsIn x hx
      unfold nz at h2
      rw [Bool.and_eq_true, decide_eq_true_eq, decide_eq_true_eq] at h2
      exact ⟨h2.2, ⟨hs.sm x, (hs.nf x).1⟩, h7 x h1⟩
end
/-! ### what is read from a text -/
def parseP (S : List (Sy × Nat)) : Except Nat (List It × List Nat × List It) :=
  match headP S 0 with
  | .error i => .error i
  | .ok (l, k1) => match S[k1]? with
    | some (.rel g, _) => match headP S (k1 + 1) with
      | .error i => .error i
      | .ok (r, k2) => match S[k2]? with
        | some (.fin, _) => .ok (l, g, r)
        | some (_, i) => .error i
        | none => .error 0
    | some (_, i) => .error i
    | none => .error 0
def isRel : Sy → Bool
  | .rel _ => true
  | _ => false
theorem sort_rel (s : Sy) : decide (V.str (sortS s) = V.str (Str.ofString "relation")) = isRel s := by
  have nb : (Str.ofString "number" : Str) ≠ Str.ofString "relation" := by decide +kernel
  have ab : (Str.ofString "bad" : Str) ≠ Str.ofString "relation" := by decide +kernel
  have rb : (Str.ofString "name" : Str) ≠ Str.ofString "relation" := by decide +kernel
  have eb : (Str.ofString "end" : Str) ≠ Str.ofString "relation" := by decide +kernel
  have b3 : (Str.ofString "relation" : Str).length = 8 := by decide +kernel
  cases s with
  | num f => exact decide_eq_false (fun z => nb (V.str.inj z))
  | bad => exact decide_eq_false (fun z => ab (V.str.inj z))
  | name r => exact decide_eq_false (fun z => rb (V.str.inj z))
  | fin => exact decide_eq_false (fun z => eb (V.str.inj z))
  | rel x => exact decide_eq_true rfl
  | sign c => exact decide_eq_false (fun z => by
      have e := congrArg Str.length (V.str.inj z)
      rw [b3, show sortS (.sign c) = SX.S [c] from rfl, SX.S_len] at e
      cases e)
theorem sort_end (s : Sy) : decide (V.str (sortS s) = V.str (Str.ofString "end")) = isFin s := by
  have nb : (Str.ofString "number" : Str) ≠ Str.ofString "end" := by decide +kernel
  have ab : (Str.ofString "bad" : Str) ≠ Str.ofString "end" := by decide +kernel
  have rb : (Str.ofString "name" : Str) ≠ Str.ofString "end" := by decide +kernel
  have eb : (Str.ofString "relation" : Str) ≠ Str.ofString "end" := by decide +kernel
  have b3 : (Str.ofString "end" : Str).length = 3 := by decide +kernel
  cases s with
  | num f => exact decide_eq_false (fun z => nb (V.str.inj z))
  | bad => exact decide_eq_false (fun z => ab (V.str.inj z))
  | name r => exact decide_eq_false (fun z => rb (V.str.inj z))
  | rel x => exact decide_eq_false (fun z => eb (V.str.inj z))
  | fin => exact decide_eq_true rfl
  | sign c => exact decide_eq_false (fun z => by
      have e := congrArg Str.length (V.str.inj z)
      rw [b3, show sortS (.sign c) = SX.S [c] from rfl, SX.S_len] at e
      cases e)
theorem int_in12 (n : Nat) : inV (V.int (n : Int)) [V.int 1, .int 2] = decide (n = 1 ∨ n = 2) := by
  show (((1 : Int) == (n : Int)) || (((2 : Int) == (n : Int)) || false)) = _
  rw [Bool.or_false, Bool.eq_iff_iff, Bool.or_eq_true, beq_iff_eq, beq_iff_eq, decide_eq_true_eq]
  omega
theorem SyL.mono {S : List (Sy × Nat)} {w c w' c' : Nat} (h : SyL S w c) (h1 : w ≤ w') (h2 : c ≤ c') : SyL S w' c' := ⟨h.ends, h.nums, Nat.le_trans h.wt h1, Nat.le_trans h.ct h2⟩
theorem foldN_nodup : ∀ (l : List It) (N : List (List Nat)), N.Nodup → (l.foldl (fun N it => addN N it.1) N).Nodup
  | [], _, h => h
  | it :: l, _, h => foldN_nodup l _ (addN_nodup h it.1)
theorem keysL_nodup (l : List It) : (keysL l).Nodup := foldN_nodup l _ (by decide)
theorem broN_nodup : ∀ (M N : List (List Nat)), N.Nodup → (broN N M).Nodup
  | [], _, h => h
  | x :: M, _, h => broN_nodup M _ (addN_nodup h x)
theorem nz_anti {u v : List Nat → FR} (hu : ∀ x, Nf (u x)) (hv : ∀ x, Nf (v x)) (x : List Nat) : nz (diff v u) x = nz (diff u v) x := by
  unfold nz diff
  rw [sub_anti (hu x).1 (hv x).1]
  show (decide (x ≠ []) && decide (-(subL (u x) (v x)).1 ≠ 0)) = _
  congr 1
  rw [decide_eq_decide]
  omega
theorem Nms.swap {N M : List (List Nat)} {u v : List Nat → FR} {ns : List (List Nat)} (hN : N.Nodup) (hM : M.Nodup) (hu : ∀ x, Nf (u x)) (hv : ∀ x, Nf (v x)) (h : Nms (broN N M) (diff u v) ns) : Nms (broN M N) (diff v u) ns := by
  refine ⟨h.perm.trans ?_, h.srt⟩
  refine (List.perm_ext_iff_of_nodup ((broN_nodup M N hN).filter _) ((broN_nodup N M hM).filter _)).mpr fun x => ?_
  rw [List.mem_filter, List.mem_filter, broN_mem, broN_mem, nz_anti hu hv, or_comm]
theorem keysL_mem {y : List Nat} (l : List It) : y ∈ keysL l ↔ y = [] ∨ ∃ it ∈ l, it.1 = y := by
  unfold keysL
  rw [foldN_mem, List.mem_singleton]
/-- two sums that were read -/
structure Two (l r : List It) : Prop where
  nl : ∀ it ∈ l, Nf it.2 ∧ it.1.length ≤ 7
  nr : ∀ it ∈ r, Nf it.2 ∧ it.1.length ≤ 7
  w : wIt l + wIt r ≤ 700
  ll : l.length ≤ 22
  lr : r.length ≤ 22
theorem Two.sides {l r : List It} (h : Two l r) {K : PySem.W.Frag} {H : Hp} {a b : Addr} (ha : RD K H a (keysL l) (valL l)) (hb : RD K H b (keysL r) (valL r)) : Sides K H a b (keysL l) (keysL r) (valL l) (valL r) := by
  have nl := fun x => sumX_nf x l _ nf_01 fun it hit => (h.nl it hit).1
  have nr := fun x => sumX_nf x r _ nf_01 fun it hit => (h.nr it hit).1
  have bl := fun x => sumX_bn x l (0, 1) 1 nf_01 bn_01 fun it hit => (h.nl it hit).1
  have br := fun x => sumX_bn x r (0, 1) 1 nf_01 bn_01 fun it hit => (h.nr it hit).1
  have hw := h.w
  have kl := keysL_len l
  have kr := keysL_len r
  have h1 := h.ll
  have h2 := h.lr
  exact ⟨ha, hb, ⟨fun x => ⟨nl x, (bl x).mono (by omega)⟩, fun x hx => valL_none hx⟩, ⟨fun x => ⟨nr x, (br x).mono (by omega)⟩, fun x hx => valL_none hx⟩, by omega, by omega, fun x => (Bn.sub (bl x) (br x) (nl x).1 (nr x).1).mono (by omega)⟩
theorem Two.names {l r : List It} (h : Two l r) : ∀ x ∈ broN (keysL l) (keysL r), x.length ≤ 7 := fun x hx => by
  rcases (broN_mem _ _).mp hx with hx | hx
  · rcases (keysL_mem l).mp hx with rfl | ⟨it, hit, rfl⟩
    · exact Nat.zero_le _
    · exact (h.nl it hit).2
  · rcases (keysL_mem r).mp hx with rfl | ⟨it, hit, rfl⟩
    · exact Nat.zero_le _
    · exact (h.nr it hit).2
theorem Two.swap {l r : List It} (h : Two l r) : Two r l := ⟨h.nr, h.nl, by have := h.w; omega, h.lr, h.ll⟩
def namesLR (l r : List It) : List (List Nat) := (broN (keysL l) (keysL r)).filter (nz (diff (valL l) (valL r)))
def oneP (l r : List It) (ns : List (List Nat)) : PyData := redP (tlOf (diff (valL l) (valL r)) ns) (negF (diff (valL l) (valL r) []))
def resD (l : List It) (g : List Nat) (r : List It) (ns : List (List Nat)) : List PyData :=
  if g = [60, 61] then [oneP l r ns] else if g = [62, 61] then [oneP r l ns] else [oneP l r ns, oneP r l ns]
theorem two_of {S : List (Sy × Nat)} (hS : SyL S 700 20) {l r : List It} {k1 k2 : Nat} (h1 : SumOk S 0 l k1) (h2 : SumOk S (k1 + 1) r k2) : Two l r := by
  obtain ⟨a1, a2, a3, a4, a5⟩ := h1
  obtain ⟨b1, b2, b3, b4, b5⟩ := h2
  have w0 := hS.wt
  have c0 := hS.ct
  rw [List.drop_zero] at a2 a3
  have w1 : wS (S.drop (k1 + 1)) ≤ wS (S.drop k1) := by
    rw [← List.drop_drop]
    exact wS_drop _ _
  have c1 : cS (S.drop (k1 + 1)) ≤ cS (S.drop k1) := by
    rw [← List.drop_drop]
    exact cS_drop _ _
  exact ⟨a1, b1, by omega, by omega, by omega⟩
section
variable {P : Program} {w : World} {K : PySem.W.Frag} {mg : Str → Option Value} {base : Heap} {fa : Nat → Addr} {fd : Nat → FuncData}
theorem scNT : FnScope ["self", "many"] ["self", "many"] (defScope (inClass (topS 6) 0)) := ⟨rfl, rfl, rfl, by decide +kernel, rfl, by decide +kernel, by decide +kernel⟩
theorem ok_NotTied (T : Txt K mg fa fd) : FnOk P w K mg base CX0 1 (fa 1006) (fd 1006) ["self", "many"] (spInit1 K "many" "NotTied") := by
  refine T.INotTied.ok scNT (fun vs H Q E h => ?_) (fun cdv A outer s H vs Q E hr h => ?_)
  · obtain ⟨a, C, v, rfl, _⟩ := h
    rfl
  · obtain ⟨a, C, v, rfl, hC, h1, h2, ha, q⟩ := h
    refine ⟨_, pss_cons (ps_ost (pv 0) (pv 1)) (pss_one (ps_ost (pv 0) pe_str)), ?_⟩
    refine ⟨_, rfl, _, rfl, a, C, rfl, hC, h1, .inl ⟨ha, fun dx nd ne => ?_⟩⟩
    refine ⟨_, rfl, a, C, rfl, hC, h2, .inr ⟨dx, _, upd_same, ?_, by show 1 ≤ 900; decide, q dx nd ne⟩⟩
    rw [upd_ne ne, upd_same]
def NTr (E : XK) (C : Addr) (H : Hp) (n : Nat) : Prop := ∀ d H', Same H H' → H' d = some (.xd [("tag", .str "NotTied"), ("many", .int (n : Int))]) → E (.ref C) (some d) H'
def spRead (C1 C2 : Addr) : Sp := fun vs H Q E => ∃ (t : List Nat) (z : Addr), vs = [vS t] ∧ t.length ≤ 140 ∧ cT t 0 ≤ 20 ∧
  (∀ i, parseP (symsOf t) = .error i → PEr E C1 H i) ∧
  (∀ l g r, parseP (symsOf t) = .ok (l, g, r) → (¬((namesLR l r).length = 1 ∨ (namesLR l r).length = 2) → NTr E C2 H (namesLR l r).length) ∧
    ((namesLR l r).length = 1 ∨ (namesLR l r).length = 2 → ∀ ns, Nms (broN (keysL l) (keysL r)) (diff (valL l) (valL r)) ns → ∀ p vs H', Same H H' → H p = none → H' p = some (.lst vs) → DtAll z H' vs (resD l g r ns) → Q (.ref p) H'))
theorem ok_p_read_ties (T : Txt K mg fa fd) : FnOk P w K mg base (L2.CX P w) 8 (fa 98) (fd 98) ["text"] (spRead (fa 9) (fa 6)) := by
  refine T.F_p_read_ties.okX sc_p_read_ties (fun vs H Q E h => ?_) (fun cdv A outer s H vs Q E hr h => ?_)
  · obtain ⟨t, z, rfl, _⟩ := h
    rfl
  · obtain ⟨t, z, rfl, ht, hct, qe, qo⟩ := h
    refine ⟨_, (C8.pss_cut (ps_set (i := 1) sc_p_read_ties.nd rfl (.inl rfl) (pe_call (ok_p_symbols_of T) (hr.mono (by decide)) (by rfl) T.g_p_symbols_of T.F_p_symbols_of.kp T.b_p_symbols_of .nil (passes_call (takes_of rfl rfl rfl rfl) (fun _ _ _ _ h => h)) (pa_cons (pv 0) pa_nil)))
      (C8.pss_cut (ps_asg (pe_call (ok_p_read_sum T) (hr.mono (by decide)) (by rfl) T.g_p_read_sum T.F_p_read_sum.kp T.b_p_read_sum .nil (passes_call (takes_of rfl rfl rfl rfl) (fun _ _ _ _ h => h)) (pa_cons (pv 1) (pa_cons pe_int pa_nil))) (pg_tup (by rfl) (pgs_cons (pg_name (i := 2) sc_p_read_ties.nd rfl (.inl rfl)) (pgs_cons (pg_name (i := 3) sc_p_read_ties.nd rfl (.inl rfl)) pgs_nil))))
      (C8.pss_cut (ps_asg (pe_ix ix_list (pv 1) (pv 3) (fun _ _ => rfl)) (pg_tup (by rfl) (pgs_cons (pg_name (i := 4) sc_p_read_ties.nd rfl (.inl rfl)) (pgs_cons (pg_name (i := 5) sc_p_read_ties.nd rfl (.inl rfl)) (pgs_cons (pg_name (i := 6) sc_p_read_ties.nd rfl (.inl rfl)) pgs_nil)))))
      (C8.pss_cut (ps_if (pt_cmpR op_ne (pv 4) pe_str (nomark _)) (pss_one (ps_raise rfl (takes_of rfl rfl rfl rfl) (pmk_oex T.eParseError.oex T.eParseError.iC T.eParseError.tI (ok_ParseError T) (hr.mono (by decide)) T.bIParseError .nil pass0 (by rfl) T.eParseError.gC (pa_cons (pv 6) pa_nil)))) pss_nil)
      (C8.pss_cut (ps_asg (pe_call (ok_p_read_sum T) (hr.mono (by decide)) (by rfl) T.g_p_read_sum T.F_p_read_sum.kp T.b_p_read_sum .nil (passes_call (takes_of rfl rfl rfl rfl) (fun _ _ _ _ h => h)) (pa_cons (pv 1) (pa_cons (pe_op op_add (pv 3) pe_int) pa_nil))) (pg_tup (by rfl) (pgs_cons (pg_name (i := 7) sc_p_read_ties.nd rfl (.inl rfl)) (pgs_cons (pg_name (i := 3) sc_p_read_ties.nd rfl (.inl rfl)) pgs_nil))))
      (C8.pss_cut (ps_if (pt_cmpR op_ne (pe_ix ix_tup (pe_ix ix_list (pv 1) (pv 3) (fun _ _ => rfl)) pe_int (fun _ _ => rfl)) pe_str (nomark _)) (pss_one (ps_raise rfl (takes_of rfl rfl rfl rfl) (pmk_oex T.eParseError.oex T.eParseError.iC T.eParseError.tI (ok_ParseError T) (hr.mono (by decide)) T.bIParseError .nil pass0 (by rfl) T.eParseError.gC (pa_cons (pe_ix ix_tup (pe_ix ix_list (pv 1) (pv 3) (fun _ _ => rfl)) pe_int (fun _ _ => rfl)) pa_nil)))) pss_nil)
      (C8.pss_cut (ps_set (i := 8) sc_p_read_ties.nd rfl (.inl rfl) (pe_callB call_len_seq (by rfl) T.m_len PySem.boot_len (pa_cons (pe_call (ok_p_ascending_names T) (hr.mono (by decide)) (by rfl) T.g_p_ascending_names T.F_p_ascending_names.kp T.b_p_ascending_names .nil pass0 (pa_cons (pe_call (ok_p_brought_together T) (hr.mono (by decide)) (by rfl) T.g_p_brought_together T.F_p_brought_together.kp T.b_p_brought_together .nil pass0 (pa_cons (pv 2) (pa_cons (pv 7) pa_nil))) pa_nil)) pa_nil)))
      (C8.pss_cut (ps_if (pt_cmpR op_notIn_seq (pv 8) (pe_tup (pa_cons pe_int (pa_cons pe_int pa_nil))) (by rfl)) (pss_one (ps_raise rfl (takes_of rfl rfl rfl rfl) (pmk_oex T.eNotTied.oex T.eNotTied.iC T.eNotTied.tI (ok_NotTied T) (hr.mono (by decide)) T.bINotTied .nil pass0 (by rfl) T.eNotTied.gC (pa_cons (pv 8) pa_nil)))) pss_nil)
      (C8.pss_cut (ps_if (pt_cmpR op_eq (pv 5) pe_str (nomark _)) (pss_one (ps_ret (pe_lst (pa_cons (pe_call (ok_p_tie_below T) (hr.mono (by decide)) (by rfl) T.g_p_tie_below T.F_p_tie_below.kp T.b_p_tie_below .nil pass0 (pa_cons (pv 2) (pa_cons (pv 7) pa_nil))) pa_nil)))) pss_nil)
      (C8.pss_cut (ps_if (pt_cmpR op_eq (pv 5) pe_str (nomark _)) (pss_one (ps_ret (pe_lst (pa_cons (pe_call (ok_p_tie_below T) (hr.mono (by decide)) (by rfl) T.g_p_tie_below T.F_p_tie_below.kp T.b_p_tie_below .nil pass0 (pa_cons (pv 7) (pa_cons (pv 2) pa_nil))) pa_nil)))) pss_nil)
      (pss_one (ps_ret (pe_lst (pa_cons (pe_call (ok_p_tie_below T) (hr.mono (by decide)) (by rfl) T.g_p_tie_below T.F_p_tie_below.kp T.b_p_tie_below .nil pass0 (pa_cons (pv 2) (pa_cons (pv 7) pa_nil))) (pa_cons (pe_call (ok_p_tie_below T) (hr.mono (by decide)) (by rfl) T.g_p_tie_below T.F_p_tie_below.kp T.b_p_tie_below .nil pass0 (pa_cons (pv 7) (pa_cons (pv 2) pa_nil))) pa_nil))))))))))))))), ?_⟩
    have hS0 : SyL (symsOf t) 700 20 := (symsOf_ok t).mono (by omega) hct
    have hS : SyL (symsOf t) 800 30 := hS0.mono (by decide) (by decide)
    have sl : (symsOf t).length ≤ 901 := Nat.le_trans (symsL_len _ _ _) (by omega)
    have wf := hS.wf
    have spos := hS.pos
    -- symbols
    refine ⟨fun σ H1 => Same H H1 ∧ ∃ D, SL H1 D (symsOf t) ∧ σ = [some (vS t), some (.ref D), none, none, none, none, none, none, none], ⟨_, rfl, t, rfl, by omega, fun D ps H' _ s hD hps => ⟨s, D, ⟨ps, hD, hps⟩, rfl⟩⟩, fun σ H1 hM => ?_⟩
    obtain ⟨s1, D, hSL, rfl⟩ := hM
    generalize symsOf t = S at *
    -- left
    refine ⟨fun σ H2 => Same H1 H2 ∧ ∃ l k1 a, headP S 0 = .ok (l, k1) ∧ RD K H2 a (keysL l) (valL l) ∧ σ = [some (vS t), some (.ref D), some (.ref a), some (.int (k1 : Nat)), none, none, none, none, none], ?_, fun σ H2 hM => ?_⟩
    · refine ⟨_, rfl, D, 0, S, rfl, hSL, hS, spos, sl, fun l k' e d o H' s' _ ho hd => ?_, fun i e => ?_⟩
      · exact ⟨o, _, rfl, SqT.of ho, rfl, _, _, rfl, _, _, rfl, rfl, s', l, k', d, e, hd, rfl⟩
      · have h2 : parseP S = .error i := by unfold parseP; rw [e]
        exact fun dd H' s' hd' => qe i h2 dd H' (s1.trans s') hd'
    obtain ⟨s2, l, k1, a, el, ha, rfl⟩ := hM
    have ol := headP_ok hS el
    have s12 := s1.trans s2
    have hSL := hSL.same s2
    obtain ⟨⟨y1, i1⟩, hy1⟩ : ∃ si, S[k1]? = some si := ⟨_, List.getElem?_eq_getElem ol.2.2.2.2⟩
    -- the relation
    refine ⟨fun σ H3 => H3 = H2 ∧ ∃ v1, WorthV H3 v1 y1 ∧ σ = [some (vS t), some (.ref D), some (.ref a), some (.int (k1 : Nat)), some (.str (sortS y1)), some v1, some (.int (i1 : Nat)), none, none], ?_, fun σ H3 hM => ?_⟩
    · obtain ⟨xs, p, v, hq, hat, hp, hv⟩ := hSL.at (K := K) hy1
      exact ⟨_, rfl, _, rfl, D, _, _, _, rfl, rfl, hq, hat, p, _, rfl, .inl (.inl hp), rfl, _, _, rfl, _, _, rfl, _, _, rfl, rfl, rfl, v, hv, rfl⟩
    obtain ⟨rfl, v1, hv1, rfl⟩ := hM
    refine ⟨fun σ H4 => H4 = H3 ∧ isRel y1 = true ∧ σ = [some (vS t), some (.ref D), some (.ref a), some (.int (k1 : Nat)), some (.str (sortS y1)), some v1, some (.int (i1 : Nat)), none, none], ?_, fun σ H4 hM => ?_⟩
    · refine ⟨_, rfl, rfl, _, rfl, ?_⟩
      rw [sort_rel]
      cases r1 : isRel y1 with
      | true => exact iteF ⟨rfl, rfl, rfl⟩
      | false =>
        have h2 : parseP S = .error i1 := by
          unfold parseP
          rw [el]
          try dsimp only
          rw [hy1]
          cases y1 <;> first | rfl | cases r1
        have qe := qe i1 h2
        have qe : PEr E (fa 9) H3 i1 := fun dd H' s' hd' => qe dd H' (s12.trans s') hd'
        refine iteT ⟨_, rfl, ?_⟩
        refine ⟨by show 1 ≤ 1000; decide, fun a0 na => ⟨a0, _, .int (i1 : Int), rfl, T.eParseError.oex, T.nParseError_at, T.eParseError.tag, upd_same, fun dx nd ne => ⟨rfl, dx, _, ?_, upd_same, ?_, ?_⟩⟩⟩
        · rw [upd_ne ne.symm, upd_same]
        · rw [upd_ne ne] at nd
          exact nd
        · have nd' : H3 dx = none := by
            rw [upd_ne ne] at nd
            exact nd
          refine qe dx _ (Same.del na nd' fun b o hb q => ?_) upd_same
          rw [upd_ne (ne_of_none q nd'), upd_ne hb, upd_ne (ne_of_none q nd'), upd_ne hb]
          exact q
    obtain ⟨rfl, r1, rfl⟩ := hM
    obtain ⟨g, rfl⟩ : ∃ g, y1 = .rel g := by cases y1 <;> first | exact ⟨_, rfl⟩ | cases r1
    obtain rfl : v1 = vS g := hv1
    have kl := wf k1 _ _ hy1 rfl (fun z e => by subst e; intro z; cases z)
    -- right
    refine ⟨fun σ H5 => Same H4 H5 ∧ ∃ r k2 b, headP S (k1 + 1) = .ok (r, k2) ∧ RD K H5 b (keysL r) (valL r) ∧ σ = [some (vS t), some (.ref D), some (.ref a), some (.int (k2 : Nat)), some (.str (sortS (.rel g))), some (vS g), some (.int (i1 : Nat)), some (.ref b), none], ?_, fun σ H5 hM => ?_⟩
    · refine ⟨_, rfl, _, rfl, _, _, rfl, rfl, D, k1 + 1, S, rfl, hSL, hS, kl, sl, fun r k' e d o H' s' _ ho hd => ?_, fun i e => ?_⟩
      · exact ⟨o, _, rfl, SqT.of ho, rfl, _, _, rfl, _, _, rfl, rfl, s', r, k', d, e, hd, rfl⟩
      · have h2 : parseP S = .error i := by
          unfold parseP
          rw [el]
          try dsimp only
          rw [hy1]
          try dsimp only
          rw [e]
        exact fun dd H' s' hd' => qe i h2 dd H' (s12.trans s') hd'
    obtain ⟨s5, r, k2, b, er, hb, rfl⟩ := hM
    have or' := headP_ok hS er
    have s15 := s12.trans s5
    have hSL := hSL.same s5
    have ha := ha.same s5
    have tw := two_of hS0 ol or'
    obtain ⟨⟨y2, i2⟩, hy2⟩ : ∃ si, S[k2]? = some si := ⟨_, List.getElem?_eq_getElem or'.2.2.2.2⟩
    have ep : parseP S = (match some (y2, i2) with
        | some (.fin, _) => .ok (l, g, r)
        | some (_, i) => .error i
        | none => .error 0) := by
      unfold parseP
      rw [el]
      try dsimp only
      rw [hy1]
      try dsimp only
      rw [er]
      try dsimp only
      rw [hy2]
    refine ⟨fun σ H6 => H6 = H5 ∧ isFin y2 = true ∧ σ = [some (vS t), some (.ref D), some (.ref a), some (.int (k2 : Nat)), some (.str (sortS (.rel g))), some (vS g), some (.int (i1 : Nat)), some (.ref b), none], ?_, fun σ H6 hM => ?_⟩
    · obtain ⟨xs, p, v, hq, hat, hp, hv⟩ := hSL.at (K := K) hy2
      refine ⟨_, rfl, _, rfl, D, _, _, _, rfl, rfl, hq, hat, p, _, _, _, rfl, rfl, SqT.of hp, rfl, rfl, _, rfl, ?_⟩
      rw [sort_end]
      cases r2 : isFin y2 with
      | true => exact iteF ⟨rfl, rfl, rfl⟩
      | false =>
        have h2 : parseP S = .error i2 := by
          rw [ep]
          cases y2 <;> first | rfl | cases r2
        have qe := qe i2 h2
        have qe : PEr E (fa 9) H5 i2 := fun dd H' s' hd' => qe dd H' (s15.trans s') hd'
        refine iteT ⟨_, rfl, _, rfl, D, _, _, _, rfl, rfl, hq, hat, p, _, _, _, rfl, rfl, SqT.of hp, rfl, ?_⟩
        refine ⟨by show 1 ≤ 1000; decide, fun a0 na => ⟨a0, _, .int (i2 : Int), rfl, T.eParseError.oex, T.nParseError_at, T.eParseError.tag, upd_same, fun dx nd ne => ⟨rfl, dx, _, ?_, upd_same, ?_, ?_⟩⟩⟩
        · rw [upd_ne ne.symm, upd_same]
        · rw [upd_ne ne] at nd
          exact nd
        · have nd' : H5 dx = none := by
            rw [upd_ne ne] at nd
            exact nd
          refine qe dx _ (Same.del na nd' fun b o hb q => ?_) upd_same
          rw [upd_ne (ne_of_none q nd'), upd_ne hb, upd_ne (ne_of_none q nd'), upd_ne hb]
          exact q
    obtain ⟨rfl, r2, rfl⟩ := hM
    have ep : parseP S = .ok (l, g, r) := by
      rw [ep]
      cases y2 <;> first | rfl | cases r2
    obtain ⟨qt, qo⟩ := qo l g r ep
    have hs := tw.sides ha hb
    have nl := hs.ln
    have nr := hs.lm
    have bl := broN_len (keysL r) (keysL l)
    -- many
    refine ⟨fun σ H8 => Same H6 H8 ∧ (∃ ns, Nms (broN (keysL l) (keysL r)) (diff (valL l) (valL r)) ns) ∧ σ = [some (vS t), some (.ref D), some (.ref a), some (.int (k2 : Nat)), some (.str (sortS (.rel g))), some (vS g), some (.int (i1 : Nat)), some (.ref b), some (.int ((namesLR l r).length : Nat))], ?_, fun σ H8 hM => ?_⟩
    · refine ⟨_, rfl, _, rfl, a, b, _, _, _, _, rfl, hs.ha, hs.hb, hs.ou, hs.ov, by omega, by omega, fun d H7 s7 _ hd => ⟨d, _, _, rfl, hd, by omega, fun ys ll H8 s8 hll perm srt => ?_⟩⟩
      have yl : ys.length = (namesLR l r).length := by
        rw [perm.length_eq, List.length_map]
        rfl
      have hns : Nms (broN (keysL l) (keysL r)) (diff (valL l) (valL r)) (ys.map fun x => x.cps.toList) := by
        refine ⟨?_, ?_⟩
        · have h := perm.map fun x : Str => x.cps.toList
          rw [List.map_map] at h
          refine h.trans (List.Perm.of_eq ?_)
          conv => rhs; rw [← List.map_id (List.filter _ _)]
          exact List.map_congr_left fun x _ => S_list x
        · rw [List.map_map]
          have e : ys.map (SX.S ∘ fun x => x.cps.toList) = ys := by
            conv => rhs; rw [← List.map_id ys]
            exact List.map_congr_left fun x _ => S_of x
          rw [e]
          exact srt_pw ys srt
      refine ⟨ll, _, rfl, .inl (SqL.of hll), s7.trans s8, ⟨_, hns⟩, ?_⟩
      rw [List.length_map, yl]
      rfl
    obtain ⟨s8, ⟨ns, hns⟩, rfl⟩ := hM
    have s18 := s15.trans s8
    have qt : ¬((namesLR l r).length = 1 ∨ (namesLR l r).length = 2) → NTr E (fa 6) H8 (namesLR l r).length := fun h dd H' s' hd' => qt h dd H' (s18.trans s') hd'
    refine ⟨fun σ H9 => Same H8 H9 ∧ ((namesLR l r).length = 1 ∨ (namesLR l r).length = 2) ∧ σ = [some (vS t), some (.ref D), some (.ref a), some (.int (k2 : Nat)), some (.str (sortS (.rel g))), some (vS g), some (.int (i1 : Nat)), some (.ref b), some (.int ((namesLR l r).length : Nat))], ?_, fun σ H9 hM => ?_⟩
    · refine ⟨_, rfl, two_line, fun q0 nq => ⟨q0, _, rfl, .inr (SqT.of upd_same), rfl, rfl, _, rfl, ?_⟩⟩
      have sq := same_upd (o := .tup [V.int 1, .int 2]) nq
      rw [show inV (V.int ((namesLR l r).length : Nat)) [V.int 1, .int 2] = decide ((namesLR l r).length = 1 ∨ (namesLR l r).length = 2) from int_in12 _]
      by_cases h12 : (namesLR l r).length = 1 ∨ (namesLR l r).length = 2
      · rw [decide_eq_true h12]
        exact iteF ⟨sq, h12, rfl⟩
      · rw [decide_eq_false h12]
        have qt := qt h12
        refine iteT ⟨_, rfl, ?_⟩
        refine ⟨by show 1 ≤ 1000; decide, fun a0 na => ⟨a0, _, .int ((namesLR l r).length : Int), rfl, T.eNotTied.oex, T.nNotTied_many, T.eNotTied.tag, upd_same, fun dx nd ne => ⟨rfl, dx, _, ?_, upd_same, ?_, ?_⟩⟩⟩
        · rw [upd_ne ne.symm, upd_same]
        · rw [upd_ne ne] at nd
          exact nd
        · have nd' : upd H8 q0 (.tup [V.int 1, .int 2]) dx = none := by
            rw [upd_ne ne] at nd
            exact nd
          refine qt dx _ (sq.trans (Same.del na nd' fun b o hb q => ?_)) upd_same
          rw [upd_ne (ne_of_none q nd'), upd_ne hb, upd_ne (ne_of_none q nd'), upd_ne hb]
          exact q
    obtain ⟨s9, hn, rfl⟩ := hM
    have s19 := s18.trans s9
    have hs := hs.same (s8.trans s9)
    have hlen : ns.length = 1 ∨ ns.length = 2 := by
      rw [hns.perm.length_eq]
      exact hn
    have qo := qo hn ns hns
    have inl_ : [] ∈ keysL l := (keysL_mem l).mpr (.inl rfl)
    have inr_ : [] ∈ keysL r := (keysL_mem r).mpr (.inl rfl)
    have hsR : Sides K H9 b a (keysL r) (keysL l) (valL r) (valL l) := tw.swap.sides hs.hb hs.ha
    have hnsR := hns.swap (keysL_nodup l) (keysL_nodup r) (fun x => (hs.ou.1 x).1) (fun x => (hs.ov.1 x).1)
    have back : ∀ {G : Hp} {p : Addr}, Same H G → G p = none → H p = none := fun {G p} s e => by
      cases h : H p with
      | none => rfl
      | some o =>
        rw [s _ _ h] at e
        cases e
    -- <=
    refine ⟨fun σ H10 => H10 = H9 ∧ g ≠ [60, 61] ∧ σ = [some (vS t), some (.ref D), some (.ref a), some (.int (k2 : Nat)), some (.str (sortS (.rel g))), some (vS g), some (.int (i1 : Nat)), some (.ref b), some (.int ((namesLR l r).length : Nat))], ?_, fun σ H10 hM => ?_⟩
    · refine ⟨_, rfl, rfl, _, rfl, ?_⟩
      by_cases hg : g = [60, 61]
      · rw [show decide (vS g = V.str (Str.ofString "<=")) = true from decide_eq_true (by rw [hg, leS])]
        refine iteT ⟨_, rfl, _, rfl, a, b, _, _, _, _, z, ns, rfl, hs, inl_, tw.names, hns, hlen, fun v' G' s' hd' => ⟨small_line (by show 1 ≤ 1000; decide), fun p np => ?_⟩⟩
        refine qo p _ _ (s19.trans (s'.trans (same_upd np))) (back (s19.trans s') np) upd_same ?_
        unfold resD
        rw [if_pos hg]
        exact .cons (hd'.same (same_upd np)) .nil
      · rw [show decide (vS g = V.str (Str.ofString "<=")) = false from decide_eq_false fun e => hg (S_inj (by rw [← leS]; exact V.str.inj e))]
        exact iteF ⟨rfl, hg, rfl⟩
    obtain ⟨rfl, g1, rfl⟩ := hM
    -- >=
    refine ⟨fun σ H11 => H11 = H10 ∧ g ≠ [62, 61] ∧ σ = [some (vS t), some (.ref D), some (.ref a), some (.int (k2 : Nat)), some (.str (sortS (.rel g))), some (vS g), some (.int (i1 : Nat)), some (.ref b), some (.int ((namesLR l r).length : Nat))], ?_, fun σ H11 hM => ?_⟩
    · refine ⟨_, rfl, rfl, _, rfl, ?_⟩
      by_cases hg : g = [62, 61]
      · rw [show decide (vS g = V.str (Str.ofString ">=")) = true from decide_eq_true (by rw [hg, geS])]
        refine iteT ⟨_, rfl, _, rfl, b, a, _, _, _, _, z, ns, rfl, hsR, inr_, tw.swap.names, hnsR, hlen, fun v' G' s' hd' => ⟨small_line (by show 1 ≤ 1000; decide), fun p np => ?_⟩⟩
        refine qo p _ _ (s19.trans (s'.trans (same_upd np))) (back (s19.trans s') np) upd_same ?_
        unfold resD
        rw [if_neg g1, if_pos hg]
        exact .cons (hd'.same (same_upd np)) .nil
      · rw [show decide (vS g = V.str (Str.ofString ">=")) = false from decide_eq_false fun e => hg (S_inj (by rw [← geS]; exact V.str.inj e))]
        exact iteF ⟨rfl, hg, rfl⟩
    obtain ⟨rfl, g2, rfl⟩ := hM
    refine ⟨_, rfl, _, rfl, a, b, _, _, _, _, z, ns, rfl, hs, inl_, tw.names, hns, hlen, fun v' G' s' hd' => ?_⟩
    refine ⟨_, rfl, _, rfl, b, a, _, _, _, _, z, ns, rfl, hsR.same s', inr_, tw.swap.names, hnsR, hlen, fun v2 G2 s2' hd2 => ⟨two_line, fun p np => ?_⟩⟩
    refine qo p _ _ (s19.trans (s'.trans (s2'.trans (same_upd np)))) (back (s19.trans (s'.trans s2')) np) upd_same ?_
    unfold resD
    rw [if_neg g1, if_neg g2]
    exact .cons ((hd'.same s2').same (same_upd np)) (.cons (hd2.same (same_upd np)) .nil)
end
theorem quote : (Str.ofString "'" : Str) = SX.S [39] := by decide +kernel
def spD (f : PyData → Bool) : Sp := fun vs H Q _ => ∃ v d z, vs = [v] ∧ Dt z H v d ∧ Q (.bl (f d)) H
section
variable {P : Program} {w : World} {K : PySem.W.Frag} {mg : Str → Option Value} {base : Heap} {fa : Nat → Addr} {fd : Nat → FuncData}
theorem ok_p_is_name (T : Txt K mg fa fd) : FnOk P w K mg base CX0 1 (fa 85) (fd 85) ["text"] (spD nameD) := by
  refine T.F_p_is_name.ok sc_p_is_name (fun vs H Q E h => ?_) (fun cdv A outer s H vs Q E hr h => ?_)
  · obtain ⟨v, d, _, rfl, _⟩ := h
    rfl
  · obtain ⟨v, d, z, rfl, hv, q⟩ := h
    refine ⟨_, (pss_cons (ps_if (pt_not (pt_val (pe_callB call_isi (by rfl) T.m_isinstance PyProof.Rows.boot_isinstance (pa_cons (pv 0) (pa_cons (pe_bltn (v := .ty "str") (by rfl) T.m_str (by decide +kernel) rfl) pa_nil))))) (pss_one (ps_ret pe_bl)) pss_nil)
      (pss_cons (ps_set (i := 1) sc_p_is_name.nd rfl (.inl rfl) (pe_m1 PySem.F.slot_str_removesuffix PySem.F.type_str_removesuffix mt_removesuffix (pv 0) pe_str (by rfl) (by rfl) (by rfl)))
      (pss_cons (ps_if (pt_cmpR op_gt (pe_callB call_len_str (by rfl) T.m_len PySem.boot_len (pa_cons (pv 1) pa_nil)) (C8.pe_gc (by rfl) T.c_MOST_LETTERS) (nomark _)) (pss_one (ps_ret pe_bl)) pss_nil)
      (pss_one (ps_ret (pe_and (pe_m0 PySem.F.slot_str_isascii PySem.F.type_str_isascii mt_isascii (pv 1) (by rfl) (by rfl)) (pe_and (pe_m0 PySem.F.slot_str_isalpha PySem.F.type_str_isalpha mt_isalpha (pv 1) (by rfl) (by rfl)) (pe_one (pe_m0 PySem.F.slot_str_islower PySem.F.type_str_islower mt_islower (pv 1) (by rfl) (by rfl)))))))))), ?_⟩
    refine ⟨_, rfl, _, _, _, _, _, rfl, .ty _, .base hv.ty, kit_ty kitTxt, _, rfl, ?_⟩
    cases hv with
    | str x hx =>
      refine iteF ?_
      have q : Q (.bl (nameB x.cps.toList)) H := q
      generalize hc : x.cps.toList = a at q
      have ex : x = SX.S a := by rw [← hc, S_of]
      subst ex
      refine ⟨_, rfl, ⟨_, rfl⟩, _, _, rfl, rfl, small_line hx, _, rfl, _, rfl, ?_⟩
      have er : Txt.removesuffix (SX.S a) (Str.ofString "'") = SX.S (cutQ a) := by rw [quote, rem_quote]
      rw [er]
      have q : Q (.bl (decide ((cutQ a).length ≤ 6) && letB (cutQ a))) H := q
      have cut : (cutQ a).length ≤ 1000 := by
        rw [SX.S_len] at hx
        unfold cutQ
        split
        · rw [List.length_dropLast]
          omega
        · exact hx
      generalize cutQ a = b at q cut
      refine ⟨by rw [SX.S_len]; exact small_line cut, _, _, rfl, rfl, _, rfl, ite2 (fun e => ?_) (fun e => ?_)⟩
      · have e := of_decide_eq_true e
        rw [SX.S_len] at e
        rw [decide_eq_false (by omega)] at q
        exact q
      · have e : ¬ ((6 : Int) < ((SX.S b).length : Int)) := fun z => e (decide_eq_true z)
        rw [SX.S_len] at e
        rw [decide_eq_true (by omega), Bool.true_and, ← lower_letters] at q
        refine ⟨_, rfl, ⟨_, rfl⟩, _, rfl, rfl, trivial, _, rfl, ?_⟩
        cases e1 : Txt.isascii (SX.S b) with
        | false =>
          rw [e1] at q
          exact iteF q
        | true =>
          rw [e1, Bool.true_and] at q
          refine iteT ⟨_, rfl, ⟨_, rfl⟩, _, rfl, rfl, trivial, _, rfl, ?_⟩
          cases e2 : Txt.isalpha (SX.S b) with
          | false =>
            rw [e2] at q
            exact iteF q
          | true =>
            rw [e2, Bool.true_and] at q
            exact iteT ⟨_, rfl, ⟨_, rfl⟩, _, rfl, rfl, trivial, q⟩
    | non => exact iteT q
    | bl b => exact iteT q
    | int i _ => exact iteT q
    | lst h _ _ => exact iteT q
    | tup h _ => exact iteT q
end
section
variable {P : Program} {w : World} {K : PySem.W.Frag} {mg : Str → Option Value} {base : Heap} {fa : Nat → Addr} {fd : Nat → FuncData}
theorem ok_p_is_whole (T : Txt K mg fa fd) : FnOk P w K mg base CX0 1 (fa 17) (fd 17) ["thing"] (spD isInt) := by
  refine T.F_p_is_whole.ok sc_p_is_whole (fun vs H Q E h => ?_) (fun cdv A outer s H vs Q E hr h => ?_)
  · obtain ⟨v, d, _, rfl, _⟩ := h
    rfl
  · obtain ⟨v, d, z, rfl, hv, q⟩ := h
    refine ⟨_, (pss_one (ps_ret (pe_and (pe_callB call_isi (by rfl) T.m_isinstance PyProof.Rows.boot_isinstance (pa_cons (pv 0) (pa_cons (pe_bltn (v := .ty "int") (by rfl) T.m_int (by decide +kernel) rfl) pa_nil))) (pe_one (pe_not (pe_callB call_isi (by rfl) T.m_isinstance PyProof.Rows.boot_isinstance (pa_cons (pv 0) (pa_cons (pe_bltn (v := .ty "bool") (by rfl) T.m_bool (by decide +kernel) rfl) pa_nil)))))))), ?_⟩
    cases hv with
    | non => exact ⟨_, rfl, _, _, _, _, _, rfl, .ty _, .base .non, kit_ty (r := false) (by decide +kernel), _, rfl, iteF q⟩
    | bl b => exact ⟨_, rfl, _, _, _, _, _, rfl, .ty _, .base (.bl _), kit_ty (r := true) (by decide +kernel), _, rfl, iteT ⟨_, rfl, _, _, _, _, _, rfl, .ty _, .base (.bl _), kit_ty (r := true) (by decide +kernel), _, rfl, q⟩⟩
    | int i _ => exact ⟨_, rfl, _, _, _, _, _, rfl, .ty _, .base (.int _), kit_ty (r := true) (by decide +kernel), _, rfl, iteT ⟨_, rfl, _, _, _, _, _, rfl, .ty _, .base (.int _), kit_ty (r := false) (by decide +kernel), _, rfl, q⟩⟩
    | str x _ => exact ⟨_, rfl, _, _, _, _, _, rfl, .ty _, .base (.str _), kit_ty (r := false) (by decide +kernel), _, rfl, iteF q⟩
    | lst h _ _ => exact ⟨_, rfl, _, _, _, _, _, rfl, .ty _, .base (.lst h), kit_ty (r := false) (by decide +kernel), _, rfl, iteF q⟩
    | tup h _ => exact ⟨_, rfl, _, _, _, _, _, rfl, .ty _, .base (.tup h), kit_ty (r := false) (by decide +kernel), _, rfl, iteF q⟩
theorem ratD_pair (x y : PyData) : ratD (.tuple [x, y]) = (isInt x && (isInt y && ratD (.tuple [x, y]))) := by
  cases x <;> cases y <;> rfl
theorem ratD_one (x : PyData) : ratD (.tuple [x]) = false := by cases x <;> rfl
theorem ratD_many (x y z : PyData) (r : List PyData) : ratD (.tuple (x :: y :: z :: r)) = false := by cases x <;> cases y <;> rfl
theorem ok_p_is_ratio (T : Txt K mg fa fd) : FnOk P w K mg base CX0 2 (fa 21) (fd 21) ["thing"] (spD ratD) := by
  refine T.F_p_is_ratio.ok sc_p_is_ratio (fun vs H Q E h => ?_) (fun cdv A outer s H vs Q E hr h => ?_)
  · obtain ⟨v, d, _, rfl, _⟩ := h
    rfl
  · obtain ⟨v, d, z, rfl, hv, q⟩ := h
    refine ⟨_, (pss_cons (ps_if (PW.pt (pw_or (pt_not (pt_val (pe_callB call_isi (by rfl) T.m_isinstance PyProof.Rows.boot_isinstance (pa_cons (pv 0) (pa_cons (pe_bltn (v := .ty "tuple") (by rfl) T.m_tuple (by decide +kernel) rfl) pa_nil))))) (pw_or1 (pt_cmpR op_ne (pe_callB call_len_seq (by rfl) T.m_len PySem.boot_len (pa_cons (pv 0) pa_nil)) pe_int (nomark _))))) (pss_one (ps_ret pe_bl)) pss_nil)
      (pss_cons (ps_asg (pv 0) (pg_tup (by rfl) (pgs_cons (pg_name (i := 1) sc_p_is_ratio.nd rfl (.inl rfl)) (pgs_cons (pg_name (i := 2) sc_p_is_ratio.nd rfl (.inl rfl)) pgs_nil))))
      (pss_one (ps_ret (pe_and (pe_call (ok_p_is_whole T) (hr.mono (by decide)) (by rfl) T.g_p_is_whole T.F_p_is_whole.kp T.b_p_is_whole .nil pass0 (pa_cons (pv 1) pa_nil)) (pe_and (pe_call (ok_p_is_whole T) (hr.mono (by decide)) (by rfl) T.g_p_is_whole T.F_p_is_whole.kp T.b_p_is_whole .nil pass0 (pa_cons (pv 2) pa_nil)) (pe_and (pe_cmpR op_ge (pv 2) pe_int (nomark _)) (pe_one (pe_cmpR op_eq (pe_call (ok_p_common_divisor T) (hr.mono (by decide)) (by rfl) T.g_p_common_divisor T.F_p_common_divisor.kp T.b_p_common_divisor .nil pass0 (pa_cons (pv 1) (pa_cons (pv 2) pa_nil))) pe_int (nomark _)))))))))), ?_⟩
    refine ⟨_, rfl, _, _, _, _, _, rfl, .ty _, .base hv.ty, kit_ty kitTup, _, rfl, ?_⟩
    rcases hv.split with e | ⟨p, xs, ds, rfl, rfl, hp, hs⟩
    · rw [e]
      refine iteT (iteT ?_)
      have : ratD d = false := by cases d <;> first | rfl | cases e
      rw [this] at q
      exact q
    · refine iteF ⟨_, rfl, p, xs, rfl, .inr (SqT.of hp), rfl, _, rfl, ?_⟩
      rw [hs.len]
      match xs, ds, hs with
      | _, [], _ => exact iteT q
      | _, [x], _ =>
        rw [ratD_one] at q
        exact iteT q
      | _, x :: y :: z :: r, _ =>
        rw [ratD_many] at q
        rw [decide_eq_false (by simp; omega)]
        exact iteT q
      | _, [d1, d2], .cons (v := x) h1 (.cons (v := y) h2 .nil) =>
        rw [decide_eq_true (show V.int (([d1, d2] : List PyData).length : Int) = V.int 2 from rfl)]
        refine iteF ⟨_, rfl, p, _, rfl, SqT.of hp, rfl, x, [y], rfl, y, [], rfl, rfl, ?_⟩
        refine ⟨_, rfl, x, d1, _, rfl, h1, _, rfl, ?_⟩
        rw [ratD_pair] at q
        cases e1 : isInt d1 with
        | false =>
          rw [e1] at q
          exact iteF q
        | true =>
          rw [e1] at q
          refine iteT ⟨_, rfl, y, d2, _, rfl, h2, _, rfl, ?_⟩
          cases e2 : isInt d2 with
          | false =>
            rw [e2] at q
            exact iteF q
          | true =>
            rw [e2] at q
            cases h1 with
            | int t _ =>
              cases h2 with
              | int u hbu =>
                refine iteT ⟨_, rfl, _, _, rfl, rfl, _, rfl, ?_⟩
                have q : Q (.bl (decide (1 ≤ u) && decide (Int.gcd t u = 1))) H := q
                cases eu : decide (1 ≤ u) with
                | false =>
                  rw [eu] at q
                  exact iteF q
                | true =>
                  rw [eu] at q
                  refine iteT ⟨_, rfl, _, rfl, t, u, rfl, .inr hbu, rfl, ?_⟩
                  have e : decide (V.int (Int.gcd t u : Nat) = V.int 1) = decide (Int.gcd t u = 1) := by
                    rw [decide_eq_decide]
                    constructor
                    · intro h
                      have := V.int.inj h
                      omega
                    · intro h
                      rw [h]
                      rfl
                  rw [e]
                  exact q
              | _ => cases e2
            | _ => cases e1
end
/-! ### what is no tie -/
def BadL : List PyData → Prop
  | [] => True
  | d :: ds => tieD d = false ∧ BadL ds
theorem BadL.mem : ∀ {ds : List PyData} {d : PyData}, BadL ds → d ∈ ds → tieD d = false
  | _ :: _, _, h, e => by
    rcases List.mem_cons.mp e with rfl | e
    · exact h.1
    · exact BadL.mem h.2 e
def BadAll (z : Addr) (H : Hp) (vs : List V) : Prop := ∀ v ∈ vs, ∃ d, Dt z H v d ∧ tieD d = false
theorem badAll {z : Addr} {H : Hp} {vs : List V} {ds : List PyData} (all : DtAll z H vs ds) (h : BadL ds) : BadAll z H vs := fun v hv => by
  obtain ⟨d, hd, k⟩ := all.mem hv
  exact ⟨d, k, h.mem hd⟩
theorem BadAll.same {z : Addr} {H H' : Hp} {vs : List V} (h : BadAll z H vs) (s : Same H H') : BadAll z H' vs := fun v hv => by
  obtain ⟨d, k, e⟩ := h v hv
  exact ⟨d, k.same s, e⟩
theorem BadAll.app {z : Addr} {H : Hp} {vs us : List V} (h : BadAll z H vs) (k : BadAll z H us) : BadAll z H (vs ++ us) := fun v hv => by
  rcases List.mem_append.mp hv with e | e
  · exact h v e
  · exact k v e
theorem bad_rat {t b : PyData} (h : ratD b = false) : tieD (.tuple [t, b]) = false := by
  show (termsD t && ratD b) = false
  rw [h, Bool.and_false]
theorem bad_one {s b : PyData} (h : termD s = false) : tieD (.tuple [.tuple [s], b]) = false := by
  show (termD s && ratD b) = false
  rw [h]
  rfl
theorem bad_name {n r b : PyData} (h : nameD n = false) : tieD (.tuple [.tuple [.tuple [n, r]], b]) = false := bad_one (by
  show (nameD n && ratD r && nonz r) = false
  rw [h]
  rfl)
theorem bad_rate {n r b : PyData} (h : (ratD r && nonz r) = false) : tieD (.tuple [.tuple [.tuple [n, r]], b]) = false := bad_one (by
  show (nameD n && ratD r && nonz r) = false
  rw [Bool.and_assoc, h, Bool.and_false])
theorem bad_order {x y : Str} {r s b : PyData} (h : decide (x.cps.toList < y.cps.toList) = false) : tieD (.tuple [.tuple [.tuple [.str x, r], .tuple [.str y, s]], b]) = false := by
  show ((_ && _ && decide (x.cps.toList < y.cps.toList)) && _) = false
  rw [h, Bool.and_false]
  rfl
theorem bad_terms {ts : List (Str × PyData)} (h : ts.length = 1 ∨ ts.length = 2) : tieD (trmD ts) = false := by
  match ts, h with
  | [_], _ => rfl
  | [_, _], _ => rfl
  | [], h => simp at h
  | _ :: _ :: _ :: _, h => simp at h
theorem ltCps_self : ∀ x : List Nat, ltCps x x = false
  | [] => rfl
  | a :: r => by
    unfold ltCps
    rw [ltCps_self r, decide_eq_false (Nat.lt_irrefl a), Bool.and_false]
    rfl
theorem quotes (x : List Nat) : nameB (x ++ [39, 39]) = false := by
  have e : cutQ (x ++ [39, 39]) = x ++ [39] := by
    unfold cutQ
    have e1 : x ++ [39, 39] = (x ++ [39]) ++ [39] := by simp
    rw [e1, List.getLast?_append, List.getLast?_singleton, Option.some_or, if_pos rfl, List.dropLast_concat]
  unfold nameB letB
  rw [e, List.all_append]
  simp [lowc]
theorem catNew {z : Addr} {H : Hp} {p : Addr} {us vs : List V} {ds : List PyData} (n : H p = none) (all : DtAll z H vs ds) (hb : BadAll z H us) (h : BadL ds) : Same H (L2.upd H p (.lst (us ++ vs))) ∧ BadAll z (L2.upd H p (.lst (us ++ vs))) (us ++ vs) :=
  ⟨same_upd n, (hb.app (badAll all h)).same (same_upd n)⟩
section
variable {P : Program} {w : World} {K : PySem.W.Frag} {mg : Str → Option Value} {base : Heap} {fa : Nat → Addr} {fd : Nat → FuncData}
theorem termD_pair (n r : PyData) : termD (.tuple [n, r]) = (nameD n && (ratD r && nonz r)) := Bool.and_assoc _ _ _
theorem ok_p_is_term (T : Txt K mg fa fd) : FnOk P w K mg base CX0 3 (fa 86) (fd 86) ["thing"] (spD termD) := by
  refine T.F_p_is_term.ok sc_p_is_term (fun vs H Q E h => ?_) (fun cdv A outer s H vs Q E hr h => ?_)
  · obtain ⟨v, d, _, rfl, _⟩ := h
    rfl
  · obtain ⟨v, d, z, rfl, hv, q⟩ := h
    refine ⟨_, (pss_cons (ps_if (PW.pt (pw_or (pt_not (pt_val (pe_callB call_isi (by rfl) T.m_isinstance PyProof.Rows.boot_isinstance (pa_cons (pv 0) (pa_cons (pe_bltn (v := .ty "tuple") (by rfl) T.m_tuple (by decide +kernel) rfl) pa_nil))))) (pw_or1 (pt_cmpR op_ne (pe_callB call_len_seq (by rfl) T.m_len PySem.boot_len (pa_cons (pv 0) pa_nil)) pe_int (nomark _))))) (pss_one (ps_ret pe_bl)) pss_nil)
      (pss_one (ps_ret (pe_and (pe_call (ok_p_is_name T) (hr.mono (by decide)) (by rfl) T.g_p_is_name T.F_p_is_name.kp T.b_p_is_name .nil pass0 (pa_cons (pe_ix ix_tup (pv 0) pe_int (fun _ _ => rfl)) pa_nil)) (pe_and (pe_call (ok_p_is_ratio T) (hr.mono (by decide)) (by rfl) T.g_p_is_ratio T.F_p_is_ratio.kp T.b_p_is_ratio .nil pass0 (pa_cons (pe_ix ix_tup (pv 0) pe_int (fun _ _ => rfl)) pa_nil)) (pe_one (pe_cmpR op_ne (pe_ix ix_tup (pe_ix ix_tup (pv 0) pe_int (fun _ _ => rfl)) pe_int (fun _ _ => rfl)) pe_int (nomark _)))))))), ?_⟩
    refine ⟨_, rfl, _, _, _, _, _, rfl, .ty _, .base hv.ty, kit_ty kitTup, _, rfl, ?_⟩
    rcases hv.split with e | ⟨p, xs, ds, rfl, rfl, hp, hs⟩
    · rw [e]
      refine iteT (iteT ?_)
      have : termD d = false := by cases d <;> first | rfl | cases e
      rw [this] at q
      exact q
    · refine iteF ⟨_, rfl, p, xs, rfl, .inr (SqT.of hp), rfl, _, rfl, ?_⟩
      rw [hs.len]
      match xs, ds, hs with
      | _, [], _ => exact iteT q
      | _, [x], _ => exact iteT q
      | _, x :: y :: z :: r, _ =>
        rw [decide_eq_false (by simp; omega)]
        exact iteT q
      | _, [d1, d2], .cons (v := x) h1 (.cons (v := y) h2 .nil) =>
        rw [decide_eq_true (show V.int (([d1, d2] : List PyData).length : Int) = V.int 2 from rfl)]
        rw [termD_pair] at q
        refine iteF ⟨_, rfl, p, _, _, _, rfl, rfl, SqT.of hp, rfl, x, d1, _, rfl, h1, _, rfl, ?_⟩
        cases e1 : nameD d1 with
        | false =>
          rw [e1] at q
          exact iteF q
        | true =>
          rw [e1, Bool.true_and] at q
          refine iteT ⟨_, rfl, p, _, _, _, rfl, rfl, SqT.of hp, rfl, y, d2, _, rfl, h2, _, rfl, ?_⟩
          cases e2 : ratD d2 with
          | false =>
            rw [e2] at q
            exact iteF q
          | true =>
            rw [e2, Bool.true_and] at q
            obtain ⟨t, u, rfl⟩ := ratD_inv e2
            match y, h2 with
            | _, .tup hy (.cons (.int _ _) (.cons (.int _ _) .nil)) =>
              refine iteT ⟨_, rfl, p, _, _, _, rfl, rfl, SqT.of hp, rfl, _, _, _, _, rfl, rfl, SqT.of hy, rfl, rfl, ?_⟩
              have e : (!decide (V.int t = V.int 0)) = nonz (.tuple [.int t, .int u]) := by
                show _ = decide (t ≠ 0)
                by_cases h : t = 0
                · subst h
                  rfl
                · rw [decide_eq_false (fun z => h (V.int.inj z)), decide_eq_true h]
                  rfl
              rw [e]
              exact q
end
section
variable {P : Program} {w : World} {K : PySem.W.Frag} {mg : Str → Option Value} {base : Heap} {fa : Nat → Addr} {fd : Nat → FuncData}
def spDs (f : PyData → Bool) : Sp := fun vs H Q _ => ∃ v d z, vs = [v] ∧ Dt z H v d ∧ ∀ H', Same H H' → Q (.bl (f d)) H'
theorem termD_inv {d : PyData} (h : termD d = true) : ∃ n r, d = .tuple [.str n, r] := by
  unfold termD at h
  split at h
  · rename_i n r
    rw [Bool.and_eq_true, Bool.and_eq_true] at h
    have h1 := h.1.1
    unfold nameD at h1
    split at h1
    · exact ⟨_, _, rfl⟩
    · cases h1
  · cases h
theorem ok_p_are_terms (T : Txt K mg fa fd) : FnOk P w K mg base CX0 4 (fa 87) (fd 87) ["thing"] (spDs termsD) := by
  refine T.F_p_are_terms.ok sc_p_are_terms (fun vs H Q E h => ?_) (fun cdv A outer s H vs Q E hr h => ?_)
  · obtain ⟨v, d, _, rfl, _⟩ := h
    rfl
  · obtain ⟨v, d, z, rfl, hv, q⟩ := h
    refine ⟨_, (pss_cons (ps_if (PW.pt (pw_or (pt_not (pt_val (pe_callB call_isi (by rfl) T.m_isinstance PyProof.Rows.boot_isinstance (pa_cons (pv 0) (pa_cons (pe_bltn (v := .ty "tuple") (by rfl) T.m_tuple (by decide +kernel) rfl) pa_nil))))) (pw_or1 (pt_cmpR op_notIn_seq (pe_callB call_len_seq (by rfl) T.m_len PySem.boot_len (pa_cons (pv 0) pa_nil)) (pe_tup (pa_cons pe_int (pa_cons pe_int pa_nil))) (by rfl))))) (pss_one (ps_ret pe_bl)) pss_nil)
      (pss_cons (ps_if (pt_not (pt_val (pe_callB (cr_all rfl) (by rfl) T.m_all PyProof.Rows.boot_all (pa_cons (pe_lc (own := [("term", 1)]) (g := gName 1) (tt := tYes) rfl sc_p_are_terms.nd (pi_tup (pv 0)) (blkOk_by (own := [("term", 1)]) (N := ["thing", "term"]) (sc := defScope s_p_are_terms) (by decide +kernel)) (fun _ _ _ _ _ => pg_name (i := 1) sc_p_are_terms.nd rfl (Or.inl rfl)) (fun _ _ _ _ _ => pts_nil) (fun _ _ _ _ _ => (pe_call (ok_p_is_term T) (hr.mono (by decide)) (by rfl) T.g_p_is_term T.F_p_is_term.kp T.b_p_is_term .nil pass0 (pa_cons (pv 1) pa_nil)))) pa_nil)))) (pss_one (ps_ret pe_bl)) pss_nil)
      (pss_one (ps_ret (pe_or (pe_cmpR op_eq (pe_callB call_len_seq (by rfl) T.m_len PySem.boot_len (pa_cons (pv 0) pa_nil)) pe_int (nomark _)) (pe_one (pe_cmpR op_lt_str (pe_ix ix_tup (pe_ix ix_tup (pv 0) pe_int (fun _ _ => rfl)) pe_int (fun _ _ => rfl)) (pe_ix ix_tup (pe_ix ix_tup (pv 0) pe_int (fun _ _ => rfl)) pe_int (fun _ _ => rfl)) (nomark _)))))))), ?_⟩
    refine ⟨_, rfl, _, _, _, _, _, rfl, .ty _, .base hv.ty, kit_ty kitTup, _, rfl, ?_⟩
    rcases hv.split with e | ⟨p, xs, ds, rfl, rfl, hp, hs⟩
    · rw [e]
      refine iteT (iteT ?_)
      have q := q H (Same.refl _)
      have : termsD d = false := by cases d <;> first | rfl | cases e
      rw [this] at q
      exact q
    · refine iteF ⟨_, rfl, p, xs, rfl, .inr (SqT.of hp), two_line, fun p1 n1 => ⟨p1, _, rfl, .inr (SqT.of upd_same), rfl, rfl, _, rfl, ?_⟩⟩
      have s1 := same_upd (o := .tup [V.int 1, V.int 2]) n1
      generalize upd H p1 (.tup [V.int 1, V.int 2]) = H1 at s1
      have cnt : inV (V.int (xs.length : Int)) [V.int 1, V.int 2] = decide (ds.length = 1 ∨ ds.length = 2) := by
        rw [hs.len]
        match ds.length with
        | 0 => rfl
        | 1 => rfl
        | 2 => rfl
        | n + 3 =>
          rw [decide_eq_false (by omega)]
          have b1 : ((1 : Int) == ((n + 3 : Nat) : Int)) = false := beq_eq_false_iff_ne.mpr (by omega)
          have b2 : ((2 : Int) == ((n + 3 : Nat) : Int)) = false := beq_eq_false_iff_ne.mpr (by omega)
          show (((1 : Int) == ((n + 3 : Nat) : Int)) || (((2 : Int) == ((n + 3 : Nat) : Int)) || false)) = false
          rw [b1, b2]
          rfl
      show ite ((!inV (V.int (xs.length : Int)) [V.int 1, V.int 2]) = true) _ _
      rw [cnt]
      by_cases hl : ds.length = 1 ∨ ds.length = 2
      · rw [decide_eq_true hl]
        refine iteF ?_
        -- all
        refine ⟨_, rfl, p, rfl, ⟨_, SqT.of (s1 _ _ hp)⟩, fun D nD => ?_⟩
        have hs1 := hs.same s1
        have s2 : Same H (upd H1 D (.lst [])) := s1.trans (same_upd nD)
        refine lc_tup (K := K) (a := p) (xs := xs) (fun i H2 => Same H H2 ∧ H2 D = some (.lst (((ds.take i).map termD).map V.bl))) ⟨s2, upd_same⟩ (fun i H2 _ hq => SqT.of (hq.1 _ _ hp)) (fun i x H2 hx hq => ?_) (fun H2 hq => ?_)
        · obtain ⟨d, hd, hdt⟩ := DtAll.at i hs hx
          refine ⟨rfl, x, rfl, x, d, _, rfl, hdt.same hq.1, _, hq.2, ?_, ?_, ?_⟩
          · rw [List.length_map, List.length_map, List.length_take]
            exact small1000 (by omega)
          · exact fun b o e => by
              rw [upd_ne (ne_of_none (s1 _ _ e) nD)]
              exact hq.1 b o e
          · rw [upd_same, List.take_add_one, hd, List.map_append, List.map_append]
            rfl
        · rw [hs.len, List.take_length] at hq
          have hD := hq.2
          have s3 := hq.1
          refine ⟨D, _, rfl, .inl (.inl hD), _, rfl, ?_⟩
          have hp3 := s3 _ _ hp
          have hs3 := hs.same s3
          have q := q H2 s3
          cases e : ((ds.map termD).all id) with
          | false =>
            refine iteT ?_
            have : termsD (.tuple ds) = false := by
              match ds, hl, e with
              | [a], _, e => exact (Bool.and_true (termD a)).symm.trans e
              | [a, b], _, e =>
                have e : (termD a && (termD b && true)) = false := e
                rw [Bool.and_true] at e
                show (termD a && termD b && ltD a b) = false
                rw [e]
                rfl
              | _ :: _ :: _ :: _, h, _ => simp at h
            rw [this] at q
            exact q
          | true =>
            refine iteF ⟨_, rfl, p, _, rfl, .inr (SqT.of hp3), rfl, _, rfl, ?_⟩
            rw [hs3.len]
            match xs, ds, hl, e, hs3 with
            | [x], [a], _, e, _ =>
              have : termsD (.tuple [a]) = true := (Bool.and_true (termD a)).symm.trans e
              rw [this] at q
              exact iteT q
            | [x, y], [a, b], _, e, .cons h1 (.cons h2 .nil) =>
              have e : (termD a && (termD b && true)) = true := e
              rw [Bool.and_true, Bool.and_eq_true] at e
              obtain ⟨n1, r1, rfl⟩ := termD_inv e.1
              obtain ⟨n2, r2, rfl⟩ := termD_inv e.2
              match x, h1, y, h2 with
              | _, .tup hx (.cons (.str _ _) (.cons _ .nil)), _, .tup hy (.cons (.str _ _) (.cons _ .nil)) =>
                refine iteF ⟨_, rfl, p, _, _, _, rfl, rfl, SqT.of hp3, rfl, _, _, _, _, rfl, rfl, SqT.of hx, rfl, _, rfl, p, _, _, _, rfl, rfl, SqT.of hp3, rfl, _, _, _, _, rfl, rfl, SqT.of hy, rfl, _, _, rfl, rfl, ?_⟩
                have : termsD (.tuple [.tuple [.str n1, r1], .tuple [.str n2, r2]]) = decide (n1.cps.toList < n2.cps.toList) := by
                  show (_ && _ && _) = _
                  rw [e.1, e.2]
                  rfl
                rw [this] at q
                exact q
            | _, _ :: _ :: _ :: _, h, _, _ => simp at h
      · rw [decide_eq_false hl]
        refine iteT ?_
        have q := q H1 s1
        have : termsD (.tuple ds) = false := by
          match ds, hl with
          | [], _ => rfl
          | [_], h => exact absurd (.inl rfl) h
          | [_, _], h => exact absurd (.inr rfl) h
          | _ :: _ :: _ :: _, _ => rfl
        rw [this] at q
        exact q
end
section
variable {P : Program} {w : World} {K : PySem.W.Frag} {mg : Str → Option Value} {base : Heap} {fa : Nat → Addr} {fd : Nat → FuncData}
theorem ok_p_is_tie (T : Txt K mg fa fd) : FnOk P w K mg base CX0 5 (fa 88) (fd 88) ["thing"] (spDs tieD) := by
  refine T.F_p_is_tie.ok sc_p_is_tie (fun vs H Q E h => ?_) (fun cdv A outer s H vs Q E hr h => ?_)
  · obtain ⟨v, d, _, rfl, _⟩ := h
    rfl
  · obtain ⟨v, d, z, rfl, hv, q⟩ := h
    refine ⟨_, (pss_cons (ps_if (PW.pt (pw_or (pt_not (pt_val (pe_callB call_isi (by rfl) T.m_isinstance PyProof.Rows.boot_isinstance (pa_cons (pv 0) (pa_cons (pe_bltn (v := .ty "tuple") (by rfl) T.m_tuple (by decide +kernel) rfl) pa_nil))))) (pw_or1 (pt_cmpR op_ne (pe_callB call_len_seq (by rfl) T.m_len PySem.boot_len (pa_cons (pv 0) pa_nil)) pe_int (nomark _))))) (pss_one (ps_ret pe_bl)) pss_nil)
      (pss_one (ps_ret (pe_and (pe_call (ok_p_are_terms T) (hr.mono (by decide)) (by rfl) T.g_p_are_terms T.F_p_are_terms.kp T.b_p_are_terms .nil pass0 (pa_cons (pe_ix ix_tup (pv 0) pe_int (fun _ _ => rfl)) pa_nil)) (pe_one (pe_call (ok_p_is_ratio T) (hr.mono (by decide)) (by rfl) T.g_p_is_ratio T.F_p_is_ratio.kp T.b_p_is_ratio .nil pass0 (pa_cons (pe_ix ix_tup (pv 0) pe_int (fun _ _ => rfl)) pa_nil))))))), ?_⟩
    refine ⟨_, rfl, _, _, _, _, _, rfl, .ty _, .base hv.ty, kit_ty kitTup, _, rfl, ?_⟩
    rcases hv.split with e | ⟨p, xs, ds, rfl, rfl, hp, hs⟩
    · rw [e]
      refine iteT (iteT ?_)
      have q := q H (Same.refl _)
      have : tieD d = false := by cases d <;> first | rfl | cases e
      rw [this] at q
      exact q
    · refine iteF ⟨_, rfl, p, xs, rfl, .inr (SqT.of hp), rfl, _, rfl, ?_⟩
      rw [hs.len]
      have q0 := q H (Same.refl _)
      match xs, ds, hs with
      | _, [], _ => exact iteT q0
      | _, [x], _ => exact iteT q0
      | _, x :: y :: z :: r, _ =>
        rw [decide_eq_false (by simp; omega)]
        exact iteT q0
      | _, [d1, d2], .cons (v := x) h1 (.cons (v := y) h2 .nil) =>
        rw [decide_eq_true (show V.int (([d1, d2] : List PyData).length : Int) = V.int 2 from rfl)]
        refine iteF ⟨_, rfl, p, _, _, _, rfl, rfl, SqT.of hp, rfl, x, d1, _, rfl, h1, fun H1 s1 => ⟨_, rfl, ?_⟩⟩
        have q : Q (.bl (termsD d1 && ratD d2)) H1 := q H1 s1
        cases e1 : termsD d1 with
        | false =>
          rw [e1] at q
          exact iteF q
        | true =>
          rw [e1, Bool.true_and] at q
          exact iteT ⟨_, rfl, p, _, _, _, rfl, rfl, SqT.of (s1 _ _ hp), rfl, y, d2, _, rfl, h2.same s1, q⟩
def spNames : Sp := fun vs H Q _ => ∃ v ts b z, vs = [v] ∧ Dt z H v (.tuple [trmD ts, b]) ∧ ts.length ≤ 900 ∧ ∀ D H', H D = none → Same H H' → H' D = some (.lst (ts.map fun t => V.str t.1)) → Q (.ref D) H'
theorem ok_p_names_in (T : Txt K mg fa fd) : FnOk P w K mg base CX0 1 (fa 89) (fd 89) ["tie"] spNames := by
  refine T.F_p_names_in.ok sc_p_names_in (fun vs H Q E h => ?_) (fun cdv A outer s H vs Q E hr h => ?_)
  · obtain ⟨v, ts, b, _, rfl, _⟩ := h
    rfl
  · obtain ⟨v, ts, b, z, rfl, hv, hz, q⟩ := h
    refine ⟨_, (pss_one (ps_ret (pe_lc (own := [("name", 1), ("rate", 2)]) (g := gTup K 2 (gCons (gName 1) (gCons (gName 2) gNil))) (tt := tYes) rfl sc_p_names_in.nd (pi_tup (pe_ix ix_tup (pv 0) pe_int (fun _ _ => rfl))) (blkOk_by (own := [("name", 1), ("rate", 2)]) (N := ["tie", "name", "rate"]) (sc := defScope s_p_names_in) (by decide +kernel)) (fun _ _ _ _ _ => pg_tup rfl (pgs_cons (pg_name (i := 1) sc_p_names_in.nd rfl (Or.inl rfl)) (pgs_cons (pg_name (i := 2) sc_p_names_in.nd rfl (Or.inl rfl)) pgs_nil))) (fun _ _ _ _ _ => pts_nil) (fun _ _ _ _ _ => (pv 1))))), ?_⟩
    obtain ⟨p, t, y, xs, rfl, hp, ht, hts, _⟩ := tie_inv hv
    · refine ⟨_, rfl, p, _, _, _, rfl, rfl, SqT.of hp, rfl, t, rfl, ⟨_, SqT.of ht⟩, fun D nD => ?_⟩
      refine lc_tup (K := K) (a := t) (xs := xs) (fun i H2 => Same H H2 ∧ H2 D = some (.lst ((ts.take i).map fun t => V.str t.1))) ⟨same_upd nD, upd_same⟩ (fun i H2 _ hq => SqT.of (hq.1 _ _ ht)) (fun i x H2 hx hq => ?_) (fun H2 hq => ?_)
      · obtain ⟨d, hd, hdt⟩ := DtAll.at i hts hx
        rw [List.getElem?_map] at hd
        obtain ⟨⟨n, r⟩, he, rfl⟩ := Option.map_eq_some_iff.mp hd
        match x, hdt with
        | _, .tup (a := pp) hpp (.cons (.str _ _) (.cons _ .nil)) =>
          refine ⟨pp, _, rfl, .inl (.inl (hq.1 _ _ hpp)), rfl, _, _, rfl, _, _, rfl, rfl, rfl, _, rfl, _, hq.2, ?_, ?_, ?_⟩
          · rw [List.length_map, List.length_take]
            exact small1000 (by omega)
          · exact fun b o e => by
              rw [upd_ne (ne_of_none e nD)]
              exact hq.1 b o e
          · rw [upd_same, List.take_add_one, he, List.map_append]
            rfl
      · have e := hts.len
        rw [List.length_map] at e
        rw [e, List.take_length] at hq
        exact q D H2 nD hq.1 hq.2
end
/-! ### for i, x in enumerate(list) -/
theorem for_enum {K : PySem.W.Frag} {a : Addr} {xs : List V} {g : TG} {tb : TS} {D : Ends} {σ : L2.St} {H : Hp} (Pv : Nat → L2.St → Hp → Prop) (h0 : Pv 0 σ H) (hl : ∀ i σ H, i ≤ xs.length → Pv i σ H → SqL K H a xs)
    (hs : ∀ i x σ H T, xs[i]? = some x → Pv i σ H → H T = none → g (.ref T) σ (upd H T (.tup [.int (i : Nat), x])) fun σ2 H2 => tb { D with nx := Pv (i + 1), ct := Pv (i + 1), bk := D.nx } σ2 H2) (hd : ∀ σ H, Pv xs.length σ H → D.nx σ H) :
    ∃ W : Nat → Nat → L2.St → Hp → Prop, (∃ m, W 0 m σ H) ∧ ∀ i m σ H, W i m σ H →
      ((Ite K a).stop i H ∧ D.nx σ H) ∨ ((Ite K a).go i H ∧ ∃ N : L2.St → Hp → Prop, (∀ σ' H', N σ' H' → ∃ m', m' < m ∧ W (i + 1) m' σ' H') ∧ ∀ x H', (Ite K a).yld i H x H' → g x σ H' fun σ2 H2 => tb { D with nx := N, ct := N, bk := D.nx } σ2 H2) := by
  refine ⟨fun i m σ H => m + i = xs.length ∧ Pv i σ H, ⟨xs.length, rfl, h0⟩, ?_⟩
  intro i m σ H hw
  obtain ⟨hm, p⟩ := hw
  have q := hl i σ H (by omega) p
  cases m with
  | zero =>
    obtain rfl : i = xs.length := by omega
    exact .inl ⟨⟨xs, q, Nat.le_refl _⟩, hd σ H p⟩
  | succ m =>
    have lt : i < xs.length := by omega
    refine .inr ⟨⟨xs, xs[i], q, List.getElem?_eq_getElem lt⟩, Pv (i + 1), fun σ' H' p' => ⟨m, Nat.lt_succ_self m, by omega, p'⟩, fun v H' y => ?_⟩
    obtain ⟨T, x, rfl, nT, rfl, hx⟩ := y
    exact hs i x σ H T (hx xs q) p nT
/-! ### the first wrong name, the first wrong tie -/
def firstBad : Nat → List Str → List Str → Option Nat
  | _, _, [] => none
  | i, pre, x :: xs => if nameB x.cps.toList = true ∧ x ∉ pre then firstBad (i + 1) (pre ++ [x]) xs else some i
def optV : Option Nat → V
  | none => .non
  | some i => .int (i : Int)
def tieN : PyData → List Str
  | .tuple [.tuple ts, _] => ts.map fun t => match t with
    | .tuple (.str x :: _) => x
    | _ => Str.ofString ""
  | _ => []
def goodT (ns : List Str) (d : PyData) : Bool := tieD d && (tieN d).all fun x => decide (x ∈ ns)
def firstBadT (ns : List Str) : Nat → List PyData → Option Nat
  | _, [] => none
  | i, d :: ds => if goodT ns d = true then firstBadT ns (i + 1) ds else some i
theorem inV_strs (x : Str) : ∀ l : List Str, inV (V.str x) (l.map V.str) = decide (x ∈ l)
  | [] => rfl
  | y :: l => by
    show ((y == x) || inV (V.str x) (l.map V.str)) = _
    rw [inV_strs x l]
    by_cases h : y = x
    · subst h
      simp
    · have h2 : (y == x) = false := beq_eq_false_iff_ne.mpr h
      rw [h2, Bool.false_or]
      have h3 : ¬ x = y := fun z => h z.symm
      simp [h3]
theorem flat_strs : ∀ l : List Str, (l.map V.str).all flatV = true
  | [] => rfl
  | _ :: l => by
    show (true && (l.map V.str).all flatV) = true
    rw [flat_strs l]
    rfl
theorem cut_take (xs : List V) (i : Nat) (h : i ≤ xs.length) : cutV xs none (some (i : Int)) = xs.take i := by
  show (xs.drop 0).take (HT.sIx xs.length xs.length (some (i : Int)) - 0) = _
  rw [HT.sIx_nat, Nat.sub_zero, Nat.min_eq_left h]
  rfl
theorem SqL.sm {K : PySem.W.Frag} {H H' : Hp} {p : Addr} {xs : List V} (s : Same H H') (h : SqL K H p xs) : SqL K H' p xs := by
  rcases h with (q | ⟨o, q⟩) | q
  · exact .inl (.inl (s _ _ q))
  · exact .inl (.inr ⟨o, s _ _ q⟩)
  · exact .inr q
section
variable {P : Program} {w : World} {K : PySem.W.Frag} {mg : Str → Option Value} {base : Heap} {fa : Nat → Addr} {fd : Nat → FuncData}
def spFWN (K : PySem.W.Frag) : Sp := fun vs H Q _ => ∃ (L : Addr) (ns : List Str), vs = [.ref L] ∧ SqL K H L (ns.map V.str) ∧ ns.length ≤ 900 ∧ (∀ x ∈ ns, x.length ≤ 1000) ∧ ∀ H', Same H H' → Q (optV (firstBad 0 [] ns)) H'
theorem ok_p_first_wrong_name (T : Txt K mg fa fd) : FnOk P w K mg base CX0 3 (fa 135) (fd 135) ["names"] (spFWN K) := by
  refine T.F_p_first_wrong_name.ok sc_p_first_wrong_name (fun vs H Q E h => ?_) (fun cdv A outer s H vs Q E hr h => ?_)
  · obtain ⟨L, ns, rfl, _⟩ := h
    rfl
  · obtain ⟨L, ns, rfl, hL, hsz, hlen, q⟩ := h
    refine ⟨_, (pss_cons (ps_for PassesOwn.never rfl (pi_enum (by rfl) T.m_enumerate (pa_cons (pv 0) pa_nil)) (pg_tup (by rfl) (pgs_cons (pg_name (i := 1) sc_p_first_wrong_name.nd rfl (.inl rfl)) (pgs_cons (pg_name (i := 2) sc_p_first_wrong_name.nd rfl (.inl rfl)) pgs_nil))) (pss_one (ps_if (PW.pt (pw_or (pt_not (pt_val (pe_call (ok_p_is_name T) (hr.mono (by decide)) (by rfl) T.g_p_is_name T.F_p_is_name.kp T.b_p_is_name .nil pass0 (pa_cons (pv 2) pa_nil)))) (pw_or1 (pt_cmpR op_in_seq (pv 2) (pe_slice sl_list (pv 0) po_none (po_some (pv 1))) (by rfl))))) (pss_one (ps_ret (pv 1))) pss_nil)))
      (pss_one (ps_ret pe_non))), ?_⟩
    refine ⟨_, rfl, L, _, rfl, hL, for_enum (K := K) (a := L) (xs := ns.map V.str) (fun i σ G => Same H G ∧ firstBad 0 [] ns = firstBad i (ns.take i) (ns.drop i) ∧ ∃ y1 y2, σ = [some (.ref L), y1, y2]) ⟨Same.refl H, rfl, _, _, rfl⟩ (fun i σ G _ hq => SqL.sm hq.1 hL) (fun i x σ G T hx hq nT => ?_) (fun σ G hq => ?_)⟩
    · obtain ⟨sG, fb, y1, y2, rfl⟩ := hq
      rw [List.getElem?_map] at hx
      obtain ⟨n, hz, rfl⟩ := Option.map_eq_some_iff.mp hx
      have lt : i < ns.length := (List.getElem?_eq_some_iff.mp hz).1
      have dr : ns.drop i = n :: ns.drop (i + 1) := by
        rw [List.drop_eq_getElem_cons lt]
        congr 1
        exact (List.getElem?_eq_some_iff.mp hz).2
      rw [dr] at fb
      have sT := same_upd (o := .tup [V.int (i : Nat), .str n]) nT
      have s1 := sG.trans sT
      have mem : n ∈ ns := List.mem_of_getElem? hz
      refine ⟨T, _, rfl, SqT.of upd_same, rfl, _, _, rfl, _, _, rfl, rfl, ?_⟩
      refine ⟨_, rfl, _, _, 0, rfl, .str n (hlen n mem), _, rfl, ?_⟩
      have ret : (¬ (nameB n.cps.toList = true ∧ n ∉ ns.take i)) → ∀ G', Same H G' → Q (.int (i : Int)) G' := fun c G' s' => by
        have e : firstBad 0 [] ns = some i := by
          rw [fb]
          show (if _ then _ else _) = _
          rw [if_neg c]
        rw [e] at q
        exact q G' s'
      cases hb : nameB n.cps.toList with
      | false =>
        have hb' : nameD (.str n) = false := hb
        rw [hb']
        exact iteT (iteT ⟨_, rfl, ret (fun z => by rw [hb] at z; exact Bool.false_ne_true z.1) _ s1⟩)
      | true =>
        have hb' : nameD (.str n) = true := hb
        rw [hb']
        refine iteF ⟨_, rfl, _, rfl, _, rfl, _, rfl, L, _, rfl, SqL.sm s1 hL, fun p np => ?_⟩
        have sp := same_upd (o := .lst (cutV (ns.map V.str) none (some (i : Int)))) np
        have ec : cutV (ns.map V.str) none (some (i : Int)) = (ns.take i).map V.str := by
          rw [cut_take _ _ (by rw [List.length_map]; omega), List.map_take]
        refine ⟨p, _, rfl, .inl (SqL.of upd_same), rfl, ?_, _, rfl, ?_⟩
        · rw [ec]
          exact flat_strs _
        · rw [ec] at sp ⊢
          rw [inV_strs]
          by_cases hm : n ∈ ns.take i
          · rw [decide_eq_true hm]
            exact iteT ⟨_, rfl, ret (fun z => z.2 hm) _ (s1.trans sp)⟩
          · rw [decide_eq_false hm]
            refine iteF ⟨s1.trans sp, ?_, _, _, rfl⟩
            rw [fb, List.take_add_one, hz]
            show (if _ then _ else _) = _
            rw [if_pos ⟨hb, hm⟩]
            rfl
    · obtain ⟨sG, fb, y1, y2, rfl⟩ := hq
      rw [List.length_map, List.take_length, List.drop_length] at fb
      have e : optV (firstBad 0 [] ns) = .non := by
        rw [fb]
        rfl
      rw [e] at q
      exact q _ sG
end
theorem op_in_seqK {X : Cx} {K : PySem.W.Frag} (h : X.K = K) : OpR X (compareOp .In) (rIn K false) := h ▸ op_in_seq
theorem tieD_inv {d : PyData} (h : tieD d = true) : ∃ ts b, d = .tuple [trmD ts, b] ∧ ts.length ≤ 2 ∧ tieN d = ts.map fun t => t.1 := by
  unfold tieD at h
  split at h
  · rename_i t b
    rw [Bool.and_eq_true] at h
    have h1 := h.1
    unfold termsD at h1
    split at h1
    · rename_i s
      obtain ⟨n, r, rfl⟩ := termD_inv h1
      exact ⟨[(n, r)], b, rfl, by show 1 ≤ 2; decide, rfl⟩
    · rename_i s u
      rw [Bool.and_eq_true, Bool.and_eq_true] at h1
      obtain ⟨n, r, rfl⟩ := termD_inv h1.1.1
      obtain ⟨m, r2, rfl⟩ := termD_inv h1.1.2
      exact ⟨[(n, r), (m, r2)], b, rfl, Nat.le_refl 2, rfl⟩
    · cases h1
  · cases h
section
variable {P : Program} {w : World} {K : PySem.W.Frag} {mg : Str → Option Value} {base : Heap} {fa : Nat → Addr} {fd : Nat → FuncData}
def spFWT (K : PySem.W.Frag) : Sp := fun vs H Q _ => ∃ (T L : Addr) (us : List V) (ds : List PyData) (ns : List Str) (z : Addr), vs = [.ref T, .ref L] ∧ SqL K H T us ∧ DtAll z H us ds ∧ us.length ≤ 900 ∧ SqL K H L (ns.map V.str) ∧ ∀ H', Same H H' → Q (optV (firstBadT ns 0 ds)) H'
theorem ok_p_first_wrong_tie (T : Txt K mg fa fd) : FnOk P w K mg base CX0 6 (fa 136) (fd 136) ["ties", "names"] (spFWT K) := by
  refine T.F_p_first_wrong_tie.ok sc_p_first_wrong_tie (fun vs H Q E h => ?_) (fun cdv A outer s H vs Q E hr h => ?_)
  · obtain ⟨T0, L, us, ds, ns, z, rfl, _⟩ := h
    rfl
  · obtain ⟨T0, L, us, ds, ns, z, rfl, hT, hds, hsz, hL, q⟩ := h
    refine ⟨_, (pss_cons (ps_for PassesOwn.never rfl (pi_enum (by rfl) T.m_enumerate (pa_cons (pv 0) pa_nil)) (pg_tup (by rfl) (pgs_cons (pg_name (i := 2) sc_p_first_wrong_tie.nd rfl (.inl rfl)) (pgs_cons (pg_name (i := 3) sc_p_first_wrong_tie.nd rfl (.inl rfl)) pgs_nil))) (pss_one (ps_if (PW.pt (pw_or (pt_not (pt_val (pe_call (ok_p_is_tie T) (hr.mono (by decide)) (by rfl) T.g_p_is_tie T.F_p_is_tie.kp T.b_p_is_tie .nil pass0 (pa_cons (pv 3) pa_nil)))) (pw_or1 (pt_not (pt_val (pe_callB (cr_all rfl) (by rfl) T.m_all PyProof.Rows.boot_all (pa_cons (pe_lc (own := [("name", 4)]) (g := gName 4) (tt := tYes) rfl sc_p_first_wrong_tie.nd (pi_list (pe_call (ok_p_names_in T) (hr.mono (by decide)) (by rfl) T.g_p_names_in T.F_p_names_in.kp T.b_p_names_in .nil pass0 (pa_cons (pv 3) pa_nil))) (blkOk_by (own := [("name", 4)]) (N := ["ties", "names", "at", "tie", "name"]) (sc := defScope s_p_first_wrong_tie) (by decide +kernel)) (fun _ _ _ _ _ => pg_name (i := 4) sc_p_first_wrong_tie.nd rfl (Or.inl rfl)) (fun _ _ _ _ _ => pts_nil) (fun _ _ _ _ _ => (pe_cmpR (op_in_seqK (K := K) rfl) (pv 4) (pv 1) (by rfl)))) pa_nil))))))) (pss_one (ps_ret (pv 2))) pss_nil)))
      (pss_one (ps_ret pe_non))), ?_⟩
    refine ⟨_, rfl, T0, _, rfl, hT, for_enum (K := K) (a := T0) (xs := us) (fun i σ G => Same H G ∧ firstBadT ns 0 ds = firstBadT ns i (ds.drop i) ∧ ∃ y1 y2 y3, σ = [some (.ref T0), some (.ref L), y1, y2, y3]) ⟨Same.refl H, rfl, _, _, _, rfl⟩ (fun i σ G _ hq => SqL.sm hq.1 hT) (fun i x σ G T1 hx hq nT => ?_) (fun σ G hq => ?_)⟩
    · obtain ⟨sG, fb, y1, y2, y3, rfl⟩ := hq
      obtain ⟨d, hd, hdt⟩ := DtAll.at i hds hx
      have lt : i < ds.length := (List.getElem?_eq_some_iff.mp hd).1
      have dr : ds.drop i = d :: ds.drop (i + 1) := by
        rw [List.drop_eq_getElem_cons lt]
        congr 1
        exact (List.getElem?_eq_some_iff.mp hd).2
      rw [dr] at fb
      have sT := same_upd (o := .tup [V.int (i : Nat), x]) nT
      have s1 := sG.trans sT
      have ret : goodT ns d = false → ∀ G', Same H G' → Q (.int (i : Int)) G' := fun c G' s' => by
        have e : firstBadT ns 0 ds = some i := by
          rw [fb]
          show (if _ then _ else _) = _
          rw [if_neg (by rw [c]; exact Bool.false_ne_true)]
        rw [e] at q
        exact q G' s'
      refine ⟨T1, _, rfl, SqT.of upd_same, rfl, _, _, rfl, _, _, rfl, rfl, ?_⟩
      refine ⟨_, rfl, x, d, z, rfl, hdt.same s1, fun G2 s2 => ⟨_, rfl, ?_⟩⟩
      cases ht : tieD d with
      | false =>
        refine iteT (iteT ⟨_, rfl, ret ?_ _ (s1.trans s2)⟩)
        unfold goodT
        rw [ht]
        rfl
      | true =>
        obtain ⟨ts, b, ed, hl, en⟩ := tieD_inv ht
        have s12 := s1.trans s2
        refine iteF ⟨_, rfl, x, ts, b, z, rfl, by rw [← ed]; exact hdt.same s12, by omega, fun D H' nD s3 hD => ⟨D, rfl, ⟨_, SqL.of hD⟩, fun D2 nD2 => ?_⟩⟩
        have s13 := s12.trans s3
        refine lc_list (K := K) (a := D) (xs := ts.map fun t => V.str t.1) (fun j G3 => Same H' G3 ∧ G3 D2 = some (.lst (((ts.take j).map fun t => decide (t.1 ∈ ns)).map V.bl))) ⟨same_upd nD2, upd_same⟩ (fun j G3 _ hp => SqL.of (hp.1 _ _ hD)) (fun j y G3 hy hp => ?_) (fun G3 hp => ?_)
        · rw [List.getElem?_map] at hy
          obtain ⟨t, htz, rfl⟩ := Option.map_eq_some_iff.mp hy
          have jl := (List.getElem?_eq_some_iff.mp htz).1
          refine ⟨rfl, _, rfl, _, rfl, L, _, rfl, .inl (SqL.sm (s13.trans hp.1) hL), rfl, flat_strs _, _, hp.2, ?_, ?_, ?_⟩
          · rw [List.length_map, List.length_map, List.length_take]
            exact small1000 (by omega)
          · exact fun c o e => (upd_ne (ne_of_none e nD2)).trans (hp.1 c o e)
          · rw [upd_same, List.take_add_one, htz, inV_strs, List.map_append, List.map_append]
            rfl
        · rw [List.length_map, List.take_length] at hp
          have s14 := s13.trans hp.1
          refine ⟨D2, _, rfl, SqL.of hp.2, _, rfl, ?_⟩
          have ea : (ts.map fun t => decide (t.1 ∈ ns)).all id = goodT ns d := by
            unfold goodT
            rw [ht, en, Bool.true_and, List.all_map, List.all_map]
            rfl
          rw [ea]
          cases hg : goodT ns d with
          | false => exact iteT ⟨_, rfl, ret hg _ s14⟩
          | true =>
            refine iteF ⟨s14, ?_, _, _, _, rfl⟩
            rw [fb]
            show (if _ then _ else _) = _
            rw [if_pos hg]
    · obtain ⟨sG, fb, y1, y2, y3, rfl⟩ := hq
      rw [hds.len, List.drop_length] at fb
      have e : optV (firstBadT ns 0 ds) = .non := by
        rw [fb]
        rfl
      rw [e] at q
      exact q _ sG
end
def tmL (x : List Nat) (f : FR) : List Nat := if f = (1, 1) then x else if f = (-1, 1) then 45 :: x else txtL f.1 f.2 ++ 42 :: x
def Fsm (f : FR) : Prop := f.1.natAbs < 10 ^ 62 ∧ 0 < f.2 ∧ f.2.natAbs < 10 ^ 62
theorem txtL_len {f : FR} (h : Fsm f) : (txtL f.1 f.2).length ≤ 127 := by
  rw [txt_int f.1 f.2 h.2.1]
  have a := intL_len h.1
  have b := intL_len h.2.2
  split
  · omega
  · rw [List.length_append, List.length_cons]
    omega
theorem tmL_len {x : List Nat} {f : FR} (hx : x.length ≤ 7) (h : Fsm f) : (tmL x f).length ≤ 135 := by
  have := txtL_len h
  unfold tmL
  split
  · omega
  · split
    · rw [List.length_cons]
      omega
    · rw [List.length_append, List.length_cons]
      omega
theorem star : (Str.ofString "*" : Str) = SX.S [42] := by decide +kernel
theorem minusT : (Str.ofString " - " : Str) = SX.S [32, 45, 32] := by decide +kernel
theorem plusT : (Str.ofString " + " : Str) = SX.S [32, 43, 32] := by decide +kernel
theorem leT : (Str.ofString " <= " : Str) = SX.S [32, 60, 61, 32] := by decide +kernel
theorem eqv_pair (a b c d : Int) : PyData.eqv (.tuple [.int a, .int b]) (.tuple [.int c, .int d]) = decide ((a, b) = (c, d)) := by
  show ((a == c) && ((b == d) && true)) = _
  rw [Bool.and_true, Bool.eq_iff_iff, Bool.and_eq_true, beq_iff_eq, beq_iff_eq, decide_eq_true_eq, Prod.mk.injEq]
theorem dp_fr {K : PySem.W.Frag} {H : Hp} {p : Addr} {a b : Int} (h : H p = some (.tup [.int a, .int b])) : Dp K H (.ref p) (.tuple [.int a, .int b]) := .tup (SqT.of h) (.cons (.int a) (.cons (.int b) .nil))
section
variable {P : Program} {w : World} {K : PySem.W.Frag} {mg : Str → Option Value} {base : Heap} {fa : Nat → Addr} {fd : Nat → FuncData}
def spTermT : Sp := fun vs H Q _ => ∃ (x : List Nat) (p : Addr) (f : FR), vs = [vS x, .ref p] ∧ x.length ≤ 7 ∧ H p = some (.tup [.int f.1, .int f.2]) ∧ Fsm f ∧ ∀ H', Same H H' → Q (vS (tmL x f)) H'
theorem ok_p_term_text (T : Txt K mg fa fd) : FnOk P w K mg base CX0 3 (fa 92) (fd 92) ["name", "rate"] spTermT := by
  refine T.F_p_term_text.ok sc_p_term_text (fun vs H Q E h => ?_) (fun cdv A outer s H vs Q E hr h => ?_)
  · obtain ⟨x, p, f, rfl, _⟩ := h
    rfl
  · obtain ⟨x, p, f, rfl, hx, hp, hf, q⟩ := h
    refine ⟨_, (pss_cons (ps_if (pt_cmpR (op_eqD hr.units) (pv 1) (pe_tup (pa_cons pe_int (pa_cons pe_int pa_nil))) (nomark _)) (pss_one (ps_ret (pv 0))) pss_nil)
      (pss_cons (ps_if (pt_cmpR (op_eqD hr.units) (pv 1) (pe_tup (pa_cons (pe_un un_neg pe_int) (pa_cons pe_int pa_nil))) (nomark _)) (pss_one (ps_ret (pe_op op_add_str pe_str (pv 0)))) pss_nil)
      (pss_one (ps_ret (pe_op op_add_str (pe_op op_add_str (pe_call (ok_p_ratio_text T) (hr.mono (by decide)) (by rfl) T.g_p_ratio_text T.F_p_ratio_text.kp T.b_p_ratio_text .nil pass0 (pa_cons (pv 1) pa_nil)) pe_str) (pv 0)))))), ?_⟩
    refine ⟨_, rfl, two_line, fun e ne => ?_⟩
    have s1 := same_upd (o := .tup [V.int 1, .int 1]) ne
    refine ⟨_, _, dp_fr (s1 _ _ hp), dp_fr upd_same, rfl, rfl, _, rfl, ?_⟩
    rw [eqv_pair]
    refine ite2 (fun c => ?_) (fun c => ?_)
    · have := q _ s1
      unfold tmL at this
      rw [if_pos (of_decide_eq_true c)] at this
      exact ⟨_, rfl, this⟩
    · refine ⟨_, rfl, _, rfl, two_line, fun e2 ne2 => ?_⟩
      have s2 := same_upd (o := .tup [V.int (-1), .int 1]) ne2
      refine ⟨_, _, dp_fr (s2 _ _ (s1 _ _ hp)), dp_fr upd_same, rfl, rfl, _, rfl, ?_⟩
      rw [eqv_pair]
      have c1 : f ≠ (1, 1) := fun z => c (decide_eq_true z)
      refine ite2 (fun c2 => ?_) (fun c2 => ?_)
      · have := q _ (s1.trans s2)
        unfold tmL at this
        rw [if_neg c1, if_pos (of_decide_eq_true c2)] at this
        refine ⟨_, rfl, _, _, rfl, rfl, ?_, ?_⟩
        · rw [dash, SX.S_len, SX.S_len]
          exact small_line (by show 1 + x.length ≤ 1000; omega)
        · rw [dash, SX.S_cat]
          exact this
      · have c3 : f ≠ (-1, 1) := fun z => c2 (decide_eq_true z)
        have tl := txtL_len hf
        refine ⟨_, rfl, p, f.1, f.2, rfl, (s1.trans s2) _ _ hp, hf.2.1, hf.1, hf.2.2, fun H' s3 => ⟨_, _, rfl, rfl, ?_, _, rfl, _, _, rfl, rfl, ?_, ?_⟩⟩
        · rw [star, SX.S_len, SX.S_len]
          exact small_line (by show _ + 1 ≤ 1000; omega)
        · rw [star, SX.S_cat, SX.S_len, SX.S_len, List.length_append]
          exact small_line (by show _ + 1 + _ ≤ 1000; omega)
        · have := q _ (s1.trans (s2.trans s3))
          unfold tmL at this
          rw [if_neg c1, if_neg c3] at this
          rw [star, SX.S_cat, SX.S_cat, List.append_assoc]
          exact this
end
def stepT (acc : List Nat) (u : List Nat × FR) : List Nat := if u.2.1 < 0 then acc ++ [32, 45, 32] ++ tmL u.1 (-u.2.1, u.2.2) else acc ++ [32, 43, 32] ++ tmL u.1 u.2
def tsL : List (List Nat × FR) → List Nat
  | [] => []
  | t :: r => r.foldl stepT (tmL t.1 t.2)
def TsOk (tl : List (List Nat × FR)) : Prop := (tl.length = 1 ∨ tl.length = 2) ∧ ∀ t ∈ tl, t.1.length ≤ 7 ∧ Fsm t.2
theorem Fsm.neg {f : FR} (h : Fsm f) : Fsm (-f.1, f.2) := ⟨by show (-f.1).natAbs < _; rw [Int.natAbs_neg]; exact h.1, h.2⟩
theorem stepT_len {acc : List Nat} {u : List Nat × FR} (hx : u.1.length ≤ 7) (h : Fsm u.2) : (stepT acc u).length ≤ acc.length + 138 := by
  unfold stepT
  split
  · have := tmL_len hx h.neg
    simp only [List.length_append, List.length_cons, List.length_nil]
    omega
  · have := tmL_len hx h
    simp only [List.length_append, List.length_cons, List.length_nil]
    omega
theorem cut_1 {xs : List V} (h : 1 ≤ xs.length) : cutV xs (some 1) none = xs.drop 1 := by
  unfold cutV
  rw [show HT.sIx xs.length 0 (some 1) = min 1 xs.length from HT.sIx_nat xs.length 0 1, HT.sIx_none, Nat.min_eq_left h]
  exact List.take_of_length_le (by rw [List.length_drop]; exact Nat.le_refl _)
section
variable {P : Program} {w : World} {K : PySem.W.Frag} {mg : Str → Option Value} {base : Heap} {fa : Nat → Addr} {fd : Nat → FuncData}
def spTermsT : Sp := fun vs H Q _ => ∃ v tl z, vs = [v] ∧ Dt z H v (.tuple (tl.map tmP)) ∧ TsOk tl ∧ ∀ H', Same H H' → Q (vS (tsL tl)) H'
theorem ok_p_terms_text (T : Txt K mg fa fd) : FnOk P w K mg base CX0 4 (fa 93) (fd 93) ["terms"] spTermsT := by
  refine T.F_p_terms_text.ok sc_p_terms_text (fun vs H Q E h => ?_) (fun cdv A outer s H vs Q E hr h => ?_)
  · obtain ⟨v, tl, z, rfl, _⟩ := h
    rfl
  · obtain ⟨v, tl, z, rfl, hv, hok, q⟩ := h
    refine ⟨_, (C8.pss_cut (ps_set (i := 1) sc_p_terms_text.nd rfl (.inl rfl) (pe_call (ok_p_term_text T) (hr.mono (by decide)) (by rfl) T.g_p_term_text T.F_p_term_text.kp T.b_p_term_text .nil pass0 (pa_cons (pe_ix ix_tup (pe_ix ix_tup (pv 0) pe_int (fun _ _ => rfl)) pe_int (fun _ _ => rfl)) (pa_cons (pe_ix ix_tup (pe_ix ix_tup (pv 0) pe_int (fun _ _ => rfl)) pe_int (fun _ _ => rfl)) pa_nil))))
      (C8.pss_cut (ps_for PassesOwn.never rfl (pi_tup (pe_slice sl_tup (pv 0) (po_some pe_int) po_none)) (pg_tup (by rfl) (pgs_cons (pg_name (i := 2) sc_p_terms_text.nd rfl (.inl rfl)) (pgs_cons (pg_name (i := 3) sc_p_terms_text.nd rfl (.inl rfl)) pgs_nil))) (pss_one (ps_if (pt_cmpR op_lt (pe_ix ix_tup (pv 3) pe_int (fun _ _ => rfl)) pe_int (nomark _)) (pss_one (ps_set (i := 1) sc_p_terms_text.nd rfl (.inl rfl) (pe_op op_add_str (pe_op op_add_str (pv 1) pe_str) (pe_call (ok_p_term_text T) (hr.mono (by decide)) (by rfl) T.g_p_term_text T.F_p_term_text.kp T.b_p_term_text .nil pass0 (pa_cons (pv 2) (pa_cons (pe_tup (pa_cons (pe_un un_neg (pe_ix ix_tup (pv 3) pe_int (fun _ _ => rfl))) (pa_cons (pe_ix ix_tup (pv 3) pe_int (fun _ _ => rfl)) pa_nil))) pa_nil)))))) (pss_one (ps_set (i := 1) sc_p_terms_text.nd rfl (.inl rfl) (pe_op op_add_str (pe_op op_add_str (pv 1) pe_str) (pe_call (ok_p_term_text T) (hr.mono (by decide)) (by rfl) T.g_p_term_text T.F_p_term_text.kp T.b_p_term_text .nil pass0 (pa_cons (pv 2) (pa_cons (pv 3) pa_nil)))))))))
      (pss_one (ps_ret (pv 1))))), ?_⟩
    obtain ⟨t, xs, rfl, ht, hts⟩ : ∃ t xs, v = .ref t ∧ H t = some (.tup xs) ∧ DtAll z H xs (tl.map tmP) := by
      generalize tl.map tmP = dd at hv
      match v, hv with
      | _, .tup h1 h2 => exact ⟨_, _, rfl, h1, h2⟩
    obtain ⟨⟨x, f⟩, r, rfl⟩ : ∃ u r, tl = u :: r := by
      cases tl with
      | nil => have := hok.1; simp at this
      | cons u r => exact ⟨u, r, rfl⟩
    obtain ⟨pp, pf, xs', rfl, hpp, hpf, hts'⟩ : ∃ pp pf xs', xs = .ref pp :: xs' ∧ H pp = some (.tup [vS x, .ref pf]) ∧ H pf = some (.tup [.int f.1, .int f.2]) ∧ DtAll z H xs' (r.map tmP) := by
      change DtAll z H xs (.tuple [.str (SX.S x), frP f] :: r.map tmP) at hts
      match xs, hts with
      | _, .cons (.tup h1 (.cons (.str _ _) (.cons h2 .nil))) h3 =>
        obtain ⟨pf, rfl, h4⟩ := dt_fr h2
        exact ⟨_, _, _, rfl, h1, h4, h3⟩
    have xl : xs'.length = r.length := by
      have := hts'.len
      rw [List.length_map] at this
      exact this
    have rl : r.length ≤ 1 := by
      have := hok.1
      simp only [List.length_cons] at this
      omega
    have h0 := hok.2 (x, f) List.mem_cons_self
    have l0 : (tmL x f).length ≤ 135 := tmL_len h0.1 h0.2
    refine ⟨fun σ H1 => Same H H1 ∧ σ = [some (.ref t), some (vS (tmL x f)), none, none], ?_, fun σ H1 hM => ?_⟩
    · exact ⟨_, rfl, t, _, _, _, rfl, rfl, SqT.of ht, at_of (j := 0) rfl rfl, pp, _, _, _, rfl, rfl, SqT.of hpp, rfl, _, rfl, t, _, _, _, rfl, rfl, SqT.of ht, at_of (j := 0) rfl rfl, pp, _, _, _, rfl, rfl, SqT.of hpp, rfl, x, pf, f, rfl, h0.1, hpf, h0.2, fun H' s' => ⟨s', rfl⟩⟩
    obtain ⟨s1, rfl⟩ := hM
    have ht1 := s1 _ _ ht
    have hts1 := hts'.same s1
    refine ⟨fun σ H2 => Same H1 H2 ∧ ∃ y2 y3, σ = [some (.ref t), some (vS (tsL ((x, f) :: r))), y2, y3], ?_, fun σ H2 hM => ?_⟩
    · refine ⟨_, rfl, 1, rfl, t, _, rfl, SqT.of ht1, ?_, fun p np => ?_⟩
      · intro z
        have z1 := z.1
        rw [show HT.sIx (V.ref pp :: xs').length 0 (some 1) = min 1 _ from HT.sIx_nat _ 0 1] at z1
        simp only [List.length_cons] at z1
        omega
      have sp := same_upd (o := .tup (cutV (V.ref pp :: xs') (some 1) none)) np
      have hp : (upd H1 p (.tup (cutV (V.ref pp :: xs') (some 1) none))) p = some (.tup xs') := by
        rw [upd_same, cut_1 (by simp)]
        rfl
      have hts2 := hts1.same sp
      refine ⟨p, rfl, ⟨_, SqT.of hp⟩, for_tup (K := K) (a := p) (xs := xs') (fun i σ H2 => Same (upd H1 p (.tup (cutV (V.ref pp :: xs') (some 1) none))) H2 ∧ ∃ y2 y3, σ = [some (.ref t), some (vS ((r.take i).foldl stepT (tmL x f))), y2, y3]) ⟨Same.refl _, _, _, rfl⟩ (fun i σ H2 _ hq => SqT.of (hq.1 _ _ hp)) (fun i y σ H2 hy hq => ?_) (fun σ H2 hq => ?_)⟩
      · obtain ⟨s2, y2, y3, rfl⟩ := hq
        obtain ⟨dt, hdd, hdt⟩ := DtAll.at i hts2 hy
        rw [List.getElem?_map] at hdd
        obtain ⟨⟨n, g⟩, he, rfl⟩ := Option.map_eq_some_iff.mp hdd
        have i0 : i = 0 := by
          have := (List.getElem?_eq_some_iff.mp he).1
          omega
        subst i0
        have hu := hok.2 (n, g) (List.mem_cons_of_mem _ (List.mem_of_getElem? he))
        change Dt _ _ _ (.tuple [.str (SX.S n), frP g]) at hdt
        have e1 : (r.take (0 + 1)).foldl stepT (tmL x f) = stepT (tmL x f) (n, g) := by
          rw [List.take_add_one, he]
          rfl
        rw [e1]
        have nl : n.length ≤ 7 := hu.1
        have tn : (tmL n (-g.1, g.2)).length ≤ 135 := tmL_len nl hu.2.neg
        have tp : (tmL n g).length ≤ 135 := tmL_len nl hu.2
        match y, hdt with
        | _, .tup (a := pp2) hpp2 (.cons (.str _ _) (.cons hr' .nil)) =>
          obtain ⟨pr, rfl, hpr⟩ := dt_fr hr'
          refine ⟨pp2, _, rfl, .inl (.inl (s2 _ _ hpp2)), rfl, _, _, rfl, _, _, rfl, rfl, _, rfl, pr, _, _, _, rfl, rfl, SqT.of (s2 _ _ hpr), t0, _, _, rfl, rfl, _, rfl, ite2 (fun c => ?_) (fun c => ?_)⟩
          · have c := of_decide_eq_true c
            refine ⟨_, rfl, _, _, rfl, rfl, ?_, _, rfl, _, rfl, pr, _, _, _, rfl, rfl, SqT.of (s2 _ _ hpr), t0, _, rfl, _, rfl, pr, _, _, _, rfl, rfl, SqT.of (s2 _ _ hpr), t1, two_line, fun e ne => ?_⟩
            · rw [minusT, SX.S_len, SX.S_len]
              exact small_line (by show (tmL x f).length + 3 ≤ 1000; omega)
            · have se := same_upd (o := .tup [V.int (-g.1), .int g.2]) ne
              refine ⟨n, e, (-g.1, g.2), rfl, nl, upd_same, hu.2.neg, fun H' s' => ⟨_, _, rfl, rfl, ?_, s2.trans (se.trans s'), some (vS n), some (.ref pr), ?_⟩⟩
              · rw [minusT, SX.S_cat, SX.S_len, SX.S_len, List.length_append]
                exact small_line (by show (tmL x f).length + 3 + (tmL n (-g.1, g.2)).length ≤ 1000; omega)
              · unfold stepT
                rw [if_pos c, minusT, SX.S_cat, SX.S_cat]
                rfl
          · have c : ¬ g.1 < 0 := fun z => c (decide_eq_true z)
            refine ⟨_, rfl, _, _, rfl, rfl, ?_, _, rfl, _, rfl, n, pr, g, rfl, nl, s2 _ _ hpr, hu.2, fun H' s' => ⟨_, _, rfl, rfl, ?_, s2.trans s', some (vS n), some (.ref pr), ?_⟩⟩
            · rw [plusT, SX.S_len, SX.S_len]
              exact small_line (by show (tmL x f).length + 3 ≤ 1000; omega)
            · rw [plusT, SX.S_cat, SX.S_len, SX.S_len, List.length_append]
              exact small_line (by show (tmL x f).length + 3 + (tmL n g).length ≤ 1000; omega)
            · unfold stepT
              rw [if_neg c, plusT, SX.S_cat, SX.S_cat]
              rfl
      · obtain ⟨s2, y2, y3, rfl⟩ := hq
        rw [xl, List.take_length]
        exact ⟨sp.trans s2, _, _, rfl⟩
    obtain ⟨s2, y2, y3, rfl⟩ := hM
    exact ⟨_, rfl, q H2 (s1.trans s2)⟩
end
/-! ### the law's symbols -/
def numB (w : List Nat) : Bool :=
  ((decide ((cutL w).1.length ≤ 30) && goodW (cutL w).1) && (!(cutL w).2.1 || (decide ((cutL w).2.2.length ≤ 30) && goodW (cutL w).2.2))) &&
    (!(cutL w).2.1 || (decide (1 < NumText.digitsVal (cutL w).2.2) && decide (Int.gcd (NumText.digitsVal (cutL w).1 : Nat) (NumText.digitsVal (cutL w).2.2 : Nat) = 1)))
theorem body_no {t : List Nat} (h : bodyM t = false) : bodyL t = t := by
  have e := body_at t
  rw [h] at e
  exact e.symm
theorem cut_no (w : List Nat) (h : (cutL w).2.1 = false) : (cutL w).2.2 = [] := by
  unfold cutL at *
  split at h
  · cases h
  · rfl
/-- the law's numbers are the program's -/
theorem num_link {w : List Nat} (h : bodyM w = false) : numB w = (!decide (30 < (cutL w).1.length ∨ 30 < (cutL w).2.2.length) && (progR w).isSome) := by
  have eb := body_no h
  rw [prog_law]
  unfold lawR numB
  rw [eb]
  have en : progN w = ((NumText.digitsVal (cutL w).1 : Nat) : Int) := by
    unfold progN
    rw [h, eb]
    rfl
  rw [en, h]
  cases hs : (cutL w).2.1 with
  | false =>
    have ed : progD w = 1 := by
      unfold progD
      rw [eb, hs]
      rfl
    rw [cut_no w hs, ed]
    by_cases l1 : (cutL w).1.length ≤ 30
    · rw [decide_eq_true l1, decide_eq_false (show ¬ (30 < (cutL w).1.length ∨ 30 < ([] : List Nat).length) by rw [List.length_nil]; omega)]
      cases hg : goodW (cutL w).1 with
      | false => rfl
      | true =>
        simp
    · rw [decide_eq_false l1, decide_eq_true (show (30 < (cutL w).1.length ∨ 30 < ([] : List Nat).length) by omega)]
      rfl
  | true =>
    have ed : progD w = ((NumText.digitsVal (cutL w).2.2 : Nat) : Int) := by
      unfold progD
      rw [eb, hs]
      rfl
    rw [ed]
    by_cases l1 : (cutL w).1.length ≤ 30
    · by_cases l2 : (cutL w).2.2.length ≤ 30
      · rw [decide_eq_true l1, decide_eq_true l2, decide_eq_false (show ¬ (30 < (cutL w).1.length ∨ 30 < (cutL w).2.2.length) by omega)]
        cases hg : goodW (cutL w).1 with
        | false => rfl
        | true =>
          cases hg2 : goodW (cutL w).2.2 with
          | false => rfl
          | true =>
            by_cases d1 : 1 < NumText.digitsVal (cutL w).2.2
            · rw [decide_eq_true d1]
              by_cases g1 : Int.gcd (NumText.digitsVal (cutL w).1 : Nat) (NumText.digitsVal (cutL w).2.2 : Nat) = 1
              · rw [decide_eq_true g1, if_neg (by decide), if_neg (fun z => by rcases z with (⟨_, z⟩ | z) | ⟨z, _⟩ <;> first | exact absurd g1 z | cases z | omega)]
                rfl
              · rw [decide_eq_false g1, if_neg (by decide), if_pos (.inl (.inr g1))]
                rfl
            · rw [decide_eq_false d1, if_neg (by decide), if_pos (.inl (.inl ⟨rfl, by omega⟩))]
              rfl
      · rw [decide_eq_false l2, decide_eq_true (show (30 < (cutL w).1.length ∨ 30 < (cutL w).2.2.length) by omega)]
        cases goodW (cutL w).1 <;> cases decide ((cutL w).1.length ≤ 30) <;> rfl
    · rw [decide_eq_false l1, decide_eq_true (show (30 < (cutL w).1.length ∨ 30 < (cutL w).2.2.length) by omega)]
      rfl
theorem rl_ten (c : Nat) : decide (c ∈ (Str.ofString "0123456789").cps.toList) = dig c := congrFun digZ c
theorem str_nil (a : List Nat) : decide (V.str (SX.S a) = V.str (Str.ofString "")) = a.isEmpty := by
  rw [emptyS]
  cases a with
  | nil => exact decide_eq_true rfl
  | cons c r =>
    refine decide_eq_false fun z => ?_
    exact absurd (SX.S_inj (V.str.inj z)) (by simp)
theorem good_eq (a : List Nat) : goodW a = !(a.isEmpty || (!a.all dig || (decide (1 < a.length) && a.head? == some 48))) := by
  unfold goodW isD
  cases a.isEmpty <;> cases a.all dig <;> simp
theorem str_zero (c : Nat) : decide (V.str ⟨#[c]⟩ = V.str (Str.ofString "0")) = decide (c = 48) := by
  rw [nought]
  by_cases h : c = 48
  · subst h
    exact decide_eq_true rfl
  · rw [decide_eq_false h]
    refine decide_eq_false fun z => ?_
    exact h (List.cons.inj (congrArg (fun x : Str => x.cps.toList) (V.str.inj z))).1
theorem good_isD {a : List Nat} (h : goodW a = true) : isD a = true := by
  unfold goodW at h
  rw [Bool.and_eq_true] at h
  exact h.1
theorem int_dig {a : List Nat} (h : isD a = true) (hl : a.length ≤ 61) : intText? (SX.S a) = some ((NumText.digitsVal a : Nat) : Int) ∧ (SX.S a).length ≤ 640 := by
  obtain ⟨h1, h2⟩ := isD_iff.mp h
  refine ⟨intText_digits (x := SX.S a) h2 h1 (by rw [SX.S_len]; omega), ?_⟩
  rw [SX.S_len]
  omega
def good30 (a : List Nat) : Bool := decide (a.length ≤ 30) && goodW a
def uni (t : List Nat) : Prop := ∀ c ∈ t, c < 1114112
theorem uni_ok {t : List Nat} (h : uni t) : PyData.strOk (SX.S t) = true := by
  unfold PyData.strOk
  show (t.toArray.all _) = true
  rw [List.all_toArray, List.all_eq_true]
  exact fun c hc => decide_eq_true (h c hc)
theorem uni_mid {t : List Nat} (h : uni t) (i j : Nat) : uni (mid t i j) := fun c hc => h c (List.mem_of_mem_drop (List.mem_of_mem_take hc))
theorem shaped_list {ds : List PyData} (h1 : PyData.canLayAll0 ds = true) (h2 : PyData.depthAll ds ≤ 60) : SeqAt.shaped (.list ds) = true := by
  unfold SeqAt.shaped
  rw [PyData.canLay0.eq_5, PyData.depth.eq_1, h1, Bool.true_and, decide_eq_true_eq]
  omega
theorem symP_at {t : List Nat} {k : Nat} (h : k < t.length) : symP t k = symC t[k] t k := by
  unfold symP
  rw [List.getD_eq_getElem?_getD, List.getElem?_eq_getElem h]
  rfl
theorem cut_pos {n d : Int} (hd : 0 < d) (hn : 0 ≤ n) : (cutL (txtL n d)).1 = TL.numL n.natAbs ∧ (cutL (txtL n d)).2.1 = decide (d ≠ 1) ∧ (d ≠ 1 → (cutL (txtL n d)).2.2 = TL.numL d.natAbs) := by
  obtain ⟨h1, h2, h3, h4⟩ := parse_txt n d hd
  have hb : bodyL (txtL n d) = txtL n d := body_no (by rw [h1]; exact decide_eq_false (by omega))
  rw [hb] at h2 h3 h4
  exact ⟨h2, h3, h4⟩
/-! ### texts written and read again -/
abbrev Pc := Sy × List Nat × Nat
def textP : List Pc → List Nat
  | [] => []
  | (_, w, n) :: r => w ++ (List.replicate n 32 ++ textP r)
def idxP (N : Nat) : Nat → List Pc → List (Sy × Nat)
  | _, [] => [(.fin, N)]
  | k, (s, w, n) :: r => (s, k) :: idxP N (k + w.length + n) r
/-- a word that reads as a symbol, what stands behind it being given -/
def TokOk (s : Sy) (w u : List Nat) : Prop := isBad s = false ∧ w ≠ [] ∧ ∀ (t : List Nat) (k : Nat), t.drop k = w ++ u → k < t.length → symP t k = (s, k + w.length)
def NoSp (t : List Nat) : Prop := ∀ c r, t = c :: r → c ≠ 32
inductive GoodP : List Pc → Prop
  | nil : GoodP []
  | cons {s : Sy} {w : List Nat} {n : Nat} {r : List Pc} : TokOk s w (List.replicate n 32 ++ textP r) → NoSp (textP r) → GoodP r → GoodP ((s, w, n) :: r)
theorem drop_add {t w u : List Nat} {k : Nat} (h : t.drop k = w ++ u) : t.drop (k + w.length) = u := by
  rw [← List.drop_drop, h, List.drop_left]
theorem drop_lt {t w u : List Nat} {k : Nat} (h : t.drop k = w ++ u) (hw : w ≠ []) : k < t.length ∧ k + w.length ≤ t.length := by
  have e := congrArg List.length h
  rw [List.length_drop, List.length_append] at e
  have := List.length_pos_iff.mpr hw
  omega
theorem run_tok {p : Nat → Bool} {t w u : List Nat} {k : Nat} (h : t.drop k = w ++ u) (hw : w.all p = true) (hu : ∀ c r, u = c :: r → p c = false) : runL p t k = k + w.length := by
  unfold runL
  rw [h]
  have e1 : (w ++ u).takeWhile p = w ++ u.takeWhile p := List.takeWhile_append_of_pos fun c hc => List.all_eq_true.mp hw c hc
  have e2 : u.takeWhile p = [] := by
    cases u with
    | nil => rfl
    | cons c r => rw [List.takeWhile_cons, hu c r rfl]; rfl
  rw [e1, e2, List.append_nil]
theorem mid_tok {t w u : List Nat} {k : Nat} (h : t.drop k = w ++ u) : mid t k (k + w.length) = w := by
  unfold mid
  rw [h, show k + w.length - k = w.length by omega, List.take_left]
theorem sp_run {t u : List Nat} {k n : Nat} (h : t.drop k = List.replicate n 32 ++ u) (hu : NoSp u) : runL spc t k = k + n := by
  have := run_tok (p := spc) h (by rw [List.all_eq_true]; intro c hc; rw [List.eq_of_mem_replicate hc]; rfl) (fun c r e => decide_eq_false (hu c r e))
  rw [List.length_replicate] at this
  exact this
theorem syms_pieces : ∀ (ps : List Pc) (n : Nat) (t : List Nat) (k : Nat), t.drop k = textP ps → k ≤ t.length → ps.length ≤ n → GoodP ps → symsL n t k = idxP t.length k ps
  | [], n, t, k, h, hk, _, _ => by
    have : t.length ≤ k := by
      have e := congrArg List.length h
      rw [List.length_drop] at e
      have : (textP []).length = 0 := rfl
      omega
    exact syms_stop n t this
  | (s, w, m) :: r, n, t, k, h, hk, hn, hg => by
    cases hg with
    | cons tok ns hg =>
      obtain ⟨nb, hw, ht⟩ := tok
      have h : t.drop k = w ++ (List.replicate m 32 ++ textP r) := h
      obtain ⟨kl, kw⟩ := drop_lt h hw
      have hs := ht t k h kl
      obtain ⟨n, rfl⟩ : ∃ n', n = n' + 1 := ⟨n - 1, by rw [List.length_cons] at hn; omega⟩
      have d1 := drop_add h
      have r1 := sp_run d1 ns
      have d2 : t.drop (k + w.length + m) = textP r := by
        have := drop_add d1
        rw [List.length_replicate] at this
        exact this
      have l2 : k + w.length + m ≤ t.length := by
        have := runL_le spc t (k + w.length) kw
        omega
      show (if k < t.length then _ else _) = _
      rw [if_pos kl, hs]
      show (if isBad s = true then _ else (s, k) :: symsL n t (runL spc t (k + w.length))) = _
      rw [nb, if_neg (by decide), r1, syms_pieces r n t _ d2 l2 (by rw [List.length_cons] at hn; omega) hg]
      rfl
theorem good_len : ∀ {ps : List Pc}, GoodP ps → ps.length ≤ (textP ps).length
  | _, .nil => Nat.le_refl _
  | _, .cons (s := s) (w := w) (n := n) (r := r) tok _ h => by
    have := good_len h
    have := List.length_pos_iff.mpr tok.2.1
    show r.length + 1 ≤ (w ++ (List.replicate n 32 ++ textP r)).length
    rw [List.length_append, List.length_append]
    omega
theorem syms_text {ps : List Pc} (h : GoodP ps) (ns : NoSp (textP ps)) : symsOf (textP ps) = idxP (textP ps).length 0 ps := by
  have r0 : runL spc (textP ps) 0 = 0 := sp_run (n := 0) (by rw [List.drop_zero]; rfl) ns
  unfold symsOf
  rw [r0]
  exact syms_pieces ps _ _ 0 List.drop_zero (Nat.zero_le _) (good_len h) h
/-! the words -/
theorem head_at {t w u : List Nat} {c : Nat} {k : Nat} (h : t.drop k = c :: w ++ u) (hk : k < t.length) : t[k] = c := by
  rw [List.drop_eq_getElem_cons hk] at h
  exact (List.cons.inj h).1
theorem tok_sign {c : Nat} (hc : c = 43 ∨ c = 45 ∨ c = 42) (u : List Nat) : TokOk (.sign c) [c] u := by
  refine ⟨rfl, by simp, fun t k h hk => ?_⟩
  rw [symP_at hk, head_at h hk]
  unfold symC
  have d : dig c = false := by rcases hc with rfl | rfl | rfl <;> decide
  have l : lowc c = false := by rcases hc with rfl | rfl | rfl <;> decide
  rw [d, l, if_neg (by decide), if_neg (by decide), if_pos hc]
  rfl
theorem tok_le (u : List Nat) : TokOk (.rel [60, 61]) [60, 61] u := by
  refine ⟨rfl, by simp, fun t k h hk => ?_⟩
  rw [symP_at hk, head_at h hk]
  have m : mid t k (k + 2) = [60, 61] := mid_tok h
  unfold symC
  rw [m]
  rfl
theorem all_numC {n d : Int} (hn : 0 ≤ n) : (txtL n d).all numC = true := by
  have dg : ∀ m : Nat, (TL.numL m).all numC = true := fun m => by
    rw [List.all_eq_true]
    intro c hc
    have := List.all_eq_true.mp (all_dig.mpr (TL.numL_digits m)) c hc
    unfold numC
    rw [this]
    rfl
  unfold txtL
  rw [if_neg (by omega), List.nil_append, List.all_append, dg, Bool.true_and]
  split
  · rfl
  · rw [List.all_cons, dg]
    rfl
theorem txt_head {n d : Int} (hn : 0 ≤ n) : ∃ c r, txtL n d = c :: r ∧ dig c = true := by
  unfold txtL
  rw [if_neg (by omega), List.nil_append]
  have h := isD_num n.natAbs
  cases e : TL.numL n.natAbs with
  | nil => exact absurd e (TL.numL_ne _)
  | cons c r =>
    refine ⟨c, _, rfl, ?_⟩
    have := all_dig.mpr (TL.numL_digits n.natAbs)
    rw [e, List.all_cons, Bool.and_eq_true] at this
    exact this.1
theorem tok_num {f : FR} (hf : Nf f) (hn : 0 ≤ f.1) (l1 : (TL.numL f.1.natAbs).length ≤ 30) (l2 : (TL.numL f.2.natAbs).length ≤ 30) {u : List Nat} (hu : ∀ c r, u = c :: r → numC c = false) : TokOk (.num f) (txtL f.1 f.2) u := by
  obtain ⟨c, r, e, dc⟩ := txt_head (d := f.2) hn
  refine ⟨rfl, by rw [e]; simp, fun t k h hk => ?_⟩
  have h1 : t[k] = c := by
    rw [e] at h
    exact head_at h hk
  have r1 := run_tok h (all_numC hn) hu
  have m1 := mid_tok h
  obtain ⟨c1, c2, c3⟩ := cut_pos hf.1 hn
  rw [symP_at hk, h1]
  unfold symC
  rw [dc, if_pos rfl]
  unfold numP
  rw [r1]
  dsimp only
  rw [m1]
  have no : ¬(30 < (cutL (txtL f.1 f.2)).1.length ∨ 30 < (cutL (txtL f.1 f.2)).2.2.length) := by
    rw [c1]
    by_cases o : f.2 = 1
    · have : (cutL (txtL f.1 f.2)).2.2 = [] := cut_no _ (by rw [c2]; exact decide_eq_false (fun z => z o))
      rw [this]
      show ¬(_ ∨ 30 < 0)
      omega
    · rw [c3 o]
      omega
  rw [if_neg no, prog_txt f.1 f.2 hf.1 hf.2]
/-- a name, with its sign or without -/
def NameL (x : List Nat) : Prop := ∃ y, LW y ∧ (x = y ∨ x = y ++ [39])
theorem tok_name {x u : List Nat} (hx : NameL x) (hu : ∃ r, u = 32 :: r) : TokOk (.name x) x u := by
  obtain ⟨y, hy, hxy⟩ := hx
  obtain ⟨r, rfl⟩ := hu
  obtain ⟨c, q, rfl⟩ : ∃ c q, y = c :: q := by
    cases y with
    | nil => exact absurd rfl hy.1
    | cons c q => exact ⟨c, q, rfl⟩
  have lc : lowc c = true := by
    have := hy.2.2
    rw [List.all_cons, Bool.and_eq_true] at this
    exact this.1
  have dc : dig c = false := by
    unfold lowc at lc
    unfold dig
    rw [Bool.and_eq_true, decide_eq_true_eq, decide_eq_true_eq] at lc
    rw [Bool.and_eq_false_iff, decide_eq_false_iff_not, decide_eq_false_iff_not]
    omega
  have yl := hy.2.1
  refine ⟨rfl, by rcases hxy with rfl | rfl <;> simp, fun t k h hk => ?_⟩
  rw [symP_at hk]
  rcases hxy with rfl | rfl
  · rw [head_at h hk]
    unfold symC
    rw [dc, lc, if_neg (by decide), if_pos rfl]
    have r1 := run_tok (p := lowc) h hy.2.2 (fun d s e => by rw [← (List.cons.inj e).1]; decide)
    have d1 := drop_add h
    have m1 : mid t (k + (c :: q).length) (k + (c :: q).length + 1) = [32] := mid_tok (w := [32]) d1
    unfold nameP
    rw [r1, if_neg (by omega), m1, if_neg (by decide), mid_tok h]
  · have h2 : t.drop k = (c :: q) ++ (39 :: 32 :: r) := by rw [h]; simp
    rw [head_at h2 hk]
    unfold symC
    rw [dc, lc, if_neg (by decide), if_pos rfl]
    have r1 := run_tok (p := lowc) h2 hy.2.2 (fun d s e => by rw [← (List.cons.inj e).1]; decide)
    have d1 := drop_add h2
    have m1 : mid t (k + (c :: q).length) (k + (c :: q).length + 1) = [39] := mid_tok (w := [39]) d1
    have m2 := mid_tok h
    have l2 : ((c :: q) ++ [39]).length = (c :: q).length + 1 := by rw [List.length_append]; rfl
    unfold nameP
    rw [r1, if_neg (by omega), m1, if_pos rfl]
    rw [l2, ← Nat.add_assoc] at m2
    rw [m2, l2, ← Nat.add_assoc]
/-! ### the text of a tie, piece by piece -/
def wordP (c : Int) (x : List Nat) : List Pc := if c.natAbs = 1 then [(.name x, x, 1)] else [(.num ((c.natAbs : Int), 1), txtL (c.natAbs : Int) 1, 0), (.sign 42, [42], 0), (.name x, x, 1)]
def firstP (c : Int) (x : List Nat) : List Pc := (if c < 0 then [(.sign 45, [45], 0)] else []) ++ wordP c x
def nextP (c : Int) (x : List Nat) : List Pc := (if c < 0 then (.sign 45, [45], 1) else (.sign 43, [43], 1)) :: wordP c x
def endP (b : FR) : List Pc := (.rel [60, 61], [60, 61], 1) :: ((if b.1 < 0 then [(.sign 45, [45], 0)] else []) ++ [(.num ((b.1.natAbs : Int), b.2), txtL (b.1.natAbs : Int) b.2, 0)])
abbrev Cf := List Nat × Int
def tieQ (u : Cf) (r : List Cf) (b : FR) : List Pc := firstP u.2 u.1 ++ (r.flatMap (fun v => nextP v.2 v.1) ++ endP b)
theorem textP_app : ∀ a b : List Pc, textP (a ++ b) = textP a ++ textP b
  | [], _ => rfl
  | (s, w, n) :: a, b => by
    show w ++ (List.replicate n 32 ++ textP (a ++ b)) = w ++ (List.replicate n 32 ++ textP a) ++ textP b
    rw [textP_app a b, List.append_assoc, List.append_assoc]
theorem natAbs_int (c : Int) : ((c.natAbs : Nat) : Int).natAbs = c.natAbs := Int.natAbs_natCast _
theorem txt_abs (n d : Int) : txtL n d = (if n < 0 then [45] else []) ++ txtL (n.natAbs : Int) d := by
  unfold txtL
  rw [natAbs_int, if_neg (show ¬ ((n.natAbs : Nat) : Int) < 0 by omega), List.nil_append]
theorem text_word (c : Int) (x : List Nat) : textP (wordP c x) = (if c.natAbs = 1 then x else txtL (c.natAbs : Int) 1 ++ 42 :: x) ++ [32] := by
  unfold wordP
  split
  · rfl
  · show txtL _ _ ++ ([] ++ ([42] ++ ([] ++ (x ++ [32])))) = _
    simp
theorem text_first {c : Int} (hc : c ≠ 0) (x : List Nat) : textP (firstP c x) = tmL x (c, 1) ++ [32] := by
  unfold firstP tmL
  rw [textP_app, text_word, ← List.append_assoc]
  congr 1
  by_cases h1 : c = 1
  · subst h1
    rfl
  · by_cases h2 : c = -1
    · subst h2
      rfl
    · rw [if_neg (fun z => h1 (congrArg Prod.fst z)), if_neg (fun z => h2 (congrArg Prod.fst z)), if_neg (show ¬ c.natAbs = 1 by omega), txt_abs c 1]
      split <;> simp [textP]
theorem text_next {c : Int} (hc : c ≠ 0) (acc x : List Nat) : acc ++ 32 :: textP (nextP c x) = stepT acc (x, (c, 1)) ++ [32] := by
  unfold nextP stepT
  have w : ∀ m : Int, 0 < m → m.natAbs = c.natAbs → tmL x (m, 1) = if c.natAbs = 1 then x else txtL (c.natAbs : Int) 1 ++ 42 :: x := fun m hm e => by
    unfold tmL
    by_cases h1 : m = 1
    · subst h1
      rw [if_pos rfl, if_pos (by rw [← e]; rfl)]
    · rw [if_neg (fun z => h1 (congrArg Prod.fst z)), if_neg (fun z => by have := congrArg Prod.fst z; simp only at this; omega), if_neg (by omega), show m = (c.natAbs : Int) by omega]
  by_cases h : c < 0
  · rw [if_pos h, if_pos h, w (-c) (by omega) (by omega)]
    show acc ++ 32 :: ([45] ++ ([32] ++ textP (wordP c x))) = _
    rw [text_word]
    simp
  · rw [if_neg h, if_neg h, w c (by omega) rfl]
    show acc ++ 32 :: ([43] ++ ([32] ++ textP (wordP c x))) = _
    rw [text_word]
    simp
theorem text_end (b : FR) : textP (endP b) = [60, 61, 32] ++ txtL b.1 b.2 := by
  unfold endP
  rw [txt_abs b.1 b.2]
  show [60, 61] ++ ([32] ++ textP _) = _
  rw [textP_app]
  split <;> simp [textP]
def rateL (tl : List Cf) : List It := tl.map fun u => (u.1, (u.2, 1))
theorem text_tie {u : Cf} (hu : u.2 ≠ 0) {r : List Cf} (hr : ∀ v ∈ r, v.2 ≠ 0) (b : FR) : textP (tieQ u r b) = tsL (rateL (u :: r)) ++ [32, 60, 61, 32] ++ txtL b.1 b.2 := by
  have go : ∀ (r : List Cf) (acc : List Nat), (∀ v ∈ r, v.2 ≠ 0) → (acc ++ [32]) ++ textP (r.flatMap fun v => nextP v.2 v.1) = (rateL r).foldl stepT acc ++ [32] := fun r => by
    induction r with
    | nil => intro acc _; simp [textP, rateL]
    | cons v r ih =>
      intro acc h
      have hv := h v List.mem_cons_self
      rw [List.flatMap_cons, textP_app]
      have e := text_next hv acc v.1
      have e2 : acc ++ [32] ++ (textP (nextP v.2 v.1) ++ textP (r.flatMap fun v => nextP v.2 v.1)) = (acc ++ 32 :: textP (nextP v.2 v.1)) ++ textP (r.flatMap fun v => nextP v.2 v.1) := by simp
      rw [e2, e, ih _ fun w hw => h w (List.mem_cons_of_mem _ hw)]
      rfl
  unfold tieQ
  rw [textP_app, textP_app, text_first hu, ← List.append_assoc, go r _ hr, text_end]
  show (rateL r).foldl stepT (tmL u.1 (u.2, 1)) ++ [32] ++ ([60, 61, 32] ++ txtL b.1 b.2) = (rateL r).foldl stepT (tmL u.1 (u.2, 1)) ++ [32, 60, 61, 32] ++ txtL b.1 b.2
  simp
/-! they read well -/
theorem NameL.nosp {x u : List Nat} (h : NameL x) : NoSp (x ++ u) := by
  obtain ⟨y, hy, hxy⟩ := h
  intro c r e
  obtain ⟨d, q, rfl⟩ : ∃ d q, y = d :: q := by
    cases y with
    | nil => exact absurd rfl hy.1
    | cons c q => exact ⟨c, q, rfl⟩
  have ld : lowc d = true := by
    have := hy.2.2
    rw [List.all_cons, Bool.and_eq_true] at this
    exact this.1
  have : d = c := by rcases hxy with rfl | rfl <;> exact (List.cons.inj e).1
  rw [← this]
  rintro rfl
  exact absurd ld (by decide)
theorem txt_nosp {n d : Int} (hn : 0 ≤ n) (u : List Nat) : NoSp (txtL n d ++ u) := by
  obtain ⟨c, r, e, dc⟩ := txt_head (d := d) hn
  rw [e]
  intro c' r' z
  rw [← (List.cons.inj z).1]
  rintro rfl
  exact absurd dc (by decide)
def CfOk (u : Cf) : Prop := NameL u.1 ∧ u.2 ≠ 0 ∧ (TL.numL u.2.natAbs).length ≤ 30
theorem num_one : (TL.numL (1 : Int).natAbs).length ≤ 30 := by
  have : TL.numL 1 = [49] := TL.numL_lt (by decide)
  show (TL.numL 1).length ≤ 30
  rw [this]
  decide
theorem nf_one (n : Int) : Nf (n, 1) := ⟨Int.zero_lt_one, by show Int.gcd n 1 = 1; exact Int.gcd_one_right n⟩
theorem good_word {u : Cf} (h : CfOk u) {r : List Pc} (hr : GoodP r) (ns : NoSp (textP r)) : GoodP (wordP u.2 u.1 ++ r) ∧ NoSp (textP (wordP u.2 u.1 ++ r)) := by
  have nm : GoodP ((.name u.1, u.1, 1) :: r) := .cons (tok_name h.1 ⟨_, rfl⟩) ns hr
  have n1 : NoSp (textP ((.name u.1, u.1, 1) :: r)) := h.1.nosp
  unfold wordP
  split
  · exact ⟨nm, n1⟩
  · have g2 : GoodP ((.sign 42, [42], 0) :: (.name u.1, u.1, 1) :: r) := .cons (tok_sign (.inr (.inr rfl)) _) n1 nm
    refine ⟨.cons (tok_num (f := ((u.2.natAbs : Int), 1)) (nf_one _) (by show (0 : Int) ≤ (u.2.natAbs : Int); omega) (by show (TL.numL ((u.2.natAbs : Int)).natAbs).length ≤ 30; rw [natAbs_int]; exact h.2.2) num_one (fun c r e => ?_)) (fun c r e => ?_) g2, txt_nosp (by omega) _⟩
    · rw [← (List.cons.inj e).1]
      decide
    · rw [← (List.cons.inj e).1]
      decide
theorem good_end {b : FR} (hb : Nf b) (l1 : (TL.numL b.1.natAbs).length ≤ 30) (l2 : (TL.numL b.2.natAbs).length ≤ 30) : GoodP (endP b) ∧ NoSp (textP (endP b)) := by
  have nf : Nf ((b.1.natAbs : Int), b.2) := ⟨hb.1, by
    have := hb.2
    show Int.gcd ((b.1.natAbs : Nat) : Int) b.2 = 1
    unfold Int.gcd at *
    rw [natAbs_int]
    exact this⟩
  have g1 : GoodP [(.num ((b.1.natAbs : Int), b.2), txtL (b.1.natAbs : Int) b.2, 0)] := .cons (tok_num (f := ((b.1.natAbs : Int), b.2)) nf (by show (0 : Int) ≤ (b.1.natAbs : Int); omega) (by show (TL.numL ((b.1.natAbs : Int)).natAbs).length ≤ 30; rw [natAbs_int]; exact l1) l2 (fun c r e => by cases e)) (fun c r e => by cases e) .nil
  have n1 : NoSp (textP [(.num ((b.1.natAbs : Int), b.2), txtL (b.1.natAbs : Int) b.2, 0)]) := txt_nosp (by omega) _
  unfold endP
  refine ⟨.cons (tok_le _) ?_ ?_, fun c r e => by rw [← (List.cons.inj e).1]; decide⟩
  · split
    · intro c r e
      rw [← (List.cons.inj e).1]
      decide
    · exact n1
  · split
    · exact .cons (tok_sign (.inr (.inl rfl)) _) n1 g1
    · exact g1
theorem good_tie {u : Cf} (hu : CfOk u) {r : List Cf} (hr : ∀ v ∈ r, CfOk v) {b : FR} (hb : Nf b) (l1 : (TL.numL b.1.natAbs).length ≤ 30) (l2 : (TL.numL b.2.natAbs).length ≤ 30) : GoodP (tieQ u r b) ∧ NoSp (textP (tieQ u r b)) := by
  have go : ∀ r : List Cf, (∀ v ∈ r, CfOk v) → GoodP (r.flatMap (fun v => nextP v.2 v.1) ++ endP b) ∧ NoSp (textP (r.flatMap (fun v => nextP v.2 v.1) ++ endP b)) := fun r => by
    induction r with
    | nil => exact fun _ => good_end hb l1 l2
    | cons v r ih =>
      intro h
      obtain ⟨g, n⟩ := ih fun w hw => h w (List.mem_cons_of_mem _ hw)
      obtain ⟨g2, n2⟩ := good_word (h v List.mem_cons_self) g n
      rw [List.flatMap_cons, List.append_assoc]
      unfold nextP
      split
      · exact ⟨.cons (tok_sign (.inr (.inl rfl)) _) n2 g2, fun c r e => by rw [← (List.cons.inj e).1]; decide⟩
      · exact ⟨.cons (tok_sign (.inl rfl) _) n2 g2, fun c r e => by rw [← (List.cons.inj e).1]; decide⟩
  obtain ⟨g, n⟩ := go r hr
  obtain ⟨g2, n2⟩ := good_word hu g n
  unfold tieQ firstP
  split
  · exact ⟨.cons (tok_sign (.inr (.inl rfl)) _) n2 g2, fun c r e => by rw [← (List.cons.inj e).1]; decide⟩
  · exact ⟨g2, n2⟩
/-! and as they were meant -/
def vC (c : Int) : FR := sgn (if c < 0 then -1 else 1) (if c.natAbs = 1 then (1, 1) else ((c.natAbs : Int), 1))
theorem vC_eq (c : Int) (hc : c ≠ 0) : vC c = (c, 1) := by
  unfold vC sgn
  by_cases h : c < 0
  · rw [if_pos h]
    split
    · refine Prod.ext ?_ rfl
      show (-1 : Int) * 1 = c
      omega
    · refine Prod.ext ?_ rfl
      show (-1 : Int) * (c.natAbs : Int) = c
      omega
  · rw [if_neg h]
    split
    · refine Prod.ext ?_ rfl
      show (1 : Int) * 1 = c
      omega
    · refine Prod.ext ?_ rfl
      show (1 : Int) * (c.natAbs : Int) = c
      omega
def vB (b : FR) : FR := sgn (if b.1 < 0 then -1 else 1) ((b.1.natAbs : Int), b.2)
theorem vB_eq (b : FR) : vB b = b := by
  unfold vB sgn
  by_cases h : b.1 < 0
  · rw [if_pos h]
    refine Prod.ext ?_ rfl
    show (-1 : Int) * (b.1.natAbs : Int) = b.1
    omega
  · rw [if_neg h]
    refine Prod.ext ?_ rfl
    show (1 : Int) * (b.1.natAbs : Int) = b.1
    omega
theorem parse_one (N : Nat) (u : Cf) (hu : u.2 ≠ 0) (b : FR) : parseP (idxP N 0 (tieQ u [] b)) = .ok ([(u.1, (u.2, 1))], [60, 61], [([], b)]) := by
  rw [← vC_eq u.2 hu]
  conv => rhs; rw [← vB_eq b]
  obtain ⟨x, c⟩ := u
  unfold tieQ firstP wordP endP vC vB
  dsimp only
  by_cases h1 : c < 0 <;> by_cases h2 : c.natAbs = 1 <;> by_cases h3 : b.1 < 0 <;> simp only [h1, h2, h3, if_true, if_false] <;> rfl
theorem parse_two (N : Nat) (u v : Cf) (hu : u.2 ≠ 0) (hv : v.2 ≠ 0) (b : FR) : parseP (idxP N 0 (tieQ u [v] b)) = .ok ([(u.1, (u.2, 1)), (v.1, (v.2, 1))], [60, 61], [([], b)]) := by
  rw [← vC_eq u.2 hu, ← vC_eq v.2 hv]
  conv => rhs; rw [← vB_eq b]
  obtain ⟨x, c⟩ := u
  obtain ⟨y, d⟩ := v
  unfold tieQ
  rw [List.flatMap_cons, List.flatMap_nil]
  unfold firstP nextP wordP endP vC vB
  dsimp only
  by_cases h1 : c < 0 <;> by_cases h2 : c.natAbs = 1 <;> by_cases h3 : b.1 < 0 <;> by_cases h4 : d < 0 <;> by_cases h5 : d.natAbs = 1 <;> simp only [h1, h2, h3, h4, h5, if_true, if_false] <;> rfl
inductive TC (S : List (Sy × Nat)) (k : Nat) : Prop
  | nm (x : List Nat) (i : Nat) (h : S[k]? = some (.name x, i)) (e : termP S k = .ok (x, (1, 1), k + 1))
  | nu (f : FQ) (i : Nat) (s1 : Sy) (i1 : Nat) (h : S[k]? = some (.num f, i)) (h1 : S[k + 1]? = some (s1, i1)) (g : isSg 42 s1 = false) (e : termP S k = .ok ([], f, k + 1))
  | ti (f : FQ) (i i1 : Nat) (x : List Nat) (i2 : Nat) (h : S[k]? = some (.num f, i)) (h1 : S[k + 1]? = some (.sign 42, i1)) (h2 : S[k + 2]? = some (.name x, i2)) (e : termP S k = .ok (x, f, k + 3))
  | te (f : FQ) (i i1 : Nat) (s2 : Sy) (i2 : Nat) (h : S[k]? = some (.num f, i)) (h1 : S[k + 1]? = some (.sign 42, i1)) (h2 : S[k + 2]? = some (s2, i2)) (n : isNm s2 = false) (e : termP S k = .error i2)
  | er (s : Sy) (i : Nat) (h : S[k]? = some (s, i)) (n : isNm s = false) (u : isNu s = false) (e : termP S k = .error i)
theorem term_cases {S : List (Sy × Nat)} (wf : WF S) {k : Nat} (hk : k < S.length) : TC S k := by
  obtain ⟨⟨s, i⟩, hs⟩ : ∃ si, S[k]? = some si := ⟨_, List.getElem?_eq_getElem hk⟩
  have other : isNm s = false → isNu s = false → TC S k := fun n u => by
    refine .er s i hs n u ?_
    unfold termP
    rw [hs]
    cases s with
    | num f => cases u
    | name x => cases n
    | _ => rfl
  cases s with
  | name x => exact .nm x i hs (by unfold termP; rw [hs])
  | num f =>
    have k1 : k + 1 < S.length := wf k _ _ hs rfl (fun z e => by subst e; intro z; cases z)
    obtain ⟨⟨s1, i1⟩, hs1⟩ : ∃ si, S[k + 1]? = some si := ⟨_, List.getElem?_eq_getElem k1⟩
    cases sg : isSg 42 s1 with
    | false =>
      refine .nu f i s1 i1 hs hs1 sg ?_
      unfold termP
      rw [hs]
      try dsimp only
      rw [hs1]
      split
      · rename_i h
        cases h
        cases sg
      · rfl
    | true =>
      obtain rfl : s1 = .sign 42 := by
        cases s1 with
        | sign c => rw [show c = 42 from of_decide_eq_true sg]
        | _ => cases sg
      have k2 : k + 2 < S.length := wf (k + 1) _ _ hs1 rfl (fun z e => by subst e; intro z; cases z)
      obtain ⟨⟨s2, i2⟩, hs2⟩ : ∃ si, S[k + 2]? = some si := ⟨_, List.getElem?_eq_getElem k2⟩
      cases nm : isNm s2 with
      | true =>
        obtain ⟨x, rfl⟩ : ∃ x, s2 = .name x := by cases s2 <;> first | exact ⟨_, rfl⟩ | cases nm
        refine .ti f i i1 x i2 hs hs1 hs2 ?_
        unfold termP
        rw [hs]
        try dsimp only
        rw [hs1]
        try dsimp only
        rw [hs2]
        try rfl
      | false =>
        refine .te f i i1 s2 i2 hs hs1 hs2 nm ?_
        unfold termP
        rw [hs]
        try dsimp only
        rw [hs1]
        try dsimp only
        rw [hs2]
        cases s2 with
        | name x => cases nm
        | _ => rfl
  | rel r => exact other rfl rfl
  | sign c => exact other rfl rfl
  | fin => exact other rfl rfl
  | bad => exact other rfl rfl
theorem headP_dash {S : List (Sy × Nat)} {k : Nat} {i : Nat} (h : S[k]? = some (.sign 45, i)) : headP S k = sumP S.length S (k + 1) (-1) := by
  unfold headP
  rw [h]
  exact if_pos rfl
theorem headP_else {S : List (Sy × Nat)} {k : Nat} {s : Sy} {i : Nat} (h : S[k]? = some (s, i)) (g : isSg 45 s = false) : headP S k = sumP S.length S k 1 := by
  unfold headP
  rw [h]
  cases s with
  | sign c => exact if_neg (of_decide_eq_false g)
  | _ => rfl
/-! ### how great the numbers of a drawn text can be -/
def RB (t : List Nat) : Prop := ∀ k, k ≤ t.length → runL numC t k ≤ k + 3
def SmallN (f : FR) : Prop := 0 ≤ f.1 ∧ f.1 ≤ 999 ∧ 0 < f.2 ∧ f.2 ≤ 9 ∧ Int.gcd f.1 f.2 = 1
theorem num_below (n m : Nat) (h : (TL.numL n).length ≤ m) : n < 10 ^ m := by
  have a : NumText.AllDigits (TL.numL n) := (isD_iff.mp (isD_num n)).2
  have v := val_lt a
  have e : NumText.digitsVal (TL.numL n) = n := TL.numL_val n
  rw [e] at v
  exact Nat.lt_of_lt_of_le v (Nat.pow_le_pow_right (by decide) h)
theorem small_of {w : List Nat} {f : FR} (h : progR w = some f) (hn : 0 ≤ f.1) (hl : w.length ≤ 3) : SmallN f := by
  obtain ⟨e, hd, hg⟩ := prog_some h
  rw [e] at hl
  unfold txtL at hl
  rw [if_neg (by omega), List.nil_append, List.length_append] at hl
  have p1 : 0 < (TL.numL f.1.natAbs).length := List.length_pos_iff.mpr (TL.numL_ne _)
  have p2 : 0 < (TL.numL f.2.natAbs).length := List.length_pos_iff.mpr (TL.numL_ne _)
  by_cases o : f.2 = 1
  · have := num_below f.1.natAbs 3 (by omega)
    have : (10 : Nat) ^ 3 = 1000 := by decide
    exact ⟨hn, by omega, hd, by omega, hg⟩
  · rw [if_neg o, List.length_cons] at hl
    have a := num_below f.1.natAbs 1 (by omega)
    have b := num_below f.2.natAbs 1 (by omega)
    exact ⟨hn, by omega, hd, by omega, hg⟩
theorem symP_kind (t : List Nat) {k : Nat} (h : k < t.length) (hb : isBad (symP t k).1 = false) : (∀ x, (symP t k).1 = .name x → NameL x) ∧ (RB t → ∀ f, (symP t k).1 = .num f → SmallN f) := by
  have nn := (symP_ok t h hb).2.1
  have e := symP_at h
  generalize hr : symP t k = r at *
  have e := e.symm
  clear hr
  unfold symC at e
  split at e
  · rename_i h1
    unfold numP at e
    dsimp only at e
    split at e
    · subst e
      cases hb
    · split at e
      · subst e
        cases hb
      · rename_i f hf
        subst e
        refine ⟨(fun x z => by cases z), fun rb g z => ?_⟩
        injection z with z
        subst z
        refine small_of hf nn.2 ?_
        have := rb k (by omega)
        have e2 := runL_le numC t k (by omega)
        rw [mid_len t (runL_ge _ _ _) e2]
        omega
  · split at e
    · rename_i h2
      have rl : ∀ j, runL lowc t k ≤ j → (mid t k (runL lowc t k)).all lowc = true := fun j _ => by
        unfold mid runL
        rw [show k + ((t.drop k).takeWhile lowc).length - k = ((t.drop k).takeWhile lowc).length by omega]
        have : (t.drop k).take ((t.drop k).takeWhile lowc).length = (t.drop k).takeWhile lowc := by
          conv => lhs; arg 2; rw [← List.takeWhile_append_dropWhile (p := lowc) (l := t.drop k)]
          rw [List.take_left]
        rw [this]
        exact List.all_takeWhile
      have e1 : k < runL lowc t k := by
        rw [runL_step h h2]
        exact runL_ge _ _ _
      have e2 := runL_le lowc t k (by omega)
      have ml := mid_len t (i := k) (j := runL lowc t k) (by omega) e2
      unfold nameP at e
      split at e
      · subst e
        cases hb
      · rename_i n6
        have lw : LW (mid t k (runL lowc t k)) := ⟨fun z => by rw [z] at ml; have : ([] : List Nat).length = 0 := rfl; omega, by omega, rl _ (Nat.le_refl _)⟩
        split at e
        · rename_i m39
          subst e
          refine ⟨fun x z => ?_, fun _ f z => by cases z⟩
          injection z with z
          refine ⟨_, lw, .inr ?_⟩
          rw [← z, ← m39]
          unfold mid
          have : t.drop (runL lowc t k) = (t.drop k).drop (runL lowc t k - k) := by rw [List.drop_drop]; congr 1; omega
          rw [this, show runL lowc t k + 1 - k = (runL lowc t k - k) + 1 by omega, show runL lowc t k + 1 - runL lowc t k = 1 by omega]
          rw [List.take_add]
        · subst e
          refine ⟨fun x z => ?_, fun _ f z => by cases z⟩
          injection z with z
          exact ⟨_, lw, .inl z.symm⟩
    · split at e
      · subst e
        exact ⟨(fun x z => by cases z), (fun _ f z => by cases z)⟩
      · split at e
        · subst e
          exact ⟨(fun x z => by cases z), (fun _ f z => by cases z)⟩
        · split at e
          · subst e
            exact ⟨(fun x z => by cases z), (fun _ f z => by cases z)⟩
          · subst e
            cases hb
theorem syms_kind (t : List Nat) : ∀ (n k : Nat), k ≤ t.length → ∀ e ∈ symsL n t k, (∀ x, e.1 = .name x → NameL x) ∧ (RB t → ∀ f, e.1 = .num f → SmallN f)
  | 0, k, h, e, he => by
    rw [List.mem_singleton.mp he]
    exact ⟨(fun x z => by cases z), (fun _ f z => by cases z)⟩
  | n + 1, k, h, e, he => by
    unfold symsL at he
    split at he
    · rename_i hk
      split at he
      · rw [List.mem_singleton.mp he]
        exact ⟨(fun x z => by cases z), (fun _ f z => by cases z)⟩
      · rename_i nb
        have nb := Bool.eq_false_iff.mpr nb
        rcases List.mem_cons.mp he with rfl | he
        · exact symP_kind t hk nb
        · exact syms_kind t n _ (runL_le spc t _ (sym_le t hk).1) e he
    · rw [List.mem_singleton.mp he]
      exact ⟨(fun x z => by cases z), (fun _ f z => by cases z)⟩
/-- where the items of a sum come from -/
def FromS (S : List (Sy × Nat)) (it : It) : Prop := (it.1 = [] ∨ ∃ e ∈ S, e.1 = .name it.1) ∧ ∃ (f : FR) (s : Int), (s = 1 ∨ s = -1) ∧ it.2 = sgn s f ∧ (f = (1, 1) ∨ ∃ e ∈ S, e.1 = .num f)
theorem from_term {S : List (Sy × Nat)} (wf : WF S) {k k' : Nat} {x : List Nat} {f : FR} (hk : k < S.length) (e : termP S k = .ok (x, f, k')) {s : Int} (hs : s = 1 ∨ s = -1) : FromS S (x, sgn s f) := by
  cases term_cases wf hk with
  | nm y i h e2 =>
    rw [e] at e2
    cases e2
    exact ⟨.inr ⟨_, List.mem_of_getElem? h, rfl⟩, _, s, hs, rfl, .inl rfl⟩
  | nu g i s1 i1 h h1 n e2 =>
    rw [e] at e2
    cases e2
    exact ⟨.inl rfl, _, s, hs, rfl, .inr ⟨_, List.mem_of_getElem? h, rfl⟩⟩
  | ti g i i1 y i2 h h1 h2 e2 =>
    rw [e] at e2
    cases e2
    exact ⟨.inr ⟨_, List.mem_of_getElem? h2, rfl⟩, _, s, hs, rfl, .inr ⟨_, List.mem_of_getElem? h, rfl⟩⟩
  | te g i i1 s2 i2 h h1 h2 n e2 =>
    rw [e] at e2
    cases e2
  | er g i h n u e2 =>
    rw [e] at e2
    cases e2
theorem from_sum {S : List (Sy × Nat)} {w c : Nat} (hS : SyL S w c) : ∀ (n k : Nat) (s : Int) (l : List It) (k2 : Nat), (s = 1 ∨ s = -1) → k < S.length → sumP n S k s = .ok (l, k2) → ∀ it ∈ l, FromS S it
  | 0, _, _, _, _, _, _, h => by cases h
  | n + 1, k, s, l, k2, hs, hk, h => by
    have wf := hS.wf
    unfold sumP at h
    split at h
    · cases h
    · rename_i x f k1 e
      obtain ⟨_, lk, ll, _, _⟩ := termP_ok hS e
      obtain ⟨⟨s1, i1⟩, hs1⟩ : ∃ si, S[k1]? = some si := ⟨_, List.getElem?_eq_getElem ll⟩
      have n1 := from_term wf hk e hs
      have stop : (Except.ok ([(x, sgn s f)], k1) : Except Nat (List It × Nat)) = .ok (l, k2) → ∀ it ∈ l, FromS S it := fun z => by
        cases z
        intro it hit
        rw [List.mem_singleton.mp hit]
        exact n1
      rw [hs1] at h
      cases s1 with
      | sign cc =>
        dsimp only at h
        by_cases hcc : cc = 43 ∨ cc = 45
        · rw [if_pos hcc] at h
          have l1 := wf k1 _ _ hs1 rfl (fun z q => by subst q; intro q2; cases q2)
          split at h
          · cases h
          · rename_i l2 k3 e2
            cases h
            intro it hit
            rcases List.mem_cons.mp hit with rfl | hit
            · exact n1
            · exact from_sum hS n (k1 + 1) _ l2 k2 (by split <;> simp) l1 e2 it hit
        · rw [if_neg hcc] at h
          exact stop h
      | num g => exact stop h
      | name y => exact stop h
      | rel y => exact stop h
      | fin => exact stop h
      | bad => exact stop h
theorem from_head {S : List (Sy × Nat)} {w c : Nat} (hS : SyL S w c) {k k2 : Nat} {l : List It} (hk : k < S.length) (h : headP S k = .ok (l, k2)) : ∀ it ∈ l, FromS S it := by
  obtain ⟨⟨s, i⟩, hs⟩ : ∃ si, S[k]? = some si := ⟨_, List.getElem?_eq_getElem hk⟩
  cases g : isSg 45 s with
  | false =>
    rw [headP_else hs g] at h
    exact from_sum hS _ k 1 l k2 (.inl rfl) hk h
  | true =>
    obtain rfl : s = .sign 45 := by
      cases s with
      | sign c => rw [show c = 45 from of_decide_eq_true g]
      | _ => cases g
    have l2 := hS.wf k _ _ hs rfl (fun z e => by subst e; intro z; cases z)
    rw [headP_dash hs] at h
    exact from_sum hS _ (k + 1) (-1) l k2 (.inr rfl) l2 h
/-! fractions whose denominators divide 2520 -/
def IB (m : Nat) (f : FR) : Prop := Nf f ∧ ∃ z : Int, z * f.2 = 2520 * f.1 ∧ z.natAbs ≤ m
theorem IB.mono {m n : Nat} {f : FR} (h : IB m f) (k : m ≤ n) : IB n f := by
  obtain ⟨a, z, b, c⟩ := h
  exact ⟨a, z, b, Nat.le_trans c k⟩
theorem IB.neg {m : Nat} {f : FR} (h : IB m f) : IB m (negF f) := by
  obtain ⟨a, z, b, c⟩ := h
  refine ⟨a.neg, -z, ?_, by rw [Int.natAbs_neg]; exact c⟩
  show -z * f.2 = 2520 * -f.1
  rw [Int.neg_mul, Int.mul_neg, b]
theorem ib_zero : IB 0 (0, 1) := ⟨nf_01, 0, by decide, Nat.le_refl _⟩
theorem IB.add {m n : Nat} {f g : FR} (h : IB m f) (k : IB n g) : IB (m + n) (addL f g) := by
  obtain ⟨a, z, b, c⟩ := h
  obtain ⟨a', z', b', c'⟩ := k
  refine ⟨addL_nf a.1 a'.1, z + z', ?_, by omega⟩
  have nz : f.2 * g.2 ≠ 0 := Int.mul_ne_zero (by have := a.1; omega) (by have := a'.1; omega)
  have e : (addL f g).1 * (f.2 * g.2) = (f.1 * g.2 + g.1 * f.2) * (addL f g).2 := lowT_self nz
  generalize (addL f g).1 = N at *
  generalize (addL f g).2 = D at *
  refine Int.eq_of_mul_eq_mul_right nz ?_
  calc (z + z') * D * (f.2 * g.2) = ((z * f.2) * g.2 + (z' * g.2) * f.2) * D := by
        rw [Int.add_mul, Int.add_mul, Int.add_mul]
        congr 1
        · simp only [Int.mul_assoc, Int.mul_left_comm, Int.mul_comm]
        · simp only [Int.mul_assoc, Int.mul_left_comm, Int.mul_comm]
    _ = (2520 * f.1 * g.2 + 2520 * g.1 * f.2) * D := by rw [b, b']
    _ = 2520 * ((f.1 * g.2 + g.1 * f.2) * D) := by
        rw [Int.mul_assoc 2520 f.1, Int.mul_assoc 2520 g.1, ← Int.mul_add, Int.mul_assoc]
    _ = 2520 * (N * (f.2 * g.2)) := by rw [e]
    _ = 2520 * N * (f.2 * g.2) := by rw [Int.mul_assoc]
theorem sub_addN (f g : FR) : subL f g = addL f (negF g) := by
  unfold subL addL negF
  dsimp only
  rw [Int.neg_mul, Int.sub_eq_add_neg]
theorem ib_sum (x : List Nat) (c : Nat) : ∀ (l : List It) (acc : FR) (m : Nat), IB m acc → (∀ it ∈ l, IB c it.2) → IB (m + c * l.length) (sumX x acc l)
  | [], _, _, h, _ => h
  | it :: l, acc, m, h, hl => by
    have hl' := fun i hi => hl i (List.mem_cons_of_mem it hi)
    show IB _ (sumX x (if it.1 = x then addL acc it.2 else acc) l)
    rw [List.length_cons, Nat.mul_succ, Nat.add_comm (c * l.length), ← Nat.add_assoc]
    split
    · exact ib_sum x c l _ _ (h.add (hl it List.mem_cons_self)) hl'
    · exact ib_sum x c l _ _ (h.mono (Nat.le_add_right _ _)) hl'
theorem ib_small {f : FR} (h : SmallN f) : IB 2517480 f := by
  obtain ⟨h1, h2, h3, h4, h5⟩ := h
  refine ⟨⟨h3, h5⟩, ?_⟩
  have : f.2 = 1 ∨ f.2 = 2 ∨ f.2 = 3 ∨ f.2 = 4 ∨ f.2 = 5 ∨ f.2 = 6 ∨ f.2 = 7 ∨ f.2 = 8 ∨ f.2 = 9 := by omega
  rcases this with e | e | e | e | e | e | e | e | e <;> rw [e]
  · exact ⟨2520 * f.1, by omega, by omega⟩
  · exact ⟨1260 * f.1, by omega, by omega⟩
  · exact ⟨840 * f.1, by omega, by omega⟩
  · exact ⟨630 * f.1, by omega, by omega⟩
  · exact ⟨504 * f.1, by omega, by omega⟩
  · exact ⟨420 * f.1, by omega, by omega⟩
  · exact ⟨360 * f.1, by omega, by omega⟩
  · exact ⟨315 * f.1, by omega, by omega⟩
  · exact ⟨280 * f.1, by omega, by omega⟩
theorem IB.sgn {m : Nat} {f : FR} (h : IB m f) {s : Int} (hs : s = 1 ∨ s = -1) : IB m (sgn s f) := by
  rcases hs with rfl | rfl
  · unfold T8.sgn
    rw [Int.one_mul]
    exact h
  · have : T8.sgn (-1) f = negF f := by
      unfold T8.sgn negF
      rw [Int.neg_mul, Int.one_mul]
    rw [this]
    exact h.neg
theorem IB.size {m : Nat} {f : FR} (h : IB m f) : f.1.natAbs ≤ m ∧ 0 < f.2 ∧ f.2 ≤ 2520 := by
  obtain ⟨⟨d0, g⟩, z, e, c⟩ := h
  have dv : f.2.natAbs ∣ 2520 * f.1.natAbs := by
    have : f.2 ∣ 2520 * f.1 := ⟨z, by rw [← e, Int.mul_comm]⟩
    have := Int.natAbs_dvd_natAbs.mpr this
    rw [Int.natAbs_mul] at this
    exact this
  have cp : Nat.Coprime f.2.natAbs f.1.natAbs := by
    show Nat.gcd _ _ = 1
    rw [Nat.gcd_comm]
    exact g
  have d2 := Nat.le_of_dvd (by decide) (cp.dvd_of_dvd_mul_right dv)
  refine ⟨?_, d0, by omega⟩
  have e2 : z.natAbs * f.2.natAbs = 2520 * f.1.natAbs := by
    rw [← Int.natAbs_mul, e, Int.natAbs_mul]
    rfl
  have : z.natAbs * f.2.natAbs ≤ m * 2520 := Nat.mul_le_mul c d2
  omega
theorem tl_ok {l r : List It} (h : Two l r) {ns : List (List Nat)} (hns : Nms (broN (keysL l) (keysL r)) (diff (valL l) (valL r)) ns) (hl : ns.length = 1 ∨ ns.length = 2) :
    TlOk (tlOf (diff (valL l) (valL r)) ns) ∧ BdF (negF (diff (valL l) (valL r) [])) := by
  have nl := fun x => sumX_nf x l _ nf_01 fun it hit => (h.nl it hit).1
  have nr := fun x => sumX_nf x r _ nf_01 fun it hit => (h.nr it hit).1
  have bl := fun x => sumX_bn x l (0, 1) 1 nf_01 bn_01 fun it hit => (h.nl it hit).1
  have br := fun x => sumX_bn x r (0, 1) 1 nf_01 bn_01 fun it hit => (h.nr it hit).1
  have hw := h.w
  have sm : ∀ x, Bn 800 (diff (valL l) (valL r) x) := fun x => (Bn.sub (bl x) (br x) (nl x).1 (nr x).1).mono (by omega)
  have nf : ∀ x, Nf (diff (valL l) (valL r) x) := fun x => subL_nf (nl x).1 (nr x).1
  refine ⟨⟨?_, fun tt htt => ?_⟩, ⟨(sm []).neg, (nf []).1⟩⟩
  · show (ns.map _).length = 1 ∨ (ns.map _).length = 2
    rw [List.length_map]
    exact hl
  · obtain ⟨x, hx, rfl⟩ := List.mem_map.mp htt
    obtain ⟨h1, h2⟩ := List.mem_filter.mp (hns.perm.mem_iff.mp hx)
    unfold nz at h2
    rw [Bool.and_eq_true, decide_eq_true_eq, decide_eq_true_eq] at h2
    exact ⟨h2.2, ⟨sm x, (nf x).1⟩, h.names x h1⟩
/-! ### reduced ties that are small -/
def BdS (f : FR) : Prop := f.1.natAbs ≤ 110769120 ∧ 0 < f.2 ∧ f.2 ≤ 2520
theorem IB.bds {f : FR} (h : IB 110769120 f) : BdS f := h.size
theorem lcm_small {tl : List It} (hl : tl.length = 1 ∨ tl.length = 2) (h : ∀ t ∈ tl, BdS t.2) : lcmF 1 (rts tl) ≤ 6350400 := by
  have one : ∀ f : FR, (1 * f.2).fdiv (Int.gcd 1 f.2 : Nat) = f.2 := fun f => by
    rw [Int.one_mul, Int.gcd_comm, Int.gcd_one_right]
    exact Int.fdiv_one _
  match tl, hl, h with
  | [f], _, h =>
    show (1 * f.2.2).fdiv _ ≤ _
    rw [one f.2]
    have := (h f List.mem_cons_self).2.2
    omega
  | [f, g], _, h =>
    show ((((1 * f.2.2).fdiv (Int.gcd 1 f.2.2 : Nat)) * g.2.2).fdiv (Int.gcd ((1 * f.2.2).fdiv (Int.gcd 1 f.2.2 : Nat)) g.2.2 : Nat)) ≤ _
    rw [one f.2]
    have hf := (h f List.mem_cons_self).2
    have hg := (h g (List.mem_cons_of_mem _ List.mem_cons_self)).2
    have h1 := step_le hf.1 hg.1
    have h2 : f.2.2 * g.2.2 ≤ 2520 * 2520 := Int.mul_le_mul hf.2 hg.2 (by omega) (by decide)
    omega
  | [], hl, _ => simp at hl
  | _ :: _ :: _ :: _, hl, _ => simp at hl
theorem red_int {tl : List It} (h : TlOk tl) (hs : ∀ t ∈ tl, BdS t.2) {b : FR} (hb : BdS b) :
    (∀ t ∈ tl, ∃ m : Int, redF (scl (rts tl)) t.2 = (m, 1) ∧ m ≠ 0 ∧ m.natAbs < 10 ^ 15) ∧ Nf (redF (scl (rts tl)) b) ∧ (redF (scl (rts tl)) b).1.natAbs < 10 ^ 15 ∧ (redF (scl (rts tl)) b).2.natAbs < 10 ^ 19 := by
  obtain ⟨L, G, Lp, Gp, eL, eG, m, hm, _⟩ := red_facts h.rs
  have es : scl (rts tl) = lowF L G := by
    unfold scl
    rw [eL, eG]
  have Lm : L ≤ 6350400 := by
    rw [← eL]
    exact lcm_small h.1 hs
  have key : ∀ t ∈ tl, m t.2 ≠ 0 ∧ (m t.2).natAbs * G.natAbs ≤ 6350400 * 110769120 := fun t ht => by
    have e := hm t.2 (List.mem_map.mpr ⟨t, ht, rfl⟩)
    have ok := h.2 t ht
    have bs := hs t ht
    have nz : m t.2 ≠ 0 := fun z => by
      rw [z, Int.zero_mul, Int.zero_mul] at e
      rcases Int.mul_eq_zero.mp e.symm with q | q
      · omega
      · exact ok.1 q
    refine ⟨nz, ?_⟩
    have e2 : (m t.2).natAbs * G.natAbs * t.2.2.natAbs = L.natAbs * t.2.1.natAbs := by
      rw [← Int.natAbs_mul, ← Int.natAbs_mul, e, Int.natAbs_mul]
    have h1 : (m t.2).natAbs * G.natAbs ≤ (m t.2).natAbs * G.natAbs * t.2.2.natAbs := Nat.le_mul_of_pos_right _ (by have := bs.2.1; omega)
    have h2 : L.natAbs * t.2.1.natAbs ≤ 6350400 * 110769120 := Nat.mul_le_mul (by omega) bs.1
    omega
  have Gm : G.natAbs ≤ 6350400 * 110769120 := by
    obtain ⟨t, r, rfl⟩ : ∃ t r, tl = t :: r := by
      cases tl with
      | nil => have := h.1; simp at this
      | cons t r => exact ⟨t, r, rfl⟩
    obtain ⟨n0, k⟩ := key t List.mem_cons_self
    have : G.natAbs ≤ (m t.2).natAbs * G.natAbs := Nat.le_mul_of_pos_left _ (by omega)
    omega
  rw [es]
  refine ⟨fun t ht => ?_, ?_, ?_, ?_⟩
  · obtain ⟨n0, k⟩ := key t ht
    refine ⟨m t.2, redF_of Lp Gp (h.2 t ht).2.1.2 (hm t.2 (List.mem_map.mpr ⟨t, ht, rfl⟩)), n0, ?_⟩
    have : (m t.2).natAbs ≤ (m t.2).natAbs * G.natAbs := Nat.le_mul_of_pos_right _ (by omega)
    have : (10 : Nat) ^ 15 = 1000000000000000 := by decide
    omega
  · have dp := lowD_pos (u := L) (v := G) (by omega)
    exact nf_low (Int.mul_ne_zero (by have := hb.2.1; omega) (by show lowD L G ≠ 0; omega))
  all_goals
    have dp := lowD_pos (u := L) (v := G) (by omega)
    have nz : b.2 * (lowF L G).2 ≠ 0 := Int.mul_ne_zero (by have := hb.2.1; omega) (by show lowD L G ≠ 0; omega)
  · have a := lowT_abs (u := b.1 * (lowF L G).1) nz
    have c : (b.1 * (lowF L G).1).natAbs ≤ 110769120 * 6350400 := by
      rw [Int.natAbs_mul]
      have := lowT_abs (u := L) (v := G) (by omega)
      exact Nat.mul_le_mul hb.1 (by show (lowT L G).natAbs ≤ _; omega)
    have : (10 : Nat) ^ 15 = 1000000000000000 := by decide
    show (lowT (b.1 * (lowF L G).1) (b.2 * (lowF L G).2)).natAbs < _
    omega
  · have a := lowD_abs (u := b.1 * (lowF L G).1) nz
    have c : (b.2 * (lowF L G).2).natAbs ≤ 2520 * (6350400 * 110769120) := by
      rw [Int.natAbs_mul]
      have := lowD_abs (u := L) (v := G) (by omega)
      exact Nat.mul_le_mul (by have := hb.2; omega) (by show (lowD L G).natAbs ≤ _; omega)
    have : (10 : Nat) ^ 19 = 10000000000000000000 := by decide
    show (lowD (b.1 * (lowF L G).1) (b.2 * (lowF L G).2)).natAbs < _
    omega
theorem red_again {tl : List It} (h : TlOk tl) {b : FR} (hb : 0 < b.2) : redL (redL tl) = redL tl ∧ redF (scl (rts (redL tl))) (redF (scl (rts tl)) b) = redF (scl (rts tl)) b := by
  obtain ⟨_, s2, s1⟩ := scl_sm h
  obtain ⟨_, r2, r3⟩ := red_scaled h.rs s1 s2
  have e : rts (redL tl) = (rts tl).map fun f => lowF (f.1 * (scl (rts tl)).1) (f.2 * (scl (rts tl)).2) := by
    unfold rts redL
    rw [List.map_map, List.map_map]
    rfl
  have e2 : redF (scl (rts tl)) = fun f => lowF (f.1 * (scl (rts tl)).1) (f.2 * (scl (rts tl)).2) := rfl
  constructor
  · show (redL tl).map (fun t => (t.1, redF (scl (rts (redL tl))) t.2)) = redL tl
    rw [e]
    unfold redL
    rw [List.map_map]
    refine List.map_congr_left fun t ht => ?_
    exact congrArg (Prod.mk t.1) (r2 t.2 (List.mem_map.mpr ⟨t, ht, rfl⟩))
  · rw [e]
    exact r3 b hb
/-- a tie that can be written and read again -/
structure RT (u : Cf) (r : List Cf) (B : FR) : Prop where
  len : r.length ≤ 1
  nm : ∀ v ∈ u :: r, NameL v.1
  nq : ∀ v ∈ u :: r, v.2 ≠ 0
  sz : ∀ v ∈ u :: r, v.2.natAbs < 10 ^ 15
  nf : Nf B
  b1 : B.1.natAbs < 10 ^ 15
  b2 : B.2.natAbs < 10 ^ 19
  srt : (((u :: r).map (·.1)).map SX.S).Pairwise leStr
  nd : ((u :: r).map (·.1)).Nodup
  e1 : redL (rateL (u :: r)) = rateL (u :: r)
  e2 : redF (scl (rts (rateL (u :: r)))) B = B
theorem one_RT {l r : List It} (h : Two l r) (hn : ∀ x ∈ broN (keysL l) (keysL r), x = [] ∨ NameL x) (hi : ∀ it ∈ l ++ r, IB 2517480 it.2) {ns : List (List Nat)} (hns : Nms (broN (keysL l) (keysL r)) (diff (valL l) (valL r)) ns) (hl : ns.length = 1 ∨ ns.length = 2) :
    ∃ u rr B, RT u rr B ∧ oneP l r ns = tieP (rateL (u :: rr)) B := by
  have ll := h.ll
  have lr := h.lr
  have ib : ∀ x, IB 110769120 (diff (valL l) (valL r) x) := fun x => by
    have a := ib_sum x 2517480 l (0, 1) 0 ib_zero fun it hit => hi it (List.mem_append_left _ hit)
    have b := ib_sum x 2517480 r (0, 1) 0 ib_zero fun it hit => hi it (List.mem_append_right _ hit)
    have : diff (valL l) (valL r) x = addL (valL l x) (negF (valL r x)) := sub_addN _ _
    rw [this]
    exact (a.add b.neg).mono (by omega)
  obtain ⟨tlok, bok⟩ := tl_ok h hns hl
  generalize htl : tlOf (diff (valL l) (valL r)) ns = tl at tlok
  generalize hb : negF (diff (valL l) (valL r) []) = b at bok
  have hs : ∀ t ∈ tl, BdS t.2 := fun t ht => by
    rw [← htl] at ht
    obtain ⟨x, _, rfl⟩ := List.mem_map.mp ht
    exact (ib x).bds
  have hbs : BdS b := by
    rw [← hb]
    exact (ib []).neg.bds
  obtain ⟨r1, r2, r3, r4⟩ := red_int tlok hs hbs
  obtain ⟨a1, a2⟩ := red_again tlok bok.2
  have shape : ∃ cs : List Cf, redL tl = rateL cs ∧ cs.map (·.1) = ns ∧ ∀ v ∈ cs, v.2 ≠ 0 ∧ v.2.natAbs < 10 ^ 15 := by
    refine ⟨tl.map fun t => (t.1, (redF (scl (rts tl)) t.2).1), ?_, ?_, fun v hv => ?_⟩
    · unfold redL rateL
      rw [List.map_map]
      refine List.map_congr_left fun t ht => ?_
      obtain ⟨m, e, _⟩ := r1 t ht
      show (t.1, redF (scl (rts tl)) t.2) = (t.1, ((redF (scl (rts tl)) t.2).1, 1))
      rw [e]
    · rw [List.map_map, ← htl]
      unfold tlOf
      rw [List.map_map]
      exact List.map_id ns
    · obtain ⟨t, ht, rfl⟩ := List.mem_map.mp hv
      obtain ⟨m, e, n0, sm⟩ := r1 t ht
      show (redF (scl (rts tl)) t.2).1 ≠ 0 ∧ (redF (scl (rts tl)) t.2).1.natAbs < _
      rw [e]
      exact ⟨n0, sm⟩
  obtain ⟨cs, ec, en, hc⟩ := shape
  obtain ⟨u, rr, rfl⟩ : ∃ u rr, cs = u :: rr := by
    cases cs with
    | nil => rw [List.map_nil] at en; rw [← en] at hl; simp at hl
    | cons u rr => exact ⟨u, rr, rfl⟩
  have nsl := congrArg List.length en
  rw [List.length_map, List.length_cons] at nsl
  have nmem : ∀ x ∈ ns, x ∈ broN (keysL l) (keysL r) ∧ x ≠ [] := fun x hx => by
    obtain ⟨h1, h2⟩ := List.mem_filter.mp (hns.perm.mem_iff.mp hx)
    unfold nz at h2
    rw [Bool.and_eq_true, decide_eq_true_eq, decide_eq_true_eq] at h2
    exact ⟨h1, h2.1⟩
  have hv : ∀ v ∈ u :: rr, v.1 ∈ ns := fun v hv => by
    rw [← en]
    exact List.mem_map.mpr ⟨v, hv, rfl⟩
  rw [ec] at a1 a2
  refine ⟨u, rr, redF (scl (rts tl)) b, ⟨by omega, fun v h' => ((hn _ (nmem _ (hv v h')).1).resolve_left (nmem _ (hv v h')).2), fun v h' => (hc v h').1, fun v h' => (hc v h').2, r2, r3, r4, by rw [en]; exact hns.srt, ?_, a1, a2⟩, ?_⟩
  · rw [en]
    exact hns.perm.nodup_iff.mpr ((broN_nodup _ _ (keysL_nodup l)).filter _)
  · unfold oneP
    rw [htl, hb]
    show tieP (redL tl) _ = _
    rw [ec]
theorem neg_neg8 (f : FR) : negF (negF f) = f := by
  unfold negF
  rw [Int.neg_neg]
theorem neg_S (m : Nat) : Str.ofString (toString (Int.negSucc m)) = SX.S (45 :: TL.numL (m + 1)) := by
  refine TL.ext_tl ?_
  have h : toString (Int.negSucc m) = "-" ++ toString ((m + 1 : Nat) : Int) := rfl
  rw [h, TL.tl_ofString, String.toList_append, List.map_append, ← TL.tl_ofString, ← TL.tl_ofString, TL.tl_num]
  rfl
theorem str_int (n : Int) : Str.ofString (toString n) = SX.S (intL n) := by
  unfold intL
  match n with
  | .ofNat k =>
    have h : ¬ Int.ofNat k < 0 := by
      show ¬ (k : Int) < 0
      omega
    rw [if_neg h]
    exact SX.num_S k
  | .negSucc k =>
    rw [if_pos (Int.negSucc_lt_zero k)]
    exact neg_S k
section
variable {P : Program} {w : World} {K : PySem.W.Frag} {mg : Str → Option Value} {base : Heap} {fa : Nat → Addr} {fd : Nat → FuncData}
theorem ok_part_text (T : Txt K mg fa fd) : FnOk P w K mg base CX0 2 (fa 158) (fd 158) ["_law_one"] spRatT := by
  refine T.F_part_text.ok sc_part_text (fun vs H Q E h => ?_) (fun cdv A outer s H vs Q E hr h => ?_)
  · obtain ⟨p, n, d, rfl, _⟩ := h
    rfl
  · obtain ⟨p, n, d, rfl, hp, hd, hn, hd2, q⟩ := h
    refine ⟨_, (pss_one (ps_ret (pe_ifExp (pt_cmpR op_eq (pe_ix ix_tup (pv 0) pe_int (fun _ _ => rfl)) pe_int (nomark _)) (pe_callTy call_str_int (by rfl) T.m_str (by decide +kernel) (pa_cons (pe_ix ix_tup (pv 0) pe_int (fun _ _ => rfl)) pa_nil)) (pe_op op_add_str (pe_op op_add_str (pe_callTy call_str_int (by rfl) T.m_str (by decide +kernel) (pa_cons (pe_ix ix_tup (pv 0) pe_int (fun _ _ => rfl)) pa_nil)) pe_str) (pe_callTy call_str_int (by rfl) T.m_str (by decide +kernel) (pa_cons (pe_ix ix_tup (pv 0) pe_int (fun _ _ => rfl)) pa_nil)))))), ?_⟩
    refine ⟨_, rfl, p, _, 1, _, rfl, rfl, SqT.of hp, rfl, rfl, _, rfl, ite2 (fun e => ?_) (fun e => ?_)⟩
    · have e1 : d = 1 := V.int.inj (of_decide_eq_true e)
      refine ⟨_, rfl, p, _, 0, _, rfl, rfl, SqT.of hp, rfl, n, rfl, log_of hn, ?_⟩
      have := q H fun b u e => e
      rw [txt_int n d hd, if_pos e1] at this
      rw [str_int]
      exact this
    · have e1 : d ≠ 1 := fun z => e (decide_eq_true (by rw [z]))
      refine ⟨_, rfl, p, _, 0, _, rfl, rfl, SqT.of hp, rfl, n, rfl, log_of hn, _, _, rfl, rfl, ?_, _, rfl, p, _, 1, _, rfl, rfl, SqT.of hp, rfl, d, rfl, log_of hd2, _, _, rfl, rfl, ?_, ?_⟩
      · rw [str_int, stroke, SX.S_len, SX.S_len]
        exact small_line (by have := intL_len hn; show _ + 1 ≤ 1000; omega)
      · rw [str_int, str_int, stroke, SX.S_cat, SX.S_len, SX.S_len, List.length_append]
        exact small_line (by have := intL_len hn; have := intL_len hd2; show _ + 1 + _ ≤ 1000; omega)
      · have := q H fun b u e => e
        rw [txt_int n d hd, if_neg e1] at this
        rw [str_int, str_int, stroke, SX.S_cat, SX.S_cat, List.append_assoc]
        exact this
def TxB (n c : Nat) (t : List Nat) : Prop := t.length ≤ n ∧ t.countP pm ≤ c ∧ uni t
theorem TxB.app {n c m d : Nat} {s t : List Nat} (h : TxB n c s) (k : TxB m d t) : TxB (n + m) (c + d) (s ++ t) := by
  refine ⟨?_, ?_, fun x hx => ?_⟩
  · rw [List.length_append]
    have := h.1
    have := k.1
    omega
  · rw [List.countP_append]
    have := h.2.1
    have := k.2.1
    omega
  · rcases List.mem_append.mp hx with hx | hx
    · exact h.2.2 x hx
    · exact k.2.2 x hx
theorem TxB.mono {n c m d : Nat} {t : List Nat} (h : TxB n c t) (k : n ≤ m) (l : c ≤ d) : TxB m d t := ⟨Nat.le_trans h.1 k, Nat.le_trans h.2.1 l, h.2.2⟩
theorem TxB.len {n c : Nat} {t : List Nat} (h : TxB n c t) : (SX.S t).length ≤ n := by
  rw [SX.S_len]
  exact h.1
theorem TxB.nil : TxB 0 0 [] := ⟨Nat.le_refl _, Nat.le_refl _, fun x h => by cases h⟩
theorem TxB.low {x : List Nat} (h : x.all lowc = true) : TxB x.length 0 x := by
  have hx : ∀ c ∈ x, 97 ≤ c ∧ c ≤ 122 := fun c hc => by
    have := List.all_eq_true.mp h c hc
    unfold lowc at this
    rw [Bool.and_eq_true, decide_eq_true_eq, decide_eq_true_eq] at this
    exact this
  refine ⟨Nat.le_refl _, ?_, fun c hc => by have := hx c hc; omega⟩
  rw [Nat.le_zero, List.countP_eq_zero]
  intro c hc
  have := hx c hc
  unfold pm
  rw [decide_eq_true_eq]
  omega
theorem TxB.dig {x : List Nat} (h : x.all dig = true) : TxB x.length 0 x := by
  have hx : ∀ c ∈ x, 48 ≤ c ∧ c ≤ 57 := fun c hc => by
    have := List.all_eq_true.mp h c hc
    unfold T8.dig at this
    rw [Bool.and_eq_true, decide_eq_true_eq, decide_eq_true_eq] at this
    exact this
  refine ⟨Nat.le_refl _, ?_, fun c hc => by have := hx c hc; omega⟩
  rw [Nat.le_zero, List.countP_eq_zero]
  intro c hc
  have := hx c hc
  unfold pm
  rw [decide_eq_true_eq]
  omega
theorem num_tx {n : Nat} (h : n < 10) : TxB 1 0 (TL.numL n) := by
  have e : TL.numL n = [48 + n] := TL.numL_lt h
  rw [e]
  exact TxB.dig (x := [48 + n]) (by simp [dig]; omega)
theorem small_tx {u v : Int} (hu : 0 ≤ u ∧ u < 9) (hv : 0 < v ∧ v < 6) : TxB 3 0 (txtL (lowT u v) (lowD u v)) ∧ (lowT u v).natAbs < 10 ∧ (lowD u v).natAbs < 10 := by
  have d := lowD_pos (u := u) (v := v) (by omega)
  have e := lowT_self (u := u) (v := v) (by omega)
  have a1 := lowT_abs (u := u) (v := v) (by omega)
  have a2 := lowD_abs (u := u) (v := v) (by omega)
  have n1 : 0 ≤ lowT u v := by
    by_cases z : 0 ≤ lowT u v
    · exact z
    · have := Int.mul_neg_of_neg_of_pos (show lowT u v < 0 by omega) hv.1
      have := Int.mul_nonneg hu.1 (show 0 ≤ lowD u v by omega)
      omega
  refine ⟨?_, by omega, by omega⟩
  unfold txtL
  rw [if_neg (by omega), List.nil_append]
  by_cases o : lowD u v = 1
  · rw [if_pos o, List.append_nil]
    exact (num_tx (by omega)).mono (by decide) (by decide)
  · rw [if_neg o]
    exact (num_tx (by omega)).app ((show TxB 1 0 [47] from ⟨Nat.le_refl _, by decide, fun x h => by rw [List.mem_singleton.mp h]; decide⟩).app (num_tx (by omega)))
end
/-! ### what is read from it -/
theorem num_len15 {n : Nat} (h : n < 10 ^ 15) : (TL.numL n).length ≤ 15 := TL.numL_len (n := n) (k := 15) (by decide) h
theorem num_len19 {n : Nat} (h : n < 10 ^ 19) : (TL.numL n).length ≤ 19 := TL.numL_len (n := n) (k := 19) (by decide) h
theorem NameL.tx {x : List Nat} (h : NameL x) : TxB 7 0 x := by
  obtain ⟨y, hy, hxy⟩ := h
  have := hy.2.1
  rcases hxy with rfl | rfl
  · exact (TxB.low hy.2.2).mono (by omega) (Nat.le_refl _)
  · exact ((TxB.low hy.2.2).app (show TxB 1 0 [39] from ⟨Nat.le_refl _, by decide, fun x h => by rw [List.mem_singleton.mp h]; decide⟩)).mono (by omega) (by decide)
theorem num_txB (n : Nat) : TxB (TL.numL n).length 0 (TL.numL n) := TxB.dig (all_dig.mpr (TL.numL_digits n))
theorem txt_tx {n d : Int} (hn : 0 ≤ n) (h1 : n.natAbs < 10 ^ 15) (h2 : d.natAbs < 10 ^ 19) : TxB 35 0 (txtL n d) := by
  have a := num_len15 h1
  have b := num_len19 h2
  unfold txtL
  rw [if_neg (by omega), List.nil_append]
  split
  · rw [List.append_nil]
    exact (num_txB _).mono (by omega) (Nat.le_refl _)
  · exact ((num_txB n.natAbs).app ((show TxB 1 0 [47] from ⟨Nat.le_refl _, by decide, fun x h => by rw [List.mem_singleton.mp h]; decide⟩).app (num_txB d.natAbs))).mono (by omega) (by decide)
theorem one_tx {c : Nat} (h : c < 128) : TxB 1 (if pm c = true then 1 else 0) [c] := by
  refine ⟨Nat.le_refl _, ?_, fun x hx => by rw [List.mem_singleton.mp hx]; omega⟩
  rw [List.countP_cons]
  cases pm c <;> exact Nat.le_refl _
theorem word_txP {u : Cf} (hx : NameL u.1) (h : u.2.natAbs < 10 ^ 15) : TxB 24 0 (textP (wordP u.2 u.1)) := by
  rw [text_word]
  have s := one_tx (c := 32) (by decide)
  split
  · exact (hx.tx.app s).mono (by decide) (by decide)
  · have e : txtL (u.2.natAbs : Int) 1 = TL.numL u.2.natAbs := by
      unfold txtL
      rw [if_neg (by omega), List.nil_append, if_pos rfl, List.append_nil, natAbs_int]
    rw [e]
    have a := num_len15 h
    exact (((num_txB _).app ((one_tx (c := 42) (by decide)).app hx.tx)).app s).mono (by show _ + (1 + 7) + 1 ≤ 24; omega) (by decide)
theorem tie_tx {u : Cf} {r : List Cf} {B : FR} (h : RT u r B) : TxB 140 20 (textP (tieQ u r B)) := by
  have f1 : TxB 25 1 (textP (firstP u.2 u.1)) := by
    unfold firstP
    rw [textP_app]
    have w := word_txP (h.nm u List.mem_cons_self) (h.sz u List.mem_cons_self)
    split
    · exact ((one_tx (c := 45) (by decide)).app w).mono (by decide) (by decide)
    · exact w.mono (by decide) (by decide)
  have f2 : TxB 26 1 (textP (r.flatMap fun v => nextP v.2 v.1)) := by
    match r, h with
    | [], _ => exact TxB.nil.mono (by decide) (by decide)
    | [v], h =>
      have w := word_txP (h.nm v (List.mem_cons_of_mem _ List.mem_cons_self)) (h.sz v (List.mem_cons_of_mem _ List.mem_cons_self))
      rw [List.flatMap_cons, List.flatMap_nil, List.append_nil]
      unfold nextP
      split
      · exact ((one_tx (c := 45) (by decide)).app ((one_tx (c := 32) (by decide)).app w)).mono (by decide) (by decide)
      · exact ((one_tx (c := 43) (by decide)).app ((one_tx (c := 32) (by decide)).app w)).mono (by decide) (by decide)
    | _ :: _ :: _, h => have := h.len; simp at this
  have f3 : TxB 39 1 (textP (endP B)) := by
    have t := txt_tx (n := (B.1.natAbs : Int)) (d := B.2) (by omega) (by rw [natAbs_int]; exact h.b1) h.b2
    rw [text_end, txt_abs B.1 B.2]
    have z := ((one_tx (c := 60) (by decide)).app ((one_tx (c := 61) (by decide)).app (one_tx (c := 32) (by decide)))).mono (n := 3) (m := 3) (d := 0) (Nat.le_refl _) (by decide)
    split
    · exact (z.app ((one_tx (c := 45) (by decide)).app t)).mono (by decide) (by decide)
    · exact (z.app t).mono (by decide) (by decide)
  unfold tieQ
  rw [textP_app, textP_app]
  exact (f1.app (f2.app f3)).mono (by decide) (by decide)
theorem RT.cf {u : Cf} {r : List Cf} {B : FR} (h : RT u r B) : ∀ v ∈ u :: r, CfOk v := fun v hv => ⟨h.nm v hv, h.nq v hv, Nat.le_trans (num_len15 (h.sz v hv)) (by decide)⟩
theorem RT.parse {u : Cf} {r : List Cf} {B : FR} (h : RT u r B) : parseP (symsOf (textP (tieQ u r B))) = .ok (rateL (u :: r), [60, 61], [([], B)]) := by
  obtain ⟨g, n⟩ := good_tie (h.cf u List.mem_cons_self) (fun v hv => h.cf v (List.mem_cons_of_mem _ hv)) h.nf (Nat.le_trans (num_len15 h.b1) (by decide)) (Nat.le_trans (num_len19 h.b2) (by decide))
  rw [syms_text g n]
  match r, h with
  | [], h => exact parse_one _ u (h.nq u List.mem_cons_self) B
  | [v], h => exact parse_two _ u v (h.nq u List.mem_cons_self) (h.nq v (List.mem_cons_of_mem _ List.mem_cons_self)) B
  | _ :: _ :: _, h => have := h.len; simp at this
theorem zero_add {f : FR} (h : Nf f) : addL (0, 1) f = f := by
  unfold addL
  dsimp only
  rw [Int.zero_mul, Int.zero_add, Int.mul_one, Int.one_mul]
  exact low_nf h
theorem NameL.ne {x : List Nat} (h : NameL x) : x ≠ [] := by
  obtain ⟨y, hy, hxy⟩ := h
  rcases hxy with rfl | rfl
  · exact hy.1
  · simp
/-- the names, and what stands with them -/
theorem RT.read {u : Cf} {r : List Cf} {B : FR} (h : RT u r B) : ∃ ns, (namesLR (rateL (u :: r)) [([], B)]).length = ns.length ∧ (ns.length = 1 ∨ ns.length = 2) ∧ Nms (broN (keysL (rateL (u :: r))) (keysL [([], B)])) (diff (valL (rateL (u :: r))) (valL [([], B)])) ns ∧ resD (rateL (u :: r)) [60, 61] [([], B)] ns = [tieP (rateL (u :: r)) B] := by
  have kr : keysL [([], B)] = [[]] := rfl
  have vr0 : valL [([], B)] [] = B := by
    show addL (0, 1) B = B
    exact zero_add h.nf
  have vrn : ∀ x, x ≠ [] → valL [([], B)] x = (0, 1) := fun x hx => by
    show (if ([] : List Nat) = x then addL (0, 1) B else (0, 1)) = (0, 1)
    rw [if_neg fun z => hx z.symm]
  have ne : ∀ v ∈ u :: r, v.1 ≠ [] := fun v hv => (h.nm v hv).ne
  have vl : (∀ v ∈ u :: r, valL (rateL (u :: r)) v.1 = (v.2, 1)) ∧ valL (rateL (u :: r)) [] = (0, 1) ∧ keysL (rateL (u :: r)) = [] :: (u :: r).map (·.1) := by
    match r, h, ne with
    | [], h, ne =>
      have nu := ne u List.mem_cons_self
      refine ⟨fun v hv => ?_, ?_, ?_⟩
      · rw [List.mem_singleton.mp hv]
        show (if u.1 = u.1 then addL (0, 1) (u.2, 1) else (0, 1)) = _
        rw [if_pos rfl]
        exact zero_add (nf_one _)
      · show (if u.1 = [] then addL (0, 1) (u.2, 1) else (0, 1)) = _
        rw [if_neg nu]
      · show addN [[]] u.1 = _
        unfold addN
        rw [if_neg (by rw [List.mem_singleton]; exact nu)]
        rfl
    | [w], h, ne =>
      have nu := ne u List.mem_cons_self
      have nw := ne w (List.mem_cons_of_mem _ List.mem_cons_self)
      have nuw : u.1 ≠ w.1 := by
        have := h.nd
        rw [List.map_cons, List.nodup_cons] at this
        exact fun z => this.1 (by rw [z]; exact List.mem_cons_self)
      refine ⟨fun v hv => ?_, ?_, ?_⟩
      · rcases List.mem_cons.mp hv with rfl | hv
        · show (if w.1 = v.1 then addL (if v.1 = v.1 then addL (0, 1) (v.2, 1) else (0, 1)) (w.2, 1) else (if v.1 = v.1 then addL (0, 1) (v.2, 1) else (0, 1))) = _
          rw [if_neg nuw.symm, if_pos rfl]
          exact zero_add (nf_one _)
        · rw [List.mem_singleton.mp hv]
          show (if w.1 = w.1 then addL (if u.1 = w.1 then addL (0, 1) (u.2, 1) else (0, 1)) (w.2, 1) else _) = _
          rw [if_pos rfl, if_neg nuw]
          exact zero_add (nf_one _)
      · show (if w.1 = [] then _ else (if u.1 = [] then addL (0, 1) (u.2, 1) else (0, 1))) = _
        rw [if_neg nw, if_neg nu]
      · show addN (addN [[]] u.1) w.1 = _
        have e1 : addN [[]] u.1 = [[], u.1] := by
          unfold addN
          rw [if_neg (by rw [List.mem_singleton]; exact nu)]
          rfl
        rw [e1]
        unfold addN
        rw [if_neg (by simp only [List.mem_cons, List.not_mem_nil, or_false]; rintro (z | z); exact nw z; exact nuw z.symm)]
        rfl
    | _ :: _ :: _, h, _ => have := h.len; simp at this
  obtain ⟨v1, v0, kl⟩ := vl
  have dv : ∀ v ∈ u :: r, diff (valL (rateL (u :: r))) (valL [([], B)]) v.1 = (v.2, 1) := fun v hv => by
    show subL (valL (rateL (u :: r)) v.1) (valL [([], B)] v.1) = _
    rw [v1 v hv, vrn _ (ne v hv)]
    exact sub_zero (nf_one _)
  have d0 : diff (valL (rateL (u :: r))) (valL [([], B)]) [] = negF B := by
    show subL (valL (rateL (u :: r)) []) (valL [([], B)] []) = _
    rw [v0, vr0]
    exact zero_sub h.nf
  have kb : broN (keysL (rateL (u :: r))) (keysL [([], B)]) = [] :: (u :: r).map (·.1) := by
    rw [kl, kr]
    unfold broN
    rw [List.foldl_cons, List.foldl_nil]
    unfold addN
    rw [if_pos List.mem_cons_self]
  have fl : (broN (keysL (rateL (u :: r))) (keysL [([], B)])).filter (nz (diff (valL (rateL (u :: r))) (valL [([], B)]))) = (u :: r).map (·.1) := by
    rw [kb, List.filter_cons, if_neg (by unfold nz; simp)]
    refine List.filter_eq_self.mpr fun x hx => ?_
    obtain ⟨v, hv, rfl⟩ := List.mem_map.mp hx
    unfold nz
    rw [dv v hv, decide_eq_true (ne v hv), decide_eq_true (h.nq v hv)]
    rfl
  have ln : ((u :: r).map (·.1)).length = 1 ∨ ((u :: r).map (·.1)).length = 2 := by
    rw [List.length_map, List.length_cons]
    have := h.len
    omega
  refine ⟨(u :: r).map (·.1), ?_, ln, ⟨?_, h.srt⟩, ?_⟩
  · show ((broN (keysL (rateL (u :: r))) (keysL [([], B)])).filter _).length = _
    rw [fl]
  · rw [fl]
  · unfold resD
    rw [if_pos rfl]
    have et : tlOf (diff (valL (rateL (u :: r))) (valL [([], B)])) ((u :: r).map (·.1)) = rateL (u :: r) := by
      unfold tlOf rateL
      rw [List.map_map]
      refine List.map_congr_left fun v hv => ?_
      exact congrArg (Prod.mk v.1) (dv v hv)
    unfold oneP
    rw [et, d0, neg_neg8]
    show [tieP (redL (rateL (u :: r))) (redF (scl (rts (rateL (u :: r)))) B)] = _
    rw [h.e1, h.e2]
section
variable {P : Program} {w : World} {K : PySem.W.Frag} {mg : Str → Option Value} {base : Heap} {fa : Nat → Addr} {fd : Nat → FuncData}
theorem small_log2 {v : Int} (h : v.natAbs ≤ 8000) : v.natAbs.log2 < 4096 := log2_mono (b := 8000) h (by decide +kernel)
theorem mid_of {m : Int} (h : 0 < m) (h2 : m ≤ 8000) : Mid m := ⟨h, Nat.lt_trans (small_log2 (by omega)) (by decide)⟩
theorem low_ratD {u v : Int} (hv : v ≠ 0) : ratD (.tuple [.int (lowT u v), .int (lowD u v)]) = true := by
  have h1 := lowD_pos (u := u) hv
  have h2 := low_gcd (u := u) hv
  show (decide (1 ≤ lowD u v) && decide (Int.gcd (lowT u v) (lowD u v) = 1)) = true
  rw [decide_eq_true (show 1 ≤ lowD u v by omega), decide_eq_true h2]
  rfl
theorem new_ne {H : Hp} {a c p : Addr} (h : FeedOk H a c) (n : H p = none) : p ≠ a := by
  obtain ⟨_, _, _, _, ha, _⟩ := h
  exact (ne_of_none ha n).symm
/-- a fraction -/
abbrev frD (t u : Int) : PyData := .tuple [.int t, .int u]
def RatAt (z : Addr) (H : Hp) (v : V) (t u : Int) : Prop := Dt z H v (frD t u) ∧ ratD (frD t u) = true
def spRate : Sp := fun vs H Q _ => ∃ (a c : Addr), vs = [.ref a] ∧ FeedOk H a c ∧ ∀ v t u H', FeedOk H' a c → But a H H' → RatAt a H' v t u → t ≠ 0 → t.natAbs ≤ 5 → u.natAbs ≤ 3 → Q v H'
theorem small_line' {n : Nat} (h : n ≤ 1000) : n ≤ sizeLine := small_line h
theorem ok_rate (T : Txt K mg fa fd) : FnOk P w K mg base CX0 3 (fa 149) (fd 149) ["_law_feed_here"] spRate := by
  refine T.F_rate.ok sc_rate (fun vs H Q E h => ?_) (fun cdv A outer s H vs Q E hr h => ?_)
  · obtain ⟨a, c, rfl, _⟩ := h
    rfl
  · obtain ⟨a, c, rfl, hF, q⟩ := h
    refine ⟨_, (pss_one (ps_ret (pe_call (ok_any T) (hr.mono (by decide)) (by rfl) T.g_any T.F_any.kp T.b_any .nil pass0 (pa_cons (pv 0) (pa_cons (pe_lst (pa_cons (pe_tup (pa_cons pe_int (pa_cons pe_int pa_nil))) (pa_cons (pe_tup (pa_cons (pe_un un_neg pe_int) (pa_cons pe_int pa_nil))) (pa_cons (pe_tup (pa_cons pe_int (pa_cons pe_int pa_nil))) (pa_cons (pe_tup (pa_cons pe_int (pa_cons pe_int pa_nil))) (pa_cons (pe_tup (pa_cons (pe_un un_neg pe_int) (pa_cons pe_int pa_nil))) (pa_cons (pe_tup (pa_cons pe_int (pa_cons pe_int pa_nil))) (pa_cons (pe_tup (pa_cons pe_int (pa_cons pe_int pa_nil))) (pa_cons (pe_tup (pa_cons (pe_un un_neg pe_int) (pa_cons pe_int pa_nil))) (pa_cons (pe_tup (pa_cons (pe_un un_neg pe_int) (pa_cons pe_int pa_nil))) (pa_cons (pe_tup (pa_cons pe_int (pa_cons pe_int pa_nil))) pa_nil))))))))))) pa_nil))))), ?_⟩
    refine ⟨_, rfl, (small_line (by decide : 2 ≤ 1000)), fun p1 n1 => ?_⟩
    obtain ⟨s1, d1⟩ := dnewT (z := a) n1 (.cons (.int 1 (by decide +kernel)) (.cons (.int 1 (by decide +kernel)) .nil))
    refine ⟨_, rfl, (small_line (by decide : 2 ≤ 1000)), fun p2 n2 => ?_⟩
    obtain ⟨s2, d2⟩ := dnewT (z := a) n2 (.cons (.int (-1) (by decide +kernel)) (.cons (.int 1 (by decide +kernel)) .nil))
    refine ⟨(small_line (by decide : 2 ≤ 1000)), fun p3 n3 => ?_⟩
    obtain ⟨s3, d3⟩ := dnewT (z := a) n3 (.cons (.int 1 (by decide +kernel)) (.cons (.int 1 (by decide +kernel)) .nil))
    refine ⟨(small_line (by decide : 2 ≤ 1000)), fun p4 n4 => ?_⟩
    obtain ⟨s4, d4⟩ := dnewT (z := a) n4 (.cons (.int 2 (by decide +kernel)) (.cons (.int 1 (by decide +kernel)) .nil))
    refine ⟨_, rfl, (small_line (by decide : 2 ≤ 1000)), fun p5 n5 => ?_⟩
    obtain ⟨s5, d5⟩ := dnewT (z := a) n5 (.cons (.int (-2) (by decide +kernel)) (.cons (.int 1 (by decide +kernel)) .nil))
    refine ⟨(small_line (by decide : 2 ≤ 1000)), fun p6 n6 => ?_⟩
    obtain ⟨s6, d6⟩ := dnewT (z := a) n6 (.cons (.int 3 (by decide +kernel)) (.cons (.int 1 (by decide +kernel)) .nil))
    refine ⟨(small_line (by decide : 2 ≤ 1000)), fun p7 n7 => ?_⟩
    obtain ⟨s7, d7⟩ := dnewT (z := a) n7 (.cons (.int 1 (by decide +kernel)) (.cons (.int 2 (by decide +kernel)) .nil))
    refine ⟨_, rfl, (small_line (by decide : 2 ≤ 1000)), fun p8 n8 => ?_⟩
    obtain ⟨s8, d8⟩ := dnewT (z := a) n8 (.cons (.int (-3) (by decide +kernel)) (.cons (.int 2 (by decide +kernel)) .nil))
    refine ⟨_, rfl, (small_line (by decide : 2 ≤ 1000)), fun p9 n9 => ?_⟩
    obtain ⟨s9, d9⟩ := dnewT (z := a) n9 (.cons (.int (-1) (by decide +kernel)) (.cons (.int 1 (by decide +kernel)) .nil))
    refine ⟨(small_line (by decide : 2 ≤ 1000)), fun p10 n10 => ?_⟩
    obtain ⟨s10, d10⟩ := dnewT (z := a) n10 (.cons (.int 5 (by decide +kernel)) (.cons (.int 3 (by decide +kernel)) .nil))
    refine ⟨(small_line (by decide : 10 ≤ 1000)), fun p11 n11 => ?_⟩
    obtain ⟨s11, all, hrw⟩ := drow (z := a) n11 (.cons (d1.same (s2.trans (s3.trans (s4.trans (s5.trans (s6.trans (s7.trans (s8.trans (s9.trans s10))))))))) (.cons (d2.same (s3.trans (s4.trans (s5.trans (s6.trans (s7.trans (s8.trans (s9.trans s10)))))))) (.cons (d3.same (s4.trans (s5.trans (s6.trans (s7.trans (s8.trans (s9.trans s10))))))) (.cons (d4.same (s5.trans (s6.trans (s7.trans (s8.trans (s9.trans s10)))))) (.cons (d5.same (s6.trans (s7.trans (s8.trans (s9.trans s10))))) (.cons (d6.same (s7.trans (s8.trans (s9.trans s10)))) (.cons (d7.same (s8.trans (s9.trans s10))) (.cons (d8.same (s9.trans s10)) (.cons (d9.same s10) (.cons d10 .nil))))))))))
    have sR := (s1.trans (s2.trans (s3.trans (s4.trans (s5.trans (s6.trans (s7.trans (s8.trans (s9.trans (s10.trans s11))))))))))
    refine ⟨a, c, p11, _, rfl, hF.same sR, hrw, new_ne (hF.same (s1.trans (s2.trans (s3.trans (s4.trans (s5.trans (s6.trans (s7.trans (s8.trans (s9.trans s10)))))))))) n11, by show 0 < 10; decide, by show 10 ≤ 1000; decide, fun v H2 hv hF2 b2 => ?_⟩
    obtain ⟨d, hd, h⟩ := all.mem hv
    have h2 := h.but (hF.same sR) b2
    have bb := (But.of (a := a) sR).trans b2
    simp only [List.mem_cons, List.not_mem_nil, or_false] at hd
    rcases hd with rfl | rfl | rfl | rfl | rfl | rfl | rfl | rfl | rfl | rfl <;> exact q _ _ _ _ hF2 bb ⟨h2, by decide +kernel⟩ (by decide) (by decide) (by decide)
end
theorem join_singles : ∀ cs : List Nat, TL.joinL [] (cs.map fun c => [c]) = cs
  | [] => rfl
  | [c] => rfl
  | c :: d :: r => by
    show [c] ++ ([] ++ TL.joinL [] ((d :: r).map fun c => [c])) = c :: d :: r
    rw [join_singles (d :: r)]
    rfl
theorem FeedOk.put {H : Hp} {a c p : Addr} {o : HO} (h : FeedOk H a c) (h1 : p ≠ a) (h2 : p ≠ c) : FeedOk (L2.upd H p o) a c := by
  obtain ⟨ns, k, big, mark, e1, e2, h3⟩ := h
  exact ⟨ns, k, big, mark, by rw [upd_ne h1.symm]; exact e1, by rw [upd_ne h2.symm]; exact e2, h3⟩
theorem but_none {a p : Addr} {H H' : Hp} (b : But a H H') (n : H' p = none) (ne : p ≠ a) : H p = none := by
  cases e : H p with
  | none => rfl
  | some o =>
    rw [b p o ne e] at n
    cases n
theorem But.updN {a p : Addr} {H H' : Hp} {o : HO} (b : But a H H') (n : H p = none) : But a H (L2.upd H' p o) := fun q x hq e => by
  rw [upd_ne (ne_of_none e n)]
  exact b q x hq e
theorem new_nc {H : Hp} {a c p : Addr} (h : FeedOk H a c) (n : H p = none) : p ≠ c := by
  obtain ⟨_, _, _, _, _, hc, _⟩ := h
  exact (ne_of_none hc n).symm
section
variable {P : Program} {w : World} {K : PySem.W.Frag} {mg : Str → Option Value} {base : Heap} {fa : Nat → Addr} {fd : Nat → FuncData}
def spWords : Sp := fun vs H Q _ => ∃ (a c : Addr) (m : Nat), vs = [.ref a, .int (m : Int)] ∧ FeedOk H a c ∧ m ≤ 6 ∧ ∀ (p : Addr) (ws : List (List Nat)) (H' : Hp), FeedOk H' a c → But a H H' → p ≠ a → H' p = some (.lst (ws.map vS)) → ws.length = m → ws.Nodup → (∀ x ∈ ws, LW x) → Q (.ref p) H'
theorem ok_words (T : Txt K mg fa fd) : FnOk P w K mg base CX0 3 (fa 150) (fd 150) ["_law_feed_here", "_law_many"] spWords := by
  refine T.F_words.ok sc_words (fun vs H Q E h => ?_) (fun cdv A outer s H vs Q E hr h => ?_)
  · obtain ⟨a, c, m, rfl, _⟩ := h
    rfl
  · obtain ⟨a, c, m, rfl, hF, hm, q⟩ := h
    refine ⟨_, (C8.pss_cut (ps_set (i := 2) sc_words.nd rfl (.inr rfl) pe_str)
      (C8.pss_cut (ps_set (i := 3) sc_words.nd rfl (.inr rfl) (pe_m1 PySem.F.slot_str_join PySem.F.type_str_join mt_join pe_str (pe_lc (own := [("_law_k", 8)]) (g := gName 8) (tt := tYes) rfl sc_words.nd (pi_range1 (by rfl) T.m_range (pa_cons (pe_call (ok_draw T) (hr.mono (by decide)) (by rfl) T.g_draw T.F_draw.kp T.b_draw .nil pass0 (pa_cons (pv 0) (pa_cons pe_int pa_nil))) pa_nil)) (blkOk_by (own := [("_law_k", 8)]) (N := ["_law_feed_here", "_law_many", "_law_letters", "_law_stem", "_law_spot", "_law_first", "_law_way", "_law_found", "_law_k"]) (sc := defScope s_words) (by decide +kernel)) (fun _ _ _ _ _ => pg_name (i := 8) sc_words.nd rfl (Or.inl rfl)) (fun _ _ _ _ _ => pts_nil) (fun _ _ _ _ _ => (pe_ix ix_str (pv 2) (pe_call (ok_draw T) (hr.mono (by decide)) (by rfl) T.g_draw T.F_draw.kp T.b_draw .nil pass0 (pa_cons (pv 0) (pa_cons pe_int pa_nil))) (fun _ _ => rfl)))) (by rfl) (by rfl) (by rfl)))
      (C8.pss_cut (ps_asg (pe_tup (pa_cons (pe_call (ok_draw T) (hr.mono (by decide)) (by rfl) T.g_draw T.F_draw.kp T.b_draw .nil pass0 (pa_cons (pv 0) (pa_cons (pe_op op_add (pe_callB call_len_str (by rfl) T.m_len PySem.boot_len (pa_cons (pv 3) pa_nil)) pe_int) pa_nil))) (pa_cons (pe_call (ok_draw T) (hr.mono (by decide)) (by rfl) T.g_draw T.F_draw.kp T.b_draw .nil pass0 (pa_cons (pv 0) (pa_cons pe_int pa_nil))) (pa_cons (pe_call (ok_draw T) (hr.mono (by decide)) (by rfl) T.g_draw T.F_draw.kp T.b_draw .nil pass0 (pa_cons (pv 0) (pa_cons pe_int pa_nil))) pa_nil)))) (pg_tup (by rfl) (pgs_cons (pg_name (i := 4) sc_words.nd rfl (.inr rfl)) (pgs_cons (pg_name (i := 5) sc_words.nd rfl (.inr rfl)) (pgs_cons (pg_name (i := 6) sc_words.nd rfl (.inl rfl)) pgs_nil)))))
      (C8.pss_cut (ps_setLc (i := 7) (own := [("_law_k", 8)]) (g := gName 8) (tt := tYes) rfl sc_words.nd rfl rfl (sw_true rfl rfl rfl (by decide +kernel)) (pi_range1 (by rfl) T.m_range (pa_cons (pv 1) pa_nil)) (blkOk_by (own := [("_law_k", 8)]) (N := ["_law_feed_here", "_law_many", "_law_letters", "_law_stem", "_law_spot", "_law_first", "_law_way", "_law_found", "_law_k"]) (sc := defScope s_words) (by decide +kernel)) (fun _ _ _ _ _ => pg_name (i := 8) sc_words.nd rfl (Or.inl rfl)) (fun _ _ _ _ _ => pts_nil) (fun _ _ _ _ _ => (pe_op op_add_str (pe_op op_add_str (pe_slice sl_str (pv 3) po_none (po_some (pv 4))) (pe_ix ix_str (pv 2) (pe_op op_mod (pe_callTy call_int1 (by rfl) T.m_int PySem.Pv.boot_int (pa_cons (pe_op op_add (pv 5) (pe_op op_mul pe_int (pv 8))) pa_nil)) pe_int) (fun _ _ => rfl))) (pe_slice sl_str (pv 3) (po_some (pv 4)) po_none))))
      (C8.pss_cut (ps_if (pt_cmpR op_eq (pv 6) pe_int (nomark _)) (C8.pss_cut (ps_setLc (i := 7) (own := [("_law_k", 8)]) (g := gName 8) (tt := tYes) rfl sc_words.nd rfl rfl (sw_true rfl rfl rfl (by decide +kernel)) (pi_range1 (by rfl) T.m_range (pa_cons (pv 1) pa_nil)) (blkOk_by (own := [("_law_k", 8)]) (N := ["_law_feed_here", "_law_many", "_law_letters", "_law_stem", "_law_spot", "_law_first", "_law_way", "_law_found", "_law_k"]) (sc := defScope s_words) (by decide +kernel)) (fun _ _ _ _ _ => pg_name (i := 8) sc_words.nd rfl (Or.inl rfl)) (fun _ _ _ _ _ => pts_nil) (fun _ _ _ _ _ => (pe_slice sl_str (pe_op op_add_str (pe_slice sl_str (pv 3) po_none (po_some pe_int)) (pe_op op_mul_str (pe_ix ix_str (pv 2) (pe_op op_mod (pe_callTy call_int1 (by rfl) T.m_int PySem.Pv.boot_int (pa_cons (pe_op op_add (pv 5) (pe_op op_mul pe_int (pv 8))) pa_nil)) pe_int) (fun _ _ => rfl)) (pe_op op_add pe_int (pe_op op_mod (pe_callTy call_int1 (by rfl) T.m_int PySem.Pv.boot_int (pa_cons (pe_op op_add (pv 8) (pv 5)) pa_nil)) pe_int)))) (po_some (pe_un un_neg pe_int)) po_none)))
      (pss_one (ps_set (i := 7) sc_words.nd rfl (.inl rfl) (pe_ifExp (pt_cmpR op_eq (pe_callB call_len_seq (by rfl) T.m_len PySem.boot_len (pa_cons (pe_callB (cr_sortedW rfl) (by rfl) T.m_sorted (by decide +kernel) (pa_cons (pe_callTy (cr_setS rfl) (by rfl) T.m_set (by decide +kernel) (pa_cons (pv 7) pa_nil)) pa_nil)) pa_nil)) (pv 1) (nomark _)) (pv 7) (pe_lc (own := [("_law_k", 8)]) (g := gName 8) (tt := tYes) rfl sc_words.nd (pi_range1 (by rfl) T.m_range (pa_cons (pv 1) pa_nil)) (blkOk_by (own := [("_law_k", 8)]) (N := ["_law_feed_here", "_law_many", "_law_letters", "_law_stem", "_law_spot", "_law_first", "_law_way", "_law_found", "_law_k"]) (sc := defScope s_words) (by decide +kernel)) (fun _ _ _ _ _ => pg_name (i := 8) sc_words.nd rfl (Or.inl rfl)) (fun _ _ _ _ _ => pts_nil) (fun _ _ _ _ _ => (pe_ix ix_str (pv 2) (pe_op op_mod (pe_callTy call_int1 (by rfl) T.m_int PySem.Pv.boot_int (pa_cons (pe_op op_add (pv 5) (pe_op op_mul pe_int (pv 8))) pa_nil)) pe_int) (fun _ _ => rfl)))))))) pss_nil)
      (pss_one (ps_ret (pv 7)))))))), ?_⟩
    refine ⟨fun σ H1 => H1 = H ∧ σ = [some (.ref a), some (.int m), some (.str ABC), none, none, none, none, none, none], ⟨rfl, rfl⟩, fun σ H1 hM => ?_⟩
    obtain ⟨rfl, rfl⟩ := hM
    -- stem
    refine ⟨fun σ H2 => FeedOk H2 a c ∧ But a H1 H2 ∧ ∃ st : List Nat, st.length ≤ 5 ∧ st.all lowc = true ∧ σ = [some (.ref a), some (.int m), some (.str ABC), some (vS st), none, none, none, none, none], ?_, fun σ H2 hM => ?_⟩
    · refine ⟨⟨_, rfl⟩, _, rfl, a, c, _, rfl, hF, mid_of (by decide) (by decide), fun r H2 r0 r1 hF2 b2 => ?_⟩
      refine ⟨r, rfl, by omega, by omega, fun D nD => ?_⟩
      obtain ⟨n, rfl⟩ := Int.eq_ofNat_of_zero_le r0
      have nDa := new_ne hF2 nD
      have nDc := new_nc hF2 nD
      have nD1 := but_none b2 nD nDa
      refine lc_range (n := n) (fun i H3 => FeedOk H3 a c ∧ But a H1 H3 ∧ ∃ st : List Nat, st.length = i ∧ st.all lowc = true ∧ H3 D = some (.lst (st.map fun c => vS [c]))) ⟨hF2.new nD, b2.updN nD1, [], rfl, rfl, upd_same⟩ (fun i H3 hi hp => ?_) (fun H3 hp => ?_)
      · obtain ⟨hF3, b3, st, hl, hs, hD⟩ := hp
        refine ⟨rfl, _, rfl, _, rfl, a, c, _, rfl, hF3, mid_of (by decide) (by decide), fun r2 H4 r3 r4 hF4 b4 => ?_⟩
        refine ⟨_, _, _, rfl, rfl, small_line (by decide), abc_at r3 r4, _, b4 _ _ nDa hD, ?_, hF4.put nDa nDc, (b3.trans b4).updN nD1, st ++ [97 + r2.toNat], ?_, ?_, ?_⟩
        · rw [List.length_map]
          exact small1000 (by omega)
        · rw [List.length_append, hl]
          rfl
        · rw [List.all_append, hs, Bool.true_and]
          simp [low_abc (show r2.toNat < 26 by omega)]
        · rw [upd_same, List.map_append]
          rfl
      · obtain ⟨hF3, b3, st, hl, hs, hD⟩ := hp
        have em : (st.map fun c => vS [c]) = (st.map fun c => SX.S [c]).map V.str := by rw [List.map_map]; rfl
        refine ⟨_, D, st.map fun c => SX.S [c], rfl, rfl, .inl (SqL.of (by rw [← em]; exact hD)), ?_, hF3, b3, st, by omega, hs, ?_⟩
        · have : ∀ l : List Nat, ((l.map fun c => SX.S [c]).map (·.length)).sum = l.length := fun l => by
            induction l with
            | nil => rfl
            | cons x l ih =>
              rw [List.map_cons, List.map_cons, List.sum_cons, ih, List.length_cons, SX.S_len]
              exact Nat.add_comm _ _
          rw [this, List.length_map]
          show st.length + st.length * 0 ≤ _
          omega
        · have e : Txt.join (Str.ofString "") (st.map fun c => SX.S [c]) = SX.S st := by
            have := SX.join_S [] (st.map fun c => [c])
            rw [join_singles, List.map_map] at this
            exact this
          rw [e]
          rfl
    · obtain ⟨hF2, b2, st, hst, hsl, rfl⟩ := hM
      -- spot, first, way
      refine ⟨fun σ H3 => FeedOk H3 a c ∧ But a H1 H3 ∧ ∃ (sp f : Nat) (wy : Int), f < 26 ∧ σ = [some (.ref a), some (.int m), some (.str ABC), some (vS st), some (.int sp), some (.int f), some (.int wy), none, none], ?_, fun σ H3 hM => ?_⟩
      · have sl : (SX.S st).length = st.length := SX.S_len st
        refine ⟨_, rfl, _, rfl, _, rfl, small_line (by omega), _, _, rfl, rfl, a, c, _, rfl, hF2, mid_of (by omega) (by omega), fun r H3 r0 r1 hF3 b3 => ?_⟩
        refine ⟨_, rfl, a, c, _, rfl, hF3, mid_of (by decide) (by decide), fun r2 H4 r3 r4 hF4 b4 => ?_⟩
        refine ⟨_, rfl, a, c, _, rfl, hF4, mid_of (by decide) (by decide), fun r5 H5 _ _ hF5 b5 => ?_⟩
        refine ⟨small_line (by show 3 ≤ 1000; decide), fun p np => ⟨p, _, rfl, .inl (.inl upd_same), rfl, _, _, rfl, _, _, rfl, _, _, rfl, rfl, ?_⟩⟩
        obtain ⟨sp, rfl⟩ := Int.eq_ofNat_of_zero_le r0
        obtain ⟨f, rfl⟩ := Int.eq_ofNat_of_zero_le r3
        exact ⟨hF5.new np, (b2.trans (b3.trans (b4.trans b5))).trans (But.of (same_upd np)), sp, f, r5, by omega, rfl⟩
      · clear hF2 b2 H2
        obtain ⟨hF3, b3, sp, f, wy, hf, rfl⟩ := hM
        -- found
        refine ⟨fun σ H4 => FeedOk H4 a c ∧ But a H1 H4 ∧ ∃ p, p ≠ a ∧ H4 p = some (.lst (((List.range m).map fun k => st.take sp ++ [five f k] ++ st.drop sp).map vS)) ∧ σ = [some (.ref a), some (.int m), some (.str ABC), some (vS st), some (.int sp), some (.int f), some (.int wy), some (.ref p), none], ?_, fun σ H4 hM => ?_⟩
        · refine ⟨_, rfl, _, rfl, by omega, by omega, fun D nD => ?_⟩
          have nDa := new_ne hF3 nD
          have nDc := new_nc hF3 nD
          have nD1 := but_none b3 nD nDa
          have sl : (SX.S st).length = st.length := SX.S_len st
          refine lc_range (n := m) (fun i H4 => FeedOk H4 a c ∧ But a H1 H4 ∧ H4 D = some (.lst (((List.range i).map fun k => st.take sp ++ [five f k] ++ st.drop sp).map vS))) ⟨hF3.new nD, b3.updN nD1, upd_same⟩ (fun i H4 hi hp => ?_) (fun H4 hp => ⟨hp.1, hp.2.1, D, nDa, hp.2.2, rfl⟩)
          obtain ⟨hF4, b4, hD⟩ := hp
          have m0 : (0 : Int) ≤ ((f : Int) + 5 * (0 + (i : Int))) % 26 := by omega
          have m1 : ((f : Int) + 5 * (0 + (i : Int))) % 26 < 26 := by omega
          have m2 : 97 + (((f : Int) + 5 * (0 + (i : Int))) % 26).toNat = five f i := by
            unfold five
            omega
          have it := abc_at m0 m1
          rw [m2] at it
          refine ⟨rfl, _, rfl, _, rfl, _, rfl, _, rfl, small_line (by omega), _, rfl, _, rfl, _, rfl, _, _, rfl, rfl, .inl (by decide), _, _, rfl, rfl, .inl ⟨_, rfl, _, _, rfl, rfl, (by show (0 : Int) < 26; decide), ?_⟩⟩
          refine ⟨_, _, _, rfl, rfl, small_line (by decide), it, _, _, rfl, rfl, ?_, _, rfl, _, rfl, _, rfl, _, rfl, small_line (by omega), _, _, rfl, rfl, ?_, _, hD, ?_, ?_, ?_, ?_⟩
          · rw [cut_to, SX.S_len, List.length_take]
            exact small_line (by show min sp st.length + 1 ≤ 1000; omega)
          · rw [cut_to, cut_from, show ({ cps := #[five f i] } : Str) = SX.S [five f i] from rfl, SX.S_cat, SX.S_len, SX.S_len, List.length_append, List.length_take, List.length_drop]
            exact small_line (by show min sp st.length + 1 + (st.length - sp) ≤ 1000; omega)
          · rw [List.length_map, List.length_map, List.length_range]
            exact small1000 (by omega)
          · exact hF4.put nDa nDc
          · exact b4.updN nD1
          · rw [upd_same, cut_to, cut_from, show ({ cps := #[five f i] } : Str) = SX.S [five f i] from rfl, SX.S_cat, SX.S_cat, List.range_succ, List.map_append, List.map_append]
            rfl
        · clear hF3 b3 H3
          obtain ⟨hF4, b4, p, npa, hp, rfl⟩ := hM
          have lw0 : ∀ x ∈ (List.range m).map fun k => st.take sp ++ [five f k] ++ st.drop sp, LW x := fun x hx => by
            obtain ⟨k, hk, rfl⟩ := List.mem_map.mp hx
            exact LW.put hst hsl (low_abc (Nat.mod_lt _ (by decide)))
          have nd0 : ((List.range m).map fun k => st.take sp ++ [five f k] ++ st.drop sp).Nodup := nodup_range_map fun i j hi hj e => five_inj (by omega) (by omega) (put_inj e)
          -- way
          refine ⟨fun σ H5 => ∃ (p : Addr) (ws : List (List Nat)), FeedOk H5 a c ∧ But a H1 H5 ∧ p ≠ a ∧ H5 p = some (.lst (ws.map vS)) ∧ ws.length = m ∧ ws.Nodup ∧ (∀ x ∈ ws, LW x) ∧ σ = [some (.ref a), some (.int m), some (.str ABC), some (vS st), some (.int sp), some (.int f), some (.int wy), some (.ref p), none], ?_, fun σ H5 hM => ?_⟩
          · refine ⟨_, rfl, rfl, _, rfl, ite2 (fun _ => ?_) (fun _ => ⟨p, _, hF4, b4, npa, hp, by rw [List.length_map, List.length_range], nd0, lw0, rfl⟩)⟩
            refine ⟨fun σ H5 => FeedOk H5 a c ∧ But a H1 H5 ∧ ∃ (p : Addr) (ws : List (List Nat)), p ≠ a ∧ H5 p = some (.lst (ws.map vS)) ∧ ws.length = m ∧ (∀ x ∈ ws, LW x) ∧ σ = [some (.ref a), some (.int m), some (.str ABC), some (vS st), some (.int sp), some (.int f), some (.int wy), some (.ref p), none], ?_, fun σ H5 hM => ?_⟩
            · refine ⟨_, rfl, _, rfl, by omega, by omega, fun D nD => ?_⟩
              have nDa := new_ne hF4 nD
              have nDc := new_nc hF4 nD
              have nD1 := but_none b4 nD nDa
              refine lc_range (n := m) (fun i H5 => FeedOk H5 a c ∧ But a H1 H5 ∧ ∃ ws : List (List Nat), ws.length = i ∧ (∀ x ∈ ws, LW x) ∧ H5 D = some (.lst (ws.map vS))) ⟨hF4.new nD, b4.updN nD1, [], rfl, (fun x h => by cases h), upd_same⟩ (fun i H5 hi hp => ?_) (fun H5 hp => by
                obtain ⟨h1, h2, ws, h3, h4, h5⟩ := hp
                exact ⟨h1, h2, D, ws, nDa, h5, h3, h4, rfl⟩)
              obtain ⟨hF5, b5, ws, hl, hw, hD⟩ := hp
              have m0 : (0 : Int) ≤ ((f : Int) + 7 * (0 + (i : Int))) % 26 := by omega
              have m1 : ((f : Int) + 7 * (0 + (i : Int))) % 26 < 26 := by omega
              have it := abc_at m0 m1
              have lc := low_abc (show (((f : Int) + 7 * (0 + (i : Int))) % 26).toNat < 26 by omega)
              generalize 97 + (((f : Int) + 7 * (0 + (i : Int))) % 26).toNat = cd at it lc
              have r0 : 0 ≤ (1 : Int) + ((0 + (i : Int)) + (f : Int)) % 4 := by omega
              have r1 : 1 ≤ ((1 : Int) + ((0 + (i : Int)) + (f : Int)) % 4).toNat := by omega
              have r2 : ((1 : Int) + ((0 + (i : Int)) + (f : Int)) % 4).toNat ≤ 4 := by omega
              have r3 : (1 : Int) + ((0 + (i : Int)) + (f : Int)) % 4 ≤ 4 := by omega
              have sl : (SX.S st).length = st.length := SX.S_len st
              refine ⟨rfl, _, rfl, _, rfl, _, rfl, small_line (by omega), _, rfl, _, rfl, _, rfl, _, _, rfl, rfl, .inl (by decide), _, _, rfl, rfl, .inl ⟨_, rfl, _, _, rfl, rfl, (by show (0 : Int) < 26; decide), ?_⟩⟩
              refine ⟨_, _, _, rfl, rfl, small_line (by decide), it, _, rfl, _, rfl, _, _, rfl, rfl, .inl ⟨_, rfl, _, _, rfl, rfl, (by show (0 : Int) < 4; decide), ?_⟩⟩
              refine ⟨_, _, rfl, rfl, _, _, rfl, rfl, mul_one1 rfl (by omega) (by omega), ?_⟩
              generalize (1 : Int) + ((0 + (i : Int)) + (f : Int)) % 4 = N at r0 r1 r2 r3
              have e1 : cutS (SX.S st) none (some 1) = SX.S (st.take 1) := cut_to st 1
              have e2 : Txt.mul { cps := #[cd] } N = SX.S (List.replicate N.toNat cd) := mul_rep cd N
              have l5 : (st.take 1 ++ List.replicate N.toNat cd).length ≤ 6 := (LW.rep (a := st) hsl lc r1 (by omega)).2.1
              have whole : cutS (cutS (SX.S st) none (some 1) ++ Txt.mul { cps := #[cd] } N) (some (-6)) none = SX.S (st.take 1 ++ List.replicate N.toNat cd) := by
                rw [e1, e2, SX.S_cat]
                exact cut_last _ (k := 6) l5 (by decide)
              refine ⟨_, _, rfl, rfl, ?_, _, rfl, _, rfl, _, rfl, ?_, _, hD, ?_, hF5.put nDa nDc, b5.updN nD1, ws ++ [st.take 1 ++ List.replicate N.toNat cd], ?_, ?_, ?_⟩
              · rw [e1, e2, SX.S_len, SX.S_len, ← List.length_append]
                exact small_line (by omega)
              · rw [e1, e2, SX.S_cat, SX.S_len]
                exact small_line (by omega)
              · rw [List.length_map]
                exact small1000 (by omega)
              · rw [List.length_append, hl]
                rfl
              · intro x hx
                rcases List.mem_append.mp hx with h | h
                · exact hw x h
                · rw [List.mem_singleton.mp h]
                  exact LW.rep hsl lc r1 (by omega)
              · rw [upd_same, List.map_append]
                exact congrArg (fun z => some (HO.lst (ws.map vS ++ [V.str z]))) whole
            · clear hF4 b4 hp npa p nd0 lw0 H4
              obtain ⟨hF5, b5, p, ws, npa, hp, hl, hw, rfl⟩ := hM
              have hpS : H5 p = some (.lst ((ws.map SX.S).map V.str)) := by
                rw [List.map_map]
                exact hp
              have il := insAll_len (ws.map SX.S) []
              rw [List.length_map] at il
              simp only [List.length_nil, Nat.add_zero] at il
              refine ⟨_, rfl, p, _, rfl, SqL.of hpS, by rw [List.length_map]; omega, fun q nq => ⟨q, _, rfl, upd_same, insAll_nodup _ List.nodup_nil, by omega, fun zs r pm _ nr => ?_⟩⟩
              refine ⟨r, _, rfl, .inl (SqL.of upd_same), _, rfl, rfl, _, rfl, ?_⟩
              have sq := same_upd (o := SetW P w q (insAll (ws.map SX.S) [])) nq
              have sr := same_upd (o := .lst (zs.map V.str)) nr
              have sx := sq.trans sr
              have hF7 := hF5.same sx
              have b7 := b5.trans (But.of (a := a) sx)
              have hp7 := sx _ _ hp
              generalize upd (upd H5 q (SetW P w q (insAll (ws.map SX.S) []))) r (.lst (zs.map V.str)) = H7 at hF7 b7 hp7 ⊢
              refine ite2 (fun e => ?_) (fun _ => ?_)
              · have e := V.int.inj (of_decide_eq_true e)
                rw [List.length_map] at e
                have el : (insAll (ws.map SX.S) []).length = (ws.map SX.S).length + ([] : List Str).length := by
                  rw [← pm.length_eq, List.length_map, List.length_nil]
                  omega
                exact ⟨_, rfl, p, ws, hF7, b7, npa, hp7, hl, nodup_S (ins_all_full _ _ el).1, hw, rfl⟩
              · refine ⟨_, rfl, _, rfl, by omega, by omega, fun D nD => ?_⟩
                have nDa := new_ne hF7 nD
                have nDc := new_nc hF7 nD
                have nD1 := but_none b7 nD nDa
                refine lc_range (n := m) (fun i H8 => FeedOk H8 a c ∧ But a H1 H8 ∧ H8 D = some (.lst (((List.range i).map fun k => [five f k]).map vS))) ⟨hF7.new nD, b7.updN nD1, upd_same⟩ (fun i H8 hi hp => ?_) (fun H8 hp => ?_)
                · obtain ⟨hF8, b8, hD⟩ := hp
                  have m0 : (0 : Int) ≤ ((f : Int) + 5 * (0 + (i : Int))) % 26 := by omega
                  have m1 : ((f : Int) + 5 * (0 + (i : Int))) % 26 < 26 := by omega
                  have m2 : 97 + (((f : Int) + 5 * (0 + (i : Int))) % 26).toNat = five f i := by
                    unfold five
                    omega
                  have it := abc_at m0 m1
                  rw [m2] at it
                  refine ⟨rfl, _, rfl, _, rfl, _, rfl, _, _, rfl, rfl, .inl (by decide), _, _, rfl, rfl, .inl ⟨_, rfl, _, _, rfl, rfl, (by show (0 : Int) < 26; decide), ?_⟩⟩
                  refine ⟨_, _, _, rfl, rfl, small_line (by decide), it, _, hD, ?_, hF8.put nDa nDc, b8.updN nD1, ?_⟩
                  · rw [List.length_map, List.length_map, List.length_range]
                    exact small1000 (by omega)
                  · rw [upd_same, List.range_succ, List.map_append, List.map_append]
                    rfl
                · obtain ⟨hF8, b8, hD⟩ := hp
                  refine ⟨D, _, hF8, b8, nDa, hD, by rw [List.length_map, List.length_range], nodup_range_map fun i j hi hj e => five_inj (by omega) (by omega) (List.cons.inj e).1, fun x hx => ?_, rfl⟩
                  obtain ⟨k, hk, rfl⟩ := List.mem_map.mp hx
                  exact LW.one (low_abc (Nat.mod_lt _ (by decide)))
          · obtain ⟨p, ws, hF5, b5, npa, hp, hl, hn, hw, rfl⟩ := hM
            exact ⟨_, rfl, q p ws H5 hF5 b5 npa hp hl hn hw⟩
end
section
variable {P : Program} {w : World} {K : PySem.W.Frag} {mg : Str → Option Value} {base : Heap} {fa : Nat → Addr} {fd : Nat → FuncData}
/-- good terms: what terms are drawn -/
def TrmOk (ws : List (List Nat)) (ts : List (Str × PyData)) : Prop := (ts.length = 1 ∨ ts.length = 2) ∧ termsD (trmD ts) = true ∧ (∀ t ∈ ts, okR t.2 ∧ ∃ x ∈ ws, t.1 = SX.S x)
def spTerms : Sp := fun vs H Q _ => ∃ (a c p : Addr) (ws : List (List Nat)) (m : Int), vs = [.ref a, .ref p, .int m] ∧ FeedOk H a c ∧ p ≠ a ∧ H p = some (.lst (ws.map vS)) ∧ ws ≠ [] ∧ ws.length ≤ 6 ∧ ws.Nodup ∧ (∀ x ∈ ws, nameB x = true ∧ x.length ≤ 7) ∧
  ∀ (v : V) (ts : List (Str × PyData)) (H' : Hp), FeedOk H' a c → But a H H' → Dt a H' v (trmD ts) → TrmOk ws ts → Q v H'
theorem ok_terms (T : Txt K mg fa fd) : FnOk P w K mg base CX0 4 (fa 155) (fd 155) ["_law_feed_here", "_law_words_here", "_law_pairs"] spTerms := by
  refine T.F_terms.ok sc_terms (fun vs H Q E h => ?_) (fun cdv A outer s H vs Q E hr h => ?_)
  · obtain ⟨a, c, p, ws, m, rfl, _⟩ := h
    rfl
  · obtain ⟨a, c, p, ws, m, rfl, hF, npa, hp, ne, hl, hn, hw, q⟩ := h
    refine ⟨_, (C8.pss_cut (ps_set (i := 3) sc_terms.nd rfl (.inl rfl) (pe_call (ok_draw T) (hr.mono (by decide)) (by rfl) T.g_draw T.F_draw.kp T.b_draw .nil pass0 (pa_cons (pv 0) (pa_cons (pe_callB call_len_seq (by rfl) T.m_len PySem.boot_len (pa_cons (pv 1) pa_nil)) pa_nil))))
      (C8.pss_cut (ps_set (i := 4) sc_terms.nd rfl (.inl rfl) (pe_lst (pa_cons (pe_ix ix_list (pv 1) (pv 3) (fun _ _ => rfl)) pa_nil)))
      (C8.pss_cut (ps_if (PW.pt (pw_and (pt_cmpR op_gt (pe_callB call_len_seq (by rfl) T.m_len PySem.boot_len (pa_cons (pv 1) pa_nil)) pe_int (nomark _)) (pw_and1 (pt_cmpR op_lt (pe_call (ok_draw T) (hr.mono (by decide)) (by rfl) T.g_draw T.F_draw.kp T.b_draw .nil pass0 (pa_cons (pv 0) (pa_cons pe_int pa_nil))) (pv 2) (nomark _))))) (pss_one (ps_expr (pe_bm PySem.F.plainAttrs_list PySem.F.slot_list_append PySem.F.type_list_append mt_append (pv 4) (pa_cons (pe_ix ix_list (pv 1) (pe_op op_mod (pe_callTy call_int1 (by rfl) T.m_int PySem.Pv.boot_int (pa_cons (pe_op op_add (pe_op op_add (pv 3) pe_int) (pe_call (ok_draw T) (hr.mono (by decide)) (by rfl) T.g_draw T.F_draw.kp T.b_draw .nil pass0 (pa_cons (pv 0) (pa_cons (pe_op op_sub (pe_callB call_len_seq (by rfl) T.m_len PySem.boot_len (pa_cons (pv 1) pa_nil)) pe_int) pa_nil)))) pa_nil)) (pe_callB call_len_seq (by rfl) T.m_len PySem.boot_len (pa_cons (pv 1) pa_nil))) (fun _ _ => rfl)) pa_nil)))) pss_nil)
      (pss_one (ps_ret (pe_callTy call_tuple_of (by rfl) T.m_tuple (by decide +kernel) (pa_cons (pe_lc (own := [("_law_name", 5)]) (g := gName 5) (tt := tYes) rfl sc_terms.nd (pi_list (pe_callB cr_sortedS (by rfl) T.m_sorted (by decide +kernel) (pa_cons (pv 4) pa_nil))) (blkOk_by (own := [("_law_name", 5)]) (N := ["_law_feed_here", "_law_words_here", "_law_pairs", "_law_one", "_law_chosen", "_law_name"]) (sc := defScope s_terms) (by decide +kernel)) (fun _ _ _ _ _ => pg_name (i := 5) sc_terms.nd rfl (Or.inl rfl)) (fun _ _ _ _ _ => pts_nil) (fun _ _ _ _ _ => (pe_tup (pa_cons (pv 5) (pa_cons (pe_call (ok_rate T) (hr.mono (by decide)) (by rfl) T.g_rate T.F_rate.kp T.b_rate .nil pass0 (pa_cons (pv 0) pa_nil)) pa_nil))))) pa_nil))))))), ?_⟩
    have l0 : 0 < ws.length := by
      cases ws with
      | nil => exact absurd rfl ne
      | cons _ _ => simp
    have lv : (ws.map vS).length = ws.length := List.length_map ..
    refine ⟨fun σ H1 => FeedOk H1 a c ∧ But a H H1 ∧ ∃ i : Nat, i < ws.length ∧ σ = [some (.ref a), some (.ref p), some (.int m), some (.int i), none, none], ?_, fun σ H1 hM => ?_⟩
    · refine ⟨_, rfl, _, rfl, p, _, rfl, .inl (SqL.of hp), a, c, _, rfl, hF, mid_of (by omega) (by omega), fun r H1 r0 r1 hF1 b1 => ?_⟩
      obtain ⟨i, rfl⟩ := Int.eq_ofNat_of_zero_le r0
      exact ⟨hF1, b1, i, by omega, rfl⟩
    · obtain ⟨hF1, b1, i, hi, rfl⟩ := hM
      have gi : (ws.map vS)[i]? = some (vS ws[i]) := by rw [List.getElem?_map, List.getElem?_eq_getElem hi]; rfl
      -- chosen
      refine ⟨fun σ H2 => Same H1 H2 ∧ ∃ C, C ≠ a ∧ C ≠ c ∧ H C = none ∧ H2 C = some (.lst ([ws[i]].map vS)) ∧ σ = [some (.ref a), some (.ref p), some (.int m), some (.int i), some (.ref C), none], ?_, fun σ H2 hM => ?_⟩
      · refine ⟨_, rfl, _, rfl, p, _, _, _, rfl, rfl, SqL.of (b1 _ _ npa hp), at_of (j := i) rfl gi, small_line (by show 1 ≤ 1000; decide), fun C nC => ?_⟩
        exact ⟨same_upd nC, C, new_ne hF1 nC, new_nc hF1 nC, but_none b1 nC (new_ne hF1 nC), upd_same, rfl⟩
      · obtain ⟨s2, C, nCa, nCc, nC, hC, rfl⟩ := hM
        have hF2 := hF1.same s2
        have b2 := b1.trans (But.of (a := a) s2)
        clear hF1 b1 s2 H1
        -- one more
        refine ⟨fun σ H3 => FeedOk H3 a c ∧ But a H H3 ∧ ∃ xs : List (List Nat), (xs.length = 1 ∨ xs.length = 2) ∧ xs.Nodup ∧ (∀ x ∈ xs, x ∈ ws) ∧ H3 C = some (.lst (xs.map vS)) ∧ σ = [some (.ref a), some (.ref p), some (.int m), some (.int i), some (.ref C), none], ?_, fun σ H3 hM => ?_⟩
        · have stay : ∀ H3, FeedOk H3 a c → But a H2 H3 → (FeedOk H3 a c ∧ But a H H3 ∧ ∃ xs : List (List Nat), (xs.length = 1 ∨ xs.length = 2) ∧ xs.Nodup ∧ (∀ x ∈ xs, x ∈ ws) ∧ H3 C = some (.lst (xs.map vS)) ∧ [some (V.ref a), some (.ref p), some (.int m), some (.int (i : Int)), some (.ref C), none] = [some (.ref a), some (.ref p), some (.int m), some (.int i), some (.ref C), none]) := fun H3 hF3 b3 =>
            ⟨hF3, b2.trans b3, [ws[i]], .inl rfl, by simp, fun x hx => by rw [List.mem_singleton.mp hx]; exact List.getElem_mem hi, b3 _ _ nCa hC, rfl⟩
          refine ⟨_, rfl, p, _, rfl, .inl (SqL.of (b2 _ _ npa hp)), _, _, rfl, rfl, _, rfl, ite2 (fun e => ?_) (fun _ => stay H2 hF2 (But.refl _ _))⟩
          have e : (1 : Int) < ((ws.map vS).length : Int) := of_decide_eq_true e
          rw [lv] at e
          refine ⟨_, rfl, a, c, _, rfl, hF2, mid_of (by decide) (by decide), fun r H3 _ _ hF3 b3 => ?_⟩
          refine ⟨_, rfl, _, _, rfl, rfl, _, rfl, ite2 (fun _ => ?_) (fun _ => stay H3 hF3 b3)⟩
          have hp3 := b3 _ _ npa (b2 _ _ npa hp)
          refine ⟨_, rfl, .inl ⟨rfl, _, SqL.of (b3 _ _ nCa hC)⟩, _, rfl, _, rfl, _, _, rfl, rfl, _, rfl, _, rfl, p, _, rfl, .inl (SqL.of hp3), _, _, rfl, rfl, a, c, _, rfl, hF3, mid_of (by omega) (by omega), fun r2 H4 r3 r4 hF4 b4 => ?_⟩
          rw [lv] at r4
          have hp4 := b4 _ _ npa hp3
          have hC4 := b4 _ _ nCa (b3 _ _ nCa hC)
          obtain ⟨j, hj, ej, ji⟩ : ∃ j : Nat, j < ws.length ∧ ((i : Int) + 1 + r2) % ((ws.map vS).length : Int) = (j : Int) ∧ j ≠ i := by
            rw [lv]
            refine ⟨(((i : Int) + 1 + r2) % (ws.length : Int)).toNat, ?_, ?_, ?_⟩
            · have h1 := Int.emod_lt_of_pos ((i : Int) + 1 + r2) (show (0 : Int) < ws.length by omega)
              omega
            · have h0 := Int.emod_nonneg ((i : Int) + 1 + r2) (show (ws.length : Int) ≠ 0 by omega)
              omega
            · intro z
              have h0 := Int.emod_nonneg ((i : Int) + 1 + r2) (show (ws.length : Int) ≠ 0 by omega)
              by_cases c1 : (i : Int) + 1 + r2 < ws.length
              · rw [Int.emod_eq_of_lt (by omega) c1] at z
                omega
              · have e2 : ((i : Int) + 1 + r2) % (ws.length : Int) = (i : Int) + 1 + r2 - ws.length := by
                  rw [← Int.sub_emod_right, Int.emod_eq_of_lt (by omega) (by omega)]
                rw [e2] at z
                omega
          have gj : (ws.map vS)[j]? = some (vS ws[j]) := by rw [List.getElem?_map, List.getElem?_eq_getElem hj]; rfl
          refine ⟨_, _, rfl, rfl, .inl ⟨_, rfl, _, rfl, p, _, rfl, .inl (SqL.of hp4), _, _, rfl, rfl, (by show (0 : Int) < _; omega), p, _, _, _, rfl, rfl, SqL.of hp4, at_of (j := j) ej gj, ?_⟩⟩
          refine ⟨C, _, _, rfl, rfl, hC4, small1000 (by show 1 ≤ 1000; decide), ?_⟩
          refine ⟨hF4.put nCa nCc, ((b2.trans b3).trans b4).updN nC, [ws[i], ws[j]], .inr rfl, ?_, ?_, upd_same, rfl⟩
          · refine List.nodup_cons.mpr ⟨fun z => ?_, by simp⟩
            rw [List.mem_singleton] at z
            exact ji (nd_ix hn (List.getElem?_eq_getElem hi) (by rw [List.getElem?_eq_getElem hj, z])).symm
          · intro x hx
            rcases List.mem_cons.mp hx with rfl | hx
            · exact List.getElem_mem hi
            · rw [List.mem_singleton.mp hx]
              exact List.getElem_mem hj
        · clear hC hF2 b2 H2
          obtain ⟨hF3, b3, xs, hx, hxn, hxw, hC, rfl⟩ := hM
          have hCS : H3 C = some (.lst ((xs.map SX.S).map V.str)) := by
            rw [List.map_map]
            exact hC
          refine ⟨_, rfl, C, _, rfl, SqL.of hCS, by rw [List.length_map]; omega, fun zs r pm srt nr => ?_⟩
          have sr := same_upd (o := .lst (zs.map V.str)) nr
          have hF4 := hF3.same sr
          have b4 := b3.trans (But.of (a := a) sr)
          have nra := new_ne hF3 nr
          have nr0 := but_none b3 nr nra
          have hr4 : (upd H3 r (.lst (zs.map V.str))) r = some (.lst (zs.map V.str)) := upd_same
          generalize upd H3 r (.lst (zs.map V.str)) = H4 at hF4 b4 hr4 ⊢
          refine ⟨r, rfl, ⟨_, SqL.of hr4⟩, fun D nD => ?_⟩
          have nDa := new_ne hF4 nD
          have nDc := new_nc hF4 nD
          have nD0 := but_none b4 nD nDa
          have nDr : r ≠ D := ne_of_none hr4 nD
          have zl : zs.length ≤ 2 := by
            rw [pm.length_eq, List.length_map]
            omega
          refine lc_list (K := K) (a := r) (xs := zs.map V.str) (fun i H5 => FeedOk H5 a c ∧ But a H H5 ∧ H5 r = some (.lst (zs.map V.str)) ∧ ∃ (vs : List V) (ts : List (Str × PyData)), H5 D = some (.lst vs) ∧ DtAll a H5 vs (ts.map trm1) ∧ ts.map (·.1) = zs.take i ∧ ∀ t ∈ ts, okR t.2)
            ⟨hF4.new nD, b4.updN nD0, same_upd nD _ _ hr4, [], [], upd_same, .nil, rfl, fun t h => by cases h⟩ (fun i H5 _ hq => SqL.of hq.2.2.1) (fun i x H5 hx hq => ?_) (fun H5 hq => ?_)
          · obtain ⟨hF5, b5, hr5, vs, ts, hD, hts, hnm, hok⟩ := hq
            rw [List.getElem?_map] at hx
            obtain ⟨x, hxz, rfl⟩ := Option.map_eq_some_iff.mp hx
            refine ⟨rfl, _, rfl, _, rfl, a, c, rfl, hF5, fun v t u H6 hF6 b6 hR t0 tb ub => ⟨two_line, fun e ne => ?_⟩⟩
            have hD6 := b6 _ _ nDa hD
            have xl : x.length ≤ 1000 := by
              obtain ⟨y, hy, rfl⟩ := List.mem_map.mp (pm.mem_iff.mp (List.mem_of_getElem? hxz))
              rw [SX.S_len]
              have := (hw y (hxw y hy)).2
              omega
            obtain ⟨se, de⟩ := dnewT (z := a) ne (.cons (.str x xl) (.cons hR.1 .nil))
            have hD7 := se _ _ hD6
            have hts7 := hts.tups (z' := a) ((TT.but hF5 b6).trans (TT.of se)) _ _ (noLs_trms hok)
            have vl : vs.length < sizeLine := by
              have e1 := hts.len
              rw [List.length_map, ← List.length_map (f := Prod.fst) (as := ts), hnm, List.length_take] at e1
              exact small1000 (by omega)
            refine ⟨vs, hD7, vl, (hF6.same se).put nDa nDc, ((b5.trans b6).trans (But.of se)).updN nD0, ?_, vs ++ [.ref e], ts ++ [(x, frD t u)], upd_same, ?_, ?_, ?_⟩
            · rw [upd_ne nDr]
              exact se _ _ (b6 _ _ nra hr5)
            · rw [List.map_append]
              refine DtAll.snoc (hts7.tups (TT.upd hD7) _ _ (noLs_trms hok)) ?_
              exact Dt.tups (TT.upd hD7) _ _ rfl de
            · rw [List.map_append, hnm, List.take_add_one, hxz]
              rfl
            · intro s hs
              rcases List.mem_append.mp hs with h | h
              · exact hok s h
              · rw [List.mem_singleton.mp h]
                exact ⟨hR.2, decide_eq_true t0, decide_eq_true ⟨tb, ub⟩⟩
          · obtain ⟨hF5, b5, hr5, vs, ts, hD, hts, hnm, hok⟩ := hq
            rw [List.length_map, List.take_length] at hnm
            refine ⟨D, vs, rfl, .inl ⟨SqL.of hD, fun l nl => ?_⟩⟩
            have sl := same_upd (o := .tup vs) nl
            refine q (.ref l) ts _ (hF5.same sl) (b5.trans (But.of sl)) (.tup upd_same (hts.same sl)) ?_
            have nm : ∀ t ∈ ts, ∃ x ∈ ws, t.1 = SX.S x := fun t ht => by
              have : t.1 ∈ zs := by
                rw [← hnm]
                exact List.mem_map_of_mem ht
              obtain ⟨y, hy, e⟩ := List.mem_map.mp (pm.mem_iff.mp this)
              exact ⟨y, hxw y hy, e.symm⟩
            have tl : ts.length = xs.length := by
              rw [← List.length_map (f := Prod.fst), hnm, pm.length_eq, List.length_map]
            have tr : ∀ t ∈ ts, termD (trm1 t) = true := fun t ht => by
              obtain ⟨x, hx, e⟩ := nm t ht
              show (nameB t.1.cps.toList && ratD t.2 && nonz t.2) = true
              rw [e, S_list, (hw x hx).1, (hok t ht).1, (hok t ht).2.1]
              rfl
            refine ⟨by omega, ?_, fun t ht => ⟨hok t ht, nm t ht⟩⟩
            have zn : zs.Nodup := by
              refine pm.nodup_iff.mpr ?_
              rw [List.Nodup, List.pairwise_map]
              exact List.Pairwise.imp (fun h z => h (S_inj z)) hxn
            match ts, tl, tr, hnm with
            | [t], _, tr, _ => exact tr t List.mem_cons_self
            | [t, u], _, tr, hnm =>
              show (termD (trm1 t) && termD (trm1 u) && ltD (trm1 t) (trm1 u)) = true
              rw [tr t List.mem_cons_self, tr u (List.mem_cons_of_mem _ List.mem_cons_self)]
              have hnm : [t.1, u.1] = zs := hnm
              subst hnm
              exact sorted_two srt (fun z => (List.nodup_cons.mp zn).1 (by rw [z]; exact List.mem_cons_self))
            | [], tl, _, _ => simp at tl; omega
            | _ :: _ :: _ :: _, tl, _, _ => simp at tl; omega
end
abbrev Nm := List Nat
abbrev Tie := List It × FR
def RR : List FR := ([-5, -4, -3, -2, -1, 1, 2, 3, 4, 5] : List Int).flatMap fun t => (([1, 2, 3] : List Int).filter fun u => Int.gcd t u == 1).map fun u => (t, u)
theorem rr_in {t u : Int} (ht : t ≠ 0) (h5 : t.natAbs ≤ 5) (hu : 0 < u) (h3 : u.natAbs ≤ 3) (hg : Int.gcd t u = 1) : (t, u) ∈ RR := by
  unfold RR
  rw [List.mem_flatMap]
  refine ⟨t, ?_, ?_⟩
  · simp only [List.mem_cons, List.not_mem_nil, or_false]
    omega
  · rw [List.mem_map]
    refine ⟨u, List.mem_filter.mpr ⟨?_, ?_⟩, rfl⟩
    · simp only [List.mem_cons, List.not_mem_nil, or_false]
      omega
    · exact beq_iff_eq.mpr hg
theorem okr_rr {r : PyData} (h : okR r) : ∃ f ∈ RR, r = frP f := by
  obtain ⟨t, u, rfl⟩ := ratD_inv h.1
  have h1 : (decide (1 ≤ u) && decide (Int.gcd t u = 1)) = true := h.1
  simp only [Bool.and_eq_true, decide_eq_true_eq] at h1
  have h2 := h.2.1
  have h3 := h.2.2
  refine ⟨(t, u), rr_in ?_ ?_ (by omega) ?_ h1.2, rfl⟩
  · exact of_decide_eq_true (show decide (t ≠ 0) = true from h2)
  · exact (of_decide_eq_true (show decide (t.natAbs ≤ 5 ∧ u.natAbs ≤ 3) = true from h3)).1
  · exact (of_decide_eq_true (show decide (t.natAbs ≤ 5 ∧ u.natAbs ≤ 3) = true from h3)).2
theorem trm_tl {ws : List Nm} : ∀ {ts : List (Str × PyData)}, (∀ t ∈ ts, okR t.2 ∧ ∃ x ∈ ws, t.1 = SX.S x) → ∃ tl : List It, ts.map trm1 = tl.map tmP ∧ tl.length = ts.length ∧ ∀ u ∈ tl, u.1 ∈ ws ∧ u.2 ∈ RR
  | [], _ => ⟨[], rfl, rfl, fun u h => by cases h⟩
  | (n, r) :: ts, h => by
    obtain ⟨tl, e, l, k⟩ := trm_tl fun t ht => h t (List.mem_cons_of_mem _ ht)
    obtain ⟨hr, x, hx, en⟩ := h _ List.mem_cons_self
    obtain ⟨f, hf, ef⟩ := okr_rr hr
    have en : n = SX.S x := en
    have ef : r = frP f := ef
    subst en ef
    refine ⟨(x, f) :: tl, by rw [List.map_cons, e]; rfl, by rw [List.length_cons, l]; rfl, fun u hu => ?_⟩
    rcases List.mem_cons.mp hu with rfl | hu
    · exact ⟨hx, hf⟩
    · exact k u hu
theorem rr_bd : ∀ f ∈ RR, f.1 ≠ 0 ∧ BdF f := by
  have h : (RR.all fun f => decide (f.1 ≠ 0) && decide (0 < f.2) && decide (f.1.natAbs < 2 ^ 10) && decide (f.2.natAbs < 2 ^ 10)) = true := by decide +kernel
  intro f hf
  have := List.all_eq_true.mp h f hf
  simp only [Bool.and_eq_true, decide_eq_true_eq] at this
  exact ⟨this.1.1.1, Bn.mono (k := 10) ⟨this.1.2, this.2⟩ (by decide), this.1.1.2⟩
def SrtN (tl : List It) : Prop := ((tl.map (·.1)).map SX.S).Pairwise leStr ∧ (tl.map (·.1)).Nodup
theorem trm_tlS {ws : List Nm} {ts : List (Str × PyData)} (h : TrmOk ws ts) : ∃ tl : List It, ts.map trm1 = tl.map tmP ∧ tl.length = ts.length ∧ (∀ u ∈ tl, u.1 ∈ ws ∧ u.2 ∈ RR) ∧ SrtN tl := by
  obtain ⟨tl, e, l, k⟩ := trm_tl h.2.2
  refine ⟨tl, e, l, k, ?_⟩
  match ts, tl, h, e, l with
  | [s], [u], _, _, _ => exact ⟨List.pairwise_singleton _ _, by simp⟩
  | [(n, a), (m, b)], [u, v], h, e, _ =>
    have h2 : (termD (trm1 (n, a)) && termD (trm1 (m, b)) && ltD (trm1 (n, a)) (trm1 (m, b))) = true := h.2.1
    rw [Bool.and_eq_true] at h2
    have e1 : trm1 (n, a) = tmP u := (List.cons.inj e).1
    have e2 : trm1 (m, b) = tmP v := (List.cons.inj (List.cons.inj e).2).1
    have h3 := h2.2
    rw [e1, e2] at h3
    have h4 : (SX.S u.1).cps.toList < (SX.S v.1).cps.toList := of_decide_eq_true h3
    rw [S_list, S_list] at h4
    refine ⟨?_, ?_⟩
    · show [SX.S u.1, SX.S v.1].Pairwise leStr
      refine List.Pairwise.cons (fun z hz => ?_) (List.pairwise_singleton _ _)
      rw [List.mem_singleton.mp hz]
      unfold leStr
      rw [S_list, S_list]
      exact leN_iff.mpr (List.le_of_lt h4)
    · show [u.1, v.1].Nodup
      rw [List.nodup_cons]
      refine ⟨fun z => ?_, by simp⟩
      rw [List.mem_singleton.mp z] at h4
      exact List.lt_irrefl _ h4
  | [], _, h, _, _ => rcases h.1 with h | h <;> cases h
  | [_], [], _, _, l => cases l
  | [_], _ :: _ :: _, _, _, l => simp at l
  | [_, _], [], _, _, l => cases l
  | [_, _], [_], _, _, l => cases l
  | [_, _], _ :: _ :: _ :: _, _, _, l => simp at l
  | _ :: _ :: _ :: _, _, h, _, _ => have := h.1; simp at this
theorem rr_bs : ∀ f ∈ RR, BdS f := by
  have h : (RR.all fun f => decide (f.1.natAbs ≤ 110769120) && decide (0 < f.2) && decide (f.2 ≤ 2520)) = true := by decide +kernel
  intro f hf
  have := List.all_eq_true.mp h f hf
  simp only [Bool.and_eq_true, decide_eq_true_eq] at this
  exact ⟨this.1.1, this.1.2, this.2⟩
def TieW (t : Tie) : Prop := ∃ u r B, RT u r B ∧ (∀ v ∈ u :: r, LW v.1) ∧ t = (rateL (u :: r), B)
theorem drawn_W {ws : List Nm} {tl : List It} {b : FR} (hl : tl.length = 1 ∨ tl.length = 2) (k : ∀ u ∈ tl, u.1 ∈ ws ∧ u.2 ∈ RR) (hw : ∀ x ∈ ws, LW x) (so : SrtN tl) (hbs : BdS b) : TieW (redL tl, redF (scl (rts tl)) b) := by
  have tlok : TlOk tl := ⟨hl, fun t ht => ⟨(rr_bd _ (k t ht).2).1, (rr_bd _ (k t ht).2).2, by have := (hw _ (k t ht).1).2.1; omega⟩⟩
  have hs : ∀ t ∈ tl, BdS t.2 := fun t ht => rr_bs _ (k t ht).2
  obtain ⟨r1, r2, r3, r4⟩ := red_int tlok hs hbs
  obtain ⟨a1, a2⟩ := red_again tlok hbs.2.1
  have shape : ∃ cs : List Cf, redL tl = rateL cs ∧ cs.map (·.1) = tl.map (·.1) ∧ ∀ v ∈ cs, v.2 ≠ 0 ∧ v.2.natAbs < 10 ^ 15 := by
    refine ⟨tl.map fun t => (t.1, (redF (scl (rts tl)) t.2).1), ?_, ?_, fun v hv => ?_⟩
    · unfold redL rateL
      rw [List.map_map]
      refine List.map_congr_left fun t ht => ?_
      obtain ⟨m, e, _⟩ := r1 t ht
      show (t.1, redF (scl (rts tl)) t.2) = (t.1, ((redF (scl (rts tl)) t.2).1, 1))
      rw [e]
    · rw [List.map_map]
      rfl
    · obtain ⟨t, ht, rfl⟩ := List.mem_map.mp hv
      obtain ⟨m, e, n0, sm⟩ := r1 t ht
      show (redF (scl (rts tl)) t.2).1 ≠ 0 ∧ (redF (scl (rts tl)) t.2).1.natAbs < _
      rw [e]
      exact ⟨n0, sm⟩
  obtain ⟨cs, ec, en, hc⟩ := shape
  obtain ⟨u, rr, rfl⟩ : ∃ u rr, cs = u :: rr := by
    cases cs with
    | nil =>
      exfalso
      have := congrArg List.length en
      rw [List.length_map] at this
      have : 0 = tl.length := this.trans (List.length_map ..)
      omega
    | cons u rr => exact ⟨u, rr, rfl⟩
  have nsl := congrArg List.length en
  rw [List.length_map, List.length_map, List.length_cons] at nsl
  have lw : ∀ v ∈ u :: rr, LW v.1 := fun v hv => by
    have : v.1 ∈ tl.map (·.1) := by
      rw [← en]
      exact List.mem_map.mpr ⟨v, hv, rfl⟩
    obtain ⟨t, ht, e⟩ := List.mem_map.mp this
    rw [← e]
    exact hw _ (k t ht).1
  rw [ec] at a1 a2
  refine ⟨u, rr, redF (scl (rts tl)) b, ⟨by omega, fun v hv => ⟨v.1, lw v hv, .inl rfl⟩, fun v h' => (hc v h').1, fun v h' => (hc v h').2, r2, r3, r4, by rw [en]; exact so.1, by rw [en]; exact so.2, a1, a2⟩, lw, ?_⟩
  rw [ec]

def wordL (x : List Nat) (f : FR) : List Nat := if ((f.1.natAbs : Int), f.2) = ((1 : Int), (1 : Int)) then x else txtL (f.1.natAbs : Int) f.2 ++ 42 :: x
def leadL (acc : List Nat) (n : Int) : List Nat := if acc = [] then (if n < 0 then [45] else []) else (if n < 0 then [32, 45, 32] else [32, 43, 32])
def sumS (acc : List Nat) (u : List Nat × FR) : List Nat := acc ++ leadL acc u.2.1 ++ wordL u.1 u.2
def sumL (tl : List (List Nat × FR)) : List Nat := tl.foldl sumS []
theorem Fsm.abs {f : FR} (h : Fsm f) : Fsm ((f.1.natAbs : Int), f.2) := ⟨by show ((f.1.natAbs : Int)).natAbs < _; rw [Int.natAbs_natCast]; exact h.1, h.2⟩
theorem wordL_len {x : List Nat} {f : FR} (hx : x.length ≤ 7) (h : Fsm f) : (wordL x f).length ≤ 135 := by
  have := txtL_len h.abs
  unfold wordL
  split
  · omega
  · rw [List.length_append, List.length_cons]
    change (txtL (f.1.natAbs : Int) f.2).length ≤ 127 at this
    omega
theorem leadL_len (acc : List Nat) (n : Int) : (leadL acc n).length ≤ 3 := by
  unfold leadL
  split <;> split <;> decide
theorem sumS_len {acc : List Nat} {u : List Nat × FR} (hx : u.1.length ≤ 7) (h : Fsm u.2) : (sumS acc u).length ≤ acc.length + 138 := by
  have a := wordL_len hx h
  have b := leadL_len acc u.2.1
  unfold sumS
  simp only [List.length_append]
  omega
theorem sum_len : ∀ {tl : List (List Nat × FR)} (i : Nat) (_ : ∀ t ∈ tl, t.1.length ≤ 7 ∧ Fsm t.2), ((tl.take i).foldl sumS []).length ≤ 138 * i
  | _, 0, _ => by simp
  | tl, i + 1, h => by
    have ih := sum_len (tl := tl) i h
    rw [List.take_add_one]
    cases e : tl[i]? with
    | none =>
      simp only [Option.toList_none, List.append_nil]
      omega
    | some t =>
      have ht := h t (List.mem_of_getElem? e)
      simp only [Option.toList_some, List.foldl_append, List.foldl_cons, List.foldl_nil]
      have := sumS_len (acc := (tl.take i).foldl sumS []) ht.1 ht.2
      omega
section
variable {P : Program} {w : World} {K : PySem.W.Frag} {mg : Str → Option Value} {base : Heap} {fa : Nat → Addr} {fd : Nat → FuncData}
def spSumT : Sp := fun vs H Q _ => ∃ v tl z, vs = [v] ∧ Dt z H v (.tuple (tl.map tmP)) ∧ TsOk tl ∧ ∀ H', Same H H' → Q (vS (sumL tl)) H'
theorem ok_sum_text (T : Txt K mg fa fd) : FnOk P w K mg base CX0 4 (fa 159) (fd 159) ["_law_terms_here"] spSumT := by
  refine T.F_sum_text.ok sc_sum_text (fun vs H Q E h => ?_) (fun cdv A outer s H vs Q E hr h => ?_)
  · obtain ⟨v, tl, z, rfl, _⟩ := h
    rfl
  · obtain ⟨v, tl, z, rfl, hv, hok, q⟩ := h
    refine ⟨_, (C8.pss_cut (ps_set (i := 1) sc_sum_text.nd rfl (.inl rfl) pe_str)
      (C8.pss_cut (ps_for PassesOwn.never rfl (pi_tup (pv 0)) (pg_tup (by rfl) (pgs_cons (pg_name (i := 2) sc_sum_text.nd rfl (.inl rfl)) (pgs_cons (pg_name (i := 3) sc_sum_text.nd rfl (.inl rfl)) pgs_nil))) (C8.pss_cut (ps_set (i := 4) sc_sum_text.nd rfl (.inl rfl) (pe_tup (pa_cons (pe_callB call_abs (by rfl) T.m_abs PyProof.Rows.boot_abs (pa_cons (pe_ix ix_tup (pv 3) pe_int (fun _ _ => rfl)) pa_nil)) (pa_cons (pe_ix ix_tup (pv 3) pe_int (fun _ _ => rfl)) pa_nil))))
      (C8.pss_cut (ps_set (i := 5) sc_sum_text.nd rfl (.inl rfl) (pe_ifExp (pt_cmpR (op_eqD hr.units) (pv 4) (pe_tup (pa_cons pe_int (pa_cons pe_int pa_nil))) (nomark _)) (pv 2) (pe_op op_add_str (pe_op op_add_str (pe_call (ok_part_text T) (hr.mono (by decide)) (by rfl) T.g_part_text T.F_part_text.kp T.b_part_text .nil pass0 (pa_cons (pv 4) pa_nil)) pe_str) (pv 2))))
      (C8.pss_cut (ps_set (i := 6) sc_sum_text.nd rfl (.inl rfl) (pe_ifExp (pt_cmpR op_eq (pv 1) pe_str (nomark _)) (pe_ifExp (pt_cmpR op_lt (pe_ix ix_tup (pv 3) pe_int (fun _ _ => rfl)) pe_int (nomark _)) pe_str pe_str) (pe_ifExp (pt_cmpR op_lt (pe_ix ix_tup (pv 3) pe_int (fun _ _ => rfl)) pe_int (nomark _)) pe_str pe_str)))
      (pss_one (ps_set (i := 1) sc_sum_text.nd rfl (.inl rfl) (pe_op op_add_str (pe_op op_add_str (pv 1) (pv 6)) (pv 5))))))))
      (pss_one (ps_ret (pv 1))))), ?_⟩
    obtain ⟨t, xs, rfl, ht, hts⟩ : ∃ t xs, v = .ref t ∧ H t = some (.tup xs) ∧ DtAll z H xs (tl.map tmP) := by
      generalize tl.map tmP = dd at hv
      match v, hv with
      | _, .tup h1 h2 => exact ⟨_, _, rfl, h1, h2⟩
    have xl : xs.length = tl.length := by
      have := hts.len
      rw [List.length_map] at this
      exact this
    refine ⟨fun σ H1 => H1 = H ∧ σ = [some (.ref t), some (.str (Str.ofString "")), none, none, none, none, none], ⟨rfl, rfl⟩, fun σ H1 hM => ?_⟩
    obtain ⟨rfl, rfl⟩ := hM
    rw [emptyS]
    refine ⟨fun σ H2 => Same H1 H2 ∧ ∃ y2 y3 y4 y5 y6, σ = [some (.ref t), some (vS (sumL tl)), y2, y3, y4, y5, y6], ?_, fun σ H2 hM => ?_⟩
    · refine ⟨_, rfl, t, rfl, ⟨_, SqT.of ht⟩, for_tup (K := K) (a := t) (xs := xs) (fun i σ H2 => Same H1 H2 ∧ ∃ y2 y3 y4 y5 y6, σ = [some (.ref t), some (vS ((tl.take i).foldl sumS [])), y2, y3, y4, y5, y6]) ⟨Same.refl _, _, _, _, _, _, rfl⟩ (fun i σ H2 _ hq => SqT.of (hq.1 _ _ ht)) (fun i y σ H2 hy hq => ?_) (fun σ H2 hq => ?_)⟩
      · obtain ⟨s2, y2, y3, y4, y5, y6, rfl⟩ := hq
        obtain ⟨dt, hdd, hdt⟩ := DtAll.at i hts hy
        rw [List.getElem?_map] at hdd
        obtain ⟨⟨n, g⟩, he, rfl⟩ := Option.map_eq_some_iff.mp hdd
        have hu : n.length ≤ 7 ∧ Fsm g := hok.2 (n, g) (List.mem_of_getElem? he)
        have il : i < tl.length := (List.getElem?_eq_some_iff.mp he).1
        have al := sum_len i hok.2
        have ol := hok.1
        change Dt _ _ _ (.tuple [.str (SX.S n), frP g]) at hdt
        have e1 : (tl.take (i + 1)).foldl sumS [] = sumS ((tl.take i).foldl sumS []) (n, g) := by
          rw [List.take_add_one, he]
          simp only [Option.toList_some, List.foldl_append, List.foldl_cons, List.foldl_nil]
        rw [e1]
        generalize (tl.take i).foldl sumS [] = acc at al ⊢
        have wl := wordL_len hu.1 hu.2
        have ll := leadL_len acc g.1
        match y, hdt with
        | _, .tup (a := pp) hpp (.cons (.str _ _) (.cons hr' .nil)) =>
          obtain ⟨pr, rfl, hpr⟩ := dt_fr hr'
          have hpr2 := s2 _ _ hpr
          refine ⟨pp, _, rfl, .inl (.inl (s2 _ _ hpp)), rfl, _, _, rfl, _, _, rfl, rfl, ?_⟩
          -- size
          refine ⟨fun σ H3 => Same H2 H3 ∧ ∃ e, H3 e = some (.tup [.int (g.1.natAbs : Int), .int g.2]) ∧ σ = [some (.ref t), some (vS acc), some (vS n), some (.ref pr), some (.ref e), y5, y6], ?_, fun σ H3 hM => ?_⟩
          · refine ⟨_, rfl, pr, _, _, _, rfl, rfl, SqT.of hpr2, t0, _, rfl, _, rfl, pr, _, _, _, rfl, rfl, SqT.of hpr2, t1, two_line, fun e ne => ?_⟩
            rw [abs_nat]
            exact ⟨same_upd ne, e, upd_same, rfl⟩
          obtain ⟨s3, e, he3, rfl⟩ := hM
          -- word
          refine ⟨fun σ H4 => Same H3 H4 ∧ σ = [some (.ref t), some (vS acc), some (vS n), some (.ref pr), some (.ref e), some (vS (wordL n g)), y6], ?_, fun σ H4 hM => ?_⟩
          · refine ⟨_, rfl, two_line, fun e2 ne2 => ?_⟩
            have s4 := same_upd (o := .tup [V.int 1, .int 1]) ne2
            refine ⟨_, _, dp_fr (s4 _ _ he3), dp_fr upd_same, rfl, rfl, _, rfl, ?_⟩
            rw [eqv_pair]
            refine ite2 (fun c => ?_) (fun c => ?_)
            · refine ⟨_, rfl, s4, ?_⟩
              unfold wordL
              rw [if_pos (of_decide_eq_true c)]
              rfl
            · have tl := txtL_len hu.2.abs
              refine ⟨_, rfl, e, (g.1.natAbs : Int), g.2, rfl, s4 _ _ he3, hu.2.2.1, hu.2.abs.1, hu.2.2.2, fun H' s5 => ⟨_, _, rfl, rfl, ?_, _, rfl, _, _, rfl, rfl, ?_, s4.trans s5, ?_⟩⟩
              · rw [star, SX.S_len, SX.S_len]
                exact small_line (by show (txtL (g.1.natAbs : Int) g.2).length + 1 ≤ 1000; change (txtL (g.1.natAbs : Int) g.2).length ≤ 127 at tl; omega)
              · rw [star, SX.S_cat, SX.S_len, SX.S_len, List.length_append]
                exact small_line (by show (txtL (g.1.natAbs : Int) g.2).length + 1 + n.length ≤ 1000; change (txtL (g.1.natAbs : Int) g.2).length ≤ 127 at tl; omega)
              · unfold wordL
                rw [if_neg (fun z => c (decide_eq_true z)), star, SX.S_cat, SX.S_cat, List.append_assoc]
                rfl
          obtain ⟨s4, rfl⟩ := hM
          have hpr4 := s4 _ _ (s3 _ _ hpr2)
          -- lead
          refine ⟨fun σ H5 => H5 = H4 ∧ σ = [some (.ref t), some (vS acc), some (vS n), some (.ref pr), some (.ref e), some (vS (wordL n g)), some (vS (leadL acc g.1))], ?_, fun σ H5 hM => ?_⟩
          · refine ⟨_, rfl, rfl, _, rfl, ite2 (fun c => ?_) (fun c => ?_)⟩
            · have c : acc = [] := by
                have := V.str.inj (of_decide_eq_true c)
                exact S_inj this
              refine ⟨_, rfl, pr, _, _, _, rfl, rfl, SqT.of hpr4, t0, _, _, rfl, rfl, _, rfl, ite2 (fun d => ⟨rfl, ?_⟩) (fun d => ⟨rfl, ?_⟩)⟩
              · unfold leadL
                rw [if_pos c, if_pos (of_decide_eq_true d)]
                rfl
              · unfold leadL
                rw [if_pos c, if_neg (fun z => d (decide_eq_true z))]
                rfl
            · have c : acc ≠ [] := fun z => c (decide_eq_true (by rw [z]))
              refine ⟨_, rfl, pr, _, _, _, rfl, rfl, SqT.of hpr4, t0, _, _, rfl, rfl, _, rfl, ite2 (fun d => ⟨rfl, ?_⟩) (fun d => ⟨rfl, ?_⟩)⟩
              · unfold leadL
                rw [if_neg c, if_pos (of_decide_eq_true d), minusT]
                rfl
              · unfold leadL
                rw [if_neg c, if_neg (fun z => d (decide_eq_true z)), plusT]
                rfl
          obtain ⟨rfl, rfl⟩ := hM
          refine ⟨_, rfl, _, rfl, _, _, rfl, rfl, ?_, _, rfl, _, _, rfl, rfl, ?_, s2.trans (s3.trans s4), some (vS n), some (.ref pr), some (.ref e), some (vS (wordL n g)), some (vS (leadL acc g.1)), ?_⟩
          · rw [SX.S_len, SX.S_len]
            exact small_line (by omega)
          · rw [SX.S_cat, SX.S_len, SX.S_len, List.length_append]
            exact small_line (by omega)
          · rw [SX.S_cat, SX.S_cat]
            rfl
      · obtain ⟨s2, y2, y3, y4, y5, y6, rfl⟩ := hq
        rw [xl, List.take_length]
        exact ⟨s2, _, _, _, _, _, rfl⟩
    obtain ⟨s2, y2, y3, y4, y5, y6, rfl⟩ := hM
    exact ⟨_, rfl, q H2 s2⟩
end
/-! ### the texts are the same -/
theorem txt_lead (n d : Int) : txtL n d = (if n < 0 then [45] else []) ++ txtL (n.natAbs : Int) d := by
  unfold txtL
  rw [if_neg (show ¬ ((n.natAbs : Int) < 0) by omega), Int.natAbs_natCast]
  rfl
theorem tm_word (x : List Nat) (f : FR) : tmL x f = (if f.1 < 0 then [45] else []) ++ wordL x f := by
  unfold tmL wordL
  by_cases h1 : f = (1, 1)
  · subst h1
    rfl
  · rw [if_neg h1]
    by_cases h2 : f = (-1, 1)
    · subst h2
      rfl
    · have h3 : ¬ ((f.1.natAbs : Int), f.2) = ((1 : Int), (1 : Int)) := fun z => by
        have z1 := (Prod.mk.inj z).1
        have z2 := (Prod.mk.inj z).2
        have : f.1 = 1 ∨ f.1 = -1 := by omega
        rcases this with e | e
        · exact h1 (Prod.ext e z2)
        · exact h2 (Prod.ext e z2)
      rw [if_neg h2, if_neg h3, txt_lead, List.append_assoc]
theorem word_neg (x : List Nat) (f : FR) : wordL x (-f.1, f.2) = wordL x f := by
  unfold wordL
  rw [Int.natAbs_neg]
theorem sums_same {tl : List (List Nat × FR)} (h : tl.length = 1 ∨ tl.length = 2) (hn : ∀ t ∈ tl, t.1 ≠ []) : sumL tl = tsL tl := by
  have first : ∀ (x : List Nat) (f : FR), sumS [] (x, f) = tmL x f := fun x f => by
    rw [tm_word]
    unfold sumS leadL
    rw [if_pos rfl]
    rfl
  have ne : ∀ (x : List Nat) (f : FR), x ≠ [] → tmL x f ≠ [] := fun x f hx z => by
    unfold tmL at z
    split at z
    · exact hx z
    · split at z <;> simp at z
  match tl, h, hn with
  | [(x, f)], _, _ => exact first x f
  | [(x, f), (y, g)], _, hn =>
    show sumS (sumS [] (x, f)) (y, g) = stepT (tmL x f) (y, g)
    rw [first]
    have := ne x f (hn (x, f) List.mem_cons_self)
    unfold sumS stepT leadL
    rw [if_neg this]
    by_cases c : g.1 < 0
    · have e := tm_word y (-g.1, g.2)
      rw [word_neg, if_neg (show ¬ (-g.1 < 0) by omega)] at e
      rw [if_pos c, if_pos c]
      show _ = _ ++ _ ++ tmL y (-g.1, g.2)
      rw [e]
      rfl
    · have e := tm_word y g
      rw [if_neg c] at e
      rw [if_neg c, if_neg c]
      show _ = _ ++ _ ++ tmL y g
      rw [e]
      rfl
  | [], h, _ => simp at h
theorem leT' : (Str.ofString " <= " : Str) = SX.S [32, 60, 61, 32] := by decide +kernel
theorem pow62 {n k : Nat} (h : n < 10 ^ k) (hk : k ≤ 62) : n < 10 ^ 62 := Nat.lt_of_lt_of_le h (Nat.pow_le_pow_right (by decide) hk)
theorem bn_of {f : FR} (h1 : f.1.natAbs < 10 ^ 19) (h2 : f.2.natAbs < 10 ^ 19) : Bn 800 f :=
  ⟨Nat.lt_of_lt_of_le h1 (Nat.le_trans (show 10 ^ 19 ≤ 2 ^ 64 by decide) (Nat.pow_le_pow_right (by decide) (by decide))), Nat.lt_of_lt_of_le h2 (Nat.le_trans (show 10 ^ 19 ≤ 2 ^ 64 by decide) (Nat.pow_le_pow_right (by decide) (by decide)))⟩
theorem NameL.len {x : List Nat} (h : NameL x) : x.length ≤ 7 := h.tx.1
theorem RT.ok {u : Cf} {r : List Cf} {B : FR} (h : RT u r B) : TlOk (rateL (u :: r)) ∧ BdF B ∧ TsOk (rateL (u :: r)) ∧ Fsm B := by
  have l15 : (10 : Nat) ^ 15 ≤ 10 ^ 19 := by decide
  have ln : (rateL (u :: r)).length = 1 ∨ (rateL (u :: r)).length = 2 := by
    unfold rateL
    rw [List.length_map, List.length_cons]
    have := h.len
    omega
  refine ⟨⟨ln, fun t ht => ?_⟩, ⟨bn_of (Nat.lt_of_lt_of_le h.b1 l15) h.b2, h.nf.1⟩, ⟨ln, fun t ht => ?_⟩, ⟨pow62 h.b1 (by decide), h.nf.1, pow62 h.b2 (by decide)⟩⟩
  · obtain ⟨v, hv, rfl⟩ := List.mem_map.mp ht
    exact ⟨h.nq v hv, ⟨bn_of (Nat.lt_of_lt_of_le (h.sz v hv) l15) (by show (1 : Int).natAbs < _; decide), Int.zero_lt_one⟩, (h.nm v hv).len⟩
  · obtain ⟨v, hv, rfl⟩ := List.mem_map.mp ht
    exact ⟨(h.nm v hv).len, pow62 (h.sz v hv) (by decide), Int.zero_lt_one, by show (1 : Int).natAbs < _; exact pow62 (k := 1) (by decide) (by decide)⟩
section
variable {P : Program} {w : World} {K : PySem.W.Frag} {mg : Str → Option Value} {base : Heap} {fa : Nat → Addr} {fd : Nat → FuncData}
def spTieTL : Sp := fun vs H Q _ => ∃ v tl b u r B z, vs = [v] ∧ Dt z H v (tieP tl b) ∧ TlOk tl ∧ BdF b ∧ RT u r B ∧ redL tl = rateL (u :: r) ∧ redF (scl (rts tl)) b = B ∧ ∀ H', Same H H' → Q (vS (textP (tieQ u r B))) H'
theorem ok_tie_text (T : Txt K mg fa fd) : FnOk P w K mg base CX0 6 (fa 160) (fd 160) ["_law_tie"] spTieTL := by
  refine T.F_tie_text.ok sc_tie_text (fun vs H Q E h => ?_) (fun cdv A outer s H vs Q E hr h => ?_)
  · obtain ⟨v, tl, b, u, r, B, z, rfl, _⟩ := h
    rfl
  · obtain ⟨v, tl, b, u, r, B, z, rfl, hv, htl, hbb, hR, e1, e2, q⟩ := h
    refine ⟨_, (C8.pss_cut (ps_asg (pe_call (ok_brief T) (hr.mono (by decide)) (by rfl) T.g_brief T.F_brief.kp T.b_brief .nil pass0 (pa_cons (pv 0) pa_nil)) (pg_tup (by rfl) (pgs_cons (pg_name (i := 1) sc_tie_text.nd rfl (.inl rfl)) (pgs_cons (pg_name (i := 2) sc_tie_text.nd rfl (.inl rfl)) pgs_nil))))
      (pss_one (ps_ret (pe_op op_add_str (pe_op op_add_str (pe_call (ok_sum_text T) (hr.mono (by decide)) (by rfl) T.g_sum_text T.F_sum_text.kp T.b_sum_text .nil pass0 (pa_cons (pv 1) pa_nil)) pe_str) (pe_call (ok_part_text T) (hr.mono (by decide)) (by rfl) T.g_part_text T.F_part_text.kp T.b_part_text .nil pass0 (pa_cons (pv 2) pa_nil)))))), ?_⟩
    obtain ⟨hok, hb, hts, fb⟩ := hR.ok
    have tx := tie_tx hR
    rw [text_tie (hR.nq u List.mem_cons_self) (fun v hv => hR.nq v (List.mem_cons_of_mem _ hv))] at tx q
    have tl' := tx.1
    rw [List.length_append, List.length_append] at tl'
    have same : sumL (rateL (u :: r)) = tsL (rateL (u :: r)) := sums_same hts.1 fun t ht => by
      obtain ⟨w, hw, rfl⟩ := List.mem_map.mp ht
      exact (hR.nm w hw).ne
    refine ⟨fun σ H1 => Same H H1 ∧ ∃ vt pb, Dt z H1 vt (.tuple ((rateL (u :: r)).map tmP)) ∧ H1 pb = some (.tup [.int B.1, .int B.2]) ∧ ∃ y0, σ = [y0, some vt, some (.ref pb)], ?_, fun σ H1 hM => ?_⟩
    · refine ⟨_, rfl, v, tl, b, z, rfl, hv, htl, hbb, fun v' H1 s1 hv' => ?_⟩
      rw [show redP tl b = tieP (rateL (u :: r)) B by show tieP (redL _) (redF _ _) = _; rw [e1, e2]] at hv'
      obtain ⟨P, t, y, xs, rfl, hP, ht, hxs, hy⟩ := tie_inv hv'
      obtain ⟨pb, rfl, hpb⟩ := dt_fr hy
      exact ⟨P, _, rfl, .inl (.inl hP), rfl, _, _, rfl, _, _, rfl, rfl, s1, .ref t, pb, .tup ht hxs, hpb, _, rfl⟩
    obtain ⟨s1, vt, pb, hvt, hpb, y0, rfl⟩ := hM
    have l4 : ([32, 60, 61, 32] : List Nat).length = 4 := rfl
    refine ⟨_, rfl, vt, rateL (u :: r), z, rfl, hvt, hts, fun H2 s2 => ?_⟩
    rw [same]
    refine ⟨_, _, rfl, rfl, ?_, _, rfl, pb, _, _, rfl, s2 _ _ hpb, fb.2.1, fb.1, fb.2.2, fun H3 s3 => ⟨_, _, rfl, rfl, ?_, ?_⟩⟩
    · rw [leT', SX.S_len, SX.S_len]
      exact small_line (by omega)
    · rw [leT', SX.S_cat, SX.S_len, SX.S_len, List.length_append]
      exact small_line (by omega)
    · rw [leT', SX.S_cat, SX.S_cat]
      exact q H3 (s1.trans (s2.trans s3))
end
def Bf (N : Nat) (f : FR) : Prop := f.1.natAbs ≤ N ∧ 0 < f.2 ∧ f.2.natAbs ≤ N
def ValD (H : Hp) (d : Addr) (val : List Nat → FR) (ns : List (List Nat)) : Prop := ∃ kvs, H d = some (.dK kvs) ∧ ∀ x ∈ ns, Bf 10 (val x) ∧ ∃ p, valV kvs (.inr (SX.S x)) = some (.ref p) ∧ H p = some (.tup [.int (val x).1, .int (val x).2])
theorem ValD.same {H H' : Hp} {d : Addr} {val : List Nat → FR} {ns : List (List Nat)} (h : ValD H d val ns) (s : Same H H') : ValD H' d val ns := by
  obtain ⟨kvs, e, k⟩ := h
  refine ⟨kvs, s _ _ e, fun x hx => ?_⟩
  obtain ⟨b, p, e1, e2⟩ := k x hx
  exact ⟨b, p, e1, s _ _ e2⟩
/-! ### drawn values -/
theorem valV_not {kvs : List (Key × V)} {k : Key} (h : k ∉ kvs.map (·.1)) : valV kvs k = none := by
  induction kvs with
  | nil => rfl
  | cons p r ih =>
    rw [List.map_cons, List.mem_cons] at h
    rw [valV_neg (fun z => h (.inl z.symm))]
    exact ih fun z => h (.inr z)
theorem merge_nodup : ∀ (kvs acc : List (Key × V)), ((acc ++ kvs).map (·.1)).Nodup → mergeK acc kvs = acc ++ kvs
  | [], acc, _ => (List.append_nil acc).symm
  | kv :: kvs, acc, h => by
    have h1 : valV acc kv.1 = none := valV_not fun z => by
      rw [List.map_append, List.map_cons] at h
      exact (List.nodup_append.mp h).2.2 _ z _ List.mem_cons_self rfl
    show mergeK (putK acc kv.1 kv.2) kvs = _
    rw [putK_new _ h1, merge_nodup kvs (acc ++ [kv]) (by rw [List.append_assoc]; exact h), List.append_assoc]
    rfl
def okV (v : V) : Prop := False ∨ ∃ q, v = .ref q
def PointD (H : Hp) (d : Addr) (val : List Nat → FR) (ns : List (List Nat)) : Prop := ∃ kvs, H d = some (.dK kvs) ∧ (∀ e ∈ kvs, valV kvs e.1 = some e.2 ∧ okV e.2) ∧ ∀ x ∈ ns, Bf 10 (val x) ∧ ∃ p, valV kvs (.inr (SX.S x)) = some (.ref p) ∧ H p = some (.tup [.int (val x).1, .int (val x).2])
theorem PointD.val {H : Hp} {d : Addr} {val : List Nat → FR} {ns ms : List (List Nat)} (h : PointD H d val ns) (s : ∀ x ∈ ms, x ∈ ns) : ValD H d val ms := by
  obtain ⟨kvs, e, _, k⟩ := h
  exact ⟨kvs, e, fun x hx => k x (s x hx)⟩
theorem PointD.same {H H' : Hp} {d : Addr} {val : List Nat → FR} {ns : List (List Nat)} (h : PointD H d val ns) (s : Same H H') : PointD H' d val ns := by
  obtain ⟨kvs, e, g, k⟩ := h
  refine ⟨kvs, s _ _ e, g, fun x hx => ?_⟩
  obtain ⟨b, p, e1, e2⟩ := k x hx
  exact ⟨b, p, e1, s _ _ e2⟩
section
variable {P : Program} {w : World} {K : PySem.W.Frag} {mg : Str → Option Value} {base : Heap} {fa : Nat → Addr} {fd : Nat → FuncData}
def spPoint : Sp := fun vs H Q _ => ∃ (a c p : Addr) (ws : List (List Nat)), vs = [.ref a, .ref p] ∧ FeedOk H a c ∧ p ≠ a ∧ H p = some (.lst (ws.map vS)) ∧ ws.Nodup ∧ ws.length ≤ 6 ∧ ∀ d val H', FeedOk H' a c → But a H H' → PointD H' d val ws → Q (.ref d) H'
theorem ok_point (T : Txt K mg fa fd) : FnOk P w K mg base CX0 3 (fa 154) (fd 154) ["_law_feed_here", "_law_words_here"] spPoint := by
  refine T.F_point.ok sc_point (fun vs H Q E h => ?_) (fun cdv A outer s H vs Q E hr h => ?_)
  · obtain ⟨a, c, p, ws, rfl, _⟩ := h
    rfl
  · obtain ⟨a, c, p, ws, rfl, hF, npa, hp, hnd, hl, q⟩ := h
    refine ⟨_, (pss_one (ps_ret (pe_callTy (call_dictP rfl) (by rfl) T.m_dict (by decide +kernel) (pa_cons (pe_lc (own := [("_law_name", 2)]) (g := gName 2) (tt := tYes) rfl sc_point.nd (pi_list (pv 1)) (blkOk_by (own := [("_law_name", 2)]) (N := ["_law_feed_here", "_law_words_here", "_law_name"]) (sc := defScope s_point) (by decide +kernel)) (fun _ _ _ _ _ => pg_name (i := 2) sc_point.nd rfl (Or.inl rfl)) (fun _ _ _ _ _ => pts_nil) (fun _ _ _ _ _ => (pe_tup (pa_cons (pv 2) (pa_cons (pe_call (ok_any T) (hr.mono (by decide)) (by rfl) T.g_any T.F_any.kp T.b_any .nil pass0 (pa_cons (pv 0) (pa_cons (pe_lst (pa_cons (pe_tup (pa_cons pe_int (pa_cons pe_int pa_nil))) (pa_cons (pe_tup (pa_cons pe_int (pa_cons pe_int pa_nil))) (pa_cons (pe_tup (pa_cons pe_int (pa_cons pe_int pa_nil))) (pa_cons (pe_tup (pa_cons (pe_un un_neg pe_int) (pa_cons pe_int pa_nil))) (pa_cons (pe_tup (pa_cons pe_int (pa_cons pe_int pa_nil))) (pa_cons (pe_tup (pa_cons pe_int (pa_cons pe_int pa_nil))) (pa_cons (pe_tup (pa_cons (pe_un un_neg pe_int) (pa_cons pe_int pa_nil))) pa_nil)))))))) pa_nil))) pa_nil))))) pa_nil)))), ?_⟩
    refine ⟨_, rfl, p, rfl, ⟨_, SqL.of hp⟩, fun D nD => ?_⟩
    have nDa := new_ne hF nD
    have nDc := new_nc hF nD
    have npD : p ≠ D := ne_of_none hp nD
    refine lc_list (K := K) (a := p) (xs := ws.map vS) (fun i G => FeedOk G a c ∧ But a H G ∧ G p = some (.lst (ws.map vS)) ∧ ∃ (ps : List Addr) (kvs : List (Key × V)), G D = some (.lst (ps.map V.ref)) ∧ Paired (fun p kv => G p = some (.tup [kV kv.1, kv.2])) ps kvs ∧ kvs.map (·.1) = (ws.take i).map (fun x => (.inr (SX.S x) : Key)) ∧ ∀ kv ∈ kvs, ∃ (q : Addr) (f : FR), kv.2 = .ref q ∧ G q = some (.tup [.int f.1, .int f.2]) ∧ Bf 10 f)
      ⟨hF.new nD, But.of (same_upd nD), same_upd nD _ _ hp, [], [], upd_same, .nil, rfl, fun kv h => by cases h⟩ (fun i G _ hq => SqL.of hq.2.2.1) (fun i x G hx hq => ?_) (fun G hq => ?_)
    · obtain ⟨hG, bG, hpG, ps, kvs, hD, hpk, hkeys, hvals⟩ := hq
      rw [List.getElem?_map] at hx
      obtain ⟨x, hxz, rfl⟩ := Option.map_eq_some_iff.mp hx
      refine ⟨rfl, ?_⟩
      refine ⟨_, rfl, _, rfl, (small_line (by decide : 2 ≤ 1000)), fun p1 n1 => ?_⟩
      obtain ⟨s1, d1⟩ := dnewT (z := a) n1 (.cons (.int 0 (by decide +kernel)) (.cons (.int 1 (by decide +kernel)) .nil))
      refine ⟨(small_line (by decide : 2 ≤ 1000)), fun p2 n2 => ?_⟩
      obtain ⟨s2, d2⟩ := dnewT (z := a) n2 (.cons (.int 1 (by decide +kernel)) (.cons (.int 1 (by decide +kernel)) .nil))
      refine ⟨(small_line (by decide : 2 ≤ 1000)), fun p3 n3 => ?_⟩
      obtain ⟨s3, d3⟩ := dnewT (z := a) n3 (.cons (.int 2 (by decide +kernel)) (.cons (.int 1 (by decide +kernel)) .nil))
      refine ⟨_, rfl, (small_line (by decide : 2 ≤ 1000)), fun p4 n4 => ?_⟩
      obtain ⟨s4, d4⟩ := dnewT (z := a) n4 (.cons (.int (-1) (by decide +kernel)) (.cons (.int 1 (by decide +kernel)) .nil))
      refine ⟨(small_line (by decide : 2 ≤ 1000)), fun p5 n5 => ?_⟩
      obtain ⟨s5, d5⟩ := dnewT (z := a) n5 (.cons (.int 1 (by decide +kernel)) (.cons (.int 2 (by decide +kernel)) .nil))
      refine ⟨(small_line (by decide : 2 ≤ 1000)), fun p6 n6 => ?_⟩
      obtain ⟨s6, d6⟩ := dnewT (z := a) n6 (.cons (.int 3 (by decide +kernel)) (.cons (.int 1 (by decide +kernel)) .nil))
      refine ⟨_, rfl, (small_line (by decide : 2 ≤ 1000)), fun p7 n7 => ?_⟩
      obtain ⟨s7, d7⟩ := dnewT (z := a) n7 (.cons (.int (-5) (by decide +kernel)) (.cons (.int 3 (by decide +kernel)) .nil))
      refine ⟨(small_line (by decide : 7 ≤ 1000)), fun p8 n8 => ?_⟩
      obtain ⟨s8, all, hrw⟩ := drow (z := a) n8 (.cons (d1.same (s2.trans (s3.trans (s4.trans (s5.trans (s6.trans s7)))))) (.cons (d2.same (s3.trans (s4.trans (s5.trans (s6.trans s7))))) (.cons (d3.same (s4.trans (s5.trans (s6.trans s7)))) (.cons (d4.same (s5.trans (s6.trans s7))) (.cons (d5.same (s6.trans s7)) (.cons (d6.same s7) (.cons d7 .nil)))))))
      have sR := (s1.trans (s2.trans (s3.trans (s4.trans (s5.trans (s6.trans (s7.trans s8)))))))
      refine ⟨a, c, p8, _, rfl, hG.same sR, hrw, new_ne (hG.same (s1.trans (s2.trans (s3.trans (s4.trans (s5.trans (s6.trans s7))))))) n8, by show 0 < 7; decide, by show 7 ≤ 1000; decide, fun v H2 hv hF2 b2 => ?_⟩
      obtain ⟨d, hd, hdt⟩ := all.mem hv
      have hdt := hdt.but (hG.same sR) b2
      have bb := (But.of (a := a) sR).trans b2
      have tt := TT.but hG bb
      obtain ⟨f, rfl, hf⟩ : ∃ f : FR, d = frP f ∧ Bf 10 f := by
        simp only [List.mem_cons, List.not_mem_nil, or_false] at hd
        rcases hd with rfl | rfl | rfl | rfl | rfl | rfl | rfl
        · exact ⟨(0, 1), rfl, by unfold Bf; decide⟩
        · exact ⟨(1, 1), rfl, by unfold Bf; decide⟩
        · exact ⟨(2, 1), rfl, by unfold Bf; decide⟩
        · exact ⟨(-1, 1), rfl, by unfold Bf; decide⟩
        · exact ⟨(1, 2), rfl, by unfold Bf; decide⟩
        · exact ⟨(3, 1), rfl, by unfold Bf; decide⟩
        · exact ⟨(-5, 3), rfl, by unfold Bf; decide⟩
      obtain ⟨pf, rfl, hpf⟩ := dt_fr hdt
      refine ⟨two_line, fun e ne => ?_⟩
      have se := same_upd (o := .tup [vS x, .ref pf]) ne
      have hD2 := bb _ _ nDa hD
      have hD3 := se _ _ hD2
      have il : i < ws.length := (List.getElem?_eq_some_iff.mp hxz).1
      have kl : kvs.length = ps.length := (Paired.length hpk).symm
      have k2 : kvs.length ≤ 6 := by
        have := congrArg List.length hkeys
        rw [List.length_map, List.length_map, List.length_take] at this
        omega
      refine ⟨ps.map V.ref, hD3, by rw [List.length_map]; exact small1000 (by omega), (hF2.same se).put nDa nDc, ((bG.trans bb).trans (But.of se)).updN nD, ?_, ps ++ [e], kvs ++ [(.inr (SX.S x), .ref pf)], ?_, ?_, ?_, ?_⟩
      · rw [upd_ne npD]
        exact se _ _ (bb _ _ npa hpG)
      · rw [upd_same, List.map_append]
        rfl
      · have t2 := (tt.trans (TT.of se)).trans (TT.upd (zs := ps.map V.ref ++ [.ref e]) hD3)
        refine paired_snoc (paired_mono (fun a b h => t2 _ _ h) hpk) ?_
        exact TT.upd (zs := ps.map V.ref ++ [.ref e]) hD3 _ _ upd_same
      · rw [List.map_append, hkeys, List.take_add_one, hxz, List.map_append]
        rfl
      · intro kv hkv
        have t2 := (tt.trans (TT.of se)).trans (TT.upd (zs := ps.map V.ref ++ [.ref e]) hD3)
        rcases List.mem_append.mp hkv with h | h
        · obtain ⟨q, f, e1, e2, e3⟩ := hvals kv h
          exact ⟨q, f, e1, t2 _ _ e2, e3⟩
        · rw [List.mem_singleton.mp h]
          exact ⟨pf, f, rfl, TT.upd (zs := ps.map V.ref ++ [.ref e]) hD3 _ _ (se _ _ hpf), hf⟩
    · obtain ⟨hG, bG, hpG, ps, kvs, hD, hpk, hkeys, hvals⟩ := hq
      rw [List.length_map, List.take_length] at hkeys
      refine ⟨D, ps, kvs, rfl, SqL.of hD, paired_mono (fun a b h => SqT.of h) hpk, fun d nd => ?_⟩
      have nk : (kvs.map (·.1)).Nodup := by
        rw [hkeys]
        rw [List.Nodup, List.pairwise_map]
        exact List.Pairwise.imp (fun h z => h (S_inj (Sum.inr.inj z))) hnd
      rw [merge_nodup kvs [] nk]
      have sd := same_upd (o := .dK kvs) nd
      have pick : ∀ x, ∃ f : FR, x ∈ ws → Bf 10 f ∧ ∃ q, valV kvs (.inr (SX.S x)) = some (.ref q) ∧ G q = some (.tup [.int f.1, .int f.2]) := fun x => by
        by_cases hx : x ∈ ws
        · have : (.inr (SX.S x) : Key) ∈ kvs.map (·.1) := by
            rw [hkeys]
            exact List.mem_map_of_mem (f := fun x => (.inr (SX.S x) : Key)) hx
          obtain ⟨kv, hkv, ek⟩ := List.mem_map.mp this
          obtain ⟨q, f, e1, e2, e3⟩ := hvals kv hkv
          refine ⟨f, fun _ => ⟨e3, q, ?_, e2⟩⟩
          rw [← ek, val_nodup nk kv hkv, e1]
        · exact ⟨(0, 1), fun h => absurd h hx⟩
      obtain ⟨val, hval⟩ := Classical.axiomOfChoice pick
      refine q d val _ (hG.same sd) (bG.trans (But.of sd)) ⟨kvs, upd_same, fun e he => ⟨val_nodup nk e he, ?_⟩, fun x hx => ?_⟩
      · obtain ⟨q, f, e1, _, _⟩ := hvals e he
        exact .inr ⟨q, e1⟩
      · obtain ⟨h1, q, h2, h3⟩ := hval x hx
        exact ⟨h1, q, h2, sd _ _ h3⟩
end
def totF (val : List Nat → FR) (acc : FR) : List (List Nat × FR) → FR
  | [] => acc
  | t :: r => totF val (addL acc (mulL t.2 (val t.1))) r
theorem totF_app (val : List Nat → FR) : ∀ (l r : List (List Nat × FR)) (acc : FR), totF val acc (l ++ r) = totF val (totF val acc l) r
  | [], _, _ => rfl
  | _ :: l, r, _ => totF_app val l r _
theorem Bf.bn {f : FR} (h : Bf 10 f) : Bn 4 f := ⟨Nat.lt_of_le_of_lt h.1 (by decide), Nat.lt_of_le_of_lt h.2.2 (by decide)⟩
section
variable {P : Program} {w : World} {K : PySem.W.Frag} {mg : Str → Option Value} {base : Heap} {fa : Nat → Addr} {fd : Nat → FuncData}
def spTot (K : PySem.W.Frag) : Sp := fun vs H Q _ => ∃ (l d z : Addr) (xs : List V) (tl : List It) (val : List Nat → FR), vs = [.ref l, .ref d] ∧ SqT K H l xs ∧ DtAll z H xs (tl.map tmP) ∧ tl.length ≤ 2 ∧ (∀ t ∈ tl, Nf t.2 ∧ Bn 3 t.2) ∧ ValD H d val (tl.map (·.1)) ∧
  ∀ p H', Same H H' → FrK K H' p (totF val (0, 1) tl) → Nf (totF val (0, 1) tl) → Bn 40 (totF val (0, 1) tl) → Q (.ref p) H'
theorem ok_total (T : Txt K mg fa fd) : FnOk P w K mg base CX0 5 (fa 152) (fd 152) ["_law_terms_here", "_law_values"] (spTot K) := by
  refine T.F_total.ok sc_total (fun vs H Q E h => ?_) (fun cdv A outer s H vs Q E hr h => ?_)
  · obtain ⟨l, d, z, xs, tl, val, rfl, _⟩ := h
    rfl
  · obtain ⟨l, d, z, xs, tl, val, rfl, hl, hts, tl2, hok, hd, q⟩ := h
    refine ⟨_, (C8.pss_cut (ps_set (i := 2) sc_total.nd rfl (.inl rfl) (pe_tup (pa_cons pe_int (pa_cons pe_int pa_nil))))
      (C8.pss_cut (ps_for PassesOwn.never rfl (pi_tup (pv 0)) (pg_tup (by rfl) (pgs_cons (pg_name (i := 3) sc_total.nd rfl (.inl rfl)) (pgs_cons (pg_name (i := 4) sc_total.nd rfl (.inl rfl)) pgs_nil))) (pss_one (ps_set (i := 2) sc_total.nd rfl (.inl rfl) (pe_call (ok_plus T) (hr.mono (by decide)) (by rfl) T.g_plus T.F_plus.kp T.b_plus .nil pass0 (pa_cons (pv 2) (pa_cons (pe_call (ok_by T) (hr.mono (by decide)) (by rfl) T.g_by T.F_by.kp T.b_by .nil pass0 (pa_cons (pv 4) (pa_cons (pe_dget (Nat.lt_of_le_of_lt (Nat.add_le_add_left (by decide) _) hr.units) (pv 1) (pv 3) (fun _ _ => rfl)) pa_nil))) pa_nil))))))
      (pss_one (ps_ret (pv 2))))), ?_⟩
    have xl : xs.length = tl.length := by
      have := hts.len
      rw [List.length_map] at this
      exact this
    refine ⟨fun σ G => Same H G ∧ ∃ p, FrK K G p (0, 1) ∧ σ = [some (.ref l), some (.ref d), some (.ref p), none, none], ⟨two_line, fun p np => ⟨same_upd np, p, SqT.of upd_same, rfl⟩⟩, fun σ G hM => ?_⟩
    obtain ⟨s1, p0, hp0, rfl⟩ := hM
    refine ⟨fun σ G => Same H G ∧ ∃ p y3 y4, FrK K G p (totF val (0, 1) tl) ∧ Nf (totF val (0, 1) tl) ∧ Bn 40 (totF val (0, 1) tl) ∧ σ = [some (.ref l), some (.ref d), some (.ref p), y3, y4], ?_, fun σ G hM => ?_⟩
    · refine ⟨_, rfl, l, rfl, ⟨_, SqT.sm s1 _ _ hl⟩, for_tup (K := K) (a := l) (xs := xs) (fun i σ G => Same H G ∧ ∃ p y3 y4, FrK K G p (totF val (0, 1) (tl.take i)) ∧ Nf (totF val (0, 1) (tl.take i)) ∧ Bn (1 + 8 * i) (totF val (0, 1) (tl.take i)) ∧ σ = [some (.ref l), some (.ref d), some (.ref p), y3, y4]) ⟨s1, p0, _, _, hp0, nf_01, bn_01, rfl⟩ (fun i σ G _ hq => SqT.sm hq.1 _ _ hl) (fun i x σ G hx hq => ?_) (fun σ G hq => ?_)⟩
      · obtain ⟨sG, p, y3, y4, hp, np, bp, rfl⟩ := hq
        obtain ⟨dt, hdd, hdt⟩ := DtAll.at i hts hx
        rw [List.getElem?_map] at hdd
        obtain ⟨⟨n, f⟩, he, rfl⟩ := Option.map_eq_some_iff.mp hdd
        obtain ⟨nf, bf⟩ : Nf f ∧ Bn 3 f := hok _ (List.mem_of_getElem? he)
        have il : i < tl.length := (List.getElem?_eq_some_iff.mp he).1
        change Dt _ _ _ (.tuple [.str (SX.S n), frP f]) at hdt
        obtain ⟨kvs, hk, hkv⟩ := hd
        obtain ⟨bv, pv, ev, hpv⟩ := hkv n (List.mem_map_of_mem (f := fun t : List Nat × FR => t.1) (List.mem_of_getElem? he))
        match x, hdt with
        | _, .tup (a := pp) hpp (.cons (.str _ _) (.cons hr' .nil)) =>
          obtain ⟨pr, rfl, hpr⟩ := dt_fr hr'
          refine ⟨pp, _, rfl, .inl (.inl (sG _ _ hpp)), rfl, _, _, rfl, _, _, rfl, rfl, _, rfl, _, rfl, _, rfl, _, rfl, d, _, rfl, by rw [← ev]; exact DGet.k (k := Sum.inr (SX.S n)) (sG _ _ hk), ?_⟩
          refine ⟨pr, pv, f, val n, rfl, SqT.of (sG _ _ hpr), SqT.of (sG _ _ hpv), nf.1, bv.2.1, bf.mono (by decide), bv.bn.mono (by decide), fun e ne => ?_⟩
          have se := same_upd (o := trF (mulL f (val n))) ne
          have bm := bf.mul bv.bn nf.1 bv.2.1
          have nm : Nf (mulL f (val n)) := nf_low (Int.mul_ne_zero (by have := nf.1; omega) (by have := bv.2.1; omega))
          refine ⟨p, e, totF val (0, 1) (tl.take i), mulL f (val n), rfl, SqT.sm se _ _ hp, SqT.of upd_same, np.1, nm.1, bp.mono (by omega), bm.mono (by decide), fun e2 ne2 => ?_⟩
          have se2 := same_upd (o := trF (addL (totF val (0, 1) (tl.take i)) (mulL f (val n)))) ne2
          have et : totF val (0, 1) (tl.take (i + 1)) = addL (totF val (0, 1) (tl.take i)) (mulL f (val n)) := by
            rw [List.take_add_one, he]
            show totF val (0, 1) (tl.take i ++ [(n, f)]) = _
            rw [totF_app]
            rfl
          refine ⟨sG.trans (se.trans se2), e2, some (.str (SX.S n)), some (.ref pr), ?_, ?_, ?_, rfl⟩
          · rw [et]
            exact SqT.of upd_same
          · rw [et]
            exact addL_nf np.1 nm.1
          · rw [et]
            exact (bp.add bm np.1 nm.1).mono (by omega)
      · obtain ⟨sG, p, y3, y4, hp, np, bp, rfl⟩ := hq
        rw [xl] at bp
        rw [xl, List.take_length] at hp np
        rw [List.take_length] at bp
        exact ⟨sG, p, _, _, hp, np, bp.mono (by omega), rfl⟩
    obtain ⟨sG, p, y3, y4, hp, np, bp, rfl⟩ := hM
    exact ⟨_, rfl, q p G sG hp np bp⟩
end
/-! ### for i, x in enumerate(tuple) -/
section
open AutoSeq1 (wpAny_loadPart')
set_option maxHeartbeats 1000000 in
theorem en1_meets {v : Value} {ob : Obj} {G : Heap → Prop} (B : Begins v ob G) : Meets (Builtin.«enumerate.__new__» ⟨[.type "enumerate", v], []⟩) (fun _ R s => G s.heap ∧
      R (.ok (.ret (.ref (s.heap.push ob).objs.size))) { s with heap := (s.heap.push ob).push { cls := .type "enumerate", data := .fields #[.none, .bool false, .ref s.heap.objs.size, rawInt 0, .none, .none] } }) := .of_wp fun prog w A R s hG => by
  obtain ⟨hp, gg, dr, tk, os⟩ := s
  obtain ⟨g1, hG⟩ := hG
  have se := sub_enumerate
  have pit : ∀ {A' : Around} {E' : Value → Shared → Prop} {Q' : Value → Shared → Prop}, Q' (.ref hp.objs.size) ⟨hp.push ob, gg, dr, tk, os⟩ → wpAny (model prog w) A' (pyIter v) Q' E' ⟨hp, gg, dr, tk, os⟩ := fun q => B.iter prog w _ _ ⟨hp, gg, dr, tk, os⟩ _ g1 q
  wp_walk using pit
  refine wpAny_stack_any fun _ => wpAny_pure ?_
  split
  · rename_i c' _ _ _ _ _
    cases (c' == Value.type "enumerate") <;> (wp_walk using pit; exact ⟨_, rfl, hG⟩)
  · wp_walk using pit
    exact ⟨_, rfl, hG⟩
theorem en1_call {prog : Program} {w : World} {A : Around} {E : Value → Shared → Prop} {s : Shared} {v : Value} {ob : Obj} {G : Heap → Prop} {Q : Value → Shared → Prop} (B : Begins v ob G) (g1 : G s.heap)
    (q : ∀ h', IsEnum h' (s.heap.objs.size + 1) s.heap.objs.size 0 .none → h'.get? s.heap.objs.size = some ob → (∀ b o, s.heap.get? b = some o → h'.get? b = some o) → Q (.ref (s.heap.objs.size + 1)) { s with heap := h' }) :
    wpAny (model prog w) A (call (.type "enumerate") [v]) Q E s := by
  refine callType_new F.called_enumerate (by decide) (F.typeCall_enumerate_1 _) (F.newCall_enumerate_1 _) (fun x => F.args_object_init_2 x _) F.entry_enumerate_new (en1_meets B) ⟨g1, ?_⟩
  have z1 : (s.heap.push ob).objs.size = s.heap.objs.size + 1 := Heap.size_push ..
  have e1 := Heap.get?_push_size (s.heap.push ob) (o := { cls := .type "enumerate", data := .fields #[.none, .bool false, .ref s.heap.objs.size, rawInt 0, .none, .none] }) rfl
  show _ ∧ _
  rw [z1] at e1 ⊢
  exact ⟨⟨_, e1, rfl⟩, q _ e1 (Heap.get?_push_of_some _ (Heap.get?_push_size _ B.free)) fun b o x => Heap.get?_push_of_some _ (Heap.get?_push_of_some _ x)⟩
end
/-- each item of the tuple at a in a new pair -/
def IteT (K : PySem.W.Frag) (a : Addr) : L2.It :=
  ⟨fun i H => ∃ (xs : List V) (x : V), SqT K H a xs ∧ xs[i]? = some x, fun i H v H' => ∃ T x, v = .ref T ∧ H T = none ∧ H' = upd H T (.tup [.int (i : Nat), x]) ∧ ∀ ys, SqT K H a ys → ys[i]? = some x, fun i H => ∃ xs : List V, SqT K H a xs ∧ xs.length ≤ i⟩
theorem turn_enumT {P : Program} {w : World} {K : PySem.W.Frag} {elts : List Expr} {kk : Nat} {tpos : Pos} (a e it : Addr) :
    Turn P w K (.Tuple elts kk tpos) (IteT K a) [e, it] e (fun i h => (∃ v, IsEnum h e it ((i : Nat) : Int) v) ∧ h.IsTupleIter it a i ∧ e ≠ it ∧ e ≠ a ∧ a ≠ it) where
  mem := List.mem_cons_self
  obj := fun i h st b hb => by
    obtain ⟨⟨v0, he⟩, ⟨o, ho, hc, hd⟩, _⟩ := st
    rcases (by simpa using hb : b = e ∨ b = it) with rfl | rfl
    · exact ⟨_, he, fun v q => nomatch q⟩
    · exact ⟨o, ho, fun v q => by rw [hd] at q; cases q⟩
  keep := fun i h h' st k => by
    obtain ⟨⟨v0, he⟩, hit, n1, n2, n3⟩ := st
    exact ⟨⟨v0, k e List.mem_cons_self _ he⟩, hit.at fun o q => k it (List.mem_cons_of_mem _ List.mem_cons_self) o q, n1, n2, n3⟩
  item := by
    intro X hP hw hK hc i pins s σ H E I hf st hg
    cases hP
    cases hw
    cases hK
    obtain ⟨⟨v0, he⟩, hit, n1, n2, n3⟩ := st
    obtain ⟨xs, x, hq, hx⟩ := hg
    obtain ⟨us, rv, tp, hz⟩ := I.tuple hq
    obtain ⟨u, hu, ru⟩ := rv.get hx
    have le1 : e < s.heap.objs.size := Heap.lt_size he
    have le2 : it < s.heap.objs.size := by
      obtain ⟨_, q, _⟩ := hit
      exact Heap.lt_size q
    have tp' : s.heap.IsTuple a us.toArray := tp
    have hh : X.A.in1.handled = none := I.ok.hd hc
    refine wpAny_pyNext_enum_itemD (Draws.tuple hh it a n3 us.toArray) he ⟨hit, tp'⟩ (i := i) (by have := (List.getElem?_eq_some_iff.mp hu).1; simpa using this) n1 (by simp [n1, n2]) fun y h1 tk hy ho hst hT hsz hk => ?_
    have ey : y = u := by
      have hy' : us.toArray[i]? = some y := hy
      rw [List.getElem?_toArray, hu] at hy'
      exact (Option.some.inj hy').symm
    subst ey
    refine ⟨_, rfl, wpAny_letOwnedTupleGo_enum (s := { s with heap := h1, toks := tk + 1 }) ho fun h2 he2 sb => ?_⟩
    have hT2 : h2.get? s.heap.objs.size = some { cls := .type "tuple", data := .seq #[.int i tk, y] } := (sb.2 _ (Nat.ne_of_gt le1)).trans hT
    have newO : ObjOk X.prog X.w (upd H s.heap.objs.size (.tup [.int (i : Nat), x])) h2 s.heap.objs.size (.tup [.int (i : Nat), x]) :=
      ⟨by show 2 ≤ sizeLine; decide, [.int i tk, y], .cons ⟨_, rfl⟩ (.cons ru .nil), ⟨_, hT2, rfl, _, rfl⟩⟩
    have I1 : Inv X pins σ (upd H s.heap.objs.size (.tup [.int (i : Nat), x])) { s with heap := h2, toks := tk + 1 } :=
      I.turnedNew (ch := [e, it]) (fun b ob hb q => (sb.2 b (fun z => hb (by simp [z]))).trans (hk b ob (fun z => hb (by simp [z])) (fun z => hb (by simp [z])) q)) hf (Nat.le_refl _) newO
    refine ⟨.ref s.heap.objs.size, _, I1, rfl, ⟨_, x, rfl, I.hok.fresh (Nat.le_refl _), rfl, fun ys hy2 => by rw [I.tuple_inj hy2 hq]; exact hx⟩, ⟨⟨y, ?_⟩, hst.1.at fun o q => (sb.2 it (Ne.symm n1)).trans q, n1, n2, n3⟩, fun b hb => ?_⟩
    · rw [show ((i + 1 : Nat) : Int) = (i : Int) + 1 by omega]
      exact he2
    · have lb : b < s.heap.objs.size := by
        rcases (by simpa using hb : b = e ∨ b = it) with rfl | rfl
        · exact le1
        · exact le2
      rw [upd_ne (Nat.ne_of_lt lb)]
      exact (hf b hb).1
  done := by
    intro X hP hw hK hc i pins s σ H E I hf st hg
    cases hP
    cases hw
    cases hK
    obtain ⟨⟨v0, he⟩, hit, n1, n2, n3⟩ := st
    obtain ⟨xs, hq, hx⟩ := hg
    obtain ⟨us, rv, tp, hz⟩ := I.tuple hq
    have tp' : s.heap.IsTuple a us.toArray := tp
    obtain ⟨f0, f1, f2, f3, f4, f5⟩ := hf it (List.mem_cons_of_mem _ List.mem_cons_self)
    have hl := rv.length
    have hh : X.A.in1.handled = none := I.ok.hd hc
    have D0 : Draws X.prog X.w X.A.in1 it [it, a] 0 (fun _ _ => False) (fun _ h => h.IsTupleIter it a i ∧ h.IsTuple a us.toArray) := {
      live := fun _ _ st => by
        obtain ⟨o, ho, _⟩ := st.1
        exact ⟨o, ho⟩
      frame := fun _ _ _ st k => ⟨st.1.at fun o e => k it List.mem_cons_self o e, st.2.at fun o e => k a (List.mem_cons_of_mem _ List.mem_cons_self) o e⟩
      item := fun _ _ _ _ z => absurd z (Nat.not_lt_zero _)
      done := fun s Q E st q => wpAny_nextOf_tuple_end hh st.1 st.2 (by simp; omega) q }
    exact wpAny_pyNext_enum_endD D0 he ⟨hit, tp'⟩ fun h1 eb => ⟨rfl, I.turned (t' := s.toks) (fun b o hb q => eb b o (fun z => hb (by simp [z])) q) f0 f1 f3 f4 f5⟩
  self := fun A i s Q E st h => by
    obtain ⟨⟨_, he⟩, _⟩ := st
    exact wpAny_pyIter_enum he h
def iEnumT (K : PySem.W.Frag) (ta : TA) : TI := fun σ H R => ta σ H fun vs H1 => ∃ a xs, vs = [.ref a] ∧ SqT K H1 a xs ∧ R (IteT K a) H1
theorem pi_enumT {X : Cx} {e : Expr} {ta : TA} {p pos tpos : Pos} {elts : List Expr} {kk : Nat} (hg : Gl X "enumerate") (hm : X.mg "enumerate" = none) (ha : PA X [e] ta) (hs : starEach [e] X.env = [(false, eval e X.env)] := by rfl) :
    PI X (.Tuple elts kk tpos) (.Call (.Name "enumerate" p) [e] [] pos) (iEnumT X.K ta) := by
  refine ⟨fun pins s σ H R I h => ?_⟩
  refine Call_ (ld_blt I hg hm boot_enumerate (PyProof.Rows.callWith_type1 (thn (ha.run pos pins s σ H _ I h) fun us s1 ⟨vs, H1, I1, r1, a, xs, ex, hq, q⟩ => ?_) hs rfl))
  subst ex
  obtain ⟨u0, rfl, r0⟩ : ∃ u, us = [u] ∧ RelV (.ref a) u := by
    cases r1 with
    | cons r rr =>
      cases rr
      exact ⟨_, rfl, r⟩
  obtain rfl : u0 = Value.ref a := r0
  obtain ⟨its, rv, tp, hz⟩ := I1.tuple hq
  have tp' : s1.heap.IsTuple a its.toArray := tp
  have la : a < s1.heap.objs.size := by
    obtain ⟨o, q0, _⟩ := id tp'
    exact Heap.lt_size q0
  refine en1_call (begins_tuple a its.toArray) tp' fun h1 he ho hk => wpAny_pyIter_enum he ?_
  have I2 : Inv X pins σ H1 { s1 with heap := h1 } := I1.kept (t' := s1.toks) hk
  have nb : ∀ b ∈ [s1.heap.objs.size + 1, s1.heap.objs.size], s1.heap.objs.size ≤ b := fun b hb => by
    rcases (by simpa using hb : b = s1.heap.objs.size + 1 ∨ b = s1.heap.objs.size) with rfl | rfl
    · exact Nat.le_succ _
    · exact Nat.le_refl _
  exact ⟨s1.heap.objs.size + 1, [s1.heap.objs.size + 1, s1.heap.objs.size], _, _, H1, rfl, I2, turn_enumT a (s1.heap.objs.size + 1) s1.heap.objs.size,
    ⟨⟨.none, he⟩, ⟨_, ho, rfl, rfl⟩, Nat.succ_ne_self _, Nat.ne_of_gt (Nat.lt_succ_of_lt la), Nat.ne_of_lt la⟩, fun b hb => I1.fpOk (nb b hb) (I1.hok.fresh (nb b hb)), q⟩
theorem for_enumT {K : PySem.W.Frag} {a : Addr} {xs : List V} {g : TG} {tb : TS} {D : Ends} {σ : L2.St} {H : Hp} (Pv : Nat → L2.St → Hp → Prop) (h0 : Pv 0 σ H) (hl : ∀ i σ H, i ≤ xs.length → Pv i σ H → SqT K H a xs)
    (hs : ∀ i x σ H T, xs[i]? = some x → Pv i σ H → H T = none → g (.ref T) σ (upd H T (.tup [.int (i : Nat), x])) fun σ2 H2 => tb { D with nx := Pv (i + 1), ct := Pv (i + 1), bk := D.nx } σ2 H2) (hd : ∀ σ H, Pv xs.length σ H → D.nx σ H) :
    ∃ W : Nat → Nat → L2.St → Hp → Prop, (∃ m, W 0 m σ H) ∧ ∀ i m σ H, W i m σ H →
      ((IteT K a).stop i H ∧ D.nx σ H) ∨ ((IteT K a).go i H ∧ ∃ N : L2.St → Hp → Prop, (∀ σ' H', N σ' H' → ∃ m', m' < m ∧ W (i + 1) m' σ' H') ∧ ∀ x H', (IteT K a).yld i H x H' → g x σ H' fun σ2 H2 => tb { D with nx := N, ct := N, bk := D.nx } σ2 H2) := by
  refine ⟨fun i m σ H => m + i = xs.length ∧ Pv i σ H, ⟨xs.length, rfl, h0⟩, ?_⟩
  intro i m σ H hw
  obtain ⟨hm, p⟩ := hw
  have q := hl i σ H (by omega) p
  cases m with
  | zero =>
    obtain rfl : i = xs.length := by omega
    exact .inl ⟨⟨xs, q, Nat.le_refl _⟩, hd σ H p⟩
  | succ m =>
    have lt : i < xs.length := by omega
    refine .inr ⟨⟨xs, xs[i], q, List.getElem?_eq_getElem lt⟩, Pv (i + 1), fun σ' H' p' => ⟨m, Nat.lt_succ_self m, by omega, p'⟩, fun v H' y => ?_⟩
    obtain ⟨T, x, rfl, nT, rfl, hx⟩ := y
    exact hs i x σ H T (hx xs q) p nT
/-! ### len, repr, == of an own class's instance, by its own defs -/
section
variable {X : Cx} {CX : CXT} {C f : Addr} {fd : FuncData} {ps : List Str} {n : Nat} {sp : Sp} {E : XK}
theorem own_run (F : FnOk X.prog X.w X.K X.mg X.base CX n f fd ps sp) (hb : Binds X.K fd ps []) (hx : Passes CX X E) {A : Around} {pins : List (Addr × Obj)} {σ : L2.St} {H : Hp} {s : Shared} {vs : List V} {us : List Value} {Q : VK}
    (sb : L2.Sub X n A) (I : Inv X pins σ H s) (rv : Vals vs us) (h : sp vs H Q E) : wpAny (model X.prog X.w) A (call (.ref f) us) (EP X pins σ Q) X.xe s := by
  have e0 : Env0 X.prog X.w X.K X.mg X.base A X.stack s H := by
    have e := I.env0
    exact ⟨by rw [sb.fr]; exact e.frames, e.mod, e.bs, e.bsz, e.funs, e.frf, e.hok, e.bare⟩
  have hl := F.len _ _ _ _ h
  refine wpAny_call (codeAny_mono (F.run A X.stack s H ⟨us, []⟩ us vs Q E sb.room e0 (by
    have := hb s us I.kIn (by rw [List.append_nil, ← rv.length]; exact hl)
    simpa using this) rv h) fun r s' hq => ?_)
  cases r with
  | error e => exact hx pins σ H s e s' I hq
  | ok fl =>
    cases fl with
    | ret w => exact I.after hq
    | next => exact False.elim hq
    | brk => exact False.elim hq
    | cont => exact False.elim hq
theorem call_lenO (F : FnOk X.prog X.w X.K X.mg X.base CX n f fd ps sp) (hs : PySem.W.findIn X.K (.ref C) "__len__" = some (some (.ref f))) (hf : PySem.W.isFn X.K (.ref f) = true) (hb : Binds X.K fd ps []) (hx : Passes CX X E) (hr : Room (n + 1) X.A) :
    CallR X (.builtin "len") (fun xs H Q => ∃ a dx fs, xs = [.ref a] ∧ H a = some (.ins C dx fs) ∧ sp [.ref a] H (fun v H' => ∃ m : Nat, v = .int (m : Int) ∧ m ≤ 1000 ∧ Q v H') E) := by
  intro pins s σ H xs us Q I r h
  obtain ⟨a, dx, fs, rfl, ha, q⟩ := h
  obtain ⟨u, rfl, rx⟩ := vals1 r
  cases rx
  obtain ⟨mA, J, _⟩ := ins_get I.hok ha
  obtain ⟨od, J, _⟩ := J.look
  obtain ⟨m, hF⟩ := I.fr
  refine PySem.W.len_K hF I.ok.mod.kin J hs hf (wpAny_mono (own_run F hb hx (L2.Sub.in1 ⟨hr, rfl⟩) I (show Vals [V.ref a] [Value.ref a] from .cons rfl .nil) q) (fun v s' hv => ?_) fun _ _ y => y)
  obtain ⟨z, H', I', rz, k, rfl, hk, hq⟩ := hv
  obtain ⟨t, rfl⟩ := rz
  exact ⟨⟨by omega, by omega⟩, .int (k : Int), H', I'.tok _, ⟨_, rfl⟩, hq⟩
theorem call_reprO (F : FnOk X.prog X.w X.K X.mg X.base CX n f fd ps sp) (hs : PySem.W.findIn X.K (.ref C) "__repr__" = some (some (.ref f))) (hf : PySem.W.isFn X.K (.ref f) = true) (hb : Binds X.K fd ps []) (hx : Passes CX X E) (hr : Room (n + 1) X.A) :
    CallR X (.builtin "repr") (fun xs H Q => ∃ a dx fs, xs = [.ref a] ∧ H a = some (.ins C dx fs) ∧ sp [.ref a] H (fun v H' => (∃ z, v = .str z) ∧ Q v H') E) := by
  intro pins s σ H xs us Q I r h
  obtain ⟨a, dx, fs, rfl, ha, q⟩ := h
  obtain ⟨u, rfl, rx⟩ := vals1 r
  cases rx
  obtain ⟨mA, J, _⟩ := ins_get I.hok ha
  obtain ⟨od, J, _⟩ := J.look
  obtain ⟨m, hF⟩ := I.fr
  refine PySem.W.repr_K hr.in1.units0 hF I.ok.mod.kin J hs hf (wpAny_mono (own_run F hb hx (L2.Sub.in1 ⟨hr, rfl⟩) I (show Vals [V.ref a] [Value.ref a] from .cons rfl .nil) q) (fun v s' hv => ?_) fun _ _ y => y)
  obtain ⟨z, H', I', rz, ⟨x, rfl⟩, hq⟩ := hv
  obtain ⟨t, rfl⟩ := rz
  exact ⟨.str x, H', I', ⟨_, rfl⟩, hq⟩
/-- what stands on the right: an instance of the class, or a list -/
def EqR (C : Addr) (H : Hp) (y : V) : Prop := (∃ b dy gs, y = .ref b ∧ H b = some (.ins C dy gs)) ∨ ∃ b ys, y = .ref b ∧ H b = some (.lst ys)
theorem op_eqO (F : FnOk X.prog X.w X.K X.mg X.base CX n f fd ps sp) (hs : PySem.W.findIn X.K (.ref C) "__eq__" = some (some (.ref f))) (hf : PySem.W.isFn X.K (.ref f) = true) (hb : Binds X.K fd ps []) (hx : Passes CX X E) (hr : Room n X.A) :
    OpR X (compareOp .Eq) (fun x y H Q => ∃ a dx fs, x = .ref a ∧ H a = some (.ins C dx fs) ∧ EqR C H y ∧ sp [.ref a, y] H (fun v H' => (∃ b, v = .bl b) ∧ Q v H') E) := by
  intro pins s σ H x y v u Q I rx ry h
  obtain ⟨a, dx, fs, rfl, ha, hy, q⟩ := h
  cases rx
  obtain ⟨mA, J, _⟩ := ins_get I.hok ha
  obtain ⟨od, J, _⟩ := J.look
  obtain ⟨m, hF⟩ := I.fr
  have go : wpAny (model X.prog X.w) X.A (call (.ref f) [.ref a, u]) (EP X pins σ fun v H' => (∃ b, v = .bl b) ∧ Q v H') X.xe s := own_run F hb hx ⟨hr, rfl⟩ I (show Vals [V.ref a, y] [Value.ref a, u] from .cons rfl (.cons ry .nil)) q
  have back : ∀ r s', EP X pins σ (fun v H' => (∃ b, v = .bl b) ∧ Q v H') r s' → PySem.W.CmpBack (EP X pins σ Q) r s' := fun r s' hv => by
    obtain ⟨z, H', I', rz, ⟨b, rfl⟩, hq⟩ := hv
    cases rz
    exact ⟨.bl b, H', I', rfl, hq⟩
  rcases hy with ⟨b, dy, gs, rfl, hb'⟩ | ⟨b, ys, rfl, hb'⟩
  · cases ry
    obtain ⟨mB, J', _⟩ := ins_get I.hok hb'
    obtain ⟨od', J', _⟩ := J'.look
    exact PySem.W.cmp_K (op := .Eq) (tb := .ref C) hr.units0 hF I.ok.mod.kin J J'.type (by simp [PySem.W.notFirst]) hs hf (wpAny_mono go back fun _ _ y => y)
  · cases ry
    obtain ⟨its, _, pl, _⟩ := I.list (SqL.of hb' : SqL X.K H b ys)
    have ty : PySem.W.Looks (model X.prog X.w) s.heap (typeOf (.ref b)) (.type "list") := by
      obtain ⟨o, k, e, c, _⟩ := pl
      rw [← c]
      exact (PySem.W.Looks.ld (part := none) e).andThen .now
    exact PySem.W.cmp_K (op := .Eq) (tb := .type "list") hr.units0 hF I.ok.mod.kin J ty (by rfl) hs hf (wpAny_mono go back fun _ _ y => y)
end
theorem lw_uni {x : List Nat} (h : LW x) : PyData.strOk (SX.S x) = true := by
  unfold PyData.strOk
  show (x.toArray.all _) = true
  rw [List.all_toArray, List.all_eq_true]
  intro c hc
  have := List.all_eq_true.mp h.2.2 c hc
  unfold lowc at this
  rw [Bool.and_eq_true, decide_eq_true_eq, decide_eq_true_eq] at this
  exact decide_eq_true (by omega)
theorem lw_nm {x : List Nat} (h : LW x) : nameB x = true ∧ x.length ≤ 7 := by
  have := name_lw h (k := 0) (by decide)
  rw [List.replicate_zero, List.append_nil] at this
  exact this
theorem dws {K : PySem.W.Frag} (H : Hp) : ∀ l : List (List Nat), DpAll K H (l.map vS) (l.map fun x => PyData.str (SX.S x))
  | [] => .nil
  | _ :: l => .cons (.str _) (dws H l)
/-- a name as it may be drawn, with or without an apostrophe -/
def NX (x : List Nat) : Prop := PyData.strOk (SX.S x) = true ∧ (nameB x = true ∧ x.length ≤ 7)
theorem nx_lw {x : List Nat} (h : LW x) : NX x := ⟨lw_uni h, lw_nm h⟩
theorem nx_dash {x : List Nat} (h : LW x) : NX (x ++ [39]) := by
  have e := name_lw h (k := 1) (by decide)
  refine ⟨?_, e⟩
  have u := lw_uni h
  unfold PyData.strOk at u ⊢
  have u2 : (x.toArray.all fun c => decide (c < 0x110000)) = true := u
  show ((x ++ [39]).toArray.all fun c => decide (c < 0x110000)) = true
  rw [List.all_toArray] at u2 ⊢
  rw [List.all_append, u2]
  rfl
theorem lay_nx : ∀ l : List (List Nat), (∀ x ∈ l, NX x) → PyData.canLayAll0 (l.map fun x => PyData.str (SX.S x)) = true ∧ PyData.depthAll (l.map fun x => PyData.str (SX.S x)) ≤ 0
  | [], _ => ⟨rfl, Nat.zero_le _⟩
  | x :: l, h => by
    obtain ⟨h1, h2⟩ := lay_nx l fun y hy => h y (List.mem_cons_of_mem _ hy)
    constructor
    · show (PyData.strOk (SX.S x) && PyData.canLayAll0 (l.map fun x => PyData.str (SX.S x))) = true
      rw [(h x List.mem_cons_self).1, h1]
      rfl
    · rw [List.map_cons, PyData.depthAll.eq_2]
      have : (PyData.str (SX.S x)).depth = 0 := rfl
      omega
theorem shaped_nx {l : List (List Nat)} (h : ∀ x ∈ l, NX x) : SeqAt.shaped (.list (l.map fun x => PyData.str (SX.S x))) = true := by
  obtain ⟨h1, h2⟩ := lay_nx l h
  unfold SeqAt.shaped
  rw [PyData.canLay0.eq_5, PyData.depth.eq_1, h1, Bool.true_and, decide_eq_true_eq]
  omega
theorem iteFq {c : Bool} {A B : Prop} (h : c = false) (b : B) : ite (c = true) A B := by rw [h]; exact b
theorem iteTq {c : Bool} {A B : Prop} (h : c = true) (a : A) : ite (c = true) A B := by rw [h]; exact a
/-! ### ties that are drawn -/
/-- everything but lists stays -/
def NL (H H' : Hp) : Prop := ∀ c o, H c = some o → (∀ xs, o ≠ .lst xs) → H' c = some o
theorem NL.of {H H' : Hp} (s : Same H H') : NL H H' := fun c o e _ => s c o e
theorem NL.but {a c : Addr} {H H' : Hp} (hF : FeedOk H a c) (b : But a H H') : NL H H' := fun p o e n => by
  obtain ⟨ns, k, big, mark, ha, _⟩ := hF
  exact b p o (ne_of e ha (n _)) e
theorem NL.upd {H : Hp} {D : Addr} {ys zs : List V} (hD : H D = some (.lst ys)) : NL H (upd H D (.lst zs)) := fun p o e n => by
  rw [upd_ne (ne_of e hD (n _))]
  exact e
theorem NL.trans {H H1 H2 : Hp} (h : NL H H1) (k : NL H1 H2) : NL H H2 := fun p o e n => k p o (h p o e n) n
theorem NL.tt {H H' : Hp} (h : NL H H') : TT H H' := fun p xs e => h p _ e (by intro ys z; cases z)
theorem noL_tie (t : Tie) : noL (tieP t.1 t.2) = true := by
  show (noLs (t.1.map tmP) && (noL (frP t.2) && true)) = true
  rw [noLs_tm]
  rfl
def TieU (z : Addr) (H : Hp) (v : V) (t : Tie) : Prop := Dt z H v (tieP t.1 t.2)
theorem TieU.nl {z z' : Addr} {H H' : Hp} {v : V} {t : Tie} (h : TieU z H v t) (s : NL H H') : TieU z' H' v t := Dt.tups s.tt _ _ (noL_tie t) h
theorem PointD.nl {H H' : Hp} {d : Addr} {val : List Nat → FR} {ns : List (List Nat)} (h : PointD H d val ns) (s : NL H H') : PointD H' d val ns := by
  obtain ⟨kvs, e, g, k⟩ := h
  refine ⟨kvs, s _ _ e (by intro ys z; cases z), g, fun x hx => ?_⟩
  obtain ⟨b, p, e1, e2⟩ := k x hx
  exact ⟨b, p, e1, s _ _ e2 (by intro ys z; cases z)⟩
structure TieG (ws : List (List Nat)) (t : Tie) : Prop where
  ln : t.1.length = 1 ∨ t.1.length = 2
  ws : ∀ u ∈ t.1, u.1 ∈ ws ∧ u.2 ∈ RR
  so : SrtN t.1
  nf : Nf t.2
  bs : BdS t.2
  td : termsD (.tuple (t.1.map tmP)) = true
/-- bounds for both parts -/
def ND (N D : Nat) (f : FR) : Prop := f.1.natAbs ≤ N ∧ 0 < f.2 ∧ f.2.natAbs ≤ D
theorem ND.low {N D : Nat} {u v : Int} (hv : 0 < v) (h1 : u.natAbs ≤ N) (h2 : v.natAbs ≤ D) : ND N D (lowF u v) := by
  have a := lowT_abs (u := u) (v := v) (by omega)
  have b := lowD_abs (u := u) (v := v) (by omega)
  exact ⟨Nat.le_trans a h1, lowD_pos (by omega), Nat.le_trans b h2⟩
theorem ND.mul {N D M E : Nat} {f g : FR} (h : ND N D f) (k : ND M E g) : ND (N * M) (D * E) (mulL f g) := by
  refine ND.low (Int.mul_pos h.2.1 k.2.1) ?_ ?_
  · rw [Int.natAbs_mul]
    exact Nat.mul_le_mul h.1 k.1
  · rw [Int.natAbs_mul]
    exact Nat.mul_le_mul h.2.2 k.2.2
theorem ND.add {N D M E : Nat} {f g : FR} (h : ND N D f) (k : ND M E g) : ND (N * E + M * D) (D * E) (addL f g) := by
  refine ND.low (Int.mul_pos h.2.1 k.2.1) ?_ ?_
  · refine Nat.le_trans (Int.natAbs_add_le _ _) ?_
    rw [Int.natAbs_mul, Int.natAbs_mul]
    exact Nat.add_le_add (Nat.mul_le_mul h.1 k.2.2) (Nat.mul_le_mul k.1 h.2.2)
  · rw [Int.natAbs_mul]
    exact Nat.mul_le_mul h.2.2 k.2.2
theorem ND.mono {N D N' D' : Nat} {f : FR} (h : ND N D f) (a : N ≤ N') (b : D ≤ D') : ND N' D' f := ⟨Nat.le_trans h.1 a, h.2.1, Nat.le_trans h.2.2 b⟩
theorem rr_nd : ∀ f ∈ RR, ND 5 3 f := by
  have h : (RR.all fun f => decide (f.1.natAbs ≤ 5) && (decide (0 < f.2) && decide (f.2.natAbs ≤ 3))) = true := by decide +kernel
  intro f hf
  have := List.all_eq_true.mp h f hf
  simp only [Bool.and_eq_true, decide_eq_true_eq] at this
  exact this
theorem rr_nf : ∀ f ∈ RR, Nf f ∧ Bn 3 f := by
  have h : (RR.all fun f => (decide (0 < f.2) && decide (Int.gcd f.1 f.2 = 1)) && (decide (f.1.natAbs < 2 ^ 3) && decide (f.2.natAbs < 2 ^ 3))) = true := by decide +kernel
  intro f hf
  have := List.all_eq_true.mp h f hf
  simp only [Bool.and_eq_true, decide_eq_true_eq] at this
  exact this
theorem tot_nd {val : List Nat → FR} {tl : List It} (hl : tl.length = 1 ∨ tl.length = 2) (h : ∀ u ∈ tl, u.2 ∈ RR ∧ Bf 10 (val u.1)) : ND 3000 900 (totF val (0, 1) tl) := by
  have z : ND 0 1 (0, 1) := ⟨Nat.le_refl 0, by decide, Nat.le_refl 1⟩
  have m : ∀ u ∈ tl, ND 50 30 (mulL u.2 (val u.1)) := fun u hu => (rr_nd _ (h u hu).1).mul (M := 10) (E := 10) (h u hu).2
  match tl, hl, m with
  | [a], _, m => exact (z.add (m a List.mem_cons_self)).mono (by decide) (by decide)
  | [a, b], _, m => exact ((z.add (m a List.mem_cons_self)).add (m b (List.mem_cons_of_mem _ List.mem_cons_self))).mono (by decide) (by decide)
theorem ND.bds {N D : Nat} {f : FR} (h : ND N D f) (a : N ≤ 110769120) (b : D ≤ 2520) : BdS f := ⟨Nat.le_trans h.1 a, h.2.1, by have := h.2.2; have := h.2.1; omega⟩
theorem small_fr {f : FR} (h : f.1.natAbs < 8 ∧ f.2.natAbs < 3 + 1 ∧ 0 < f.2 ∧ Int.gcd f.1 f.2 = 1) : Nf f ∧ Bn 3 f ∧ ND 8 3 f := ⟨⟨h.2.2.1, h.2.2.2⟩, ⟨h.1, Nat.lt_of_lt_of_le h.2.1 (by decide)⟩, ⟨Nat.le_of_lt h.1, h.2.2.1, Nat.le_of_lt_succ h.2.1⟩⟩
theorem small_fr2 {f : FR} (h : f.1.natAbs < 8 ∧ f.2.natAbs < 2 + 1 ∧ 0 < f.2 ∧ Int.gcd f.1 f.2 = 1) : Nf f ∧ Bn 3 f ∧ ND 8 2 f := ⟨⟨h.2.2.1, h.2.2.2⟩, ⟨h.1, Nat.lt_of_lt_of_le h.2.1 (by decide)⟩, ⟨Nat.le_of_lt h.1, h.2.2.1, Nat.le_of_lt_succ h.2.1⟩⟩
theorem newTieU {z : Addr} {H : Hp} {v : V} {o pb : Addr} {tl : List It} {f : FR} (hts : Dt z H v (.tuple (tl.map tmP))) (hb : H pb = some (trF f)) (no : H o = none) (hB : Bd f.1 ∧ Bd f.2) : TieU z (upd H o (.tup [v, .ref pb])) (.ref o) (tl, f) := by
  have so := same_upd (o := HO.tup [v, .ref pb]) no
  exact .tup upd_same (.cons (hts.same so) (.cons (.tup (so _ _ hb) (.cons (.int _ hB.1) (.cons (.int _ hB.2) .nil))) .nil))
theorem noL_tl (tl : List It) : noL (.tuple (tl.map tmP)) = true := noLs_tm tl
theorem BdS.bd {f : FR} (h : BdS f) : Bd f.1 ∧ Bd f.2 := ⟨log2_mono (b := 110769120) h.1 (by decide +kernel), log2_mono (b := 2520) (by have := h.2.2; have := h.2.1; omega) (by decide +kernel)⟩
section
variable {P : Program} {w : World} {K : PySem.W.Frag} {mg : Str → Option Value} {base : Heap} {fa : Nat → Addr} {fd : Nat → FuncData}
def spTies : Sp := fun vs H Q _ => ∃ (a c p : Addr) (ws : List (List Nat)) (m : Nat) (oc : Int), vs = [.ref a, .ref p, .int m, .int oc] ∧ FeedOk H a c ∧ p ≠ a ∧ H p = some (.lst (ws.map vS)) ∧ ws.length ≤ 6 ∧ ws.Nodup ∧ (∀ x ∈ ws, NX x) ∧ m ≤ 6 ∧
  ∀ (D : Addr) (us : List V) (ties : List Tie) (H' : Hp), FeedOk H' a c → But a H H' → D ≠ a → H D = none → H' D = some (.lst us) → Paired (TieU a H') us ties → (∀ t ∈ ties, TieG ws t) → ties.length ≤ m → Q (.ref D) H'
theorem ok_ties (T : Txt K mg fa fd) : FnOk P w K mg base CX0 6 (fa 156) (fd 156) ["_law_feed_here", "_law_words_here", "_law_many", "_law_open_cases"] spTies := by
  refine T.F_ties.ok sc_ties (fun vs H Q E h => ?_) (fun cdv A outer s H vs Q E hr h => ?_)
  · obtain ⟨a, c, p, ws, m, oc, rfl, _⟩ := h
    rfl
  · obtain ⟨a, c, p, ws, m, oc, rfl, hF, npa, hp, hl, hn, hw, hm, q⟩ := h
    refine ⟨_, (C8.pss_cut (ps_par (i := 4) (j := 5) (by rfl) sc_ties.nd rfl rfl (by decide) rfl rfl (pa_cons (pe_call (ok_point T) (hr.mono (by decide)) (by rfl) T.g_point T.F_point.kp T.b_point .nil pass0 (pa_cons (pv 0) (pa_cons (pv 1) pa_nil))) (pa_cons (pe_lst pa_nil) pa_nil)) (by rfl))
      (C8.pss_cut (ps_set (i := 6) sc_ties.nd rfl (.inl rfl) (pe_cmpR op_lt (pe_call (ok_draw T) (hr.mono (by decide)) (by rfl) T.g_draw T.F_draw.kp T.b_draw .nil pass0 (pa_cons (pv 0) (pa_cons pe_int pa_nil))) (pv 3) (nomark _)))
      (C8.pss_cut (ps_for PassesOwn.never rfl (pi_range1 (by rfl) T.m_range (pa_cons (pe_ifExp (pt_cmpR (op_neD hr.units) (pv 1) (pe_lst pa_nil) (nomark _)) (pe_call (ok_draw T) (hr.mono (by decide)) (by rfl) T.g_draw T.F_draw.kp T.b_draw .nil pass0 (pa_cons (pv 0) (pa_cons (pe_op op_add (pv 2) pe_int) pa_nil))) pe_int) pa_nil)) (pg_name (i := 7) sc_ties.nd rfl (.inl rfl)) (C8.pss_cut (ps_set (i := 8) sc_ties.nd rfl (.inl rfl) (pe_call (ok_terms T) (hr.mono (by decide)) (by rfl) T.g_terms T.F_terms.kp T.b_terms .nil pass0 (pa_cons (pv 0) (pa_cons (pv 1) (pa_cons pe_int pa_nil)))))
      (C8.pss_cut (ps_set (i := 9) sc_ties.nd rfl (.inl rfl) (pe_call (ok_any T) (hr.mono (by decide)) (by rfl) T.g_any T.F_any.kp T.b_any .nil pass0 (pa_cons (pv 0) (pa_cons (pe_lst (pa_cons (pe_tup (pa_cons pe_int (pa_cons pe_int pa_nil))) (pa_cons (pe_tup (pa_cons pe_int (pa_cons pe_int pa_nil))) (pa_cons (pe_tup (pa_cons (pe_un un_neg pe_int) (pa_cons pe_int pa_nil))) (pa_cons (pe_tup (pa_cons pe_int (pa_cons pe_int pa_nil))) (pa_cons (pe_tup (pa_cons pe_int (pa_cons pe_int pa_nil))) (pa_cons (pe_tup (pa_cons (pe_un un_neg pe_int) (pa_cons pe_int pa_nil))) pa_nil))))))) pa_nil))))
      (C8.pss_cut (ps_if (pt_not (pt_val (pv 6))) (C8.pss_cut (ps_set (i := 10) sc_ties.nd rfl (.inl rfl) (pe_call (ok_any T) (hr.mono (by decide)) (by rfl) T.g_any T.F_any.kp T.b_any .nil pass0 (pa_cons (pv 0) (pa_cons (pe_lst (pa_cons (pe_tup (pa_cons pe_int (pa_cons pe_int pa_nil))) (pa_cons (pe_tup (pa_cons pe_int (pa_cons pe_int pa_nil))) (pa_cons (pe_tup (pa_cons pe_int (pa_cons pe_int pa_nil))) (pa_cons (pe_tup (pa_cons pe_int (pa_cons pe_int pa_nil))) (pa_cons (pe_tup (pa_cons pe_int (pa_cons pe_int pa_nil))) (pa_cons (pe_tup (pa_cons pe_int (pa_cons pe_int pa_nil))) pa_nil))))))) pa_nil))))
      (pss_one (ps_set (i := 9) sc_ties.nd rfl (.inl rfl) (pe_call (ok_plus T) (hr.mono (by decide)) (by rfl) T.g_plus T.F_plus.kp T.b_plus .nil pass0 (pa_cons (pe_call (ok_total T) (hr.mono (by decide)) (by rfl) T.g_total T.F_total.kp T.b_total .nil pass0 (pa_cons (pv 8) (pa_cons (pv 4) pa_nil))) (pa_cons (pv 10) pa_nil)))))) pss_nil)
      (pss_one (ps_expr (pe_bm PySem.F.plainAttrs_list PySem.F.slot_list_append PySem.F.type_list_append mt_append (pv 5) (pa_cons (pe_tup (pa_cons (pv 8) (pa_cons (pv 9) pa_nil))) pa_nil))))))))
      (pss_one (ps_ret (pv 5)))))), ?_⟩
    refine ⟨fun σ G => FeedOk G a c ∧ But a H G ∧ ∃ d val D, PointD G d val ws ∧ G D = some (.lst []) ∧ D ≠ a ∧ D ≠ c ∧ D ≠ p ∧ H D = none ∧ σ = [some (.ref a), some (.ref p), some (.int m), some (.int oc), some (.ref d), some (.ref D), none, none, none, none, none], ?_, fun σ G hM => ?_⟩
    · refine ⟨_, rfl, _, rfl, a, c, p, ws, rfl, hF, npa, hp, hn, hl, fun d val H1 hF1 b1 hP => ⟨small_line (by show 0 ≤ 1000; decide), fun D nD => ?_⟩⟩
      have s1 := same_upd (o := HO.lst []) nD
      exact ⟨_, _, rfl, hF1.same s1, b1.trans (But.of s1), d, val, D, hP.same s1, upd_same, new_ne hF1 nD, new_nc hF1 nD, (ne_of_none (b1 _ _ npa hp) nD).symm, but_none b1 nD (new_ne hF1 nD), rfl⟩
    obtain ⟨hF1, b1, d, val, D, hP, hD, nDa, nDc, nDp, nD, rfl⟩ := hM
    refine ⟨fun σ G => FeedOk G a c ∧ But a H G ∧ PointD G d val ws ∧ G D = some (.lst []) ∧ ∃ lo : Bool, σ = [some (.ref a), some (.ref p), some (.int m), some (.int oc), some (.ref d), some (.ref D), some (.bl lo), none, none, none, none], ?_, fun σ G hM => ?_⟩
    · refine ⟨_, rfl, a, c, _, rfl, hF1, mid_of (by decide) (by decide), fun r H2 _ _ hF2 b2 => ?_⟩
      exact ⟨_, rfl, _, _, rfl, rfl, hF2, b1.trans b2, hP.nl (NL.but hF1 b2), b2 _ _ nDa hD, _, rfl⟩
    clear hF1 b1 hP hD
    obtain ⟨hF1, b1, hP, hD, lo, rfl⟩ := hM
    refine ⟨fun σ G => FeedOk G a c ∧ But a H G ∧ ∃ us ties, G D = some (.lst us) ∧ Paired (TieU a G) us ties ∧ (∀ t ∈ ties, TieG ws t) ∧ ties.length ≤ m ∧ ∃ y4 y6 y7 y8 y9 y10, σ = [some (.ref a), some (.ref p), some (.int m), some (.int oc), y4, some (.ref D), y6, y7, y8, y9, y10], ?_, fun σ G hM => ?_⟩
    · refine ⟨_, rfl, Nat.zero_le _, fun q0 nq => ?_⟩
      have sq := same_upd (o := .lst []) nq
      have hpG := b1 _ _ npa hp
      refine ⟨_, _, .lst (SqL.of (sq _ _ hpG)) (dws _ ws), .lst (SqL.of upd_same) .nil, shaped_nx hw, by decide +kernel, _, rfl, ?_⟩
      by_cases ne : ws = []
      · subst ne
        refine iteFq (by rfl) ⟨_, rfl, by decide, by decide, ?_⟩
        have s0 := NL.of sq
        exact for_range (n := 0) (fun i σ G2 => i = 0 ∧ G2 = upd G q0 (.lst []) ∧ σ = [some (.ref a), some (.ref p), some (.int m), some (.int oc), some (.ref d), some (.ref D), some (.bl lo), none, none, none, none]) ⟨rfl, rfl, rfl⟩ (fun i σ G2 hi hq => absurd hi (Nat.not_lt_zero _)) fun σ G2 hq => by
          obtain ⟨_, rfl, rfl⟩ := hq
          exact ⟨hF1.same sq, b1.trans (But.of sq), [], [], sq _ _ hD, .nil, (fun t h => by cases h), Nat.zero_le _, _, _, _, _, _, _, rfl⟩
      have ev : PyData.eqv (.list (ws.map fun x => PyData.str (SX.S x))) (.list []) = false := by
        cases ws with
        | nil => exact absurd rfl ne
        | cons x l => rfl
      rw [ev]
      refine iteT ⟨_, rfl, _, rfl, _, _, rfl, rfl, a, c, _, rfl, hF1.same sq, mid_of (by omega) (by omega), fun r H2 r0 r1 hF2 b2 => ?_⟩
      obtain ⟨n, rfl⟩ := Int.eq_ofNat_of_zero_le r0
      refine ⟨_, rfl, by omega, by omega, ?_⟩
      rw [Int.toNat_natCast]
      have b02 : But a G H2 := (But.of sq).trans b2
      have nl02 : NL G H2 := (NL.of sq).trans (NL.but (hF1.same sq) b2)
      refine for_range (n := n) (fun i σ G => FeedOk G a c ∧ But a H G ∧ G p = some (.lst (ws.map vS)) ∧ PointD G d val ws ∧ ∃ us ties, G D = some (.lst us) ∧ Paired (TieU a G) us ties ∧ (∀ t ∈ ties, TieG ws t) ∧ ties.length = i ∧ ∃ y7 y8 y9 y10, σ = [some (.ref a), some (.ref p), some (.int m), some (.int oc), some (.ref d), some (.ref D), some (.bl lo), y7, y8, y9, y10])
        ⟨hF2, b1.trans b02, b02 _ _ npa hpG, hP.nl nl02, [], [], b02 _ _ nDa hD, .nil, (fun t h => by cases h), rfl, _, _, _, _, rfl⟩ (fun i σ G hi hq => ?_) (fun σ G hq => ?_)
      · obtain ⟨hG, bG, hpG, hP, us, ties, hDG, hT, hg, tl, y7, y8, y9, y10, rfl⟩ := hq
        have bnl : ∀ {G' : Hp}, But a G G' → NL G G' := fun b => NL.but hG b
        refine ⟨fun σ G1 => FeedOk G1 a c ∧ But a G G1 ∧ ∃ vt tl, Dt a G1 vt (.tuple (tl.map tmP)) ∧ (tl.length = 1 ∨ tl.length = 2) ∧ (∀ u ∈ tl, u.1 ∈ ws ∧ u.2 ∈ RR) ∧ SrtN tl ∧ termsD (.tuple (tl.map tmP)) = true ∧ σ = [some (.ref a), some (.ref p), some (.int m), some (.int oc), some (.ref d), some (.ref D), some (.bl lo), some (.int (0 + (i : Int))), some vt, y9, y10], ?_, fun σ G1 hM => ?_⟩
        · refine ⟨_, rfl, _, rfl, a, c, p, ws, 3, rfl, hG, npa, hpG, ne, hl, hn, fun x hx => (hw x hx).2, fun v ts H' hF' b' hv hok => ?_⟩
          obtain ⟨tl', e1, e2, k, so⟩ := trm_tlS hok
          refine ⟨hF', b', v, tl', ?_, by rw [e2]; exact hok.1, k, so, by rw [← e1]; exact hok.2.1, rfl⟩
          have hv' : Dt a H' v (.tuple (ts.map trm1)) := hv
          rw [e1] at hv'
          exact hv'
        obtain ⟨hG1, b1, vt, tl', hts, hln, hwt, hso, htd, rfl⟩ := hM
        refine ⟨fun σ G2 => FeedOk G2 a c ∧ But a G1 G2 ∧ ∃ pb f, G2 pb = some (trF f) ∧ Nf f ∧ Bn 3 f ∧ ND 8 3 f ∧ σ = [some (.ref a), some (.ref p), some (.int m), some (.int oc), some (.ref d), some (.ref D), some (.bl lo), some (.int (0 + (i : Int))), some vt, some (.ref pb), y10], ?_, fun σ G2 hM => ?_⟩
        · skip
          refine ⟨_, rfl, (small_line (by decide : 2 ≤ 1000)), fun p1 n1 => ?_⟩
          obtain ⟨s1, d1⟩ := dnewT (z := a) n1 (.cons (.int 0 (by decide +kernel)) (.cons (.int 1 (by decide +kernel)) .nil))
          refine ⟨(small_line (by decide : 2 ≤ 1000)), fun p2 n2 => ?_⟩
          obtain ⟨s2, d2⟩ := dnewT (z := a) n2 (.cons (.int 1 (by decide +kernel)) (.cons (.int 1 (by decide +kernel)) .nil))
          refine ⟨_, rfl, (small_line (by decide : 2 ≤ 1000)), fun p3 n3 => ?_⟩
          obtain ⟨s3, d3⟩ := dnewT (z := a) n3 (.cons (.int (-2) (by decide +kernel)) (.cons (.int 1 (by decide +kernel)) .nil))
          refine ⟨(small_line (by decide : 2 ≤ 1000)), fun p4 n4 => ?_⟩
          obtain ⟨s4, d4⟩ := dnewT (z := a) n4 (.cons (.int 3 (by decide +kernel)) (.cons (.int 1 (by decide +kernel)) .nil))
          refine ⟨(small_line (by decide : 2 ≤ 1000)), fun p5 n5 => ?_⟩
          obtain ⟨s5, d5⟩ := dnewT (z := a) n5 (.cons (.int 1 (by decide +kernel)) (.cons (.int 3 (by decide +kernel)) .nil))
          refine ⟨_, rfl, (small_line (by decide : 2 ≤ 1000)), fun p6 n6 => ?_⟩
          obtain ⟨s6, d6⟩ := dnewT (z := a) n6 (.cons (.int (-1) (by decide +kernel)) (.cons (.int 2 (by decide +kernel)) .nil))
          refine ⟨(small_line (by decide : 6 ≤ 1000)), fun p7 n7 => ?_⟩
          obtain ⟨s7, all, hrw⟩ := drow (z := a) n7 (.cons (d1.same (s2.trans (s3.trans (s4.trans (s5.trans s6))))) (.cons (d2.same (s3.trans (s4.trans (s5.trans s6)))) (.cons (d3.same (s4.trans (s5.trans s6))) (.cons (d4.same (s5.trans s6)) (.cons (d5.same s6) (.cons d6 .nil))))))
          have sR := (s1.trans (s2.trans (s3.trans (s4.trans (s5.trans (s6.trans s7))))))
          refine ⟨a, c, p7, _, rfl, hG1.same sR, hrw, new_ne (hG1.same (s1.trans (s2.trans (s3.trans (s4.trans (s5.trans s6)))))) n7, by show 0 < 6; decide, by show 6 ≤ 1000; decide, fun v H3 hv hF3 b3 => ?_⟩
          obtain ⟨dd, hd, hdt⟩ := all.mem hv
          have hdt := hdt.but (hG1.same sR) b3
          obtain ⟨f, rfl, hf⟩ : ∃ f : FR, dd = frP f ∧ Nf f ∧ Bn 3 f ∧ ND 8 3 f := by
            simp only [List.mem_cons, List.not_mem_nil, or_false] at hd
            rcases hd with rfl | rfl | rfl | rfl | rfl | rfl
            · exact ⟨(0, 1), rfl, small_fr (by decide)⟩
            · exact ⟨(1, 1), rfl, small_fr (by decide)⟩
            · exact ⟨(-2, 1), rfl, small_fr (by decide)⟩
            · exact ⟨(3, 1), rfl, small_fr (by decide)⟩
            · exact ⟨(1, 3), rfl, small_fr (by decide)⟩
            · exact ⟨(-1, 2), rfl, small_fr (by decide)⟩
          obtain ⟨pf, rfl, hpf⟩ := dt_fr hdt
          exact ⟨hF3, (But.of sR).trans b3, pf, f, hpf, hf.1, hf.2.1, hf.2.2, rfl⟩
        obtain ⟨hG2, b2', pb, f, hpb, nf, bf, df, rfl⟩ := hM
        have nl12 := NL.but hG1 b2'
        have hts2 := Dt.tups (z' := a) nl12.tt _ _ (noL_tl tl') hts
        refine ⟨fun σ G3 => FeedOk G3 a c ∧ But a G2 G3 ∧ ∃ pb f y10, G3 pb = some (trF f) ∧ Nf f ∧ BdS f ∧ σ = [some (.ref a), some (.ref p), some (.int m), some (.int oc), some (.ref d), some (.ref D), some (.bl lo), some (.int (0 + (i : Int))), some vt, some (.ref pb), y10], ?_, fun σ G3 hM => ?_⟩
        · refine ⟨_, rfl, _, rfl, ?_⟩
          cases lo with
          | true => exact iteF ⟨hG2, But.refl _ _, pb, f, _, hpb, nf, df.bds (by decide) (by decide), rfl⟩
          | false =>
            refine iteT ⟨fun σ G4 => FeedOk G4 a c ∧ But a G2 G4 ∧ ∃ pr g, G4 pr = some (trF g) ∧ Nf g ∧ Bn 3 g ∧ ND 8 2 g ∧ σ = [some (.ref a), some (.ref p), some (.int m), some (.int oc), some (.ref d), some (.ref D), some (.bl false), some (.int (0 + (i : Int))), some vt, some (.ref pb), some (.ref pr)], ?_, fun σ G4 hM => ?_⟩
            · skip
              refine ⟨_, rfl, (small_line (by decide : 2 ≤ 1000)), fun p1 n1 => ?_⟩
              obtain ⟨s1, d1⟩ := dnewT (z := a) n1 (.cons (.int 0 (by decide +kernel)) (.cons (.int 1 (by decide +kernel)) .nil))
              refine ⟨(small_line (by decide : 2 ≤ 1000)), fun p2 n2 => ?_⟩
              obtain ⟨s2, d2⟩ := dnewT (z := a) n2 (.cons (.int 0 (by decide +kernel)) (.cons (.int 1 (by decide +kernel)) .nil))
              refine ⟨(small_line (by decide : 2 ≤ 1000)), fun p3 n3 => ?_⟩
              obtain ⟨s3, d3⟩ := dnewT (z := a) n3 (.cons (.int 1 (by decide +kernel)) (.cons (.int 1 (by decide +kernel)) .nil))
              refine ⟨(small_line (by decide : 2 ≤ 1000)), fun p4 n4 => ?_⟩
              obtain ⟨s4, d4⟩ := dnewT (z := a) n4 (.cons (.int 2 (by decide +kernel)) (.cons (.int 1 (by decide +kernel)) .nil))
              refine ⟨(small_line (by decide : 2 ≤ 1000)), fun p5 n5 => ?_⟩
              obtain ⟨s5, d5⟩ := dnewT (z := a) n5 (.cons (.int 1 (by decide +kernel)) (.cons (.int 2 (by decide +kernel)) .nil))
              refine ⟨(small_line (by decide : 2 ≤ 1000)), fun p6 n6 => ?_⟩
              obtain ⟨s6, d6⟩ := dnewT (z := a) n6 (.cons (.int 5 (by decide +kernel)) (.cons (.int 1 (by decide +kernel)) .nil))
              refine ⟨(small_line (by decide : 6 ≤ 1000)), fun p7 n7 => ?_⟩
              obtain ⟨s7, all, hrw⟩ := drow (z := a) n7 (.cons (d1.same (s2.trans (s3.trans (s4.trans (s5.trans s6))))) (.cons (d2.same (s3.trans (s4.trans (s5.trans s6)))) (.cons (d3.same (s4.trans (s5.trans s6))) (.cons (d4.same (s5.trans s6)) (.cons (d5.same s6) (.cons d6 .nil))))))
              have sR := (s1.trans (s2.trans (s3.trans (s4.trans (s5.trans (s6.trans s7))))))
              refine ⟨a, c, p7, _, rfl, hG2.same sR, hrw, new_ne (hG2.same (s1.trans (s2.trans (s3.trans (s4.trans (s5.trans s6)))))) n7, by show 0 < 6; decide, by show 6 ≤ 1000; decide, fun v H3 hv hF3 b3 => ?_⟩
              obtain ⟨dd, hd, hdt⟩ := all.mem hv
              have hdt := hdt.but (hG2.same sR) b3
              obtain ⟨g, rfl, hg⟩ : ∃ f : FR, dd = frP f ∧ Nf f ∧ Bn 3 f ∧ ND 8 2 f := by
                simp only [List.mem_cons, List.not_mem_nil, or_false] at hd
                rcases hd with rfl | rfl | rfl | rfl | rfl | rfl
                · exact ⟨(0, 1), rfl, small_fr2 (by decide)⟩
                · exact ⟨(0, 1), rfl, small_fr2 (by decide)⟩
                · exact ⟨(1, 1), rfl, small_fr2 (by decide)⟩
                · exact ⟨(2, 1), rfl, small_fr2 (by decide)⟩
                · exact ⟨(1, 2), rfl, small_fr2 (by decide)⟩
                · exact ⟨(5, 1), rfl, small_fr2 (by decide)⟩
              obtain ⟨pf, rfl, hpf⟩ := dt_fr hdt
              exact ⟨hF3, (But.of sR).trans b3, pf, g, hpf, hg.1, hg.2.1, hg.2.2, rfl⟩
            obtain ⟨hG4, b4, pr, g, hpr, ng, bg, dg, rfl⟩ := hM
            have nl24 := NL.but hG2 b4
            have hts4 := Dt.tups (z' := a) nl24.tt _ _ (noL_tl tl') hts2
            obtain ⟨l, xs, rfl, hl4, hxs⟩ : ∃ l xs, vt = .ref l ∧ G4 l = some (.tup xs) ∧ DtAll a G4 xs (tl'.map tmP) := by
              generalize tl'.map tmP = dd at hts4
              match vt, hts4 with
              | _, .tup h1 h2 => exact ⟨_, _, rfl, h1, h2⟩
            have hP4 := hP.nl (((bnl b1).trans nl12).trans nl24)
            have hvd := hP4.val (ms := tl'.map (·.1)) (fun x hx => by
              obtain ⟨u, hu, rfl⟩ := List.mem_map.mp hx
              exact (hwt u hu).1)
            refine ⟨_, rfl, _, rfl, l, d, a, xs, tl', val, rfl, SqT.of hl4, hxs, by rcases hln with e | e <;> omega, fun t ht => rr_nf _ (hwt t ht).2, hvd, fun pt H5 s5 ht nt bt => ?_⟩
            refine ⟨_, rfl, pt, pr, totF val (0, 1) tl', g, rfl, ht, SqT.of (s5 _ _ hpr), nt.1, ng.1, bt.mono (by decide), bg.mono (by decide), fun e ne => ?_⟩
            have se := same_upd (o := trF (addL (totF val (0, 1) tl') g)) ne
            have tb : ND 3000 900 (totF val (0, 1) tl') := tot_nd hln fun u hu => ⟨(hwt u hu).2, by
              obtain ⟨kvs, _, kk⟩ := hvd
              exact (kk u.1 (List.mem_map_of_mem (f := fun u : It => u.1) hu)).1⟩
            exact ⟨(hG4.same s5).same se, (b4.trans (But.of s5)).trans (But.of se), e, _, _, upd_same, addL_nf nt.1 ng.1, (tb.add dg).bds (by decide) (by decide), rfl⟩
        clear hpb nf bf df
        obtain ⟨hG3, b3', pb, f, y10', hpb, nf, bf, rfl⟩ := hM
        have nl23 := NL.but hG2 b3'
        have hts3 := Dt.tups (z' := a) nl23.tt _ _ (noL_tl tl') hts2
        have bb := (b1.trans b2').trans b3'
        have hD3 := bb _ _ nDa hDG
        have ul : us.length = ties.length := Paired.length hT
        refine ⟨_, rfl, .inl ⟨rfl, _, SqL.of hD3⟩, _, rfl, _, rfl, two_line, fun e ne => ?_⟩
        have se := same_upd (o := .tup [vt, .ref pb]) ne
        refine ⟨D, _, _, rfl, rfl, se _ _ hD3, small1000 (by omega), ?_⟩
        have hV := newTieU (z := a) hts3 hpb ne bf.bd
        have nlu : NL (upd G3 e (.tup [vt, .ref pb])) (upd (upd G3 e (.tup [vt, .ref pb])) D (.lst (us ++ [.ref e]))) := NL.upd (se _ _ hD3)
        have nla := (((bnl b1).trans (nl12.trans nl23)).trans (NL.of se)).trans nlu
        refine ⟨(hG3.same se).put nDa nDc, ((bG.trans bb).trans (But.of se)).updN nD, ?_, hP.nl nla, us ++ [.ref e], ties ++ [(tl', f)], upd_same, paired_snoc (paired_mono (fun _ _ h => h.nl nla) hT) (hV.nl nlu), ?_, by rw [List.length_append, tl]; rfl, _, _, _, _, rfl⟩
        · rw [upd_ne nDp.symm]
          exact se _ _ (bb _ _ npa hpG)
        · intro t ht
          rcases List.mem_append.mp ht with h | h
          · exact hg t h
          · rw [List.mem_singleton.mp h]
            exact ⟨hln, hwt, hso, nf, bf, htd⟩
      · obtain ⟨hG, bG, hpG, hP, us, ties, hDG, hT, hg, tl, y7, y8, y9, y10, rfl⟩ := hq
        exact ⟨hG, bG, us, ties, hDG, hT, hg, by omega, _, _, _, _, _, _, rfl⟩
    · obtain ⟨hG, bG, us, ties, hDG, hT, hg, tl, y4, y6, y7, y8, y9, y10, rfl⟩ := hM
      exact ⟨_, rfl, q D us ties G hG bG nDa nD hDG hT hg tl⟩
end
/-! ### where names and ties go wrong -/
theorem fb_go : ∀ (xs : List Str) (i : Nat) (pre : List Str) (y : Str) (zs : List Str), (∀ x ∈ xs, nameB x.cps.toList = true) → (pre ++ xs).Nodup → (nameB y.cps.toList = false ∨ y ∈ pre ++ xs) → firstBad i pre (xs ++ y :: zs) = some (i + xs.length)
  | [], i, pre, y, zs, _, _, h => by
    have n : ¬ (nameB y.cps.toList = true ∧ y ∉ pre) := fun ⟨a, b⟩ => by
      rcases h with h | h
      · rw [a] at h
        cases h
      · rw [List.append_nil] at h
        exact b h
    show (if _ then _ else _) = _
    rw [if_neg n]
    rfl
  | x :: xs, i, pre, y, zs, hn, hd, h => by
    have c : nameB x.cps.toList = true ∧ x ∉ pre := ⟨hn x List.mem_cons_self, fun z => (List.nodup_append.mp hd).2.2 x z x List.mem_cons_self rfl⟩
    have e : pre ++ x :: xs = (pre ++ [x]) ++ xs := by rw [List.append_assoc]; rfl
    rw [e] at hd h
    have := fb_go xs (i + 1) (pre ++ [x]) y zs (fun u hu => hn u (List.mem_cons_of_mem _ hu)) hd h
    show (if _ then firstBad (i + 1) (pre ++ [x]) (xs ++ y :: zs) else _) = _
    rw [if_pos c, this, List.length_cons]
    congr 1
    omega
theorem fb_none : ∀ (xs : List Str) (i : Nat) (pre : List Str), (∀ x ∈ xs, nameB x.cps.toList = true) → (pre ++ xs).Nodup → firstBad i pre xs = none
  | [], _, _, _, _ => rfl
  | x :: xs, i, pre, hn, hd => by
    have c : nameB x.cps.toList = true ∧ x ∉ pre := ⟨hn x List.mem_cons_self, fun z => (List.nodup_append.mp hd).2.2 x z x List.mem_cons_self rfl⟩
    have e : pre ++ x :: xs = (pre ++ [x]) ++ xs := by rw [List.append_assoc]; rfl
    rw [e] at hd
    show (if _ then _ else _) = _
    rw [if_pos c]
    exact fb_none xs (i + 1) (pre ++ [x]) (fun u hu => hn u (List.mem_cons_of_mem _ hu)) hd
theorem fbt_go (ns : List Str) : ∀ (ds : List PyData) (i : Nat) (d : PyData) (es : List PyData), (∀ x ∈ ds, goodT ns x = true) → goodT ns d = false → firstBadT ns i (ds ++ d :: es) = some (i + ds.length)
  | [], i, d, es, _, h => by
    show (if _ then _ else _) = _
    rw [if_neg (by rw [h]; exact Bool.false_ne_true)]
    rfl
  | x :: ds, i, d, es, hn, h => by
    have := fbt_go ns ds (i + 1) d es (fun u hu => hn u (List.mem_cons_of_mem _ hu)) h
    show (if _ then firstBadT ns (i + 1) (ds ++ d :: es) else _) = _
    rw [if_pos (hn x List.mem_cons_self), this, List.length_cons]
    congr 1
    omega
theorem fbt_none (ns : List Str) : ∀ (ds : List PyData) (i : Nat), (∀ x ∈ ds, goodT ns x = true) → firstBadT ns i ds = none
  | [], _, _ => rfl
  | x :: ds, i, hn => by
    show (if _ then _ else _) = _
    rw [if_pos (hn x List.mem_cons_self)]
    exact fbt_none ns ds (i + 1) (fun u hu => hn u (List.mem_cons_of_mem _ hu))
theorem ratD_nf {f : FR} (h : Nf f) : ratD (frP f) = true := by
  show (decide (1 ≤ f.2) && decide (Int.gcd f.1 f.2 = 1)) = true
  rw [Bool.and_eq_true, decide_eq_true_eq, decide_eq_true_eq]
  exact ⟨h.1, h.2⟩
theorem good_drawn {ws : List Nm} {t : Tie} (h : TieG ws t) : goodT (ws.map SX.S) (tieP t.1 t.2) = true := by
  show ((termsD (.tuple (t.1.map tmP)) && ratD (frP t.2)) && ((t.1.map tmP).map _).all _) = true
  rw [h.td, ratD_nf h.nf, Bool.true_and, Bool.true_and, List.map_map, List.all_map, List.all_eq_true]
  intro u hu
  exact decide_eq_true (List.mem_map.mpr ⟨u.1, (h.ws u hu).1, rfl⟩)
theorem bad_by {ns : List Str} {d : PyData} (h : tieD d = false) : goodT ns d = false := by
  unfold goodT
  rw [h]
  rfl
abbrev frI (t u : Int) : PyData := .tuple [.int t, .int u]
def oneTie (x : Str) (r b : PyData) : PyData := .tuple [.tuple [.tuple [.str x, r]], b]
theorem bad_strange {ns : List Str} {x : Str} {r b : PyData} (h : x ∉ ns) : goodT ns (oneTie x r b) = false := by
  show (_ && (decide (x ∈ ns) && true)) = false
  rw [decide_eq_false h]
  simp
theorem good_one {ns : List Str} {x : Str} {r b : FR} (hx : x ∈ ns) (nx : nameB x.cps.toList = true) (nr : Nf r) (r0 : r.1 ≠ 0) (nb : Nf b) : goodT ns (oneTie x (frP r) (frP b)) = true := by
  have e : nameD (.str x) = true := nx
  show ((((nameD (.str x) && ratD (frP r)) && decide (r.1 ≠ 0)) && ratD (frP b)) && (decide (x ∈ ns) && true)) = true
  rw [e, ratD_nf nr, ratD_nf nb, decide_eq_true r0, decide_eq_true hx]
  rfl
def oddTs (s x : Str) : List PyData := [.none, .tuple [], .tuple [.tuple [], frI 0 1], .tuple [.tuple [.tuple [.str (Str.ofString "b"), frI 1 1], .tuple [.str (Str.ofString "a"), frI 1 1]], frI 0 1], oneTie s (frI 1 1) (frI 0 1), .str (Str.ofString "x <= 1"), .int 5,
  oneTie x (frI 0 1) (frI 0 1), oneTie x (frI 1 1) (frI 2 2), .list [.tuple [.tuple [.str x, frI 1 1]], frI 0 1]]
theorem odd_ties {ns : List Str} {s x : Str} (hs : s ∉ ns) : ∀ d ∈ oddTs s x, goodT ns d = false := by
  intro d hd
  simp only [oddTs, List.mem_cons, List.not_mem_nil, or_false] at hd
  rcases hd with rfl | rfl | rfl | rfl | rfl | rfl | rfl | rfl | rfl | rfl
  · exact bad_by rfl
  · exact bad_by rfl
  · exact bad_by rfl
  · exact bad_by (bad_order (by decide +kernel))
  · exact bad_strange hs
  · exact bad_by rfl
  · exact bad_by rfl
  · exact bad_by (bad_rate (by rfl))
  · exact bad_by (bad_rat (by decide +kernel))
  · exact bad_by rfl
def oddNs : List Str := ["", "A", "abcdefg", "a b", "'", "a''", "1"].map Str.ofString
theorem odd_names : ∀ x ∈ oddNs, nameB x.cps.toList = false ∧ x.length ≤ 7 := by
  have h : (oddNs.all fun x => !nameB x.cps.toList && decide (x.length ≤ 7)) = true := by decide +kernel
  intro x hx
  have := List.all_eq_true.mp h x hx
  rw [Bool.and_eq_true, Bool.not_eq_true', decide_eq_true_eq] at this
  exact this
/-! ### a name that is not among some -/
def tenNs : List Str := ["zz", "q", "yyy", "m", "vvvv", "kk", "j", "gg", "xwxwx", "n"].map Str.ofString
theorem fresh_of : ∀ (ws : List Str) (ts : List Str), ts.Nodup → ws.length < ts.length → ∃ t ∈ ts, t ∉ ws
  | [], t :: _, _, _ => ⟨t, List.mem_cons_self, fun z => by cases z⟩
  | [], [], _, h => absurd h (by simp)
  | w :: ws, ts, hn, h => by
    have n2 : (ts.erase w).Nodup := hn.erase w
    have l2 : ws.length < (ts.erase w).length := by
      by_cases e : w ∈ ts
      · rw [List.length_erase_of_mem e]
        rw [List.length_cons] at h
        omega
      · rw [List.erase_of_not_mem e]
        rw [List.length_cons] at h
        omega
    obtain ⟨t, ht, hw⟩ := fresh_of ws (ts.erase w) n2 l2
    have h2 := (hn.mem_erase_iff).mp ht
    refine ⟨t, h2.2, fun z => ?_⟩
    rcases List.mem_cons.mp z with q | q
    · exact h2.1 q
    · exact hw q
theorem ten_fresh {ws : List Str} (h : ws.length ≤ 9) : (tenNs.filter fun x => decide (x ∉ ws)) ≠ [] := by
  obtain ⟨t, ht, hw⟩ := fresh_of ws tenNs (by decide +kernel) (Nat.lt_of_le_of_lt h (by decide +kernel))
  intro e
  have : t ∈ tenNs.filter fun x => decide (x ∉ ws) := List.mem_filter.mpr ⟨ht, decide_eq_true hw⟩
  rw [e] at this
  cases this
def tenLs : List (List Nat) := [[122, 122], [113], [121, 121, 121], [109], [118, 118, 118, 118], [107, 107], [106], [103, 103], [120, 119, 120, 119, 120], [110]]
theorem ten_eq : tenNs = tenLs.map SX.S := by decide +kernel
theorem ten_lw : ∀ x ∈ tenLs, LW x := by
  have h : (tenLs.all fun x => decide (x ≠ []) && decide (x.length ≤ 6) && x.all lowc) = true := by decide +kernel
  intro x hx
  have := List.all_eq_true.mp h x hx
  rw [Bool.and_eq_true, Bool.and_eq_true, decide_eq_true_eq, decide_eq_true_eq] at this
  exact ⟨this.1.1, this.1.2, this.2⟩
theorem FnOk.or {P : Program} {w : World} {K : PySem.W.Frag} {mg : Str → Option Value} {base : Heap} {CX : CXT} {k : Nat} {f : Addr} {fd : FuncData} {ps : List Str} {sp sp' : Sp} (F : FnOk P w K mg base CX k f fd ps sp) (G : FnOk P w K mg base CX k f fd ps sp') : FnOk P w K mg base CX k f fd ps (fun vs H Q E => sp vs H Q E ∨ sp' vs H Q E) :=
  ⟨fun vs H Q E h => h.elim (F.len vs H Q E) (G.len vs H Q E), fun A outer s H args us vs Q E hr e b r h => h.elim (F.run A outer s H args us vs Q E hr e b r) (G.run A outer s H args us vs Q E hr e b r)⟩
theorem SqT_sm {K : PySem.W.Frag} {H H' : Hp} {p : Addr} {xs : List V} (s : Same H H') (h : SqT K H p xs) : SqT K H' p xs := by
  rcases h with (q | ⟨o, q⟩) | q
  · exact .inl (.inl (s _ _ q))
  · exact .inl (.inr ⟨o, s _ _ q⟩)
  · exact .inr q
section
variable {P : Program} {w : World} {K : PySem.W.Frag} {mg : Str → Option Value} {base : Heap} {fa : Nat → Addr} {fd : Nat → FuncData}
def spFWNT (K : PySem.W.Frag) : Sp := fun vs H Q _ => ∃ (L : Addr) (ns : List Str), vs = [.ref L] ∧ SqT K H L (ns.map V.str) ∧ ns.length ≤ 900 ∧ (∀ x ∈ ns, x.length ≤ 1000) ∧ ∀ H', Same H H' → Q (optV (firstBad 0 [] ns)) H'
theorem ok_p_first_wrong_nameT (T : Txt K mg fa fd) : FnOk P w K mg base CX0 3 (fa 135) (fd 135) ["names"] (spFWNT K) := by
  refine T.F_p_first_wrong_name.ok sc_p_first_wrong_name (fun vs H Q E h => ?_) (fun cdv A outer s H vs Q E hr h => ?_)
  · obtain ⟨L, ns, rfl, _⟩ := h
    rfl
  · obtain ⟨L, ns, rfl, hL, hsz, hlen, q⟩ := h
    refine ⟨_, (pss_cons (ps_for PassesOwn.never rfl (pi_enumT (by rfl) T.m_enumerate (pa_cons (pv 0) pa_nil)) (pg_tup (by rfl) (pgs_cons (pg_name (i := 1) sc_p_first_wrong_name.nd rfl (.inl rfl)) (pgs_cons (pg_name (i := 2) sc_p_first_wrong_name.nd rfl (.inl rfl)) pgs_nil))) (pss_one (ps_if (PW.pt (pw_or (pt_not (pt_val (pe_call (ok_p_is_name T) (hr.mono (by decide)) (by rfl) T.g_p_is_name T.F_p_is_name.kp T.b_p_is_name .nil pass0 (pa_cons (pv 2) pa_nil)))) (pw_or1 (pt_cmpR op_in_seq (pv 2) (pe_slice sl_tup (pv 0) po_none (po_some (pv 1))) (by rfl))))) (pss_one (ps_ret (pv 1))) pss_nil)))
      (pss_one (ps_ret pe_non))), ?_⟩
    refine ⟨_, rfl, L, _, rfl, hL, for_enumT (K := K) (a := L) (xs := ns.map V.str) (fun i σ G => Same H G ∧ firstBad 0 [] ns = firstBad i (ns.take i) (ns.drop i) ∧ ∃ y1 y2, σ = [some (.ref L), y1, y2]) ⟨Same.refl H, rfl, _, _, rfl⟩ (fun i σ G _ hq => SqT_sm hq.1 hL) (fun i x σ G T hx hq nT => ?_) (fun σ G hq => ?_)⟩
    · obtain ⟨sG, fb, y1, y2, rfl⟩ := hq
      rw [List.getElem?_map] at hx
      obtain ⟨n, hz, rfl⟩ := Option.map_eq_some_iff.mp hx
      have lt : i < ns.length := (List.getElem?_eq_some_iff.mp hz).1
      have dr : ns.drop i = n :: ns.drop (i + 1) := by
        rw [List.drop_eq_getElem_cons lt]
        congr 1
        exact (List.getElem?_eq_some_iff.mp hz).2
      rw [dr] at fb
      have sT := same_upd (o := .tup [V.int (i : Nat), .str n]) nT
      have s1 := sG.trans sT
      have mem : n ∈ ns := List.mem_of_getElem? hz
      refine ⟨T, _, rfl, SqT.of upd_same, rfl, _, _, rfl, _, _, rfl, rfl, ?_⟩
      refine ⟨_, rfl, _, _, 0, rfl, .str n (hlen n mem), _, rfl, ?_⟩
      have ret : (¬ (nameB n.cps.toList = true ∧ n ∉ ns.take i)) → ∀ G', Same H G' → Q (.int (i : Int)) G' := fun c G' s' => by
        have e : firstBad 0 [] ns = some i := by
          rw [fb]
          show (if _ then _ else _) = _
          rw [if_neg c]
        rw [e] at q
        exact q G' s'
      cases hb : nameB n.cps.toList with
      | false =>
        have hb' : nameD (.str n) = false := hb
        rw [hb']
        exact iteT (iteT ⟨_, rfl, ret (fun z => by rw [hb] at z; exact Bool.false_ne_true z.1) _ s1⟩)
      | true =>
        have hb' : nameD (.str n) = true := hb
        rw [hb']
        refine iteF ⟨_, rfl, _, rfl, _, rfl, _, rfl, L, _, rfl, SqT_sm s1 hL, ?_, fun p np => ?_⟩
        · intro z
          have z2 := z.2
          rw [HT.sIx_nat, List.length_map] at z2
          omega
        have sp := same_upd (o := .tup (cutV (ns.map V.str) none (some (i : Int)))) np
        have ec : cutV (ns.map V.str) none (some (i : Int)) = (ns.take i).map V.str := by
          rw [cut_take _ _ (by rw [List.length_map]; omega), List.map_take]
        refine ⟨p, _, rfl, .inr (SqT.of upd_same), rfl, ?_, _, rfl, ?_⟩
        · rw [ec]
          exact flat_strs _
        · rw [ec] at sp ⊢
          rw [inV_strs]
          by_cases hm : n ∈ ns.take i
          · rw [decide_eq_true hm]
            exact iteT ⟨_, rfl, ret (fun z => z.2 hm) _ (s1.trans sp)⟩
          · rw [decide_eq_false hm]
            refine iteF ⟨s1.trans sp, ?_, _, _, rfl⟩
            rw [fb, List.take_add_one, hz]
            show (if _ then _ else _) = _
            rw [if_pos ⟨hb, hm⟩]
            rfl
    · obtain ⟨sG, fb, y1, y2, rfl⟩ := hq
      rw [List.length_map, List.take_length, List.drop_length] at fb
      have e : optV (firstBad 0 [] ns) = .non := by
        rw [fb]
        rfl
      rw [e] at q
      exact q _ sG
/-- a list or a tuple -/
def SqB (K : PySem.W.Frag) (H : Hp) (a : Addr) (xs : List V) : Prop := SqL K H a xs ∨ SqT K H a xs
theorem SqB.sm {K : PySem.W.Frag} {H H' : Hp} {p : Addr} {xs : List V} (s : Same H H') (h : SqB K H p xs) : SqB K H' p xs := h.elim (fun q => .inl (SqL.sm s q)) fun q => .inr (SqT_sm s q)
def spFWNB (K : PySem.W.Frag) : Sp := fun vs H Q _ => ∃ (L : Addr) (ns : List Str), vs = [.ref L] ∧ SqB K H L (ns.map V.str) ∧ ns.length ≤ 900 ∧ (∀ x ∈ ns, x.length ≤ 1000) ∧ ∀ H', Same H H' → Q (optV (firstBad 0 [] ns)) H'
theorem ok_p_first_wrong_nameB (T : Txt K mg fa fd) : FnOk P w K mg base CX0 3 (fa 135) (fd 135) ["names"] (spFWNB K) :=
  (FnOk.or (ok_p_first_wrong_name T) (ok_p_first_wrong_nameT T)).imp fun vs H Q E ⟨L, ns, e, h, r⟩ => h.elim (fun h => .inl ⟨L, ns, e, h, r⟩) fun h => .inr ⟨L, ns, e, h, r⟩
end
section
variable {P : Program} {w : World} {K : PySem.W.Frag} {mg : Str → Option Value} {base : Heap} {fa : Nat → Addr} {fd : Nat → FuncData}
def spFWqL (K : PySem.W.Frag) : Sp := fun vs H Q _ => ∃ (T L : Addr) (us : List V) (ds : List PyData) (ns : List Str) (z : Addr), vs = [.ref T, .ref L] ∧ SqL K H T us ∧ DtAll z H us ds ∧ us.length ≤ 900 ∧ SqB K H L (ns.map V.str) ∧ ∀ H', Same H H' → Q (optV (firstBadT ns 0 ds)) H'
theorem ok_p_first_wrong_tieL (T : Txt K mg fa fd) : FnOk P w K mg base CX0 6 (fa 136) (fd 136) ["ties", "names"] (spFWqL K) := by
  refine T.F_p_first_wrong_tie.ok sc_p_first_wrong_tie (fun vs H Q E h => ?_) (fun cdv A outer s H vs Q E hr h => ?_)
  · obtain ⟨T0, L, us, ds, ns, z, rfl, _⟩ := h
    rfl
  · obtain ⟨T0, L, us, ds, ns, z, rfl, hT, hds, hsz, hL, q⟩ := h
    refine ⟨_, (pss_cons (ps_for PassesOwn.never rfl (pi_enum (by rfl) T.m_enumerate (pa_cons (pv 0) pa_nil)) (pg_tup (by rfl) (pgs_cons (pg_name (i := 2) sc_p_first_wrong_tie.nd rfl (.inl rfl)) (pgs_cons (pg_name (i := 3) sc_p_first_wrong_tie.nd rfl (.inl rfl)) pgs_nil))) (pss_one (ps_if (PW.pt (pw_or (pt_not (pt_val (pe_call (ok_p_is_tie T) (hr.mono (by decide)) (by rfl) T.g_p_is_tie T.F_p_is_tie.kp T.b_p_is_tie .nil pass0 (pa_cons (pv 3) pa_nil)))) (pw_or1 (pt_not (pt_val (pe_callB (cr_all rfl) (by rfl) T.m_all PyProof.Rows.boot_all (pa_cons (pe_lc (own := [("name", 4)]) (g := gName 4) (tt := tYes) rfl sc_p_first_wrong_tie.nd (pi_list (pe_call (ok_p_names_in T) (hr.mono (by decide)) (by rfl) T.g_p_names_in T.F_p_names_in.kp T.b_p_names_in .nil pass0 (pa_cons (pv 3) pa_nil))) (blkOk_by (own := [("name", 4)]) (N := ["ties", "names", "at", "tie", "name"]) (sc := defScope s_p_first_wrong_tie) (by decide +kernel)) (fun _ _ _ _ _ => pg_name (i := 4) sc_p_first_wrong_tie.nd rfl (Or.inl rfl)) (fun _ _ _ _ _ => pts_nil) (fun _ _ _ _ _ => (pe_cmpR (op_in_seqK (K := K) rfl) (pv 4) (pv 1) (by rfl)))) pa_nil))))))) (pss_one (ps_ret (pv 2))) pss_nil)))
      (pss_one (ps_ret pe_non))), ?_⟩
    refine ⟨_, rfl, T0, _, rfl, hT, for_enum (K := K) (a := T0) (xs := us) (fun i σ G => Same H G ∧ firstBadT ns 0 ds = firstBadT ns i (ds.drop i) ∧ ∃ y1 y2 y3, σ = [some (.ref T0), some (.ref L), y1, y2, y3]) ⟨Same.refl H, rfl, _, _, _, rfl⟩ (fun i σ G _ hq => SqL.sm hq.1 hT) (fun i x σ G T1 hx hq nT => ?_) (fun σ G hq => ?_)⟩
    · obtain ⟨sG, fb, y1, y2, y3, rfl⟩ := hq
      obtain ⟨d, hd, hdt⟩ := DtAll.at i hds hx
      have lt : i < ds.length := (List.getElem?_eq_some_iff.mp hd).1
      have dr : ds.drop i = d :: ds.drop (i + 1) := by
        rw [List.drop_eq_getElem_cons lt]
        congr 1
        exact (List.getElem?_eq_some_iff.mp hd).2
      rw [dr] at fb
      have sT := same_upd (o := .tup [V.int (i : Nat), x]) nT
      have s1 := sG.trans sT
      have ret : goodT ns d = false → ∀ G', Same H G' → Q (.int (i : Int)) G' := fun c G' s' => by
        have e : firstBadT ns 0 ds = some i := by
          rw [fb]
          show (if _ then _ else _) = _
          rw [if_neg (by rw [c]; exact Bool.false_ne_true)]
        rw [e] at q
        exact q G' s'
      refine ⟨T1, _, rfl, SqT.of upd_same, rfl, _, _, rfl, _, _, rfl, rfl, ?_⟩
      refine ⟨_, rfl, x, d, z, rfl, hdt.same s1, fun G2 s2 => ⟨_, rfl, ?_⟩⟩
      cases ht : tieD d with
      | false =>
        refine iteT (iteT ⟨_, rfl, ret ?_ _ (s1.trans s2)⟩)
        unfold goodT
        rw [ht]
        rfl
      | true =>
        obtain ⟨ts, b, ed, hl, en⟩ := tieD_inv ht
        have s12 := s1.trans s2
        refine iteF ⟨_, rfl, x, ts, b, z, rfl, by rw [← ed]; exact hdt.same s12, by omega, fun D H' nD s3 hD => ⟨D, rfl, ⟨_, SqL.of hD⟩, fun D2 nD2 => ?_⟩⟩
        have s13 := s12.trans s3
        refine lc_list (K := K) (a := D) (xs := ts.map fun t => V.str t.1) (fun j G3 => Same H' G3 ∧ G3 D2 = some (.lst (((ts.take j).map fun t => decide (t.1 ∈ ns)).map V.bl))) ⟨same_upd nD2, upd_same⟩ (fun j G3 _ hp => SqL.of (hp.1 _ _ hD)) (fun j y G3 hy hp => ?_) (fun G3 hp => ?_)
        · rw [List.getElem?_map] at hy
          obtain ⟨t, htz, rfl⟩ := Option.map_eq_some_iff.mp hy
          have jl := (List.getElem?_eq_some_iff.mp htz).1
          refine ⟨rfl, _, rfl, _, rfl, L, _, rfl, SqB.sm (s13.trans hp.1) hL, rfl, flat_strs _, _, hp.2, ?_, ?_, ?_⟩
          · rw [List.length_map, List.length_map, List.length_take]
            exact small1000 (by omega)
          · exact fun c o e => (upd_ne (ne_of_none e nD2)).trans (hp.1 c o e)
          · rw [upd_same, List.take_add_one, htz, inV_strs, List.map_append, List.map_append]
            rfl
        · rw [List.length_map, List.take_length] at hp
          have s14 := s13.trans hp.1
          refine ⟨D2, _, rfl, SqL.of hp.2, _, rfl, ?_⟩
          have ea : (ts.map fun t => decide (t.1 ∈ ns)).all id = goodT ns d := by
            unfold goodT
            rw [ht, en, Bool.true_and, List.all_map, List.all_map]
            rfl
          rw [ea]
          cases hg : goodT ns d with
          | false => exact iteT ⟨_, rfl, ret hg _ s14⟩
          | true =>
            refine iteF ⟨s14, ?_, _, _, _, rfl⟩
            rw [fb]
            show (if _ then _ else _) = _
            rw [if_pos hg]
    · obtain ⟨sG, fb, y1, y2, y3, rfl⟩ := hq
      rw [hds.len, List.drop_length] at fb
      have e : optV (firstBadT ns 0 ds) = .non := by
        rw [fb]
        rfl
      rw [e] at q
      exact q _ sG
def spFWqT (K : PySem.W.Frag) : Sp := fun vs H Q _ => ∃ (T L : Addr) (us : List V) (ds : List PyData) (ns : List Str) (z : Addr), vs = [.ref T, .ref L] ∧ SqT K H T us ∧ DtAll z H us ds ∧ us.length ≤ 900 ∧ SqB K H L (ns.map V.str) ∧ ∀ H', Same H H' → Q (optV (firstBadT ns 0 ds)) H'
theorem ok_p_first_wrong_tieT (T : Txt K mg fa fd) : FnOk P w K mg base CX0 6 (fa 136) (fd 136) ["ties", "names"] (spFWqT K) := by
  refine T.F_p_first_wrong_tie.ok sc_p_first_wrong_tie (fun vs H Q E h => ?_) (fun cdv A outer s H vs Q E hr h => ?_)
  · obtain ⟨T0, L, us, ds, ns, z, rfl, _⟩ := h
    rfl
  · obtain ⟨T0, L, us, ds, ns, z, rfl, hT, hds, hsz, hL, q⟩ := h
    refine ⟨_, (pss_cons (ps_for PassesOwn.never rfl (pi_enumT (by rfl) T.m_enumerate (pa_cons (pv 0) pa_nil)) (pg_tup (by rfl) (pgs_cons (pg_name (i := 2) sc_p_first_wrong_tie.nd rfl (.inl rfl)) (pgs_cons (pg_name (i := 3) sc_p_first_wrong_tie.nd rfl (.inl rfl)) pgs_nil))) (pss_one (ps_if (PW.pt (pw_or (pt_not (pt_val (pe_call (ok_p_is_tie T) (hr.mono (by decide)) (by rfl) T.g_p_is_tie T.F_p_is_tie.kp T.b_p_is_tie .nil pass0 (pa_cons (pv 3) pa_nil)))) (pw_or1 (pt_not (pt_val (pe_callB (cr_all rfl) (by rfl) T.m_all PyProof.Rows.boot_all (pa_cons (pe_lc (own := [("name", 4)]) (g := gName 4) (tt := tYes) rfl sc_p_first_wrong_tie.nd (pi_list (pe_call (ok_p_names_in T) (hr.mono (by decide)) (by rfl) T.g_p_names_in T.F_p_names_in.kp T.b_p_names_in .nil pass0 (pa_cons (pv 3) pa_nil))) (blkOk_by (own := [("name", 4)]) (N := ["ties", "names", "at", "tie", "name"]) (sc := defScope s_p_first_wrong_tie) (by decide +kernel)) (fun _ _ _ _ _ => pg_name (i := 4) sc_p_first_wrong_tie.nd rfl (Or.inl rfl)) (fun _ _ _ _ _ => pts_nil) (fun _ _ _ _ _ => (pe_cmpR (op_in_seqK (K := K) rfl) (pv 4) (pv 1) (by rfl)))) pa_nil))))))) (pss_one (ps_ret (pv 2))) pss_nil)))
      (pss_one (ps_ret pe_non))), ?_⟩
    refine ⟨_, rfl, T0, _, rfl, hT, for_enumT (K := K) (a := T0) (xs := us) (fun i σ G => Same H G ∧ firstBadT ns 0 ds = firstBadT ns i (ds.drop i) ∧ ∃ y1 y2 y3, σ = [some (.ref T0), some (.ref L), y1, y2, y3]) ⟨Same.refl H, rfl, _, _, _, rfl⟩ (fun i σ G _ hq => SqT_sm hq.1 hT) (fun i x σ G T1 hx hq nT => ?_) (fun σ G hq => ?_)⟩
    · obtain ⟨sG, fb, y1, y2, y3, rfl⟩ := hq
      obtain ⟨d, hd, hdt⟩ := DtAll.at i hds hx
      have lt : i < ds.length := (List.getElem?_eq_some_iff.mp hd).1
      have dr : ds.drop i = d :: ds.drop (i + 1) := by
        rw [List.drop_eq_getElem_cons lt]
        congr 1
        exact (List.getElem?_eq_some_iff.mp hd).2
      rw [dr] at fb
      have sT := same_upd (o := .tup [V.int (i : Nat), x]) nT
      have s1 := sG.trans sT
      have ret : goodT ns d = false → ∀ G', Same H G' → Q (.int (i : Int)) G' := fun c G' s' => by
        have e : firstBadT ns 0 ds = some i := by
          rw [fb]
          show (if _ then _ else _) = _
          rw [if_neg (by rw [c]; exact Bool.false_ne_true)]
        rw [e] at q
        exact q G' s'
      refine ⟨T1, _, rfl, SqT.of upd_same, rfl, _, _, rfl, _, _, rfl, rfl, ?_⟩
      refine ⟨_, rfl, x, d, z, rfl, hdt.same s1, fun G2 s2 => ⟨_, rfl, ?_⟩⟩
      cases ht : tieD d with
      | false =>
        refine iteT (iteT ⟨_, rfl, ret ?_ _ (s1.trans s2)⟩)
        unfold goodT
        rw [ht]
        rfl
      | true =>
        obtain ⟨ts, b, ed, hl, en⟩ := tieD_inv ht
        have s12 := s1.trans s2
        refine iteF ⟨_, rfl, x, ts, b, z, rfl, by rw [← ed]; exact hdt.same s12, by omega, fun D H' nD s3 hD => ⟨D, rfl, ⟨_, SqL.of hD⟩, fun D2 nD2 => ?_⟩⟩
        have s13 := s12.trans s3
        refine lc_list (K := K) (a := D) (xs := ts.map fun t => V.str t.1) (fun j G3 => Same H' G3 ∧ G3 D2 = some (.lst (((ts.take j).map fun t => decide (t.1 ∈ ns)).map V.bl))) ⟨same_upd nD2, upd_same⟩ (fun j G3 _ hp => SqL.of (hp.1 _ _ hD)) (fun j y G3 hy hp => ?_) (fun G3 hp => ?_)
        · rw [List.getElem?_map] at hy
          obtain ⟨t, htz, rfl⟩ := Option.map_eq_some_iff.mp hy
          have jl := (List.getElem?_eq_some_iff.mp htz).1
          refine ⟨rfl, _, rfl, _, rfl, L, _, rfl, SqB.sm (s13.trans hp.1) hL, rfl, flat_strs _, _, hp.2, ?_, ?_, ?_⟩
          · rw [List.length_map, List.length_map, List.length_take]
            exact small1000 (by omega)
          · exact fun c o e => (upd_ne (ne_of_none e nD2)).trans (hp.1 c o e)
          · rw [upd_same, List.take_add_one, htz, inV_strs, List.map_append, List.map_append]
            rfl
        · rw [List.length_map, List.take_length] at hp
          have s14 := s13.trans hp.1
          refine ⟨D2, _, rfl, SqL.of hp.2, _, rfl, ?_⟩
          have ea : (ts.map fun t => decide (t.1 ∈ ns)).all id = goodT ns d := by
            unfold goodT
            rw [ht, en, Bool.true_and, List.all_map, List.all_map]
            rfl
          rw [ea]
          cases hg : goodT ns d with
          | false => exact iteT ⟨_, rfl, ret hg _ s14⟩
          | true =>
            refine iteF ⟨s14, ?_, _, _, _, rfl⟩
            rw [fb]
            show (if _ then _ else _) = _
            rw [if_pos hg]
    · obtain ⟨sG, fb, y1, y2, y3, rfl⟩ := hq
      rw [hds.len, List.drop_length] at fb
      have e : optV (firstBadT ns 0 ds) = .non := by
        rw [fb]
        rfl
      rw [e] at q
      exact q _ sG
def spFWqB (K : PySem.W.Frag) : Sp := fun vs H Q _ => ∃ (T L : Addr) (us : List V) (ds : List PyData) (ns : List Str) (z : Addr), vs = [.ref T, .ref L] ∧ SqB K H T us ∧ DtAll z H us ds ∧ us.length ≤ 900 ∧ SqB K H L (ns.map V.str) ∧ ∀ H', Same H H' → Q (optV (firstBadT ns 0 ds)) H'
theorem ok_p_first_wrong_tieB (T : Txt K mg fa fd) : FnOk P w K mg base CX0 6 (fa 136) (fd 136) ["ties", "names"] (spFWqB K) :=
  (FnOk.or (ok_p_first_wrong_tieL T) (ok_p_first_wrong_tieT T)).imp fun vs H Q E ⟨T0, L, us, ds, ns, z, e, h, r⟩ => h.elim (fun h => .inl ⟨T0, L, us, ds, ns, z, e, h, r⟩) fun h => .inr ⟨T0, L, us, ds, ns, z, e, h, r⟩
end
theorem op_notIn_seqK {X : Cx} {K : PySem.W.Frag} (h : X.K = K) : OpR X (compareOp .NotIn) (rIn K true) := h ▸ op_notIn_seq
section
variable {P : Program} {w : World} {K : PySem.W.Frag} {mg : Str → Option Value} {base : Heap} {fa : Nat → Addr} {fd : Nat → FuncData}
def spStrange (K : PySem.W.Frag) : Sp := fun vs H Q _ => ∃ (p : Addr) (ws : List Str), vs = [.ref p] ∧ SqL K H p (ws.map V.str) ∧ ws.length ≤ 9 ∧ ∀ x H', x ∈ tenNs → x ∉ ws → Same H H' → Q (.str x) H'
theorem ok_strange (T : Txt K mg fa fd) : FnOk P w K mg base CX0 2 (fa 151) (fd 151) ["_law_words_here"] (spStrange K) := by
  refine T.F_strange.ok sc_strange (fun vs H Q E h => ?_) (fun cdv A outer s H vs Q E hr h => ?_)
  · obtain ⟨p, ws, rfl, _⟩ := h
    rfl
  · obtain ⟨p, ws, rfl, hp, hl, q⟩ := h
    refine ⟨_, (pss_one (ps_ret (pe_ix ix_list (pe_lc (own := [("_law_word", 1)]) (g := gName 1) (tt := _) rfl sc_strange.nd (pi_tup (pe_tup (pa_cons pe_str (pa_cons pe_str (pa_cons pe_str (pa_cons pe_str (pa_cons pe_str (pa_cons pe_str (pa_cons pe_str (pa_cons pe_str (pa_cons pe_str (pa_cons pe_str pa_nil)))))))))))) (blkOk_by (own := [("_law_word", 1)]) (N := ["_law_words_here", "_law_word"]) (sc := defScope s_strange) (by decide +kernel)) (fun _ _ _ _ _ => pg_name (i := 1) sc_strange.nd rfl (Or.inl rfl)) (fun _ _ _ _ _ => pts_one (pt_cmpR (op_notIn_seqK (K := K) rfl) (pv 1) (pv 0) (by rfl))) (fun _ _ _ _ _ => (pv 1))) pe_int (fun _ _ => rfl)))), ?_⟩
    refine ⟨small_line (by show 10 ≤ 1000; decide), fun t nt => ⟨t, rfl, ⟨_, SqT.of upd_same⟩, fun D nD => ?_⟩⟩
    have st := same_upd (o := .tup (tenNs.map V.str)) nt
    have e0 : ∀ i : Nat, i ≤ 10 → (((tenNs.take i).filter fun x => decide (x ∉ ws)).map V.str).length ≤ 10 := fun i hi => by
      rw [List.length_map]
      refine Nat.le_trans (List.length_filter_le _ _) ?_
      rw [List.length_take]
      omega
    refine lc_tup (K := K) (a := t) (xs := tenNs.map V.str) (fun i G => Same (upd H t (.tup (tenNs.map V.str))) G ∧ G D = some (.lst (((tenNs.take i).filter fun x => decide (x ∉ ws)).map V.str))) ⟨same_upd nD, upd_same⟩ (fun i G _ hq => SqT.of (hq.1 _ _ upd_same)) (fun i x G hx hq => ?_) (fun G hq => ?_)
    · rw [List.getElem?_map] at hx
      obtain ⟨x, hxz, rfl⟩ := Option.map_eq_some_iff.mp hx
      have il := (List.getElem?_eq_some_iff.mp hxz).1
      have i10 : i + 1 ≤ 10 := il
      refine ⟨rfl, _, rfl, _, rfl, p, _, rfl, .inl (SqL.sm (st.trans hq.1) hp), rfl, flat_strs _, ?_⟩
      rw [inV_strs]
      have step : (tenNs.take (i + 1)).filter (fun x => decide (x ∉ ws)) = (tenNs.take i).filter (fun x => decide (x ∉ ws)) ++ (if x ∈ ws then [] else [x]) := by
        rw [List.take_add_one, hxz, List.filter_append]
        congr 1
        by_cases c : x ∈ ws <;> simp [c]
      by_cases c : x ∈ ws
      · rw [decide_eq_true c]
        refine ⟨_, rfl, iteF ⟨hq.1, ?_⟩⟩
        rw [step, if_pos c, List.append_nil]
        exact hq.2
      · rw [decide_eq_false c]
        refine ⟨_, rfl, iteT ⟨_, rfl, _, hq.2, small1000 (Nat.le_trans (e0 i (by omega)) (by decide : 10 ≤ 1000)), fun b o e => (upd_ne (ne_of_none e nD)).trans (hq.1 _ _ e), ?_⟩⟩
        rw [upd_same, step, if_neg c, List.map_append]
        rfl
    · obtain ⟨sG, hD⟩ := hq
      rw [List.length_map, List.take_length] at hD
      cases e : tenNs.filter (fun x => decide (x ∉ ws)) with
      | nil => exact absurd e (ten_fresh hl)
      | cons x r =>
        have hm : x ∈ tenNs.filter (fun x => decide (x ∉ ws)) := by
          rw [e]
          exact List.mem_cons_self
        obtain ⟨h1, h2⟩ := List.mem_filter.mp hm
        rw [e] at hD
        exact ⟨D, _, _, _, rfl, rfl, SqL.of hD, at_of (j := 0) rfl rfl, q x G h1 (of_decide_eq_true h2) (st.trans sG)⟩
end
section
variable {P : Program} {w : World} {K : PySem.W.Frag} {mg : Str → Option Value} {base : Heap} {fa : Nat → Addr} {fd : Nat → FuncData}
/-- what a call of ascending comes back with -/
def AscQ (H : Hp) (Q : VK) (ns : List Str) : Prop := ∀ (p : Addr) (ms : List Str) (H' : Hp), Same H H' → H p = none → H' p = some (.lst (ms.map V.str)) → ms.Perm ns → sortedS ms = true → Q (.ref p) H'
def spAsL (K : PySem.W.Frag) : Sp := fun vs H Q _ => ∃ (L : Addr) (ns : List Str), vs = [.ref L] ∧ SqL K H L (ns.map V.str) ∧ ns.Nodup ∧ ns.length < 64 ∧ (∀ x ∈ ns, x.length ≤ 1000) ∧ AscQ H Q ns
theorem ok_p_ascendingL (T : Txt K mg fa fd) : FnOk P w K mg base CX0 1 (fa 109) (fd 109) ["names"] (spAsL K) := by
  refine T.F_p_ascending.ok sc_p_ascending (fun vs H Q E h => ?_) (fun cdv A outer s H vs Q E hr h => ?_)
  · obtain ⟨L, ns, rfl, _⟩ := h
    rfl
  · obtain ⟨L, ns, rfl, hL, nd, h64, hx, q⟩ := h
    refine ⟨_, (C8.pss_cut (ps_set (i := 1) sc_p_ascending.nd rfl (.inl rfl) (pe_lst pa_nil))
      (C8.pss_cut (ps_for PassesOwn.never rfl (pi_list (pe_callB cr_sortedS (by rfl) T.m_sorted (by decide +kernel) (pa_cons (pe_lc (own := [("one", 3)]) (g := gName 3) (tt := tYes) rfl sc_p_ascending.nd (pi_list (pv 0)) (blkOk_by (own := [("one", 3)]) (N := ["names", "found", "name", "one"]) (sc := defScope s_p_ascending) (by decide +kernel)) (fun _ _ _ _ _ => pg_name (i := 3) sc_p_ascending.nd rfl (Or.inl rfl)) (fun _ _ _ _ _ => pts_nil) (fun _ _ _ _ _ => (pe_callTy SkE.call_str_str (by rfl) T.m_str (by decide +kernel) (pa_cons (pv 3) pa_nil)))) pa_nil))) (pg_name (i := 2) sc_p_ascending.nd rfl (.inl rfl)) (pss_one (ps_if (pt_cmpR (op_notIn_seqK (K := K) rfl) (pv 2) (pv 1) (by rfl)) (pss_one (ps_expr (pe_bm PySem.F.plainAttrs_list PySem.F.slot_list_append PySem.F.type_list_append mt_append (pv 1) (pa_cons (pv 2) pa_nil)))) pss_nil)))
      (pss_one (ps_ret (pv 1))))), ?_⟩
    refine ⟨fun σ G => ∃ F, H F = none ∧ Same H G ∧ G F = some (.lst []) ∧ σ = [some (.ref L), some (.ref F), none, none], ⟨small_line (by show 0 ≤ 1000; decide), fun F nF => ⟨F, nF, same_upd nF, upd_same, rfl⟩⟩, fun σ G hM => ?_⟩
    obtain ⟨F, nF, sG, hF, rfl⟩ := hM
    refine ⟨fun σ G1 => ∃ ms y2 y3, (∀ b o, b ≠ F → H b = some o → G1 b = some o) ∧ G1 F = some (.lst (ms.map V.str)) ∧ ms.Perm ns ∧ sortedS ms = true ∧ σ = [some (.ref L), some (.ref F), y2, y3], ?_, fun σ G1 hM => ?_⟩
    · refine ⟨_, rfl, L, rfl, ⟨_, SqL.sm sG hL⟩, fun D nD => ?_⟩
      have nDF : D ≠ F := fun e => by rw [e, hF] at nD; cases nD
      refine lc_list (K := K) (a := L) (xs := ns.map V.str) (fun i G3 => Same G G3 ∧ G3 D = some (.lst ((ns.take i).map V.str))) ⟨same_upd nD, upd_same⟩ (fun i G3 _ hp => SqL.sm (sG.trans hp.1) hL) (fun i y G3 hy hp => ?_) (fun G3 hp => ?_)
      · rw [List.getElem?_map] at hy
        obtain ⟨x, hz, rfl⟩ := Option.map_eq_some_iff.mp hy
        have il := (List.getElem?_eq_some_iff.mp hz).1
        refine ⟨rfl, _, rfl, _, rfl, _, hp.2, ?_, fun c o e => (upd_ne (ne_of_none e nD)).trans (hp.1 c o e), ?_⟩
        · rw [List.length_map, List.length_take]
          exact small1000 (by omega)
        · rw [upd_same, List.take_add_one, hz, List.map_append]
          rfl
      · rw [List.length_map, List.take_length] at hp
        refine ⟨D, ns, rfl, SqL.of hp.2, h64, fun ys p perm srt np => ?_⟩
        have sp := same_upd (o := .lst (ys.map V.str)) np
        have ndy : ys.Nodup := perm.nodup_iff.mpr nd
        have hF3 := sp _ _ (hp.1 _ _ hF)
        have pF : p ≠ F := fun e => by rw [e, hp.1 _ _ hF] at np; cases np
        have s13 := (sG.trans hp.1).trans sp
        refine ⟨p, rfl, ⟨_, SqL.of upd_same⟩, for_list (K := K) (a := p) (xs := ys.map V.str) (fun i σ G4 => (∀ b o, b ≠ F → H b = some o → G4 b = some o) ∧ G4 F = some (.lst ((ys.take i).map V.str)) ∧ G4 p = some (.lst (ys.map V.str)) ∧ ∃ y2 y3, σ = [some (.ref L), some (.ref F), y2, y3])
          ⟨fun b o _ e => s13 b o e, hF3, upd_same, _, _, rfl⟩ (fun i σ G4 _ hq => SqL.of hq.2.2.1) (fun i y σ G4 hy hq => ?_) (fun σ G4 hq => ?_)⟩
        · rw [List.getElem?_map] at hy
          obtain ⟨x, hz, rfl⟩ := Option.map_eq_some_iff.mp hy
          have il := (List.getElem?_eq_some_iff.mp hz).1
          obtain ⟨oth, hF4, hp4, y2, y3, rfl⟩ := hq
          have fresh : x ∉ ys.take i := fun z => by
            obtain ⟨j, hj, ej⟩ := List.mem_iff_getElem.mp z
            rw [List.length_take] at hj
            rw [List.getElem_take] at ej
            have e2 := (List.getElem?_eq_some_iff.mp hz).2
            exact List.pairwise_iff_getElem.mp ndy j i (by omega) il (by omega) (ej.trans e2.symm)
          refine ⟨_, rfl, _, rfl, F, _, rfl, .inl (SqL.of hF4), rfl, flat_strs _, ?_⟩
          rw [inV_strs, decide_eq_false fresh]
          refine ⟨_, rfl, iteT ⟨_, rfl, .inl ⟨rfl, _, SqL.of hF4⟩, _, rfl, F, _, _, rfl, rfl, hF4, ?_, ?_⟩⟩
          · rw [List.length_map, List.length_take]
            exact small1000 (by have := perm.length_eq; omega)
          · refine ⟨fun b o nb e => (upd_ne nb).trans (oth b o nb e), ?_, (upd_ne pF).trans hp4, _, _, rfl⟩
            rw [upd_same, List.take_add_one, hz, List.map_append]
            rfl
        · obtain ⟨oth, hF4, hp4, y2, y3, rfl⟩ := hq
          rw [List.length_map, List.take_length] at hF4
          exact ⟨ys, _, _, oth, hF4, perm, srt, rfl⟩
    obtain ⟨ms, y2, y3, oth, hF1, hp, hs, rfl⟩ := hM
    exact ⟨_, rfl, q F ms G1 (fun b o e => oth b o (ne_of_none e nF) e) nF hF1 hp hs⟩
end
section
variable {P : Program} {w : World} {K : PySem.W.Frag} {mg : Str → Option Value} {base : Heap} {fa : Nat → Addr} {fd : Nat → FuncData}
def spAsT (K : PySem.W.Frag) : Sp := fun vs H Q _ => ∃ (L : Addr) (ns : List Str), vs = [.ref L] ∧ SqT K H L (ns.map V.str) ∧ ns.Nodup ∧ ns.length < 64 ∧ (∀ x ∈ ns, x.length ≤ 1000) ∧ AscQ H Q ns
theorem ok_p_ascendingT (T : Txt K mg fa fd) : FnOk P w K mg base CX0 1 (fa 109) (fd 109) ["names"] (spAsT K) := by
  refine T.F_p_ascending.ok sc_p_ascending (fun vs H Q E h => ?_) (fun cdv A outer s H vs Q E hr h => ?_)
  · obtain ⟨L, ns, rfl, _⟩ := h
    rfl
  · obtain ⟨L, ns, rfl, hL, nd, h64, hx, q⟩ := h
    refine ⟨_, (C8.pss_cut (ps_set (i := 1) sc_p_ascending.nd rfl (.inl rfl) (pe_lst pa_nil))
      (C8.pss_cut (ps_for PassesOwn.never rfl (pi_list (pe_callB cr_sortedS (by rfl) T.m_sorted (by decide +kernel) (pa_cons (pe_lc (own := [("one", 3)]) (g := gName 3) (tt := tYes) rfl sc_p_ascending.nd (pi_tup (pv 0)) (blkOk_by (own := [("one", 3)]) (N := ["names", "found", "name", "one"]) (sc := defScope s_p_ascending) (by decide +kernel)) (fun _ _ _ _ _ => pg_name (i := 3) sc_p_ascending.nd rfl (Or.inl rfl)) (fun _ _ _ _ _ => pts_nil) (fun _ _ _ _ _ => (pe_callTy SkE.call_str_str (by rfl) T.m_str (by decide +kernel) (pa_cons (pv 3) pa_nil)))) pa_nil))) (pg_name (i := 2) sc_p_ascending.nd rfl (.inl rfl)) (pss_one (ps_if (pt_cmpR (op_notIn_seqK (K := K) rfl) (pv 2) (pv 1) (by rfl)) (pss_one (ps_expr (pe_bm PySem.F.plainAttrs_list PySem.F.slot_list_append PySem.F.type_list_append mt_append (pv 1) (pa_cons (pv 2) pa_nil)))) pss_nil)))
      (pss_one (ps_ret (pv 1))))), ?_⟩
    refine ⟨fun σ G => ∃ F, H F = none ∧ Same H G ∧ G F = some (.lst []) ∧ σ = [some (.ref L), some (.ref F), none, none], ⟨small_line (by show 0 ≤ 1000; decide), fun F nF => ⟨F, nF, same_upd nF, upd_same, rfl⟩⟩, fun σ G hM => ?_⟩
    obtain ⟨F, nF, sG, hF, rfl⟩ := hM
    refine ⟨fun σ G1 => ∃ ms y2 y3, (∀ b o, b ≠ F → H b = some o → G1 b = some o) ∧ G1 F = some (.lst (ms.map V.str)) ∧ ms.Perm ns ∧ sortedS ms = true ∧ σ = [some (.ref L), some (.ref F), y2, y3], ?_, fun σ G1 hM => ?_⟩
    · refine ⟨_, rfl, L, rfl, ⟨_, SqT_sm sG hL⟩, fun D nD => ?_⟩
      have nDF : D ≠ F := fun e => by rw [e, hF] at nD; cases nD
      refine lc_tup (K := K) (a := L) (xs := ns.map V.str) (fun i G3 => Same G G3 ∧ G3 D = some (.lst ((ns.take i).map V.str))) ⟨same_upd nD, upd_same⟩ (fun i G3 _ hp => SqT_sm (sG.trans hp.1) hL) (fun i y G3 hy hp => ?_) (fun G3 hp => ?_)
      · rw [List.getElem?_map] at hy
        obtain ⟨x, hz, rfl⟩ := Option.map_eq_some_iff.mp hy
        have il := (List.getElem?_eq_some_iff.mp hz).1
        refine ⟨rfl, _, rfl, _, rfl, _, hp.2, ?_, fun c o e => (upd_ne (ne_of_none e nD)).trans (hp.1 c o e), ?_⟩
        · rw [List.length_map, List.length_take]
          exact small1000 (by omega)
        · rw [upd_same, List.take_add_one, hz, List.map_append]
          rfl
      · rw [List.length_map, List.take_length] at hp
        refine ⟨D, ns, rfl, SqL.of hp.2, h64, fun ys p perm srt np => ?_⟩
        have sp := same_upd (o := .lst (ys.map V.str)) np
        have ndy : ys.Nodup := perm.nodup_iff.mpr nd
        have hF3 := sp _ _ (hp.1 _ _ hF)
        have pF : p ≠ F := fun e => by rw [e, hp.1 _ _ hF] at np; cases np
        have s13 := (sG.trans hp.1).trans sp
        refine ⟨p, rfl, ⟨_, SqL.of upd_same⟩, for_list (K := K) (a := p) (xs := ys.map V.str) (fun i σ G4 => (∀ b o, b ≠ F → H b = some o → G4 b = some o) ∧ G4 F = some (.lst ((ys.take i).map V.str)) ∧ G4 p = some (.lst (ys.map V.str)) ∧ ∃ y2 y3, σ = [some (.ref L), some (.ref F), y2, y3])
          ⟨fun b o _ e => s13 b o e, hF3, upd_same, _, _, rfl⟩ (fun i σ G4 _ hq => SqL.of hq.2.2.1) (fun i y σ G4 hy hq => ?_) (fun σ G4 hq => ?_)⟩
        · rw [List.getElem?_map] at hy
          obtain ⟨x, hz, rfl⟩ := Option.map_eq_some_iff.mp hy
          have il := (List.getElem?_eq_some_iff.mp hz).1
          obtain ⟨oth, hF4, hp4, y2, y3, rfl⟩ := hq
          have fresh : x ∉ ys.take i := fun z => by
            obtain ⟨j, hj, ej⟩ := List.mem_iff_getElem.mp z
            rw [List.length_take] at hj
            rw [List.getElem_take] at ej
            have e2 := (List.getElem?_eq_some_iff.mp hz).2
            exact List.pairwise_iff_getElem.mp ndy j i (by omega) il (by omega) (ej.trans e2.symm)
          refine ⟨_, rfl, _, rfl, F, _, rfl, .inl (SqL.of hF4), rfl, flat_strs _, ?_⟩
          rw [inV_strs, decide_eq_false fresh]
          refine ⟨_, rfl, iteT ⟨_, rfl, .inl ⟨rfl, _, SqL.of hF4⟩, _, rfl, F, _, _, rfl, rfl, hF4, ?_, ?_⟩⟩
          · rw [List.length_map, List.length_take]
            exact small1000 (by have := perm.length_eq; omega)
          · refine ⟨fun b o nb e => (upd_ne nb).trans (oth b o nb e), ?_, (upd_ne pF).trans hp4, _, _, rfl⟩
            rw [upd_same, List.take_add_one, hz, List.map_append]
            rfl
        · obtain ⟨oth, hF4, hp4, y2, y3, rfl⟩ := hq
          rw [List.length_map, List.take_length] at hF4
          exact ⟨ys, _, _, oth, hF4, perm, srt, rfl⟩
    obtain ⟨ms, y2, y3, oth, hF1, hp, hs, rfl⟩ := hM
    exact ⟨_, rfl, q F ms G1 (fun b o e => oth b o (ne_of_none e nF) e) nF hF1 hp hs⟩
def spAsD (K : PySem.W.Frag) : Sp := fun vs H Q _ => ∃ (L : Addr) (ns : List Str) (kvs : List (Key × V)), vs = [.ref L] ∧ (H L = some (.dK kvs) ∧ kvs.map (·.1) = ns.map (fun x => (.inr x : Key))) ∧ ns.Nodup ∧ ns.length < 64 ∧ (∀ x ∈ ns, x.length ≤ 1000) ∧ AscQ H Q ns
theorem ok_p_ascendingD (T : Txt K mg fa fd) : FnOk P w K mg base CX0 1 (fa 109) (fd 109) ["names"] (spAsD K) := by
  refine T.F_p_ascending.ok sc_p_ascending (fun vs H Q E h => ?_) (fun cdv A outer s H vs Q E hr h => ?_)
  · obtain ⟨L, ns, kvs, rfl, _⟩ := h
    rfl
  · obtain ⟨L, ns, kvs, rfl, ⟨hk, hkeys⟩, nd, h64, hx, q⟩ := h
    refine ⟨_, (C8.pss_cut (ps_set (i := 1) sc_p_ascending.nd rfl (.inl rfl) (pe_lst pa_nil))
      (C8.pss_cut (ps_for PassesOwn.never rfl (pi_list (pe_callB cr_sortedS (by rfl) T.m_sorted (by decide +kernel) (pa_cons (pe_lock (pe_lc (own := [("one", 3)]) (g := gName 3) (tt := tYes) rfl sc_p_ascending.nd (pi_keys (pv 0)) (blkOk_by (own := [("one", 3)]) (N := ["names", "found", "name", "one"]) (sc := defScope s_p_ascending) (by decide +kernel)) (fun _ _ _ _ _ => pg_name (i := 3) sc_p_ascending.nd rfl (Or.inl rfl)) (fun _ _ _ _ _ => pts_nil) (fun _ _ _ _ _ => (pe_callTy SkE.call_str_str (by rfl) T.m_str (by decide +kernel) (pa_cons (pv 3) pa_nil))))) pa_nil))) (pg_name (i := 2) sc_p_ascending.nd rfl (.inl rfl)) (pss_one (ps_if (pt_cmpR (op_notIn_seqK (K := K) rfl) (pv 2) (pv 1) (by rfl)) (pss_one (ps_expr (pe_bm PySem.F.plainAttrs_list PySem.F.slot_list_append PySem.F.type_list_append mt_append (pv 1) (pa_cons (pv 2) pa_nil)))) pss_nil)))
      (pss_one (ps_ret (pv 1))))), ?_⟩
    refine ⟨fun σ G => ∃ F, H F = none ∧ Same H G ∧ G F = some (.lst []) ∧ σ = [some (.ref L), some (.ref F), none, none], ⟨small_line (by show 0 ≤ 1000; decide), fun F nF => ⟨F, nF, same_upd nF, upd_same, rfl⟩⟩, fun σ G hM => ?_⟩
    obtain ⟨F, nF, sG, hF, rfl⟩ := hM
    refine ⟨fun σ G1 => ∃ ms y2 y3, (∀ b o, b ≠ F → H b = some o → G1 b = some o) ∧ G1 F = some (.lst (ms.map V.str)) ∧ ms.Perm ns ∧ sortedS ms = true ∧ σ = [some (.ref L), some (.ref F), y2, y3], ?_, fun σ G1 hM => ?_⟩
    · have hkG := sG _ _ hk
      refine ⟨L, _, hkG, trivial, fun od => ?_⟩
      refine ⟨_, rfl, L, od, rfl, .inl ⟨kvs, upd_same, fun D nD => ?_⟩⟩
      have nDL : D ≠ L := fun e => by rw [e, upd_same] at nD; cases nD
      have nDG : G D = none := by
        rw [upd_ne nDL] at nD
        exact nD
      have nDF : D ≠ F := fun e => by rw [e, hF] at nDG; cases nDG
      have kl : kvs.length = ns.length := by
        have := congrArg List.length hkeys
        rwa [List.length_map, List.length_map] at this
      refine lc_keys (fun i G3 => G3 L = some (.frz od (.dK kvs)) ∧ Ex L G G3 ∧ G3 D = some (.lst ((ns.take i).map V.str))) ⟨?_, ?_, upd_same⟩ (fun i G3 h => h.1) (fun i k vv G3 hkv hp => ?_) (fun G3 hp => ?_)
      · rw [upd_ne nDL.symm]
        exact upd_same
      · exact fun c o e n => by
          rw [upd_ne (ne_of_none e nDG), upd_ne n]
          exact e
      · obtain ⟨hfL, ex, hD⟩ := hp
        have il := (List.getElem?_eq_some_iff.mp hkv).1
        obtain ⟨x, hz, rfl⟩ : ∃ x, ns[i]? = some x ∧ k = .inr x := by
          have e1 : (kvs.map (·.1))[i]? = some k := by rw [List.getElem?_map, hkv]; rfl
          rw [hkeys, List.getElem?_map] at e1
          obtain ⟨x, hx1, hx2⟩ := Option.map_eq_some_iff.mp e1
          exact ⟨x, hx1, hx2.symm⟩
        refine ⟨rfl, _, rfl, _, rfl, _, hD, ?_, ?_, ex.upd nDG, ?_⟩
        · rw [List.length_map, List.length_take]
          exact small1000 (by omega)
        · rw [upd_ne nDL.symm]
          exact hfL
        · rw [upd_same, List.take_add_one, hz, List.map_append]
          rfl
      · obtain ⟨hfL, ex, hD⟩ := hp
        rw [kl, List.take_length] at hD
        refine ⟨hfL, ?_⟩
        have sb : Same G (upd G3 L (.dK kvs)) := ex.back hkG
        have hD2 : upd G3 L (.dK kvs) D = some (.lst (ns.map V.str)) := by
          rw [upd_ne nDL]
          exact hD
        generalize upd G3 L (.dK kvs) = G3 at sb hD2
        have hp : Same G G3 ∧ G3 D = some (.lst (ns.map V.str)) := ⟨sb, hD2⟩
        refine ⟨D, ns, rfl, SqL.of hp.2, h64, fun ys p perm srt np => ?_⟩
        have sp := same_upd (o := .lst (ys.map V.str)) np
        have ndy : ys.Nodup := perm.nodup_iff.mpr nd
        have hF3 := sp _ _ (hp.1 _ _ hF)
        have pF : p ≠ F := fun e => by rw [e, hp.1 _ _ hF] at np; cases np
        have s13 := (sG.trans hp.1).trans sp
        refine ⟨p, rfl, ⟨_, SqL.of upd_same⟩, for_list (K := K) (a := p) (xs := ys.map V.str) (fun i σ G4 => (∀ b o, b ≠ F → H b = some o → G4 b = some o) ∧ G4 F = some (.lst ((ys.take i).map V.str)) ∧ G4 p = some (.lst (ys.map V.str)) ∧ ∃ y2 y3, σ = [some (.ref L), some (.ref F), y2, y3])
          ⟨fun b o _ e => s13 b o e, hF3, upd_same, _, _, rfl⟩ (fun i σ G4 _ hq => SqL.of hq.2.2.1) (fun i y σ G4 hy hq => ?_) (fun σ G4 hq => ?_)⟩
        · rw [List.getElem?_map] at hy
          obtain ⟨x, hz, rfl⟩ := Option.map_eq_some_iff.mp hy
          have il := (List.getElem?_eq_some_iff.mp hz).1
          obtain ⟨oth, hF4, hp4, y2, y3, rfl⟩ := hq
          have fresh : x ∉ ys.take i := fun z => by
            obtain ⟨j, hj, ej⟩ := List.mem_iff_getElem.mp z
            rw [List.length_take] at hj
            rw [List.getElem_take] at ej
            have e2 := (List.getElem?_eq_some_iff.mp hz).2
            exact List.pairwise_iff_getElem.mp ndy j i (by omega) il (by omega) (ej.trans e2.symm)
          refine ⟨_, rfl, _, rfl, F, _, rfl, .inl (SqL.of hF4), rfl, flat_strs _, ?_⟩
          rw [inV_strs, decide_eq_false fresh]
          refine ⟨_, rfl, iteT ⟨_, rfl, .inl ⟨rfl, _, SqL.of hF4⟩, _, rfl, F, _, _, rfl, rfl, hF4, ?_, ?_⟩⟩
          · rw [List.length_map, List.length_take]
            exact small1000 (by have := perm.length_eq; omega)
          · refine ⟨fun b o nb e => (upd_ne nb).trans (oth b o nb e), ?_, (upd_ne pF).trans hp4, _, _, rfl⟩
            rw [upd_same, List.take_add_one, hz, List.map_append]
            rfl
        · obtain ⟨oth, hF4, hp4, y2, y3, rfl⟩ := hq
          rw [List.length_map, List.take_length] at hF4
          exact ⟨ys, _, _, oth, hF4, perm, srt, rfl⟩
    obtain ⟨ms, y2, y3, oth, hF1, hp, hs, rfl⟩ := hM
    exact ⟨_, rfl, q F ms G1 (fun b o e => oth b o (ne_of_none e nF) e) nF hF1 hp hs⟩
/-- a list, a tuple, the keys of a dict -/
def SqN (K : PySem.W.Frag) (H : Hp) (L : Addr) (ns : List Str) : Prop := SqB K H L (ns.map V.str) ∨ ∃ kvs : List (Key × V), H L = some (.dK kvs) ∧ kvs.map (·.1) = ns.map (fun x => (.inr x : Key))
def spAsB (K : PySem.W.Frag) : Sp := fun vs H Q _ => ∃ (L : Addr) (ns : List Str), vs = [.ref L] ∧ SqN K H L ns ∧ ns.Nodup ∧ ns.length < 64 ∧ (∀ x ∈ ns, x.length ≤ 1000) ∧ AscQ H Q ns
theorem ok_p_ascendingB (T : Txt K mg fa fd) : FnOk P w K mg base CX0 1 (fa 109) (fd 109) ["names"] (spAsB K) :=
  (FnOk.or (FnOk.or (ok_p_ascendingL T) (ok_p_ascendingT T)) (ok_p_ascendingD T)).imp fun vs H Q E ⟨L, ns, e, h, r⟩ => by
    rcases h with (h | h) | ⟨kvs, h⟩
    · exact .inl (.inl ⟨L, ns, e, h, r⟩)
    · exact .inl (.inr ⟨L, ns, e, h, r⟩)
    · exact .inr ⟨L, ns, kvs, e, h, r⟩
end
section
variable {P : Program} {w : World} {K : PySem.W.Frag} {mg : Str → Option Value} {base : Heap} {fa : Nat → Addr} {fd : Nat → FuncData}
/-- what holds of a call Lot(names, ties) that is right -/
structure LotA (K : PySem.W.Frag) (H : Hp) (L T : Addr) (ns : List Str) (us : List V) : Prop where
  ln : SqB K H L (ns.map V.str)
  lt : SqB K H T us
  ds : ∃ z ds, DtAll z H us ds ∧ firstBadT ns 0 ds = none
  us : us.length ≤ 900
  fb : firstBad 0 [] ns = none
  nd : ns.Nodup
  sz : ns.length < 64
  lx : ∀ x ∈ ns, x.length ≤ 1000
theorem LotA.same {K : PySem.W.Frag} {H H' : Hp} {L T : Addr} {ns : List Str} {us : List V} (h : LotA K H L T ns us) (s : Same H H') : LotA K H' L T ns us := by
  obtain ⟨z, ds, a, b⟩ := h.ds
  exact ⟨h.ln.sm s, h.lt.sm s, ⟨z, ds, a.same s, b⟩, h.us, h.fb, h.nd, h.sz, h.lx⟩
/-- a lot in the heap -/
structure LotH (K : PySem.W.Frag) (C : Addr) (H : Hp) (x : Addr) (ns : List Str) (us : List V) : Prop where
  at_ : ∃ dx p1 p2 ms, H x = some (.ins C dx [("unknowns", .ref p1), ("bonds", .ref p2)]) ∧ SqT K H p1 (ms.map V.str) ∧ ms.Perm ns ∧ sortedS ms = true ∧ SqT K H p2 us
def spLotI (K : PySem.W.Frag) (C : Addr) : Sp := fun vs H Q _ => ∃ (self L T : Addr) (ns : List Str) (us : List V) (dx : Addr), vs = [.ref self, .ref L, .ref T] ∧ H self = some (.ins C dx []) ∧ LotA K H L T ns us ∧
  ∀ H', (∀ b o, b ≠ self → H b = some o → H' b = some o) → LotH K C H' self ns us → Q .non H'
theorem ok_p_LotInit (T : Txt K mg fa fd) : FnOk P w K mg base CX0 7 (fa 1500) (fd 1500) ["self", "names", "ties"] (spLotI K (fa 138)) := by
  refine T.F_LotInit.ok sc_p_LotInit (fun vs H Q E h => ?_) (fun cdv A outer s H vs Q E hr h => ?_)
  · obtain ⟨self, L, T0, ns, us, dx, rfl, _⟩ := h
    rfl
  · obtain ⟨self, L, T0, ns, us, dx, rfl, hself, hA, q⟩ := h
    refine ⟨_, PSs.nox (C8.pss_cut (ps_set (i := 3) sc_p_LotInit.nd rfl (.inl rfl) (pe_call (ok_p_first_wrong_nameB T) (hr.mono (by decide)) (by rfl) T.g_p_first_wrong_name T.F_p_first_wrong_name.kp T.b_p_first_wrong_name .nil pass0 (pa_cons (pv 1) pa_nil)))
      (C8.pss_cut (ps_if (pt_cmpR op_notN (pv 3) pe_non (nomark _)) (pss_one ps_never) pss_nil)
      (C8.pss_cut (ps_set (i := 3) sc_p_LotInit.nd rfl (.inl rfl) (pe_call (ok_p_first_wrong_tieB T) (hr.mono (by decide)) (by rfl) T.g_p_first_wrong_tie T.F_p_first_wrong_tie.kp T.b_p_first_wrong_tie .nil pass0 (pa_cons (pv 2) (pa_cons (pv 1) pa_nil))))
      (C8.pss_cut (ps_if (pt_cmpR op_notN (pv 3) pe_non (nomark _)) (pss_one ps_never) pss_nil)
      (C8.pss_cut (ps_fld (pv 0) (pe_callTy call_tuple_of (by rfl) T.m_tuple (by decide +kernel) (pa_cons (pe_call (ok_p_ascendingB T) (hr.mono (by decide)) (by rfl) T.g_p_ascending T.F_p_ascending.kp T.b_p_ascending .nil pass0 (pa_cons (pv 1) pa_nil)) pa_nil)) (by rfl))
      (pss_one (ps_fld (pv 0) (pe_callTy call_tuple_of (by rfl) T.m_tuple (by decide +kernel) (pa_cons (pv 2) pa_nil)) (by rfl)))))))), ?_⟩
    refine ⟨fun σ H1 => Same H H1 ∧ σ = [some (.ref self), some (.ref L), some (.ref T0), some .non], ⟨_, rfl, L, ns, rfl, hA.ln, by have := hA.sz; omega, hA.lx, fun H' s' => ⟨s', by rw [hA.fb]; rfl⟩⟩, fun σ H1 hM => ?_⟩
    obtain ⟨s1, rfl⟩ := hM
    refine ⟨fun σ H2 => Same H H2 ∧ σ = [some (.ref self), some (.ref L), some (.ref T0), some .non], ⟨_, rfl, rfl, _, rfl, iteF ⟨s1, rfl⟩⟩, fun σ H2 hM => ?_⟩
    obtain ⟨s2, rfl⟩ := hM
    have hA2 := hA.same s2
    obtain ⟨z, ds, hds, hbt⟩ := hA2.ds
    refine ⟨fun σ H3 => Same H H3 ∧ σ = [some (.ref self), some (.ref L), some (.ref T0), some .non], ⟨_, rfl, _, rfl, T0, L, us, ds, ns, z, rfl, hA2.lt, hds, hA2.us, hA2.ln, fun H' s' => ⟨s2.trans s', by rw [hbt]; rfl⟩⟩, fun σ H3 hM => ?_⟩
    obtain ⟨s3, rfl⟩ := hM
    refine ⟨fun σ H2 => Same H H2 ∧ σ = [some (.ref self), some (.ref L), some (.ref T0), some .non], ⟨_, rfl, rfl, _, rfl, iteF ⟨s3, rfl⟩⟩, fun σ H4 hM => ?_⟩
    obtain ⟨s4, rfl⟩ := hM
    have hA4 := hA.same s4
    refine ⟨fun σ G => ∃ p1 ms, (∀ b o, b ≠ self → H b = some o → G b = some o) ∧ G self = some (.ins (fa 138) dx [("unknowns", .ref p1)]) ∧ G p1 = some (.tup (ms.map V.str)) ∧ p1 ≠ self ∧ ms.Perm ns ∧ sortedS ms = true ∧ σ = [some (.ref self), some (.ref L), some (.ref T0), some .non], ?_, fun σ G hM => ?_⟩
    · refine ⟨_, rfl, L, ns, rfl, .inl hA4.ln, hA4.nd, hA4.sz, hA4.lx, fun p ms H5 s5 np hp perm srt => ?_⟩
      refine ⟨p, _, rfl, .inl ⟨SqL.of hp, fun p1 np1 => ?_⟩⟩
      have sp := same_upd (o := .tup (ms.map V.str)) np1
      have hs5 := (s4.trans s5) _ _ hself
      have hs6 := sp _ _ hs5
      have np1s : p1 ≠ self := fun e => by rw [e, hs5] at np1; cases np1
      refine ⟨_, rfl, self, _, dx, [], rfl, hs6, T.cl_Lot, T.na_unknowns, by show 0 < 1000; decide, p1, ms, fun b o nb e => (upd_ne nb).trans (((s4.trans s5).trans sp) _ _ e), upd_same, ?_, np1s, perm, srt, rfl⟩
      rw [upd_ne np1s, upd_same]
    obtain ⟨p1, ms, oth, hs, hp1, np1s, perm, srt, rfl⟩ := hM
    have ltG : SqB K G T0 us := by
      rcases hA.lt with h | h
      · refine .inl ?_
        rcases h with (e | ⟨o, e⟩) | e
        · exact .inl (.inl (oth _ _ (fun z => by rw [z, hself] at e; cases e) e))
        · exact .inl (.inr ⟨o, oth _ _ (fun z => by rw [z, hself] at e; cases e) e⟩)
        · exact .inr e
      · refine .inr ?_
        rcases h with (e | ⟨o, e⟩) | e
        · exact .inl (.inl (oth _ _ (fun z => by rw [z, hself] at e; cases e) e))
        · exact .inl (.inr ⟨o, oth _ _ (fun z => by rw [z, hself] at e; cases e) e⟩)
        · exact .inr e
    have fin : ∀ (p2 : Addr) (G2 : Hp), (∀ b o, G b = some o → G2 b = some o) → (∀ o, SqT K (upd G2 self o) p2 us) → Q .non (upd G2 self (.ins (fa 138) dx [("unknowns", .ref p1), ("bonds", .ref p2)])) := fun p2 G2 sg h2 => by
      refine q _ (fun b o nb e => (upd_ne nb).trans (sg _ _ (oth b o nb e))) ⟨dx, p1, p2, ms, upd_same, SqT.of ((upd_ne np1s).trans (sg _ _ hp1)), perm, srt, h2 _⟩
    refine ⟨_, rfl, T0, us, rfl, ?_⟩
    rcases ltG with h | h
    · refine .inl ⟨h, fun p2 np2 => ?_⟩
      have sp := same_upd (o := .tup us) np2
      have n2 : p2 ≠ self := fun e => by rw [e, hs] at np2; cases np2
      exact ⟨_, rfl, self, _, dx, _, rfl, sp _ _ hs, T.cl_Lot, T.na_bonds, by show 1 < 1000; decide, fin p2 _ sp fun o => SqT.of ((upd_ne n2).trans upd_same)⟩
    · refine .inr ⟨h, ?_⟩
      refine ⟨_, rfl, self, _, dx, _, rfl, hs, T.cl_Lot, T.na_bonds, by show 1 < 1000; decide, fin T0 _ (fun _ _ e => e) fun o => ?_⟩
      rcases h with (e | ⟨o, e⟩) | e
      · exact .inl (.inl ((upd_ne (fun z => by rw [z, hs] at e; cases e)).trans e))
      · exact .inl (.inr ⟨_, (upd_ne (fun z => by rw [z, hs] at e; cases e)).trans e⟩)
      · exact .inr e
end
theorem nameL_len {x : List Nat} (h : NameL x) : x.length ≤ 7 := by
  obtain ⟨y, hy, rfl | rfl⟩ := h
  · have := hy.2.1
    omega
  · have := hy.2.1
    rw [List.length_append, List.length_singleton]
    omega
theorem nameL_nx {x : List Nat} (h : NameL x) : NX x := by
  obtain ⟨y, hy, rfl | rfl⟩ := h
  · exact nx_lw hy
  · exact nx_dash hy
theorem drawn_N {ws : List Nm} {tl : List It} {b : FR} (hl : tl.length = 1 ∨ tl.length = 2) (k : ∀ u ∈ tl, u.1 ∈ ws ∧ u.2 ∈ RR) (hw : ∀ x ∈ ws, NameL x) (so : SrtN tl) (hbs : BdS b) : ∃ u r B, RT u r B ∧ (redL tl, redF (scl (rts tl)) b) = (rateL (u :: r), B) := by
  have tlok : TlOk tl := ⟨hl, fun t ht => ⟨(rr_bd _ (k t ht).2).1, (rr_bd _ (k t ht).2).2, nameL_len (hw _ (k t ht).1)⟩⟩
  have hs : ∀ t ∈ tl, BdS t.2 := fun t ht => rr_bs _ (k t ht).2
  obtain ⟨r1, r2, r3, r4⟩ := red_int tlok hs hbs
  obtain ⟨a1, a2⟩ := red_again tlok hbs.2.1
  have shape : ∃ cs : List Cf, redL tl = rateL cs ∧ cs.map (·.1) = tl.map (·.1) ∧ ∀ v ∈ cs, v.2 ≠ 0 ∧ v.2.natAbs < 10 ^ 15 := by
    refine ⟨tl.map fun t => (t.1, (redF (scl (rts tl)) t.2).1), ?_, ?_, fun v hv => ?_⟩
    · unfold redL rateL
      rw [List.map_map]
      refine List.map_congr_left fun t ht => ?_
      obtain ⟨m, e, _⟩ := r1 t ht
      show (t.1, redF (scl (rts tl)) t.2) = (t.1, ((redF (scl (rts tl)) t.2).1, 1))
      rw [e]
    · rw [List.map_map]
      rfl
    · obtain ⟨t, ht, rfl⟩ := List.mem_map.mp hv
      obtain ⟨m, e, n0, sm⟩ := r1 t ht
      show (redF (scl (rts tl)) t.2).1 ≠ 0 ∧ (redF (scl (rts tl)) t.2).1.natAbs < _
      rw [e]
      exact ⟨n0, sm⟩
  obtain ⟨cs, ec, en, hc⟩ := shape
  obtain ⟨u, rr, rfl⟩ : ∃ u rr, cs = u :: rr := by
    cases cs with
    | nil =>
      exfalso
      have := congrArg List.length en
      rw [List.length_map] at this
      have : 0 = tl.length := this.trans (List.length_map ..)
      omega
    | cons u rr => exact ⟨u, rr, rfl⟩
  have nsl := congrArg List.length en
  rw [List.length_map, List.length_map, List.length_cons] at nsl
  have lw : ∀ v ∈ u :: rr, NameL v.1 := fun v hv => by
    have : v.1 ∈ tl.map (·.1) := by
      rw [← en]
      exact List.mem_map.mpr ⟨v, hv, rfl⟩
    obtain ⟨t, ht, e⟩ := List.mem_map.mp this
    rw [← e]
    exact hw _ (k t ht).1
  rw [ec] at a1 a2
  refine ⟨u, rr, redF (scl (rts tl)) b, ⟨by omega, lw, fun v h' => (hc v h').1, fun v h' => (hc v h').2, r2, r3, r4, by rw [en]; exact so.1, by rw [en]; exact so.2, a1, a2⟩, ?_⟩
  rw [ec]

theorem ties_dt {a : Addr} {H : Hp} : ∀ {us : List V} {ties : List Tie}, Paired (TieU a H) us ties → DtAll a H us (ties.map fun t => tieP t.1 t.2)
  | _, _, .nil => .nil
  | _, _, .cons h t => .cons h (ties_dt t)
theorem DtAll.cut {z : Addr} {H : Hp} : ∀ {vs : List V} {ds : List PyData} (n : Nat), DtAll z H vs ds → DtAll z H (vs.take n) (ds.take n) ∧ DtAll z H (vs.drop n) (ds.drop n)
  | _, _, 0, h => ⟨.nil, h⟩
  | _, _, n + 1, .nil => ⟨.nil, .nil⟩
  | _, _, n + 1, .cons h t => ⟨.cons h (DtAll.cut n t).1, (DtAll.cut n t).2⟩
def TieX (t : Tie) (x : List Nat) : Prop := ∃ u r B, RT u r B ∧ TlOk t.1 ∧ BdF t.2 ∧ redL t.1 = rateL (u :: r) ∧ redF (scl (rts t.1)) t.2 = B ∧ x = textP (tieQ u r B)
theorem tie_x {ws : List Nm} {t : Tie} (hw : ∀ x ∈ ws, NameL x) (h : TieG ws t) : ∃ x, TieX t x := by
  obtain ⟨u, r, B, h1, h3⟩ := drawn_N h.ln h.ws hw h.so h.bs
  have tlok : TlOk t.1 := ⟨h.ln, fun u hu => ⟨(rr_bd _ (h.ws u hu).2).1, (rr_bd _ (h.ws u hu).2).2, nameL_len (hw _ (h.ws u hu).1)⟩⟩
  have e1 := congrArg Prod.fst h3
  have e2 := congrArg Prod.snd h3
  exact ⟨_, u, r, B, h1, tlok, ⟨bn_of (Nat.lt_of_le_of_lt h.bs.1 (by decide)) (Nat.lt_of_le_of_lt (m := 2520) (by have := h.bs.2.2; have := h.bs.2.1; omega) (by decide)), h.nf.1⟩, e1, e2, rfl⟩
theorem ties_x {ws : List Nm} (hw : ∀ x ∈ ws, NameL x) : ∀ {ties : List Tie}, (∀ t ∈ ties, TieG ws t) → ∃ xs, Paired TieX ties xs
  | [], _ => ⟨[], .nil⟩
  | t :: ts, h => by
    obtain ⟨x, hx⟩ := tie_x hw (h t List.mem_cons_self)
    obtain ⟨xs, hxs⟩ := ties_x hw fun u hu => h u (List.mem_cons_of_mem _ hu)
    exact ⟨x :: xs, .cons hx hxs⟩
section
variable {P : Program} {w : World} {K : PySem.W.Frag} {mg : Str → Option Value} {base : Heap} {fa : Nat → Addr} {fd : Nat → FuncData}
def spTieT9 : Sp := fun vs H Q _ => ∃ v tl b u r B z, vs = [v] ∧ Dt z H v (tieP tl b) ∧ TlOk tl ∧ BdF b ∧ redL tl = rateL (u :: r) ∧ redF (scl (rts tl)) b = B ∧ RT u r B ∧ ∀ H', Same H H' → Q (vS (textP (tieQ u r B))) H'
theorem ok_p_tie_text (T : Txt K mg fa fd) : FnOk P w K mg base CX0 6 (fa 94) (fd 94) ["tie"] spTieT9 := by
  refine T.F_p_tie_text.ok sc_p_tie_text (fun vs H Q E h => ?_) (fun cdv A outer s H vs Q E hr h => ?_)
  · obtain ⟨v, tl, b, u, r, B, z, rfl, _⟩ := h
    rfl
  · obtain ⟨v, tl, b, u, r, B, z, rfl, hv, hok, hb, e1, e2, hR, q⟩ := h
    refine ⟨_, (C8.pss_cut (ps_asg (pe_call (ok_p_reduced T) (hr.mono (by decide)) (by rfl) T.g_p_reduced T.F_p_reduced.kp T.b_p_reduced .nil pass0 (pa_cons (pv 0) pa_nil)) (pg_tup (by rfl) (pgs_cons (pg_name (i := 1) sc_p_tie_text.nd rfl (.inl rfl)) (pgs_cons (pg_name (i := 2) sc_p_tie_text.nd rfl (.inl rfl)) pgs_nil))))
      (pss_one (ps_ret (pe_op op_add_str (pe_op op_add_str (pe_call (ok_p_terms_text T) (hr.mono (by decide)) (by rfl) T.g_p_terms_text T.F_p_terms_text.kp T.b_p_terms_text .nil pass0 (pa_cons (pv 1) pa_nil)) pe_str) (pe_call (ok_p_ratio_text T) (hr.mono (by decide)) (by rfl) T.g_p_ratio_text T.F_p_ratio_text.kp T.b_p_ratio_text .nil pass0 (pa_cons (pv 2) pa_nil)))))), ?_⟩
    obtain ⟨_, _, hts, fb⟩ := hR.ok
    have tx := tie_tx hR
    rw [text_tie (hR.nq u List.mem_cons_self) (fun v hv => hR.nq v (List.mem_cons_of_mem _ hv))] at tx q
    have tl2 := tx.1
    rw [List.length_append, List.length_append] at tl2
    refine ⟨fun σ H1 => Same H H1 ∧ ∃ vt pb, Dt z H1 vt (.tuple ((rateL (u :: r)).map tmP)) ∧ H1 pb = some (.tup [.int B.1, .int B.2]) ∧ ∃ y0, σ = [y0, some vt, some (.ref pb)], ?_, fun σ H1 hM => ?_⟩
    · refine ⟨_, rfl, v, tl, b, z, rfl, hv, hok, hb, fun v' H1 s1 hv' => ?_⟩
      rw [show redP tl b = tieP (rateL (u :: r)) B by show tieP (redL _) (redF _ _) = _; rw [e1, e2]] at hv'
      obtain ⟨P, t, y, xs, rfl, hP, ht, hxs, hy⟩ := tie_inv hv'
      obtain ⟨pb, rfl, hpb⟩ := dt_fr hy
      exact ⟨P, _, rfl, .inl (.inl hP), rfl, _, _, rfl, _, _, rfl, rfl, s1, .ref t, pb, .tup ht hxs, hpb, _, rfl⟩
    obtain ⟨s1, vt, pb, hvt, hpb, y0, rfl⟩ := hM
    have l4 : ([32, 60, 61, 32] : List Nat).length = 4 := rfl
    refine ⟨_, rfl, vt, rateL (u :: r), z, rfl, hvt, hts, fun H2 s2 => ⟨_, _, rfl, rfl, ?_, _, rfl, pb, _, _, rfl, s2 _ _ hpb, fb.2.1, fb.1, fb.2.2, fun H3 s3 => ⟨_, _, rfl, rfl, ?_, ?_⟩⟩⟩
    · rw [leT', SX.S_len, SX.S_len]
      exact small_line (by omega)
    · rw [leT', SX.S_cat, SX.S_len, SX.S_len, List.length_append]
      exact small_line (by omega)
    · rw [leT', SX.S_cat, SX.S_cat]
      exact q H3 (s1.trans (s2.trans s3))
end
theorem sqT_upd {K : PySem.W.Frag} {H : Hp} {a p : Addr} {o : HO} {xs : List V} (h : SqT K H a xs) (np : H p = none) : SqT K (upd H p o) a xs := SqT_sm (same_upd np) h
theorem LotH.same {K : PySem.W.Frag} {C x : Addr} {H H' : Hp} {ns : List Str} {us : List V} (h : LotH K C H x ns us) (s : Same H H') : LotH K C H' x ns us := by
  obtain ⟨dx, p1, p2, ms, h1, h2, h3, h4, h5⟩ := h.at_
  exact ⟨dx, p1, p2, ms, s _ _ h1, SqT_sm s h2, h3, h4, SqT_sm s h5⟩
theorem strlen_cat (a b : Str) : (a ++ b).length = a.length + b.length := by
  have h : (SX.S a.cps.toList ++ SX.S b.cps.toList).length = (SX.S a.cps.toList).length + (SX.S b.cps.toList).length := by
    rw [SX.S_cat, SX.S_len, SX.S_len, SX.S_len, List.length_append]
  rwa [S_of, S_of] at h
def numS (n : Nat) : Str := toString (n : Int)
def lotShown (n m : Nat) : Str := ((((Str.empty ++ Str.ofString "Lot(") ++ numS n) ++ Str.ofString " names, ") ++ numS m) ++ Str.ofString " ties)"
section
variable {P : Program} {w : World} {K : PySem.W.Frag} {mg : Str → Option Value} {base : Heap} {fa : Nat → Addr} {fd : Nat → FuncData}
def spLNames (K : PySem.W.Frag) (C : Addr) : Sp := fun vs H Q _ => ∃ (x : Addr) (ns : List Str) (us : List V), vs = [.ref x] ∧ LotH K C H x ns us ∧ AscQ H Q ns
theorem ok_p_LotNames (T : Txt K mg fa fd) : FnOk P w K mg base CX0 1 (fa 1510) (fd 1510) ["self"] (spLNames K (fa 138)) := by
  refine T.F_LotNames.ok sc_p_LotNames (fun vs H Q E h => ?_) (fun cdv A outer s H vs Q E hr h => ?_)
  · obtain ⟨x, ns, us, rfl, _⟩ := h
    rfl
  · obtain ⟨x, ns, us, rfl, hL, q⟩ := h
    obtain ⟨dx, p1, p2, ms, h1, h2, h3, h4, h5⟩ := hL.at_
    refine ⟨_, (pss_one (ps_ret (pe_callTy call_list_of (by rfl) T.m_list (by decide +kernel) (pa_cons (pe_fld (pv 0) (by rfl)) pa_nil)))), ?_⟩
    exact ⟨_, rfl, _, _, dx, _, _, rfl, h1, T.cl_Lot, T.na_unknowns, rfl, p1, _, rfl, .inr h2, fun l nl => q l ms _ (same_upd nl) nl upd_same h3 h4⟩
def spLTies (K : PySem.W.Frag) (C : Addr) : Sp := fun vs H Q _ => ∃ (x : Addr) (ns : List Str) (us : List V), vs = [.ref x] ∧ LotH K C H x ns us ∧ ∀ p, H p = none → Q (.ref p) (upd H p (.lst us))
theorem ok_p_LotTies (T : Txt K mg fa fd) : FnOk P w K mg base CX0 1 (fa 1511) (fd 1511) ["self"] (spLTies K (fa 138)) := by
  refine T.F_LotTies.ok sc_p_LotTies (fun vs H Q E h => ?_) (fun cdv A outer s H vs Q E hr h => ?_)
  · obtain ⟨x, ns, us, rfl, _⟩ := h
    rfl
  · obtain ⟨x, ns, us, rfl, hL, q⟩ := h
    obtain ⟨dx, p1, p2, ms, h1, h2, h3, h4, h5⟩ := hL.at_
    refine ⟨_, (pss_one (ps_ret (pe_callTy call_list_of (by rfl) T.m_list (by decide +kernel) (pa_cons (pe_fld (pv 0) (by rfl)) pa_nil)))), ?_⟩
    exact ⟨_, rfl, _, _, dx, _, _, rfl, h1, T.cl_Lot, T.na_bonds, rfl, p2, _, rfl, .inr h5, fun l nl => q l nl⟩
def spLLen (K : PySem.W.Frag) (C : Addr) : Sp := fun vs H Q _ => ∃ (x : Addr) (ns : List Str) (us : List V), vs = [.ref x] ∧ LotH K C H x ns us ∧ Q (.int us.length) H
theorem ok_p_LotLen (T : Txt K mg fa fd) : FnOk P w K mg base CX0 1 (fa 1515) (fd 1515) ["self"] (spLLen K (fa 138)) := by
  refine T.F_LotLen.ok sc_p_LotLen (fun vs H Q E h => ?_) (fun cdv A outer s H vs Q E hr h => ?_)
  · obtain ⟨x, ns, us, rfl, _⟩ := h
    rfl
  · obtain ⟨x, ns, us, rfl, hL, q⟩ := h
    obtain ⟨dx, p1, p2, ms, h1, h2, h3, h4, h5⟩ := hL.at_
    refine ⟨_, (pss_one (ps_ret (pe_callB call_len_seq (by rfl) T.m_len PySem.boot_len (pa_cons (pe_fld (pv 0) (by rfl)) pa_nil)))), ?_⟩
    exact ⟨_, rfl, _, _, dx, _, _, rfl, h1, T.cl_Lot, T.na_bonds, rfl, p2, _, rfl, .inr h5, q⟩
def spLRepr (K : PySem.W.Frag) (C : Addr) : Sp := fun vs H Q _ => ∃ (x : Addr) (ns : List Str) (us : List V), vs = [.ref x] ∧ LotH K C H x ns us ∧ ns.length ≤ 900 ∧ us.length ≤ 900 ∧ Q (.str (lotShown ns.length us.length)) H
theorem ok_p_LotRepr (T : Txt K mg fa fd) : FnOk P w K mg base CX0 1 (fa 1516) (fd 1516) ["self"] (spLRepr K (fa 138)) := by
  refine T.F_LotRepr.ok sc_p_LotRepr (fun vs H Q E h => ?_) (fun cdv A outer s H vs Q E hr h => ?_)
  · obtain ⟨x, ns, us, rfl, _⟩ := h
    rfl
  · obtain ⟨x, ns, us, rfl, hL, z1, z2, q⟩ := h
    obtain ⟨dx, p1, p2, ms, h1, h2, h3, h4, h5⟩ := hL.at_
    refine ⟨_, (pss_one (ps_ret (pe_joined (.cons pe_str (.cons (pe_fmt (pe_callB call_len_seq (by rfl) T.m_len PySem.boot_len (pa_cons (pe_fld (pv 0) (by rfl)) pa_nil))) (.cons pe_str (.cons (pe_fmt (pe_callB call_len_seq (by rfl) T.m_len PySem.boot_len (pa_cons (pe_fld (pv 0) (by rfl)) pa_nil))) (.cons pe_str .nil)))))))), ?_⟩
    have ml := h3.length_eq
    refine ⟨_, rfl, ?_, _, rfl, _, _, dx, _, _, rfl, h1, T.cl_Lot, T.na_unknowns, rfl, p1, _, rfl, .inr h2, ?_⟩
    · exact small_line (by decide +kernel)
    · rw [List.length_map, ml]
      have bound : ∀ n : Nat, n ≤ 900 → (numS n).length ≤ 3 := fun n hn => by
        have e : numS n = SX.S (TL.numL n) := SX.num_S n
        rw [e, SX.S_len]
        exact TL.numL_len (k := 3) (by decide) (Nat.lt_of_le_of_lt hn (by decide))
      have l1 := bound _ z1
      have l2 := bound _ z2
      refine .inr ⟨_, rfl, log2_mono (b := 900) (by rw [Int.natAbs_natCast]; exact z1) (by decide +kernel), _, rfl, ?_, _, rfl, ?_, _, rfl, _, _, dx, _, _, rfl, h1, T.cl_Lot, T.na_bonds, rfl, p2, _, rfl, .inr h5, .inr ⟨_, rfl, log2_mono (b := 900) (by rw [Int.natAbs_natCast]; exact z2) (by decide +kernel), _, rfl, ?_, _, rfl, ?_, q⟩⟩
      all_goals
        have c1 : (Str.ofString "Lot(").length = 4 := by decide +kernel
        have c2 : (Str.ofString " names, ").length = 8 := by decide +kernel
        have c3 : (Str.ofString " ties)").length = 6 := by decide +kernel
        have c0 : Str.empty.length = 0 := by decide +kernel
        have l1' : (toString (ns.length : Int) : Str).length ≤ 3 := l1
        have l2' : (toString (us.length : Int) : Str).length ≤ 3 := l2
        simp only [strlen_cat]
        exact small_line (by omega)
end
/-! ### a text of parts, split at "; " -/
section
open PySem.StrLaws Builtin.Str
theorem at_semi {x y : Str} (hy : y.cps.toList = [59, 32]) {k : Nat} (h : At x y x.length k) : (x.cps.toList.drop k).take 2 = [59, 32] := by
  have h2 := h.2
  rw [subAt_eq] at h2
  have e : y.length = 2 := by
    have := congrArg List.length hy
    simpa [Str.length] using this
  rw [e, hy] at h2
  exact eq_of_beq h2
theorem semi_at {x y : Str} (hy : y.cps.toList = [59, 32]) {k : Nat} (h : (x.cps.toList.drop k).take 2 = [59, 32]) : At x y x.length k := by
  have e : y.length = 2 := by
    have := congrArg List.length hy
    simpa [Str.length] using this
  have ex : x.cps.toList.length = x.length := by simp [Str.length]
  have hl := congrArg List.length h
  rw [List.length_take, List.length_drop] at hl
  have hl2 : min 2 (x.cps.toList.length - k) = 2 := hl
  refine ⟨by omega, ?_⟩
  rw [subAt_eq, e, hy]
  exact beq_iff_eq.mpr h
theorem joinL_cons (a t t2 : List Nat) (r : List (List Nat)) : TL.joinL a (t :: t2 :: r) = t ++ (a ++ TL.joinL a (t2 :: r)) := rfl
theorem take_semi {t r : List Nat} (h : (59 : Nat) ∉ t) (k : Nat) (hk : k < t.length) : ¬ ((t ++ r).drop k).take 2 = [59, 32] := by
  intro z
  have e : (t ++ r).drop k = t[k] :: (t.drop (k + 1) ++ r) := by
    rw [List.drop_append_of_le_length (by omega), List.drop_eq_getElem_cons hk]
    rfl
  rw [e] at z
  have z1 := (List.cons.inj (show t[k] :: (t.drop (k + 1) ++ r).take 1 = [59, 32] from z)).1
  exact h (z1 ▸ List.getElem_mem hk)
theorem chain_parts {x y : Str} (hy : y.cps.toList = [59, 32]) : ∀ (ts : List (List Nat)) (t : List Nat) (a f : Nat) (cuts : List Nat), (∀ u ∈ t :: ts, (59 : Nat) ∉ u) → x.cps.toList.drop a = TL.joinL [59, 32] (t :: ts) → a ≤ x.length →
    ChainG x y x.length a cuts f → (∀ k, f ≤ k → ¬ At x y x.length k) → partsFrom x 2 a cuts = (t :: ts).map SX.S := by
  have e2 : y.length = 2 := by
    have := congrArg List.length hy
    simpa [Str.length] using this
  have ex : x.cps.toList.length = x.length := by simp [Str.length]
  intro ts
  induction ts with
  | nil =>
    intro t a f cuts hn hd ha hc hf
    have hd : x.cps.toList.drop a = t := hd
    have none_ : ∀ k, a ≤ k → ¬ At x y x.length k := fun k hk hA => by
      have h := at_semi hy hA
      have h3 : (x.cps.toList.drop k) = t.drop (k - a) := by
        rw [← hd, List.drop_drop]
        congr 1
        omega
      rw [h3] at h
      have : (59 : Nat) ∈ (t.drop (k - a)).take 2 := by
        rw [h]
        simp
      exact hn t List.mem_cons_self (List.mem_of_mem_drop (List.mem_of_mem_take this))
    cases cuts with
    | nil =>
      show [strSub x a x.length] = [SX.S t]
      congr 1
      apply Str.ext'
      apply Array.toList_inj.mp
      rw [strSub_toList, hd]
      have : t.length = x.length - a := by
        rw [← hd, List.length_drop, ex]
      rw [List.take_of_length_le (by omega)]
    | cons c r => exact absurd hc.2.1 (none_ c hc.1)
  | cons t2 r ih =>
    intro t a f cuts hn hd ha hc hf
    rw [joinL_cons] at hd
    have hlen := congrArg List.length hd
    rw [List.length_drop, List.length_append, List.length_append] at hlen
    have h2 : ([59, 32] : List Nat).length = 2 := rfl
    have hit : At x y x.length (a + t.length) := by
      refine semi_at hy ?_
      rw [← List.drop_drop, hd, List.drop_left]
      rfl
    have before : ∀ k, a ≤ k → k < a + t.length → ¬ At x y x.length k := fun k h1 h3 hA => by
      have h := at_semi hy hA
      have e : x.cps.toList.drop k = (t ++ ([59, 32] ++ TL.joinL [59, 32] (t2 :: r))).drop (k - a) := by
        rw [← hd, List.drop_drop]
        congr 1
        omega
      rw [e] at h
      exact take_semi (hn t List.mem_cons_self) (k - a) (by omega) h
    cases cuts with
    | nil =>
      have e : f = a := hc
      exact absurd hit (hf _ (by omega))
    | cons c cs =>
      obtain ⟨h1, h3, h4, h5⟩ := hc
      have ec : c = a + t.length := by
        by_cases q : c < a + t.length
        · exact absurd h3 (before c h1 q)
        · by_cases q2 : a + t.length < c
          · exact absurd hit (h4 _ (by omega) q2)
          · omega
      subst ec
      rw [e2] at h5
      have hd2 : x.cps.toList.drop (a + t.length + 2) = TL.joinL [59, 32] (t2 :: r) := by
        rw [Nat.add_assoc, ← List.drop_drop, hd, ← List.drop_drop, List.drop_left]
        rfl
      have := ih t2 (a + t.length + 2) f cs (fun u hu => hn u (List.mem_cons_of_mem _ hu)) hd2 (by omega) h5 hf
      show strSub x a (a + t.length) :: partsFrom x 2 (a + t.length + 2) cs = SX.S t :: (t2 :: r).map SX.S
      rw [this]
      congr 1
      apply Str.ext'
      apply Array.toList_inj.mp
      rw [strSub_toList, hd, show a + t.length - a = t.length by omega, List.take_left]
theorem split_semi {t : List Nat} {ts : List (List Nat)} (hn : ∀ u ∈ t :: ts, (59 : Nat) ∉ u) : Txt.split (SX.S (TL.joinL [59, 32] (t :: ts))) (Str.ofString "; ") = (t :: ts).map SX.S := by
  have hy : (Str.ofString "; " : Str).cps.toList = [59, 32] := by decide +kernel
  have hl : (Str.ofString "; " : Str).length = 2 := by decide +kernel
  obtain ⟨f, hc, hf⟩ := occ_tight (SX.S (TL.joinL [59, 32] (t :: ts))) (Str.ofString "; ") (by rw [hl]; decide)
  have h := chain_parts hy ts t 0 f _ hn (by rw [List.drop_zero]) (Nat.zero_le _) hc hf
  generalize SX.S (TL.joinL [59, 32] (t :: ts)) = x at h hc hf
  have one : occurrences x (Str.ofString "; ") 0 x.length (x.length + 1) = [] → [x] = (t :: ts).map SX.S := fun e => by
    rw [e] at h
    rw [← h]
    show [x] = [strSub x 0 x.length]
    rw [sub_whole]
  unfold Txt.split
  have k1 : Builtin.Str.strKind (Str.ofString "; ") = 1 := by decide +kernel
  have k2 : 1 ≤ Builtin.Str.strKind x := by
    unfold Builtin.Str.strKind
    split
    · exact Nat.le_refl 1
    · split <;> decide
  by_cases c1 : (decide (x.length < (Str.ofString "; " : Str).length) || decide (Builtin.Str.strKind x < Builtin.Str.strKind (Str.ofString "; "))) = true
  · rw [if_pos c1]
    refine one ?_
    rw [k1, decide_eq_false (show ¬ Builtin.Str.strKind x < 1 by omega), Bool.or_false, decide_eq_true_eq] at c1
    cases e : occurrences x (Str.ofString "; ") 0 x.length (x.length + 1) with
    | nil => rfl
    | cons c r =>
      rw [e] at hc
      have := hc.2.1.1
      omega
  · rw [if_neg c1]
    by_cases c2 : (occurrences x (Str.ofString "; ") 0 x.length (x.length + 1)).isEmpty = true
    · rw [if_pos c2]
      exact one (List.isEmpty_iff.mp c2)
    · rw [if_neg c2, partsBetween_eq, hl, h]
end
theorem iteT' {c : Bool} {A B : Prop} (h : c = true) (a : A) : ite (c = true) A B := by rw [h]; exact a
/-! ### Lot.read -/
def PartG (t : List Nat) : Prop := ∃ l g r, parseP (symsOf t) = .ok (l, g, r) ∧ ((namesLR l r).length = 1 ∨ (namesLR l r).length = 2)
def PartR (t : List Nat) (ds : List PyData) : Prop := ∃ l g r ns, parseP (symsOf t) = .ok (l, g, r) ∧ Nms (broN (keysL l) (keysL r)) (diff (valL l) (valL r)) ns ∧ ds = resD l g r ns
def PartE (E : XK) (C1 C2 : Addr) (H : Hp) (t : List Nat) : Prop := (∃ i, parseP (symsOf t) = .error i ∧ PEr E C1 H i) ∨ (∃ l g r, parseP (symsOf t) = .ok (l, g, r) ∧ ¬((namesLR l r).length = 1 ∨ (namesLR l r).length = 2) ∧ NTr E C2 H (namesLR l r).length)
theorem noL_redP (tl : List It) (b : FR) : noL (redP tl b) = true := by
  show (noLs ((redL tl).map tmP) && (noL (frP (redF (scl (rts tl)) b)) && true)) = true
  rw [noLs_tm]
  rfl
theorem noLs_res (l : List It) (g : List Nat) (r : List It) (ns : List (List Nat)) : noLs (resD l g r ns) = true := by
  have h : ∀ a b, noL (oneP a b ns) = true := fun a b => noL_redP _ _
  unfold resD
  split
  · show (noL _ && true) = true
    rw [h]
    rfl
  · split
    · show (noL _ && true) = true
      rw [h]
      rfl
    · show (noL _ && (noL _ && true)) = true
      rw [h, h]
      rfl
theorem PartR.noL {t : List Nat} {ds : List PyData} (h : PartR t ds) : noLs ds = true := by
  obtain ⟨l, g, r, ns, _, _, rfl⟩ := h
  exact noLs_res l g r ns
theorem noLs_app : ∀ {a b : List PyData}, noLs a = true → noLs b = true → noLs (a ++ b) = true
  | [], _, _, h => h
  | x :: a, b, h, k => by
    have h' : (noL x && noLs a) = true := h
    rw [Bool.and_eq_true] at h'
    show (noL x && noLs (a ++ b)) = true
    rw [h'.1, noLs_app h'.2 k]
    rfl
theorem parts_noL : ∀ {ts : List (List Nat)} {dss : List (List PyData)}, Paired PartR ts dss → noLs dss.flatten = true
  | _, _, .nil => rfl
  | _, _, .cons h t => by
    rw [List.flatten_cons]
    exact noLs_app h.noL (parts_noL t)
theorem res_len (l : List It) (g : List Nat) (r : List It) (ns : List (List Nat)) : (resD l g r ns).length ≤ 2 := by
  unfold resD
  split
  · exact Nat.le_succ 1
  · split
    · exact Nat.le_succ 1
    · exact Nat.le_refl 2
theorem DtAll.app {z : Addr} {H : Hp} : ∀ {us vs : List V} {ds es : List PyData}, DtAll z H us ds → DtAll z H vs es → DtAll z H (us ++ vs) (ds ++ es)
  | _, _, _, _, .nil, k => k
  | _, _, _, _, .cons h t, k => .cons h (DtAll.app t k)
/-! ### texts that a lot is read from -/
def N59 (t : List Nat) : Prop := (59 : Nat) ∉ t
theorem N59.app {a b : List Nat} (h : N59 a) (k : N59 b) : N59 (a ++ b) := fun z => (List.mem_append.mp z).elim h k
theorem N59.low {a : List Nat} (h : a.all lowc = true) : N59 a := fun z => by
  have := List.all_eq_true.mp h 59 z
  exact absurd this (by decide)
theorem N59.name {a : List Nat} (h : NameL a) : N59 a := by
  obtain ⟨y, hy, e⟩ := h
  rcases e with rfl | rfl
  · exact N59.low hy.2.2
  · exact (N59.low hy.2.2).app (by unfold N59; decide)
theorem N59.num (n : Nat) : N59 (TL.numL n) := fun z => by
  have := List.all_eq_true.mp (all_dig.mpr (TL.numL_digits n)) 59 z
  exact absurd this (by decide)
theorem N59.txt (n d : Int) : N59 (txtL n d) := by
  unfold txtL
  refine N59.app ?_ (N59.app (N59.num _) ?_)
  · split
    · unfold N59; decide
    · unfold N59; decide
  · split
    · unfold N59; decide
    · exact N59.app (a := [47]) (by unfold N59; decide) (N59.num _)
theorem N59.word {c : Int} {x : List Nat} (h : NameL x) : N59 (textP (wordP c x)) := by
  rw [text_word]
  refine N59.app ?_ (by unfold N59; decide)
  split
  · exact N59.name h
  · exact (N59.txt _ _).app (N59.app (a := [42]) (by unfold N59; decide) (N59.name h))
theorem RT.n59 {u : Cf} {r : List Cf} {B : FR} (h : RT u r B) : N59 (textP (tieQ u r B)) := by
  have f1 : N59 (textP (firstP u.2 u.1)) := by
    unfold firstP
    rw [textP_app]
    refine N59.app ?_ (N59.word (h.nm u List.mem_cons_self))
    split
    · unfold N59; decide
    · unfold N59; decide
  have f2 : N59 (textP (r.flatMap fun v => nextP v.2 v.1)) := by
    match r, h with
    | [], _ => unfold N59; decide
    | [v], h =>
      have w := N59.word (c := v.2) (h.nm v (List.mem_cons_of_mem _ List.mem_cons_self))
      rw [List.flatMap_cons, List.flatMap_nil, List.append_nil]
      unfold nextP
      split
      · exact N59.app (a := [45, 32]) (by unfold N59; decide) w
      · exact N59.app (a := [43, 32]) (by unfold N59; decide) w
    | _ :: _ :: _, h => have := h.len; simp at this
  unfold tieQ
  rw [textP_app, textP_app, text_end]
  exact f1.app (f2.app (N59.app (by unfold N59; decide) (N59.txt _ _)))
theorem RT.partG {u : Cf} {r : List Cf} {B : FR} (h : RT u r B) : PartG (textP (tieQ u r B)) := by
  obtain ⟨ns, e1, e2, _, _⟩ := h.read
  exact ⟨_, _, _, h.parse, by rw [e1]; exact e2⟩
theorem leStr_anti {a b : Str} (h : leStr a b) (k : leStr b a) : a = b := by
  unfold leStr at h k
  exact Str.ext' (Array.toList_inj.mp (List.le_antisymm (leN_iff.mp h) (leN_iff.mp k)))
theorem nms_unique {N : List (List Nat)} {D : List Nat → FR} {ns ms : List (List Nat)} (h : Nms N D ns) (k : Nms N D ms) : ns = ms := by
  have e := List.Perm.eq_of_pairwise (fun a b _ _ => leStr_anti) h.srt k.srt ((h.perm.trans k.perm.symm).map SX.S)
  have e2 := congrArg (List.map fun x : Str => x.cps.toList) e
  rw [List.map_map, List.map_map] at e2
  have f : ((fun y : Str => y.cps.toList) ∘ SX.S) = id := by
    funext x
    exact S_list x
  rw [f, List.map_id, List.map_id] at e2
  exact e2
theorem RT.partR {u : Cf} {r : List Cf} {B : FR} (h : RT u r B) {ds : List PyData} (k : PartR (textP (tieQ u r B)) ds) : ds = [tieP (rateL (u :: r)) B] := by
  obtain ⟨ns, e1, e2, e3, e4⟩ := h.read
  obtain ⟨l', g', r', ns', p1, p2, rfl⟩ := k
  rw [h.parse] at p1
  cases p1
  rw [nms_unique p2 e3]
  exact e4
theorem rt_one {x : List Nat} (hx : LW x) : RT (x, 1) [] (1, 1) where
  len := Nat.zero_le _
  nm := fun v hv => by rw [List.mem_singleton.mp hv]; exact ⟨x, hx, .inl rfl⟩
  nq := fun v hv => by rw [List.mem_singleton.mp hv]; show _; first | exact (by decide : (1 : Int) ≠ 0) | exact (by decide : (1 : Int).natAbs < 10 ^ 15)
  sz := fun v hv => by rw [List.mem_singleton.mp hv]; show _; first | exact (by decide : (1 : Int) ≠ 0) | exact (by decide : (1 : Int).natAbs < 10 ^ 15)
  nf := by unfold Nf; decide
  b1 := by decide
  b2 := by decide
  srt := List.pairwise_singleton _ _
  nd := by simp
  e1 := by
    show [(x, redF (scl [((1 : Int), (1 : Int))]) (1, 1))] = [(x, (1, 1))]
    rw [show redF (scl [((1 : Int), (1 : Int))]) (1, 1) = (1, 1) by decide +kernel]
  e2 := by
    show redF (scl [((1 : Int), (1 : Int))]) (1, 1) = (1, 1)
    decide +kernel
theorem text_one (x : List Nat) : textP (tieQ (x, 1) [] (1, 1)) = x ++ [32, 60, 61, 32, 49] := by
  have e : textP (tieQ (x, 1) [] (1, 1)) = textP (firstP 1 x) ++ (textP ([] : List Pc) ++ textP (endP (1, 1))) := by
    unfold tieQ
    rw [textP_app, textP_app]
    rfl
  rw [e, text_end]
  have e2 : textP (firstP 1 x) = x ++ [32] := rfl
  have e3 : txtL 1 1 = [49] := by decide +kernel
  rw [e2]
  show x ++ [32] ++ ([60, 61, 32] ++ txtL 1 1) = _
  rw [e3, List.append_assoc]
  rfl
theorem tok_end {x : List Nat} (hy : LW x) : TokOk (.name x) x [] := by
  obtain ⟨c, q, rfl⟩ : ∃ c q, x = c :: q := by
    cases x with
    | nil => exact absurd rfl hy.1
    | cons c q => exact ⟨c, q, rfl⟩
  have lc : lowc c = true := by
    have := hy.2.2
    rw [List.all_cons, Bool.and_eq_true] at this
    exact this.1
  have dc : dig c = false := by
    unfold lowc at lc
    unfold dig
    rw [Bool.and_eq_true, decide_eq_true_eq, decide_eq_true_eq] at lc
    rw [Bool.and_eq_false_iff, decide_eq_false_iff_not, decide_eq_false_iff_not]
    omega
  have yl := hy.2.1
  refine ⟨rfl, by simp, fun t k h hk => ?_⟩
  rw [symP_at hk, head_at h hk]
  unfold symC
  rw [dc, lc, if_neg (by decide), if_pos rfl]
  have r1 := run_tok (p := lowc) h hy.2.2 (fun d s e => by cases e)
  have d1 := drop_add h
  have m1 : mid t (k + (c :: q).length) (k + (c :: q).length + 1) = [] := by
    unfold mid
    rw [d1]
    exact List.take_nil
  unfold nameP
  rw [r1, if_neg (by omega), m1, if_neg (by decide), mid_tok h]
theorem low_head {x u : List Nat} (hx : LW x) : NoSp (x ++ u) := by
  obtain ⟨c, q, rfl⟩ : ∃ c q, x = c :: q := by
    cases x with
    | nil => exact absurd rfl hx.1
    | cons c q => exact ⟨c, q, rfl⟩
  intro d r e z
  have e := (List.cons.inj e).1
  have := hx.2.2
  rw [List.all_cons, Bool.and_eq_true, e, z] at this
  exact absurd this.1 (by decide)
def samePc (x : List Nat) : List Pc := [(.name x, x, 1), (.rel [60, 61], [60, 61], 1), (.name x, x, 0)]
theorem text_same (x : List Nat) : textP (samePc x) = x ++ [32, 60, 61, 32] ++ x := by
  show x ++ ([32] ++ ([60, 61] ++ ([32] ++ (x ++ ([] ++ []))))) = _
  simp
theorem parse_same {x : List Nat} (hx : LW x) : parseP (symsOf (x ++ [32, 60, 61, 32] ++ x)) = .ok ([(x, (1, 1))], [60, 61], [(x, (1, 1))]) := by
  have g : GoodP (samePc x) := .cons (tok_name ⟨x, hx, .inl rfl⟩ ⟨_, rfl⟩) (fun c r e => by rw [← (List.cons.inj e).1]; decide) (.cons (tok_le _) (low_head hx) (.cons (tok_end hx) (fun c r e => by cases e) .nil))
  rw [← text_same, syms_text g (low_head hx)]
  rfl
theorem names_same (x : List Nat) : namesLR [(x, (1, 1))] [(x, (1, 1))] = [] := by
  unfold namesLR
  refine List.filter_eq_nil_iff.mpr fun y _ h => ?_
  unfold nz at h
  rw [Bool.and_eq_true, decide_eq_true_eq, decide_eq_true_eq] at h
  refine h.2 ?_
  show (subL (valL [(x, (1, 1))] y) (valL [(x, (1, 1))] y)).1 = 0
  have e : valL [(x, ((1 : Int), (1 : Int)))] y = if x = y then (1, 1) else (0, 1) := by
    show (if x = y then addL (0, 1) (1, 1) else (0, 1)) = _
    rw [show addL (0, 1) (1, 1) = (1, 1) by decide +kernel]
  rw [e]
  split <;> decide +kernel
theorem syms_lt {x : List Nat} (hx : LW x) : symsOf (x ++ [32, 60]) = [(.name x, 0), (.bad, x.length + 1)] := by
  have tok := tok_name (x := x) (u := [32, 60]) ⟨x, hx, .inl rfl⟩ ⟨[60], rfl⟩
  have hl : (x ++ [32, 60]).length = x.length + 2 := by simp
  have x1 := List.length_pos_iff.mpr hx.1
  have h0 : (x ++ [32, 60]).drop 0 = x ++ [32, 60] := rfl
  have s0 := tok.2.2 _ 0 h0 (by omega)
  have d1 := drop_add h0
  rw [Nat.zero_add] at s0 d1
  have r1 : runL spc (x ++ [32, 60]) x.length = x.length + 1 := sp_run (n := 1) (u := [60]) (by rw [d1]; rfl) (fun c r e => by rw [← (List.cons.inj e).1]; decide)
  have r0 : runL spc (x ++ [32, 60]) 0 = 0 := sp_run (n := 0) (by rw [List.drop_zero]; rfl) (low_head hx)
  have d2 : (x ++ [32, 60]).drop (x.length + 1) = [60] ++ [] := by
    rw [← List.drop_drop, d1]
    rfl
  have k1 : x.length + 1 < (x ++ [32, 60]).length := by omega
  have s1 : symP (x ++ [32, 60]) (x.length + 1) = (.bad, x.length + 1) := by
    rw [symP_at k1, head_at (w := []) d2 k1]
    have m : mid (x ++ [32, 60]) (x.length + 1) (x.length + 1 + 2) = [60] := by
      unfold mid
      rw [d2]
      have : x.length + 1 + 2 - (x.length + 1) = 2 := by omega
      rw [this]
      rfl
    unfold symC
    rw [m]
    rfl
  unfold symsOf
  rw [r0, hl]
  show (if 0 < (x ++ [32, 60]).length then (if isBad (symP (x ++ [32, 60]) 0).1 = true then [(Sy.bad, 0)] else ((symP (x ++ [32, 60]) 0).1, 0) :: symsL (x.length + 1) (x ++ [32, 60]) (runL spc (x ++ [32, 60]) (symP (x ++ [32, 60]) 0).2)) else _) = _
  rw [if_pos (by omega), s0]
  show (Sy.name x, 0) :: symsL (x.length + 1) (x ++ [32, 60]) (runL spc (x ++ [32, 60]) x.length) = _
  rw [r1]
  show (Sy.name x, 0) :: (if x.length + 1 < (x ++ [32, 60]).length then (if isBad (symP (x ++ [32, 60]) (x.length + 1)).1 = true then [(Sy.bad, x.length + 1)] else _) else _) = _
  rw [if_pos k1, s1]
  rfl
theorem parse_lt {x : List Nat} (hx : LW x) : parseP (symsOf (x ++ [32, 60])) = .error (x.length + 1) := by
  rw [syms_lt hx]
  rfl
theorem cT_low {x : List Nat} (hx : LW x) : x.length ≤ 7 ∧ cT x 0 = 0 := by
  have t := TxB.low hx.2.2
  have := hx.2.1
  refine ⟨by omega, ?_⟩
  have := t.2.1
  exact Nat.le_zero.mp this
theorem cT_app (a b : List Nat) : cT (a ++ b) 0 = cT a 0 + cT b 0 := List.countP_append ..
/-! ### the texts as parts -/
structure TxG (txt : Str) (ts : List (List Nat)) : Prop where
  ne : txt ≠ Str.ofString ""
  ln : txt.length ≤ 998
  sp : Txt.split txt (Str.ofString "; ") = ts.map SX.S
  ct : ts.length ≤ 100
  ea : ∀ t ∈ ts, t.length ≤ 140 ∧ cT t 0 ≤ 20
theorem joinL_len (a : List Nat) (m : Nat) : ∀ (ts : List (List Nat)) (t : List Nat), (∀ u ∈ t :: ts, u.length ≤ m) → (TL.joinL a (t :: ts)).length ≤ (ts.length + 1) * (m + a.length)
  | [], t, h => by
    have := h t List.mem_cons_self
    show t.length ≤ (0 + 1) * (m + a.length)
    omega
  | t2 :: r, t, h => by
    have i := joinL_len a m r t2 fun u hu => h u (List.mem_cons_of_mem _ hu)
    have := h t List.mem_cons_self
    rw [joinL_cons, List.length_append, List.length_append, List.length_cons, Nat.add_mul (r.length + 1) 1 (m + a.length), Nat.one_mul]
    omega
theorem txG_of {t : List Nat} {ts : List (List Nat)} (hn : ∀ u ∈ t :: ts, N59 u) (hl : ∀ u ∈ t :: ts, u.length ≤ 140 ∧ cT u 0 ≤ 20) (h5 : ts.length ≤ 4) (nz : t ≠ []) : TxG (SX.S (TL.joinL [59, 32] (t :: ts))) (t :: ts) := by
  refine ⟨fun z => ?_, ?_, split_semi hn, by rw [List.length_cons]; omega, hl⟩
  · have e : TL.joinL [59, 32] (t :: ts) = [] := by
      have := congrArg (fun x : Str => x.cps.toList) z
      have e2 : (SX.S (TL.joinL [59, 32] (t :: ts))).cps.toList = TL.joinL [59, 32] (t :: ts) := S_list _
      rw [← e2]
      exact this
    cases ts with
    | nil => exact nz e
    | cons t2 r =>
      rw [joinL_cons] at e
      exact nz (List.append_eq_nil_iff.mp e).1
  · have := joinL_len [59, 32] 140 ts t fun u hu => (hl u hu).1
    rw [SX.S_len]
    have l2 : ([59, 32] : List Nat).length = 2 := rfl
    rw [l2] at this
    have h6 : (ts.length + 1) * (140 + 2) ≤ 5 * 142 := Nat.mul_le_mul (by omega) (Nat.le_refl _)
    omega
theorem RT.tx {u : Cf} {r : List Cf} {B : FR} (h : RT u r B) : N59 (textP (tieQ u r B)) ∧ ((textP (tieQ u r B)).length ≤ 140 ∧ cT (textP (tieQ u r B)) 0 ≤ 20) ∧ textP (tieQ u r B) ≠ [] := by
  refine ⟨h.n59, ⟨(tie_tx h).1, (tie_tx h).2.1⟩, fun z => ?_⟩
  rw [text_tie (h.nq u List.mem_cons_self) (fun v hv => h.nq v (List.mem_cons_of_mem _ hv))] at z
  have z := (List.append_eq_nil_iff.mp (List.append_eq_nil_iff.mp z).1).2
  cases z
theorem TieX.tx {t : Tie} {x : List Nat} (h : TieX t x) : N59 x ∧ (x.length ≤ 140 ∧ cT x 0 ≤ 20) ∧ x ≠ [] := by
  obtain ⟨u, r, B, hR, _, _, _, _, rfl⟩ := h
  exact hR.tx
theorem TieX.part {t : Tie} {x : List Nat} (h : TieX t x) : PartG x := by
  obtain ⟨u, r, B, hR, _, _, _, _, rfl⟩ := h
  exact hR.partG
theorem one_tx' {x : List Nat} (h : LW x) : N59 (x ++ [32, 60, 61, 32, 49]) ∧ ((x ++ [32, 60, 61, 32, 49]).length ≤ 140 ∧ cT (x ++ [32, 60, 61, 32, 49]) 0 ≤ 20) ∧ x ++ [32, 60, 61, 32, 49] ≠ [] := by
  have := (rt_one h).tx
  rw [text_one] at this
  exact this
theorem one_part {x : List Nat} (h : LW x) : PartG (x ++ [32, 60, 61, 32, 49]) := by
  have := (rt_one h).partG
  rw [text_one] at this
  exact this
theorem one_partR {x : List Nat} (h : LW x) {ds : List PyData} (k : PartR (x ++ [32, 60, 61, 32, 49]) ds) : ds = [oneTie (SX.S x) (frP (1, 1)) (frP (1, 1))] := by
  rw [← text_one] at k
  exact (rt_one h).partR k
theorem sum_le (m : Nat) : ∀ (l : List Nat), (∀ x ∈ l, x ≤ m) → l.sum ≤ l.length * m
  | [], _ => Nat.zero_le _
  | x :: l, h => by
    have := sum_le m l fun y hy => h y (List.mem_cons_of_mem _ hy)
    have := h x List.mem_cons_self
    rw [List.sum_cons, List.length_cons, Nat.add_mul, Nat.one_mul]
    omega
theorem semiS : (Str.ofString "; " : Str) = SX.S [59, 32] := by decide +kernel
theorem ltS : (Str.ofString " <" : Str) = SX.S [32, 60] := by decide +kernel
theorem leS4 : (Str.ofString " <= " : Str) = SX.S [32, 60, 61, 32] := by decide +kernel
theorem le1S : (Str.ofString " <= 1" : Str) = SX.S [32, 60, 61, 32, 49] := by decide +kernel
theorem names_vs (ws : List Nm) : ws.map vS = (ws.map SX.S).map V.str := by
  rw [List.map_map]
  rfl
theorem bd_small {n : Nat} (h : n ≤ 10) : Bd (n : Int) := log2_mono (b := 10) (by rw [Int.natAbs_natCast]; exact h) (by decide +kernel)
theorem one_line : 1 ≤ sizeLine := small_line (by decide : 1 ≤ 1000)
theorem paired_ofR {α β : Type} {R : α → β → Prop} : ∀ {xs : List α} {ys : List β} {i : Nat} {y : β}, Paired R xs ys → ys[i]? = some y → ∃ x, xs[i]? = some x ∧ R x y
  | _, _, 0, _, .cons (a := a) h _, e => by
    cases e
    exact ⟨a, rfl, h⟩
  | _, _, i + 1, _, .cons _ t, e => paired_ofR (i := i) t e
section
variable {P : Program} {w : World} {K : PySem.W.Frag} {mg : Str → Option Value} {base : Heap} {fa : Nat → Addr} {fd : Nat → FuncData}
def spLText (K : PySem.W.Frag) (C : Addr) : Sp := fun vs H Q _ => ∃ (x : Addr) (ns : List Str) (us : List V) (z : Addr) (ties : List Tie) (xs : List (List Nat)), vs = [.ref x] ∧ LotH K C H x ns us ∧ Paired (TieU z H) us ties ∧ Paired TieX ties xs ∧ us.length ≤ 10 ∧
  ∀ H', Same H H' → Q (vS (TL.joinL [59, 32] xs)) H'
theorem ok_p_LotText (T : Txt K mg fa fd) : FnOk P w K mg base CX0 7 (fa 1512) (fd 1512) ["self"] (spLText K (fa 138)) := by
  refine T.F_LotText.ok sc_p_LotText (fun vs H Q E h => ?_) (fun cdv A outer s H vs Q E hr h => ?_)
  · obtain ⟨x, ns, us, z, ties, xs, rfl, _⟩ := h
    rfl
  · obtain ⟨x, ns, us, z, ties, xs, rfl, hL, hT, hX, h10, q⟩ := h
    obtain ⟨dx, p1, p2, ms, h1, h2, h3, h4, h5⟩ := hL.at_
    have hus := ties_dt hT
    have l1 := Paired.length hT
    have l2 := Paired.length hX
    refine ⟨_, (pss_one (ps_ret (pe_m1 PySem.F.slot_str_join PySem.F.type_str_join mt_join pe_str (pe_lc (own := [("tie", 1)]) (g := gName 1) (tt := tYes) rfl sc_p_LotText.nd (pi_tup (pe_fld (pv 0) (by rfl))) (blkOk_by (own := [("tie", 1)]) (N := ["self", "tie"]) (sc := defScope s_p_LotText) (by decide +kernel)) (fun _ _ _ _ _ => pg_name (i := 1) sc_p_LotText.nd rfl (Or.inl rfl)) (fun _ _ _ _ _ => pts_nil) (fun _ _ _ _ _ => (pe_call (ok_p_tie_text T) (hr.mono (by decide)) (by rfl) T.g_p_tie_text T.F_p_tie_text.kp T.b_p_tie_text .nil pass0 (pa_cons (pv 1) pa_nil)))) (by rfl) (by rfl) (by rfl)))), ?_⟩
    refine ⟨⟨_, rfl⟩, _, rfl, _, _, dx, _, _, rfl, h1, T.cl_Lot, T.na_bonds, rfl, p2, rfl, ⟨_, h5⟩, fun D2 nD2 => ?_⟩
    refine lc_tup (K := K) (a := p2) (xs := us) (fun i G => Same H G ∧ G D2 = some (.lst ((xs.take i).map vS))) ⟨same_upd nD2, upd_same⟩ (fun i G _ hq => SqT_sm hq.1 h5) (fun i y G hy hq => ?_) (fun G hq => ?_)
    · obtain ⟨dd, hd1, hd2⟩ := DtAll.at i hus hy
      rw [List.getElem?_map] at hd1
      obtain ⟨t, ht, rfl⟩ := Option.map_eq_some_iff.mp hd1
      have il := (List.getElem?_eq_some_iff.mp ht).1
      obtain ⟨xt, hxt⟩ : ∃ xt, xs[i]? = some xt := ⟨_, List.getElem?_eq_getElem (by omega)⟩
      obtain ⟨t', ht', hX'⟩ := paired_ofR hX hxt
      rw [ht] at ht'
      cases ht'
      obtain ⟨u, r, B, hR, z1, z2, z3, z4, rfl⟩ := hX'
      refine ⟨rfl, _, rfl, _, t.1, t.2, u, r, B, z, rfl, hd2.same hq.1, z1, z2, z3, z4, hR, fun G2 s2 => ⟨_, s2 _ _ hq.2, small1000 (by rw [List.length_map, List.length_take]; omega), fun b o e => (upd_ne (ne_of_none e nD2)).trans (s2 _ _ (hq.1 _ _ e)), ?_⟩⟩
      rw [upd_same, List.take_add_one, hxt, List.map_append]
      rfl
    · rw [show us.length = xs.length by omega, List.take_length] at hq
      obtain ⟨sG, hD2⟩ := hq
      refine ⟨_, D2, xs.map SX.S, rfl, rfl, .inl (SqL.of (by rw [hD2, names_vs])), ?_, ?_⟩
      · rw [List.map_map]
        have b1 := sum_le 140 (xs.map ((fun x : Str => x.length) ∘ SX.S)) (fun y hy => by
          obtain ⟨u, hu, rfl⟩ := List.mem_map.mp hy
          show (SX.S u).length ≤ 140
          rw [SX.S_len]
          obtain ⟨j, hj⟩ := List.mem_iff_getElem?.mp hu
          obtain ⟨t, _, hX'⟩ := paired_ofR hX hj
          exact hX'.tx.2.1.1)
        rw [List.length_map] at b1
        rw [List.length_map, semiS, SX.S_len]
        have e2 : ([59, 32] : List Nat).length = 2 := rfl
        rw [e2]
        have := Nat.mul_le_mul (show xs.length ≤ 10 by omega) (Nat.le_refl 140)
        omega
      · rw [semiS, SX.join_S]
        exact q G sG
end
theorem tie_inv9 {z : Addr} {H : Hp} {v : V} {t : Tie} (h : Dt z H v (tieP t.1 t.2)) : ∃ P0 pt pb xs, v = .ref P0 ∧ H P0 = some (.tup [.ref pt, .ref pb]) ∧ H pt = some (.tup xs) ∧ DtAll z H xs (t.1.map tmP) ∧ H pb = some (trF t.2) := by
  cases h with
  | tup g hs =>
    cases hs with
    | cons h1 hs =>
      cases hs with
      | cons h3 hs =>
        cases hs
        obtain ⟨pb, rfl, hpb⟩ := dt_fr h3
        cases h1 with
        | tup g1 h1 => exact ⟨_, _, pb, _, rfl, g, g1, h1, hpb⟩
section
variable {P : Program} {w : World} {K : PySem.W.Frag} {mg : Str → Option Value} {base : Heap} {fa : Nat → Addr} {fd : Nat → FuncData}
def ltF (f g : FR) : Bool := decide (f.1 * g.2 < g.1 * f.2)
def spUnder (K : PySem.W.Frag) : Sp := fun vs H Q _ => ∃ (p q : Addr) (f g : FR), vs = [.ref p, .ref q] ∧ FrK K H p f ∧ FrK K H q g ∧ Bn 2048 f ∧ Bn 2048 g ∧ Q (.bl (ltF f g)) H
theorem ok_under (T : Txt K mg fa fd) : FnOk P w K mg base CX0 1 (fa 148) (fd 148) ["_law_one", "_law_two"] (spUnder K) := by
  refine T.F_under.ok sc_under (fun vs H Q E h => ?_) (fun cdv A outer s H vs Q E hr h => ?_)
  · obtain ⟨p, q, f, g, rfl, _⟩ := h
    rfl
  · obtain ⟨p, r, f, g, rfl, hp, hr', sf, sg, q⟩ := h
    exact ⟨_, (pss_one (ps_ret (pe_cmpR op_lt (pe_op op_mulW (pe_ix ix_tup (pv 0) pe_int (fun _ _ => rfl)) (pe_ix ix_tup (pv 1) pe_int (fun _ _ => rfl))) (pe_op op_mulW (pe_ix ix_tup (pv 1) pe_int (fun _ _ => rfl)) (pe_ix ix_tup (pv 0) pe_int (fun _ _ => rfl))) (nomark _)))), _, rfl, p, _, _, _, rfl, rfl, hp, t0, _, rfl, r, _, _, _, rfl, rfl, hr', t1, _, _, rfl, rfl, wide (f := f) (g := g) (Nat.le_refl _) sf.1 sg.2,
      _, rfl, r, _, _, _, rfl, rfl, hr', t0, _, rfl, p, _, _, _, rfl, rfl, hp, t1, _, _, rfl, rfl, wide (f := f) (g := g) (Nat.le_refl _) sg.1 sf.2, _, _, rfl, rfl, q⟩
theorem ok_p_is_less (T : Txt K mg fa fd) : FnOk P w K mg base CX0 1 (fa 26) (fd 26) ["one", "other"] (spUnder K) := by
  refine T.F_p_is_less.ok sc_p_is_less (fun vs H Q E h => ?_) (fun cdv A outer s H vs Q E hr h => ?_)
  · obtain ⟨p, q, f, g, rfl, _⟩ := h
    rfl
  · obtain ⟨p, r, f, g, rfl, hp, hr', sf, sg, q⟩ := h
    exact ⟨_, (pss_one (ps_ret (pe_cmpR op_lt (pe_op op_mulW (pe_ix ix_tup (pv 0) pe_int (fun _ _ => rfl)) (pe_ix ix_tup (pv 1) pe_int (fun _ _ => rfl))) (pe_op op_mulW (pe_ix ix_tup (pv 1) pe_int (fun _ _ => rfl)) (pe_ix ix_tup (pv 0) pe_int (fun _ _ => rfl))) (nomark _)))), _, rfl, p, _, _, _, rfl, rfl, hp, t0, _, rfl, r, _, _, _, rfl, rfl, hr', t1, _, _, rfl, rfl, wide (f := f) (g := g) (Nat.le_refl _) sf.1 sg.2,
      _, rfl, r, _, _, _, rfl, rfl, hr', t0, _, rfl, p, _, _, _, rfl, rfl, hp, t1, _, _, rfl, rfl, wide (f := f) (g := g) (Nat.le_refl _) sg.1 sf.2, _, _, rfl, rfl, q⟩
end
section
variable {P : Program} {w : World} {K : PySem.W.Frag} {mg : Str → Option Value} {base : Heap} {fa : Nat → Addr} {fd : Nat → FuncData}
/-- a tie and a dict of values for its names -/
structure KpA (H : Hp) (tv : V) (d z : Addr) (t : Tie) (val : List Nat → FR) : Prop where
  tv : Dt z H tv (tieP t.1 t.2)
  ln : t.1.length ≤ 2
  rt : ∀ u ∈ t.1, Nf u.2 ∧ Bn 3 u.2
  bb : Bn 40 t.2
  vd : ValD H d val (t.1.map (·.1))
theorem KpA.same {H H' : Hp} {tv : V} {d z : Addr} {t : Tie} {val : List Nat → FR} (h : KpA H tv d z t val) (s : Same H H') : KpA H' tv d z t val := ⟨h.tv.same s, h.ln, h.rt, h.bb, h.vd.same s⟩
def kp (val : List Nat → FR) (t : Tie) : Bool := !ltF t.2 (totF val (0, 1) t.1)
def spKp : Sp := fun vs H Q _ => ∃ (tv : V) (d z : Addr) (t : Tie) (val : List Nat → FR), vs = [tv, .ref d] ∧ KpA H tv d z t val ∧ ∀ H', Same H H' → Q (.bl (kp val t)) H'
theorem ok_p_is_kept (T : Txt K mg fa fd) : FnOk P w K mg base CX0 5 (fa 91) (fd 91) ["tie", "values"] spKp := by
  refine T.F_p_is_kept.ok sc_p_is_kept (fun vs H Q E h => ?_) (fun cdv A outer s H vs Q E hr h => ?_)
  · obtain ⟨tv, d, z, t, val, rfl, _⟩ := h
    rfl
  · obtain ⟨tv, d, z, ⟨tl, tb⟩, val, rfl, ⟨ht, tl2, hok, hbb, hd⟩, q⟩ := h
    have tl2 : tl.length ≤ 2 := tl2
    have hok : ∀ u ∈ tl, Nf u.2 ∧ Bn 3 u.2 := hok
    have hbb : Bn 40 tb := hbb
    have hd : ValD H d val (tl.map (·.1)) := hd
    refine ⟨_, (C8.pss_cut (ps_asg (pv 0) (pg_tup (by rfl) (pgs_cons (pg_name (i := 2) sc_p_is_kept.nd rfl (.inl rfl)) (pgs_cons (pg_name (i := 3) sc_p_is_kept.nd rfl (.inl rfl)) pgs_nil))))
      (C8.pss_cut (ps_set (i := 4) sc_p_is_kept.nd rfl (.inl rfl) (C8.pe_gc (by rfl) T.c_ZERO))
      (C8.pss_cut (ps_for PassesOwn.never rfl (pi_tup (pv 2)) (pg_tup (by rfl) (pgs_cons (pg_name (i := 5) sc_p_is_kept.nd rfl (.inl rfl)) (pgs_cons (pg_name (i := 6) sc_p_is_kept.nd rfl (.inl rfl)) pgs_nil))) (pss_one (ps_set (i := 4) sc_p_is_kept.nd rfl (.inl rfl) (pe_call (ok_p_add T) (hr.mono (by decide)) (by rfl) T.g_p_add T.F_p_add.kp T.b_p_add .nil pass0 (pa_cons (pv 4) (pa_cons (pe_call (ok_p_multiply T) (hr.mono (by decide)) (by rfl) T.g_p_multiply T.F_p_multiply.kp T.b_p_multiply .nil pass0 (pa_cons (pv 6) (pa_cons (pe_dget (Nat.lt_of_le_of_lt (Nat.add_le_add_left (by decide) _) hr.units) (pv 1) (pv 5) (fun _ _ => rfl)) pa_nil))) pa_nil))))))
      (pss_one (ps_ret (pe_not (pe_call (ok_p_is_less T) (hr.mono (by decide)) (by rfl) T.g_p_is_less T.F_p_is_less.kp T.b_p_is_less .nil pass0 (pa_cons (pv 3) (pa_cons (pv 4) pa_nil))))))))), ?_⟩
    obtain ⟨P0, pt, pb, xs, rfl, gp, gt, hts, hpb⟩ := tie_inv9 ht
    have xl : xs.length = tl.length := by
      have := hts.len
      rw [List.length_map] at this
      exact this
    refine ⟨fun σ H1 => H1 = H ∧ σ = [some (.ref P0), some (.ref d), some (.ref pt), some (.ref pb), none, none, none], ⟨_, rfl, P0, _, rfl, .inl (.inl gp), rfl, _, _, rfl, _, _, rfl, rfl, rfl, rfl⟩, fun σ H1 hM => ?_⟩
    obtain ⟨rfl, rfl⟩ := hM
    refine ⟨fun σ H2 => H2 = H1 ∧ σ = [some (.ref P0), some (.ref d), some (.ref pt), some (.ref pb), some (.ref (fa 2000)), none, none], ⟨rfl, rfl⟩, fun σ H2 hM => ?_⟩
    obtain ⟨e2, rfl⟩ := hM
    subst e2
    have s1 : Same H2 H2 := Same.refl _
    refine ⟨fun σ G => Same H2 G ∧ ∃ p y3 y4, FrK K G p (totF val (0, 1) tl) ∧ Nf (totF val (0, 1) tl) ∧ Bn 40 (totF val (0, 1) tl) ∧ σ = [some (.ref P0), some (.ref d), some (.ref pt), some (.ref pb), some (.ref p), y3, y4], ?_, fun σ G hM => ?_⟩
    · refine ⟨_, rfl, pt, rfl, ⟨_, SqT.of gt⟩, for_tup (K := K) (a := pt) (xs := xs) (fun i σ G => Same H2 G ∧ ∃ p y3 y4, FrK K G p (totF val (0, 1) (tl.take i)) ∧ Nf (totF val (0, 1) (tl.take i)) ∧ Bn (1 + 8 * i) (totF val (0, 1) (tl.take i)) ∧ σ = [some (.ref P0), some (.ref d), some (.ref pt), some (.ref pb), some (.ref p), y3, y4]) ⟨s1, fa 2000, _, _, T.z_ZERO _, nf_01, bn_01, rfl⟩ (fun i σ G _ hq => SqT.of (hq.1 _ _ gt)) (fun i x σ G hx hq => ?_) (fun σ G hq => ?_)⟩
      · obtain ⟨sG, p, y3, y4, hp, np, bp, rfl⟩ := hq
        obtain ⟨dt, hdd, hdt⟩ := DtAll.at i hts hx
        rw [List.getElem?_map] at hdd
        obtain ⟨⟨n, f⟩, he, rfl⟩ := Option.map_eq_some_iff.mp hdd
        obtain ⟨nf, bf⟩ : Nf f ∧ Bn 3 f := hok _ (List.mem_of_getElem? he)
        have il : i < tl.length := (List.getElem?_eq_some_iff.mp he).1
        change Dt _ _ _ (.tuple [.str (SX.S n), frP f]) at hdt
        obtain ⟨kvs, hk, hkv⟩ := hd
        obtain ⟨bv, pv, ev, hpv⟩ := hkv n (List.mem_map_of_mem (f := fun t : List Nat × FR => t.1) (List.mem_of_getElem? he))
        match x, hdt with
        | _, .tup (a := pp) hpp (.cons (.str _ _) (.cons hr' .nil)) =>
          obtain ⟨pr, rfl, hpr⟩ := dt_fr hr'
          refine ⟨pp, _, rfl, .inl (.inl (sG _ _ hpp)), rfl, _, _, rfl, _, _, rfl, rfl, _, rfl, _, rfl, _, rfl, _, rfl, d, _, rfl, by rw [← ev]; exact DGet.k (k := Sum.inr (SX.S n)) (sG _ _ hk), ?_⟩
          refine ⟨pr, pv, f, val n, rfl, SqT.of (sG _ _ hpr), SqT.of (sG _ _ hpv), nf.1, bv.2.1, bf.mono (by decide), bv.bn.mono (by decide), fun e ne => ?_⟩
          have se := same_upd (o := trF (mulL f (val n))) ne
          have bm := bf.mul bv.bn nf.1 bv.2.1
          have nm : Nf (mulL f (val n)) := nf_low (Int.mul_ne_zero (by have := nf.1; omega) (by have := bv.2.1; omega))
          refine ⟨p, e, totF val (0, 1) (tl.take i), mulL f (val n), rfl, SqT.sm se _ _ hp, SqT.of upd_same, np.1, nm.1, bp.mono (by omega), bm.mono (by decide), fun e2 ne2 => ?_⟩
          have se2 := same_upd (o := trF (addL (totF val (0, 1) (tl.take i)) (mulL f (val n)))) ne2
          have et : totF val (0, 1) (tl.take (i + 1)) = addL (totF val (0, 1) (tl.take i)) (mulL f (val n)) := by
            rw [List.take_add_one, he]
            show totF val (0, 1) (tl.take i ++ [(n, f)]) = _
            rw [totF_app]
            rfl
          refine ⟨sG.trans (se.trans se2), e2, some (.str (SX.S n)), some (.ref pr), ?_, ?_, ?_, rfl⟩
          · rw [et]
            exact SqT.of upd_same
          · rw [et]
            exact addL_nf np.1 nm.1
          · rw [et]
            exact (bp.add bm np.1 nm.1).mono (by omega)
      · obtain ⟨sG, p, y3, y4, hp, np, bp, rfl⟩ := hq
        rw [xl] at bp
        rw [xl, List.take_length] at hp np
        rw [List.take_length] at bp
        exact ⟨sG, p, _, _, hp, np, bp.mono (by omega), rfl⟩
    obtain ⟨sG, p, y3, y4, hp, np, bp, rfl⟩ := hM
    exact ⟨_, rfl, _, rfl, pb, p, tb, totF val (0, 1) tl, rfl, SqT.of (sG _ _ hpb), hp, hbb.mono (by decide), bp.mono (by decide), _, rfl, q _ sG⟩
theorem ok_keeps (T : Txt K mg fa fd) : FnOk P w K mg base CX0 6 (fa 153) (fd 153) ["_law_tie", "_law_values"] spKp := by
  refine T.F_keeps.ok sc_keeps (fun vs H Q E h => ?_) (fun cdv A outer s H vs Q E hr h => ?_)
  · obtain ⟨tv, d, z, t, val, rfl, _⟩ := h
    rfl
  · obtain ⟨tv, d, z, t, val, rfl, ⟨ht, tl2, hok, hbb, hd⟩, q⟩ := h
    refine ⟨_, (pss_one (ps_ret (pe_not (pe_call (ok_under T) (hr.mono (by decide)) (by rfl) T.g_under T.F_under.kp T.b_under .nil pass0 (pa_cons (pe_ix ix_tup (pv 0) pe_int (fun _ _ => rfl)) (pa_cons (pe_call (ok_total T) (hr.mono (by decide)) (by rfl) T.g_total T.F_total.kp T.b_total .nil pass0 (pa_cons (pe_ix ix_tup (pv 0) pe_int (fun _ _ => rfl)) (pa_cons (pv 1) pa_nil))) pa_nil)))))), ?_⟩
    obtain ⟨P0, pt, pb, xs, rfl, gp, gt, hts, hpb⟩ := tie_inv9 ht
    exact ⟨_, rfl, P0, _, _, _, rfl, rfl, SqT.of gp, t1, _, rfl, P0, _, _, _, rfl, rfl, SqT.of gp, t0, _, rfl, pt, d, z, xs, t.1, val, rfl, SqT.of gt, hts, tl2, hok, hd, fun p H' s' hp np bp => ⟨pb, p, t.2, totF val (0, 1) t.1, rfl, SqT.of (s' _ _ hpb), hp, hbb.mono (by decide), bp.mono (by decide), _, rfl, q _ s'⟩⟩
end
section
variable {P : Program} {w : World} {K : PySem.W.Frag} {mg : Str → Option Value} {base : Heap} {fa : Nat → Addr} {fd : Nat → FuncData}
theorem ties_same {z : Addr} {H H' : Hp} (s : Same H H') : ∀ {us : List V} {ties : List Tie}, Paired (TieU z H) us ties → Paired (TieU z H') us ties
  | _, _, .nil => .nil
  | _, _, .cons h t => .cons (h.same s) (ties_same s t)
/-- names as data: a list of texts is what it is -/
theorem eqvAll_two : ∀ l r : List Str, PyData.eqvAll (l.map PyData.str) (r.map PyData.str) = decide (l = r)
  | [], [] => rfl
  | [], _ :: _ => rfl
  | _ :: _, [] => rfl
  | x :: l, y :: r => by
    have e : PyData.eqv (.str x) (.str y) = decide (x = y) := by
      show (x == y) = _
      exact Bool.eq_iff_iff.mpr (by rw [beq_iff_eq, decide_eq_true_eq])
    show (PyData.eqv (.str x) (.str y) && PyData.eqvAll (l.map PyData.str) (r.map PyData.str)) = _
    rw [e, eqvAll_two l r, Bool.eq_iff_iff, Bool.and_eq_true, decide_eq_true_eq, decide_eq_true_eq, decide_eq_true_eq, List.cons.injEq]
theorem eqv_strs (l r : List Str) : PyData.eqv (.list (l.map PyData.str)) (.list (r.map PyData.str)) = decide (l = r) := eqvAll_two l r
theorem lay_strs : ∀ l : List Str, (∀ x ∈ l, PyData.strOk x = true) → PyData.canLayAll0 (l.map PyData.str) = true ∧ PyData.depthAll (l.map PyData.str) ≤ 0
  | [], _ => ⟨rfl, Nat.zero_le _⟩
  | x :: l, h => by
    obtain ⟨h1, h2⟩ := lay_strs l fun y hy => h y (List.mem_cons_of_mem _ hy)
    constructor
    · show (PyData.strOk x && PyData.canLayAll0 (l.map PyData.str)) = true
      rw [h x List.mem_cons_self, h1]
      rfl
    · rw [List.map_cons, PyData.depthAll.eq_2]
      have : (PyData.str x).depth = 0 := rfl
      omega
theorem shaped_strs {l : List Str} (h : ∀ x ∈ l, PyData.strOk x = true) : SeqAt.shaped (.list (l.map PyData.str)) = true := by
  obtain ⟨h1, h2⟩ := lay_strs l h
  unfold SeqAt.shaped
  rw [PyData.canLay0.eq_5, PyData.depth.eq_1, h1, Bool.true_and, decide_eq_true_eq]
  omega
def spLHolds (K : PySem.W.Frag) (C : Addr) : Sp := fun vs H Q _ => ∃ (x d : Addr) (ns : List Str) (us : List V) (z : Addr) (ties : List Tie) (kvs : List (Key × V)) (val : List Nat → FR), vs = [.ref x, .ref d] ∧ LotH K C H x ns us ∧ us.length = ties.length ∧ us.length ≤ 10 ∧
  H d = some (.dK kvs) ∧ kvs.map (·.1) = ns.map (fun x => (.inr x : Key)) ∧ ns.Nodup ∧ ns.length < 64 ∧ (∀ x ∈ ns, x.length ≤ 1000) ∧ (∀ x ∈ ns, PyData.strOk x = true) ∧ (∀ (i : Nat) (v : V) (t : Tie), us[i]? = some v → ties[i]? = some t → KpA H v d z t val) ∧ ∀ H', Same H H' → Q (.bl ((ties.map (kp val)).all id)) H'
theorem ok_p_LotHolds (T : Txt K mg fa fd) : FnOk P w K mg base CX0 6 (fa 1513) (fd 1513) ["self", "values"] (spLHolds K (fa 138)) := by
  refine T.F_LotHolds.ok sc_p_LotHolds (fun vs H Q E h => ?_) (fun cdv A outer s H vs Q E hr h => ?_)
  · obtain ⟨x, d, ns, us, z, ties, kvs, val, rfl, _⟩ := h
    rfl
  · obtain ⟨x, d, ns, us, z, ties, kvs, val, rfl, hL, ul, h10, hd, hk, nd, h64, hx, hok, hkp, q⟩ := h
    obtain ⟨dx, p1, p2, ms, h1, h2, h3, h4, h5⟩ := hL.at_
    refine ⟨_, (pss_cons (ps_if (pt_cmpR (op_neD hr.units) (pe_call (ok_p_ascendingB T) (hr.mono (by decide)) (by rfl) T.g_p_ascending T.F_p_ascending.kp T.b_p_ascending .nil pass0 (pa_cons (pv 1) pa_nil)) (pe_callTy call_list_of (by rfl) T.m_list (by decide +kernel) (pa_cons (pe_fld (pv 0) (by rfl)) pa_nil)) (nomark _)) (pss_one (ps_ret pe_bl)) pss_nil)
      (pss_one (ps_ret (pe_callB (cr_all rfl) (by rfl) T.m_all PyProof.Rows.boot_all (pa_cons (pe_lc (own := [("tie", 2)]) (g := gName 2) (tt := tYes) rfl sc_p_LotHolds.nd (pi_tup (pe_fld (pv 0) (by rfl))) (blkOk_by (own := [("tie", 2)]) (N := ["self", "values", "tie"]) (sc := defScope s_p_LotHolds) (by decide +kernel)) (fun _ _ _ _ _ => pg_name (i := 2) sc_p_LotHolds.nd rfl (Or.inl rfl)) (fun _ _ _ _ _ => pts_nil) (fun _ _ _ _ _ => (pe_call (ok_p_is_kept T) (hr.mono (by decide)) (by rfl) T.g_p_is_kept T.F_p_is_kept.kp T.b_p_is_kept .nil pass0 (pa_cons (pv 2) (pa_cons (pv 1) pa_nil))))) pa_nil))))), ?_⟩
    refine ⟨_, rfl, d, ns, rfl, .inr ⟨kvs, hd, hk⟩, nd, h64, hx, fun p ms' H1 s1 np hp perm srt => ?_⟩
    have em : ms' = ms := srt_unique (srt_pw _ srt) (srt_pw _ h4) (perm.trans h3.symm)
    subst em
    refine ⟨_, rfl, _, _, dx, _, _, rfl, s1 _ _ h1, T.cl_Lot, T.na_unknowns, rfl, p1, _, rfl, .inr (SqT_sm s1 h2), fun l nl => ?_⟩
    have sl := same_upd (o := .lst (ms'.map V.str)) nl
    have s2 := s1.trans sl
    have okm : ∀ x ∈ ms', PyData.strOk x = true := fun y hy => hok y (h3.mem_iff.mp hy)
    refine ⟨_, _, .lst (SqL.of (sl _ _ hp)) (dp_strs ms'), .lst (SqL.of upd_same) (dp_strs ms'), shaped_strs okm, shaped_strs okm, _, rfl, ?_⟩
    rw [eqv_strs, decide_eq_true rfl]
    refine iteF ?_
    refine ⟨_, rfl, _, _, dx, _, _, rfl, s2 _ _ h1, T.cl_Lot, T.na_bonds, rfl, p2, rfl, ⟨_, SqT_sm s2 h5⟩, fun D nD => ?_⟩
    refine lc_tup (K := K) (a := p2) (xs := us) (fun i G => Same (upd H1 l (.lst (ms'.map V.str))) G ∧ G D = some (.lst (((ties.take i).map (kp val)).map V.bl))) ⟨same_upd nD, upd_same⟩ (fun i G _ hq => SqT_sm (s2.trans hq.1) h5) (fun i y G hy hq => ?_) (fun G hq => ?_)
    · have il := (List.getElem?_eq_some_iff.mp hy).1
      obtain ⟨t, ht⟩ : ∃ t, ties[i]? = some t := ⟨_, List.getElem?_eq_getElem (by omega)⟩
      refine ⟨rfl, _, rfl, _, rfl, y, d, z, t, val, rfl, (hkp i y t hy ht).same (s2.trans hq.1), fun G2 s3 => ⟨_, s3 _ _ hq.2, ?_, fun b o e => (upd_ne (ne_of_none e nD)).trans (s3 _ _ (hq.1 _ _ e)), ?_⟩⟩
      · rw [List.length_map, List.length_map, List.length_take]
        exact small1000 (by omega)
      · rw [upd_same, List.take_add_one, ht, List.map_append, List.map_append]
        rfl
    · rw [ul, List.take_length] at hq
      exact ⟨D, _, rfl, SqL.of hq.2, q G (s2.trans hq.1)⟩
end
def layD (d : PyData) : Bool := d.canLay0 && decide (d.depth ≤ 4)
theorem lay_all : ∀ {ds : List PyData}, (∀ d ∈ ds, layD d = true) → PyData.canLayAll0 ds = true ∧ PyData.depthAll ds ≤ 5
  | [], _ => ⟨rfl, Nat.zero_le _⟩
  | d :: ds, h => by
    obtain ⟨h1, h2⟩ := lay_all fun e he => h e (List.mem_cons_of_mem _ he)
    have hd : (d.canLay0 && decide (d.depth ≤ 4)) = true := h d List.mem_cons_self
    rw [Bool.and_eq_true, decide_eq_true_eq] at hd
    constructor
    · show (d.canLay0 && PyData.canLayAll0 ds) = true
      rw [hd.1, h1]
      rfl
    · rw [PyData.depthAll.eq_2]
      omega
theorem shaped_lay {ds : List PyData} (h : ∀ d ∈ ds, layD d = true) : SeqAt.shaped (.list ds) = true := by
  obtain ⟨h1, h2⟩ := lay_all h
  unfold SeqAt.shaped
  rw [PyData.canLay0.eq_5, PyData.depth.eq_1, h1, Bool.true_and, decide_eq_true_eq]
  omega
theorem shaped_tup {ds : List PyData} (h : SeqAt.shaped (.list ds) = true) : SeqAt.shaped (.tuple ds) = true := by
  unfold SeqAt.shaped at h ⊢
  rw [PyData.canLay0.eq_5, PyData.depth.eq_1] at h
  rw [PyData.canLay0.eq_6, PyData.depth.eq_2]
  exact h
/-- what K tells of the class besides -/
structure TxL (K : PySem.W.Frag) (mg : Str → Option Value) (fa : Nat → Addr) : Prop where
  m_repr : mg "repr" = none
  ic : C8.InsC K (fa 138)
  il : PySem.W.kitOne K (.type "list") (.ref (fa 138)) = some false
section
variable {P : Program} {w : World} {K : PySem.W.Frag} {mg : Str → Option Value} {base : Heap} {fa : Nat → Addr} {fd : Nat → FuncData}
/-- a lot with its ties as data -/
structure LotD (K : PySem.W.Frag) (C : Addr) (H : Hp) (x : Addr) (ns : List Str) (ds : List PyData) : Prop where
  ex : ∃ us, LotH K C H x ns us ∧ DpAll K H us ds
  ok : ∀ x ∈ ns, PyData.strOk x = true
  ly : ∀ d ∈ ds, layD d = true
def spLEq (K : PySem.W.Frag) (C : Addr) : Sp := fun vs H Q _ => ∃ (x y : Addr) (ns : List Str) (ds : List PyData), vs = [.ref x, .ref y] ∧ LotD K C H x ns ds ∧
  ((∃ ns', LotD K C H y ns' ds ∧ ns.Perm ns' ∧ ∀ H', Same H H' → Q (.bl true) H') ∨ (∃ ns' ds', LotD K C H y ns' ds' ∧ ns.length ≠ ns'.length ∧ ∀ H', Same H H' → Q (.bl false) H') ∨ (∃ ys, H y = some (.lst ys) ∧ ∀ H', Same H H' → Q (.bl false) H'))
theorem ok_p_LotEq (T : Txt K mg fa fd) (L : TxL K mg fa) : FnOk P w K mg base CX0 1 (fa 1514) (fd 1514) ["self", "other"] (spLEq K (fa 138)) := by
  refine T.F_LotEq.ok sc_p_LotEq (fun vs H Q E h => ?_) (fun cdv A outer s H vs Q E hr h => ?_)
  · obtain ⟨x, y, ns, ds, rfl, _⟩ := h
    rfl
  · obtain ⟨x, y, ns, ds, rfl, ⟨⟨us, hL, hus⟩, okx, lyx⟩, hc⟩ := h
    obtain ⟨dx, p1, p2, ms, h1, h2, h3, h4, h5⟩ := hL.at_
    refine ⟨_, (pss_one (ps_ret (pe_and (pe_callB call_isi (by rfl) T.m_isinstance PyProof.Rows.boot_isinstance (pa_cons (pv 1) (pa_cons (pe_glob (v := V.ref (fa 138)) (by rfl) T.g_Lot rfl) pa_nil))) (pe_and (pe_cmpR (op_eqD hr.units) (pe_fld (pv 0) (by rfl)) (pe_fld (pv 1) (by rfl)) (nomark _)) (pe_one (pe_cmpR (op_eqD hr.units) (pe_fld (pv 0) (by rfl)) (pe_fld (pv 1) (by rfl)) (nomark _))))))), ?_⟩
    have okm : ∀ x ∈ ms, PyData.strOk x = true := fun y hy => okx y (h3.mem_iff.mp hy)
    have shm := shaped_tup (shaped_strs okm)
    have shd := shaped_tup (shaped_lay lyx)
    rcases hc with ⟨ns', ⟨⟨us', hL', hus'⟩, oky, lyy⟩, perm, q⟩ | ⟨ns', ds', ⟨⟨us', hL', hus'⟩, oky, lyy⟩, hne, q⟩ | ⟨ys, hy, q⟩
    · obtain ⟨dy, q1, q2, ms', g1, g2, g3, g4, g5⟩ := hL'.at_
      have em : ms' = ms := srt_unique (srt_pw _ g4) (srt_pw _ h4) (g3.trans (perm.symm.trans h3.symm))
      subst em
      refine ⟨_, rfl, .ref y, .ref (fa 138), .ref (fa 138), .ref (fa 138), true, rfl, .own _, .base (.ins g1 L.ic.cl L.ic.ha L.ic.hn L.ic.htk L.ic.hm), L.ic.me, ?_⟩
      refine ⟨_, rfl, iteT ⟨_, rfl, _, _, dx, _, _, rfl, h1, T.cl_Lot, T.na_unknowns, rfl, _, rfl, _, _, dy, _, _, rfl, g1, T.cl_Lot, T.na_unknowns, rfl, _, _, .tup h2 (dp_strs ms'), .tup g2 (dp_strs ms'), shm, shm, ?_⟩⟩
      rw [show PyData.eqv (.tuple (ms'.map PyData.str)) (.tuple (ms'.map PyData.str)) = true from SeqAt.eqv_refl _ (SeqAt.canLay_of_shaped shm)]
      refine ⟨_, rfl, iteT ⟨_, rfl, _, _, dx, _, _, rfl, h1, T.cl_Lot, T.na_bonds, rfl, _, rfl, _, _, dy, _, _, rfl, g1, T.cl_Lot, T.na_bonds, rfl, _, _, .tup h5 hus, .tup g5 hus', shd, shd, ?_⟩⟩
      rw [show PyData.eqv (.tuple ds) (.tuple ds) = true from SeqAt.eqv_refl _ (SeqAt.canLay_of_shaped shd)]
      exact q H (Same.refl H)
    · obtain ⟨dy, q1, q2, ms', g1, g2, g3, g4, g5⟩ := hL'.at_
      refine ⟨_, rfl, .ref y, .ref (fa 138), .ref (fa 138), .ref (fa 138), true, rfl, .own _, .base (.ins g1 L.ic.cl L.ic.ha L.ic.hn L.ic.htk L.ic.hm), L.ic.me, ?_⟩
      have okm' : ∀ x ∈ ms', PyData.strOk x = true := fun y hy => oky y (g3.mem_iff.mp hy)
      have ne : ms ≠ ms' := fun e => hne (by rw [← h3.length_eq, ← g3.length_eq, e])
      refine ⟨_, rfl, iteT ⟨_, rfl, _, _, dx, _, _, rfl, h1, T.cl_Lot, T.na_unknowns, rfl, _, rfl, _, _, dy, _, _, rfl, g1, T.cl_Lot, T.na_unknowns, rfl, _, _, .tup h2 (dp_strs ms), .tup g2 (dp_strs ms'), shm, shaped_tup (shaped_strs okm'), ?_⟩⟩
      rw [show PyData.eqv (.tuple (ms.map PyData.str)) (.tuple (ms'.map PyData.str)) = false from (eqvAll_two ms ms').trans (decide_eq_false ne)]
      exact ⟨_, rfl, iteF (q H (Same.refl H))⟩
    · refine ⟨_, rfl, .ref y, .ref (fa 138), .type "list", .ref (fa 138), false, rfl, .own _, .base (.lst hy), L.il, ?_⟩
      exact ⟨_, rfl, iteF (q H (Same.refl H))⟩
end
theorem passes_no {X : Cx} : Passes (L2.CX X.prog X.w) X (fun _ _ _ => False) := fun _ _ _ _ _ _ _ c => by
  obtain ⟨_, _, _, _, _, _, _, _, _, _, _, _, z⟩ := c
  exact z.elim
theorem prd_snoc {α β : Type} {R S : α → β → Prop} (k : ∀ x y, R x y → S x y) : ∀ {xs : List α} {ys : List β} {x : α} {y : β}, Paired R xs ys → S x y → Paired S (xs ++ [x]) (ys ++ [y])
  | _, _, _, _, .nil, h => .cons h .nil
  | _, _, _, _, .cons a t, h => .cons (k _ _ a) (prd_snoc k t h)
section
variable {P : Program} {w : World} {K : PySem.W.Frag} {mg : Str → Option Value} {base : Heap} {fa : Nat → Addr} {fd : Nat → FuncData}
def spLRead (K : PySem.W.Frag) (C : Addr) : Sp := fun vs H Q _ => ∃ (L : Addr) (ns : List Str) (txt : Str) (ts : List (List Nat)), vs = [.ref L, .str txt] ∧ SqL K H L (ns.map V.str) ∧ (∀ x ∈ ns, x.length ≤ 1000) ∧ firstBad 0 [] ns = none ∧ ns.Nodup ∧ ns.length < 64 ∧
  txt.length ≤ 998 ∧ ((txt = Str.ofString "" ∧ ts = []) ∨ (txt ≠ Str.ofString "" ∧ Txt.split txt (Str.ofString "; ") = ts.map SX.S)) ∧ ts.length ≤ 100 ∧ (∀ t ∈ ts, t.length ≤ 140 ∧ cT t 0 ≤ 20) ∧ (∀ t ∈ ts, PartG t) ∧
  ∀ dss, Paired PartR ts dss → firstBadT ns 0 dss.flatten = none ∧ ∀ x us H', Same H H' → H x = none → LotH K C H' x ns us → DtAll 0 H' us dss.flatten → Q (.ref x) H'
theorem ok_p_LotRead (T : Txt K mg fa fd) : FnOk P w K mg base CX0 10 (fa 1501) (fd 1501) ["names", "text"] (spLRead K (fa 138)) := by
  refine T.F_LotRead.ok sc_p_LotRead (fun vs H Q E h => ?_) (fun cdv A outer s H vs Q E hr h => ?_)
  · obtain ⟨L, ns, txt, ts, rfl, _⟩ := h
    rfl
  · obtain ⟨L, ns, txt, ts, rfl, hL, hx, fb, nd, sz, tl, hts, htl, ht, hall, hq0⟩ := h
    refine ⟨_, (C8.pss_cut (ps_set (i := 2) sc_p_LotRead.nd rfl (.inl rfl) (pe_lst pa_nil))
      (C8.pss_cut (ps_for PassesOwn.never rfl (pi_list (pe_ifExp (pt_cmpR op_ne (pv 1) pe_str (nomark _)) (pe_m1 PySem.F.slot_str_split PySem.F.type_str_split mt_split (pv 1) pe_str (by rfl) (by rfl) (by rfl)) (pe_lst pa_nil))) (pg_name (i := 3) sc_p_LotRead.nd rfl (.inl rfl)) (pss_one (ps_expr (pe_bm PySem.F.plainAttrs_list PySem.F.slot_list_extend PySem.F.type_list_extend mt_extend (pv 2) (pa_cons (pe_call (ok_p_read_ties T) (hr.mono (by decide)) (by rfl) T.g_p_read_ties T.F_p_read_ties.kp T.b_p_read_ties .nil passes_no (pa_cons (pv 3) pa_nil)) pa_nil)))))
      (pss_one (ps_ret (pe_make T.mk_Lot (ok_p_LotInit T) (hr.mono (by decide)) (by rfl) T.g_Lot T.b_LotInit .nil pass0 (pa_cons (pv 0) (pa_cons (pv 2) pa_nil))))))), ?_⟩
    refine ⟨fun σ H1 => Same H H1 ∧ ∃ D, H D = none ∧ H1 D = some (.lst []) ∧ σ = [some (.ref L), some (.str txt), some (.ref D), none], ⟨small_line (by show 0 ≤ 1000; decide), fun D nD => ⟨same_upd nD, D, nD, upd_same, rfl⟩⟩, fun σ H1 hM => ?_⟩
    obtain ⟨s1, D, nD, hD, rfl⟩ := hM
    refine ⟨fun σ G => (∀ b o, b ≠ D → H b = some o → G b = some o) ∧ (∀ t ∈ ts, PartG t) ∧ ∃ us dss y3, G D = some (.lst us) ∧ Paired PartR ts dss ∧ DtAll 0 G us dss.flatten ∧ us.length ≤ 200 ∧ σ = [some (.ref L), some (.str txt), some (.ref D), y3], ?_, fun σ G hM => ?_⟩
    · rcases hts with ⟨rfl, rfl⟩ | ⟨tne, hsp⟩
      · refine ⟨_, rfl, rfl, _, rfl, iteFq (by rw [decide_eq_true rfl]; rfl) ⟨small_line (by show 0 ≤ 1000; decide), fun p np => ⟨p, rfl, ⟨_, SqL.of upd_same⟩, for_list (K := K) (a := p) (xs := []) (fun i σ G => i = 0 ∧ G = upd H1 p (.lst []) ∧ σ = [some (.ref L), some (.str (Str.ofString "")), some (.ref D), none]) ⟨rfl, rfl, rfl⟩
          (fun i σ G _ hq => by obtain ⟨_, rfl, _⟩ := hq; exact SqL.of upd_same) (fun i x σ G hx hq => by cases hx) (fun σ G hq => ?_)⟩⟩⟩
        obtain ⟨_, rfl, rfl⟩ := hq
        have sp := same_upd (o := .lst []) np
        exact ⟨fun b o _ e => sp _ _ (s1 _ _ e), (fun t h => by cases h), [], [], _, sp _ _ hD, .nil, .nil, Nat.zero_le _, rfl⟩
      refine ⟨_, rfl, rfl, _, rfl, iteTq ?_ ⟨_, rfl, ⟨_, rfl⟩, _, _, rfl, rfl, by decide +kernel, ?_, fun p np => ?_⟩⟩
      · rw [decide_eq_false fun z => tne (V.str.inj z)]
        rfl
      · exact small_line (by omega)
      · rw [hsp]
        have sp := same_upd (o := .lst ((ts.map SX.S).map V.str)) np
        have pD : p ≠ D := fun z => by
          rw [z, hD] at np
          cases np
        have hpp : (upd H1 p (.lst ((ts.map SX.S).map V.str))) p = some (.lst ((ts.map SX.S).map V.str)) := upd_same
        have hD1 := sp _ _ hD
        have sb := s1.trans sp
        have nDp : D ≠ p := fun z => pD z.symm
        generalize upd H1 p (.lst ((ts.map SX.S).map V.str)) = H2 at sp hpp hD1 sb
        refine ⟨p, rfl, ⟨_, SqL.of hpp⟩, for_list (K := K) (a := p) (xs := (ts.map SX.S).map V.str) (fun i σ G => (∀ b o, b ≠ D → H2 b = some o → G b = some o) ∧ (∀ (m : Nat) (t' : List Nat), m < i → ts[m]? = some t' → PartG t') ∧ ∃ us dss y3, G D = some (.lst us) ∧ Paired PartR (ts.take i) dss ∧ DtAll 0 G us dss.flatten ∧ us.length ≤ 2 * i ∧ σ = [some (.ref L), some (.str txt), some (.ref D), y3])
          ⟨fun b o _ e => e, (fun m t' h => absurd h (Nat.not_lt_zero m)), [], [], _, hD1, .nil, .nil, Nat.le_refl 0, rfl⟩ (fun i σ G _ hq => SqL.of (hq.1 _ _ pD hpp)) (fun i x σ G hx hq => ?_) (fun σ G hq => ?_)⟩
        · obtain ⟨oth, hg, us, dss, y3, hDG, hdss, hus, ul, rfl⟩ := hq
          rw [List.getElem?_map, List.getElem?_map] at hx
          obtain ⟨x', hx', rfl⟩ := Option.map_eq_some_iff.mp hx
          obtain ⟨t, hz, rfl⟩ := Option.map_eq_some_iff.mp hx'
          have il : i < ts.length := (List.getElem?_eq_some_iff.mp hz).1
          have sG : Same H G := fun b o e => oth b o (ne_of_none e nD) (sb _ _ e)
          obtain ⟨t1, t2⟩ := ht t (List.mem_of_getElem? hz)
          obtain ⟨l0, g0, r0, ep, ec⟩ := hall t (List.mem_of_getElem? hz)
          refine ⟨_, rfl, .inl ⟨rfl, _, SqL.of hDG⟩, _, rfl, t, 0, rfl, t1, t2, fun j e => ?_, fun l g r e => ⟨fun nc => ?_, fun hc2 nms hnms p2 vs2 H3 s3 np2 hp2 hdt => ?_⟩⟩
          · rw [ep] at e
            cases e
          · rw [ep] at e
            cases e
            exact absurd ec nc
          · have hD3 := s3 _ _ hDG
            have l2 : vs2.length ≤ 2 := by
              rw [hdt.len]
              exact res_len l g r nms
            refine ⟨D, p2, us, vs2, rfl, rfl, hD3, hp2, small_line (by omega), ?_⟩
            have tt : TT H3 (upd H3 D (.lst (us ++ vs2))) := TT.upd hD3
            refine ⟨fun b o nb e2 => (upd_ne nb).trans (s3 _ _ (oth b o nb e2)), fun m t' hm e2 => ?_, us ++ vs2, dss ++ [resD l g r nms], _, upd_same, ?_, ?_, ?_, rfl⟩
            · by_cases hmi : m = i
              · subst hmi
                rw [hz] at e2
                cases e2
                exact ⟨l, g, r, e, hc2⟩
              · exact hg m t' (by omega) e2
            · rw [List.take_add_one, hz]
              exact prd_snoc (fun _ _ h => h) hdss ⟨l, g, r, nms, e, hnms, rfl⟩
            · rw [List.flatten_append]
              have e3 : [resD l g r nms].flatten = resD l g r nms := by simp
              rw [e3]
              exact DtAll.app (DtAll.tups tt _ _ (parts_noL hdss) (hus.same s3)) (DtAll.tups tt _ _ (noLs_res l g r nms) hdt)
            · rw [List.length_append]
              omega
        · obtain ⟨oth, hg, us, dss, y3, hDG, hdss, hus, ul, rfl⟩ := hq
          rw [List.length_map, List.length_map] at hg hdss ul
          rw [List.take_length] at hdss
          refine ⟨fun b o nb e => oth b o nb (sb _ _ e), fun t hm => ?_, us, dss, y3, hDG, hdss, hus, by omega, rfl⟩
          obtain ⟨i, hi⟩ := List.mem_iff_getElem?.mp hm
          exact hg i t (List.getElem?_eq_some_iff.mp hi).1 hi
    · obtain ⟨oth, hg, us, dss, y3, hD, hdss, hus, ul, rfl⟩ := hM
      have sG : Same H G := fun b o e => oth b o (ne_of_none e nD) e
      refine ⟨_, rfl, _, rfl, fun x dx nx ndx ne => ?_⟩
      have s2 := (same_upd (o := .own x) ndx).trans (same_upd (o := .ins (fa 138) dx []) (H := upd G dx (.own x)) ((upd_ne ne.symm).trans nx))
      obtain ⟨fbt, q⟩ := hq0 dss hdss
      refine ⟨x, L, D, ns, us, dx, rfl, upd_same, ⟨.inl (SqL.sm (sG.trans s2) hL), .inl (SqL.of (s2 _ _ hD)), ⟨0, _, hus.same s2, fbt⟩, by omega, fb, nd, sz, hx⟩, fun H' oth' hL' => ⟨rfl, ?_⟩⟩
      have nxH : H x = none := by
        cases hh : H x with
        | none => rfl
        | some o =>
          have := sG x o hh
          rw [nx] at this
          cases this
      have keep : Same G H' := fun b o e => oth' b o (ne_of_none e nx) (s2 _ _ e)
      exact q x us H' (sG.trans keep) nxH hL' (hus.same keep)
end
section
variable {P : Program} {w : World} {K : PySem.W.Frag} {mg : Str → Option Value} {base : Heap} {fa : Nat → Addr} {fd : Nat → FuncData}
def spPointK : Sp := fun vs H Q _ => ∃ (a c p : Addr) (ws : List (List Nat)), vs = [.ref a, .ref p] ∧ FeedOk H a c ∧ p ≠ a ∧ H p = some (.lst (ws.map vS)) ∧ ws.Nodup ∧ ws.length ≤ 6 ∧ ∀ d val H', FeedOk H' a c → But a H H' → PointD H' d val ws → (∃ kvs, H' d = some (.dK kvs) ∧ kvs.map (·.1) = ws.map (fun x => (.inr (SX.S x) : Key))) → Q (.ref d) H'
theorem ok_pointK (T : Txt K mg fa fd) : FnOk P w K mg base CX0 3 (fa 154) (fd 154) ["_law_feed_here", "_law_words_here"] spPointK := by
  refine T.F_point.ok sc_point (fun vs H Q E h => ?_) (fun cdv A outer s H vs Q E hr h => ?_)
  · obtain ⟨a, c, p, ws, rfl, _⟩ := h
    rfl
  · obtain ⟨a, c, p, ws, rfl, hF, npa, hp, hnd, hl, q⟩ := h
    refine ⟨_, (pss_one (ps_ret (pe_callTy (call_dictP rfl) (by rfl) T.m_dict (by decide +kernel) (pa_cons (pe_lc (own := [("_law_name", 2)]) (g := gName 2) (tt := tYes) rfl sc_point.nd (pi_list (pv 1)) (blkOk_by (own := [("_law_name", 2)]) (N := ["_law_feed_here", "_law_words_here", "_law_name"]) (sc := defScope s_point) (by decide +kernel)) (fun _ _ _ _ _ => pg_name (i := 2) sc_point.nd rfl (Or.inl rfl)) (fun _ _ _ _ _ => pts_nil) (fun _ _ _ _ _ => (pe_tup (pa_cons (pv 2) (pa_cons (pe_call (ok_any T) (hr.mono (by decide)) (by rfl) T.g_any T.F_any.kp T.b_any .nil pass0 (pa_cons (pv 0) (pa_cons (pe_lst (pa_cons (pe_tup (pa_cons pe_int (pa_cons pe_int pa_nil))) (pa_cons (pe_tup (pa_cons pe_int (pa_cons pe_int pa_nil))) (pa_cons (pe_tup (pa_cons pe_int (pa_cons pe_int pa_nil))) (pa_cons (pe_tup (pa_cons (pe_un un_neg pe_int) (pa_cons pe_int pa_nil))) (pa_cons (pe_tup (pa_cons pe_int (pa_cons pe_int pa_nil))) (pa_cons (pe_tup (pa_cons pe_int (pa_cons pe_int pa_nil))) (pa_cons (pe_tup (pa_cons (pe_un un_neg pe_int) (pa_cons pe_int pa_nil))) pa_nil)))))))) pa_nil))) pa_nil))))) pa_nil)))), ?_⟩
    refine ⟨_, rfl, p, rfl, ⟨_, SqL.of hp⟩, fun D nD => ?_⟩
    have nDa := new_ne hF nD
    have nDc := new_nc hF nD
    have npD : p ≠ D := ne_of_none hp nD
    refine lc_list (K := K) (a := p) (xs := ws.map vS) (fun i G => FeedOk G a c ∧ But a H G ∧ G p = some (.lst (ws.map vS)) ∧ ∃ (ps : List Addr) (kvs : List (Key × V)), G D = some (.lst (ps.map V.ref)) ∧ Paired (fun p kv => G p = some (.tup [kV kv.1, kv.2])) ps kvs ∧ kvs.map (·.1) = (ws.take i).map (fun x => (.inr (SX.S x) : Key)) ∧ ∀ kv ∈ kvs, ∃ (q : Addr) (f : FR), kv.2 = .ref q ∧ G q = some (.tup [.int f.1, .int f.2]) ∧ Bf 10 f)
      ⟨hF.new nD, But.of (same_upd nD), same_upd nD _ _ hp, [], [], upd_same, .nil, rfl, fun kv h => by cases h⟩ (fun i G _ hq => SqL.of hq.2.2.1) (fun i x G hx hq => ?_) (fun G hq => ?_)
    · obtain ⟨hG, bG, hpG, ps, kvs, hD, hpk, hkeys, hvals⟩ := hq
      rw [List.getElem?_map] at hx
      obtain ⟨x, hxz, rfl⟩ := Option.map_eq_some_iff.mp hx
      refine ⟨rfl, ?_⟩
      refine ⟨_, rfl, _, rfl, (small_line (by decide : 2 ≤ 1000)), fun p1 n1 => ?_⟩
      obtain ⟨s1, d1⟩ := dnewT (z := a) n1 (.cons (.int 0 (by decide +kernel)) (.cons (.int 1 (by decide +kernel)) .nil))
      refine ⟨(small_line (by decide : 2 ≤ 1000)), fun p2 n2 => ?_⟩
      obtain ⟨s2, d2⟩ := dnewT (z := a) n2 (.cons (.int 1 (by decide +kernel)) (.cons (.int 1 (by decide +kernel)) .nil))
      refine ⟨(small_line (by decide : 2 ≤ 1000)), fun p3 n3 => ?_⟩
      obtain ⟨s3, d3⟩ := dnewT (z := a) n3 (.cons (.int 2 (by decide +kernel)) (.cons (.int 1 (by decide +kernel)) .nil))
      refine ⟨_, rfl, (small_line (by decide : 2 ≤ 1000)), fun p4 n4 => ?_⟩
      obtain ⟨s4, d4⟩ := dnewT (z := a) n4 (.cons (.int (-1) (by decide +kernel)) (.cons (.int 1 (by decide +kernel)) .nil))
      refine ⟨(small_line (by decide : 2 ≤ 1000)), fun p5 n5 => ?_⟩
      obtain ⟨s5, d5⟩ := dnewT (z := a) n5 (.cons (.int 1 (by decide +kernel)) (.cons (.int 2 (by decide +kernel)) .nil))
      refine ⟨(small_line (by decide : 2 ≤ 1000)), fun p6 n6 => ?_⟩
      obtain ⟨s6, d6⟩ := dnewT (z := a) n6 (.cons (.int 3 (by decide +kernel)) (.cons (.int 1 (by decide +kernel)) .nil))
      refine ⟨_, rfl, (small_line (by decide : 2 ≤ 1000)), fun p7 n7 => ?_⟩
      obtain ⟨s7, d7⟩ := dnewT (z := a) n7 (.cons (.int (-5) (by decide +kernel)) (.cons (.int 3 (by decide +kernel)) .nil))
      refine ⟨(small_line (by decide : 7 ≤ 1000)), fun p8 n8 => ?_⟩
      obtain ⟨s8, all, hrw⟩ := drow (z := a) n8 (.cons (d1.same (s2.trans (s3.trans (s4.trans (s5.trans (s6.trans s7)))))) (.cons (d2.same (s3.trans (s4.trans (s5.trans (s6.trans s7))))) (.cons (d3.same (s4.trans (s5.trans (s6.trans s7)))) (.cons (d4.same (s5.trans (s6.trans s7))) (.cons (d5.same (s6.trans s7)) (.cons (d6.same s7) (.cons d7 .nil)))))))
      have sR := (s1.trans (s2.trans (s3.trans (s4.trans (s5.trans (s6.trans (s7.trans s8)))))))
      refine ⟨a, c, p8, _, rfl, hG.same sR, hrw, new_ne (hG.same (s1.trans (s2.trans (s3.trans (s4.trans (s5.trans (s6.trans s7))))))) n8, by show 0 < 7; decide, by show 7 ≤ 1000; decide, fun v H2 hv hF2 b2 => ?_⟩
      obtain ⟨d, hd, hdt⟩ := all.mem hv
      have hdt := hdt.but (hG.same sR) b2
      have bb := (But.of (a := a) sR).trans b2
      have tt := TT.but hG bb
      obtain ⟨f, rfl, hf⟩ : ∃ f : FR, d = frP f ∧ Bf 10 f := by
        simp only [List.mem_cons, List.not_mem_nil, or_false] at hd
        rcases hd with rfl | rfl | rfl | rfl | rfl | rfl | rfl
        · exact ⟨(0, 1), rfl, by unfold Bf; decide⟩
        · exact ⟨(1, 1), rfl, by unfold Bf; decide⟩
        · exact ⟨(2, 1), rfl, by unfold Bf; decide⟩
        · exact ⟨(-1, 1), rfl, by unfold Bf; decide⟩
        · exact ⟨(1, 2), rfl, by unfold Bf; decide⟩
        · exact ⟨(3, 1), rfl, by unfold Bf; decide⟩
        · exact ⟨(-5, 3), rfl, by unfold Bf; decide⟩
      obtain ⟨pf, rfl, hpf⟩ := dt_fr hdt
      refine ⟨two_line, fun e ne => ?_⟩
      have se := same_upd (o := .tup [vS x, .ref pf]) ne
      have hD2 := bb _ _ nDa hD
      have hD3 := se _ _ hD2
      have il : i < ws.length := (List.getElem?_eq_some_iff.mp hxz).1
      have kl : kvs.length = ps.length := (Paired.length hpk).symm
      have k2 : kvs.length ≤ 6 := by
        have := congrArg List.length hkeys
        rw [List.length_map, List.length_map, List.length_take] at this
        omega
      refine ⟨ps.map V.ref, hD3, by rw [List.length_map]; exact small1000 (by omega), (hF2.same se).put nDa nDc, ((bG.trans bb).trans (But.of se)).updN nD, ?_, ps ++ [e], kvs ++ [(.inr (SX.S x), .ref pf)], ?_, ?_, ?_, ?_⟩
      · rw [upd_ne npD]
        exact se _ _ (bb _ _ npa hpG)
      · rw [upd_same, List.map_append]
        rfl
      · have t2 := (tt.trans (TT.of se)).trans (TT.upd (zs := ps.map V.ref ++ [.ref e]) hD3)
        refine paired_snoc (paired_mono (fun a b h => t2 _ _ h) hpk) ?_
        exact TT.upd (zs := ps.map V.ref ++ [.ref e]) hD3 _ _ upd_same
      · rw [List.map_append, hkeys, List.take_add_one, hxz, List.map_append]
        rfl
      · intro kv hkv
        have t2 := (tt.trans (TT.of se)).trans (TT.upd (zs := ps.map V.ref ++ [.ref e]) hD3)
        rcases List.mem_append.mp hkv with h | h
        · obtain ⟨q, f, e1, e2, e3⟩ := hvals kv h
          exact ⟨q, f, e1, t2 _ _ e2, e3⟩
        · rw [List.mem_singleton.mp h]
          exact ⟨pf, f, rfl, TT.upd (zs := ps.map V.ref ++ [.ref e]) hD3 _ _ (se _ _ hpf), hf⟩
    · obtain ⟨hG, bG, hpG, ps, kvs, hD, hpk, hkeys, hvals⟩ := hq
      rw [List.length_map, List.take_length] at hkeys
      refine ⟨D, ps, kvs, rfl, SqL.of hD, paired_mono (fun a b h => SqT.of h) hpk, fun d nd => ?_⟩
      have nk : (kvs.map (·.1)).Nodup := by
        rw [hkeys]
        rw [List.Nodup, List.pairwise_map]
        exact List.Pairwise.imp (fun h z => h (S_inj (Sum.inr.inj z))) hnd
      rw [merge_nodup kvs [] nk]
      have sd := same_upd (o := .dK kvs) nd
      have pick : ∀ x, ∃ f : FR, x ∈ ws → Bf 10 f ∧ ∃ q, valV kvs (.inr (SX.S x)) = some (.ref q) ∧ G q = some (.tup [.int f.1, .int f.2]) := fun x => by
        by_cases hx : x ∈ ws
        · have : (.inr (SX.S x) : Key) ∈ kvs.map (·.1) := by
            rw [hkeys]
            exact List.mem_map_of_mem (f := fun x => (.inr (SX.S x) : Key)) hx
          obtain ⟨kv, hkv, ek⟩ := List.mem_map.mp this
          obtain ⟨q, f, e1, e2, e3⟩ := hvals kv hkv
          refine ⟨f, fun _ => ⟨e3, q, ?_, e2⟩⟩
          rw [← ek, val_nodup nk kv hkv, e1]
        · exact ⟨(0, 1), fun h => absurd h hx⟩
      obtain ⟨val, hval⟩ := Classical.axiomOfChoice pick
      refine q d val _ (hG.same sd) (bG.trans (But.of sd)) ⟨kvs, upd_same, fun e he => ⟨val_nodup nk e he, ?_⟩, fun x hx => ?_⟩ ⟨kvs, upd_same, hkeys⟩
      · obtain ⟨q, f, e1, _, _⟩ := hvals e he
        exact .inr ⟨q, e1⟩
      · obtain ⟨h1, q, h2, h3⟩ := hval x hx
        exact ⟨h1, q, h2, sd _ _ h3⟩
end
/-! ### sameness of data that stands twice -/
def wideD : Nat → PyData → Prop
  | n + 1, .tuple ds => ds.length ≤ 1000 ∧ ∀ d ∈ ds, wideD n d
  | n + 1, .list ds => ds.length ≤ 1000 ∧ ∀ d ∈ ds, wideD n d
  | 0, .tuple _ => False
  | 0, .list _ => False
  | _, .dict _ => False
  | _, .none => True
  | _, .bool _ => True
  | _, .int _ => True
  | _, .str _ => True
theorem DtAll.atV {z : Addr} {H : Hp} : ∀ {vs : List V} {ds : List PyData} (_ : DtAll z H vs ds) {i : Nat} {v : V}, vs[i]? = some v → ∃ d, ds[i]? = some d ∧ Dt z H v d
  | _, _, .cons h1 h2, 0, v, e => by
    cases e
    exact ⟨_, rfl, h1⟩
  | _, _, .cons h1 h2, i + 1, v, e => DtAll.atV h2 (i := i) e
theorem eqd_dt {H : Hp} {z z' : Addr} : ∀ (n : Nat) (d : PyData) (v w : V), wideD n d → Dt z H v d → Dt z' H w d → Eqd H n v w
  | n, .none, v, w, _, h1, h2 => by
    cases h1
    cases h2
    exact .leaf ⟨rfl, .inl rfl⟩
  | n, .bool b, v, w, _, h1, h2 => by
    cases h1
    cases h2
    exact .leaf ⟨rfl, .inr (.inl ⟨_, rfl⟩)⟩
  | n, .int i, v, w, _, h1, h2 => by
    cases h1
    cases h2
    exact .leaf ⟨rfl, .inr (.inr (.inl ⟨_, rfl⟩))⟩
  | n, .str x, v, w, _, h1, h2 => by
    cases h1
    cases h2
    exact .leaf ⟨rfl, .inr (.inr (.inr ⟨_, rfl⟩))⟩
  | n + 1, .tuple ds, v, w, ⟨l, q⟩, h1, h2 => by
    cases h1 with
    | tup g1 a1 =>
      cases h2 with
      | tup g2 a2 =>
        refine .inr ⟨_, _, _, _, rfl, rfl, .inr ⟨g1, g2⟩, a1.len.trans a2.len.symm, by rw [a1.len]; exact l, fun i x y e1 e2 => ?_⟩
        obtain ⟨d, hd, p1⟩ := DtAll.atV a1 e1
        obtain ⟨d', hd', p2⟩ := DtAll.atV a2 e2
        rw [hd] at hd'
        cases hd'
        exact eqd_dt n d x y (q d (List.mem_of_getElem? hd)) p1 p2
  | n + 1, .list ds, v, w, ⟨l, q⟩, h1, h2 => by
    cases h1 with
    | lst g1 _ a1 =>
      cases h2 with
      | lst g2 _ a2 =>
        refine .inr ⟨_, _, _, _, rfl, rfl, .inl ⟨g1, g2⟩, a1.len.trans a2.len.symm, by rw [a1.len]; exact l, fun i x y e1 e2 => ?_⟩
        obtain ⟨d, hd, p1⟩ := DtAll.atV a1 e1
        obtain ⟨d', hd', p2⟩ := DtAll.atV a2 e2
        rw [hd] at hd'
        cases hd'
        exact eqd_dt n d x y (q d (List.mem_of_getElem? hd)) p1 p2
theorem wide_fr (n : Nat) (f : FR) : wideD (n + 1) (frP f) := ⟨by show 2 ≤ 1000; decide, fun d hd => by
  rcases List.mem_cons.mp hd with rfl | hd
  · cases n <;> trivial
  · rw [List.mem_singleton.mp hd]
    cases n <;> trivial⟩
theorem wide_tie {tl : List It} {b : FR} (h : tl.length ≤ 2) : wideD 4 (tieP tl b) := by
  refine ⟨by show 2 ≤ 1000; decide, fun d hd => ?_⟩
  rcases List.mem_cons.mp hd with rfl | hd
  · refine ⟨by rw [List.length_map]; omega, fun d hd => ?_⟩
    obtain ⟨u, _, rfl⟩ := List.mem_map.mp hd
    refine ⟨by show 2 ≤ 1000; decide, fun d hd => ?_⟩
    rcases List.mem_cons.mp hd with rfl | hd
    · trivial
    · rw [List.mem_singleton.mp hd]
      exact wide_fr 0 _
  · rw [List.mem_singleton.mp hd]
    exact wide_fr 2 _
/-- two lists of the same data -/
theorem eqd_lists {H : Hp} {z z' a b : Addr} {us vs : List V} {ds : List PyData} (ha : H a = some (.lst us)) (hb : H b = some (.lst vs)) (h1 : DtAll z H us ds) (h2 : DtAll z' H vs ds) (l : ds.length ≤ 1000) (hw : ∀ d ∈ ds, wideD 4 d) : Eqd H 5 (.ref a) (.ref b) := by
  refine .inr ⟨a, b, us, vs, rfl, rfl, .inl ⟨ha, hb⟩, h1.len.trans h2.len.symm, by rw [h1.len]; exact l, fun i x y e1 e2 => ?_⟩
  obtain ⟨d, hd, p1⟩ := DtAll.atV h1 e1
  obtain ⟨d', hd', p2⟩ := DtAll.atV h2 e2
  rw [hd] at hd'
  cases hd'
  exact eqd_dt 4 d x y (hw d (List.mem_of_getElem? hd)) p1 p2
/-! ### what the law holds -/
theorem ix_listK {X : Cx} {K : PySem.W.Frag} (h : X.K = K) : IxR X (rIxL K) := h ▸ ix_list
theorem sqT_nl {K : PySem.W.Frag} {H H' : Hp} {p : Addr} {xs : List V} (h : SqT K H p xs) (s : NL H H') : SqT K H' p xs := by
  rcases h with (e | ⟨o, e⟩) | e
  · exact .inl (.inl (s _ _ e (fun ys z => by cases z)))
  · exact .inl (.inr ⟨o, s _ _ e (fun ys z => by cases z)⟩)
  · exact .inr e
theorem LotH.nl {K : PySem.W.Frag} {C x : Addr} {H H' : Hp} {ns : List Str} {us : List V} (h : LotH K C H x ns us) (s : NL H H') : LotH K C H' x ns us := by
  obtain ⟨dx, p1, p2, ms, h1, h2, h3, h4, h5⟩ := h.at_
  exact ⟨dx, p1, p2, ms, s _ _ h1 (fun ys z => by cases z), sqT_nl h2 s, h3, h4, sqT_nl h5 s⟩
theorem LotH.perm {K : PySem.W.Frag} {C x : Addr} {H : Hp} {ns ns' : List Str} {us : List V} (h : LotH K C H x ns us) (p : ns.Perm ns') : LotH K C H x ns' us := by
  obtain ⟨dx, p1, p2, ms, h1, h2, h3, h4, h5⟩ := h.at_
  exact ⟨dx, p1, p2, ms, h1, h2, h3.trans p, h4, h5⟩
theorem tieU_nl {z z' : Addr} {H H' : Hp} (s : NL H H') : ∀ {us : List V} {ties : List Tie}, Paired (TieU z H) us ties → Paired (TieU z' H') us ties
  | _, _, .nil => .nil
  | _, _, .cons h t => .cons (h.nl s) (tieU_nl s t)
/-- a list that is not the feed's -/
def Ls (a : Addr) (H : Hp) (p : Addr) (xs : List V) : Prop := p ≠ a ∧ H p = some (.lst xs)
theorem Ls.but {a p : Addr} {H H' : Hp} {xs : List V} (h : Ls a H p xs) (b : But a H H') : Ls a H' p xs := ⟨h.1, b _ _ h.1 h.2⟩
/-- the drawn names and ties -/
structure WP (ws : List Nm) (ties : List Tie) : Prop where
  ln : ws.length ≤ 4
  nd : ws.Nodup
  nm : ∀ x ∈ ws, NameL x
  tg : ∀ t ∈ ties, TieG ws t
  tl : ties.length ≤ 6
abbrev nmS (ws : List Nm) : List Str := ws.map SX.S
structure WB (a c pw pb : Addr) (ws : List Nm) (us : List V) (ties : List Tie) (G : Hp) : Prop where
  f : FeedOk G a c
  w : Ls a G pw (ws.map vS)
  b : Ls a G pb us
  t : Paired (TieU a G) us ties
theorem WB.same {a c pw pb : Addr} {ws : List Nm} {us : List V} {ties : List Tie} {G G' : Hp} (h : WB a c pw pb ws us ties G) (s : Same G G') : WB a c pw pb ws us ties G' := ⟨h.f.same s, ⟨h.w.1, s _ _ h.w.2⟩, ⟨h.b.1, s _ _ h.b.2⟩, tieU_nl (NL.of s) h.t⟩
theorem WB.but {a c pw pb : Addr} {ws : List Nm} {us : List V} {ties : List Tie} {G G' : Hp} (h : WB a c pw pb ws us ties G) (f : FeedOk G' a c) (b : But a G G') : WB a c pw pb ws us ties G' := ⟨f, h.w.but b, h.b.but b, tieU_nl (NL.but h.f b) h.t⟩
theorem WB.put {a c pw pb D : Addr} {ws : List Nm} {us ys zs : List V} {ties : List Tie} {G : Hp} (h : WB a c pw pb ws us ties G) (hD : G D = some (.lst ys)) (n1 : D ≠ a) (n2 : D ≠ c) (n3 : D ≠ pw) (n4 : D ≠ pb) : WB a c pw pb ws us ties (upd G D (.lst zs)) :=
  ⟨h.f.put n1 n2, ⟨h.w.1, (upd_ne n3.symm).trans h.w.2⟩, ⟨h.b.1, (upd_ne n4.symm).trans h.b.2⟩, tieU_nl (NL.upd hD) h.t⟩
theorem nmS_nd {ws : List Nm} (h : ws.Nodup) : (nmS ws).Nodup := by
  rw [List.Nodup, List.pairwise_map]
  exact List.Pairwise.imp (fun h z => h (S_inj z)) h
theorem nx_str {x : List Nat} (h : NX x) : nameB (SX.S x).cps.toList = true ∧ (SX.S x).length ≤ 1000 ∧ PyData.strOk (SX.S x) = true := by
  refine ⟨?_, ?_, h.1⟩
  · rw [S_list]
    exact h.2.1
  · rw [SX.S_len]
    have := h.2.2
    omega
theorem nmS_ok {ws : List Nm} (h : ∀ x ∈ ws, NameL x) : ∀ y ∈ nmS ws, nameB y.cps.toList = true ∧ y.length ≤ 1000 ∧ PyData.strOk y = true := fun y hy => by
  obtain ⟨x, hx, rfl⟩ := List.mem_map.mp hy
  exact nx_str (nameL_nx (h x hx))
theorem goodT_mono {ns ns' : List Str} {d : PyData} (h : goodT ns d = true) (s : ∀ x ∈ ns, x ∈ ns') : goodT ns' d = true := by
  unfold goodT at h ⊢
  rw [Bool.and_eq_true] at h ⊢
  refine ⟨h.1, List.all_eq_true.mpr fun x hx => decide_eq_true (s x (of_decide_eq_true (List.all_eq_true.mp h.2 x hx)))⟩
theorem lotA_mk {K : PySem.W.Frag} {G : Hp} {z L T : Addr} {ws : List Nm} {ns : List Str} {us : List V} {ties : List Tie} (hp : WP ws ties) (hL : SqB K G L (ns.map V.str)) (hT : SqB K G T us) (ht : Paired (TieU z G) us ties) (hn : ∀ y ∈ ns, nameB y.cps.toList = true ∧ y.length ≤ 1000) (nd : ns.Nodup) (sz : ns.length < 64)
    (sub : ∀ x ∈ nmS ws, x ∈ ns) : LotA K G L T ns us where
  ln := hL
  lt := hT
  ds := ⟨z, _, ties_dt ht, fbt_none _ _ 0 fun d hd => by
    obtain ⟨t, ht2, rfl⟩ := List.mem_map.mp hd
    exact goodT_mono (good_drawn (hp.tg t ht2)) sub⟩
  us := by
    have := Paired.length ht
    have := hp.tl
    omega
  fb := fb_none ns 0 [] (fun y hy => (hn y hy).1) (by rw [List.nil_append]; exact nd)
  nd := nd
  sz := sz
  lx := fun y hy => (hn y hy).2
theorem ten_ok : ∀ y ∈ tenNs, nameB y.cps.toList = true ∧ y.length ≤ 1000 ∧ PyData.strOk y = true := by
  have h : (tenNs.all fun y => nameB y.cps.toList && (decide (y.length ≤ 1000) && PyData.strOk y)) = true := by decide +kernel
  intro y hy
  have := List.all_eq_true.mp h y hy
  simpa only [Bool.and_eq_true, decide_eq_true_eq] using this
theorem lay_tms : ∀ tl : List It, (∀ u ∈ tl, PyData.strOk (SX.S u.1) = true) → PyData.canLayAll0 (tl.map tmP) = true ∧ PyData.depthAll (tl.map tmP) ≤ 2
  | [], _ => ⟨rfl, Nat.zero_le _⟩
  | u :: tl, h => by
    obtain ⟨h1, h2⟩ := lay_tms tl fun v hv => h v (List.mem_cons_of_mem _ hv)
    have hu := h u List.mem_cons_self
    constructor
    · show ((PyData.strOk (SX.S u.1) && ((frP u.2).canLay0 && true)) && PyData.canLayAll0 (tl.map tmP)) = true
      rw [hu, h1]
      rfl
    · rw [List.map_cons, PyData.depthAll.eq_2]
      have : (tmP u).depth = 2 := rfl
      omega
theorem lay_tie {tl : List It} {b : FR} (h : ∀ u ∈ tl, PyData.strOk (SX.S u.1) = true) : layD (tieP tl b) = true := by
  obtain ⟨h1, h2⟩ := lay_tms tl h
  have e1 : (PyData.tuple (tl.map tmP)).canLay0 = true := by
    rw [PyData.canLay0.eq_6]
    exact h1
  have e2 : (PyData.tuple (tl.map tmP)).depth ≤ 3 := by
    rw [PyData.depth.eq_2]
    omega
  show ((((PyData.tuple (tl.map tmP)).canLay0 && ((frP b).canLay0 && true))) && decide ((tieP tl b).depth ≤ 4)) = true
  rw [e1]
  have e3 : (tieP tl b).depth ≤ 4 := by
    show (PyData.tuple [PyData.tuple (tl.map tmP), frP b]).depth ≤ 4
    rw [PyData.depth.eq_2, PyData.depthAll.eq_2, PyData.depthAll.eq_2, PyData.depthAll.eq_1]
    have : (frP b).depth = 1 := rfl
    omega
  rw [decide_eq_true e3]
  rfl
theorem Eqd.up {H : Hp} : ∀ {n : Nat} {v w : V}, Eqd H n v w → Eqd H (n + 1) v w
  | 0, _, _, h => .leaf h
  | n + 1, _, _, h => by
    rcases h with h | ⟨a, b, xs, ys, e1, e2, h, l1, l2, r⟩
    · exact .inl h
    · exact .inr ⟨a, b, xs, ys, e1, e2, h, l1, l2, fun i x y h1 h2 => Eqd.up (r i x y h1 h2)⟩
theorem eqd_strs {H : Hp} {n : Nat} {a b : Addr} {l : List Str} (ha : H a = some (.lst (l.map V.str))) (hb : H b = some (.lst (l.map V.str))) (h : l.length ≤ 1000) : Eqd H (n + 1) (.ref a) (.ref b) := by
  refine .inr ⟨a, b, _, _, rfl, rfl, .inl ⟨ha, hb⟩, rfl, by rw [List.length_map]; exact h, fun i y z h1 h2 => ?_⟩
  have e : y = z := Option.some.inj (h1.symm.trans h2)
  subst e
  rw [List.getElem?_map] at h1
  obtain ⟨o, ho, rfl⟩ := Option.map_eq_some_iff.mp h1
  exact Eqd.leaf ⟨rfl, .inr (.inr (.inr ⟨_, rfl⟩))⟩
theorem dash_mul (b : Bool) : MulOk (Str.ofString "'") (if b = true then 1 else 0) ∧ ∃ m, Txt.mul (Str.ofString "'") (if b = true then 1 else 0) = SX.S m ∧ (m = [] ∨ m = [39]) := by
  cases b with
  | false => exact ⟨by unfold MulOk; decide +kernel, [], by decide +kernel, .inl rfl⟩
  | true => exact ⟨by unfold MulOk; decide +kernel, [39], by decide +kernel, .inr rfl⟩
theorem prd_at {α β : Type} {R : α → β → Prop} : ∀ {xs : List α} {ys : List β} {i : Nat} {x : α}, Paired R xs ys → xs[i]? = some x → ∃ y, ys[i]? = some y ∧ R x y
  | _, _, 0, _, .cons (b := b) h _, e => by
    cases e
    exact ⟨b, rfl, h⟩
  | _, _, i + 1, _, .cons _ t, e => prd_at (i := i) t e
theorem dash_nm : ∀ {qs ws : List Nm}, Paired (fun q x => q = x ∨ q = x ++ [39]) qs ws → (∀ x ∈ ws, LW x) → ∀ q ∈ qs, NameL q
  | _, _, .nil, _, q, h => by cases h
  | _, _, .cons (b := x) h t, hw, q, hq => by
    rcases List.mem_cons.mp hq with rfl | hq
    · exact ⟨x, hw x List.mem_cons_self, h⟩
    · exact dash_nm t (fun y hy => hw y (List.mem_cons_of_mem _ hy)) q hq
theorem low39 {x : Nm} (h : LW x) : (39 : Nat) ∉ x := fun z => by
  have := List.all_eq_true.mp h.2.2 _ z
  exact absurd this (by decide)
theorem dash_stem {q q' x x' : Nm} (h : q = x ∨ q = x ++ [39]) (h' : q' = x' ∨ q' = x' ++ [39]) (hx : LW x) (hx' : LW x') (e : q = q') : x = x' := by
  rcases h with rfl | rfl <;> rcases h' with rfl | rfl
  · exact e
  · exact absurd (by rw [e]; simp) (low39 hx)
  · exact absurd (by rw [← e]; simp) (low39 hx')
  · exact List.append_cancel_right e
theorem dash_nd : ∀ {qs ws : List Nm}, Paired (fun q x => q = x ∨ q = x ++ [39]) qs ws → ws.Nodup → (∀ x ∈ ws, LW x) → qs.Nodup
  | _, _, .nil, _, _ => .nil
  | q :: qs, x :: ws, .cons h t, hn, hw => by
    rw [List.nodup_cons] at hn ⊢
    refine ⟨fun hq => ?_, dash_nd t hn.2 fun y hy => hw y (List.mem_cons_of_mem _ hy)⟩
    obtain ⟨i, hi⟩ := List.mem_iff_getElem?.mp hq
    obtain ⟨x', hx', r⟩ : ∃ x', ws[i]? = some x' ∧ (q = x' ∨ q = x' ++ [39]) := by
      obtain ⟨x', e1, e2⟩ := prd_at t hi
      exact ⟨x', e1, e2⟩
    have m := List.mem_of_getElem? hx'
    have := dash_stem h r (hw x List.mem_cons_self) (hw x' (List.mem_cons_of_mem _ m)) rfl
    rw [this] at hn
    exact hn.1 m
/-- a list that is none of the turn's -/
def Nw (a c pw pb D : Addr) : Prop := D ≠ a ∧ D ≠ c ∧ D ≠ pw ∧ D ≠ pb
theorem WB.nw {a c pw pb D : Addr} {ws : List Nm} {us : List V} {ties : List Tie} {G : Hp} (h : WB a c pw pb ws us ties G) (n : G D = none) : Nw a c pw pb D := ⟨new_ne h.f n, new_nc h.f n, (ne_of_none h.w.2 n).symm, (ne_of_none h.b.2 n).symm⟩
theorem WB.pu {a c pw pb D : Addr} {ws : List Nm} {us ys zs : List V} {ties : List Tie} {G : Hp} (h : WB a c pw pb ws us ties G) (hD : G D = some (.lst ys)) (n : Nw a c pw pb D) : WB a c pw pb ws us ties (upd G D (.lst zs)) := h.put hD n.1 n.2.1 n.2.2.1 n.2.2.2
theorem vS_map (ws : List Nm) : ws.map vS = (nmS ws).map V.str := names_vs ws
theorem perm_ok {ws : List Nm} {ns : List Str} (p : ns.Perm (nmS ws)) (h : ∀ x ∈ ws, NameL x) : ∀ y ∈ ns, nameB y.cps.toList = true ∧ y.length ≤ 1000 := fun y hy => by
  have := nmS_ok h y (p.mem_iff.mp hy)
  exact ⟨this.1, this.2.1⟩
theorem WP.lot {K : PySem.W.Frag} {G : Hp} {z L T : Addr} {ws : List Nm} {ns : List Str} {us : List V} {ties : List Tie} (hp : WP ws ties) (hL : SqB K G L (ns.map V.str)) (hT : SqB K G T us) (ht : Paired (TieU z G) us ties) (p : ns.Perm (nmS ws)) : LotA K G L T ns us :=
  lotA_mk hp hL hT ht (perm_ok p hp.nm) (p.nodup_iff.mpr (nmS_nd hp.nd)) (by
    have := p.length_eq
    rw [List.length_map] at this
    have := hp.ln
    omega) fun x hx => p.mem_iff.mpr hx
theorem eqd_row {H : Hp} {n : Nat} {a b : Addr} {xs ys : List V} (ha : H a = some (.lst xs)) (hb : H b = some (.lst ys)) (l : xs.length ≤ 1000) (h : Paired (Eqd H n) xs ys) : Eqd H (n + 1) (.ref a) (.ref b) :=
  .inr ⟨a, b, xs, ys, rfl, rfl, .inl ⟨ha, hb⟩, Paired.length h, l, fun i x y h1 h2 => by
    obtain ⟨y', e, r⟩ := prd_at h h1
    rw [h2] at e
    cases e
    exact r⟩
theorem eqd_s {H : Hp} {n : Nat} (x : Str) : Eqd H n (.str x) (.str x) := Eqd.leaf ⟨rfl, .inr (.inr (.inr ⟨_, rfl⟩))⟩
theorem eqd_i {H : Hp} {n : Nat} (x : Int) : Eqd H n (.int x) (.int x) := Eqd.leaf ⟨rfl, .inr (.inr (.inl ⟨_, rfl⟩))⟩
theorem eqd_b {H : Hp} {n : Nat} (x : Bool) : Eqd H n (.bl x) (.bl x) := Eqd.leaf ⟨rfl, .inr (.inl ⟨_, rfl⟩)⟩
theorem shown_eq (n m : Nat) : lotShown n m = (((Str.ofString "Lot(" ++ numS n) ++ Str.ofString " names, ") ++ numS m) ++ Str.ofString " ties)" := by
  unfold lotShown
  rw [show Str.empty ++ Str.ofString "Lot(" = Str.ofString "Lot(" by decide +kernel]
theorem num_len {n : Nat} (hn : n ≤ 900) : (numS n).length ≤ 3 := by
  have e : numS n = SX.S (TL.numL n) := SX.num_S n
  rw [e, SX.S_len]
  exact TL.numL_len (k := 3) (by decide) (Nat.lt_of_le_of_lt hn (by decide))
theorem ties_wide {ws : List Nm} {ties : List Tie} (h : ∀ t ∈ ties, TieG ws t) : ∀ d ∈ ties.map (fun t => tieP t.1 t.2), wideD 4 d := fun d hd => by
  obtain ⟨t, ht, rfl⟩ := List.mem_map.mp hd
  exact wide_tie (by have := (h t ht).ln; omega)
theorem tie_bd {t : Tie} {x : List Nat} (h : TieX t x) : TlOk t.1 ∧ BdF t.2 := by
  obtain ⟨u, r, B, _, h1, h2, _⟩ := h
  exact ⟨h1, h2⟩
/-! ### the texts that are read -/
theorem txG_of6 {t : List Nat} {ts : List (List Nat)} (hn : ∀ u ∈ t :: ts, N59 u) (hl : ∀ u ∈ t :: ts, u.length ≤ 140 ∧ cT u 0 ≤ 20) (h6 : ts.length ≤ 6) (nz : t ≠ []) : TxG (SX.S (TL.joinL [59, 32] (t :: ts))) (t :: ts) := by
  refine ⟨fun z => ?_, ?_, split_semi hn, by rw [List.length_cons]; omega, hl⟩
  · have e : TL.joinL [59, 32] (t :: ts) = [] := by
      have := congrArg (fun x : Str => x.cps.toList) z
      have e2 : (SX.S (TL.joinL [59, 32] (t :: ts))).cps.toList = TL.joinL [59, 32] (t :: ts) := S_list _
      rw [← e2]
      exact this
    cases ts with
    | nil => exact nz e
    | cons t2 r =>
      rw [joinL_cons] at e
      exact nz (List.append_eq_nil_iff.mp e).1
  · have := joinL_len [59, 32] 140 ts t fun u hu => (hl u hu).1
    rw [SX.S_len]
    have l2 : ([59, 32] : List Nat).length = 2 := rfl
    rw [l2] at this
    have h7 : (ts.length + 1) * (140 + 2) ≤ 7 * 142 := Nat.mul_le_mul (by omega) (Nat.le_refl _)
    omega
/-- good parts: what reading asks of them -/
structure PtG (x : List Nat) : Prop where
  n : N59 x
  l : x.length ≤ 140 ∧ cT x 0 ≤ 20
  g : PartG x
  e : x ≠ []
theorem TieX.pt {t : Tie} {x : List Nat} (h : TieX t x) : PtG x := ⟨h.tx.1, h.tx.2.1, h.part, h.tx.2.2⟩
theorem all_pt : ∀ {ties : List Tie} {xs : List (List Nat)}, Paired TieX ties xs → ∀ x ∈ xs, PtG x
  | _, _, .nil, x, h => by cases h
  | _, _, .cons h t, x, hx => by
    rcases List.mem_cons.mp hx with rfl | hx
    · exact h.pt
    · exact all_pt t x hx
theorem nilS : (Str.ofString "" : Str) = SX.S [] := by decide +kernel
/-- a text of good parts, none to seven -/
theorem txt_ok {xs : List (List Nat)} (h : ∀ x ∈ xs, PtG x) (l : xs.length ≤ 7) : (SX.S (TL.joinL [59, 32] xs)).length ≤ 998 ∧
    ((SX.S (TL.joinL [59, 32] xs) = Str.ofString "" ∧ xs = []) ∨ (SX.S (TL.joinL [59, 32] xs) ≠ Str.ofString "" ∧ Txt.split (SX.S (TL.joinL [59, 32] xs)) (Str.ofString "; ") = xs.map SX.S)) := by
  cases xs with
  | nil => exact ⟨by rw [SX.S_len]; exact Nat.zero_le _, .inl ⟨nilS.symm, rfl⟩⟩
  | cons t ts =>
    have g := txG_of6 (fun u hu => (h u hu).n) (fun u hu => (h u hu).l) (by rw [List.length_cons] at l; omega) (h t List.mem_cons_self).e
    exact ⟨g.ln, .inr ⟨g.ne, g.sp⟩⟩
/-- the data of a reduced tie -/
def redD (t : Tie) : PyData := redP t.1 t.2
theorem TieX.red {t : Tie} {x : List Nat} (h : TieX t x) {ds : List PyData} (k : PartR x ds) : ds = [redD t] := by
  obtain ⟨u, r, B, hR, _, _, e1, e2, rfl⟩ := h
  rw [hR.partR k]
  show _ = [tieP (redL t.1) (redF (scl (rts t.1)) t.2)]
  rw [e1, e2]
theorem parts_red : ∀ {ties : List Tie} {xs : List (List Nat)} {dss : List (List PyData)}, Paired TieX ties xs → Paired PartR xs dss → dss.flatten = ties.map redD
  | _, _, _, .nil, .nil => rfl
  | _, _, _, .cons h t, .cons k s => by
    rw [List.flatten_cons, parts_red t s, h.red k]
    rfl
theorem name_d {x : List Nat} (h : NameL x) : nameD (.str (SX.S x)) = true := (nx_str (nameL_nx h)).1
theorem termD_one {v : Cf} (hn : NameL v.1) (h0 : v.2 ≠ 0) : termD (tmP (v.1, ((v.2, 1) : FR))) = true := by
  show ((nameD (.str (SX.S v.1)) && (decide ((1 : Int) ≤ 1) && decide (Int.gcd v.2 1 = 1))) && decide (v.2 ≠ 0)) = true
  rw [name_d hn, decide_eq_true h0]
  simp
theorem rt_td {u : Cf} {r : List Cf} {B : FR} (h : RT u r B) : termsD (.tuple ((rateL (u :: r)).map tmP)) = true := by
  match r, h with
  | [], h => exact termD_one (h.nm u List.mem_cons_self) (h.nq u List.mem_cons_self)
  | [v], h =>
    show ((termD (tmP (u.1, ((u.2, 1) : FR))) && termD (tmP (v.1, ((v.2, 1) : FR)))) && decide ((SX.S u.1).cps.toList < (SX.S v.1).cps.toList)) = true
    rw [termD_one (h.nm u List.mem_cons_self) (h.nq u List.mem_cons_self), termD_one (h.nm v (List.mem_cons_of_mem _ List.mem_cons_self)) (h.nq v (List.mem_cons_of_mem _ List.mem_cons_self))]
    have s := h.srt
    have n := h.nd
    rw [List.map_cons, List.map_cons, List.map_nil, List.nodup_cons] at n
    have n1 : u.1 ≠ v.1 := fun e => n.1 (by rw [e]; exact List.mem_cons_self)
    have s1 : leStr (SX.S u.1) (SX.S v.1) := (List.pairwise_cons.mp s).1 _ List.mem_cons_self
    have s2 : ltCps (SX.S v.1).cps.toList (SX.S u.1).cps.toList = false := s1
    rw [S_list, S_list] at s2 ⊢
    have := lt_tri u.1 v.1 s2 n1
    rw [ltc, decide_eq_true_eq] at this
    rw [decide_eq_true this]
    rfl
  | _ :: _ :: _, h => have := h.len; simp at this
theorem goodT_of {ws : List Nm} {tl : List It} {B : FR} (td : termsD (.tuple (tl.map tmP)) = true) (nf : Nf B) (hw : ∀ y ∈ tl, y.1 ∈ ws) : goodT (nmS ws) (tieP tl B) = true := by
  show ((termsD (.tuple (tl.map tmP)) && ratD (frP B)) && ((tl.map tmP).map _).all _) = true
  rw [td, ratD_nf nf, Bool.true_and, Bool.true_and, List.map_map, List.all_map, List.all_eq_true]
  intro y hy
  exact decide_eq_true (List.mem_map.mpr ⟨y.1, hw y hy, rfl⟩)
theorem rt_good {ws : List Nm} {u : Cf} {r : List Cf} {B : FR} (h : RT u r B) (hw : ∀ v ∈ u :: r, v.1 ∈ ws) : goodT (nmS ws) (tieP (rateL (u :: r)) B) = true :=
  goodT_of (rt_td h) h.nf fun y hy => by
    unfold rateL at hy
    obtain ⟨v, hv, rfl⟩ := List.mem_map.mp hy
    exact hw v hv
theorem TieX.good {ws : List Nm} {t : Tie} {x : List Nat} (h : TieX t x) (g : TieG ws t) : goodT (nmS ws) (redD t) = true := by
  obtain ⟨u, r, B, hR, _, _, e1, e2, rfl⟩ := h
  show goodT (nmS ws) (tieP (redL t.1) (redF (scl (rts t.1)) t.2)) = true
  rw [e1, e2]
  refine rt_good hR fun v hv => ?_
  have e : (redL t.1).map (·.1) = t.1.map (·.1) := by
    unfold redL
    rw [List.map_map]
    rfl
  have m : v.1 ∈ (rateL (u :: r)).map (·.1) := by
    unfold rateL
    rw [List.map_map]
    exact List.mem_map.mpr ⟨v, hv, rfl⟩
  rw [← e1, e] at m
  obtain ⟨w, hw, ew⟩ := List.mem_map.mp m
  rw [← ew]
  exact (g.ws w hw).1
theorem red_good {ws : List Nm} {ties : List Tie} {xs : List (List Nat)} (hx : Paired TieX ties xs) (hg : ∀ t ∈ ties, TieG ws t) : ∀ d ∈ ties.map redD, goodT (nmS ws) d = true := fun d hd => by
  obtain ⟨t, ht, rfl⟩ := List.mem_map.mp hd
  obtain ⟨i, hi⟩ := List.mem_iff_getElem?.mp ht
  obtain ⟨x, _, r⟩ := prd_at hx hi
  exact r.good (hg t ht)
theorem noLs_red : ∀ ties : List Tie, noLs (ties.map redD) = true
  | [] => rfl
  | t :: ties => by
    show (noL (redP t.1 t.2) && noLs (ties.map redD)) = true
    rw [noL_redP, noLs_red ties]
    rfl
theorem all_snoc {z : Addr} {H : Hp} {us : List V} {ds : List PyData} {v : V} {d : PyData} (h : DtAll z H us ds) (k : Dt z H v d) : DtAll z H (us ++ [v]) (ds ++ [d]) := DtAll.app h (.cons k .nil)
theorem wide_red {t : Tie} (h : t.1.length ≤ 2) : wideD 4 (redD t) := wide_tie (by unfold redL; rw [List.length_map]; exact h)
theorem WP.lay {ws : List Nm} {ties : List Tie} (h : WP ws ties) : ∀ d ∈ ties.map (fun t => tieP t.1 t.2), layD d = true := fun d hd => by
  obtain ⟨t, ht, rfl⟩ := List.mem_map.mp hd
  exact lay_tie fun u hu => (nameL_nx (h.nm _ ((h.tg t ht).ws u hu).1)).1
theorem WP.layR {ws : List Nm} {ties : List Tie} (h : WP ws ties) : ∀ d ∈ ties.map redD, layD d = true := fun d hd => by
  obtain ⟨t, ht, rfl⟩ := List.mem_map.mp hd
  refine lay_tie fun u hu => ?_
  unfold redL at hu
  obtain ⟨v, hv, rfl⟩ := List.mem_map.mp hu
  exact (nameL_nx (h.nm _ ((h.tg t ht).ws v hv).1)).1
theorem WP.lotD {K : PySem.W.Frag} {C x z : Addr} {H : Hp} {ws : List Nm} {ns : List Str} {us : List V} {ties : List Tie} (h : WP ws ties) (hL : LotH K C H x ns us) (ht : Paired (TieU z H) us ties) (ok : ∀ y ∈ ns, PyData.strOk y = true) : LotD K C H x ns (ties.map fun t => tieP t.1 t.2) :=
  ⟨⟨us, hL, DtAll.dp _ _ (ties_dt ht)⟩, ok, h.lay⟩
theorem BdS.bn40 {f : FR} (h : BdS f) : Bn 40 f := ⟨Nat.lt_of_le_of_lt h.1 (by decide), Nat.lt_of_le_of_lt (m := 2520) (by have := h.2.2; have := h.2.1; omega) (by decide)⟩
theorem WP.kp {ws : List Nm} {ties : List Tie} {H : Hp} {z d : Addr} {v : V} {t : Tie} {val : List Nat → FR} (h : WP ws ties) (ht : t ∈ ties) (hv : TieU z H v t) (hp : PointD H d val ws) : KpA H v d z t val where
  tv := hv
  ln := by
    have := (h.tg t ht).ln
    omega
  rt := fun u hu => rr_nf _ ((h.tg t ht).ws u hu).2
  bb := (h.tg t ht).bs.bn40
  vd := hp.val fun y hy => by
    obtain ⟨u, hu, rfl⟩ := List.mem_map.mp hy
    exact ((h.tg t ht).ws u hu).1
/-! ### a name = 1 -/
theorem tok_eq1 (u : List Nat) : TokOk (.rel [61]) [61] u := by
  refine ⟨rfl, by simp, fun t k h hk => ?_⟩
  rw [symP_at hk, head_at h hk]
  rfl
theorem nosp_name {x u : List Nat} (h : NameL x) : NoSp (x ++ u) := by
  obtain ⟨y, hy, rfl | rfl⟩ := h
  · exact low_head hy
  · rw [List.append_assoc]
    exact low_head hy
def onePc : List Pc := [(.num ((1 : Int), (1 : Int)), txtL 1 1, 0)]
def eqPc (x : List Nat) : List Pc := (.name x, x, 1) :: (.rel [61], [61], 1) :: onePc
theorem txt11 : txtL 1 1 = [49] := by decide +kernel
theorem text_eqP (x : List Nat) : textP (eqPc x) = x ++ [32, 61, 32, 49] := by
  show x ++ ([32] ++ ([61] ++ ([32] ++ (txtL 1 1 ++ ([] ++ []))))) = _
  rw [txt11]
  simp
theorem good_one11 : GoodP onePc ∧ NoSp (textP onePc) := by
  have g := (good_end (b := (1, 1)) (by unfold Nf; decide) (by show (TL.numL 1).length ≤ 30; exact num_one) (by show (TL.numL 1).length ≤ 30; exact num_one)).1
  have e : endP (1, 1) = (.rel [60, 61], [60, 61], 1) :: onePc := rfl
  rw [e] at g
  cases g with
  | cons _ n g => exact ⟨g, n⟩
theorem parse_eqP {x : List Nat} (hx : NameL x) : parseP (symsOf (x ++ [32, 61, 32, 49])) = .ok ([(x, (1, 1))], [61], [([], (1, 1))]) := by
  have g : GoodP (eqPc x) := .cons (tok_name hx ⟨_, rfl⟩) (fun c r e => by rw [← (List.cons.inj e).1]; decide) (.cons (tok_eq1 _) good_one11.2 good_one11.1)
  have n : NoSp (textP (eqPc x)) := nosp_name hx
  rw [← text_eqP, syms_text g n]
  rfl
abbrev lE (x : List Nat) : List It := [(x, (1, 1))]
abbrev rE : List It := [([], (1, 1))]
theorem val_lE (x y : List Nat) : valL (lE x) y = if x = y then (1, 1) else (0, 1) := by
  show (if x = y then addL (0, 1) (1, 1) else (0, 1)) = _
  rw [show addL (0, 1) (1, 1) = (1, 1) by decide +kernel]
theorem keys_E {x : List Nat} (h : x ≠ []) : broN (keysL (lE x)) (keysL rE) = [[], x] := by
  have e1 : keysL (lE x) = [[], x] := by
    show addN [[]] x = _
    unfold addN
    rw [if_neg (by rw [List.mem_singleton]; exact h)]
    rfl
  rw [e1]
  show [[]].foldl addN [[], x] = _
  rw [List.foldl_cons, List.foldl_nil]
  unfold addN
  rw [if_pos List.mem_cons_self]
theorem d_x {x : List Nat} (h : x ≠ []) : diff (valL (lE x)) (valL rE) x = (1, 1) ∧ diff (valL rE) (valL (lE x)) x = (-1, 1) ∧ diff (valL (lE x)) (valL rE) [] = (-1, 1) ∧ diff (valL rE) (valL (lE x)) [] = (1, 1) := by
  unfold diff
  have h' : ([] : List Nat) ≠ x := fun z => h z.symm
  rw [val_lE, val_lE, val_lE, val_lE, if_pos rfl, if_neg h, if_neg h', if_pos rfl]
  exact ⟨by decide +kernel, by decide +kernel, by decide +kernel, by decide +kernel⟩
theorem names_E {x : List Nat} (h : x ≠ []) : namesLR (lE x) rE = [x] := by
  unfold namesLR
  rw [keys_E h]
  obtain ⟨a, _, _, _⟩ := d_x h
  have e0 : nz (diff (valL (lE x)) (valL rE)) [] = false := rfl
  have e1 : nz (diff (valL (lE x)) (valL rE)) x = true := by
    unfold nz
    rw [a, decide_eq_true h]
    rfl
  rw [List.filter_cons, List.filter_cons, e0, e1]
  rfl
theorem eq_partG {x : List Nat} (hx : NameL x) : PartG (x ++ [32, 61, 32, 49]) := ⟨_, _, _, parse_eqP hx, .inl (by rw [names_E hx.ne]; rfl)⟩
/-- what stands for x = 1 -/
def bothD (x : List Nat) : List PyData := [tieP [(x, (1, 1))] (1, 1), tieP [(x, (-1, 1))] (-1, 1)]
theorem eq_partR {x : List Nat} (hx : NameL x) {ds : List PyData} (k : PartR (x ++ [32, 61, 32, 49]) ds) : ds = bothD x := by
  obtain ⟨l, g, r, ns, p, hN, rfl⟩ := k
  rw [parse_eqP hx] at p
  cases p
  have hN' : Nms (broN (keysL (lE x)) (keysL rE)) (diff (valL (lE x)) (valL rE)) [x] := ⟨by
    have := names_E hx.ne
    unfold namesLR at this
    rw [this], List.pairwise_singleton _ _⟩
  rw [nms_unique hN hN']
  obtain ⟨a, b, c, d⟩ := d_x hx.ne
  show [oneP (lE x) rE [x], oneP rE (lE x) [x]] = _
  unfold oneP
  have t1 : tlOf (diff (valL (lE x)) (valL rE)) [x] = [(x, (1, 1))] := by
    show [(x, diff (valL (lE x)) (valL rE) x)] = _
    rw [a]
  have t2 : tlOf (diff (valL rE) (valL (lE x))) [x] = [(x, (-1, 1))] := by
    show [(x, diff (valL rE) (valL (lE x)) x)] = _
    rw [b]
  rw [t1, t2, c, d]
  show [tieP [(x, redF (scl [((1 : Int), (1 : Int))]) (1, 1))] (redF (scl [((1 : Int), (1 : Int))]) (negF (-1, 1))), tieP [(x, redF (scl [((-1 : Int), (1 : Int))]) (-1, 1))] (redF (scl [((-1 : Int), (1 : Int))]) (negF (1, 1)))] = _
  rw [show redF (scl [((1 : Int), (1 : Int))]) (1, 1) = (1, 1) by decide +kernel, show redF (scl [((1 : Int), (1 : Int))]) (negF (-1, 1)) = (1, 1) by decide +kernel, show redF (scl [((-1 : Int), (1 : Int))]) (-1, 1) = (-1, 1) by decide +kernel, show redF (scl [((-1 : Int), (1 : Int))]) (negF (1, 1)) = (-1, 1) by decide +kernel]
  rfl
theorem cT_name {x : List Nat} (h : NameL x) : cT x 0 = 0 := by
  obtain ⟨y, hy, rfl | rfl⟩ := h
  · exact (cT_low hy).2
  · rw [cT_app, (cT_low hy).2]
    decide
theorem eq_pt {x : List Nat} (h : NameL x) : PtG (x ++ [32, 61, 32, 49]) := by
  refine ⟨(N59.name h).app (by unfold N59; decide), ⟨?_, ?_⟩, eq_partG h, by simp⟩
  · rw [List.length_append]
    have := nameL_len h
    show _ + 4 ≤ 140
    omega
  · rw [cT_app, cT_name h]
    decide
theorem both_good {ws : List Nm} {x : List Nat} (h : NameL x) (hx : x ∈ ws) : ∀ d ∈ bothD x, goodT (nmS ws) d = true := fun d hd => by
  have td : ∀ f : FR, f = (1, 1) ∨ f = (-1, 1) → termsD (.tuple ([(x, f)].map tmP)) = true := fun f hf => by
    rcases hf with rfl | rfl
    · exact termD_one (v := (x, 1)) h (by show (1 : Int) ≠ 0; decide)
    · exact termD_one (v := (x, -1)) h (by show (-1 : Int) ≠ 0; decide)
  rcases List.mem_cons.mp hd with rfl | hd
  · exact goodT_of (td _ (.inl rfl)) (by unfold Nf; decide) fun y hy => by rw [List.mem_singleton.mp hy]; exact hx
  · rw [List.mem_singleton.mp hd]
    exact goodT_of (td _ (.inr rfl)) (by unfold Nf; decide) fun y hy => by rw [List.mem_singleton.mp hy]; exact hx
theorem eq1S : (Str.ofString " = 1" : Str) = SX.S [32, 61, 32, 49] := by decide +kernel
section
variable {P : Program} {w : World} {K : PySem.W.Frag} {mg : Str → Option Value} {base : Heap} {fa : Nat → Addr} {fd : Nat → FuncData}
def spLaw (K : PySem.W.Frag) : Sp := fun vs H Q _ => ∃ (a : Addr) (ns : List Int), vs = [.ref a] ∧ SqL K H a (ns.map V.int) ∧ ns.length ≤ 63 ∧ ∀ H', Q (.bl true) H'
theorem ok_p_law (T : Txt K mg fa fd) (LX : TxL K mg fa) : FnOk P w K mg base CX0 17 (fa 161) (fd 161) ["_law_script"] (spLaw K) := by
  refine T.F_p_law.ok sc_p_law (fun vs H Q E h => ?_) (fun cdv A outer s H vs Q E hr h => ?_)
  · obtain ⟨a, ns, rfl, _⟩ := h
    rfl
  · obtain ⟨s0, ns, rfl, hS, hlen, q⟩ := h
    refine ⟨_, (C8.pss_cut (ps_set (i := 1) sc_p_law.nd rfl (.inr rfl) (pe_call (ok_feed T) (hr.mono (by decide)) (by rfl) T.g_feed T.F_feed.kp T.b_feed .nil pass0 (pa_cons (pv 0) pa_nil)))
      (C8.pss_cut (ps_for PassesOwn.never rfl (pi_range1 (by rfl) T.m_range (pa_cons pe_int pa_nil)) (pg_name (i := 2) sc_p_law.nd rfl (.inl rfl)) (C8.pss_cut (ps_set (i := 3) sc_p_law.nd rfl (.inl rfl) (pe_call (ok_words T) (hr.mono (by decide)) (by rfl) T.g_words T.F_words.kp T.b_words .nil pass0 (pa_cons (pv 1) (pa_cons (pe_call (ok_draw T) (hr.mono (by decide)) (by rfl) T.g_draw T.F_draw.kp T.b_draw .nil pass0 (pa_cons (pv 1) (pa_cons pe_int pa_nil))) pa_nil))))
      (C8.pss_cut (ps_setLc (i := 3) (own := [("_law_name", 17)]) (g := gName 17) (tt := tYes) rfl sc_p_law.nd rfl rfl (sw_true rfl rfl rfl (by decide +kernel)) (pi_list (pv 3)) (blkOk_by (own := [("_law_name", 17)]) (N := ["_law_script", "_law_feed_here", "_law_turn", "_law_words_here", "_law_bonds", "_law_given", "_law_handed", "_law_made", "_law_told", "_law_text", "_law_shown", "_law_again", "_law_brief_here", "_law_both", "_law_parts", "_law_alike", "_law_values", "_law_name", "_law_tie"]) (sc := defScope s_p_law) (by decide +kernel)) (fun _ _ _ _ _ => pg_name (i := 17) sc_p_law.nd rfl (Or.inl rfl)) (fun _ _ _ _ _ => pts_nil) (fun _ _ _ _ _ => (pe_op op_add_str (pv 17) (pe_op op_mul_str pe_str (pe_callTy call_int1 (by rfl) T.m_int PySem.Pv.boot_int (pa_cons (pe_cmpR op_eq (pe_call (ok_draw T) (hr.mono (by decide)) (by rfl) T.g_draw T.F_draw.kp T.b_draw .nil pass0 (pa_cons (pv 1) (pa_cons pe_int pa_nil))) pe_int (nomark _)) pa_nil))))))
      (C8.pss_cut (ps_set (i := 4) sc_p_law.nd rfl (.inl rfl) (pe_call (ok_ties T) (hr.mono (by decide)) (by rfl) T.g_ties T.F_ties.kp T.b_ties .nil pass0 (pa_cons (pv 1) (pa_cons (pv 3) (pa_cons pe_int (pa_cons pe_int pa_nil))))))
      (C8.pss_cut (ps_par (i := 5) (j := 6) (by rfl) sc_p_law.nd rfl rfl (by decide) rfl rfl (pa_cons (pe_callTy call_list_of (by rfl) T.m_list (by decide +kernel) (pa_cons (pe_revL (pv 3)) pa_nil)) (pa_cons (pe_callTy call_list_of (by rfl) T.m_list (by decide +kernel) (pa_cons (pv 4) pa_nil)) pa_nil)) (by rfl))
      (C8.pss_cut (ps_set (i := 7) sc_p_law.nd rfl (.inl rfl) (pe_ifExp (pt_cmpR op_eq (pe_call (ok_draw T) (hr.mono (by decide)) (by rfl) T.g_draw T.F_draw.kp T.b_draw .nil pass0 (pa_cons (pv 1) (pa_cons pe_int pa_nil))) pe_int (nomark _)) (pe_make T.mk_Lot (ok_p_LotInit T) (hr.mono (by decide)) (by rfl) T.g_Lot T.b_LotInit .nil pass0 (pa_cons (pv 5) (pa_cons (pv 6) pa_nil))) (pe_makeK0 T.mk_Lot (ok_p_LotInit T) (hr.mono (by decide)) (by rfl) T.g_Lot T.kb_LotInit pass0 (pk_cons (pe_callTy call_tuple_of (by rfl) T.m_tuple (by decide +kernel) (pa_cons (pv 4) pa_nil)) (pk_cons (pe_callTy call_tuple_of (by rfl) T.m_tuple (by decide +kernel) (pa_cons (pv 3) pa_nil)) pk_nil)))))
      (C8.pss_cut (ps_expr (pe_bm PySem.F.plainAttrs_list PySem.F.slot_list_append PySem.F.type_list_append mt_append (pv 5) (pa_cons pe_str pa_nil)))
      (C8.pss_cut (ps_expr (pe_bm0 PySem.F.plainAttrs_list PySem.F.slot_list_clear PySem.F.type_list_clear mt_clear (pv 6)))
      (C8.pss_cut (ps_set (i := 8) sc_p_law.nd rfl (.inl rfl) (pe_lst (pa_cons (pe_meth0 (pv 7) T.cl_Lot T.me_LotNames (ok_p_LotNames T) (hr.mono (by decide)) T.b_LotNames .nil pass0) (pa_cons (pe_meth0 (pv 7) T.cl_Lot T.me_LotTies (ok_p_LotTies T) (hr.mono (by decide)) T.b_LotTies .nil pass0) (pa_cons (pe_meth0 (pv 7) T.cl_Lot T.me_LotText (ok_p_LotText T) (hr.mono (by decide)) T.b_LotText .nil pass0) (pa_cons (pe_callB (call_lenO (ok_p_LotLen T) T.me_LotLen.at_ T.me_LotLen.fn T.b_LotLen pass0 (hr.mono (by decide))) (by rfl) T.m_len PySem.boot_len (pa_cons (pv 7) pa_nil)) (pa_cons (pe_callB (call_reprO (ok_p_LotRepr T) T.me_LotRepr.at_ T.me_LotRepr.fn T.b_LotRepr pass0 (hr.mono (by decide))) (by rfl) LX.m_repr (by decide +kernel) (pa_cons (pv 7) pa_nil)) pa_nil)))))))
      (C8.pss_cut (ps_set (i := 9) sc_p_law.nd rfl (.inl rfl) (pe_m1 PySem.F.slot_str_join PySem.F.type_str_join mt_join pe_str (pe_lc (own := [("_law_tie", 18)]) (g := gName 18) (tt := tYes) rfl sc_p_law.nd (pi_list (pv 4)) (blkOk_by (own := [("_law_tie", 18)]) (N := ["_law_script", "_law_feed_here", "_law_turn", "_law_words_here", "_law_bonds", "_law_given", "_law_handed", "_law_made", "_law_told", "_law_text", "_law_shown", "_law_again", "_law_brief_here", "_law_both", "_law_parts", "_law_alike", "_law_values", "_law_name", "_law_tie"]) (sc := defScope s_p_law) (by decide +kernel)) (fun _ _ _ _ _ => pg_name (i := 18) sc_p_law.nd rfl (Or.inl rfl)) (fun _ _ _ _ _ => pts_nil) (fun _ _ _ _ _ => (pe_call (ok_tie_text T) (hr.mono (by decide)) (by rfl) T.g_tie_text T.F_tie_text.kp T.b_tie_text .nil pass0 (pa_cons (pv 18) pa_nil)))) (by rfl) (by rfl) (by rfl)))
      (C8.pss_cut (ps_set (i := 10) sc_p_law.nd rfl (.inl rfl) (pe_op op_add_str (pe_op op_add_str (pe_op op_add_str (pe_op op_add_str pe_str (pe_callTy call_str_int (by rfl) T.m_str (by decide +kernel) (pa_cons (pe_callB call_len_seq (by rfl) T.m_len PySem.boot_len (pa_cons (pv 3) pa_nil)) pa_nil))) pe_str) (pe_callTy call_str_int (by rfl) T.m_str (by decide +kernel) (pa_cons (pe_callB call_len_seq (by rfl) T.m_len PySem.boot_len (pa_cons (pv 4) pa_nil)) pa_nil))) pe_str))
      (C8.pss_cut (ps_if (pt_not (pt_val (pe_call (ok_same T 8) (hr.mono (by decide)) (by rfl) T.g_same T.F_same.kp T.b_same .nil pass0 (pa_cons (pv 8) (pa_cons (pe_lst (pa_cons (pe_callB cr_sortedS (by rfl) T.m_sorted (by decide +kernel) (pa_cons (pv 3) pa_nil)) (pa_cons (pv 4) (pa_cons (pv 9) (pa_cons (pe_callB call_len_seq (by rfl) T.m_len PySem.boot_len (pa_cons (pv 4) pa_nil)) (pa_cons (pv 10) pa_nil)))))) pa_nil))))) (pss_one (ps_ret pe_bl)) pss_nil)
      (C8.pss_cut (ps_expr (pe_bm PySem.F.plainAttrs_list PySem.F.slot_list_append PySem.F.type_list_append mt_append (pe_ix ix_list (pv 8) pe_int (fun _ _ => rfl)) (pa_cons pe_str pa_nil)))
      (C8.pss_cut (ps_expr (pe_bm PySem.F.plainAttrs_list PySem.F.slot_list_append PySem.F.type_list_append mt_append (pe_ix ix_list (pv 8) pe_int (fun _ _ => rfl)) (pa_cons pe_non pa_nil)))
      (C8.pss_cut (ps_set (i := 11) sc_p_law.nd rfl (.inl rfl) (pe_smeth (pe_glob (v := V.ref (fa 138)) (by rfl) T.g_Lot rfl) T.sm_Lot.choose_spec.choose_spec (ok_p_LotRead T) (hr.mono (by decide)) T.b_LotRead .nil pass0 (pa_cons (pv 3) (pa_cons (pv 9) pa_nil))))
      (C8.pss_cut (ps_setLc (i := 12) (own := [("_law_tie", 18)]) (g := gName 18) (tt := tYes) rfl sc_p_law.nd rfl rfl (sw_true rfl rfl rfl (by decide +kernel)) (pi_list (pv 4)) (blkOk_by (own := [("_law_tie", 18)]) (N := ["_law_script", "_law_feed_here", "_law_turn", "_law_words_here", "_law_bonds", "_law_given", "_law_handed", "_law_made", "_law_told", "_law_text", "_law_shown", "_law_again", "_law_brief_here", "_law_both", "_law_parts", "_law_alike", "_law_values", "_law_name", "_law_tie"]) (sc := defScope s_p_law) (by decide +kernel)) (fun _ _ _ _ _ => pg_name (i := 18) sc_p_law.nd rfl (Or.inl rfl)) (fun _ _ _ _ _ => pts_nil) (fun _ _ _ _ _ => (pe_call (ok_brief T) (hr.mono (by decide)) (by rfl) T.g_brief T.F_brief.kp T.b_brief .nil pass0 (pa_cons (pv 18) pa_nil))))
      (C8.pss_cut (ps_if (pt_cmpR (op_neD hr.units) (pv 3) (pe_lst pa_nil) (nomark _)) (C8.pss_cut (ps_par (i := 13) (j := 14) (by rfl) sc_p_law.nd rfl rfl (by decide) rfl rfl (pa_cons (pe_lst (pa_cons (pe_tup (pa_cons (pe_tup (pa_cons (pe_tup (pa_cons (pe_ix (ix_listK (K := K) rfl) (pv 3) pe_int (fun _ _ => rfl)) (pa_cons (pe_tup (pa_cons pe_int (pa_cons pe_int pa_nil))) pa_nil))) pa_nil)) (pa_cons (pe_tup (pa_cons pe_int (pa_cons pe_int pa_nil))) pa_nil))) (pa_cons (pe_tup (pa_cons (pe_tup (pa_cons (pe_tup (pa_cons (pe_ix (ix_listK (K := K) rfl) (pv 3) pe_int (fun _ _ => rfl)) (pa_cons (pe_tup (pa_cons (pe_un un_neg pe_int) (pa_cons pe_int pa_nil))) pa_nil))) pa_nil)) (pa_cons (pe_tup (pa_cons (pe_un un_neg pe_int) (pa_cons pe_int pa_nil))) pa_nil))) pa_nil))) (pa_cons (pe_lst (pa_cons (pe_op op_add_str (pe_ix (ix_listK (K := K) rfl) (pv 3) pe_int (fun _ _ => rfl)) pe_str) pa_nil)) pa_nil)) (by rfl))
      (pss_one (ps_if (pt_not (pt_val (pe_call (ok_same T 8) (hr.mono (by decide)) (by rfl) T.g_same T.F_same.kp T.b_same .nil pass0 (pa_cons (pe_meth0 (pe_smeth (pe_glob (v := V.ref (fa 138)) (by rfl) T.g_Lot rfl) T.sm_Lot.choose_spec.choose_spec (ok_p_LotRead T) (hr.mono (by decide)) T.b_LotRead .nil pass0 (pa_cons (pv 3) (pa_cons (pe_m1 PySem.F.slot_str_join PySem.F.type_str_join mt_join pe_str (pe_op op_cat (pv 14) (pe_lc (own := [("_law_tie", 18)]) (g := gName 18) (tt := tYes) rfl sc_p_law.nd (pi_list (pv 4)) (blkOk_by (own := [("_law_tie", 18)]) (N := ["_law_script", "_law_feed_here", "_law_turn", "_law_words_here", "_law_bonds", "_law_given", "_law_handed", "_law_made", "_law_told", "_law_text", "_law_shown", "_law_again", "_law_brief_here", "_law_both", "_law_parts", "_law_alike", "_law_values", "_law_name", "_law_tie"]) (sc := defScope s_p_law) (by decide +kernel)) (fun _ _ _ _ _ => pg_name (i := 18) sc_p_law.nd rfl (Or.inl rfl)) (fun _ _ _ _ _ => pts_nil) (fun _ _ _ _ _ => (pe_call (ok_tie_text T) (hr.mono (by decide)) (by rfl) T.g_tie_text T.F_tie_text.kp T.b_tie_text .nil pass0 (pa_cons (pv 18) pa_nil))))) (by rfl) (by rfl) (by rfl)) pa_nil))) T.cl_Lot T.me_LotTies (ok_p_LotTies T) (hr.mono (by decide)) T.b_LotTies .nil pass0) (pa_cons (pe_op op_cat (pv 13) (pv 12)) pa_nil))))) (pss_one (ps_ret pe_bl)) pss_nil))) pss_nil)
      (C8.pss_cut (ps_set (i := 15) sc_p_law.nd rfl (.inl rfl) (pe_lst (pa_cons (pe_cmpR (op_eqO (ok_p_LotEq T LX) T.me_LotEq.at_ T.me_LotEq.fn T.b_LotEq pass0 (hr.mono (by decide))) (pv 7) (pe_make T.mk_Lot (ok_p_LotInit T) (hr.mono (by decide)) (by rfl) T.g_Lot T.b_LotInit .nil pass0 (pa_cons (pv 3) (pa_cons (pv 4) pa_nil))) (nomark _)) (pa_cons (pe_cmpR (op_eqO (ok_p_LotEq T LX) T.me_LotEq.at_ T.me_LotEq.fn T.b_LotEq pass0 (hr.mono (by decide))) (pv 7) (pv 4) (nomark _)) (pa_cons (pe_cmpR (op_eqD hr.units) (pe_meth0 (pv 11) T.cl_Lot T.me_LotTies (ok_p_LotTies T) (hr.mono (by decide)) T.b_LotTies .nil pass0) (pv 12) (nomark _)) (pa_cons (pe_cmpR (op_eqO (ok_p_LotEq T LX) T.me_LotEq.at_ T.me_LotEq.fn T.b_LotEq pass0 (hr.mono (by decide))) (pv 7) (pe_make T.mk_Lot (ok_p_LotInit T) (hr.mono (by decide)) (by rfl) T.g_Lot T.b_LotInit .nil pass0 (pa_cons (pe_op op_cat (pv 3) (pe_lst (pa_cons (pe_call (ok_strange T) (hr.mono (by decide)) (by rfl) T.g_strange T.F_strange.kp T.b_strange .nil pass0 (pa_cons (pv 3) pa_nil)) pa_nil))) (pa_cons (pv 4) pa_nil))) (nomark _)) pa_nil))))))
      (C8.pss_cut (ps_if (PW.pt (pw_or (pt_not (pt_val (pe_call (ok_same T 8) (hr.mono (by decide)) (by rfl) T.g_same T.F_same.kp T.b_same .nil pass0 (pa_cons (pv 15) (pa_cons (pe_lst (pa_cons pe_bl (pa_cons pe_bl (pa_cons pe_bl (pa_cons pe_bl pa_nil))))) pa_nil))))) (pw_or1 (pt_not (pt_val (pe_call (ok_same T 8) (hr.mono (by decide)) (by rfl) T.g_same T.F_same.kp T.b_same .nil pass0 (pa_cons (pe_meth0 (pv 7) T.cl_Lot T.me_LotTies (ok_p_LotTies T) (hr.mono (by decide)) T.b_LotTies .nil pass0) (pa_cons (pv 4) pa_nil)))))))) (pss_one (ps_ret pe_bl)) pss_nil)
      (C8.pss_cut (ps_set (i := 16) sc_p_law.nd rfl (.inr rfl) (pe_call (ok_pointK T) (hr.mono (by decide)) (by rfl) T.g_point T.F_point.kp T.b_point .nil pass0 (pa_cons (pv 1) (pa_cons (pv 3) pa_nil))))
      (pss_one (ps_if (PW.pt (pw_or (pt_not (pt_val (pe_call (ok_same T 8) (hr.mono (by decide)) (by rfl) T.g_same T.F_same.kp T.b_same .nil pass0 (pa_cons (pe_meth (pv 7) T.cl_Lot T.me_LotHolds (ok_p_LotHolds T) (hr.mono (by decide)) T.b_LotHolds .nil pass0 (pa_cons (pv 16) pa_nil)) (pa_cons (pe_callB (cr_all rfl) (by rfl) T.m_all PyProof.Rows.boot_all (pa_cons (pe_lc (own := [("_law_tie", 18)]) (g := gName 18) (tt := tYes) rfl sc_p_law.nd (pi_list (pv 4)) (blkOk_by (own := [("_law_tie", 18)]) (N := ["_law_script", "_law_feed_here", "_law_turn", "_law_words_here", "_law_bonds", "_law_given", "_law_handed", "_law_made", "_law_told", "_law_text", "_law_shown", "_law_again", "_law_brief_here", "_law_both", "_law_parts", "_law_alike", "_law_values", "_law_name", "_law_tie"]) (sc := defScope s_p_law) (by decide +kernel)) (fun _ _ _ _ _ => pg_name (i := 18) sc_p_law.nd rfl (Or.inl rfl)) (fun _ _ _ _ _ => pts_nil) (fun _ _ _ _ _ => (pe_call (ok_keeps T) (hr.mono (by decide)) (by rfl) T.g_keeps T.F_keeps.kp T.b_keeps .nil pass0 (pa_cons (pv 18) (pa_cons (pv 16) pa_nil))))) pa_nil)) pa_nil))))) (pw_or1 (pt_cmpR (op_neD hr.units) (pe_meth0 (pv 7) T.cl_Lot T.me_LotNames (ok_p_LotNames T) (hr.mono (by decide)) T.b_LotNames .nil pass0) (pe_callB cr_sortedS (by rfl) T.m_sorted (by decide +kernel) (pa_cons (pv 3) pa_nil)) (nomark _))))) (pss_one (ps_ret pe_bl)) pss_nil))))))))))))))))))))))
      (pss_one (ps_ret (pe_call (ok_same T 8) (hr.mono (by decide)) (by rfl) T.g_same T.F_same.kp T.b_same .nil pass0 (pa_cons (pe_lst (pa_cons (pe_meth0 (T.b_LotInit1.elim fun ds hd => pe_make T.mk_Lot (ok_p_LotInit T) (hr.mono (by decide)) (by rfl) T.g_Lot hd.2 hd.1 pass0 (pa_cons (pe_lst pa_nil) pa_nil)) T.cl_Lot T.me_LotNames (ok_p_LotNames T) (hr.mono (by decide)) T.b_LotNames .nil pass0) (pa_cons (pe_meth0 (pe_smeth (pe_glob (v := V.ref (fa 138)) (by rfl) T.g_Lot rfl) T.sm_Lot.choose_spec.choose_spec (ok_p_LotRead T) (hr.mono (by decide)) T.b_LotRead .nil pass0 (pa_cons (pe_lst (pa_cons pe_str pa_nil)) (pa_cons pe_str pa_nil))) T.cl_Lot T.me_LotTies (ok_p_LotTies T) (hr.mono (by decide)) T.b_LotTies .nil pass0) (pa_cons (pe_meth0 (T.b_LotInit1.elim fun ds hd => pe_make T.mk_Lot (ok_p_LotInit T) (hr.mono (by decide)) (by rfl) T.g_Lot hd.2 hd.1 pass0 (pa_cons (pe_lst (pa_cons pe_str pa_nil)) pa_nil)) T.cl_Lot T.me_LotText (ok_p_LotText T) (hr.mono (by decide)) T.b_LotText .nil pass0) pa_nil)))) (pa_cons (pe_lst (pa_cons (pe_lst pa_nil) (pa_cons (pe_lst pa_nil) (pa_cons pe_str pa_nil)))) pa_nil))))))), ?_⟩
    refine ⟨fun σ H1 => ∃ a c, σ = [some (.ref s0), some (.ref a), none, none, none, none, none, none, none, none, none, none, none, none, none, none, none, none, none] ∧ FeedOk H1 a c, ⟨_, rfl, s0, ns, rfl, hS, hlen, fun a c H1 _ _ s1 hF => ⟨a, c, rfl, hF⟩⟩, fun σ H1 hM => ?_⟩
    obtain ⟨a, c, rfl, hF⟩ := hM
    refine ⟨fun σ H2 => ∃ y2 y3 y4 y5 y6 y7 y8 y9 y10 y11 y12 y13 y14 y15 y16 y17 y18, σ = [some (.ref s0), some (.ref a), y2, y3, y4, y5, y6, y7, y8, y9, y10, y11, y12, y13, y14, y15, y16, y17, y18], ?_, fun σ H2 hM => ?_⟩
    · refine ⟨4, rfl, by decide, by decide, for_range (n := 4) (fun i σ H2 => FeedOk H2 a c ∧ ∃ y2 y3 y4 y5 y6 y7 y8 y9 y10 y11 y12 y13 y14 y15 y16 y17 y18, σ = [some (.ref s0), some (.ref a), y2, y3, y4, y5, y6, y7, y8, y9, y10, y11, y12, y13, y14, y15, y16, y17, y18]) ⟨hF, _, _, _, _, _, _, _, _, _, _, _, _, _, _, _, _, _, rfl⟩ (fun i σ H2 hi hp => ?_) (fun σ H2 hp => hp.2)⟩
      obtain ⟨hF2, y2, y3, y4, y5, y6, y7, y8, y9, y10, y11, y12, y13, y14, y15, y16, y17, y18, rfl⟩ := hp
      -- words
      refine ⟨fun σ H3 => FeedOk H3 a c ∧ ∃ (p : Addr) (ws : List Nm) (y2 : Option V), Ls a H3 p (ws.map vS) ∧ ws.length ≤ 4 ∧ ws.Nodup ∧ (∀ x ∈ ws, LW x) ∧ σ = [some (.ref s0), some (.ref a), y2, some (.ref p), y4, y5, y6, y7, y8, y9, y10, y11, y12, y13, y14, y15, y16, y17, y18], ?_, fun σ H3 hM => ?_⟩
      · refine ⟨_, rfl, _, rfl, a, c, _, rfl, hF2, mid_of (by decide) (by decide), fun r H3 r0 r1 hF3 b3 => ?_⟩
        obtain ⟨n, rfl⟩ := Int.eq_ofNat_of_zero_le r0
        exact ⟨a, c, n, rfl, hF3, by omega, fun p ws H4 hF4 b4 npa hp hl hn hw => ⟨hF4, p, ws, _, ⟨npa, hp⟩, by omega, hn, hw, rfl⟩⟩
      clear hF2 H2 y2
      obtain ⟨hF3, p0, ws0, y2, hp0, hl0, hn0, hw0, rfl⟩ := hM
      -- with apostrophes
      refine ⟨fun σ H4 => FeedOk H4 a c ∧ ∃ (p : Addr) (ws : List Nm) (y17 : Option V), Ls a H4 p (ws.map vS) ∧ ws.length ≤ 4 ∧ ws.Nodup ∧ (∀ x ∈ ws, NameL x) ∧ σ = [some (.ref s0), some (.ref a), y2, some (.ref p), y4, y5, y6, y7, y8, y9, y10, y11, y12, y13, y14, y15, y16, y17, y18], ?_, fun σ H4 hM => ?_⟩
      · refine ⟨_, rfl, p0, rfl, ⟨_, SqL.of hp0.2⟩, fun D nD => ?_⟩
        have nDa := new_ne hF3 nD
        have nDc := new_nc hF3 nD
        refine lc_list (K := K) (a := p0) (xs := ws0.map vS) (fun i G => FeedOk G a c ∧ G p0 = some (.lst (ws0.map vS)) ∧ ∃ qs : List Nm, G D = some (.lst (qs.map vS)) ∧ Paired (fun q x => q = x ∨ q = x ++ [39]) qs (ws0.take i)) ⟨hF3.new nD, same_upd nD _ _ hp0.2, [], upd_same, .nil⟩ (fun i G _ hq => SqL.of hq.2.1) (fun i x G hx hq => ?_) (fun G hq => ?_)
        · obtain ⟨hG, hpG, qs, hD, hqs⟩ := hq
          rw [List.getElem?_map] at hx
          obtain ⟨x, hz, rfl⟩ := Option.map_eq_some_iff.mp hx
          have il := (List.getElem?_eq_some_iff.mp hz).1
          refine ⟨rfl, ?_⟩
          refine ⟨_, rfl, _, rfl, a, c, _, rfl, hG, mid_of (by decide) (by decide), fun r G2 r0 r1 hG2 b2 => ⟨rfl, .inr ⟨_, rfl, ?_⟩⟩⟩
          obtain ⟨mok, m, em, hm⟩ := dash_mul (decide (V.int r = V.int 0))
          have x7 := (hw0 x (List.mem_of_getElem? hz)).2.1
          have m1 : m.length ≤ 1 := by rcases hm with rfl | rfl <;> simp
          have hD2 := b2 _ _ nDa hD
          refine ⟨_, _, rfl, rfl, mok, _, _, rfl, rfl, ?_, _, hD2, ?_, hG2.put nDa nDc, ?_, qs ++ [x ++ m], ?_, ?_⟩
          · rw [em, SX.S_len, SX.S_len]
            exact small_line (by omega)
          · rw [List.length_map, Paired.length hqs, List.length_take]
            exact small1000 (by omega)
          · exact (upd_ne (ne_of_none hp0.2 nD)).trans (b2 _ _ hp0.1 hpG)
          · rw [upd_same, em, SX.S_cat, List.map_append]
            rfl
          · rw [List.take_add_one, hz]
            refine prd_snoc (fun _ _ h => h) hqs ?_
            rcases hm with rfl | rfl
            · exact .inl (List.append_nil x)
            · exact .inr rfl
        · obtain ⟨hG, hpG, qs, hD, hqs⟩ := hq
          rw [List.length_map, List.take_length] at hqs
          exact ⟨hG, D, qs, _, ⟨nDa, hD⟩, by rw [Paired.length hqs]; exact hl0, dash_nd hqs hn0 hw0, dash_nm hqs hw0, rfl⟩
      clear hF3 hp0 y17
      obtain ⟨hF4, pw, ws, y17, hpw, hl, hnd, hnm, rfl⟩ := hM
      -- bonds
      refine ⟨fun σ H5 => ∃ (pb : Addr) (us : List V) (ties : List Tie), WB a c pw pb ws us ties H5 ∧ pb ≠ pw ∧ WP ws ties ∧ σ = [some (.ref s0), some (.ref a), y2, some (.ref pw), some (.ref pb), y5, y6, y7, y8, y9, y10, y11, y12, y13, y14, y15, y16, y17, y18], ?_, fun σ H5 hM => ?_⟩
      · refine ⟨_, rfl, _, rfl, a, c, pw, ws, 6, _, rfl, hF4, hpw.1, hpw.2, by omega, hnd, fun x hx => nameL_nx (hnm x hx), by decide, fun D us ties H4 hF4 b4 nDa nD hD hT hg hl6 => ?_⟩
        exact ⟨D, us, ties, ⟨hF4, hpw.but b4, ⟨nDa, hD⟩, hT⟩, (ne_of_none hpw.2 nD).symm, ⟨hl, hnd, hnm, hg, hl6⟩, rfl⟩
      clear hF4 hpw hl hnd hnm
      obtain ⟨pb, us, ties, B, nbw, hP, rfl⟩ := hM
      -- given, handed
      refine ⟨fun σ H6 => WB a c pw pb ws us ties H6 ∧ ∃ pg ph : Addr, H6 pg = some (.lst (((nmS ws).reverse).map V.str)) ∧ H6 ph = some (.lst us) ∧ Nw a c pw pb pg ∧ Nw a c pw pb ph ∧ pg ≠ ph ∧ σ = [some (.ref s0), some (.ref a), y2, some (.ref pw), some (.ref pb), some (.ref pg), some (.ref ph), y7, y8, y9, y10, y11, y12, y13, y14, y15, y16, y17, y18], ?_, fun σ H6 hM => ?_⟩
      · refine ⟨_, rfl, pw, _, rfl, SqL.of B.w.2, fun p1 n1 => ?_⟩
        have s1 := same_upd (o := .lst (ws.map vS).reverse) n1
        refine ⟨p1, _, rfl, .inl (SqL.of upd_same), fun p2 n2 => ?_⟩
        have s2 := s1.trans (same_upd (o := .lst (ws.map vS).reverse) n2)
        refine ⟨_, rfl, pb, _, rfl, .inl (SqL.of (s2 _ _ B.b.2)), fun p3 n3 => ?_⟩
        have s3 := s2.trans (same_upd (o := .lst us) n3)
        have B2 := B.same s1
        have B3 := B.same s2
        have e32 : p3 ≠ p2 := fun e => by
          rw [e, upd_same] at n3
          cases n3
        refine ⟨_, _, rfl, B.same s3, p2, p3, ?_, upd_same, B2.nw n2, B3.nw n3, e32.symm, rfl⟩
        rw [upd_ne e32.symm, upd_same, vS_map, List.map_reverse]
      clear B
      obtain ⟨B, pg, ph, hpg, hph, wg, wh, ngh, rfl⟩ := hM
      -- made
      refine ⟨fun σ H7 => WB a c pw pb ws us ties H7 ∧ H7 pg = some (.lst (((nmS ws).reverse).map V.str)) ∧ H7 ph = some (.lst us) ∧ ∃ x : Addr, LotH K (fa 138) H7 x (nmS ws) us ∧ σ = [some (.ref s0), some (.ref a), y2, some (.ref pw), some (.ref pb), some (.ref pg), some (.ref ph), some (.ref x), y8, y9, y10, y11, y12, y13, y14, y15, y16, y17, y18], ?_, fun σ H7 hM => ?_⟩
      · refine ⟨_, rfl, a, c, _, rfl, B.f, mid_of (by decide) (by decide), fun r G2 r0 r1 f2 b2 => ⟨rfl, _, rfl, ite2 (fun e => ?_) (fun e => ?_)⟩⟩
        · have B2 := B.but f2 b2
          refine ⟨_, rfl, _, rfl, fun x dx nx ndx ne => ?_⟩
          have s2 := (same_upd (o := .own x) ndx).trans (same_upd (o := .ins (fa 138) dx []) (H := upd G2 dx (.own x)) ((upd_ne ne.symm).trans nx))
          have hpg2 := b2 _ _ wg.1 hpg
          have hph2 := b2 _ _ wh.1 hph
          have B3 := B2.same s2
          refine ⟨x, pg, ph, _, us, dx, rfl, upd_same, hP.lot (.inl (SqL.of (s2 _ _ hpg2))) (.inl (SqL.of (s2 _ _ hph2))) B3.t (List.reverse_perm _), fun H' oth hL => ⟨rfl, ?_⟩⟩
          have keep : Same G2 H' := fun b o e => oth b o (ne_of_none e nx) (s2 _ _ e)
          exact ⟨B2.same keep, keep _ _ hpg2, keep _ _ hph2, x, hL.perm (List.reverse_perm _), rfl⟩
        · have B2 := B.but f2 b2
          refine ⟨_, rfl, pb, _, rfl, .inl ⟨SqL.of B2.b.2, fun t1 n1 => ?_⟩⟩
          have s1 := same_upd (o := .tup us) n1
          refine ⟨_, rfl, pw, _, rfl, .inl ⟨SqL.of (s1 _ _ B2.w.2), fun t2 n2 => ⟨rfl, rfl, fun x dx nx ndx ne => ?_⟩⟩⟩
          have sq := same_upd (o := .tup (ws.map vS)) n2
          have e12 : t1 ≠ t2 := fun e => by
            rw [← e, upd_same] at n2
            cases n2
          have h1 := sq _ _ (upd_same : upd G2 t1 (.tup us) t1 = _)
          have h2 : upd (upd G2 t1 (.tup us)) t2 (.tup (ws.map vS)) t2 = some (.tup ((nmS ws).map V.str)) := by rw [upd_same, vS_map]
          have s12 := s1.trans sq
          generalize upd (upd G2 t1 (.tup us)) t2 (.tup (ws.map vS)) = G3 at sq h1 h2 s12 nx ndx ⊢
          have s2 := (same_upd (o := .own x) ndx).trans (same_upd (o := .ins (fa 138) dx []) (H := upd G3 dx (.own x)) ((upd_ne ne.symm).trans nx))
          have hpg2 := b2 _ _ wg.1 hpg
          have hph2 := b2 _ _ wh.1 hph
          have B3 := B2.same (s12.trans s2)
          refine ⟨x, t2, t1, nmS ws, us, dx, rfl, upd_same, hP.lot (.inr (SqT.of (s2 _ _ h2))) (.inr (SqT.of (s2 _ _ h1))) B3.t (List.Perm.refl _), fun H' oth hL => ⟨rfl, ?_⟩⟩
          have keep : Same G2 H' := fun b o e => oth b o (ne_of_none (s12 _ _ e) nx) (s2 _ _ (s12 _ _ e))
          exact ⟨B2.same keep, keep _ _ hpg2, keep _ _ hph2, x, hL, rfl⟩
      clear B hpg hph
      obtain ⟨B, hpg, hph, x, hx, rfl⟩ := hM
      -- the passed lists are changed
      refine ⟨fun σ H8 => WB a c pw pb ws us ties H8 ∧ H8 ph = some (.lst us) ∧ LotH K (fa 138) H8 x (nmS ws) us ∧ σ = [some (.ref s0), some (.ref a), y2, some (.ref pw), some (.ref pb), some (.ref pg), some (.ref ph), some (.ref x), y8, y9, y10, y11, y12, y13, y14, y15, y16, y17, y18], ?_, fun σ H8 hM => ?_⟩
      · refine ⟨_, rfl, .inl ⟨rfl, _, SqL.of hpg⟩, pg, _, _, rfl, rfl, hpg, ?_, ?_⟩
        · rw [List.length_map, List.length_reverse, List.length_map]
          have := hP.ln
          exact small1000 (by omega)
        · exact ⟨B.pu hpg wg, (upd_ne ngh.symm).trans hph, hx.nl (NL.upd hpg), rfl⟩
      clear B hpg hph hx
      obtain ⟨B, hph, hx, rfl⟩ := hM
      refine ⟨fun σ H9 => WB a c pw pb ws us ties H9 ∧ LotH K (fa 138) H9 x (nmS ws) us ∧ σ = [some (.ref s0), some (.ref a), y2, some (.ref pw), some (.ref pb), some (.ref pg), some (.ref ph), some (.ref x), y8, y9, y10, y11, y12, y13, y14, y15, y16, y17, y18], ?_, fun σ H9 hM => ?_⟩
      · exact ⟨_, rfl, .inl ⟨rfl, _, SqL.of hph⟩, ph, _, rfl, rfl, hph, B.pu hph wh, hx.nl (NL.upd hph), rfl⟩
      clear B hph hx
      obtain ⟨B, hx, rfl⟩ := hM
      -- told
      obtain ⟨xs, hxs⟩ := ties_x hP.nm hP.tg
      have lt := Paired.length B.t
      have lx := Paired.length hxs
      have l6 := hP.tl
      refine ⟨fun σ G => WB a c pw pb ws us ties G ∧ LotH K (fa 138) G x (nmS ws) us ∧ ∃ (D p1 p2 : Addr) (ms : List Str), G D = some (.lst [.ref p1, .ref p2, vS (TL.joinL [59, 32] xs), .int us.length, .str (lotShown ws.length us.length)]) ∧ G p1 = some (.lst (ms.map V.str)) ∧ G p2 = some (.lst us) ∧ ms.Perm (nmS ws) ∧ sortedS ms = true ∧
        Nw a c pw pb D ∧ Nw a c pw pb p1 ∧ Nw a c pw pb p2 ∧ p1 ≠ p2 ∧ D ≠ p1 ∧ D ≠ p2 ∧ σ = [some (.ref s0), some (.ref a), y2, some (.ref pw), some (.ref pb), some (.ref pg), some (.ref ph), some (.ref x), some (.ref D), y9, y10, y11, y12, y13, y14, y15, y16, y17, y18], ?_, fun σ G hM => ?_⟩
      · obtain ⟨dx, q1, q2, ms0, g1, g2, g3, g4, g5⟩ := id hx.at_
        refine ⟨_, rfl, x, dx, _, rfl, g1, rfl, x, _, us, rfl, hx, fun p1 ms G1 s1 n1 hp1 perm srt => ?_⟩
        refine ⟨_, rfl, x, dx, _, rfl, s1 _ _ g1, rfl, x, _, us, rfl, hx.same s1, fun p2 n2 => ?_⟩
        have s2 := s1.trans (same_upd (o := .lst us) n2)
        have e12 : p1 ≠ p2 := fun e => by
          rw [← e, hp1] at n2
          cases n2
        have hp1' := same_upd (o := .lst us) n2 _ _ hp1
        have hp2' : upd G1 p2 (.lst us) p2 = some (.lst us) := upd_same
        have B1 := B.same s1
        generalize upd G1 p2 (.lst us) = G2 at s2 hp1' hp2' ⊢
        refine ⟨_, rfl, x, dx, _, rfl, s2 _ _ g1, rfl, x, _, us, a, ties, xs, rfl, hx.same s2, tieU_nl (NL.of s2) B.t, hxs, by omega, fun G3 s3 => ?_⟩
        have s4 := s2.trans s3
        refine ⟨_, rfl, x, dx, _, rfl, s4 _ _ g1, x, _, us, rfl, hx.same s4, us.length, rfl, by omega, ?_⟩
        refine ⟨_, rfl, x, dx, _, rfl, s4 _ _ g1, x, _, us, rfl, hx.same s4, ?_, by omega, ⟨_, rfl⟩, small_line (by show 5 ≤ 1000; decide), fun D nD => ?_⟩
        · rw [List.length_map]
          have := hP.ln
          omega
        have k5 := same_upd (o := .lst [V.ref p1, .ref p2, vS (TL.joinL [59, 32] xs), .int us.length, .str (lotShown (nmS ws).length us.length)]) nD
        have s5 := s4.trans k5
        refine ⟨B.same s5, hx.same s5, D, p1, p2, ms, ?_, k5 _ _ (s3 _ _ hp1'), k5 _ _ (s3 _ _ hp2'), perm, srt, (B.same s4).nw nD, B.nw n1, B1.nw n2, e12, ?_, ?_, rfl⟩
        · rw [upd_same, List.length_map]
        · exact fun e => by rw [e, s3 _ _ hp1'] at nD; cases nD
        · exact fun e => by rw [e, s3 _ _ hp2'] at nD; cases nD
      clear B hx
      obtain ⟨B, hx, D, p1, p2, ms, hD, hp1, hp2, perm, srt, wD, w1, w2, n12, nD1, nD2, rfl⟩ := hM
      have hus := ties_dt B.t
      -- text
      refine ⟨fun σ H9 => Same G H9 ∧ σ = [some (.ref s0), some (.ref a), y2, some (.ref pw), some (.ref pb), some (.ref pg), some (.ref ph), some (.ref x), some (.ref D), some (vS (TL.joinL [59, 32] xs)), y10, y11, y12, y13, y14, y15, y16, y17, y18], ?_, fun σ H9 hM => ?_⟩
      · refine ⟨⟨_, rfl⟩, _, rfl, pb, rfl, ⟨_, SqL.of B.b.2⟩, fun D2 nD2 => ?_⟩
        refine lc_list (K := K) (a := pb) (xs := us) (fun i G' => Same G G' ∧ G' D2 = some (.lst ((xs.take i).map vS))) ⟨same_upd nD2, upd_same⟩ (fun i G' _ hq => SqL.of (hq.1 _ _ B.b.2)) (fun i y G' hy hq => ?_) (fun G' hq => ?_)
        · obtain ⟨dd, hd1, hd2⟩ := DtAll.at i hus hy
          rw [List.getElem?_map] at hd1
          obtain ⟨t, ht, rfl⟩ := Option.map_eq_some_iff.mp hd1
          have il := (List.getElem?_eq_some_iff.mp ht).1
          obtain ⟨xt, hxt⟩ : ∃ xt, xs[i]? = some xt := ⟨_, List.getElem?_eq_getElem (by omega)⟩
          obtain ⟨t', ht', hX⟩ := paired_ofR hxs hxt
          rw [ht] at ht'
          cases ht'
          obtain ⟨u, r, B1, hR, z1, z2, z3, z4, rfl⟩ := hX
          refine ⟨rfl, _, rfl, _, t.1, t.2, u, r, B1, a, rfl, hd2.same hq.1, z1, z2, hR, z3, z4, fun G2 s2 => ⟨_, s2 _ _ hq.2, small1000 (by rw [List.length_map, List.length_take]; omega), fun b o e => (upd_ne (ne_of_none e nD2)).trans (s2 _ _ (hq.1 _ _ e)), ?_⟩⟩
          rw [upd_same, List.take_add_one, hxt, List.map_append]
          rfl
        · rw [show us.length = xs.length by omega, List.take_length] at hq
          obtain ⟨sG, hD2⟩ := hq
          refine ⟨_, D2, xs.map SX.S, rfl, rfl, .inl (SqL.of (by rw [hD2, names_vs])), ?_, ?_⟩
          · rw [List.map_map]
            have b1 := sum_le 140 (xs.map ((fun x : Str => x.length) ∘ SX.S)) (fun y hy => by
              obtain ⟨u, hu, rfl⟩ := List.mem_map.mp hy
              show (SX.S u).length ≤ 140
              rw [SX.S_len]
              obtain ⟨j, hj⟩ := List.mem_iff_getElem?.mp hu
              obtain ⟨t, _, hX'⟩ := paired_ofR hxs hj
              exact hX'.tx.2.1.1)
            rw [List.length_map] at b1
            rw [List.length_map, semiS, SX.S_len]
            have e2 : ([59, 32] : List Nat).length = 2 := rfl
            rw [e2]
            have := Nat.mul_le_mul (show xs.length ≤ 10 by omega) (Nat.le_refl 140)
            omega
          · rw [semiS, SX.join_S]
            exact ⟨sG, rfl⟩
      obtain ⟨s9, rfl⟩ := hM
      -- shown
      refine ⟨fun σ H10 => H10 = H9 ∧ σ = [some (.ref s0), some (.ref a), y2, some (.ref pw), some (.ref pb), some (.ref pg), some (.ref ph), some (.ref x), some (.ref D), some (vS (TL.joinL [59, 32] xs)), some (.str (lotShown ws.length us.length)), y11, y12, y13, y14, y15, y16, y17, y18], ?_, fun σ H10 hM => ?_⟩
      · have c1 : (Str.ofString "Lot(").length = 4 := by decide +kernel
        have c2 : (Str.ofString " names, ").length = 8 := by decide +kernel
        have c3 : (Str.ofString " ties)").length = 6 := by decide +kernel
        have w4 := hP.ln
        have l1 : (numS ws.length).length ≤ 3 := num_len (by omega)
        have l2 : (numS us.length).length ≤ 3 := num_len (by omega)
        have lb : ∀ n : Nat, n ≤ 900 → ((n : Int)).natAbs.log2 < 1920 := fun n hn => log2_mono (b := 900) (by rw [Int.natAbs_natCast]; exact hn) (by decide +kernel)
        refine ⟨_, rfl, pw, _, rfl, .inl (SqL.of (s9 _ _ B.w.2)), ?_⟩
        rw [List.length_map]
        have l1' : (Str.ofString (toString ((ws.length : Nat) : Int))).length ≤ 3 := l1
        have l2' : (Str.ofString (toString ((us.length : Nat) : Int))).length ≤ 3 := l2
        refine ⟨_, rfl, lb _ (by omega), _, _, rfl, rfl, small_line (by omega), _, _, rfl, rfl, small_line (by rw [strlen_cat]; omega), _, rfl, pb, _, rfl, .inl (SqL.of (s9 _ _ B.b.2)), _, rfl, lb _ (by omega), _, _, rfl, rfl, small_line (by rw [strlen_cat, strlen_cat]; omega), _, _, rfl, rfl, small_line (by rw [strlen_cat, strlen_cat, strlen_cat]; omega), rfl, ?_⟩
        rw [shown_eq]
        rfl
      obtain ⟨e10, rfl⟩ := hM
      subst e10
      have B9 := B.same s9
      have hx9 := hx.same s9
      have hD9 := s9 _ _ hD
      have hp19 := s9 _ _ hp1
      have hp29 := s9 _ _ hp2
      clear B hx hD hp1 hp2
      -- all that was told is so
      refine ⟨fun σ G' => Same H10 G' ∧ σ = [some (.ref s0), some (.ref a), y2, some (.ref pw), some (.ref pb), some (.ref pg), some (.ref ph), some (.ref x), some (.ref D), some (vS (TL.joinL [59, 32] xs)), some (.str (lotShown ws.length us.length)), y11, y12, y13, y14, y15, y16, y17, y18], ?_, fun σ G' hM => ?_⟩
      · refine ⟨_, rfl, _, rfl, pw, nmS ws, rfl, SqL.of (by rw [B9.w.2, vS_map]), by rw [List.length_map]; have := hP.ln; omega, fun ys l pm sr nl => ?_⟩
        have sl := same_upd (o := .lst (ys.map V.str)) nl
        refine ⟨_, rfl, _, rfl, _, rfl, pb, _, rfl, .inl (SqL.of (sl _ _ B9.b.2)), _, rfl, small_line (by show 5 ≤ 1000; decide), fun e ne => ?_⟩
        have se := same_upd (o := .lst [V.ref l, .ref pb, vS (TL.joinL [59, 32] xs), .int us.length, .str (lotShown ws.length us.length)]) ne
        have ey : ys = ms := srt_unique (srt_pw _ sr) (srt_pw _ srt) (pm.trans perm.symm)
        have s2 := sl.trans se
        have ml : ms.length ≤ 1000 := by
          rw [perm.length_eq, List.length_map]
          have := hP.ln
          omega
        refine ⟨_, _, rfl, eqd_row (s2 _ _ hD9) upd_same (by show 5 ≤ 1000; decide) (.cons ?_ (.cons ?_ (.cons (eqd_s _) (.cons (eqd_i _) (.cons (eqd_s _) .nil))))), fun H' s' => ⟨_, rfl, iteF ⟨s2.trans s', rfl⟩⟩⟩
        · exact eqd_strs (l := ms) (s2 _ _ hp19) (by rw [← ey]; exact se _ _ upd_same) ml
        · exact Eqd.up (eqd_lists (s2 _ _ hp29) (s2 _ _ B9.b.2) ((ties_dt B9.t).same s2) ((ties_dt B9.t).same s2) (by rw [List.length_map]; omega) (ties_wide hP.tg))
      obtain ⟨s10, rfl⟩ := hM
      -- the returned lists are changed
      have B10 := B9.same s10
      have hx10 := hx9.same s10
      have hD10 := s10 _ _ hD9
      have hp110 := s10 _ _ hp19
      have hp210 := s10 _ _ hp29
      clear B9 hx9 hD9 hp19 hp29 s10
      refine ⟨fun σ G1 => WB a c pw pb ws us ties G1 ∧ LotH K (fa 138) G1 x (nmS ws) us ∧ G1 D = some (.lst [.ref p1, .ref p2, vS (TL.joinL [59, 32] xs), .int us.length, .str (lotShown ws.length us.length)]) ∧ G1 p2 = some (.lst us) ∧ σ = [some (.ref s0), some (.ref a), y2, some (.ref pw), some (.ref pb), some (.ref pg), some (.ref ph), some (.ref x), some (.ref D), some (vS (TL.joinL [59, 32] xs)), some (.str (lotShown ws.length us.length)), y11, y12, y13, y14, y15, y16, y17, y18], ?_, fun σ G1 hM => ?_⟩
      · refine ⟨_, rfl, D, _, 0, _, rfl, rfl, SqL.of hD10, at_of (j := 0) rfl rfl, .inl ⟨rfl, _, SqL.of hp110⟩, p1, _, _, rfl, rfl, hp110, ?_, B10.pu hp110 w1, hx10.nl (NL.upd hp110), (upd_ne nD1).trans hD10, (upd_ne n12.symm).trans hp210, rfl⟩
        rw [List.length_map, perm.length_eq, List.length_map]
        have := hP.ln
        exact small1000 (by omega)
      clear B10 hx10 hD10 hp110 hp210
      obtain ⟨B, hx, hD, hp2, rfl⟩ := hM
      refine ⟨fun σ G1 => WB a c pw pb ws us ties G1 ∧ LotH K (fa 138) G1 x (nmS ws) us ∧ σ = [some (.ref s0), some (.ref a), y2, some (.ref pw), some (.ref pb), some (.ref pg), some (.ref ph), some (.ref x), some (.ref D), some (vS (TL.joinL [59, 32] xs)), some (.str (lotShown ws.length us.length)), y11, y12, y13, y14, y15, y16, y17, y18], ?_, fun σ G1 hM => ?_⟩
      · exact ⟨_, rfl, D, _, 1, _, rfl, rfl, SqL.of hD, at_of (j := 1) rfl rfl, .inl ⟨rfl, _, SqL.of hp2⟩, p2, _, _, rfl, rfl, hp2, small1000 (by omega), B.pu hp2 w2, hx.nl (NL.upd hp2), rfl⟩
      clear B hx hD hp2
      obtain ⟨B, hx, rfl⟩ := hM
      have px := all_pt hxs
      have wlen : (nmS ws).length < 64 := by
        rw [List.length_map]
        have := hP.ln
        omega
      have fbn : firstBad 0 [] (nmS ws) = none := fb_none _ 0 [] (fun y hy => (nmS_ok hP.nm y hy).1) (by rw [List.nil_append]; exact nmS_nd hP.nd)
      have wlx : ∀ y ∈ nmS ws, y.length ≤ 1000 := fun y hy => (nmS_ok hP.nm y hy).2.1
      -- read again
      refine ⟨fun σ G2 => Same G1 G2 ∧ ∃ (xr : Addr) (ur : List V), LotH K (fa 138) G2 xr (nmS ws) ur ∧ DtAll 0 G2 ur (ties.map redD) ∧ σ = [some (.ref s0), some (.ref a), y2, some (.ref pw), some (.ref pb), some (.ref pg), some (.ref ph), some (.ref x), some (.ref D), some (vS (TL.joinL [59, 32] xs)), some (.str (lotShown ws.length us.length)), some (.ref xr), y12, y13, y14, y15, y16, y17, y18], ?_, fun σ G2 hM => ?_⟩
      · obtain ⟨t1, t2⟩ := txt_ok px (by omega)
        refine ⟨rfl, _, rfl, _, rfl, pw, nmS ws, _, xs, rfl, SqL.of (by rw [B.w.2, vS_map]), wlx, fbn, nmS_nd hP.nd, wlen, t1, t2, by omega, fun t ht => (px t ht).l, fun t ht => (px t ht).g, fun dss hd => ?_⟩
        rw [parts_red hxs hd]
        exact ⟨fbt_none _ _ 0 (red_good hxs hP.tg), fun xr ur H' s' nx hL hdt => ⟨s', xr, ur, hL, hdt, rfl⟩⟩
      obtain ⟨s2, xr, ur, hxr, hur, rfl⟩ := hM
      have B2 := B.same s2
      have hx2 := hx.same s2
      clear B hx s2
      have hus2 := ties_dt B2.t
      -- the reduced ties
      refine ⟨fun σ G3 => Same G2 G3 ∧ ∃ (pr : Addr) (rs : List V) (y18 : Option V), G3 pr = some (.lst rs) ∧ pr ≠ a ∧ DtAll a G3 rs (ties.map redD) ∧ σ = [some (.ref s0), some (.ref a), y2, some (.ref pw), some (.ref pb), some (.ref pg), some (.ref ph), some (.ref x), some (.ref D), some (vS (TL.joinL [59, 32] xs)), some (.str (lotShown ws.length us.length)), some (.ref xr), some (.ref pr), y13, y14, y15, y16, y17, y18], ?_, fun σ G3 hM => ?_⟩
      · refine ⟨_, rfl, pb, rfl, ⟨_, SqL.of B2.b.2⟩, fun D2 nD2 => ?_⟩
        refine lc_list (K := K) (a := pb) (xs := us) (fun i G' => Same G2 G' ∧ ∃ rs : List V, G' D2 = some (.lst rs) ∧ DtAll a G' rs ((ties.take i).map redD)) ⟨same_upd nD2, [], upd_same, .nil⟩ (fun i G' _ hq => SqL.of (hq.1 _ _ B2.b.2)) (fun i y G' hy hq => ?_) (fun G' hq => ?_)
        · obtain ⟨sG, rs, hrs, hdr⟩ := hq
          obtain ⟨dd, hd1, hd2⟩ := DtAll.at i hus2 hy
          rw [List.getElem?_map] at hd1
          obtain ⟨t, ht, rfl⟩ := Option.map_eq_some_iff.mp hd1
          have il := (List.getElem?_eq_some_iff.mp ht).1
          obtain ⟨xt, hxt⟩ : ∃ xt, xs[i]? = some xt := ⟨_, List.getElem?_eq_getElem (by omega)⟩
          obtain ⟨t', ht', hX⟩ := paired_ofR hxs hxt
          rw [ht] at ht'
          cases ht'
          obtain ⟨z1, z2⟩ := tie_bd hX
          have rl := hdr.len
          rw [List.length_map, List.length_take] at rl
          refine ⟨rfl, _, rfl, y, t.1, t.2, a, rfl, hd2.same sG, z1, z2, fun v' G4 s4 hv => ⟨rs, s4 _ _ hrs, small1000 (by omega), fun b o e => (upd_ne (ne_of_none e nD2)).trans (s4 _ _ (sG _ _ e)), rs ++ [v'], upd_same, ?_⟩⟩
          have tt : TT G4 (upd G4 D2 (.lst (rs ++ [v']))) := TT.upd (s4 _ _ hrs)
          rw [List.take_add_one, ht, List.map_append]
          exact all_snoc (DtAll.tups tt _ _ (noLs_red _) (hdr.same s4)) (Dt.tups tt _ _ (noL_redP _ _) hv)
        · rw [show us.length = ties.length by omega, List.take_length] at hq
          obtain ⟨sG, rs, hrs, hdr⟩ := hq
          exact ⟨sG, D2, rs, _, hrs, new_ne B2.f nD2, hdr, rfl⟩
      clear y18
      obtain ⟨s3, pr, rs, y18, hpr, npr, hrs, rfl⟩ := hM
      have B3 := B2.same s3
      have hx3 := hx2.same s3
      have hxr3 := hxr.same s3
      have hur3 := hur.same s3
      clear B2 hx2 hxr hur s3 hus2
      -- where there are names: an equation ahead of the ties
      refine ⟨fun σ G4 => Same G3 G4 ∧ ∃ y13 y14, σ = [some (.ref s0), some (.ref a), y2, some (.ref pw), some (.ref pb), some (.ref pg), some (.ref ph), some (.ref x), some (.ref D), some (vS (TL.joinL [59, 32] xs)), some (.str (lotShown ws.length us.length)), some (.ref xr), some (.ref pr), y13, y14, y15, y16, y17, y18], ?_, fun σ G4 hM => ?_⟩
      · refine ⟨_, rfl, Nat.zero_le _, fun q0 nq => ?_⟩
        have sq := same_upd (o := .lst []) nq
        refine ⟨_, _, .lst (SqL.of (sq _ _ B3.w.2)) (dws _ ws), .lst (SqL.of upd_same) .nil, shaped_nx fun y hy => nameL_nx (hP.nm y hy), by decide +kernel, _, rfl, ?_⟩
        have B4 := B3.same sq
        have hrs4 := hrs.same sq
        have hpr4 := sq _ _ hpr
        generalize upd G3 q0 (.lst []) = G4 at sq B4 hrs4 hpr4 ⊢
        cases ws with
        | nil => exact iteFq (by rfl) ⟨sq, _, _, rfl⟩
        | cons w0 wr =>
          refine iteTq (by rfl) ?_
          have hw0 := B4.w.2
          have nm0 := hP.nm w0 List.mem_cons_self
          have w0len : (SX.S w0).length ≤ 1000 := wlx _ List.mem_cons_self
          have at0 : atI ((w0 :: wr).map vS) 0 = some (.str (SX.S w0)) := at_of (j := 0) rfl rfl
          have hFb := B4.f
          refine ⟨fun σ G5 => Same G4 G5 ∧ ∃ (pB pP : Addr) (vB : List V), G5 pB = some (.lst vB) ∧ DtAll a G5 vB (bothD w0) ∧ G5 pP = some (.lst [vS (w0 ++ [32, 61, 32, 49])]) ∧ σ = [some (.ref s0), some (.ref a), y2, some (.ref pw), some (.ref pb), some (.ref pg), some (.ref ph), some (.ref x), some (.ref D), some (vS (TL.joinL [59, 32] xs)), some (.str (lotShown (w0 :: wr).length us.length)), some (.ref xr), some (.ref pr), some (.ref pB), some (.ref pP), y15, y16, y17, y18], ?_, fun σ G5 hM => ?_⟩
          · skip
            refine ⟨_, rfl, pw, _, _, _, rfl, rfl, SqL.of hw0, at0, (small_line (by decide : 2 ≤ 1000)), fun p1 n1 => ?_⟩
            obtain ⟨s1, d1⟩ := dnewT (z := a) n1 (.cons (.int 1 (by decide +kernel)) (.cons (.int 1 (by decide +kernel)) .nil))
            refine ⟨(small_line (by decide : 2 ≤ 1000)), fun p2 n2 => ?_⟩
            obtain ⟨s2, d2⟩ := dnewT (z := a) n2 (.cons (.str (SX.S w0) w0len) (.cons d1 .nil))
            refine ⟨(small_line (by decide : 1 ≤ 1000)), fun p3 n3 => ?_⟩
            obtain ⟨s3, d3⟩ := dnewT (z := a) n3 (.cons d2 .nil)
            refine ⟨(small_line (by decide : 2 ≤ 1000)), fun p4 n4 => ?_⟩
            obtain ⟨s4, d4⟩ := dnewT (z := a) n4 (.cons (.int 1 (by decide +kernel)) (.cons (.int 1 (by decide +kernel)) .nil))
            refine ⟨(small_line (by decide : 2 ≤ 1000)), fun p5 n5 => ?_⟩
            obtain ⟨s5, d5⟩ := dnewT (z := a) n5 (.cons (d3.same s4) (.cons d4 .nil))
            refine ⟨_, rfl, pw, _, _, _, rfl, rfl, SqL.of ((s1.trans (s2.trans (s3.trans (s4.trans s5)))) _ _ hw0), at0, _, rfl, (small_line (by decide : 2 ≤ 1000)), fun p6 n6 => ?_⟩
            obtain ⟨s6, d6⟩ := dnewT (z := a) n6 (.cons (.int (-1) (by decide +kernel)) (.cons (.int 1 (by decide +kernel)) .nil))
            refine ⟨(small_line (by decide : 2 ≤ 1000)), fun p7 n7 => ?_⟩
            obtain ⟨s7, d7⟩ := dnewT (z := a) n7 (.cons (.str (SX.S w0) w0len) (.cons d6 .nil))
            refine ⟨(small_line (by decide : 1 ≤ 1000)), fun p8 n8 => ?_⟩
            obtain ⟨s8, d8⟩ := dnewT (z := a) n8 (.cons d7 .nil)
            refine ⟨_, rfl, (small_line (by decide : 2 ≤ 1000)), fun p9 n9 => ?_⟩
            obtain ⟨s9, d9⟩ := dnewT (z := a) n9 (.cons (.int (-1) (by decide +kernel)) (.cons (.int 1 (by decide +kernel)) .nil))
            refine ⟨(small_line (by decide : 2 ≤ 1000)), fun p10 n10 => ?_⟩
            obtain ⟨s10, d10⟩ := dnewT (z := a) n10 (.cons (d8.same s9) (.cons d9 .nil))
            refine ⟨(small_line (by decide : 2 ≤ 1000)), fun p11 n11 => ?_⟩
            obtain ⟨s11, d11⟩ := dnewL (z := a) n11 (new_ne (hFb.same (s1.trans (s2.trans (s3.trans (s4.trans (s5.trans (s6.trans (s7.trans (s8.trans (s9.trans s10)))))))))) n11) (.cons (d5.same (s6.trans (s7.trans (s8.trans (s9.trans s10))))) (.cons d10 .nil))
            have sR := (s1.trans (s2.trans (s3.trans (s4.trans (s5.trans (s6.trans (s7.trans (s8.trans (s9.trans (s10.trans s11))))))))))
            obtain ⟨vB, gB, hBd⟩ : ∃ vB, _ = some (HO.lst vB) ∧ DtAll a _ vB (bothD w0) := by
              cases d11 with
              | lst g _ h => exact ⟨_, g, h⟩
            refine ⟨_, rfl, pw, _, _, _, rfl, rfl, SqL.of (sR _ _ hw0), at0, _, _, rfl, rfl, ?_, one_line, fun pP nP => ?_⟩
            · rw [eq1S, SX.S_len, SX.S_len]
              have := nameL_len nm0
              exact small_line (by show _ + 4 ≤ 1000; omega)
            have sP := same_upd (o := .lst [V.str (SX.S w0 ++ Str.ofString " = 1")]) nP
            refine ⟨_, _, rfl, sR.trans sP, p11, pP, vB, sP _ _ gB, hBd.same sP, ?_, rfl⟩
            rw [upd_same, eq1S, SX.S_cat]
          obtain ⟨s5, pB, pP, vB, hB, hBd, hPp, rfl⟩ := hM
          have B5 := B4.same s5
          have hrs5 := hrs4.same s5
          have hpr5 := s5 _ _ hpr4
          have hus5 := ties_dt B5.t
          have pe := eq_pt nm0
          have pall : ∀ y ∈ (w0 ++ [32, 61, 32, 49]) :: xs, PtG y := fun y hy => by
            rcases List.mem_cons.mp hy with rfl | hy
            · exact pe
            · exact px y hy
          obtain ⟨t1, t2⟩ := txt_ok pall (by rw [List.length_cons]; omega)
          refine ⟨rfl, _, rfl, ⟨_, rfl⟩, _, rfl, _, rfl, pb, rfl, ⟨_, SqL.of B5.b.2⟩, fun D2 nD2 => ?_⟩
          refine lc_list (K := K) (a := pb) (xs := us) (fun i G' => Same G5 G' ∧ G' D2 = some (.lst ((xs.take i).map vS))) ⟨same_upd nD2, upd_same⟩ (fun i G' _ hq => SqL.of (hq.1 _ _ B5.b.2)) (fun i y G' hy hq => ?_) (fun G' hq => ?_)
          · obtain ⟨dd, hd1, hd2⟩ := DtAll.at i hus5 hy
            rw [List.getElem?_map] at hd1
            obtain ⟨t, ht, rfl⟩ := Option.map_eq_some_iff.mp hd1
            have il := (List.getElem?_eq_some_iff.mp ht).1
            obtain ⟨xt, hxt⟩ : ∃ xt, xs[i]? = some xt := ⟨_, List.getElem?_eq_getElem (by omega)⟩
            obtain ⟨t', ht', hX⟩ := paired_ofR hxs hxt
            rw [ht] at ht'
            cases ht'
            obtain ⟨u, r, B1, hR, z1, z2, z3, z4, rfl⟩ := hX
            refine ⟨rfl, _, rfl, _, t.1, t.2, u, r, B1, a, rfl, hd2.same hq.1, z1, z2, hR, z3, z4, fun G2 s2 => ⟨_, s2 _ _ hq.2, small1000 (by rw [List.length_map, List.length_take]; omega), fun b o e => (upd_ne (ne_of_none e nD2)).trans (s2 _ _ (hq.1 _ _ e)), ?_⟩⟩
            rw [upd_same, List.take_add_one, hxt, List.map_append]
            rfl
          · rw [show us.length = xs.length by omega, List.take_length] at hq
            obtain ⟨sG, hD2⟩ := hq
            refine ⟨pP, D2, _, _, rfl, rfl, sG _ _ hPp, hD2, small_line (by rw [List.length_map]; show 1 + _ ≤ 1000; omega), fun q2 nq2 => ?_⟩
            have s7 := same_upd (o := .lst ([vS (w0 ++ [32, 61, 32, 49])] ++ xs.map vS)) nq2
            have s67 := sG.trans s7
            refine ⟨_, q2, ((w0 ++ [32, 61, 32, 49]) :: xs).map SX.S, rfl, rfl, .inl (SqL.of (by rw [upd_same, ← names_vs]; rfl)), ?_, ?_⟩
            · rw [List.map_map]
              have b1 := sum_le 140 (((w0 ++ [32, 61, 32, 49]) :: xs).map ((fun x : Str => x.length) ∘ SX.S)) (fun y hy => by
                obtain ⟨u, hu, rfl⟩ := List.mem_map.mp hy
                show (SX.S u).length ≤ 140
                rw [SX.S_len]
                exact (pall u hu).l.1)
              have b2 : ((w0 ++ [32, 61, 32, 49]) :: xs).length ≤ 7 := by rw [List.length_cons]; omega
              rw [List.length_map] at b1
              rw [List.length_map, semiS, SX.S_len]
              have e2 : ([59, 32] : List Nat).length = 2 := rfl
              rw [e2]
              have := Nat.mul_le_mul b2 (Nat.le_refl 140)
              omega
            · rw [semiS, SX.join_S]
              have B7 := B5.same s67
              have hB7 := s67 _ _ hB
              have hBd7 := hBd.same s67
              have hpr7 := s67 _ _ hpr5
              have hrs7 := hrs5.same s67
              generalize upd G' q2 (.lst ([vS (w0 ++ [32, 61, 32, 49])] ++ xs.map vS)) = G7 at s67 B7 hB7 hBd7 hpr7 hrs7 ⊢
              refine ⟨pw, nmS (w0 :: wr), _, (w0 ++ [32, 61, 32, 49]) :: xs, rfl, SqL.of (by rw [B7.w.2, vS_map]), wlx, fbn, nmS_nd hP.nd, wlen, t1, t2, by rw [List.length_cons]; omega, fun t ht => (pall t ht).l, fun t ht => (pall t ht).g, fun dss hd => ?_⟩
              have ed : dss.flatten = bothD w0 ++ ties.map redD := by
                cases hd with
                | cons h1 h2 => rw [List.flatten_cons, eq_partR nm0 h1, parts_red hxs h2]
              rw [ed]
              refine ⟨fbt_none _ _ 0 fun d hd => ?_, fun x2 ur2 H' s' nx hL hdt => ?_⟩
              · rcases List.mem_append.mp hd with h | h
                · exact both_good nm0 List.mem_cons_self d h
                · exact red_good hxs hP.tg d h
              obtain ⟨dx, _, _, _, g1, _⟩ := id hL.at_
              refine ⟨x2, dx, _, rfl, g1, rfl, x2, _, _, rfl, hL, fun pt nt => ?_⟩
              have st := same_upd (o := .lst ur2) nt
              have s8 := s'.trans st
              refine ⟨_, rfl, _, rfl, pB, pr, _, _, rfl, rfl, s8 _ _ hB7, s8 _ _ hpr7, small_line ?_, fun qq nqq => ?_⟩
              · rw [hBd7.len, hrs7.len, List.length_map]
                show 2 + _ ≤ 1000
                omega
              have sq2 := same_upd (o := .lst (vB ++ rs)) nqq
              have s9 := s8.trans sq2
              have dl : (bothD w0 ++ ties.map redD).length ≤ 1000 := by
                rw [List.length_append, List.length_map]
                show 2 + _ ≤ 1000
                omega
              have dw : ∀ d ∈ bothD w0 ++ ties.map redD, wideD 4 d := fun d hd => by
                rcases List.mem_append.mp hd with h | h
                · rcases List.mem_cons.mp h with rfl | h
                  · exact wide_tie (by show 1 ≤ 2; decide)
                  · rw [List.mem_singleton.mp h]
                    exact wide_tie (by show 1 ≤ 2; decide)
                · obtain ⟨t, ht, rfl⟩ := List.mem_map.mp h
                  exact wide_red (by have := (hP.tg t ht).ln; omega)
              exact ⟨_, _, rfl, Eqd.up (Eqd.up (eqd_lists (sq2 _ _ upd_same) upd_same (hdt.same (st.trans sq2)) ((hBd7.same s9).app (hrs7.same s9)) dl dw)), fun H8 s10 => ⟨_, rfl, iteF ⟨sq.trans (s5.trans (s67.trans (s9.trans s10))), _, _, rfl⟩⟩⟩
      obtain ⟨s4, y13, y14, rfl⟩ := hM
      have B4 := B3.same s4
      have hx4 := hx3.same s4
      have hxr4 := hxr3.same s4
      have hur4 := hur3.same s4
      have hrs4 := hrs.same s4
      have hpr4 := s4 _ _ hpr
      clear B3 hx3 hxr3 hur3 hrs hpr s4
      have strok : ∀ y ∈ nmS ws, PyData.strOk y = true := fun y hy => (nmS_ok hP.nm y hy).2.2
      -- alike
      refine ⟨fun σ G5 => Same G4 G5 ∧ ∃ pA : Addr, G5 pA = some (.lst [.bl true, .bl false, .bl true, .bl false]) ∧ σ = [some (.ref s0), some (.ref a), y2, some (.ref pw), some (.ref pb), some (.ref pg), some (.ref ph), some (.ref x), some (.ref D), some (vS (TL.joinL [59, 32] xs)), some (.str (lotShown ws.length us.length)), some (.ref xr), some (.ref pr), y13, y14, some (.ref pA), y16, y17, y18], ?_, fun σ G5 hM => ?_⟩
      · refine ⟨_, rfl, _, rfl, _, rfl, fun x5 dx5 nx ndx ne => ?_⟩
        have s5 := (same_upd (o := .own x5) ndx).trans (same_upd (o := .ins (fa 138) dx5 []) (H := upd G4 dx5 (.own x5)) ((upd_ne ne.symm).trans nx))
        have B5 := B4.same s5
        refine ⟨x5, pw, pb, nmS ws, us, dx5, rfl, upd_same, hP.lot (.inl (SqL.of (by rw [B5.w.2, vS_map]))) (.inl (SqL.of B5.b.2)) B5.t (List.Perm.refl _), fun G5 oth hL5 => ⟨rfl, ?_⟩⟩
        have k5 : Same G4 G5 := fun b o e => oth b o (ne_of_none e nx) (s5 _ _ e)
        clear s5 B5 oth nx ndx ne
        have B5 := B4.same k5
        have hx5 := hx4.same k5
        obtain ⟨dx, _, _, _, g1, _⟩ := id hx5.at_
        obtain ⟨dy, _, _, _, g2, _⟩ := id hL5.at_
        refine ⟨x, dx, _, rfl, g1, .inl ⟨x5, dy, _, rfl, g2⟩, x, x5, nmS ws, _, rfl, hP.lotD hx5 B5.t strok, .inl ⟨nmS ws, hP.lotD hL5 B5.t strok, List.Perm.refl _, fun G6 s6 => ⟨⟨_, rfl⟩, ?_⟩⟩⟩
        have k6 := k5.trans s6
        have B6 := B4.same k6
        have hx6 := hx4.same k6
        refine ⟨_, rfl, _, rfl, x, dx, _, rfl, s6 _ _ g1, .inr ⟨pb, us, rfl, B6.b.2⟩, x, pb, nmS ws, _, rfl, hP.lotD hx6 B6.t strok, .inr (.inr ⟨us, B6.b.2, fun G7 s7 => ⟨⟨_, rfl⟩, ?_⟩⟩)⟩
        have k7 := k6.trans s7
        have hxr7 := hxr4.same k7
        obtain ⟨dr, _, _, _, g3, _⟩ := id hxr7.at_
        refine ⟨_, rfl, xr, dr, _, rfl, g3, rfl, xr, _, ur, rfl, hxr7, fun p3 n3 => ?_⟩
        have s8 := same_upd (o := .lst ur) n3
        have k8 := k7.trans s8
        have shr := shaped_lay hP.layR
        refine ⟨_, rfl, .list (ties.map redD), .list (ties.map redD), .lst (SqL.of upd_same) (DtAll.dp _ _ (hur4.same k8)), .lst (SqL.of (k8 _ _ hpr4)) (DtAll.dp _ _ (hrs4.same k8)), shr, shr, ?_⟩
        rw [show PyData.eqv (.list (ties.map redD)) (.list (ties.map redD)) = true from SeqAt.eqv_refl _ (SeqAt.canLay_of_shaped shr)]
        have B8 := B4.same k8
        have w9 : (nmS ws).length ≤ 9 := by
          rw [List.length_map]
          have := hP.ln
          omega
        refine ⟨_, rfl, _, rfl, _, rfl, pw, nmS ws, rfl, SqL.of (by rw [B8.w.2, vS_map]), w9, fun st G9 hst nst s9 => ⟨one_line, fun p4 n4 => ?_⟩⟩
        have s10 := s9.trans (same_upd (o := .lst [.str st]) n4)
        have h4 : upd G9 p4 (.lst [V.str st]) p4 = some (.lst [.str st]) := upd_same
        generalize upd G9 p4 (.lst [V.str st]) = G10 at s10 h4 ⊢
        have k10 := k8.trans s10
        have B10 := B4.same k10
        refine ⟨pw, p4, _, _, rfl, rfl, B10.w.2, h4, small_line (by rw [List.length_map]; have := hP.ln; show _ + 1 ≤ 1000; omega), fun p5 n5 => ⟨_, rfl, fun x6 dx6 nx ndx ne => ?_⟩⟩
        have s11 := same_upd (o := .lst (ws.map vS ++ [.str st])) n5
        have h5 : upd G10 p5 (.lst (ws.map vS ++ [.str st])) p5 = some (.lst ((nmS ws ++ [st]).map V.str)) := by rw [upd_same, List.map_append, vS_map]; rfl
        generalize upd G10 p5 (.lst (ws.map vS ++ [.str st])) = G11 at s11 h5 nx ndx ⊢
        have k11 := k10.trans s11
        have s12 := (same_upd (o := .own x6) ndx).trans (same_upd (o := .ins (fa 138) dx6 []) (H := upd G11 dx6 (.own x6)) ((upd_ne ne.symm).trans nx))
        have B12 := B4.same (k11.trans s12)
        have okn : ∀ y ∈ nmS ws ++ [st], nameB y.cps.toList = true ∧ y.length ≤ 1000 ∧ PyData.strOk y = true := fun y hy => by
          rcases List.mem_append.mp hy with h | h
          · exact nmS_ok hP.nm y h
          · rw [List.mem_singleton.mp h]
            exact ten_ok st hst
        have ndn : (nmS ws ++ [st]).Nodup := List.nodup_append.mpr ⟨nmS_nd hP.nd, by simp, fun y hy z hz e => nst (by rw [List.mem_singleton.mp hz] at e; rw [← e]; exact hy)⟩
        refine ⟨x6, p5, pb, nmS ws ++ [st], us, dx6, rfl, upd_same, lotA_mk hP (.inl (SqL.of (s12 _ _ h5))) (.inl (SqL.of B12.b.2)) B12.t (fun y hy => ⟨(okn y hy).1, (okn y hy).2.1⟩) ndn (by rw [List.length_append]; show _ + 1 < 64; omega) (fun y hy => List.mem_append_left _ hy), fun G13 oth hL6 => ⟨rfl, ?_⟩⟩
        have k13 : Same G4 G13 := fun b o e => oth b o (ne_of_none (k11 _ _ e) nx) (s12 _ _ (k11 _ _ e))
        have B13 := B4.same k13
        have hx13 := hx4.same k13
        obtain ⟨dz, _, _, _, g4, _⟩ := id hx13.at_
        obtain ⟨dw, _, _, _, g5, _⟩ := id hL6.at_
        refine ⟨x, dz, _, rfl, g4, .inl ⟨x6, dw, _, rfl, g5⟩, x, x6, nmS ws, _, rfl, hP.lotD hx13 B13.t strok, .inr (.inl ⟨nmS ws ++ [st], _, hP.lotD hL6 B13.t (fun y hy => (okn y hy).2.2), by rw [List.length_append]; show _ ≠ _ + 1; omega, fun G14 s14 => ⟨⟨_, rfl⟩, ?_⟩⟩)⟩
        refine ⟨small_line (by show 4 ≤ 1000; decide), fun pA nA => ?_⟩
        exact ⟨(k13.trans s14).trans (same_upd nA), pA, upd_same, rfl⟩
      obtain ⟨s5, pA, hA, rfl⟩ := hM
      have B5 := B4.same s5
      have hx5 := hx4.same s5
      clear B4 hx4 hxr4 hur4 hrs4 hpr4 s5
      have l4 := hP.ln
      -- and so it is
      refine ⟨fun σ G6 => Same G5 G6 ∧ σ = [some (.ref s0), some (.ref a), y2, some (.ref pw), some (.ref pb), some (.ref pg), some (.ref ph), some (.ref x), some (.ref D), some (vS (TL.joinL [59, 32] xs)), some (.str (lotShown ws.length us.length)), some (.ref xr), some (.ref pr), y13, y14, some (.ref pA), y16, y17, y18], ?_, fun σ G6 hM => ?_⟩
      · refine ⟨_, rfl, small_line (by show 4 ≤ 1000; decide), fun p3 n3 => ?_⟩
        have s3 := same_upd (o := .lst [V.bl true, .bl false, .bl true, .bl false]) n3
        refine ⟨_, _, rfl, eqd_row (s3 _ _ hA) upd_same (by show 4 ≤ 1000; decide) (.cons (eqd_b _) (.cons (eqd_b _) (.cons (eqd_b _) (.cons (eqd_b _) .nil)))), fun G6 s6 => ⟨_, rfl, iteF ?_⟩⟩
        have k6 := s3.trans s6
        have hx6 := hx5.same k6
        obtain ⟨dx, _, _, _, g1, _⟩ := id hx6.at_
        refine ⟨_, rfl, x, dx, _, rfl, g1, rfl, x, _, us, rfl, hx6, fun p4 n4 => ?_⟩
        have k7 := k6.trans (same_upd (o := .lst us) n4)
        have B7 := B5.same k7
        exact ⟨_, rfl, _, _, rfl, Eqd.up (Eqd.up (eqd_lists upd_same B7.b.2 (ties_dt B7.t) (ties_dt B7.t) (by rw [List.length_map]; omega) (ties_wide hP.tg))), fun G8 s8 => ⟨_, rfl, iteF ⟨k7.trans s8, rfl⟩⟩⟩
      obtain ⟨s6, rfl⟩ := hM
      have B6 := B5.same s6
      have hx6 := hx5.same s6
      clear B5 hx5 hA s6
      -- values
      refine ⟨fun σ G7 => WB a c pw pb ws us ties G7 ∧ LotH K (fa 138) G7 x (nmS ws) us ∧ ∃ (d : Addr) (val : List Nat → FR) (kvs : List (Key × V)), PointD G7 d val ws ∧ G7 d = some (.dK kvs) ∧ kvs.map (·.1) = (nmS ws).map (fun y => (.inr y : Key)) ∧ σ = [some (.ref s0), some (.ref a), y2, some (.ref pw), some (.ref pb), some (.ref pg), some (.ref ph), some (.ref x), some (.ref D), some (vS (TL.joinL [59, 32] xs)), some (.str (lotShown ws.length us.length)), some (.ref xr), some (.ref pr), y13, y14, some (.ref pA), some (.ref d), y17, y18], ?_, fun σ G7 hM => ?_⟩
      · refine ⟨_, rfl, _, rfl, a, c, pw, ws, rfl, B6.f, B6.w.1, B6.w.2, hP.nd, by omega, fun d val G7 f7 b7 hPd hk => ?_⟩
        obtain ⟨kvs, hk1, hk2⟩ := hk
        exact ⟨B6.but f7 b7, hx6.nl (NL.but B6.f b7), d, val, kvs, hPd, hk1, by rw [hk2, List.map_map]; rfl, rfl⟩
      clear B6 hx6
      obtain ⟨B7, hx7, d, val, kvs, hPd, hkd, hkv, rfl⟩ := hM
      -- held
      have mem_of : ∀ {i : Nat} {t : Tie}, ties[i]? = some t → t ∈ ties := fun h => List.mem_of_getElem? h
      have at_us : ∀ {G' : Hp}, Paired (TieU a G') us ties → ∀ (i : Nat) (v : V) (t : Tie), us[i]? = some v → ties[i]? = some t → TieU a G' v t := fun hp i v t h1 h2 => by
        obtain ⟨t', e, r⟩ := prd_at hp h1
        rw [h2] at e
        cases e
        exact r
      obtain ⟨dx, _, _, _, g1, _⟩ := id hx7.at_
      refine ⟨_, rfl, x, dx, _, rfl, g1, rfl, _, rfl, x, d, nmS ws, us, a, ties, kvs, val, rfl, hx7, lt, by omega, hkd, hkv, nmS_nd hP.nd, wlen, wlx, strok, fun i v t h1 h2 => hP.kp (mem_of h2) (at_us B7.t i v t h1 h2) hPd, fun G8 s8 => ?_⟩
      have B8 := B7.same s8
      have hPd8 := hPd.same s8
      refine ⟨_, rfl, pb, rfl, ⟨_, SqL.of B8.b.2⟩, fun D2 nD2 => ?_⟩
      refine lc_list (K := K) (a := pb) (xs := us) (fun i G' => Same G8 G' ∧ G' D2 = some (.lst (((ties.take i).map (kp val)).map V.bl))) ⟨same_upd nD2, upd_same⟩ (fun i G' _ hq => SqL.of (hq.1 _ _ B8.b.2)) (fun i y G' hy hq => ?_) (fun G' hq => ?_)
      · have il := (List.getElem?_eq_some_iff.mp hy).1
        obtain ⟨t, ht⟩ : ∃ t, ties[i]? = some t := ⟨_, List.getElem?_eq_getElem (by omega)⟩
        have B9 := B8.same hq.1
        refine ⟨rfl, _, rfl, _, rfl, y, d, a, t, val, rfl, hP.kp (mem_of ht) (at_us B9.t i y t hy ht) (hPd8.same hq.1), fun G2 s3 => ⟨_, s3 _ _ hq.2, ?_, fun b o e => (upd_ne (ne_of_none e nD2)).trans (s3 _ _ (hq.1 _ _ e)), ?_⟩⟩
        · rw [List.length_map, List.length_map, List.length_take]
          exact small1000 (by omega)
        · rw [upd_same, List.take_add_one, ht, List.map_append, List.map_append]
          rfl
      · rw [lt, List.take_length] at hq
        have B9 := B8.same hq.1
        have hx9 := hx7.same (s8.trans hq.1)
        refine ⟨D2, _, rfl, SqL.of hq.2, _, _, rfl, eqd_b _, fun G10 s10 => ⟨_, rfl, iteF ?_⟩⟩
        have B10 := B9.same s10
        have hx10 := hx9.same s10
        obtain ⟨dy, _, _, _, g2, _⟩ := id hx10.at_
        refine ⟨_, rfl, x, dy, _, rfl, g2, rfl, x, _, us, rfl, hx10, fun p3 m3 G11 s11 n3 hp3 pm3 sr3 => ?_⟩
        have B11 := B10.same s11
        refine ⟨_, rfl, pw, nmS ws, rfl, SqL.of (by rw [B11.w.2, vS_map]), wlen, fun ys p4 pm4 sr4 n4 => ?_⟩
        have ey : ys = m3 := srt_unique (srt_pw _ sr4) (srt_pw _ sr3) (pm4.trans pm3.symm)
        subst ey
        have s4 := same_upd (o := .lst (ys.map V.str)) n4
        have oky : ∀ y ∈ ys, PyData.strOk y = true := fun y hy => strok y (pm3.mem_iff.mp hy)
        refine ⟨_, _, .lst (SqL.of (s4 _ _ hp3)) (dp_strs ys), .lst (SqL.of upd_same) (dp_strs ys), shaped_strs oky, shaped_strs oky, _, rfl, ?_⟩
        rw [eqv_strs, decide_eq_true rfl]
        exact iteF ⟨(B11.same s4).f, _, _, _, _, _, _, _, _, _, _, _, _, _, _, _, _, _, rfl⟩
    · obtain ⟨y2, y3, y4, y5, y6, y7, y8, y9, y10, y11, y12, y13, y14, y15, y16, y17, y18, rfl⟩ := hM
      have W0 : WP [] [] := ⟨Nat.zero_le _, .nil, (fun x h => by cases h), (fun t h => by cases h), Nat.zero_le _⟩
      have okA : ∀ y ∈ [(Str.ofString "a" : Str)], nameB y.cps.toList = true ∧ y.length ≤ 1000 := fun y hy => by
        rw [List.mem_singleton.mp hy]
        exact ⟨by decide +kernel, by decide +kernel⟩
      have okB : ∀ y ∈ [(Str.ofString "b" : Str)], nameB y.cps.toList = true ∧ y.length ≤ 1000 := fun y hy => by
        rw [List.mem_singleton.mp hy]
        exact ⟨by decide +kernel, by decide +kernel⟩
      refine ⟨small_line (by show 0 ≤ 1000; decide), fun L1 n1 x1 dx1 nx1 nd1 ne1 => ?_⟩
      have hL : upd H2 L1 (.lst []) L1 = some (.lst []) := upd_same
      generalize upd H2 L1 (.lst []) = G0 at hL nx1 nd1 ⊢
      have s1 := (same_upd (o := .own x1) nd1).trans (same_upd (o := .ins (fa 138) dx1 []) (H := upd G0 dx1 (.own x1)) ((upd_ne ne1.symm).trans nx1))
      refine ⟨x1, L1, fa 1502, [], [], dx1, rfl, upd_same, lotA_mk (z := 0) W0 (.inl (SqL.of (s1 _ _ hL))) (.inr (T.z_LotInit _)) .nil (fun y h => by cases h) .nil (by decide) (fun y h => by cases h), fun G1 oth1 hL1 => ⟨rfl, ?_⟩⟩
      obtain ⟨da, _, _, _, g1, _⟩ := id hL1.at_
      refine ⟨x1, da, _, rfl, g1, rfl, x1, [], [], rfl, hL1, fun q1 ms1 G2 s2 m1 hq1 pm1 sr1 => ?_⟩
      have e1 : ms1 = [] := List.perm_nil.mp pm1
      subst e1
      refine ⟨rfl, one_line, fun L2 n2 => ?_⟩
      have s3 := same_upd (o := .lst [V.str (Str.ofString "a")]) n2
      have hL2 : upd G2 L2 (.lst [V.str (Str.ofString "a")]) L2 = some (.lst ([(Str.ofString "a" : Str)].map V.str)) := upd_same
      have hq2 := s3 _ _ hq1
      generalize upd G2 L2 (.lst [V.str (Str.ofString "a")]) = G3 at hL2 hq2 ⊢
      refine ⟨L2, [(Str.ofString "a" : Str)], Str.ofString "", [], rfl, SqL.of hL2, (fun y hy => (okA y hy).2), fb_none _ 0 [] (fun y hy => (okA y hy).1) (by simp), by simp, by decide, by decide +kernel, .inl ⟨rfl, rfl⟩, Nat.zero_le _, (fun t h => by cases h), (fun t h => by cases h), fun dss hd => ?_⟩
      cases hd
      refine ⟨rfl, fun x2 u2 G4 s4 nx2 hLb hdt => ?_⟩
      have eu : u2 = [] := List.eq_nil_of_length_eq_zero hdt.len
      subst eu
      obtain ⟨db, _, _, _, g2, _⟩ := id hLb.at_
      refine ⟨x2, db, _, rfl, g2, rfl, x2, _, _, rfl, hLb, fun q2 m2 => ?_⟩
      have s5 := same_upd (o := .lst []) m2
      have hq3 := s5 _ _ (s4 _ _ hq2)
      have hr3 : upd G4 q2 (.lst []) q2 = some (.lst []) := upd_same
      generalize upd G4 q2 (.lst []) = G5 at hq3 hr3 ⊢
      refine ⟨one_line, fun L3 n3 x3 dx3 nx3 nd3 ne3 => ?_⟩
      have s6 := same_upd (o := .lst [V.str (Str.ofString "b")]) n3
      have hL3 : upd G5 L3 (.lst [V.str (Str.ofString "b")]) L3 = some (.lst ([(Str.ofString "b" : Str)].map V.str)) := upd_same
      have hq4 := s6 _ _ hq3
      have hr4 := s6 _ _ hr3
      generalize upd G5 L3 (.lst [V.str (Str.ofString "b")]) = G6 at hL3 hq4 hr4 nx3 nd3 ⊢
      have s7 := (same_upd (o := .own x3) nd3).trans (same_upd (o := .ins (fa 138) dx3 []) (H := upd G6 dx3 (.own x3)) ((upd_ne ne3.symm).trans nx3))
      refine ⟨x3, L3, fa 1502, [(Str.ofString "b" : Str)], [], dx3, rfl, upd_same, lotA_mk (z := 0) W0 (.inl (SqL.of (s7 _ _ hL3))) (.inr (T.z_LotInit _)) .nil okB (by simp) (by decide) (fun y h => by cases h), fun G7 oth3 hLc => ⟨rfl, ?_⟩⟩
      have k7 : Same G6 G7 := fun b o e => oth3 b o (ne_of_none e nx3) (s7 _ _ e)
      obtain ⟨dc, _, _, _, g3, _⟩ := id hLc.at_
      refine ⟨x3, dc, _, rfl, g3, rfl, x3, _, [], 0, [], [], rfl, hLc, .nil, .nil, Nat.zero_le _, fun G8 s8 => ?_⟩
      refine ⟨small_line (by show 3 ≤ 1000; decide), fun D1 d1 => ?_⟩
      have s9 := same_upd (o := .lst [V.ref q1, .ref q2, vS (TL.joinL [59, 32] [])]) d1
      refine ⟨small_line (by show 0 ≤ 1000; decide), fun e1 f1 => ⟨small_line (by show 0 ≤ 1000; decide), fun e2 f2 => ⟨small_line (by show 3 ≤ 1000; decide), fun D2 d2 => ?_⟩⟩⟩
      have sa := same_upd (o := .lst []) f1
      have sb := same_upd (o := .lst []) f2
      have sc := same_upd (o := .lst [V.ref e1, .ref e2, .str (Str.ofString "")]) d2
      have sall := s9.trans (sa.trans (sb.trans sc))
      have hq9 := sall _ _ (s8 _ _ (k7 _ _ hq4))
      have hr9 := sall _ _ (s8 _ _ (k7 _ _ hr4))
      refine ⟨_, _, rfl, eqd_row ((sa.trans (sb.trans sc)) _ _ upd_same) upd_same (by show 3 ≤ 1000; decide) (.cons (eqd_row hq9 ((sb.trans sc) _ _ upd_same) (Nat.zero_le _) .nil) (.cons (eqd_row hr9 (sc _ _ upd_same) (Nat.zero_le _) .nil) (.cons ?_ .nil))), fun H' _ => q H'⟩
      rw [nilS]
      exact eqd_s _
end
set_option maxHeartbeats 0 in
theorem all_hk {w : World} {K : PySem.W.Frag} {h : Heap} {mg : Str → Option Value} {fl : Addr} (c : SaysY hA hFn hE h K) (G : h.Ns mainGlobals mg) (hfa : mg "law" = some (.ref fl)) :
    LamX.LawAtS PySem.Challenge.rw_tiespan_k16_lots_return_what_they_are_ma w K CX0 17 63 "_law_script" mg fl h := by
  have KX := c.kin
  have e := hfa.symm.trans (He.glo_ok KX G (c.fact 58 (f := .glo "law") rfl))
  cases e
  obtain ⟨fd17, D17⟩ := c.get 0 (d := hd17) rfl
  have F17 : Fun K "is_whole" "is_whole" s_p_is_whole (He.ga K "is_whole") fd17 := fun_of D17
  obtain ⟨fd19, D19⟩ := c.get 1 (d := hd19) rfl
  have F19 : Fun K "common_divisor" "common_divisor" s_p_common_divisor (He.ga K "common_divisor") fd19 := fun_of D19
  obtain ⟨fd20, D20⟩ := c.get 2 (d := hd20) rfl
  have F20 : FunD K "ratio" "ratio" (defArgs s_p_ratio) (defBody s_p_ratio) (defScope s_p_ratio) [V.int 1] [] (He.ga K "ratio") fd20 := D20
  obtain ⟨fd21, D21⟩ := c.get 3 (d := hd21) rfl
  have F21 : Fun K "is_ratio" "is_ratio" s_p_is_ratio (He.ga K "is_ratio") fd21 := fun_of D21
  obtain ⟨fd22, D22⟩ := c.get 4 (d := hd22) rfl
  have F22 : Fun K "add" "add" s_p_add (He.ga K "add") fd22 := fun_of D22
  obtain ⟨fd23, D23⟩ := c.get 5 (d := hd23) rfl
  have F23 : Fun K "subtract" "subtract" s_p_subtract (He.ga K "subtract") fd23 := fun_of D23
  obtain ⟨fd24, D24⟩ := c.get 6 (d := hd24) rfl
  have F24 : Fun K "multiply" "multiply" s_p_multiply (He.ga K "multiply") fd24 := fun_of D24
  obtain ⟨fd26, D26⟩ := c.get 7 (d := hd26) rfl
  have F26 : Fun K "is_less" "is_less" s_p_is_less (He.ga K "is_less") fd26 := fun_of D26
  obtain ⟨fd29, D29⟩ := c.get 8 (d := hd29) rfl
  have F29 : Fun K "is_digits" "is_digits" s_p_is_digits (He.ga K "is_digits") fd29 := fun_of D29
  obtain ⟨fd30, D30⟩ := c.get 9 (d := hd30) rfl
  have F30 : Fun K "number_text" "number_text" s_p_number_text (He.ga K "number_text") fd30 := fun_of D30
  obtain ⟨fd31, D31⟩ := c.get 10 (d := hd31) rfl
  have F31 : Fun K "number_of" "number_of" s_p_number_of (He.ga K "number_of") fd31 := fun_of D31
  obtain ⟨fd32, D32⟩ := c.get 11 (d := hd32) rfl
  have F32 : Fun K "ratio_text" "ratio_text" s_p_ratio_text (He.ga K "ratio_text") fd32 := fun_of D32
  obtain ⟨fd33, D33⟩ := c.get 12 (d := hd33) rfl
  have F33 : Fun K "ratio_of" "ratio_of" s_p_ratio_of (He.ga K "ratio_of") fd33 := fun_of D33
  obtain ⟨fd77, D77⟩ := c.get 13 (d := hd77) rfl
  have F77 : Fun K "run_end" "run_end" s_p_run_end (He.ga K "run_end") fd77 := fun_of D77
  obtain ⟨fd78, D78⟩ := c.get 14 (d := hd78) rfl
  have F78 : Fun K "number_symbol" "number_symbol" s_p_number_symbol (He.ga K "number_symbol") fd78 := fun_of D78
  obtain ⟨fd79, D79⟩ := c.get 15 (d := hd79) rfl
  have F79 : Fun K "name_symbol" "name_symbol" s_p_name_symbol (He.ga K "name_symbol") fd79 := fun_of D79
  obtain ⟨fd80, D80⟩ := c.get 16 (d := hd80) rfl
  have F80 : Fun K "symbol_at" "symbol_at" s_p_symbol_at (He.ga K "symbol_at") fd80 := fun_of D80
  obtain ⟨fd81, D81⟩ := c.get 17 (d := hd81) rfl
  have F81 : Fun K "symbols_of" "symbols_of" s_p_symbols_of (He.ga K "symbols_of") fd81 := fun_of D81
  obtain ⟨fd82, D82⟩ := c.get 18 (d := hd82) rfl
  have F82 : Fun K "read_term" "read_term" s_p_read_term (He.ga K "read_term") fd82 := fun_of D82
  obtain ⟨fd83, D83⟩ := c.get 19 (d := hd83) rfl
  have F83 : Fun K "read_sum" "read_sum" s_p_read_sum (He.ga K "read_sum") fd83 := fun_of D83
  obtain ⟨fd85, D85⟩ := c.get 20 (d := hd85) rfl
  have F85 : Fun K "is_name" "is_name" s_p_is_name (He.ga K "is_name") fd85 := fun_of D85
  obtain ⟨fd86, D86⟩ := c.get 21 (d := hd86) rfl
  have F86 : Fun K "is_term" "is_term" s_p_is_term (He.ga K "is_term") fd86 := fun_of D86
  obtain ⟨fd87, D87⟩ := c.get 22 (d := hd87) rfl
  have F87 : Fun K "are_terms" "are_terms" s_p_are_terms (He.ga K "are_terms") fd87 := fun_of D87
  obtain ⟨fd88, D88⟩ := c.get 23 (d := hd88) rfl
  have F88 : Fun K "is_tie" "is_tie" s_p_is_tie (He.ga K "is_tie") fd88 := fun_of D88
  obtain ⟨fd89, D89⟩ := c.get 24 (d := hd89) rfl
  have F89 : Fun K "names_in" "names_in" s_p_names_in (He.ga K "names_in") fd89 := fun_of D89
  obtain ⟨fd90, D90⟩ := c.get 25 (d := hd90) rfl
  have F90 : Fun K "reduced" "reduced" s_p_reduced (He.ga K "reduced") fd90 := fun_of D90
  obtain ⟨fd91, D91⟩ := c.get 26 (d := hd91) rfl
  have F91 : Fun K "is_kept" "is_kept" s_p_is_kept (He.ga K "is_kept") fd91 := fun_of D91
  obtain ⟨fd92, D92⟩ := c.get 27 (d := hd92) rfl
  have F92 : Fun K "term_text" "term_text" s_p_term_text (He.ga K "term_text") fd92 := fun_of D92
  obtain ⟨fd93, D93⟩ := c.get 28 (d := hd93) rfl
  have F93 : Fun K "terms_text" "terms_text" s_p_terms_text (He.ga K "terms_text") fd93 := fun_of D93
  obtain ⟨fd94, D94⟩ := c.get 29 (d := hd94) rfl
  have F94 : Fun K "tie_text" "tie_text" s_p_tie_text (He.ga K "tie_text") fd94 := fun_of D94
  obtain ⟨fd95, D95⟩ := c.get 30 (d := hd95) rfl
  have F95 : Fun K "ascending_names" "ascending_names" s_p_ascending_names (He.ga K "ascending_names") fd95 := fun_of D95
  obtain ⟨fd96, D96⟩ := c.get 31 (d := hd96) rfl
  have F96 : Fun K "brought_together" "brought_together" s_p_brought_together (He.ga K "brought_together") fd96 := fun_of D96
  obtain ⟨fd97, D97⟩ := c.get 32 (d := hd97) rfl
  have F97 : Fun K "tie_below" "tie_below" s_p_tie_below (He.ga K "tie_below") fd97 := fun_of D97
  obtain ⟨fd98, D98⟩ := c.get 33 (d := hd98) rfl
  have F98 : Fun K "read_ties" "read_ties" s_p_read_ties (He.ga K "read_ties") fd98 := fun_of D98
  obtain ⟨fd109, D109⟩ := c.get 34 (d := hd109) rfl
  have F109 : Fun K "ascending" "ascending" s_p_ascending (He.ga K "ascending") fd109 := fun_of D109
  obtain ⟨fd135, D135⟩ := c.get 35 (d := hd135) rfl
  have F135 : Fun K "first_wrong_name" "first_wrong_name" s_p_first_wrong_name (He.ga K "first_wrong_name") fd135 := fun_of D135
  obtain ⟨fd136, D136⟩ := c.get 36 (d := hd136) rfl
  have F136 : Fun K "first_wrong_tie" "first_wrong_tie" s_p_first_wrong_tie (He.ga K "first_wrong_tie") fd136 := fun_of D136
  obtain ⟨fd140, D140⟩ := c.get 37 (d := hd140) rfl
  have F140 : Fun K "_law_feed" "_law_feed" s_feed (He.ga K "_law_feed") fd140 := fun_of D140
  obtain ⟨fd141, D141⟩ := c.get 38 (d := hd141) rfl
  have F141 : Fun K "_law_draw" "_law_draw" s_draw (He.ga K "_law_draw") fd141 := fun_of D141
  obtain ⟨fd142, D142⟩ := c.get 39 (d := hd142) rfl
  have F142 : Fun K "_law_any" "_law_any" s_any (He.ga K "_law_any") fd142 := fun_of D142
  obtain ⟨fd143, D143⟩ := c.get 40 (d := hd143) rfl
  have F143 : Fun K "_law_same" "_law_same" s_same (He.ga K "_law_same") fd143 := fun_of D143
  obtain ⟨fd144, D144⟩ := c.get 41 (d := hd144) rfl
  have F144 : Fun K "_law_gcd" "_law_gcd" s_gcd (He.ga K "_law_gcd") fd144 := fun_of D144
  obtain ⟨fd145, D145⟩ := c.get 42 (d := hd145) rfl
  have F145 : Fun K "_law_low" "_law_low" s_low (He.ga K "_law_low") fd145 := fun_of D145
  obtain ⟨fd146, D146⟩ := c.get 43 (d := hd146) rfl
  have F146 : Fun K "_law_plus" "_law_plus" s_plus (He.ga K "_law_plus") fd146 := fun_of D146
  obtain ⟨fd147, D147⟩ := c.get 44 (d := hd147) rfl
  have F147 : Fun K "_law_by" "_law_by" s_by (He.ga K "_law_by") fd147 := fun_of D147
  obtain ⟨fd148, D148⟩ := c.get 45 (d := hd148) rfl
  have F148 : Fun K "_law_under" "_law_under" s_under (He.ga K "_law_under") fd148 := fun_of D148
  obtain ⟨fd149, D149⟩ := c.get 46 (d := hd149) rfl
  have F149 : Fun K "_law_rate" "_law_rate" s_rate (He.ga K "_law_rate") fd149 := fun_of D149
  obtain ⟨fd150, D150⟩ := c.get 47 (d := hd150) rfl
  have F150 : Fun K "_law_words" "_law_words" s_words (He.ga K "_law_words") fd150 := fun_of D150
  obtain ⟨fd151, D151⟩ := c.get 48 (d := hd151) rfl
  have F151 : Fun K "_law_strange" "_law_strange" s_strange (He.ga K "_law_strange") fd151 := fun_of D151
  obtain ⟨fd152, D152⟩ := c.get 49 (d := hd152) rfl
  have F152 : Fun K "_law_total" "_law_total" s_total (He.ga K "_law_total") fd152 := fun_of D152
  obtain ⟨fd153, D153⟩ := c.get 50 (d := hd153) rfl
  have F153 : Fun K "_law_keeps" "_law_keeps" s_keeps (He.ga K "_law_keeps") fd153 := fun_of D153
  obtain ⟨fd154, D154⟩ := c.get 51 (d := hd154) rfl
  have F154 : Fun K "_law_point" "_law_point" s_point (He.ga K "_law_point") fd154 := fun_of D154
  obtain ⟨fd155, D155⟩ := c.get 52 (d := hd155) rfl
  have F155 : Fun K "_law_terms" "_law_terms" s_terms (He.ga K "_law_terms") fd155 := fun_of D155
  obtain ⟨fd156, D156⟩ := c.get 53 (d := hd156) rfl
  have F156 : Fun K "_law_ties" "_law_ties" s_ties (He.ga K "_law_ties") fd156 := fun_of D156
  obtain ⟨fd157, D157⟩ := c.get 54 (d := hd157) rfl
  have F157 : Fun K "_law_brief" "_law_brief" s_brief (He.ga K "_law_brief") fd157 := fun_of D157
  obtain ⟨fd158, D158⟩ := c.get 55 (d := hd158) rfl
  have F158 : Fun K "_law_part_text" "_law_part_text" s_part_text (He.ga K "_law_part_text") fd158 := fun_of D158
  obtain ⟨fd159, D159⟩ := c.get 56 (d := hd159) rfl
  have F159 : Fun K "_law_sum_text" "_law_sum_text" s_sum_text (He.ga K "_law_sum_text") fd159 := fun_of D159
  obtain ⟨fd160, D160⟩ := c.get 57 (d := hd160) rfl
  have F160 : Fun K "_law_tie_text" "_law_tie_text" s_tie_text (He.ga K "_law_tie_text") fd160 := fun_of D160
  obtain ⟨fd161, D161⟩ := c.get 58 (d := hd161) rfl
  have F161 : Fun K "law" "law" s_p_law (He.ga K "law") fd161 := fun_of D161
  obtain ⟨fd1003, D1003⟩ := c.get 59 (d := hd1003) rfl
  have F1003 : Fun K "__init__" "InvalidRatio.__init__" (inClass (topS 3) 0) (He.ma K (He.ga K "InvalidRatio") "__init__") fd1003 := fun_of D1003
  obtain ⟨fd1004, D1004⟩ := c.get 60 (d := hd1004) rfl
  have F1004 : Fun K "__init__" "InvalidName.__init__" (inClass (topS 4) 0) (He.ma K (He.ga K "InvalidName") "__init__") fd1004 := fun_of D1004
  obtain ⟨fd1005, D1005⟩ := c.get 61 (d := hd1005) rfl
  have F1005 : Fun K "__init__" "InvalidTie.__init__" (inClass (topS 5) 0) (He.ma K (He.ga K "InvalidTie") "__init__") fd1005 := fun_of D1005
  obtain ⟨fd1006, D1006⟩ := c.get 62 (d := hd1006) rfl
  have F1006 : Fun K "__init__" "NotTied.__init__" (inClass (topS 6) 0) (He.ma K (He.ga K "NotTied") "__init__") fd1006 := fun_of D1006
  obtain ⟨fd1009, D1009⟩ := c.get 63 (d := hd1009) rfl
  have F1009 : Fun K "__init__" "ParseError.__init__" (inClass (topS 9) 0) (He.ma K (He.ga K "ParseError") "__init__") fd1009 := fun_of D1009
  obtain ⟨fd1500, D1500⟩ := c.get 64 (d := hd1500) rfl
  have F1500 : FunD K "__init__" "Lot.__init__" (defArgs s_p_LotInit) (defBody s_p_LotInit) (defScope s_p_LotInit) [V.ref (He.dflAt ("Lot", some "__init__") 0 K)] [] (He.ma K (He.ga K "Lot") "__init__") fd1500 := D1500
  obtain ⟨fd1501, D1501⟩ := c.get 65 (d := hd1501) rfl
  have F1501 : Fun K "read" "Lot.read" s_p_LotRead (smF "Lot" "read" K) fd1501 := fun_of D1501
  obtain ⟨fd1510, D1510⟩ := c.get 66 (d := hd1510) rfl
  have F1510 : Fun K "names" "Lot.names" s_p_LotNames (He.ma K (He.ga K "Lot") "names") fd1510 := fun_of D1510
  obtain ⟨fd1511, D1511⟩ := c.get 67 (d := hd1511) rfl
  have F1511 : Fun K "ties" "Lot.ties" s_p_LotTies (He.ma K (He.ga K "Lot") "ties") fd1511 := fun_of D1511
  obtain ⟨fd1512, D1512⟩ := c.get 68 (d := hd1512) rfl
  have F1512 : Fun K "text" "Lot.text" s_p_LotText (He.ma K (He.ga K "Lot") "text") fd1512 := fun_of D1512
  obtain ⟨fd1513, D1513⟩ := c.get 69 (d := hd1513) rfl
  have F1513 : Fun K "holds" "Lot.holds" s_p_LotHolds (He.ma K (He.ga K "Lot") "holds") fd1513 := fun_of D1513
  obtain ⟨fd1514, D1514⟩ := c.get 70 (d := hd1514) rfl
  have F1514 : Fun K "__eq__" "Lot.__eq__" s_p_LotEq (He.ma K (He.ga K "Lot") "__eq__") fd1514 := fun_of D1514
  obtain ⟨fd1515, D1515⟩ := c.get 71 (d := hd1515) rfl
  have F1515 : Fun K "__len__" "Lot.__len__" s_p_LotLen (He.ma K (He.ga K "Lot") "__len__") fd1515 := fun_of D1515
  obtain ⟨fd1516, D1516⟩ := c.get 72 (d := hd1516) rfl
  have F1516 : Fun K "__repr__" "Lot.__repr__" s_p_LotRepr (He.ma K (He.ga K "Lot") "__repr__") fd1516 := fun_of D1516
  have Bn20 : Binds K fd20 ["top", "under"] [] := by
    obtain ⟨ds, v, b⟩ := F20.binds1 (ps := ["top", "under"]) 2 1 (by simp) rfl fun T kV doc pm an cdv ct us its h1 h2 => match us, its, h1, h2 with | [_, _], [_], _, _ => ⟨_, rfl, rfl⟩
    cases v
    exact b
  have Bd20 := F20.binds1 (ps := ["top", "under"]) 1 0 (by simp) rfl fun T kV doc pm an cdv ct us its h1 h2 => match us, its, h1, h2 with | [_], [_], _, _ => ⟨_, rfl, rfl⟩
  have E3 : ErrC K mg "InvalidRatio" (He.ga K "InvalidRatio") (He.ga K "TieError") (He.ga K "Missing") (He.ma K (He.ga K "InvalidRatio") "__init__") := errB_ok KX G (c.own 0 (b := errB "InvalidRatio") rfl)
  have E4 : ErrC K mg "InvalidName" (He.ga K "InvalidName") (He.ga K "TieError") (He.ga K "Missing") (He.ma K (He.ga K "InvalidName") "__init__") := errB_ok KX G (c.own 1 (b := errB "InvalidName") rfl)
  have E5 : ErrC K mg "InvalidTie" (He.ga K "InvalidTie") (He.ga K "TieError") (He.ga K "Missing") (He.ma K (He.ga K "InvalidTie") "__init__") := errB_ok KX G (c.own 2 (b := errB "InvalidTie") rfl)
  have E6 : ErrC K mg "NotTied" (He.ga K "NotTied") (He.ga K "TieError") (He.ga K "Missing") (He.ma K (He.ga K "NotTied") "__init__") := errB_ok KX G (c.own 3 (b := errB "NotTied") rfl)
  have E9 : ErrC K mg "ParseError" (He.ga K "ParseError") (He.ga K "TieError") (He.ga K "Missing") (He.ma K (He.ga K "ParseError") "__init__") := errB_ok KX G (c.own 4 (b := errB "ParseError") rfl)
  have Bn1500 : Binds K (fd1500) ["self", "names", "ties"] [] := by
    obtain ⟨ds, v, b⟩ := F1500.binds1 (ps := ["self", "names", "ties"]) 3 1 (by simp) rfl fun T kV doc pm an cdv ct us its h1 h2 => match us, its, h1, h2 with | [_, _, _], [_], _, _ => ⟨_, rfl, rfl⟩
    cases v
    exact b
  have Bd1500 := F1500.binds1 (ps := ["self", "names", "ties"]) 2 0 (by simp) rfl fun T kV doc pm an cdv ct us its h1 h2 => match us, its, h1, h2 with | [_, _], [_], _, _ => ⟨_, rfl, rfl⟩
  have KB1500 : KBn K (fd1500) ["self", "names", "ties"] 1 ["ties", "names"] (fun us ws => us ++ [ws.getD 1 Value.none, ws.getD 0 Value.none]) (fun vs zs => vs ++ [zs.getD 1 V.non, zs.getD 0 V.non]) := by
    obtain ⟨oc, od, dV, kV, doc, pm, an, cdv, ct, osl, z, lk, hcd, hD, hK⟩ := F1500.ex
    rcases hD with ⟨z2, _⟩ | ⟨_, T, o, its, m, z3, lT, oT, rT⟩
    · cases z2
    · cases rT with
      | cons r1 rT =>
        cases rT
        subst z z3
        exact ⟨fun s us ws X hu hw => match us, ws, hu, hw with | [_], [a, b], _, _ => BindsTo.of_looks fun M => looks_items X lT oT (.of_pure rfl), fun r1 r2 => r1.append (swap_rel r1 r2)⟩
  have T : Txt K mg (fun i => match i with
      | 17 => He.ga K "is_whole"
      | 19 => He.ga K "common_divisor"
      | 20 => He.ga K "ratio"
      | 21 => He.ga K "is_ratio"
      | 22 => He.ga K "add"
      | 23 => He.ga K "subtract"
      | 24 => He.ga K "multiply"
      | 26 => He.ga K "is_less"
      | 29 => He.ga K "is_digits"
      | 30 => He.ga K "number_text"
      | 31 => He.ga K "number_of"
      | 32 => He.ga K "ratio_text"
      | 33 => He.ga K "ratio_of"
      | 77 => He.ga K "run_end"
      | 78 => He.ga K "number_symbol"
      | 79 => He.ga K "name_symbol"
      | 80 => He.ga K "symbol_at"
      | 81 => He.ga K "symbols_of"
      | 82 => He.ga K "read_term"
      | 83 => He.ga K "read_sum"
      | 85 => He.ga K "is_name"
      | 86 => He.ga K "is_term"
      | 87 => He.ga K "are_terms"
      | 88 => He.ga K "is_tie"
      | 89 => He.ga K "names_in"
      | 90 => He.ga K "reduced"
      | 91 => He.ga K "is_kept"
      | 92 => He.ga K "term_text"
      | 93 => He.ga K "terms_text"
      | 94 => He.ga K "tie_text"
      | 95 => He.ga K "ascending_names"
      | 96 => He.ga K "brought_together"
      | 97 => He.ga K "tie_below"
      | 98 => He.ga K "read_ties"
      | 109 => He.ga K "ascending"
      | 135 => He.ga K "first_wrong_name"
      | 136 => He.ga K "first_wrong_tie"
      | 140 => He.ga K "_law_feed"
      | 141 => He.ga K "_law_draw"
      | 142 => He.ga K "_law_any"
      | 143 => He.ga K "_law_same"
      | 144 => He.ga K "_law_gcd"
      | 145 => He.ga K "_law_low"
      | 146 => He.ga K "_law_plus"
      | 147 => He.ga K "_law_by"
      | 148 => He.ga K "_law_under"
      | 149 => He.ga K "_law_rate"
      | 150 => He.ga K "_law_words"
      | 151 => He.ga K "_law_strange"
      | 152 => He.ga K "_law_total"
      | 153 => He.ga K "_law_keeps"
      | 154 => He.ga K "_law_point"
      | 155 => He.ga K "_law_terms"
      | 156 => He.ga K "_law_ties"
      | 157 => He.ga K "_law_brief"
      | 158 => He.ga K "_law_part_text"
      | 159 => He.ga K "_law_sum_text"
      | 160 => He.ga K "_law_tie_text"
      | 161 => He.ga K "law"
      | 2 => He.ga K "TieError"
      | 10 => He.ga K "Missing"
      | 3 => He.ga K "InvalidRatio"
      | 1003 => He.ma K (He.ga K "InvalidRatio") "__init__"
      | 4 => He.ga K "InvalidName"
      | 1004 => He.ma K (He.ga K "InvalidName") "__init__"
      | 5 => He.ga K "InvalidTie"
      | 1005 => He.ma K (He.ga K "InvalidTie") "__init__"
      | 6 => He.ga K "NotTied"
      | 1006 => He.ma K (He.ga K "NotTied") "__init__"
      | 9 => He.ga K "ParseError"
      | 1009 => He.ma K (He.ga K "ParseError") "__init__"
      | 2000 => He.ga K "ZERO"
      | 138 => He.ga K "Lot"
      | 1500 => He.ma K (He.ga K "Lot") "__init__"
      | 1501 => smF "Lot" "read" K
      | 1502 => He.dflAt ("Lot", some "__init__") 0 K
      | 1510 => He.ma K (He.ga K "Lot") "names"
      | 1511 => He.ma K (He.ga K "Lot") "ties"
      | 1512 => He.ma K (He.ga K "Lot") "text"
      | 1513 => He.ma K (He.ga K "Lot") "holds"
      | 1514 => He.ma K (He.ga K "Lot") "__eq__"
      | 1515 => He.ma K (He.ga K "Lot") "__len__"
      | 1516 => He.ma K (He.ga K "Lot") "__repr__"
      | _ => He.ga K "law") (fun i => match i with
      | 17 => fd17
      | 19 => fd19
      | 20 => fd20
      | 21 => fd21
      | 22 => fd22
      | 23 => fd23
      | 24 => fd24
      | 26 => fd26
      | 29 => fd29
      | 30 => fd30
      | 31 => fd31
      | 32 => fd32
      | 33 => fd33
      | 77 => fd77
      | 78 => fd78
      | 79 => fd79
      | 80 => fd80
      | 81 => fd81
      | 82 => fd82
      | 83 => fd83
      | 85 => fd85
      | 86 => fd86
      | 87 => fd87
      | 88 => fd88
      | 89 => fd89
      | 90 => fd90
      | 91 => fd91
      | 92 => fd92
      | 93 => fd93
      | 94 => fd94
      | 95 => fd95
      | 96 => fd96
      | 97 => fd97
      | 98 => fd98
      | 109 => fd109
      | 135 => fd135
      | 136 => fd136
      | 140 => fd140
      | 141 => fd141
      | 142 => fd142
      | 143 => fd143
      | 144 => fd144
      | 145 => fd145
      | 146 => fd146
      | 147 => fd147
      | 148 => fd148
      | 149 => fd149
      | 150 => fd150
      | 151 => fd151
      | 152 => fd152
      | 153 => fd153
      | 154 => fd154
      | 155 => fd155
      | 156 => fd156
      | 157 => fd157
      | 158 => fd158
      | 159 => fd159
      | 160 => fd160
      | 161 => fd161
      | 1003 => fd1003
      | 1004 => fd1004
      | 1005 => fd1005
      | 1006 => fd1006
      | 1009 => fd1009
      | 1500 => fd1500
      | 1501 => fd1501
      | 1510 => fd1510
      | 1511 => fd1511
      | 1512 => fd1512
      | 1513 => fd1513
      | 1514 => fd1514
      | 1515 => fd1515
      | 1516 => fd1516
      | _ => fd161) := {
    F_p_is_whole := F17, g_p_is_whole := He.glo_ok KX G (c.fact 0 (f := .glo "is_whole") rfl)
    b_p_is_whole := F17.binds (ps := ["thing"]) fun _ _ _ _ _ _ us hl => match us, hl with | [_], _ => rfl
    F_p_common_divisor := F19, g_p_common_divisor := He.glo_ok KX G (c.fact 1 (f := .glo "common_divisor") rfl)
    b_p_common_divisor := F19.binds (ps := ["one", "other"]) fun _ _ _ _ _ _ us hl => match us, hl with | [_, _], _ => rfl
    F_p_ratio := F20, g_p_ratio := He.glo_ok KX G (c.fact 2 (f := .glo "ratio") rfl)
    b_p_ratio := Bn20, d_p_ratio := Bd20
    F_p_is_ratio := F21, g_p_is_ratio := He.glo_ok KX G (c.fact 3 (f := .glo "is_ratio") rfl)
    b_p_is_ratio := F21.binds (ps := ["thing"]) fun _ _ _ _ _ _ us hl => match us, hl with | [_], _ => rfl
    F_p_add := F22, g_p_add := He.glo_ok KX G (c.fact 4 (f := .glo "add") rfl)
    b_p_add := F22.binds (ps := ["one", "other"]) fun _ _ _ _ _ _ us hl => match us, hl with | [_, _], _ => rfl
    F_p_subtract := F23, g_p_subtract := He.glo_ok KX G (c.fact 5 (f := .glo "subtract") rfl)
    b_p_subtract := F23.binds (ps := ["one", "other"]) fun _ _ _ _ _ _ us hl => match us, hl with | [_, _], _ => rfl
    F_p_multiply := F24, g_p_multiply := He.glo_ok KX G (c.fact 6 (f := .glo "multiply") rfl)
    b_p_multiply := F24.binds (ps := ["one", "other"]) fun _ _ _ _ _ _ us hl => match us, hl with | [_, _], _ => rfl
    F_p_is_less := F26, g_p_is_less := He.glo_ok KX G (c.fact 7 (f := .glo "is_less") rfl)
    b_p_is_less := F26.binds (ps := ["one", "other"]) fun _ _ _ _ _ _ us hl => match us, hl with | [_, _], _ => rfl
    F_p_is_digits := F29, g_p_is_digits := He.glo_ok KX G (c.fact 8 (f := .glo "is_digits") rfl)
    b_p_is_digits := F29.binds (ps := ["text"]) fun _ _ _ _ _ _ us hl => match us, hl with | [_], _ => rfl
    F_p_number_text := F30, g_p_number_text := He.glo_ok KX G (c.fact 9 (f := .glo "number_text") rfl)
    b_p_number_text := F30.binds (ps := ["number"]) fun _ _ _ _ _ _ us hl => match us, hl with | [_], _ => rfl
    F_p_number_of := F31, g_p_number_of := He.glo_ok KX G (c.fact 10 (f := .glo "number_of") rfl)
    b_p_number_of := F31.binds (ps := ["digits"]) fun _ _ _ _ _ _ us hl => match us, hl with | [_], _ => rfl
    F_p_ratio_text := F32, g_p_ratio_text := He.glo_ok KX G (c.fact 11 (f := .glo "ratio_text") rfl)
    b_p_ratio_text := F32.binds (ps := ["one"]) fun _ _ _ _ _ _ us hl => match us, hl with | [_], _ => rfl
    F_p_ratio_of := F33, g_p_ratio_of := He.glo_ok KX G (c.fact 12 (f := .glo "ratio_of") rfl)
    b_p_ratio_of := F33.binds (ps := ["text"]) fun _ _ _ _ _ _ us hl => match us, hl with | [_], _ => rfl
    F_p_run_end := F77, g_p_run_end := He.glo_ok KX G (c.fact 13 (f := .glo "run_end") rfl)
    b_p_run_end := F77.binds (ps := ["text", "at", "letters"]) fun _ _ _ _ _ _ us hl => match us, hl with | [_, _, _], _ => rfl
    F_p_number_symbol := F78, g_p_number_symbol := He.glo_ok KX G (c.fact 14 (f := .glo "number_symbol") rfl)
    b_p_number_symbol := F78.binds (ps := ["text", "at"]) fun _ _ _ _ _ _ us hl => match us, hl with | [_, _], _ => rfl
    F_p_name_symbol := F79, g_p_name_symbol := He.glo_ok KX G (c.fact 15 (f := .glo "name_symbol") rfl)
    b_p_name_symbol := F79.binds (ps := ["text", "at"]) fun _ _ _ _ _ _ us hl => match us, hl with | [_, _], _ => rfl
    F_p_symbol_at := F80, g_p_symbol_at := He.glo_ok KX G (c.fact 16 (f := .glo "symbol_at") rfl)
    b_p_symbol_at := F80.binds (ps := ["text", "at"]) fun _ _ _ _ _ _ us hl => match us, hl with | [_, _], _ => rfl
    F_p_symbols_of := F81, g_p_symbols_of := He.glo_ok KX G (c.fact 17 (f := .glo "symbols_of") rfl)
    b_p_symbols_of := F81.binds (ps := ["text"]) fun _ _ _ _ _ _ us hl => match us, hl with | [_], _ => rfl
    F_p_read_term := F82, g_p_read_term := He.glo_ok KX G (c.fact 18 (f := .glo "read_term") rfl)
    b_p_read_term := F82.binds (ps := ["symbols", "at"]) fun _ _ _ _ _ _ us hl => match us, hl with | [_, _], _ => rfl
    F_p_read_sum := F83, g_p_read_sum := He.glo_ok KX G (c.fact 19 (f := .glo "read_sum") rfl)
    b_p_read_sum := F83.binds (ps := ["symbols", "at"]) fun _ _ _ _ _ _ us hl => match us, hl with | [_, _], _ => rfl
    F_p_is_name := F85, g_p_is_name := He.glo_ok KX G (c.fact 20 (f := .glo "is_name") rfl)
    b_p_is_name := F85.binds (ps := ["text"]) fun _ _ _ _ _ _ us hl => match us, hl with | [_], _ => rfl
    F_p_is_term := F86, g_p_is_term := He.glo_ok KX G (c.fact 21 (f := .glo "is_term") rfl)
    b_p_is_term := F86.binds (ps := ["thing"]) fun _ _ _ _ _ _ us hl => match us, hl with | [_], _ => rfl
    F_p_are_terms := F87, g_p_are_terms := He.glo_ok KX G (c.fact 22 (f := .glo "are_terms") rfl)
    b_p_are_terms := F87.binds (ps := ["thing"]) fun _ _ _ _ _ _ us hl => match us, hl with | [_], _ => rfl
    F_p_is_tie := F88, g_p_is_tie := He.glo_ok KX G (c.fact 23 (f := .glo "is_tie") rfl)
    b_p_is_tie := F88.binds (ps := ["thing"]) fun _ _ _ _ _ _ us hl => match us, hl with | [_], _ => rfl
    F_p_names_in := F89, g_p_names_in := He.glo_ok KX G (c.fact 24 (f := .glo "names_in") rfl)
    b_p_names_in := F89.binds (ps := ["tie"]) fun _ _ _ _ _ _ us hl => match us, hl with | [_], _ => rfl
    F_p_reduced := F90, g_p_reduced := He.glo_ok KX G (c.fact 25 (f := .glo "reduced") rfl)
    b_p_reduced := F90.binds (ps := ["tie"]) fun _ _ _ _ _ _ us hl => match us, hl with | [_], _ => rfl
    F_p_is_kept := F91, g_p_is_kept := He.glo_ok KX G (c.fact 26 (f := .glo "is_kept") rfl)
    b_p_is_kept := F91.binds (ps := ["tie", "values"]) fun _ _ _ _ _ _ us hl => match us, hl with | [_, _], _ => rfl
    F_p_term_text := F92, g_p_term_text := He.glo_ok KX G (c.fact 27 (f := .glo "term_text") rfl)
    b_p_term_text := F92.binds (ps := ["name", "rate"]) fun _ _ _ _ _ _ us hl => match us, hl with | [_, _], _ => rfl
    F_p_terms_text := F93, g_p_terms_text := He.glo_ok KX G (c.fact 28 (f := .glo "terms_text") rfl)
    b_p_terms_text := F93.binds (ps := ["terms"]) fun _ _ _ _ _ _ us hl => match us, hl with | [_], _ => rfl
    F_p_tie_text := F94, g_p_tie_text := He.glo_ok KX G (c.fact 29 (f := .glo "tie_text") rfl)
    b_p_tie_text := F94.binds (ps := ["tie"]) fun _ _ _ _ _ _ us hl => match us, hl with | [_], _ => rfl
    F_p_ascending_names := F95, g_p_ascending_names := He.glo_ok KX G (c.fact 30 (f := .glo "ascending_names") rfl)
    b_p_ascending_names := F95.binds (ps := ["rates"]) fun _ _ _ _ _ _ us hl => match us, hl with | [_], _ => rfl
    F_p_brought_together := F96, g_p_brought_together := He.glo_ok KX G (c.fact 31 (f := .glo "brought_together") rfl)
    b_p_brought_together := F96.binds (ps := ["left", "right"]) fun _ _ _ _ _ _ us hl => match us, hl with | [_, _], _ => rfl
    F_p_tie_below := F97, g_p_tie_below := He.glo_ok KX G (c.fact 32 (f := .glo "tie_below") rfl)
    b_p_tie_below := F97.binds (ps := ["left", "right"]) fun _ _ _ _ _ _ us hl => match us, hl with | [_, _], _ => rfl
    F_p_read_ties := F98, g_p_read_ties := He.glo_ok KX G (c.fact 33 (f := .glo "read_ties") rfl)
    b_p_read_ties := F98.binds (ps := ["text"]) fun _ _ _ _ _ _ us hl => match us, hl with | [_], _ => rfl
    F_p_ascending := F109, g_p_ascending := He.glo_ok KX G (c.fact 34 (f := .glo "ascending") rfl)
    b_p_ascending := F109.binds (ps := ["names"]) fun _ _ _ _ _ _ us hl => match us, hl with | [_], _ => rfl
    F_p_first_wrong_name := F135, g_p_first_wrong_name := He.glo_ok KX G (c.fact 35 (f := .glo "first_wrong_name") rfl)
    b_p_first_wrong_name := F135.binds (ps := ["names"]) fun _ _ _ _ _ _ us hl => match us, hl with | [_], _ => rfl
    F_p_first_wrong_tie := F136, g_p_first_wrong_tie := He.glo_ok KX G (c.fact 36 (f := .glo "first_wrong_tie") rfl)
    b_p_first_wrong_tie := F136.binds (ps := ["ties", "names"]) fun _ _ _ _ _ _ us hl => match us, hl with | [_, _], _ => rfl
    F_feed := F140, g_feed := He.glo_ok KX G (c.fact 37 (f := .glo "_law_feed") rfl)
    b_feed := F140.binds (ps := ["_law_script"]) fun _ _ _ _ _ _ us hl => match us, hl with | [_], _ => rfl
    F_draw := F141, g_draw := He.glo_ok KX G (c.fact 38 (f := .glo "_law_draw") rfl)
    b_draw := F141.binds (ps := ["_law_feed_here", "_law_many"]) fun _ _ _ _ _ _ us hl => match us, hl with | [_, _], _ => rfl
    F_any := F142, g_any := He.glo_ok KX G (c.fact 39 (f := .glo "_law_any") rfl)
    b_any := F142.binds (ps := ["_law_feed_here", "_law_row"]) fun _ _ _ _ _ _ us hl => match us, hl with | [_, _], _ => rfl
    F_same := F143, g_same := He.glo_ok KX G (c.fact 40 (f := .glo "_law_same") rfl)
    b_same := F143.binds (ps := ["_law_found", "_law_due"]) fun _ _ _ _ _ _ us hl => match us, hl with | [_, _], _ => rfl
    F_gcd := F144, g_gcd := He.glo_ok KX G (c.fact 41 (f := .glo "_law_gcd") rfl)
    b_gcd := F144.binds (ps := ["_law_one", "_law_two"]) fun _ _ _ _ _ _ us hl => match us, hl with | [_, _], _ => rfl
    F_low := F145, g_low := He.glo_ok KX G (c.fact 42 (f := .glo "_law_low") rfl)
    b_low := F145.binds (ps := ["_law_upper", "_law_lower"]) fun _ _ _ _ _ _ us hl => match us, hl with | [_, _], _ => rfl
    F_plus := F146, g_plus := He.glo_ok KX G (c.fact 43 (f := .glo "_law_plus") rfl)
    b_plus := F146.binds (ps := ["_law_one", "_law_two"]) fun _ _ _ _ _ _ us hl => match us, hl with | [_, _], _ => rfl
    F_by := F147, g_by := He.glo_ok KX G (c.fact 44 (f := .glo "_law_by") rfl)
    b_by := F147.binds (ps := ["_law_one", "_law_two"]) fun _ _ _ _ _ _ us hl => match us, hl with | [_, _], _ => rfl
    F_under := F148, g_under := He.glo_ok KX G (c.fact 45 (f := .glo "_law_under") rfl)
    b_under := F148.binds (ps := ["_law_one", "_law_two"]) fun _ _ _ _ _ _ us hl => match us, hl with | [_, _], _ => rfl
    F_rate := F149, g_rate := He.glo_ok KX G (c.fact 46 (f := .glo "_law_rate") rfl)
    b_rate := F149.binds (ps := ["_law_feed_here"]) fun _ _ _ _ _ _ us hl => match us, hl with | [_], _ => rfl
    F_words := F150, g_words := He.glo_ok KX G (c.fact 47 (f := .glo "_law_words") rfl)
    b_words := F150.binds (ps := ["_law_feed_here", "_law_many"]) fun _ _ _ _ _ _ us hl => match us, hl with | [_, _], _ => rfl
    F_strange := F151, g_strange := He.glo_ok KX G (c.fact 48 (f := .glo "_law_strange") rfl)
    b_strange := F151.binds (ps := ["_law_words_here"]) fun _ _ _ _ _ _ us hl => match us, hl with | [_], _ => rfl
    F_total := F152, g_total := He.glo_ok KX G (c.fact 49 (f := .glo "_law_total") rfl)
    b_total := F152.binds (ps := ["_law_terms_here", "_law_values"]) fun _ _ _ _ _ _ us hl => match us, hl with | [_, _], _ => rfl
    F_keeps := F153, g_keeps := He.glo_ok KX G (c.fact 50 (f := .glo "_law_keeps") rfl)
    b_keeps := F153.binds (ps := ["_law_tie", "_law_values"]) fun _ _ _ _ _ _ us hl => match us, hl with | [_, _], _ => rfl
    F_point := F154, g_point := He.glo_ok KX G (c.fact 51 (f := .glo "_law_point") rfl)
    b_point := F154.binds (ps := ["_law_feed_here", "_law_words_here"]) fun _ _ _ _ _ _ us hl => match us, hl with | [_, _], _ => rfl
    F_terms := F155, g_terms := He.glo_ok KX G (c.fact 52 (f := .glo "_law_terms") rfl)
    b_terms := F155.binds (ps := ["_law_feed_here", "_law_words_here", "_law_pairs"]) fun _ _ _ _ _ _ us hl => match us, hl with | [_, _, _], _ => rfl
    F_ties := F156, g_ties := He.glo_ok KX G (c.fact 53 (f := .glo "_law_ties") rfl)
    b_ties := F156.binds (ps := ["_law_feed_here", "_law_words_here", "_law_many", "_law_open_cases"]) fun _ _ _ _ _ _ us hl => match us, hl with | [_, _, _, _], _ => rfl
    F_brief := F157, g_brief := He.glo_ok KX G (c.fact 54 (f := .glo "_law_brief") rfl)
    b_brief := F157.binds (ps := ["_law_tie"]) fun _ _ _ _ _ _ us hl => match us, hl with | [_], _ => rfl
    F_part_text := F158, g_part_text := He.glo_ok KX G (c.fact 55 (f := .glo "_law_part_text") rfl)
    b_part_text := F158.binds (ps := ["_law_one"]) fun _ _ _ _ _ _ us hl => match us, hl with | [_], _ => rfl
    F_sum_text := F159, g_sum_text := He.glo_ok KX G (c.fact 56 (f := .glo "_law_sum_text") rfl)
    b_sum_text := F159.binds (ps := ["_law_terms_here"]) fun _ _ _ _ _ _ us hl => match us, hl with | [_], _ => rfl
    F_tie_text := F160, g_tie_text := He.glo_ok KX G (c.fact 57 (f := .glo "_law_tie_text") rfl)
    b_tie_text := F160.binds (ps := ["_law_tie"]) fun _ _ _ _ _ _ us hl => match us, hl with | [_], _ => rfl
    F_p_law := F161, g_p_law := He.glo_ok KX G (c.fact 58 (f := .glo "law") rfl)
    b_p_law := F161.binds (ps := ["_law_script"]) fun _ _ _ _ _ _ us hl => match us, hl with | [_], _ => rfl
    eInvalidRatio := E3, IInvalidRatio := F1003
    bIInvalidRatio := F1003.binds (ps := ["self", "given"]) fun _ _ _ _ _ _ us hl => match us, hl with | [_, _], _ => rfl
    nInvalidRatio_given := He.noat_ok (c.fact 61 (f := .noat "InvalidRatio" "given") rfl)
    eInvalidName := E4, IInvalidName := F1004
    bIInvalidName := F1004.binds (ps := ["self", "name"]) fun _ _ _ _ _ _ us hl => match us, hl with | [_, _], _ => rfl
    nInvalidName_name := He.noat_ok (c.fact 62 (f := .noat "InvalidName" "name") rfl)
    eInvalidTie := E5, IInvalidTie := F1005
    bIInvalidTie := F1005.binds (ps := ["self", "at"]) fun _ _ _ _ _ _ us hl => match us, hl with | [_, _], _ => rfl
    nInvalidTie_at := He.noat_ok (c.fact 63 (f := .noat "InvalidTie" "at") rfl)
    eNotTied := E6, INotTied := F1006
    bINotTied := F1006.binds (ps := ["self", "many"]) fun _ _ _ _ _ _ us hl => match us, hl with | [_, _], _ => rfl
    nNotTied_many := He.noat_ok (c.fact 64 (f := .noat "NotTied" "many") rfl)
    eParseError := E9, IParseError := F1009
    bIParseError := F1009.binds (ps := ["self", "at"]) fun _ _ _ _ _ _ us hl => match us, hl with | [_, _], _ => rfl
    nParseError_at := He.noat_ok (c.fact 65 (f := .noat "ParseError" "at") rfl)
    gTieError := He.glo_ok KX G (c.fact 59 (f := .glo "TieError") rfl), gMissing := He.glo_ok KX G (c.fact 60 (f := .glo "Missing") rfl)
    m_int := He.free_ok KX G (c.fact 72 (f := .free "int") rfl)
    m_len := He.free_ok KX G (c.fact 73 (f := .free "len") rfl)
    m_abs := He.free_ok KX G (c.fact 74 (f := .free "abs") rfl)
    m_range := He.free_ok KX G (c.fact 75 (f := .free "range") rfl)
    m_zip := He.free_ok KX G (c.fact 76 (f := .free "zip") rfl)
    m_all := He.free_ok KX G (c.fact 77 (f := .free "all") rfl)
    m_isinstance := He.free_ok KX G (c.fact 78 (f := .free "isinstance") rfl)
    m_bool := He.free_ok KX G (c.fact 79 (f := .free "bool") rfl)
    m_str := He.free_ok KX G (c.fact 80 (f := .free "str") rfl)
    m_tuple := He.free_ok KX G (c.fact 81 (f := .free "tuple") rfl)
    m_list := He.free_ok KX G (c.fact 82 (f := .free "list") rfl)
    m_dict := He.free_ok KX G (c.fact 83 (f := .free "dict") rfl)
    m_sorted := He.free_ok KX G (c.fact 84 (f := .free "sorted") rfl)
    m_set := He.free_ok KX G (c.fact 85 (f := .free "set") rfl)
    m_enumerate := He.free_ok KX G (c.fact 86 (f := .free "enumerate") rfl)
    c_LONG := intC KX G (c.fact 66 rfl)
    c_ZERO := refC KX G (c.fact 67 (f := .glo "ZERO") rfl)
    c_DIGITS := strC KX G (c.fact 68 rfl)
    c_LETTERS := strC KX G (c.fact 69 rfl)
    c_MOST_DIGITS := intC KX G (c.fact 70 rfl)
    c_MOST_LETTERS := intC KX G (c.fact 71 rfl)
    z_ZERO := fun H => tupY_ok (c.own 5 (b := fun K => tupY K (He.ga K "ZERO") [V.int 0, V.int 1]) rfl) H
    F_LotInit := F1500, b_LotInit := Bn1500, b_LotInit1 := Bd1500, kb_LotInit := KB1500
    z_LotInit := fun H => tupY_ok (c.own 8 (b := fun K => tupY K (He.dflAt ("Lot", some "__init__") 0 K) []) rfl) H
    F_LotRead := F1501
    b_LotRead := F1501.binds (ps := ["names", "text"]) fun _ _ _ _ _ _ us hl => match us, hl with | [_, _], _ => rfl
    mk_Lot := mkB_ok (c.own 6 (b := mkB (fun K => He.ga K "Lot") (fun K => He.ma K (He.ga K "Lot") "__init__")) rfl), g_Lot := He.glo_ok KX G (c.fact 87 (f := .glo "Lot") rfl), sm_Lot := smB_ok (c.own 7 (b := smB "Lot" "read") rfl)
    cl_Lot := He.cls_ok (c.fact 88 (f := .cls "Lot") rfl), na_unknowns := He.noat_ok (c.fact 89 (f := .noat "Lot" "unknowns") rfl), na_bonds := He.noat_ok (c.fact 90 (f := .noat "Lot" "bonds") rfl)
    F_LotNames := F1510, me_LotNames := He.meth_ok (c.fact 92 (f := .meth "Lot" "names") rfl)
    b_LotNames := F1510.binds (ps := ["self"]) fun _ _ _ _ _ _ us hl => match us, hl with | [_], _ => rfl
    F_LotTies := F1511, me_LotTies := He.meth_ok (c.fact 93 (f := .meth "Lot" "ties") rfl)
    b_LotTies := F1511.binds (ps := ["self"]) fun _ _ _ _ _ _ us hl => match us, hl with | [_], _ => rfl
    F_LotText := F1512, me_LotText := He.meth_ok (c.fact 94 (f := .meth "Lot" "text") rfl)
    b_LotText := F1512.binds (ps := ["self"]) fun _ _ _ _ _ _ us hl => match us, hl with | [_], _ => rfl
    F_LotHolds := F1513, me_LotHolds := He.meth_ok (c.fact 95 (f := .meth "Lot" "holds") rfl)
    b_LotHolds := F1513.binds (ps := ["self", "values"]) fun _ _ _ _ _ _ us hl => match us, hl with | [_, _], _ => rfl
    F_LotEq := F1514, me_LotEq := He.meth_ok (c.fact 96 (f := .meth "Lot" "__eq__") rfl)
    b_LotEq := F1514.binds (ps := ["self", "other"]) fun _ _ _ _ _ _ us hl => match us, hl with | [_, _], _ => rfl
    F_LotLen := F1515, me_LotLen := He.meth_ok (c.fact 97 (f := .meth "Lot" "__len__") rfl)
    b_LotLen := F1515.binds (ps := ["self"]) fun _ _ _ _ _ _ us hl => match us, hl with | [_], _ => rfl
    F_LotRepr := F1516, me_LotRepr := He.meth_ok (c.fact 98 (f := .meth "Lot" "__repr__") rfl)
    b_LotRepr := F1516.binds (ps := ["self"]) fun _ _ _ _ _ _ us hl => match us, hl with | [_], _ => rfl
  }
  have hi := insB_ok (T.cl_Lot : Cls K (He.ga K "Lot")) (c.own 9 (b := insB "Lot") rfl)
  refine ⟨_, [], spLaw K, (fun p hp => by cases hp), (fun p hp => by cases hp), (fun p hp => by cases hp), fun s u => D161.bindsA (ps := ["_law_script"]) (fun _ _ _ _ _ _ us hl => match us, hl with | [_], _ => rfl) s [u] rfl, fun H a ns hl _ _ hS => ⟨a, ns, rfl, hS, hl, fun _ => rfl⟩, fun base _ _ _ => ok_p_law T ⟨He.free_ok KX G (c.fact 91 (f := .free "repr") rfl), hi.1, hi.2⟩⟩
end T8
open PySem PySem.W PySem.Calls PyProof.Rows
set_option maxHeartbeats 0 in
theorem PySem.Challenge.cw_tiespan_k16_lots_return_what_they_are_ma_holds : PySem.Challenge.rw_tiespan_k16_lots_return_what_they_are_ma.Holds := by
  w_on; o_law
  refine HandSHeadRun.head_any (r := T8.hR) (q := T8.hQ) (H := T8.hk) (ob := T8.hob) (M := 12000) (loose := T8.hN) (d := HandSHeadRun.topDef T8.hR.prog 161) (kwd := []) T8.hob_eq
    (by kernel_rfl) (fun s => by kernel_rfl) T8.hrun (by kernel_rfl) (by kernel_rfl) (by kernel_rfl) (by rfl) (by first | assumption | decide +kernel) (by decide +kernel) ⟨rfl, rfl, rfl, rfl, rfl, by decide +kernel⟩ ?hw ?hc
  case hw => w_witness2
  case hc =>
    refine LamX.walk_ofTsE (l := PySem.Challenge.rw_tiespan_k16_lots_return_what_they_are_ma) (n := 63) (k := 17) (x := "_law_script") (CX := fun _ => L2.CX0) rfl (by decide) (by kernel_rfl) ⟨rfl, by decide, by decide⟩ ?F (fun _ _ _ _ _ z => z)
    intro w mg fa h Y G hmg0
    obtain ⟨K, c⟩ := Y
    have hmg : mg ("law" : PySem.Str) = some (.ref fa) := by
      have e : (HandSHeadRun.topDef T8.hR.prog 161).name = ("law" : PySem.Str) := by kernel_rfl
      rw [← e]
      exact hmg0
    exact ⟨K, c.kin, T8.all_hk (w := w) c G hmg⟩

import PyProof.Rows.All
import Wide.All
import OpenK.AllK
import Wide.FinOn
import HandS.ForMost
import HandS.Wide
import HandS.Conv
import HandS.EndBits
import HandS.ForExc
import HandS.Style
import HandS.Codes
import HandS.Property
import HandS.MakeKwOnly
import HandS.IsInst
import HandS.TupAny
import HandS.Walk
import PySem.Challenge.RW_tightranges_k01_ranges_that_meet
set_option Elab.async false
set_option linter.all false
set_option maxRecDepth 100000
namespace Gd
open PySem PySem.Spec PyProof.Rows L2

/-! ### a def called where no repr is under way -/
structure FnGd (P : Program) (w : World) (K : PySem.W.Frag) (mg : Str → Option Value)
    (base : Heap) (k : Nat) (f : Addr) (fd : FuncData) (ps : List Str) (sp : Sp) : Prop where
  len : ∀ vs H Q E, sp vs H Q E → vs.length = ps.length
  run : ∀ (A : Around) (out : List Env) (s : Shared) (H : Hp) (args : Args)
      (us : List Value) (vs : List V) (Q : VK) (E : XK),
      A.guards = some [] → Room k A → Env0 P w K mg base A out s H →
      BindsTo s fd args (ps.zip us) → Vals vs us → sp vs H Q E →
      codeAny (model P w) A (.call (.ref f) args) (CR CX0 out P w H s Q E) s

section
variable {P : Program} {w : World} {K : PySem.W.Frag} {mg : Str → Option Value} {base : Heap}

theorem okG {x qual : Str} {st : Stmt} {f : Addr} {fd : FuncData} {N ps : List Str} {k : Nat} {sp : Sp}
    (F : Fun K x qual st f fd) (S : FnScope N ps (defScope st))
    (len : ∀ vs H Q E, sp vs H Q E → vs.length = ps.length)
    (hb : ∀ (cdv : Value) (A : Around) (out : List Env) (s : Shared) (H : Hp) (vs : List V) (Q : VK) (E : XK),
      (A.deeper (envOfC qual (defScope st) s.heap.objs.size f cdv)).guards = some [] →
      Room k (A.deeper (envOfC qual (defScope st) s.heap.objs.size f cdv)) → sp vs H Q E →
      ∃ t, PSs (cxOf CX0 P w K mg base N qual (defScope st) f cdv A out s H E).nox (defBody st) t ∧
        t { nx := fun _ H' => Q .non H', rt := Q } (start N vs) H) :
    FnGd P w K mg base (k + 1) f fd ps sp := by
  obtain ⟨oc, od, kV, doc, pm, an, cdv, ct, osl, rfl, lk, cdok⟩ := F.ex
  constructor
  · exact len
  intro A out s H args us vs Q E gA rm env bnd rel pre
  have pl := len vs H Q E pre
  have keep : ∀ b o, base.get? b = some o → s.heap.get? b = some o := fun b o e => (env.bs b o e).1
  have kin := env.mod.kin.keeps keep
  have nol := env.mod.nolimit.keeps keep
  refine codeAny_call_function rm.depth (kin _ _ lk) rfl S.co S.gen rfl
    (PySem.W.codeRec_of kin cdok) (bnd _ _ _ _ ?_)
  refine wpAny_newFunctionEnv_cells S.kind ?_ fun en he s1 xx => ?_
  · rintro ⟨nm, val⟩ mem
    cases S.par nm (List.of_mem_zip mem).1 with
    | inl q => exact .inl q
    | inr q => exact .inr ⟨q, PySem.W.cellsFrom_some _ _ _ (.inl q)⟩
  subst he
  refine ⟨nol.keeps xx.toInCall.keep, codeAny_func ?_⟩
  obtain ⟨t, ht, hq⟩ := hb cdv A out s H vs Q E gA (rm.deeper _) pre
  have J0 := inv_start (CX := CX0) (E := E) (qual := qual) (f := f) (cd := cdv) S rm.hd env pl rel xx
  refine wpAny_mono (ht.nox.run [] s1 (start N vs) H _ J0 hq) ?_ (fun _ _ z => z)
  intro fl s' post
  cases fl with
  | next =>
    obtain ⟨_, H', J, q⟩ := post
    exact ⟨.non, H', J.os, J.bare, J.base, J.hok, rfl, q⟩
  | ret u =>
    obtain ⟨v, _, H', J, rv, q⟩ := post
    exact ⟨v, H', J.os, J.bare, J.base, J.hok, rv, q⟩
  | brk =>
    obtain ⟨_, _, _, no⟩ := post
    cases no
  | cont =>
    obtain ⟨_, _, _, no⟩ := post
    cases no

/-- the law's call at its own place: nothing is under way there -/
theorem lawG {mb : Str → Option Value} {k : Nat} {fa a : Addr} {fd : FuncData} {x : Str} {sp : Sp}
    {s : Shared} {vs : List Value} {ns : List Int}
    (kin : K.In s.heap) (glo : s.heap.Ns mainGlobals mg) (blt : s.heap.Ns builtinsNs mb)
    (boot : ∀ x : Str, x ≠ "__name__" → mb x = bootBuiltins x) (nol : s.heap.NoLimit) (gen : s.gens = #[])
    (obj : s.heap.get? a = some { cls := .type "list", data := .seq vs.toArray }) (insc : IntsAre vs ns)
    (short : ns.length ≤ sizeLine) (rm : Room k callerA)
    (F : ∀ base : Heap, K.In base → base.Ns mainGlobals mg → FnGd P w K mg base k fa fd [x] sp)
    (bnd : ∀ (s : Shared) (u : Value), BindsTo s fd ⟨[u], []⟩ [(x, u)])
    (pre : ∀ H : Hp, SqL K H a (ns.map V.int) → sp [.ref a] H (fun v _ => v = .bl true) E0) :
    codeAny (model P w) callerA (.call (.ref fa) ⟨[.ref a], []⟩)
      (fun r s' => r = .ok (.ret (.bool true)) ∧ OldK s.heap s'.heap ∧ s'.os = s.os ∧ AllBare s'.gens) s := by
  have rel : Vals (ns.map V.int) vs := vals_ints insc
  have cnt : vs.length = ns.length := insc.length
  let scr : Obj := { cls := .type "list", data := .seq vs.toArray }
  -- what is tracked at first: the script, unless the module knows it
  let H : Hp := fun b => if b = a ∧ K.lookup a = none then some (.frz scr (.lst (ns.map V.int))) else none
  have track : ∀ b u, H b = some u → b = a ∧ K.lookup a = none ∧ u = .frz scr (.lst (ns.map V.int)) := by
    intro b u e
    by_cases c : b = a ∧ K.lookup a = none
    · have e2 : some (HO.frz scr (.lst (ns.map V.int))) = some u := (if_pos c).symm.trans e
      exact ⟨c.1, c.2, (Option.some.inj e2).symm⟩
    · have e2 : (none : Option HO) = some u := (if_neg c).symm.trans e
      cases e2
  have isl : SqL K H a (ns.map V.int) := by
    cases q : K.lookup a with
    | none => exact .inl (.inr ⟨scr, if_pos ⟨rfl, q⟩⟩)
    | some o =>
      have o2 := kin a o q
      rw [obj] at o2
      cases o2
      exact .inr ⟨_, vs.toArray, _, q, rfl, rfl, rfl, by rw [List.size_toArray, cnt]; exact short, by simpa using rel⟩
  have hok : HOk P w H s.heap := by
    intro b u e
    obtain ⟨rfl, _, rfl⟩ := track b u e
    exact ⟨obj, by rw [List.length_map]; exact short, vs, _, rel, obj⟩
  have nodict : ∀ {b : Addr} {o : Obj} {es : Array DictEntry} {ep : Nat}, s.heap.get? b = some o → o.data = .dict es ep → H b = none := by
    intro b o es ep e d
    cases q : H b with
    | none => rfl
    | some u =>
      obtain ⟨rfl, _, _⟩ := track b u q
      rw [obj] at e
      cases e
      cases (show Data.seq vs.toArray _ = Data.dict es ep from d)
  have nspace : ∀ {b : Addr} {m : Str → Option Value}, s.heap.Ns b m → (hidT s.heap H).Ns b m := by
    rintro b m ⟨o, es, ep, e, d, r⟩
    exact ⟨o, es, ep, hidT_get e (nodict e d), d, r⟩
  have kin2 : K.In (hidT s.heap H) := by
    intro b o e
    refine hidT_get (kin b o e) ?_
    cases q : H b with
    | none => rfl
    | some u =>
      obtain ⟨rfl, n, _⟩ := track b u q
      rw [n] at e
      cases e
  have mod : Mod K mg (hidT s.heap H) := by
    refine ⟨kin2, nspace glo, ⟨mb, nspace blt, boot⟩, ?_⟩
    obtain ⟨mc, n1, n2⟩ := nol
    exact ⟨mc, nspace n1, n2⟩
  have env : Env0 P w K mg (hidT s.heap H) callerA [] s H := by
    refine ⟨rfl, mod, fun b o e => of_hidT e, Nat.le_of_eq (hidT_size _ _), trivial, ?_, hok, .of_eq gen⟩
    intro b m
    cases (show b ∈ ([] : List Addr) from m)
  have run := (F _ kin2 (nspace glo)).run callerA [] s H ⟨[.ref a], []⟩ [.ref a] [.ref a] _ _ rfl rm env
    (bnd s (.ref a)) (.cons rfl .nil) (pre H isl)
  refine codeAny_mono run ?_
  intro r s' post
  cases r with
  | error e => exact (post : False).elim
  | ok fl =>
    cases fl with
    | ret u =>
      obtain ⟨v, H', os, bare, un, hok', rv, vt⟩ := post
      have vt' : v = .bl true := vt
      subst vt'
      have ut : u = Value.bool true := rv
      subst ut
      refine ⟨rfl, OldK.of_keep ?_, os, bare⟩
      intro b o e
      cases q : H b with
      | none => exact un.keep b o e q (fun m => by cases (show b ∈ ([] : List Addr) from m)) (by simp)
      | some u2 =>
        obtain ⟨rfl, _, rfl⟩ := track b u2 q
        have stays := un.frzs b _ _ q
        have o1 := (hok b _ q).1
        have o2 := (hok' b _ stays).1
        rw [e] at o1
        cases o1
        exact o2
    | next => exact (post : False).elim
    | brk => exact (post : False).elim
    | cont => exact (post : False).elim
end

/-- the end of a law's proof -/
theorem walkG {l : PySem.W.OpenLaw} {n k : Nat} {q : Program} {loose : List Str} {XP : (Str → Option Value) → Heap → Prop}
    {YP : World → Heap → Prop} {d : DefRec} {K : Params → PySem.W.Frag} {sp : World → Sp} {x : Str}
    (most : l.most = some n) (small : n ≤ sizeLine) (plain : d.params.defaults = []) (rm : Room k callerA)
    (hY : ∀ (w : World) (h : Heap), YP w h → (K w.params).In h)
    (F : ∀ (w : World) (mg : Str → Option Value) (fa : Addr) (h : Heap),
      (K w.params).In h → h.Ns mainGlobals mg → mg d.name = some (.ref fa) →
      ∃ fd : FuncData, (∀ (s : Shared) (u : Value), BindsTo s fd ⟨[u], []⟩ [(x, u)]) ∧
        ∀ base : Heap, (K w.params).In base → base.Ns mainGlobals mg →
          FnGd l.prog w (K w.params) mg base k fa fd [x] (sp w))
    (pre : ∀ (w : World) (H : Hp) (a : Addr) (ns : List Int), ns.length ≤ n → (∀ z ∈ ns, Builtin.Int.intBits z ≤ 1048576) →
      SqL (K w.params) H a (ns.map V.int) → sp w [.ref a] H (fun v _ => v = .bl true) E0) :
    PySem.W.WalkO q loose XP YP l.row.toRowW d [] (fun f vs => PySem.call f vs) := by
  apply Att.attach_callB most plain
  intro w s0 s1 mg mb fa o pm cd doc a vs ns G Y _ _ _ named obj insc le bits gen
  obtain ⟨fd, bnd, all⟩ := F w mg fa _ (hY w _ Y) G.T.g named
  exact lawG (hY w _ Y) G.T.g G.T.b G.T.builtins G.T.nolimit gen obj insc (Nat.le_trans le small) rm all bnd
    fun H isl => pre w H a ns le bits isl

/-! ### rules -/
section
variable {X : Cx}
/-- repr of data -/
theorem call_repr {k : Nat} (gd : X.A.guards = some []) (hr : Room k X.A) : CallR X (.builtin "repr") (fun xs H Q => ∃ v d, xs = [v] ∧
    Dp X.K H v d ∧ d.hasDict = false ∧ d.showable = true ∧ d.depth ≤ 64 ∧ d.shown.length ≤ sizeLine ∧ (∃ a, v = .ref a) ∧ Q (.str d.shown) H) := by
  intro pins s σ H xs us Q I r h
  obtain ⟨v, d, rfl, dp, nod, sh, deep, fits, ⟨a, rfl⟩, q⟩ := h
  obtain ⟨u, rfl, ru⟩ := vals1 r
  cases ru
  obtain ⟨as, rd⟩ := Dp.reads I d _ _ dp rfl
  have room := hr.un
  refine repr_of_reads' rd sh (PyData.noDict_hsm nod) gd (by omega) (fun _ _ e => e) ?_ fits
  intro h' u tk keep
  exact ⟨.str _, H, I.kept keep, ⟨u, rfl⟩, q⟩
/-- i ** j, of great i -/
def CPowW (i j : Int) : Prop := 0 ≤ j ∧ (Builtin.Int.intBits i : Int) * j ≤ 2 ^ 27
theorem op_powW : OpR X (binaryOp .Pow) (rI CPowW fun i j => .int (i ^ j.toNat)) :=
  opI fun _ _ _ _ _ _ _ hc q => pow_int hc.1 hc.2 q
end
end Gd

set_option Elab.async false
set_option linter.all false
set_option maxRecDepth 100000
namespace Gd
open PySem PySem.Spec PyProof.Rows L2

/-! ### a def of the text, with all that a caller needs -/
structure Dn (P : Program) (w : World) (K : PySem.W.Frag) (mg : Str → Option Value) (base : Heap)
    (k : Nat) (x : Str) (st : Stmt) (ps : List Str) (sp : Sp) : Prop where
  ex : ∃ f fd, Fun K x x st f fd ∧ Binds K fd ps [] ∧ mg x = some (.ref f) ∧ FnOk P w K mg base CX0 k f fd ps sp
structure DnG (P : Program) (w : World) (K : PySem.W.Frag) (mg : Str → Option Value) (base : Heap)
    (k : Nat) (x : Str) (st : Stmt) (ps : List Str) (sp : Sp) : Prop where
  ex : ∃ f fd, Fun K x x st f fd ∧ Binds K fd ps [] ∧ mg x = some (.ref f) ∧ FnGd P w K mg base k f fd ps sp
section
variable {P : Program} {w : World} {K : PySem.W.Frag} {mg : Str → Option Value} {base : Heap}
/-- where a def stands -/
def At (K : PySem.W.Frag) (mg : Str → Option Value) (x : Str) (st : Stmt) (ps : List Str) : Prop :=
  ∃ f fd, Fun K x x st f fd ∧ Binds K fd ps [] ∧ mg x = some (.ref f)
theorem Dn.mk' {x : Str} {st : Stmt} {ps : List Str} {k : Nat} {sp : Sp} (h : At K mg x st ps)
    (ok : ∀ f fd, Fun K x x st f fd → FnOk P w K mg base CX0 k f fd ps sp) : Dn P w K mg base k x st ps sp := by
  obtain ⟨f, fd, F, b, g⟩ := h
  exact ⟨f, fd, F, b, g, ok f fd F⟩
theorem DnG.mk' {x : Str} {st : Stmt} {ps : List Str} {k : Nat} {sp : Sp} (h : At K mg x st ps)
    (ok : ∀ f fd, Fun K x x st f fd → FnGd P w K mg base k f fd ps sp) : DnG P w K mg base k x st ps sp := by
  obtain ⟨f, fd, F, b, g⟩ := h
  exact ⟨f, fd, F, b, g, ok f fd F⟩
end

/-- the reading of a call that raises nothing -/
def tCl (sp : Sp) (t : TA) : TE := fun σ H Q => t σ H fun vs H1 => sp vs H1 Q E0
def tClK (sp : Sp) (gV : List V → List V → List V) (t tk : TA) : TE := fun σ H Q => t σ H fun vs H1 => tk σ H1 fun zs H2 => sp (gV vs zs) H2 Q E0
section
variable {K : PySem.W.Frag} {x qual : Str} {st : Stmt} {f : Addr} {fd : FuncData} {ps ks : List Str}
theorem kb_of0 (n : Nat) (F : Fun K x qual st f fd) (g : {α : Type} → List α → List α → List α)
    (h : ∀ (kV doc pm : Value) (an : Option Addr) (cdv ct : Value) (us ws : List Value), us.length = n → ws.length = ks.length →
      bindArgs (PySem.W.fnOf x qual (defArgs st) (defBody st) (defScope st) .none kV doc pm an cdv ct) ⟨us, ks.zip ws⟩ = pure (ps.zip (g us ws))) :
    ∀ (s : Shared) (us ws : List Value), us.length = n → ws.length = ks.length → BindsTo s fd ⟨us, ks.zip ws⟩ (ps.zip (g us ws)) := by
  obtain ⟨oc, od, kV, doc, pm, an, cdv, ct, osl, rfl, lk, hcd⟩ := F.ex
  intro s us ws h1 h2
  exact .of_eq (h kV doc pm an cdv ct us ws h1 h2)
end
section
variable {X : Cx} {x : Str} {st : Stmt} {ps ks : List Str} {sp : Sp} {k j n : Nat} {e : Expr} {es : List Expr} {kws : List Keyword} {t tk : TA} {p pos : Pos}
/-- a call of a def that has its promise -/
theorem pe_c (D : Dn X.prog X.w X.K X.mg X.base k x st ps sp) (hr : Room j X.A) (hg : Gl X x) (ha : PA X (e :: es) t) (hk : k ≤ j := by decide)
    (hdb : (x == ("__debug__" : Str)) = false := by decide) (he : starEach (e :: es) X.env = (false, eval e X.env) :: starEach es X.env := by rfl)
    (hpl : (backTo pos (starEach es X.env)).any (·.1) = false := by rfl) :
    PE X (.Call (.Name x p) (e :: es) [] pos) (tCl sp t) := by
  obtain ⟨f, fd, F, b, g, ok⟩ := D.ex
  refine ⟨fun pins s σ H Q I h => ?_⟩
  refine wpAny_Call_Name_kw (ld_glob I hg g ?_ hdb)
  refine PySem.W.callWith_K (h₀ := X.base) I.ok.mod.kin F.kp (thn (ha.run pos pins s σ H _ I h) fun us s1 got => ?_) he hpl
  obtain ⟨vs, H1, I1, r1, q1⟩ := got
  refine ⟨I1.kIn, ?_⟩
  exact run_fn (dvs := []) ok (hr.mono hk) b .nil pass0 I1 r1 (by rw [List.append_nil]; exact q1)
theorem pe_cG (gd : X.A.guards = some []) (D : DnG X.prog X.w X.K X.mg X.base k x st ps sp) (hr : Room j X.A) (hg : Gl X x) (ha : PA X (e :: es) t) (hk : k ≤ j := by decide)
    (hdb : (x == ("__debug__" : Str)) = false := by decide) (he : starEach (e :: es) X.env = (false, eval e X.env) :: starEach es X.env := by rfl)
    (hpl : (backTo pos (starEach es X.env)).any (·.1) = false := by rfl) :
    PE X (.Call (.Name x p) (e :: es) [] pos) (tCl sp t) := by
  obtain ⟨f, fd, F, b, g, ok⟩ := D.ex
  refine ⟨fun pins s σ H Q I h => ?_⟩
  refine wpAny_Call_Name_kw (ld_glob I hg g ?_ hdb)
  refine PySem.W.callWith_K (h₀ := X.base) I.ok.mod.kin F.kp (thn (ha.run pos pins s σ H _ I h) fun us s1 got => ?_) he hpl
  obtain ⟨vs, H1, I1, r1, q2⟩ := got
  refine ⟨I1.kIn, ?_⟩
  have cnt : us.length = ps.length := by
    rw [← r1.length]
    exact ok.len _ _ _ _ q2
  have bnd : BindsTo s1 fd ⟨us, []⟩ (ps.zip us) := by
    have z := b s1 us I1.kIn (by simpa using cnt)
    simpa using z
  refine wpAny_call (codeAny_mono (ok.run X.A X.stack s1 H1 ⟨us, []⟩ us vs _ E0 gd (hr.mono hk) I1.env0 bnd r1 q2) ?_)
  intro r s' post
  cases r with
  | error e => exact (post : False).elim
  | ok fl =>
    cases fl with
    | ret u => exact I1.after post
    | next => exact (post : False).elim
    | brk => exact (post : False).elim
    | cont => exact (post : False).elim
/-- how the keywords bind -/
def KwTo (K : PySem.W.Frag) (x : Str) (st : Stmt) (ps ks : List Str) (n : Nat) (g : {α : Type} → List α → List α → List α) : Prop :=
  (∀ {vs zs : List V} {us ws : List Value}, vs.length = n → zs.length = ks.length → Vals vs us → Vals zs ws → Vals (g vs zs) (g us ws)) ∧
  ∀ f fd, Fun K x x st f fd → ∀ (s : Shared) (us ws : List Value), us.length = n → ws.length = ks.length → BindsTo s fd ⟨us, ks.zip ws⟩ (ps.zip (g us ws))
def tClN (n m : Nat) (sp : Sp) (gV : List V → List V → List V) (t tk : TA) : TE := fun σ H Q => t σ H fun vs H1 => tk σ H1 fun zs H2 => vs.length = n ∧ zs.length = m ∧ sp (gV vs zs) H2 Q E0
/-- f(k = v, ..) -/
theorem pe_cz {g : {α : Type} → List α → List α → List α} (D : Dn X.prog X.w X.K X.mg X.base k x st ps sp) (hr : Room j X.A) (kb : KwTo X.K x st ps ks 0 g) (hg : Gl X x) (hkw : PK X kws tk) (hk : k ≤ j := by decide)
    (hall : (backToKw pos (keywordEach kws X.env)).all (·.1.isSome) = true := by rfl) (hks : (backToKw pos (keywordEach kws X.env)).filterMap (·.1) = ks := by rfl)
    (hdb : (x == ("__debug__" : Str)) = false := by decide)
    (hpl : ((backTo pos (starEach [] X.env)).any (·.1) || (backToKw pos (keywordEach kws X.env)).any (·.1.isNone)) = false := by rfl) :
    PE X (.Call (.Name x p) [] kws pos) (tClN 0 ks.length sp g tNil tk) := by
  obtain ⟨f, fd, F, b, gg, ok⟩ := D.ex
  refine ⟨fun pins s σ H Q I h => ?_⟩
  refine wpAny_Call_Name_kw (ld_glob I hg gg ?_ hdb)
  refine PySem.W.callWith_KW0 (h₀ := X.base) I.ok.mod.kin F.kp hall ?_ hpl
  refine thn (hkw.run pos pins s σ H _ I h) fun ws s2 got => ?_
  obtain ⟨zs, H2, I2, rz, l1, l2, q2⟩ := got
  refine ⟨I2.kIn, ?_⟩
  rw [hks]
  have rel := kb.1 l1 l2 Paired.nil rz
  have bnd := kb.2 f fd F s2 [] ws rfl (rz.length.symm.trans l2)
  refine wpAny_call (codeAny_mono (ok.run X.A X.stack s2 H2 ⟨[], ks.zip ws⟩ _ _ _ E0 (hr.mono hk) I2.env0 bnd rel q2) ?_)
  intro r s' post
  cases r with
  | error e => exact (post : False).elim
  | ok fl =>
    cases fl with
    | ret u => exact I2.after post
    | next => exact (post : False).elim
    | brk => exact (post : False).elim
    | cont => exact (post : False).elim
end

/-! ### heaps: all but the draws' list stays -/
def Kp (a : Addr) (H H' : Hp) : Prop := ∀ b o, b ≠ a → H b = some o → H' b = some o
theorem Kp.refl {a : Addr} {H : Hp} : Kp a H H := fun _ _ _ e => e
theorem Kp.trans {a : Addr} {H H1 H2 : Hp} (x : Kp a H H1) (y : Kp a H1 H2) : Kp a H H2 := fun b o n e => y b o n (x b o n e)
theorem Kp.of {a : Addr} {H H' : Hp} (x : Same H H') : Kp a H H' := fun b o _ e => x b o e
theorem Kp.at {a : Addr} {H : Hp} {o : HO} : Kp a H (upd H a o) := fun b u n e => by rw [upd_ne n]; exact e
theorem Kp.new {a p : Addr} {H : Hp} {o : HO} (n : H p = none) : Kp a H (upd H p o) := fun b u _ e => by rw [upd_ne (ne_of_none e n)]; exact e
theorem Same.new {p : Addr} {H : Hp} {o : HO} (n : H p = none) : Same H (upd H p o) := fun b u e => by rw [upd_ne (ne_of_none e n)]; exact e
theorem SqT.same {K : PySem.W.Frag} {H H' : Hp} {b : Addr} {xs : List V} (k : Same H H') (h : SqT K H b xs) : SqT K H' b xs := by
  rcases h with (h | ⟨o, h⟩) | h
  · exact .inl (.inl (k _ _ h))
  · exact .inl (.inr ⟨o, k _ _ h⟩)
  · exact .inr h
/-- the draws' state: its list of three ints, after at most n draws -/
structure RS (n : Nat) (H : Hp) (a : Addr) : Prop where
  ok : ∃ d s t : Int, H a = some (.lst [.int d, .int s, .int t]) ∧ 0 ≤ d ∧ d.natAbs < 2 ^ 13000 ∧ 0 ≤ s ∧ s < 2305843009213693951 ∧ 0 ≤ t ∧ t ≤ n
theorem RS.mono {n m : Nat} {H : Hp} {a : Addr} (h : n ≤ m) (r : RS n H a) : RS m H a := by
  obtain ⟨d, s, t, e, h1, h2, h3, h4, h5, h6⟩ := r.ok
  exact ⟨d, s, t, e, h1, h2, h3, h4, h5, by omega⟩
theorem RS.same {n : Nat} {H H' : Hp} {a : Addr} (r : RS n H a) (k : Same H H') : RS n H' a := by
  obtain ⟨d, s, t, e, r⟩ := r.ok
  exact ⟨d, s, t, k _ _ e, r⟩
theorem RS.ne {n : Nat} {H : Hp} {a b : Addr} {o : HO} (r : RS n H a) (e : H b = some o) (no : ∀ xs, o ≠ .lst xs) : b ≠ a := by
  obtain ⟨d, s, t, e2, _⟩ := r.ok
  exact ne_of e e2 (no _)
theorem SqT.kp {K : PySem.W.Frag} {n : Nat} {H H' : Hp} {a b : Addr} {xs : List V} (r : RS n H a) (k : Kp a H H') (h : SqT K H b xs) : SqT K H' b xs := by
  rcases h with (h | ⟨o, h⟩) | h
  · exact .inl (.inl (k _ _ (r.ne h (fun _ z => by cases z)) h))
  · exact .inl (.inr ⟨o, k _ _ (r.ne h (fun _ z => by cases z)) h⟩)
  · exact .inr h

/-! ### ranges -/
abbrev Rg := Option (Option Int × Option Int)
def ov : Option Int → V
  | none => .non
  | some i => .int i
def RgV (K : PySem.W.Frag) (H : Hp) (v : V) : Rg → Prop
  | none => v = .non
  | some (l, h) => ∃ p, v = .ref p ∧ SqT K H p [ov l, ov h]
theorem RgV.same {K : PySem.W.Frag} {H H' : Hp} {v : V} {r : Rg} (k : Same H H') (h : RgV K H v r) : RgV K H' v r := by
  cases r with
  | none => exact h
  | some q =>
    obtain ⟨p, e, s⟩ := h
    exact ⟨p, e, SqT.same k s⟩
theorem RgV.kp {K : PySem.W.Frag} {n : Nat} {H H' : Hp} {a : Addr} {v : V} {r : Rg} (rs : RS n H a) (k : Kp a H H') (h : RgV K H v r) : RgV K H' v r := by
  cases r with
  | none => exact h
  | some q =>
    obtain ⟨p, e, s⟩ := h
    exact ⟨p, e, SqT.kp rs k s⟩
/-- Range check accepts it -/
def RgFit : Rg → Prop
  | some (some l, some h) => l ≤ h
  | _ => True
end Gd

set_option Elab.async false
set_option linter.all false
set_option maxRecDepth 100000
namespace Gd
open PySem PySem.Spec PyProof.Rows L2

theorem inV_ints (z : Int) : ∀ ns : List Int, inV (.int z) (ns.map V.int) = decide (z ∈ ns)
  | [] => rfl
  | n :: ns => by
    have ih := inV_ints z ns
    unfold inV at ih ⊢
    rw [List.map_cons, List.any_cons, ih]
    show ((n == z) || decide (z ∈ ns)) = decide (z ∈ n :: ns)
    by_cases h : n = z
    · subst h
      simp
    · have h2 : ¬ z = n := fun e => h e.symm
      simp [h, h2]
theorem flat_ints : ∀ ns : List Int, (ns.map V.int).all flatV = true
  | [] => rfl
  | _ :: ns => flat_ints ns
theorem dp_ints {K : PySem.W.Frag} {H : Hp} : ∀ ns : List Int, DpAll K H (ns.map V.int) (ns.map PyData.int)
  | [] => .nil
  | n :: ns => .cons (.int n) (dp_ints ns)
theorem canLay_ints : ∀ ns : List Int, PyData.canLayAll0 (ns.map PyData.int) = true
  | [] => rfl
  | n :: ns => by
    rw [List.map_cons]
    unfold PyData.canLayAll0
    rw [canLay_ints ns]
    rfl
theorem depth_ints : ∀ ns : List Int, PyData.depthAll (ns.map PyData.int) ≤ 1
  | [] => by simp [PyData.depthAll]
  | n :: ns => by
    have ih := depth_ints ns
    simp only [List.map_cons, PyData.depthAll, PyData.depth]
    omega
theorem shaped_ints (ns : List Int) : SeqAt.shaped (.list (ns.map PyData.int)) = true := by
  unfold SeqAt.shaped
  have h1 : PyData.canLay0 (.list (ns.map PyData.int)) = true := by
    have e : PyData.canLay0 (.list (ns.map PyData.int)) = PyData.canLayAll0 (ns.map PyData.int) := by simp [PyData.canLay0]
    rw [e]
    exact canLay_ints ns
  have h2 : PyData.depth (.list (ns.map PyData.int)) ≤ 64 := by
    have := depth_ints ns
    simp only [PyData.depth]
    omega
  rw [h1, decide_eq_true h2]
  rfl
theorem eqv_ints_nil (ns : List Int) : PyData.eqv (.list (ns.map PyData.int)) (.list []) = decide (ns = []) := by
  cases ns with
  | nil => simp [PyData.eqv, PyData.eqvAll]
  | cons n ns => simp [PyData.eqv, PyData.eqvAll]
/-- [x for x in xs if test] over ints, the test a function of the int -/
theorem lc_filter {K : PySem.W.Frag} {j : Nat} {tt : TT} {σ : L2.St} {H : Hp} {Qd : Hp → Prop} {a D : Addr} (ns : List Int) (p : Int → Bool)
    (hl : SqL K H a (ns.map V.int)) (hz : ns.length ≤ 100000) (nD : H D = none)
    (hw : ∀ z : Int, wipe ((wipe σ [j]).set j (some (.int z))) [j] = wipe σ [j])
    (hg : ∀ z : Int, ((wipe σ [j]).set j (some (.int z)))[j]? = some (some (.int z)))
    (ht : ∀ (z : Int) (H' : Hp) (R : Bool → Hp → Prop), Same H H' → R (p z) H' → tt ((wipe σ [j]).set j (some (.int z))) H' R)
    (q : Qd (upd H D (.lst ((ns.filter p).map V.int)))) :
    ∃ Z : Nat → Nat → Hp → Prop, (∃ m, Z 0 m (upd H D (.lst []))) ∧
      ∀ i m G, Z i m G →
        ((Itl K a).stop i G ∧ Qd G) ∨
        ((Itl K a).go i G ∧ ∃ N : Hp → Prop, (∀ G', N G' → ∃ m', m' < m ∧ Z (i + 1) m' G') ∧
          ∀ x G', (Itl K a).yld i G x G' →
            gName j x (wipe σ [j]) G' fun σ2 G2 =>
              wipe σ2 [j] = wipe σ [j] ∧
              tt σ2 G2 fun b G3 =>
                if b = true then
                  tVar j σ2 G3 fun y G4 =>
                    ∃ acc, G4 D = some (.lst acc) ∧ acc.length < sizeLine ∧
                      N (upd G4 D (.lst (acc ++ [y])))
                else N G3) := by
  refine lc_list (K := K) (a := a) (xs := ns.map V.int) (fun i H' => H' = upd H D (.lst (((ns.take i).filter p).map V.int))) rfl ?_ ?_ ?_
  · intro i H' _ e
    subst e
    exact (Same.new nD).seq hl
  · intro i x H' hx e
    subst e
    rw [List.getElem?_map] at hx
    cases c : ns[i]? with
    | none =>
      rw [c] at hx
      cases hx
    | some z =>
      rw [c] at hx
      have ex : V.int z = x := Option.some.inj hx
      subst ex
      have lt : i < ns.length := (List.getElem?_eq_some_iff.mp c).1
      have tk : (ns.take (i + 1)).filter p = (ns.take i).filter p ++ (if p z = true then [z] else []) := by
        rw [List.take_add_one, c]
        show ((ns.take i) ++ [z]).filter p = _
        rw [List.filter_append]
        by_cases c2 : p z = true
        · rw [if_pos c2]; simp [c2]
        · rw [if_neg c2]; simp [c2]
      refine ⟨hw z, ht z _ _ (Same.new nD) ?_⟩
      by_cases c2 : p z = true
      · rw [c2]
        refine iteT ⟨_, hg z, _, upd_same, ?_, ?_⟩
        · rw [List.length_map]
          have h1 : ((ns.take i).filter p).length ≤ (ns.take i).length := List.length_filter_le _ _
          have h2 : (ns.take i).length ≤ ns.length := List.length_take_le' ..
          exact Nat.lt_of_le_of_lt (Nat.le_trans (Nat.le_trans h1 h2) hz) (by decide)
        · rw [upd_upd, tk, if_pos c2, List.map_append]
          rfl
      · have c3 : p z = false := by simpa using c2
        rw [c3]
        refine iteF ?_
        show upd H D _ = upd H D _
        rw [tk, if_neg c2, List.append_nil]
  · intro H' e
    subst e
    rw [List.length_map, List.take_length]
    exact q
end Gd

set_option Elab.async false
set_option linter.all false
set_option maxRecDepth 100000
set_option autoImplicit false
namespace Gd
open PySem PySem.Spec PyProof.Rows L2

/-! ### data whose text is short -/
structure DOk (n k : Nat) (d : PyData) : Prop where
  short : d.leavesShort 62 = true
  bulk : d.bulk ≤ n
  nod : d.hasDict = false
  shw : d.showable = true
  lay : d.canLay0 = true
  deep : d.depth ≤ k
structure DAll (n k : Nat) (ds : List PyData) : Prop where
  short : PyData.leavesShortAll 62 ds = true
  bulk : PyData.bulkAll ds ≤ n
  nod : PyData.hasDictAll ds = false
  shw : PyData.showableAll ds = true
  lay : PyData.canLayAll0 ds = true
  deep : PyData.depthAll ds ≤ k
theorem DOk.mono {n m k j : Nat} {d : PyData} (h : DOk n k d) (a : n ≤ m) (b : k ≤ j) : DOk m j d :=
  ⟨h.short, Nat.le_trans h.bulk a, h.nod, h.shw, h.lay, Nat.le_trans h.deep b⟩
theorem DAll.mono {n m k j : Nat} {ds : List PyData} (h : DAll n k ds) (a : n ≤ m) (b : k ≤ j) : DAll m j ds :=
  ⟨h.short, Nat.le_trans h.bulk a, h.nod, h.shw, h.lay, Nat.le_trans h.deep b⟩
theorem DOk.none : DOk 0 1 .none := ⟨rfl, Nat.le_refl _, rfl, rfl, rfl, by simp [PyData.depth]⟩
theorem DOk.bool (b : Bool) : DOk 0 1 (.bool b) := ⟨rfl, Nat.le_refl _, rfl, rfl, rfl, by simp [PyData.depth]⟩
theorem DOk.int {i : Int} (h : i.natAbs < 10 ^ 60) : DOk 0 1 (.int i) := by
  refine ⟨?_, Nat.le_refl _, rfl, ?_, rfl, by simp [PyData.depth]⟩
  · have e := int_text_length_le10 (k := 60) (by decide) h
    unfold PyData.leavesShort
    refine decide_eq_true ?_
    show (Str.ofString (toString i)).length ≤ 62
    rw [PySem.ofString_length]
    omega
  · unfold PyData.showable
    refine decide_eq_true ?_
    have h2 : i.natAbs < 2 ^ 200 := Nat.lt_trans h (by decide)
    have := PySem.Flt.log2_lt_of (k := 200) (by decide) h2
    omega
theorem DOk.str {x : Str} (h1 : (x.cps.toList.all fun c => decide (c < 16 ^ 8)) = true) (h2 : x.cps.size ≤ 20) (h3 : PyData.canLay0 (.str x) = true) : DOk 20 1 (.str x) :=
  ⟨by unfold PyData.leavesShort; exact h1, by unfold PyData.bulk; exact h2, rfl, rfl, h3, by simp [PyData.depth]⟩
theorem DAll.nil : DAll 0 0 [] := ⟨rfl, Nat.le_refl _, rfl, rfl, rfl, by simp [PyData.depthAll]⟩
theorem DAll.cons {n m k j : Nat} {d : PyData} {ds : List PyData} (h : DOk n k d) (t : DAll m j ds) : DAll (n + 1 + m) (max k j) (d :: ds) := by
  refine ⟨?_, ?_, ?_, ?_, ?_, ?_⟩
  · unfold PyData.leavesShortAll; rw [h.short, t.short]; rfl
  · unfold PyData.bulkAll; have := h.bulk; have := t.bulk; omega
  · unfold PyData.hasDictAll; rw [h.nod, t.nod]; rfl
  · unfold PyData.showableAll; rw [h.shw, t.shw]; rfl
  · unfold PyData.canLayAll0; rw [h.lay, t.lay]; rfl
  · unfold PyData.depthAll; have := h.deep; have := t.deep; omega
theorem DOk.list {n k : Nat} {ds : List PyData} (t : DAll n k ds) : DOk n (k + 1) (.list ds) := by
  refine ⟨?_, ?_, ?_, ?_, ?_, ?_⟩
  · unfold PyData.leavesShort; exact t.short
  · unfold PyData.bulk; exact t.bulk
  · unfold PyData.hasDict; exact t.nod
  · unfold PyData.showable; exact t.shw
  · unfold PyData.canLay0; exact t.lay
  · unfold PyData.depth; have := t.deep; omega
theorem DOk.tuple {n k : Nat} {ds : List PyData} (t : DAll n k ds) : DOk n (k + 1) (.tuple ds) := by
  refine ⟨?_, ?_, ?_, ?_, ?_, ?_⟩
  · unfold PyData.leavesShort; exact t.short
  · unfold PyData.bulk; exact t.bulk
  · unfold PyData.hasDict; exact t.nod
  · unfold PyData.showable; exact t.shw
  · unfold PyData.canLay0; exact t.lay
  · unfold PyData.depth; have := t.deep; omega
theorem DOk.fits {n k : Nat} {d : PyData} (h : DOk n k d) (hn : n ≤ 200000) : d.shown.length ≤ sizeLine := by
  have e := PyData.shown_le_bulk 62 (by decide) d h.short
  have b := h.bulk
  have s : sizeLine = 16777216 := by decide
  omega
theorem DOk.shaped {n k : Nat} {d : PyData} (h : DOk n k d) (hk : k ≤ 64) : SeqAt.shaped d = true := by
  unfold SeqAt.shaped
  rw [h.lay, decide_eq_true (Nat.le_trans h.deep hk)]
  rfl
theorem DOk.eqv {n k : Nat} {d : PyData} (h : DOk n k d) : PyData.eqv d d = true := SeqAt.eqv_refl d h.lay
section
variable {X : Cx}
/-- repr of data that is short -/
theorem call_reprD {k : Nat} (gd : X.A.guards = some []) (hr : Room k X.A) : CallR X (.builtin "repr") (fun xs H Q => ∃ v d n k, xs = [v] ∧
    Dp X.K H v d ∧ DOk n k d ∧ n ≤ 200000 ∧ k ≤ 64 ∧ (∃ a, v = .ref a) ∧ Q (.str d.shown) H) := by
  intro pins s σ H xs us Q I r h
  obtain ⟨v, d, n, k, e, dp, ok, hn, hk, ex, q⟩ := h
  exact call_repr gd hr pins s σ H xs us Q I r ⟨v, d, e, dp, ok.nod, ok.shw, Nat.le_trans ok.deep hk, ok.fits hn, ex, q⟩
end

/-! ### draws -/
theorem RS.fresh {n : Nat} {H : Hp} {g p : Addr} (r : RS n H g) (np : H p = none) : p ≠ g := fun z => by
  obtain ⟨_, _, _, e, _⟩ := r.ok
  rw [← z, np] at e
  cases e
theorem pick_mem {xs : List V} {d : Int} (h0 : 0 ≤ d) (h1 : d < (xs.length : Int)) : ∃ v, atI xs d = some v ∧ v ∈ xs := by
  have lt : d.toNat < xs.length := by omega
  refine ⟨xs[d.toNat], ?_, List.getElem_mem lt⟩
  exact at_of (j := d.toNat) (by omega) (List.getElem?_eq_getElem lt)
theorem Kp.lst {K : PySem.W.Frag} {H H' : Hp} {g b : Addr} {xs : List V} (k : Kp g H H') (h : b ≠ g) (l : SqL K H b xs) : SqL K H' b xs := by
  rcases l with (h2 | ⟨o, h2⟩) | h2
  · exact .inl (.inl (k _ _ h h2))
  · exact .inl (.inr ⟨o, k _ _ h h2⟩)
  · exact .inr h2
/-- [e for x in xs] over a list; each e is a value of its own (told by f), no matter what else the heap bears -/
theorem lc_map {K : PySem.W.Frag} {j : Nat} {te : TE} {σ : L2.St} {H : Hp} {Qd : Hp → Prop} {a D : Addr} {xs : List V} (f : V → V)
    (hl : SqL K H a xs) (hz : xs.length ≤ 100000) (nD : H D = none)
    (hw : ∀ z : V, wipe ((wipe σ [j]).set j (some z)) [j] = wipe σ [j])
    (he : ∀ (z : V) (H' : Hp) (R : VK), z ∈ xs → Same H H' → R (f z) H' → te ((wipe σ [j]).set j (some z)) H' R)
    (q : Qd (upd H D (.lst (xs.map f)))) :
    ∃ Z : Nat → Nat → Hp → Prop, (∃ m, Z 0 m (upd H D (.lst []))) ∧
      ∀ i m G, Z i m G →
        ((Itl K a).stop i G ∧ Qd G) ∨
        ((Itl K a).go i G ∧ ∃ N : Hp → Prop, (∀ G', N G' → ∃ m', m' < m ∧ Z (i + 1) m' G') ∧
          ∀ x G', (Itl K a).yld i G x G' →
            gName j x (wipe σ [j]) G' fun σ2 G2 =>
              wipe σ2 [j] = wipe σ [j] ∧
              tYes σ2 G2 fun b G3 =>
                if b = true then
                  te σ2 G3 fun y G4 =>
                    ∃ acc, G4 D = some (.lst acc) ∧ acc.length < sizeLine ∧
                      N (upd G4 D (.lst (acc ++ [y])))
                else N G3) := by
  refine lc_list (K := K) (a := a) (xs := xs) (fun i H' => H' = upd H D (.lst ((xs.take i).map f))) rfl ?_ ?_ ?_
  · intro i H' _ e
    subst e
    exact (Same.new nD).seq hl
  · intro i x H' hx e
    subst e
    have lt : i < xs.length := (List.getElem?_eq_some_iff.mp hx).1
    have tk : (xs.take (i + 1)).map f = (xs.take i).map f ++ [f x] := by
      rw [List.take_add_one, hx]
      simp
    refine ⟨hw x, ?_⟩
    refine he x _ _ (List.mem_of_getElem? hx) (Same.new nD) ⟨_, upd_same, ?_, ?_⟩
    · rw [List.length_map]
      exact Nat.lt_of_le_of_lt (Nat.le_trans (List.length_take_le' ..) hz) (by decide)
    · rw [upd_upd, tk]
  · intro H' e
    subst e
    rw [List.take_length]
    exact q
/-- [e for x in xs] over a list; e may make objects; each is told by Out of its place -/
theorem lc_rel {K : PySem.W.Frag} {j : Nat} {te : TE} {σ : L2.St} {H : Hp} {Qd : Hp → Prop} {a D : Addr} {xs : List V} (Out : Nat → Hp → V → Prop)
    (hl : SqL K H a xs) (hz : xs.length ≤ 100000) (nD : H D = none)
    (st : ∀ i G G' y acc, Kp D G G' → G D = some (.lst acc) → Out i G y → Out i G' y)
    (hw : ∀ z : V, wipe ((wipe σ [j]).set j (some z)) [j] = wipe σ [j])
    (he : ∀ (i : Nat) (z : V) (G : Hp) (R : VK), xs[i]? = some z → Same H G → (∀ y G', Same G G' → Out i G' y → R y G') → te ((wipe σ [j]).set j (some z)) G R)
    (q : ∀ G ys, Same H G → G D = some (.lst ys) → ys.length = xs.length → (∀ (i : Nat) y, ys[i]? = some y → Out i G y) → Qd G) :
    ∃ Z : Nat → Nat → Hp → Prop, (∃ m, Z 0 m (upd H D (.lst []))) ∧
      ∀ i m G, Z i m G →
        ((Itl K a).stop i G ∧ Qd G) ∨
        ((Itl K a).go i G ∧ ∃ N : Hp → Prop, (∀ G', N G' → ∃ m', m' < m ∧ Z (i + 1) m' G') ∧
          ∀ x G', (Itl K a).yld i G x G' →
            gName j x (wipe σ [j]) G' fun σ2 G2 =>
              wipe σ2 [j] = wipe σ [j] ∧
              tYes σ2 G2 fun b G3 =>
                if b = true then
                  te σ2 G3 fun y G4 =>
                    ∃ acc, G4 D = some (.lst acc) ∧ acc.length < sizeLine ∧
                      N (upd G4 D (.lst (acc ++ [y])))
                else N G3) := by
  refine lc_list (K := K) (a := a) (xs := xs) (fun i G => Same H G ∧ ∃ ys, G D = some (.lst ys) ∧ ys.length = i ∧ ∀ (k : Nat) y, ys[k]? = some y → Out k G y)
    ⟨Same.new nD, [], upd_same, rfl, fun k y e => by simp at e⟩ ?_ ?_ ?_
  · intro i G _ e
    exact e.1.seq hl
  · rintro i x G hx ⟨sm, ys, oD, ly, ok⟩
    have lt : i < xs.length := (List.getElem?_eq_some_iff.mp hx).1
    refine ⟨hw x, ?_⟩
    refine he i x G _ hx sm fun y G' sm' oy => ⟨ys, sm' _ _ oD, Nat.lt_of_le_of_lt (by omega : ys.length ≤ 100000) (by decide), ?_⟩
    have kp : Kp D G' (upd G' D (.lst (ys ++ [y]))) := Kp.at
    refine ⟨fun b o e => ?_, ys ++ [y], upd_same, by rw [List.length_append, ly]; rfl, ?_⟩
    · rw [upd_ne (ne_of_none e nD)]
      exact sm' _ _ (sm _ _ e)
    · intro k y' ey
      by_cases c : k < ys.length
      · rw [List.getElem?_append_left c] at ey
        exact st _ _ _ _ _ kp (sm' _ _ oD) (st _ _ _ _ _ (Kp.of sm') oD (ok k y' ey))
      · have kl : k < (ys ++ [y]).length := (List.getElem?_eq_some_iff.mp ey).1
        rw [List.length_append] at kl
        have kk : k = i := by
          have : ([y] : List V).length = 1 := rfl
          omega
        subst kk
        rw [List.getElem?_append_right (by omega), ly, Nat.sub_self] at ey
        have e1 : y = y' := Option.some.inj ey
        subst e1
        exact st _ _ _ _ _ kp (sm' _ _ oD) oy
  · rintro G ⟨sm, ys, oD, ly, ok⟩
    exact q G ys sm oD ly ok
theorem SqT.kpl {K : PySem.W.Frag} {H H' : Hp} {a b : Addr} {xs ys : List V} (k : Kp a H H') (l : H a = some (.lst ys)) (h : SqT K H b xs) : SqT K H' b xs := by
  rcases h with (h | ⟨o, h⟩) | h
  · exact .inl (.inl (k _ _ (ne_of h l (fun z => by cases z)) h))
  · exact .inl (.inr ⟨o, k _ _ (ne_of h l (fun z => by cases z)) h⟩)
  · exact .inr h
theorem RgV.kpl {K : PySem.W.Frag} {H H' : Hp} {a : Addr} {v : V} {r : Rg} {ys : List V} (k : Kp a H H') (l : H a = some (.lst ys)) (h : RgV K H v r) : RgV K H' v r := by
  match r, h with
  | none, h => exact h
  | some q, ⟨p, e, s⟩ => exact ⟨p, e, SqT.kpl k l s⟩
/-! ### data of any size, for == -/
structure Ly (k : Nat) (d : PyData) : Prop where
  lay : d.canLay0 = true
  deep : d.depth ≤ k
structure LyAll (k : Nat) (ds : List PyData) : Prop where
  lay : PyData.canLayAll0 ds = true
  deep : PyData.depthAll ds ≤ k
theorem Ly.mono {k j : Nat} {d : PyData} (h : Ly k d) (a : k ≤ j) : Ly j d := ⟨h.lay, Nat.le_trans h.deep a⟩
theorem LyAll.mono {k j : Nat} {d : List PyData} (h : LyAll k d) (a : k ≤ j) : LyAll j d := ⟨h.lay, Nat.le_trans h.deep a⟩
theorem Ly.none : Ly 1 .none := ⟨rfl, by simp [PyData.depth]⟩
theorem Ly.bool (b : Bool) : Ly 1 (.bool b) := ⟨rfl, by simp [PyData.depth]⟩
theorem Ly.int (i : Int) : Ly 1 (.int i) := ⟨rfl, by simp [PyData.depth]⟩
theorem LyAll.nil : LyAll 0 [] := ⟨rfl, by simp [PyData.depthAll]⟩
theorem LyAll.cons {k j : Nat} {d : PyData} {ds : List PyData} (h : Ly k d) (t : LyAll j ds) : LyAll (max k j) (d :: ds) := by
  refine ⟨?_, ?_⟩
  · unfold PyData.canLayAll0; rw [h.lay, t.lay]; rfl
  · unfold PyData.depthAll; have := h.deep; have := t.deep; omega
theorem Ly.list {k : Nat} {ds : List PyData} (t : LyAll k ds) : Ly (k + 1) (.list ds) := by
  refine ⟨?_, ?_⟩
  · unfold PyData.canLay0; exact t.lay
  · unfold PyData.depth; have := t.deep; omega
theorem Ly.tuple {k : Nat} {ds : List PyData} (t : LyAll k ds) : Ly (k + 1) (.tuple ds) := by
  refine ⟨?_, ?_⟩
  · unfold PyData.canLay0; exact t.lay
  · unfold PyData.depth; have := t.deep; omega
theorem Ly.shaped {k : Nat} {d : PyData} (h : Ly k d) (hk : k ≤ 64 := by decide) : SeqAt.shaped d = true := by
  unfold SeqAt.shaped
  rw [h.lay, decide_eq_true (Nat.le_trans h.deep hk)]
  rfl
theorem Ly.eqv {k : Nat} {d : PyData} (h : Ly k d) : PyData.eqv d d = true := SeqAt.eqv_refl d h.lay
/-- [e for x in t] over a tuple -/
theorem lc_relT {K : PySem.W.Frag} {j : Nat} {te : TE} {σ : L2.St} {H : Hp} {Qd : Hp → Prop} {a D : Addr} {xs : List V} (Out : Nat → Hp → V → Prop)
    (hl : SqT K H a xs) (hz : xs.length ≤ 100000) (nD : H D = none)
    (st : ∀ i G G' y acc, Kp D G G' → G D = some (.lst acc) → Out i G y → Out i G' y)
    (hw : ∀ z : V, wipe ((wipe σ [j]).set j (some z)) [j] = wipe σ [j])
    (he : ∀ (i : Nat) (z : V) (G : Hp) (R : VK), xs[i]? = some z → Same H G → (∀ y G', Same G G' → Out i G' y → R y G') → te ((wipe σ [j]).set j (some z)) G R)
    (q : ∀ G ys, Same H G → G D = some (.lst ys) → ys.length = xs.length → (∀ (i : Nat) y, ys[i]? = some y → Out i G y) → Qd G) :
    ∃ Z : Nat → Nat → Hp → Prop, (∃ m, Z 0 m (upd H D (.lst []))) ∧
      ∀ i m G, Z i m G →
        ((Itt K a).stop i G ∧ Qd G) ∨
        ((Itt K a).go i G ∧ ∃ N : Hp → Prop, (∀ G', N G' → ∃ m', m' < m ∧ Z (i + 1) m' G') ∧
          ∀ x G', (Itt K a).yld i G x G' →
            gName j x (wipe σ [j]) G' fun σ2 G2 =>
              wipe σ2 [j] = wipe σ [j] ∧
              tYes σ2 G2 fun b G3 =>
                if b = true then
                  te σ2 G3 fun y G4 =>
                    ∃ acc, G4 D = some (.lst acc) ∧ acc.length < sizeLine ∧
                      N (upd G4 D (.lst (acc ++ [y])))
                else N G3) := by
  refine lc_tup (K := K) (a := a) (xs := xs) (fun i G => Same H G ∧ ∃ ys, G D = some (.lst ys) ∧ ys.length = i ∧ ∀ (k : Nat) y, ys[k]? = some y → Out k G y)
    ⟨Same.new nD, [], upd_same, rfl, fun k y e => by simp at e⟩ ?_ ?_ ?_
  · intro i G _ e
    exact SqT.same e.1 hl
  · rintro i x G hx ⟨sm, ys, oD, ly, ok⟩
    have lt : i < xs.length := (List.getElem?_eq_some_iff.mp hx).1
    refine ⟨hw x, ?_⟩
    refine he i x G _ hx sm fun y G' sm' oy => ⟨ys, sm' _ _ oD, Nat.lt_of_le_of_lt (by omega : ys.length ≤ 100000) (by decide), ?_⟩
    have kp : Kp D G' (upd G' D (.lst (ys ++ [y]))) := Kp.at
    refine ⟨fun b o e => ?_, ys ++ [y], upd_same, by rw [List.length_append, ly]; rfl, ?_⟩
    · rw [upd_ne (ne_of_none e nD)]
      exact sm' _ _ (sm _ _ e)
    · intro k y' ey
      by_cases c : k < ys.length
      · rw [List.getElem?_append_left c] at ey
        exact st _ _ _ _ _ kp (sm' _ _ oD) (st _ _ _ _ _ (Kp.of sm') oD (ok k y' ey))
      · have kl : k < (ys ++ [y]).length := (List.getElem?_eq_some_iff.mp ey).1
        rw [List.length_append] at kl
        have kk : k = i := by
          have : ([y] : List V).length = 1 := rfl
          omega
        subst kk
        rw [List.getElem?_append_right (by omega), ly, Nat.sub_self] at ey
        have e1 : y = y' := Option.some.inj ey
        subst e1
        exact st _ _ _ _ _ kp (sm' _ _ oD) oy
  · rintro G ⟨sm, ys, oD, ly, ok⟩
    exact q G ys sm oD ly ok
end Gd

set_option Elab.async false
set_option linter.all false
set_option maxRecDepth 100000
set_option autoImplicit false
namespace Gd
open PySem PySem.Spec PyProof.Rows L2

/-! ### data stays -/
mutual
theorem dp_same {K : PySem.W.Frag} {H H' : Hp} (k : Same H H') : ∀ {v : V} {d : PyData}, Dp K H v d → Dp K H' v d
  | _, _, .non => .non
  | _, _, .bl b => .bl b
  | _, _, .int i => .int i
  | _, _, .str x => .str x
  | _, _, .lst s a => .lst (k.seq s) (dpa_same k a)
  | _, _, .tup s a => .tup (SqT.same k s) (dpa_same k a)
theorem dpa_same {K : PySem.W.Frag} {H H' : Hp} (k : Same H H') : ∀ {v : List V} {d : List PyData}, DpAll K H v d → DpAll K H' v d
  | _, _, .nil => .nil
  | _, _, .cons a b => .cons (dp_same k a) (dpa_same k b)
end
/-- no list in it -/
inductive NoL : PyData → Prop
  | non : NoL .none
  | bl (b : Bool) : NoL (.bool b)
  | int (i : Int) : NoL (.int i)
  | str (x : Str) : NoL (.str x)
  | tup {ds : List PyData} : (∀ d ∈ ds, NoL d) → NoL (.tuple ds)
/-- the only list that may change stands at a -/
def Kl (a : Addr) (H H' : Hp) : Prop := (∃ ys, H a = some (.lst ys)) ∧ Kp a H H'
mutual
theorem dp_kl {K : PySem.W.Frag} {H H' : Hp} {a : Addr} (k : Kl a H H') : ∀ {v : V} {d : PyData}, Dp K H v d → NoL d → Dp K H' v d
  | _, _, .non, _ => .non
  | _, _, .bl b, _ => .bl b
  | _, _, .int i, _ => .int i
  | _, _, .str x, _ => .str x
  | _, _, .tup s x, n => .tup (let ⟨⟨_, o⟩, kp⟩ := k; SqT.kpl kp o s) (dpa_kl k x (match n with | .tup h => h))
  | _, _, .lst s x, n => nomatch n
theorem dpa_kl {K : PySem.W.Frag} {H H' : Hp} {a : Addr} (k : Kl a H H') : ∀ {v : List V} {d : List PyData}, DpAll K H v d → (∀ x ∈ d, NoL x) → DpAll K H' v d
  | _, _, .nil, _ => .nil
  | _, _, .cons x y, n => .cons (dp_kl k x (n _ (by simp))) (dpa_kl k y fun z m => n z (by simp [m]))
end
theorem RS.kl {n : Nat} {H H' : Hp} {g : Addr} (r : RS n H g) (k : Kp g H H') : Kl g H H' := by
  obtain ⟨_, _, _, e, _⟩ := r.ok
  exact ⟨⟨_, e⟩, k⟩
theorem dpa_len {K : PySem.W.Frag} {H : Hp} : ∀ {v : List V} {d : List PyData}, DpAll K H v d → v.length = d.length
  | _, _, .nil => rfl
  | _, _, .cons _ b => by rw [List.length_cons, List.length_cons, dpa_len b]
theorem dpa_get {K : PySem.W.Frag} {H : Hp} : ∀ {v : List V} {d : List PyData} {i : Nat} {x : V}, DpAll K H v d → v[i]? = some x → ∃ y, d[i]? = some y ∧ Dp K H x y
  | _, _, _, _, .nil, e => by simp at e
  | _, _, 0, _, .cons a _, e => by
    have e' := Option.some.inj e
    subst e'
    exact ⟨_, rfl, a⟩
  | _, _, i + 1, x, .cons _ b, e => by
    obtain ⟨y, e2, h⟩ := dpa_get (i := i) (x := x) b (by simpa using e)
    exact ⟨y, by simpa using e2, h⟩
theorem dpa_app {K : PySem.W.Frag} {H : Hp} : ∀ {v w : List V} {d e : List PyData}, DpAll K H v d → DpAll K H w e → DpAll K H (v ++ w) (d ++ e)
  | _, _, _, _, .nil, y => y
  | _, _, _, _, .cons a b, y => .cons a (dpa_app b y)
theorem dpa_one {K : PySem.W.Frag} {H : Hp} {v : V} {d : PyData} (h : Dp K H v d) : DpAll K H [v] [d] := .cons h .nil
theorem dpa_take {K : PySem.W.Frag} {H : Hp} : ∀ {v : List V} {d : List PyData} (n : Nat), DpAll K H v d → DpAll K H (v.take n) (d.take n)
  | _, _, 0, _ => .nil
  | _, _, _ + 1, .nil => .nil
  | _, _, n + 1, .cons a b => .cons a (dpa_take n b)
theorem dpa_drop {K : PySem.W.Frag} {H : Hp} : ∀ {v : List V} {d : List PyData} (n : Nat), DpAll K H v d → DpAll K H (v.drop n) (d.drop n)
  | _, _, 0, r => r
  | _, _, _ + 1, .nil => .nil
  | _, _, n + 1, .cons _ b => dpa_drop n b
theorem dpa_rev {K : PySem.W.Frag} {H : Hp} : ∀ {v : List V} {d : List PyData}, DpAll K H v d → DpAll K H v.reverse d.reverse
  | _, _, .nil => .nil
  | _, _, .cons a b => by
    rw [List.reverse_cons, List.reverse_cons]
    exact dpa_app (dpa_rev b) (dpa_one a)
theorem dpa_strs {K : PySem.W.Frag} {H : Hp} : ∀ ns : List Str, DpAll K H (ns.map V.str) (ns.map PyData.str)
  | [] => .nil
  | n :: ns => .cons (.str n) (dpa_strs ns)

/-! ### an own class: its methods, len, == -/
/-- where a method stands -/
def AtM (K : PySem.W.Frag) (C : Addr) (m qual : Str) (st : Stmt) (ps : List Str) : Prop :=
  ∃ f fd, PySem.W.findIn K (.ref C) m = some (some (.ref f)) ∧ PySem.W.isFn K (.ref f) = true ∧ Fun K m qual st f fd ∧ Binds K fd ps []
/-- where a property's getter stands -/
def AtP (K : PySem.W.Frag) (C : Addr) (m qual : Str) (st : Stmt) (ps : List Str) : Prop :=
  ∃ p f fd, PropOf K C m p f ∧ Fun K m qual st f fd ∧ Binds K fd ps []
structure Mt (P : Program) (w : World) (K : PySem.W.Frag) (mg : Str → Option Value) (base : Heap)
    (k : Nat) (C : Addr) (m qual : Str) (st : Stmt) (ps : List Str) (sp : Sp) : Prop where
  ex : ∃ f fd, PySem.W.findIn K (.ref C) m = some (some (.ref f)) ∧ PySem.W.isFn K (.ref f) = true ∧ Fun K m qual st f fd ∧ Binds K fd ps [] ∧ FnOk P w K mg base CX0 k f fd ps sp
structure Pt (P : Program) (w : World) (K : PySem.W.Frag) (mg : Str → Option Value) (base : Heap)
    (k : Nat) (C : Addr) (m qual : Str) (st : Stmt) (ps : List Str) (sp : Sp) : Prop where
  ex : ∃ p f fd, PropOf K C m p f ∧ Fun K m qual st f fd ∧ Binds K fd ps [] ∧ FnOk P w K mg base CX0 k f fd ps sp
/-- an own class -/
structure Ck (K : PySem.W.Frag) (mg : Str → Option Value) (C : Addr) (x : Str) : Prop where
  cl : Cls K C
  mks : PySem.W.makesIn K C = true
  kp : PySem.W.keepIn K (.ref C) = true
  mg_ : mg x = some (.ref C)
section
variable {P : Program} {w : World} {K : PySem.W.Frag} {mg : Str → Option Value} {base : Heap}
theorem Mt.mk' {C : Addr} {m qual : Str} {st : Stmt} {ps : List Str} {k : Nat} {sp : Sp} (h : AtM K C m qual st ps)
    (ok : ∀ f fd, Fun K m qual st f fd → FnOk P w K mg base CX0 k f fd ps sp) : Mt P w K mg base k C m qual st ps sp := by
  obtain ⟨f, fd, a, i, F, b⟩ := h
  exact ⟨f, fd, a, i, F, b, ok f fd F⟩
theorem Pt.mk' {C : Addr} {m qual : Str} {st : Stmt} {ps : List Str} {k : Nat} {sp : Sp} (h : AtP K C m qual st ps)
    (ok : ∀ f fd, Fun K m qual st f fd → FnOk P w K mg base CX0 k f fd ps sp) : Pt P w K mg base k C m qual st ps sp := by
  obtain ⟨p, f, fd, a, F, b⟩ := h
  exact ⟨p, f, fd, a, F, b, ok f fd F⟩
end
section
variable {X : Cx} {x m qual : Str} {st : Stmt} {ps ks : List Str} {sp : Sp} {k j n : Nat} {e o : Expr} {es : List Expr} {kws : List Keyword} {ta : TE} {t tk : TA} {p pos apos : Pos} {C : Addr}
/-- C(e, ..) -/
theorem pe_new (T : Ck X.K X.mg C x) (D : Mt X.prog X.w X.K X.mg X.base k C "__init__" qual st ps sp) (hr : Room j X.A) (hg : Gl X x) (ha : PA X (e :: es) t) (hk : k + 1 ≤ j := by decide)
    (hdb : (x == ("__debug__" : Str)) = false := by decide) (he : starEach (e :: es) X.env = (false, eval e X.env) :: starEach es X.env := by rfl)
    (hpl : (backTo pos (starEach es X.env)).any (·.1) = false := by rfl) :
    PE X (.Call (.Name x p) (e :: es) [] pos) (tMake C sp [] E0 t) := by
  obtain ⟨f, fd, a, i, F, b, ok⟩ := D.ex
  exact pe_make ⟨T.mks, a, i, T.kp⟩ ok (hr.mono hk) hg T.mg_ b .nil pass0 ha hdb he hpl
/-- e.f, a property -/
theorem pe_p (T : Ck X.K X.mg C x) (D : Pt X.prog X.w X.K X.mg X.base k C m qual st ps sp) (hr : Room j X.A) (he : PE X e ta) (hk : k + 1 ≤ j := by decide)
    (hab : attributeBase e m X.env (eval e X.env) = eval e X.env := by rfl) : PE X (.Attribute e m pos) (tProp C sp [] E0 ta) := by
  obtain ⟨p, f, fd, a, F, b, ok⟩ := D.ex
  exact pe_prop he T.cl a ok (hr.mono hk) b .nil pass0 hab
/-- len(o), o with its own __len__ -/
theorem call_lenO (D : Mt X.prog X.w X.K X.mg X.base k C "__len__" qual st ps sp) (hr : Room j X.A) (hk : k + 1 ≤ j := by decide) :
    CallR X (.builtin "len") (fun xs H Q => ∃ a dx fs, xs = [.ref a] ∧ H a = some (.ins C dx fs) ∧ sp [.ref a] H (fun v H' => ∃ n : Int, v = .int n ∧ 0 ≤ n ∧ n < 2 ^ 63 ∧ Q (.int n) H') E0) := by
  intro pins s σ H xs us Q I r h
  obtain ⟨a, dx, fs, rfl, ha, q⟩ := h
  obtain ⟨f, fd, at_, i, F, b, ok⟩ := D.ex
  obtain ⟨u, rfl, ru⟩ := vals1 r
  cases ru
  obtain ⟨mA, J, _⟩ := ins_get I.hok ha
  obtain ⟨od, J, _⟩ := J.look
  obtain ⟨m, hF⟩ := I.fr
  refine PySem.W.len_K hF I.ok.mod.kin J at_ i ?_
  have cnt : ([Value.ref a] : List Value).length = ps.length := by
    have := ok.len _ _ _ _ q
    exact this
  have bnd : BindsTo s fd ⟨[.ref a], []⟩ (ps.zip [.ref a]) := by
    have z := b s [.ref a] I.kIn (by simpa using cnt)
    simpa using z
  have hr' := hr.mono hk
  refine wpAny_call (codeAny_mono (ok.run X.A.in1 X.stack s H ⟨[.ref a], []⟩ [.ref a] [.ref a] _ E0 hr'.in1 I.env0.in1 bnd (.cons rfl .nil) q) ?_)
  intro r' s' post
  cases r' with
  | error e => exact (post : False).elim
  | ok fl =>
    cases fl with
    | ret u =>
      obtain ⟨v, H', I2, rv, n, ev, n0, n1, q2⟩ := I.after post
      subst ev
      obtain ⟨tk, rfl⟩ := rv
      exact ⟨⟨n0, n1⟩, .int n, H', I2.tok _, ⟨s'.toks, rfl⟩, q2⟩
    | next => exact (post : False).elim
    | brk => exact (post : False).elim
    | cont => exact (post : False).elim
/-- o == y, o with its own __eq__, which tells True or False -/
theorem op_eqO (D : Mt X.prog X.w X.K X.mg X.base k C "__eq__" qual st ps sp) (hr : Room j X.A) (hk : k ≤ j := by decide) :
    OpR X (compareOp .Eq) (fun x y H Q => ∃ a dx fs t, x = .ref a ∧ H a = some (.ins C dx fs) ∧ TyX X.K H y t ∧ PySem.W.notFirst X.K C t = true ∧
      sp [.ref a, y] H (fun v H' => ∃ b : Bool, v = .bl b ∧ Q (.bl b) H') E0) := by
  intro pins s σ H x y v u Q I rx ry h
  obtain ⟨a, dx, fs, t, rfl, ha, ty, nf, q⟩ := h
  obtain ⟨f, fd, at_, i, F, b, ok⟩ := D.ex
  cases rx
  obtain ⟨mA, J, _⟩ := ins_get I.hok ha
  obtain ⟨od, J, _⟩ := J.look
  obtain ⟨m, hF⟩ := I.fr
  obtain ⟨Pk, kit, pk, _⟩ := kit_of I ry ty
  have hr' := hr.mono hk
  show wpAny (model X.prog X.w) X.A (richCompare .Eq (.ref a) u) (EP X pins σ Q) X.xe s
  refine PySem.W.cmp_K (op := .Eq) (tb := t) hr'.units0 hF I.ok.mod.kin J (kit.ty _ _ I.kIn pk) nf at_ i ?_
  have cnt : ([Value.ref a, u] : List Value).length = ps.length := by
    have := ok.len _ _ _ _ q
    exact this
  have bnd : BindsTo s fd ⟨[.ref a, u], []⟩ (ps.zip [.ref a, u]) := by
    have z := b s [.ref a, u] I.kIn (by simpa using cnt)
    simpa using z
  refine wpAny_call (codeAny_mono (ok.run X.A X.stack s H ⟨[.ref a, u], []⟩ [.ref a, u] [.ref a, y] _ E0 hr' I.env0 bnd (.cons rfl (.cons ry .nil)) q) ?_)
  intro r' s' post
  cases r' with
  | error e => exact (post : False).elim
  | ok fl =>
    cases fl with
    | ret w =>
      obtain ⟨v, H', I2, rv, n, ev, q2⟩ := I.after post
      subst ev
      have ew : w = Value.bool n := rv
      subst ew
      exact ⟨.bl n, H', I2, rfl, q2⟩
    | next => exact (post : False).elim
    | brk => exact (post : False).elim
    | cont => exact (post : False).elim
/-- C(k = v, ..) -/
theorem pe_newk {g : {α : Type} → List α → List α → List α} (T : Ck X.K X.mg C x) (D : Mt X.prog X.w X.K X.mg X.base k C "__init__" qual st ps sp) (hr : Room j X.A)
    (kb : ∀ f fd, Fun X.K "__init__" qual st f fd → KBn X.K fd ps 1 ks g g) (hg : Gl X x) (hkw : PK X kws tk) (hk : k + 1 ≤ j := by decide)
    (hall : (backToKw pos (keywordEach kws X.env)).all (·.1.isSome) = true := by rfl) (hks : (backToKw pos (keywordEach kws X.env)).filterMap (·.1) = ks := by rfl) (hdb : (x == ("__debug__" : Str)) = false := by decide)
    (hpl : ((backTo pos (starEach [] X.env)).any (·.1) || (backToKw pos (keywordEach kws X.env)).any (·.1.isNone)) = false := by rfl) :
    PE X (.Call (.Name x p) [] kws pos) (tMakeK C 0 ks.length sp g E0 tNil tk) := by
  obtain ⟨f, fd, a, i, F, b, ok⟩ := D.ex
  exact pe_makeK0 ⟨T.mks, a, i, T.kp⟩ ok (hr.mono hk) hg T.mg_ (kb f fd F) pass0 hkw hall hks hdb hpl
end
end Gd

set_option Elab.async false
set_option linter.all false
set_option maxRecDepth 100000
set_option autoImplicit false
namespace Gd
open PySem PySem.Spec PyProof.Rows L2

/-! ### t[::-1], t a tuple -/
theorem adjust_rev (n : Nat) : Builtin.Slice.sliceAdjust none none (-1) (n : Int) = ((n : Int) - 1, -1) := by
  simp [Builtin.Slice.sliceAdjust]
theorem places_rev (n : Nat) : Builtin.Slice.slicePlaces ((n : Int) - 1) (-1) (-1) = n := by
  unfold Builtin.Slice.slicePlaces
  rw [if_neg (by decide)]
  by_cases h : (n : Int) - 1 > -1
  · rw [if_pos h]
    have e : (- (-1) : Int) = 1 := by decide
    rw [e, Int.ediv_one]
    omega
  · rw [if_neg h]
    omega
theorem fm_congr {α β : Type} {f g : α → Option β} : ∀ l : List α, (∀ x ∈ l, f x = g x) → l.filterMap f = l.filterMap g
  | [], _ => rfl
  | a :: l, h => by
    rw [List.filterMap_cons, List.filterMap_cons, h a (by simp), fm_congr l fun x m => h x (by simp [m])]
theorem pick_rev (xs : Array Value) : ((List.range xs.size).filterMap fun (k : Nat) => xs[(((xs.size : Int) - 1) + (k : Int) * (-1)).toNat]?).toArray = xs.toList.reverse.toArray := by
  have e : ((List.range xs.size).filterMap fun (k : Nat) => xs[(((xs.size : Int) - 1) + (k : Int) * (-1)).toNat]?) = ((List.range xs.size).map fun k => xs.size - 1 - k).filterMap (xs[·]?) := by
    rw [List.filterMap_map]
    refine fm_congr _ fun k hk => ?_
    have := List.mem_range.mp hk
    show xs[(((xs.size : Int) - 1) + (k : Int) * (-1)).toNat]? = xs[xs.size - 1 - k]?
    congr 1
    omega
  rw [e, PySem.W.krv_range, List.filterMap_reverse, PySem.W.krv_all]
section
variable {prog : Program} {w : World} {A : Around} {E : Value → Shared → Prop} {s : Shared}
theorem applied_rev {sl : Addr} {vl vu vs : Value} {n : Nat} {Q : Int × Int × Nat → Shared → Prop} (hs : s.heap.IsSliceOf sl vl vu vs) (pl : IsPart vl none) (pu : IsPart vu none) (ps : IsPart vs (some (-1)))
    (h : Q ((n : Int) - 1, -1, n) s) : wpAny (model prog w) A (Builtin.Slice.sliceApplied (.ref sl) (pure (n : Int))) Q E s := by
  obtain ⟨os, hos, hcs, hds⟩ := id hs
  unfold Builtin.Slice.sliceApplied Builtin.Slice.sliceFields
  refine wpAny_bind (wpAny_bind (wpAny_field hos hds (x := vl) rfl (wpAny_bind (wpAny_field hos hds (x := vu) rfl (wpAny_bind (wpAny_field hos hds (x := vs) rfl (wpAny_pure ?_)))))))
  refine wpAny_bind (HT.slicePart_ ps ?_)
  show wpAny _ _ (if ((-1 : Int) == 0) = true then _ else _) _ _ s
  rw [if_neg (by decide)]
  refine wpAny_bind (HT.slicePart_ pl (wpAny_bind (HT.slicePart_ pu (wpAny_bind (wpAny_pure ?_)))))
  show wpAny _ _ (match Builtin.Slice.sliceAdjust none none (-1) (n : Int) with | (lo, hi) => pure (lo, (-1 : Int), Builtin.Slice.slicePlaces lo hi (-1))) _ _ s
  rw [adjust_rev n]
  show wpAny _ _ (pure ((n : Int) - 1, (-1 : Int), Builtin.Slice.slicePlaces ((n : Int) - 1) (-1) (-1))) _ _ s
  rw [places_rev]
  exact wpAny_pure h
theorem getItem_rev {t sl : Addr} {items : Array Value} {vl vu vs : Value} {Q : Value → Shared → Prop} (ht : IsTup s.heap t items) (hs : s.heap.IsSliceOf sl vl vu vs) (pl : IsPart vl none) (pu : IsPart vu none) (ps : IsPart vs (some (-1)))
    (h : Q (.ref s.heap.objs.size) { s with heap := s.heap.push { cls := .type "tuple", data := .seq items.toList.reverse.toArray } })
    (hsz : items.size ≤ sizeLine) : wpAny (model prog w) A (getItem (.ref t) (.ref sl)) Q E s := by
  have hok : sizeOk (.seq items.toList.reverse.toArray) := by
    show items.toList.reverse.toArray.size ≤ sizeLine
    rw [List.size_toArray, List.length_reverse, Array.length_toList]
    exact hsz
  obtain ⟨os, hos, hcs, hds⟩ := id hs
  have hTs : s.TypeIs (.ref sl) "slice" := ⟨os, hos, hcs⟩
  unfold getItem
  try with_reducible refine wpAny_holding ?_
  first | refine wpAny_bind (wpAny_pure ?_) | skip
  refine wpAny_bind (wpAny_sequenceKey ht.typeIs (by decide) ?_)
  refine wpAny_bind (wpAny_callSpecial?_slot (name := Str.ofString "__getitem__") ht.typeIs PyProof.Rows.slot_tuple_getitem
    (wpAny_call_entry PyProof.Rows.slot_tuple_getitem ht.typeIs entry_tuple_getitem ?_ (args_tuple_getitem _ _)))
  show wpAny _ _ (Builtin.Tuple.tupleItemsOf (.ref t) >>= _) _ _ s
  refine wpAny_bind (tupleItemsOf_ ht ?_)
  refine wpAny_bind (wpAny_typeOf hTs ?_)
  rw [if_pos (by decide)]
  refine wpAny_bind (applied_rev hs pl pu ps ?_)
  have hno : ¬ (((((items.size : Int) - 1) == 0) && ((-1 : Int) == 1) && (items.size == items.size)) = true) := by
    intro q
    rw [Bool.and_eq_true, Bool.and_eq_true] at q
    exact absurd (eq_of_beq q.1.2) (by decide)
  show wpAny _ _ (if ((((items.size : Int) - 1) == 0) && ((-1 : Int) == 1) && (items.size == items.size)) = true then _ else _) _ _ s
  rw [if_neg hno, pick_rev]
  first
    | exact wpAny_bind (m := Builtin.Tuple.tupleExact _) (wpAny_newObj_type (wpAny_pure ⟨_, rfl, wpAny_pure h⟩) hok)
    | exact wpAny_bind (m := Builtin.Tuple.tupleExact _) (wpAny_newObj_type (wpAny_bind (wpAny_pure (wpAny_pure ⟨_, rfl, wpAny_pure h⟩))) hok)
    | exact wpAny_bind (wpAny_bind (m := Builtin.Tuple.tupleExact _) (wpAny_newObj_type (wpAny_pure (wpAny_pure ⟨_, rfl, wpAny_pure h⟩)) hok))
    | exact wpAny_bind (wpAny_bind (m := Builtin.Tuple.tupleExact _) (wpAny_newObj_type (wpAny_pure ⟨_, rfl, wpAny_pure h⟩) hok))
end
section
variable {X : Cx}
def tRevT (K : PySem.W.Frag) (te : TE) : TE := fun σ H Q => te σ H fun x H1 => ∃ a xs, x = .ref a ∧ SqT K H1 a xs ∧ ∀ p, H1 p = none → Q (.ref p) (upd H1 p (.tup xs.reverse))
theorem pe_revT {e : Expr} {te : TE} {k : Nat} {p1 p2 p3 pos : Pos} (he : PE X e te) : PE X (.Subscript e (.Slice none none (some (.UnaryOp .USub (.Constant (.int 1) k p1) p2)) p3) pos) (tRevT X.K te) := by
  refine ⟨fun pins s σ H Q I h => ?_⟩
  refine Subscript_ (thn (he.run pins s σ H _ I h) fun v s1 ⟨x, H1, I1, r1, q1⟩ => ?_)
  obtain ⟨a, xs, ex, hx, q⟩ := q1
  subst ex
  cases r1
  have hst : PO X (some (.UnaryOp .USub (.Constant (.int 1) k p1) p2)) (tPart (tUn (rU fun i => .int (-i)) (tC (.int 1)))) := po_some (pe_un un_neg pe_int)
  refine wpAny_Slice (thn (po_none.run pins s1 σ H1 (fun o H2 => o = none ∧ H2 = H1) I1 ⟨rfl, rfl⟩) fun vl s2 ⟨l, H2, I2, pl, el, e2⟩ => ?_)
  subst el e2
  refine thn (po_none.run pins s2 σ H2 (fun o H3 => o = none ∧ H3 = H2) I2 ⟨rfl, rfl⟩) fun vu s3 ⟨u, H3, I3, pu, eu, e3⟩ => ?_
  subst eu e3
  refine thn (hst.run pins s3 σ H3 (fun o H4 => o = some (-1) ∧ H4 = H3) I3 ⟨1, rfl, -1, rfl, rfl, rfl⟩) fun vs s4 ⟨o, H4, I4, ps, eo, e4⟩ => ?_
  subst eo e4
  have I5 : Inv X pins σ H4 { s4 with heap := s4.heap.push { cls := .type "slice", data := .fields #[vl, vu, vs] } } := I4.kept (t' := s4.toks) fun b ob q => Heap.get?_push_of_some _ q
  obtain ⟨its, r, ht, hz⟩ := I5.tuple hx
  have hlen := r.length
  show wpAny (model X.prog X.w) X.A (subscriptTail e (.Slice none none (some (.UnaryOp .USub (.Constant (.int 1) k p1) p2)) p3) (.ref a) (.ref s4.heap.objs.size)) (EP X pins σ Q) X.xe { s4 with heap := s4.heap.push { cls := .type "slice", data := .fields #[vl, vu, vs] } }
  refine tail_any (ops := [.ref a, .ref s4.heap.objs.size]) ht.typeIs (PyProof.Rows.slot_tuple_getitem.lookup) ?_ (by with_unfolding_all rfl)
  refine getItem_rev ht (Heap.IsSliceOf.new _ vl vu vs) pl pu ps ?_ (by rw [List.size_toArray]; omega)
  refine ⟨.ref _, _, I5.laid (t' := s4.toks) (o := .tup xs.reverse) (fun b ob q => Heap.get?_push_of_some _ q) (Nat.le_refl _) ?_, rfl, q _ (I5.hok.fresh (Nat.le_refl _))⟩
  refine ⟨by rw [List.length_reverse]; omega, its.reverse, r.reverse, _, Heap.get?_push_size _ rfl, rfl, 0, rfl⟩
end
end Gd

set_option Elab.async false
set_option linter.all false
set_option maxRecDepth 100000
set_option autoImplicit false
namespace Gd
open PySem PySem.Spec PyProof.Rows L2

/-! ### methods of an own class, called -/
section
variable {X : Cx} {x m qual : Str} {st : Stmt} {ps ks : List Str} {sp : Sp} {k j : Nat} {e o : Expr} {es : List Expr} {kws : List Keyword} {ta : TE} {t tk : TA} {p pos apos : Pos} {C : Addr}
/-- o.m(e, ..) -/
theorem pe_m {pl : Sem Bool} (T : Ck X.K X.mg C x) (D : Mt X.prog X.w X.K X.mg X.base k C m qual st ps sp) (hr : Room j X.A) (he : PE X o ta) (ha : PA X (e :: es) t) (hk : k ≤ j := by decide)
    (hst : starEach (e :: es) X.env = (false, eval e X.env) :: starEach es X.env := by rfl) (hpl : (backTo pos (starEach es X.env)).any (·.1) = false := by rfl)
    (ht : eval (.Call (.Attribute o m apos) (e :: es) [] pos) X.env = (do
      let ov ← eval o X.env
      standAt apos.atName
      let (f, first) ← holding [ov] (getMethod ov m pl)
      callWith pos f first (backTo pos (starEach (e :: es) X.env)) (backToKw pos (keywordEach [] X.env))) := by rfl) :
    PE X (.Call (.Attribute o m apos) (e :: es) [] pos) (tMeth C m sp [] E0 ta t) := by
  obtain ⟨f, fd, at_, i, F, b, ok⟩ := D.ex
  exact pe_meth he T.cl ⟨at_, i, F.kp⟩ ok (hr.mono hk) b .nil pass0 ha hst hpl ht
/-- o.m() -/
theorem pe_m0 {pl : Sem Bool} (T : Ck X.K X.mg C x) (D : Mt X.prog X.w X.K X.mg X.base k C m qual st ps sp) (hr : Room j X.A) (he : PE X o ta) (hk : k ≤ j := by decide)
    (ht : eval (.Call (.Attribute o m apos) [] [] pos) X.env = (do
      let ov ← eval o X.env
      standAt apos.atName
      let (f, first) ← holding [ov] (getMethod ov m pl)
      callWith pos f first (backTo pos (starEach [] X.env)) (backToKw pos (keywordEach [] X.env))) := by rfl) :
    PE X (.Call (.Attribute o m apos) [] [] pos) (tMeth C m sp [] E0 ta tNil) := by
  obtain ⟨f, fd, at_, i, F, b, ok⟩ := D.ex
  exact pe_meth0 he T.cl ⟨at_, i, F.kp⟩ ok (hr.mono hk) b .nil pass0 ht
/-- the reading of o == y, o with its own __eq__ -/
def rEqO (K : PySem.W.Frag) (C : Addr) (sp : Sp) : R2 := fun x y H Q => ∃ a dx fs t, x = .ref a ∧ H a = some (.ins C dx fs) ∧ TyX K H y t ∧ PySem.W.notFirst K C t = true ∧
  sp [.ref a, y] H (fun v H' => ∃ b : Bool, v = .bl b ∧ Q (.bl b) H') E0
/-- the reading of o.m(k = v, ..) -/
def tMethK (C : Addr) (m : Str) (n : Nat) (sp : Sp) (gV : List V → List V → List V) (ta : TE) (tk : TA) : TE := fun σ H Q => ta σ H fun x H1 => ∃ a dx fs, x = .ref a ∧ H1 a = some (.ins C dx fs) ∧ fs.lookup m = none ∧
  tk σ H1 fun zs H2 => zs.length = n ∧ sp (gV [x] zs) H2 Q E0
/-- o.m(k = v, ..) -/
theorem pe_mk {pl : Sem Bool} {g : {α : Type} → List α → List α → List α} (T : Ck X.K X.mg C x) (D : Mt X.prog X.w X.K X.mg X.base k C m qual st ps sp) (hr : Room j X.A) (kb : ∀ f fd, Fun X.K m qual st f fd → KBn X.K fd ps 1 ks g g) (he : PE X o ta) (hkw : PK X kws tk) (hk : k ≤ j := by decide)
    (hall : (backToKw pos (keywordEach kws X.env)).all (·.1.isSome) = true := by rfl) (hks : (backToKw pos (keywordEach kws X.env)).filterMap (·.1) = ks := by rfl)
    (hpl : ((backTo pos (starEach [] X.env)).any (·.1) || (backToKw pos (keywordEach kws X.env)).any (·.1.isNone)) = false := by rfl)
    (ht : eval (.Call (.Attribute o m apos) [] kws pos) X.env = (do
      let ov ← eval o X.env
      standAt apos.atName
      let (f, first) ← holding [ov] (getMethod ov m pl)
      callWith pos f first (backTo pos (starEach [] X.env)) (backToKw pos (keywordEach kws X.env))) := by rfl) :
    PE X (.Call (.Attribute o m apos) [] kws pos) (tMethK C m ks.length sp g ta tk) := by
  obtain ⟨f, fd, at_, i, F, b, ok⟩ := D.ex
  refine ⟨fun pins s σ H Q I h => ?_⟩
  refine PySem.W.methodCall_KW (pl := pl) (thn (he.run pins s σ H _ I h) fun u s1 got => ?_) ht
  obtain ⟨x', H1, I1, rx, a, dx, fs, ex, ea, l, q⟩ := got
  subst ex
  obtain rfl : u = Value.ref a := rx
  refine getmeth_ok I1 ea T.cl ⟨at_, i, F.kp⟩ l ?_
  refine PySem.W.callWith_KW0 (first := [.ref a]) (h₀ := X.base) I.ok.mod.kin F.kp hall ?_ hpl
  refine thn (hkw.run pos pins s1 σ H1 _ I1 q) fun ws s2 got2 => ?_
  obtain ⟨zs, H2, I2, rz, l1, q2⟩ := got2
  refine ⟨I2.kIn, ?_⟩
  rw [hks]
  have kb' := kb f fd F
  have r1 : Vals [V.ref a] [Value.ref a] := .cons rfl .nil
  have rel := kb'.rel r1 rz
  have bnd := kb'.to s2 [.ref a] ws I2.kIn rfl (rz.length.symm.trans l1)
  show wpAny _ _ (call (.ref f) [.ref a] (ks.zip ws)) _ _ _
  refine wpAny_call (codeAny_mono (ok.run X.A X.stack s2 H2 ⟨[.ref a], ks.zip ws⟩ _ _ _ E0 (hr.mono hk) I2.env0 bnd rel q2) ?_)
  intro r s' post
  cases r with
  | error e => exact (post : False).elim
  | ok fl =>
    cases fl with
    | ret u => exact I2.after post
    | next => exact (post : False).elim
    | brk => exact (post : False).elim
    | cont => exact (post : False).elim
end
end Gd

set_option Elab.async false
set_option linter.all false
set_option maxRecDepth 100000
set_option autoImplicit false
namespace Gd
open PySem PySem.Spec PyProof.Rows L2

/-! ### a shown text has only signs that there are -/
def Sg (t : Str) : Prop := ∀ c ∈ t.cps.toList, c < 1114112
theorem Sg.ok {t : Str} (h : Sg t) : PyData.strOk t = true := by
  unfold PyData.strOk
  rw [← Array.all_toList, List.all_eq_true]
  exact fun c m => decide_eq_true (h c m)
theorem Sg.of {t : Str} (h : PyData.strOk t = true) : Sg t := by
  unfold PyData.strOk at h
  rw [← Array.all_toList, List.all_eq_true] at h
  exact fun c m => of_decide_eq_true (h c m)
theorem char_lt (c : Char) : c.toNat < 1114112 := by
  have h := c.valid
  have e : c.toNat = c.val.toNat := rfl
  rcases h with h | h
  · have h1 : c.val.toNat < 0xd800 := h
    omega
  · have h1 : c.val.toNat < 0x110000 := h.2
    omega
theorem Sg.lit (s : String) : Sg (Str.ofString s) := fun c m => by
  rw [signs_ofString] at m
  obtain ⟨ch, _, rfl⟩ := List.mem_map.mp m
  exact char_lt ch
theorem Sg.app {a b : Str} (ha : Sg a) (hb : Sg b) : Sg (a ++ b) := fun c m => by
  have e : (a ++ b).cps = a.cps ++ b.cps := rfl
  rw [e, Array.toList_append, List.mem_append] at m
  exact m.elim (ha c) (hb c)
theorem reprChar_lt {q c : Nat} (hq : q < 1114112) (hc : c < 1114112) : ∀ d ∈ PySem.Builtin.Str.reprChar q c, d < 1114112 := by
  intro d m
  have hex : ∀ n, d ∈ List.replicate n 48 ++ (Nat.toDigits 16 c).map Char.toNat → d < 1114112 := fun n m => by
    rcases List.mem_append.mp m with m | m
    · have := (List.mem_replicate.mp m).2
      omega
    · obtain ⟨ch, _, rfl⟩ := List.mem_map.mp m
      exact char_lt ch
  unfold PySem.Builtin.Str.reprChar at m
  simp only at m
  split at m
  · simp only [List.mem_cons, List.not_mem_nil, or_false] at m
    omega
  split at m
  · simp only [List.mem_cons, List.not_mem_nil, or_false] at m
    omega
  split at m
  · simp only [List.mem_cons, List.not_mem_nil, or_false] at m
    omega
  split at m
  · simp only [List.mem_cons, List.not_mem_nil, or_false] at m
    omega
  split at m
  · simp only [List.mem_cons, List.not_mem_nil, or_false] at m
    omega
  split at m
  · rcases List.mem_append.mp m with m | m
    · simp only [List.mem_cons, List.not_mem_nil, or_false] at m
      omega
    · exact hex _ m
  split at m
  · rcases List.mem_append.mp m with m | m
    · simp only [List.mem_cons, List.not_mem_nil, or_false] at m
      omega
    · exact hex _ m
  · rcases List.mem_append.mp m with m | m
    · simp only [List.mem_cons, List.not_mem_nil, or_false] at m
      omega
    · exact hex _ m
theorem foldl_lt {q : Nat} (hq : q < 1114112) : ∀ (l : List Nat) (acc : Array Nat), (∀ c ∈ l, c < 1114112) → (∀ c ∈ acc.toList, c < 1114112) → ∀ c ∈ (l.foldl (fun out c => out ++ (PySem.Builtin.Str.reprChar q c).toArray) acc).toList, c < 1114112
  | [], acc, _, ha => ha
  | c :: l, acc, hl, ha => by
    refine foldl_lt hq l _ (fun d m => hl d (List.mem_cons_of_mem _ m)) fun d m => ?_
    rw [Array.toList_append, List.mem_append] at m
    rcases m with m | m
    · exact ha d m
    · exact reprChar_lt hq (hl c List.mem_cons_self) d m
theorem quote_lt (x : Str) : reprQuote x < 1114112 := by
  unfold reprQuote
  split <;> decide
theorem Sg.repr {x : Str} (h : Sg x) : Sg (reprText x) := by
  intro c m
  have e : (reprText x).cps = (x.cps.foldl (fun out c => out ++ (PySem.Builtin.Str.reprChar (reprQuote x) c).toArray) #[reprQuote x]).push (reprQuote x) := rfl
  rw [e, Array.toList_push, List.mem_append] at m
  rcases m with m | m
  · rw [← Array.foldl_toList] at m
    refine foldl_lt (quote_lt x) _ _ h (fun d md => ?_) c m
    have : d = reprQuote x := by simpa using md
    rw [this]
    exact quote_lt x
  · have : c = reprQuote x := by simpa using m
    rw [this]
    exact quote_lt x
theorem Sg.text : ∀ (ts : List Str) (k : Nat) (acc : Str), Sg acc → (∀ t ∈ ts, Sg t) → Sg (textFrom k acc ts)
  | [], _, _, ha, _ => ha
  | t :: ts, k, acc, ha, ht => by
    refine Sg.text ts (k + 1) _ (Sg.app (Sg.app ha ?_) (ht t List.mem_cons_self)) fun u m => ht u (List.mem_cons_of_mem _ m)
    split
    · exact Sg.lit _
    · exact Sg.lit _
theorem Sg.join {sep : Str} (hs : Sg sep) : ∀ (ts : List Str), (∀ t ∈ ts, Sg t) → Sg (Str.join sep ts)
  | [], _ => fun c m => by
    have : c ∈ ([] : List Nat) := m
    simp at this
  | [x], h => h x List.mem_cons_self
  | x :: y :: r, h => Sg.app (Sg.app (h x List.mem_cons_self) hs) (Sg.join hs (y :: r) fun t m => h t (List.mem_cons_of_mem _ m))
mutual
theorem shown_sg : ∀ d : PyData, d.canLay0 = true → Sg d.shown
  | .none, _ => by
    rw [PyData.shown_none]
    exact Sg.lit _
  | .bool b, _ => by
    rw [PyData.shown_bool]
    split <;> exact Sg.lit _
  | .int i, _ => by
    rw [PyData.shown_int]
    exact Sg.lit _
  | .str x, h => by
    have h' : PyData.strOk x = true := by simpa [PyData.canLay0] using h
    have e : (PyData.str x).shown = reprText x := by simp [PyData.shown]
    rw [e]
    exact Sg.repr (Sg.of h')
  | .list xs, h => by
    have h' : PyData.canLayAll0 xs = true := by simpa [PyData.canLay0] using h
    have e : (PyData.list xs).shown = listText (PyData.shownAll xs) := by simp [PyData.shown]
    rw [e]
    exact Sg.app (Sg.text _ _ _ (Sg.lit _) (shownAll_sg xs h')) (Sg.lit _)
  | .tuple xs, h => by
    have h' : PyData.canLayAll0 xs = true := by simpa [PyData.canLay0] using h
    have e : (PyData.tuple xs).shown = tupleText (PyData.shownAll xs) := by simp [PyData.shown]
    rw [e]
    refine Sg.app (Sg.app (Sg.lit _) (Sg.join (Sg.lit _) _ (shownAll_sg xs h'))) ?_
    split <;> exact Sg.lit _
  | .dict _, h => by simp [PyData.canLay0] at h
theorem shownAll_sg : ∀ xs : List PyData, PyData.canLayAll0 xs = true → ∀ t ∈ PyData.shownAll xs, Sg t
  | [], _, t, m => by
    rw [PyData.shownAll_nil] at m
    simp at m
  | x :: xs, h, t, m => by
    have h' : x.canLay0 = true ∧ PyData.canLayAll0 xs = true := by simpa [PyData.canLayAll0] using h
    rw [PyData.shownAll_cons, List.mem_cons] at m
    rcases m with rfl | m
    · exact shown_sg x h'.1
    · exact shownAll_sg xs h'.2 t m
end
theorem shown_ok {d : PyData} (h : d.canLay0 = true) : PyData.strOk d.shown = true := (shown_sg d h).ok
end Gd

set_option Elab.async false
set_option linter.all false
set_option maxRecDepth 100000
set_option autoImplicit false
namespace Gd
open PySem PySem.Spec PyProof.Rows L2

/-! ### dicts of text keys -/
mutual
theorem reads_noL {h : Heap} : ∀ (d : PyData) {v : Value} {as : List Addr}, Reads h v d as → NoL d → as = []
  | .none, _, _, r, _ => by cases r; rfl
  | .bool _, _, _, r, _ => by cases r; rfl
  | .int _, _, _, r, _ => by cases r; rfl
  | .str _, _, _, r, _ => by cases r; rfl
  | .list _, _, _, _, n => by cases n
  | .tuple ds, _, _, r, n => by
    cases r with
    | tuple h1 h2 h3 ra => exact readsAll_noL ds ra (by cases n with | tup f => exact f)
  | .dict _, _, _, _, n => by cases n
theorem readsAll_noL {h : Heap} : ∀ (ds : List PyData) {vs : List Value} {as : List Addr}, ReadsAll h vs ds as → (∀ d ∈ ds, NoL d) → as = []
  | [], _, _, r, _ => by cases r; rfl
  | d :: ds, _, _, r, n => by
    cases r with
    | cons r1 r2 =>
      rw [reads_noL d r1 (n d (by simp)), readsAll_noL ds r2 (fun x m => n x (by simp [m]))]
      rfl
end
/-- the pairs of a dict -/
abbrev kvOf (ks : List Str) (vs : List V) : List (Key × V) := (ks.map Sum.inr).zip vs
/-- at a: a dict from the texts ks to values of the data ds -/
structure Dct (K : PySem.W.Frag) (H : Hp) (a : Addr) (ks : List Str) (ds : List PyData) : Prop where
  ex : ∃ vs : List V, vs.length = ks.length ∧ H a = some (.dK (kvOf ks vs)) ∧ DpAll K H vs ds
  nol : ∀ d ∈ ds, NoL d
theorem keys_reads {P : Program} {w : World} {h : Heap} : ∀ {es : List DictEntry} {kvs : List (Key × Value)} {ks : List Str}, Pairs (mixKind P w) es kvs → kvs.map (·.1) = ks.map Sum.inr → ReadsAll h (es.map (·.key)) (ks.map PyData.str) []
  | [], _, ks, .nil, e => by
    have : ks = [] := by simpa using e.symm
    subst this
    exact .nil
  | _ :: _, _, [], .cons _ _ _, e => by simp at e
  | d :: es, kv :: kvs, k :: ks, .cons h1 h2 h3, e => by
    simp only [List.map_cons, List.cons.injEq] at e
    have h1' : keyIs kv.1 d.key = true := h1
    rw [e.1] at h1'
    rcases keyIs_shape h1' with ⟨i, t, q, _⟩ | ⟨x, t, q, q2⟩
    · cases q
    · cases q
      have := keys_reads (h := h) h3 e.2
      simp only [List.map_cons]
      rw [q2]
      exact ReadsAll.cons (.str k t) this
theorem vals_of_pairs {P : Program} {w : World} : ∀ {es : List DictEntry} {kvs : List (Key × Value)}, Pairs (mixKind P w) es kvs → es.map (·.val) = kvs.map (·.2)
  | _, _, .nil => rfl
  | _, _, .cons _ h2 h3 => by
    simp only [List.map_cons]
    rw [h2, vals_of_pairs h3]
theorem kv_vals {α : Type} : ∀ {kvs : List (α × V)} {us : List (α × Value)}, KV kvs us → Vals (kvs.map (·.2)) (us.map (·.2))
  | _, _, .nil => .nil
  | _, _, .cons h t => .cons h.2 (kv_vals t)
theorem kv_keys {α : Type} : ∀ {kvs : List (α × V)} {us : List (α × Value)}, KV kvs us → kvs.map (·.1) = us.map (·.1)
  | _, _, .nil => rfl
  | _, _, .cons h t => by
    simp only [List.map_cons]
    rw [h.1, kv_keys t]
theorem kvOf_keys : ∀ {ks : List Str} {vs : List V}, vs.length = ks.length → (kvOf ks vs).map (·.1) = ks.map Sum.inr
  | [], [], _ => rfl
  | k :: ks, v :: vs, l => by
    show Sum.inr k :: (kvOf ks vs).map (·.1) = _
    rw [kvOf_keys (by simpa using l)]
    rfl
theorem kvOf_vals : ∀ {ks : List Str} {vs : List V}, vs.length = ks.length → (kvOf ks vs).map (·.2) = vs
  | [], [], _ => rfl
  | k :: ks, v :: vs, l => by
    show v :: (kvOf ks vs).map (·.2) = _
    rw [kvOf_vals (by simpa using l)]
/-- the data of such a dict -/
def dctD (ks : List Str) (ds : List PyData) : PyData := .dict ((ks.map PyData.str).zip ds)
/-- a dict whose text is short -/
structure DctOk (n k : Nat) (ks : List Str) (ds : List PyData) : Prop where
  ks_ : ∀ x ∈ ks, DOk 20 1 (.str x)
  ds_ : ∀ d ∈ ds, DOk n k d
  len : ds.length = ks.length
  few : ks.length ≤ 100
theorem zip_facts {n k : Nat} : ∀ {ks : List Str} {ds : List PyData}, ds.length = ks.length → (∀ x ∈ ks, DOk 20 1 (.str x)) → (∀ d ∈ ds, DOk n k d) → 1 ≤ k →
    PyData.leavesShortKv 62 ((ks.map PyData.str).zip ds) = true ∧ PyData.bulkKv ((ks.map PyData.str).zip ds) ≤ ks.length * (n + 22) ∧ PyData.showableKv ((ks.map PyData.str).zip ds) = true ∧ PyData.depthKv ((ks.map PyData.str).zip ds) ≤ k
  | [], [], _, _, _, _ => ⟨rfl, by simp [PyData.bulkKv], rfl, by simp [PyData.depthKv]⟩
  | x :: ks, d :: ds, l, hk, hd, k1 => by
    obtain ⟨a1, a2, a3, a4⟩ := zip_facts (ks := ks) (ds := ds) (by simpa using l) (fun y m => hk y (by simp [m])) (fun y m => hd y (by simp [m])) k1
    have X := hk x (by simp)
    have D := hd d (by simp)
    simp only [List.map_cons, List.zip_cons_cons]
    refine ⟨?_, ?_, ?_, ?_⟩
    · unfold PyData.leavesShortKv
      rw [X.short, D.short, a1]
      rfl
    · unfold PyData.bulkKv
      have := X.bulk
      have := D.bulk
      rw [List.length_cons, Nat.succ_mul]
      omega
    · unfold PyData.showableKv
      rw [X.shw, D.shw, a3]
      rfl
    · unfold PyData.depthKv
      have := X.deep
      have := D.deep
      omega
theorem reads_dct {X : Cx} {pins : List (Addr × Obj)} {σ : L2.St} {H : Hp} {s : Shared} {a : Addr} {ks : List Str} {ds : List PyData} (I : Inv X pins σ H s) (h : Dct X.K H a ks ds) : Reads s.heap (.ref a) (dctD ks ds) [a] ∧ a ≠ sysModules := by
  obtain ⟨vs, lv, e, da⟩ := h.ex
  obtain ⟨_, hs, us, kv, o, es, ep, ho, ex, hdat, _, prs, _⟩ := dk_of I.hok e
  have k1 : ReadsAll s.heap (es.toList.map (·.key)) (ks.map PyData.str) [] := keys_reads prs (by rw [← kv_keys kv, kvOf_keys lv])
  have rv : Vals vs (us.map (·.2)) := by
    have z := kv_vals kv
    rw [kvOf_vals lv] at z
    exact z
  obtain ⟨as, k2⟩ := Dp.readsAll I ds vs (us.map (·.2)) da rv
  have z := readsAll_noL ds k2 h.nol
  subst z
  rw [← vals_of_pairs prs] at k2
  have l1 : (ks.map PyData.str).length = ds.length := by rw [List.length_map, ← lv, dpa_len da]
  have e1 : ((ks.map PyData.str).zip ds).map (·.1) = ks.map PyData.str := by
    rw [List.map_fst_zip]
    omega
  have e2 : ((ks.map PyData.str).zip ds).map (·.2) = ds := by
    rw [List.map_snd_zip]
    omega
  refine ⟨?_, fun z => ?_⟩
  · have := Reads.dict (kvs := (ks.map PyData.str).zip ds) ho ex.1 hdat (by rw [e1]; exact k1) (by rw [e2]; exact k2)
    exact this
  · rw [z] at hs
    simp at hs
section
variable {X : Cx}
/-- repr of a dict that is short -/
theorem call_reprDct {k : Nat} (gd : X.A.guards = some []) (hr : Room k X.A) : CallR X (.builtin "repr") (fun xs H Q => ∃ a ks ds n j, xs = [.ref a] ∧
    Dct X.K H a ks ds ∧ DctOk n j ks ds ∧ n ≤ 1000 ∧ 1 ≤ j ∧ j ≤ 60 ∧ Q (.str (dctD ks ds).shown) H) := by
  intro pins s σ H xs us Q I r h
  obtain ⟨a, ks, ds, n, j, rfl, dc, ok, hn, j1, hj, q⟩ := h
  obtain ⟨u, rfl, ru⟩ := vals1 r
  cases ru
  obtain ⟨rd, ns⟩ := reads_dct I dc
  obtain ⟨f1, f2, f3, f4⟩ := zip_facts ok.len ok.ks_ ok.ds_ j1
  have room := hr.un
  have dd : (dctD ks ds).depth ≤ 61 := by
    unfold dctD PyData.depth
    omega
  have fits : (dctD ks ds).shown.length ≤ sizeLine := by
    have e := PyData.shown_le_bulk 62 (by decide) (dctD ks ds) (by unfold dctD PyData.leavesShort; exact f1)
    have b : (dctD ks ds).bulk ≤ ks.length * (n + 22) := by
      unfold dctD PyData.bulk
      exact f2
    have c : ks.length * (n + 22) ≤ 100 * 1022 := Nat.mul_le_mul ok.few (by omega)
    have s : sizeLine = 16777216 := by decide
    omega
  refine repr_of_reads' rd (by unfold dctD PyData.showable; exact f3) (fun _ z => ?_) gd (by omega) (fun _ _ e => e) ?_ fits
  · have : sysModules = a := by simpa using z
    exact ns this.symm
  · intro h' u tk keep
    exact ⟨.str _, H, I.kept keep, ⟨u, rfl⟩, q⟩
end

/-! ### what stands at a key -/
theorem valV_kv {ks : List Str} (nd : ks.Nodup) : ∀ {vs : List V} {i : Nat} {x : Str} {v : V}, ks[i]? = some x → vs[i]? = some v → valV (kvOf ks vs) (.inr x) = some v := by
  induction ks with
  | nil => intro vs i x v e; simp at e
  | cons k ks ih =>
    intro vs i x v e1 e2
    cases vs with
    | nil => simp at e2
    | cons u vs =>
      have nd' := List.nodup_cons.mp nd
      show valV ((Sum.inr k, u) :: kvOf ks vs) (.inr x) = some v
      cases i with
      | zero =>
        have a : k = x := by simpa using e1
        have b : u = v := by simpa using e2
        subst a b
        exact valV_pos rfl
      | succ i =>
        have m : x ∈ ks := List.mem_of_getElem? (by simpa using e1)
        have ne : ¬ (Sum.inr k : Key) = Sum.inr x := fun z => by
          cases z
          exact nd'.1 m
        rw [valV_neg ne]
        exact ih nd'.2 (by simpa using e1) (by simpa using e2)
theorem valV_no {x : Str} : ∀ {ks : List Str} {vs : List V}, x ∉ ks → valV (kvOf ks vs) (.inr x) = none
  | [], _, _ => rfl
  | _ :: _, [], _ => rfl
  | k :: ks, v :: vs, h => by
    show valV ((Sum.inr k, v) :: kvOf ks vs) (.inr x) = none
    rw [valV_neg (fun z => by cases z; exact h (by simp))]
    exact valV_no (fun m => h (by simp [m]))
theorem kvOf_snoc {ks : List Str} {vs : List V} {k : Str} {v : V} (l : vs.length = ks.length) : kvOf ks vs ++ [(Sum.inr k, v)] = kvOf (ks ++ [k]) (vs ++ [v]) := by
  unfold kvOf
  rw [List.map_append, List.zip_append (by rw [List.length_map, l])]
  rfl
theorem Dct.same {K : PySem.W.Frag} {H H' : Hp} {a : Addr} {ks : List Str} {ds : List PyData} (k : Same H H') (h : Dct K H a ks ds) : Dct K H' a ks ds := by
  obtain ⟨vs, l, e, d⟩ := h.ex
  exact ⟨⟨vs, l, k _ _ e, dpa_same k d⟩, h.nol⟩
theorem Dct.kl {K : PySem.W.Frag} {H H' : Hp} {a g : Addr} {ks : List Str} {ds : List PyData} (k : Kl g H H') (h : Dct K H a ks ds) : Dct K H' a ks ds := by
  obtain ⟨vs, l, e, d⟩ := h.ex
  obtain ⟨ys, eg⟩ := k.1
  exact ⟨⟨vs, l, k.2 _ _ (ne_of e eg (fun z => by cases z)) e, dpa_kl k d h.nol⟩, h.nol⟩
end Gd

namespace Pk01
open PySem PySem.Spec PyProof.Rows L2 Gd
def topS (i : Nat) : Stmt := PySem.Challenge.pw_tightranges_k01_ranges_that_meet.main.body.getD i (.Pass ⟨0, 0, 0, 0⟩)
abbrev s_is_upside_down : Stmt := topS 4
theorem sc_is_upside_down : FnScope ["one", "low", "high"] ["one"] (defScope s_is_upside_down) := ⟨rfl, rfl, rfl, by decide +kernel, rfl, by decide +kernel, by decide +kernel⟩
abbrev s_check_range : Stmt := topS 5
theorem sc_check_range : FnScope ["one"] ["one"] (defScope s_check_range) := ⟨rfl, rfl, rfl, by decide +kernel, rfl, by decide +kernel, by decide +kernel⟩
abbrev s__least : Stmt := topS 9
theorem sc__least : FnScope ["one", "other"] ["one", "other"] (defScope s__least) := ⟨rfl, rfl, rfl, by decide +kernel, rfl, by decide +kernel, by decide +kernel⟩
abbrev s__greatest : Stmt := topS 10
theorem sc__greatest : FnScope ["one", "other"] ["one", "other"] (defScope s__greatest) := ⟨rfl, rfl, rfl, by decide +kernel, rfl, by decide +kernel, by decide +kernel⟩
abbrev s_common : Stmt := topS 8
theorem sc_common : FnScope ["one", "other", "both"] ["one", "other"] (defScope s_common) := ⟨rfl, rfl, rfl, by decide +kernel, rfl, by decide +kernel, by decide +kernel⟩
abbrev s_meets : Stmt := topS 6
theorem sc_meets : FnScope ["one", "other"] ["one", "other"] (defScope s_meets) := ⟨rfl, rfl, rfl, by decide +kernel, rfl, by decide +kernel, by decide +kernel⟩
abbrev s_lies_within : Stmt := topS 7
theorem sc_lies_within : FnScope ["one", "other"] ["one", "other"] (defScope s_lies_within) := ⟨rfl, rfl, rfl, by decide +kernel, rfl, by decide +kernel, by decide +kernel⟩
abbrev s__law_draw : Stmt := topS 13
theorem sc__law_draw : FnScope ["rng", "limit", "digit", "blend"] ["rng", "limit"] (defScope s__law_draw) := ⟨rfl, rfl, rfl, by decide +kernel, rfl, by decide +kernel, by decide +kernel⟩
abbrev s__law_rng : Stmt := topS 12
theorem sc__law_rng : FnScope ["script", "digits", "seed", "number", "far"] ["script"] (defScope s__law_rng) := ⟨rfl, rfl, rfl, by decide +kernel, rfl, by decide +kernel, by decide +kernel⟩
abbrev s__law_bound : Stmt := topS 14
theorem sc__law_bound : FnScope ["rng", "most"] ["rng", "most"] (defScope s__law_bound) := ⟨rfl, rfl, rfl, by decide +kernel, rfl, by decide +kernel, by decide +kernel⟩
abbrev s__law_range : Stmt := topS 15
theorem sc__law_range : FnScope ["rng", "most", "low", "high"] ["rng", "most"] (defScope s__law_range) := ⟨rfl, rfl, rfl, by decide +kernel, rfl, by decide +kernel, by decide +kernel⟩
abbrev s__law_listed : Stmt := topS 16
theorem sc__law_listed : FnScope ["given", "low"] ["given"] (defScope s__law_listed) := ⟨rfl, rfl, rfl, by decide +kernel, rfl, by decide +kernel, by decide +kernel⟩
abbrev s__law_far : Stmt := topS 17
theorem sc__law_far : FnScope ["given", "shift", "end"] ["given", "shift"] (defScope s__law_far) := ⟨rfl, rfl, rfl, by decide +kernel, rfl, by decide +kernel, by decide +kernel⟩
abbrev s_law : Stmt := topS 18
theorem sc_law : FnScope ["script", "rng", "lap", "first", "last", "some", "more", "due", "shift", "told", "named", "spot"] ["script"] (defScope s_law) := ⟨rfl, rfl, rfl, by decide +kernel, rfl, by decide +kernel, by decide +kernel⟩
def gk_lies_within_other_one {α : Type} (us ws : List α) : List α := match us, ws with
  | [], [w0, w1] => [w1, w0]
  | _, _ => us ++ ws
def gk_meets_other_one {α : Type} (us ws : List α) : List α := match us, ws with
  | [], [w0, w1] => [w1, w0]
  | _, _ => us ++ ws
/-- low above high -/
def up : Rg → Bool
  | some (some l, some h) => decide (l > h)
  | _ => false
theorem up_ok {r : Rg} (h : RgFit r) : up r = false := by
  match r, h with
  | none, _ => rfl
  | some (none, _), _ => rfl
  | some (some _, none), _ => rfl
  | some (some l, some h), q =>
    have q' : l ≤ h := q
    exact decide_eq_false (by omega)
def gr : Option Int → Option Int → Option Int
  | none, b => b
  | some a, none => some a
  | some a, some b => some (if b > a then b else a)
def le2 : Option Int → Option Int → Option Int
  | none, b => b
  | some a, none => some a
  | some a, some b => some (if b < a then b else a)
def comR : Rg → Rg → Rg
  | some (l1, h1), some (l2, h2) => if up (some (gr l1 l2, le2 h1 h2)) = true then none else some (gr l1 l2, le2 h1 h2)
  | _, _ => none
def oD : Option Int → PyData
  | none => .none
  | some i => .int i
def rgD : Rg → PyData
  | none => .none
  | some (l, h) => .tuple [oD l, oD h]
theorem dp_ov {K : PySem.W.Frag} {H : Hp} (o : Option Int) : Dp K H (ov o) (oD o) := by
  cases o with
  | none => exact .non
  | some i => exact .int i
theorem dp_rg {K : PySem.W.Frag} {H : Hp} {v : V} {r : Rg} (h : RgV K H v r) : Dp K H v (rgD r) := by
  match r, h with
  | none, h =>
    have h' : v = .non := h
    subst h'
    exact .non
  | some (l, u), h =>
    obtain ⟨p, rfl, s⟩ := h
    exact .tup s (.cons (dp_ov l) (.cons (dp_ov u) .nil))


def sp_is_upside_down (K : PySem.W.Frag) : Sp := fun vs H Q _ => ∃ v r, vs = [v] ∧ RgV K H v r ∧ Q (.bl (up r)) H

def sp_check_range (K : PySem.W.Frag) : Sp := fun vs H Q _ => ∃ v r, vs = [v] ∧ RgV K H v r ∧ RgFit r ∧ Q .non H

def sp__least (_ : PySem.W.Frag) : Sp := fun vs H Q _ => ∃ a b, vs = [ov a, ov b] ∧ Q (ov (le2 a b)) H

def sp__greatest (_ : PySem.W.Frag) : Sp := fun vs H Q _ => ∃ a b, vs = [ov a, ov b] ∧ Q (ov (gr a b)) H

def sp_common (K : PySem.W.Frag) : Sp := fun vs H Q _ => ∃ v1 v2 r1 r2, vs = [v1, v2] ∧ RgV K H v1 r1 ∧ RgV K H v2 r2 ∧ RgFit r1 ∧ RgFit r2 ∧
  ∀ v H', Same H H' → RgV K H' v (comR r1 r2) → Q v H'

def sp_meets (K : PySem.W.Frag) : Sp := fun vs H Q _ => ∃ v1 v2 r1 r2, vs = [v1, v2] ∧ RgV K H v1 r1 ∧ RgV K H v2 r2 ∧ RgFit r1 ∧ RgFit r2 ∧
  ∀ H', Same H H' → Q (.bl (comR r1 r2).isSome) H'

theorem eqv_oD (a b : Option Int) : PyData.eqv (oD a) (oD b) = decide (a = b) := by
  cases a with
  | none => cases b <;> simp [oD, PyData.eqv]
  | some x =>
    cases b with
    | none => simp [oD, PyData.eqv]
    | some y => by_cases h : x = y <;> simp [oD, PyData.eqv, h]
theorem eqv_rgD (a b : Rg) : PyData.eqv (rgD a) (rgD b) = decide (a = b) := by
  match a, b with
  | none, none => simp [rgD, PyData.eqv]
  | none, some (l, h) => simp [rgD, PyData.eqv]
  | some (l, h), none => simp [rgD, PyData.eqv]
  | some (l, h), some (l2, h2) =>
    simp only [rgD, PyData.eqv, PyData.eqvAll, eqv_oD]
    by_cases c1 : l = l2 <;> by_cases c2 : h = h2 <;> simp [c1, c2]
theorem shaped_oD (a : Option Int) : SeqAt.shaped (oD a) = true := by cases a <;> rfl
theorem shaped_rgD (a : Rg) : SeqAt.shaped (rgD a) = true := by
  match a with
  | none => rfl
  | some (some l, some h) => rfl
  | some (none, some h) => rfl
  | some (some l, none) => rfl
  | some (none, none) => rfl
def sp_lies_within (K : PySem.W.Frag) : Sp := fun vs H Q _ => ∃ v1 v2 r1 r2, vs = [v1, v2] ∧ RgV K H v1 r1 ∧ RgV K H v2 r2 ∧ RgFit r1 ∧ RgFit r2 ∧
  ∀ H', Same H H' → Q (.bl (decide (comR r1 r2 = r1))) H'

def lon : Option Int → Option Int → Option Int
  | some a, some b => some (if b < a then b else a)
  | _, _ => none
def gon : Option Int → Option Int → Option Int
  | some a, some b => some (if b > a then b else a)
  | _, _ => none
def joinR : Rg → Rg → Rg
  | none, r => r
  | r, none => r
  | some (l1, h1), some (l2, h2) => some (lon l1 l2, gon h1 h2)



def tk (f a : Int) (o : Option Int) : Option Int := o.map fun x => f * x + a
def stepR (f a : Int) : Rg → Rg
  | none => none
  | some (l, h) => if f > 0 then some (tk f a l, tk f a h) else some (tk f a h, tk f a l)
def SzO (o : Option Int) : Prop := ∀ i, o = some i → i.natAbs < 2 ^ 1000
def SzR : Rg → Prop
  | none => True
  | some (l, h) => SzO l ∧ SzO h


theorem powW_ok {x : Int} {a : Nat} (h : x.natAbs < 2 ^ a) (h0 : 0 < a) (h2 : a ≤ 1000000) : CPowW x 3 := by
  have l := PySem.Flt.log2_lt_of h0 h
  have b : Builtin.Int.intBits x ≤ x.natAbs.log2 + 1 := by
    unfold Builtin.Int.intBits
    split <;> omega
  refine ⟨by decide, ?_⟩
  have e : (2 : Int) ^ 27 = 134217728 := by decide
  rw [e]
  omega
theorem ten60 : CPowW 10 60 := ⟨by decide, by decide⟩
theorem ten18 : CPowW 10 18 := ⟨by decide, by decide⟩
theorem ten31 : CPowW 10 31 := ⟨by decide, by decide⟩


def sp__law_draw (_ : PySem.W.Frag) : Sp := fun vs H Q _ => ∃ a lim n, vs = [.ref a, .int lim] ∧ RS n H a ∧ n ≤ 1000000 ∧ 0 < lim ∧ lim.natAbs < 2 ^ 200 ∧
  ∀ r H', 0 ≤ r → r < lim → Kp a H H' → RS (n + 1) H' a → Q (.int r) H'

theorem cut_ints {ns : List Int} {lo hi : Option Int} {i : Nat} {x : V} (h : (cutV (ns.map V.int) lo hi)[i]? = some x) : ∃ z : Int, x = .int z := by
  have m : x ∈ cutV (ns.map V.int) lo hi := List.mem_of_getElem? h
  unfold cutV at m
  have m2 := List.mem_of_mem_drop (List.mem_of_mem_take m)
  obtain ⟨z, _, e⟩ := List.mem_map.mp m2
  exact ⟨z, e.symm⟩
theorem big_step {dg f : Int} {i : Nat} (h0 : 0 ≤ dg) (h : dg.natAbs < 2 ^ (200 * i + 1)) :
    0 ≤ dg * (10 : Int) ^ (60 : Int).toNat + f % (10 : Int) ^ (60 : Int).toNat ∧
    (dg * (10 : Int) ^ (60 : Int).toNat + f % (10 : Int) ^ (60 : Int).toNat).natAbs < 2 ^ (200 * (i + 1) + 1) := by
  have T : (10 : Int) ^ (60 : Int).toNat = 1000000000000000000000000000000000000000000000000000000000000 := by decide
  rw [T]
  have m0 : 0 ≤ f % 1000000000000000000000000000000000000000000000000000000000000 := Int.emod_nonneg _ (by decide)
  have m1 : f % 1000000000000000000000000000000000000000000000000000000000000 < 1000000000000000000000000000000000000000000000000000000000000 := Int.emod_lt_of_pos _ (by decide)
  generalize f % 1000000000000000000000000000000000000000000000000000000000000 = g at m0 m1
  have e : 2 ^ (200 * (i + 1) + 1) = 2 ^ (200 * i + 1) * 2 ^ 200 := by rw [← Nat.pow_add]; congr 1
  have T2 : (2 : Nat) ^ 200 = 1606938044258990275541962092341162602522202993782792835301376 := by decide
  rw [e, T2]
  generalize 2 ^ (200 * i + 1) = B at h
  omega
theorem keep_step {dg : Int} {i : Nat} (h : dg.natAbs < 2 ^ (200 * i + 1)) : dg.natAbs < 2 ^ (200 * (i + 1) + 1) :=
  Nat.lt_of_lt_of_le h (Nat.pow_le_pow_right (by decide) (by omega))
theorem end_step {dg : Int} {i : Nat} (hi : i ≤ 63) (h : dg.natAbs < 2 ^ (200 * i + 1)) : dg.natAbs < 2 ^ 13000 :=
  Nat.lt_of_lt_of_le h (Nat.pow_le_pow_right (by decide) (by omega))
def sp__law_rng (K : PySem.W.Frag) : Sp := fun vs H Q _ => ∃ (a : Addr) (ns : List Int), vs = [.ref a] ∧ SqL K H a (ns.map V.int) ∧ ns.length ≤ 63 ∧
  ∀ p H', Same H H' → H p = none → RS 0 H' p → Q (.ref p) H'

/-- a drawn bound -/
def BdOk (m : Int) : Option Int → Prop
  | none => True
  | some i => -m ≤ i ∧ i ≤ m
def sp__law_bound (_ : PySem.W.Frag) : Sp := fun vs H Q _ => ∃ a m n, vs = [.ref a, .int m] ∧ RS n H a ∧ n ≤ 900000 ∧ 2 ≤ m ∧ m ≤ 10 ^ 31 ∧
  ∀ b H', BdOk m b → Kp a H H' → RS (n + 3) H' a → Q (ov b) H'

def RgIn (m : Int) : Rg → Prop
  | none => True
  | some (l, h) => BdOk m l ∧ BdOk m h
def sp__law_range (K : PySem.W.Frag) : Sp := fun vs H Q _ => ∃ a m n, vs = [.ref a, .int m] ∧ RS n H a ∧ n ≤ 800000 ∧ 2 ≤ m ∧ m ≤ 10 ^ 31 ∧
  ∀ v r H', RgFit r → RgIn m r → Kp a H H' → RS (n + 7) H' a → RgV K H' v r → Q v H'

def loR : Option Int → Int
  | none => -40
  | some x => x
def hiR : Option Int → Int
  | none => 41
  | some x => x + 1
def rgI (a b : Int) : List Int := (List.range (b - a).toNat).map fun i => a + (i : Nat)
theorem rgV_rgI (a b : Int) : rgV a b = (rgI a b).map V.int := by
  unfold rgV rgI
  rw [List.map_map]
  rfl
def listR : Rg → List Int
  | none => []
  | some (l, h) => rgI (loR l) (hiR h)
def sp__law_listed (K : PySem.W.Frag) : Sp := fun vs H Q _ => ∃ v r, vs = [v] ∧ RgV K H v r ∧ RgIn 1000 r ∧
  ∀ p H', Same H H' → H p = none → H' p = some (.lst ((listR r).map V.int)) → Q (.ref p) H'

def farO (k : Int) (o : Option Int) : Option Int := o.map (· + k)
def farR (k : Int) (r : Rg) : Rg := r.map fun q => (farO k q.1, farO k q.2)
def sp__law_far (K : PySem.W.Frag) : Sp := fun vs H Q _ => ∃ v r k, vs = [v, .int k] ∧ RgV K H v r ∧
  ∀ v' H', Same H H' → RgV K H' v' (farR k r) → Q v' H'

theorem mem_rgI {x a b : Int} : x ∈ rgI a b ↔ a ≤ x ∧ x < b := by
  unfold rgI
  rw [List.mem_map]
  constructor
  · rintro ⟨i, hi, e⟩
    have := List.mem_range.mp hi
    omega
  · rintro ⟨h1, h2⟩
    exact ⟨(x - a).toNat, List.mem_range.mpr (by omega), by omega⟩
theorem rgI_len (a b : Int) : (rgI a b).length = (b - a).toNat := by
  unfold rgI
  rw [List.length_map, List.length_range]
theorem gr_comm (a b : Option Int) : gr a b = gr b a := by
  cases a <;> cases b <;> simp only [gr] <;> (try rfl)
  congr 1
  split <;> split <;> omega
theorem le2_comm (a b : Option Int) : le2 a b = le2 b a := by
  cases a <;> cases b <;> simp only [le2] <;> (try rfl)
  congr 1
  split <;> split <;> omega
theorem com_comm (r1 r2 : Rg) : comR r1 r2 = comR r2 r1 := by
  match r1, r2 with
  | none, none => rfl
  | none, some _ => rfl
  | some _, none => rfl
  | some (l1, h1), some (l2, h2) => simp only [comR, gr_comm l1 l2, le2_comm h1 h2]
theorem gr_far (k : Int) (a b : Option Int) : gr (farO k a) (farO k b) = farO k (gr a b) := by
  cases a <;> cases b <;> simp only [gr, farO, Option.map_some, Option.map_none]
  congr 1
  split <;> split <;> omega
theorem le2_far (k : Int) (a b : Option Int) : le2 (farO k a) (farO k b) = farO k (le2 a b) := by
  cases a <;> cases b <;> simp only [le2, farO, Option.map_some, Option.map_none]
  congr 1
  split <;> split <;> omega
theorem up_far (k : Int) (a b : Option Int) : up (some (farO k a, farO k b)) = up (some (a, b)) := by
  cases a <;> cases b <;> simp only [up, farO, Option.map_some, Option.map_none]
  exact decide_eq_decide.mpr (by omega)
theorem com_far (k : Int) (r1 r2 : Rg) : comR (farR k r1) (farR k r2) = farR k (comR r1 r2) := by
  match r1, r2 with
  | none, none => rfl
  | none, some _ => rfl
  | some _, none => rfl
  | some (l1, h1), some (l2, h2) =>
    show comR (some (farO k l1, farO k h1)) (some (farO k l2, farO k h2)) = _
    simp only [comR, gr_far, le2_far, up_far]
    split <;> rfl
theorem farO_inj {k : Int} {a b : Option Int} (h : farO k a = farO k b) : a = b := by
  cases a <;> cases b <;> simp only [farO, Option.map_some, Option.map_none] at h
  · rfl
  · cases h
  · cases h
  · have := Option.some.inj h
    congr 1
    omega
theorem farR_inj {k : Int} {a b : Rg} (h : farR k a = farR k b) : a = b := by
  match a, b, h with
  | none, none, _ => rfl
  | none, some _, h => cases h
  | some _, none, h => cases h
  | some (l1, h1), some (l2, h2), h =>
    have e := Option.some.inj h
    have e1 : farO k l1 = farO k l2 := congrArg Prod.fst e
    have e2 : farO k h1 = farO k h2 := congrArg Prod.snd e
    rw [farO_inj e1, farO_inj e2]
theorem fit_far {k : Int} {r : Rg} (h : RgFit r) : RgFit (farR k r) := by
  match r, h with
  | none, _ => trivial
  | some (none, none), _ => trivial
  | some (some _, none), _ => trivial
  | some (none, some _), _ => trivial
  | some (some l, some u), h =>
    have h' : l ≤ u := h
    show l + k ≤ u + k
    omega
theorem fil_nil {ns : List Int} {p : Int → Bool} : ns.filter p = [] ↔ ∀ x ∈ ns, p x = false := by
  rw [List.filter_eq_nil_iff]
  constructor
  · intro h x m
    simpa using h x m
  · intro h x m
    rw [h x m]
    exact Bool.false_ne_true
theorem up_eq {l1 h1 l2 h2 : Option Int} (a1 : BdOk 20 l1) (a2 : BdOk 20 h1) (b1 : BdOk 20 l2) (b2 : BdOk 20 h2) :
    up (some (gr l1 l2, le2 h1 h2)) = decide (min (hiR h1) (hiR h2) ≤ max (loR l1) (loR l2)) := by
  cases l1 <;> cases h1 <;> cases l2 <;> cases h2 <;> simp only [gr, le2, up, loR, hiR, BdOk] at a1 a2 b1 b2 ⊢ <;>
    (first
      | exact (decide_eq_false (by omega)).symm
      | exact decide_eq_decide.mpr (by omega)
      | (refine decide_eq_decide.mpr ?_; split <;> omega)
      | (refine decide_eq_decide.mpr ?_; split <;> split <;> omega))
theorem some_in {r1 r2 : Rg} (i1 : RgIn 20 r1) (i2 : RgIn 20 r2) : (comR r1 r2).isSome = true ↔ ∃ x, x ∈ listR r1 ∧ x ∈ listR r2 := by
  match r1, r2, i1, i2 with
  | none, none, _, _ => simp [comR, listR]
  | none, some _, _, _ => simp [comR, listR]
  | some _, none, _, _ => simp [comR, listR]
  | some (l1, h1), some (l2, h2), ⟨a1, a2⟩, ⟨b1, b2⟩ =>
    simp only [listR, mem_rgI, comR, up_eq a1 a2 b1 b2, decide_eq_true_eq]
    by_cases c : min (hiR h1) (hiR h2) ≤ max (loR l1) (loR l2)
    · rw [if_pos c]
      constructor
      · intro z
        cases z
      · rintro ⟨x, z⟩
        omega
    · rw [if_neg c]
      exact ⟨fun _ => ⟨max (loR l1) (loR l2), by omega⟩, fun _ => rfl⟩
theorem meets_due {r1 r2 : Rg} (i1 : RgIn 20 r1) (i2 : RgIn 20 r2) :
    (comR r1 r2).isSome = !decide ((listR r1).filter (fun z => decide (z ∈ listR r2)) = []) := by
  have h := some_in i1 i2
  by_cases c : (listR r1).filter (fun z => decide (z ∈ listR r2)) = []
  · rw [decide_eq_true c]
    cases e : (comR r1 r2).isSome with
    | false => rfl
    | true =>
      obtain ⟨x, m1, m2⟩ := h.mp e
      have := fil_nil.mp c x m1
      simp [m2] at this
  · rw [decide_eq_false c]
    refine h.mpr ?_
    have ⟨x, m⟩ := List.exists_mem_of_ne_nil _ c
    have := List.mem_filter.mp m
    exact ⟨x, this.1, by simpa using this.2⟩
theorem lies_in {r1 r2 : Rg} (i1 : RgIn 20 r1) (i2 : RgIn 20 r2) (f1 : RgFit r1) (f2 : RgFit r2) : comR r1 r2 = r1 ↔ ∀ x ∈ listR r1, x ∈ listR r2 := by
  match r1, r2, i1, i2, f1, f2 with
  | none, none, _, _, _, _ => simp [comR, listR]
  | none, some _, _, _, _, _ => simp [comR, listR]
  | some (l1, h1), none, ⟨a1, a2⟩, _, f1, _ =>
    simp only [comR, listR, mem_rgI]
    constructor
    · intro z
      cases z
    · intro z
      have w := z (loR l1) (by cases l1 <;> cases h1 <;> simp only [loR, hiR, BdOk, RgFit] at a1 a2 f1 ⊢ <;> omega)
      cases w
  | some (l1, h1), some (l2, h2), ⟨a1, a2⟩, ⟨b1, b2⟩, f1, f2 =>
    have ne : loR l1 < hiR h1 := by cases l1 <;> cases h1 <;> simp only [loR, hiR, BdOk, RgFit] at a1 a2 f1 ⊢ <;> omega
    have all : (∀ x ∈ listR (some (l1, h1)), x ∈ listR (some (l2, h2))) ↔ loR l2 ≤ loR l1 ∧ hiR h1 ≤ hiR h2 := by
      simp only [listR, mem_rgI]
      constructor
      · intro z
        have w1 := z (loR l1) (by omega)
        have w2 := z (hiR h1 - 1) (by omega)
        omega
      · intro z x m
        omega
    rw [all]
    simp only [comR, up_eq a1 a2 b1 b2, decide_eq_true_eq]
    constructor
    · intro z
      by_cases c : min (hiR h1) (hiR h2) ≤ max (loR l1) (loR l2)
      · rw [if_pos c] at z
        cases z
      · rw [if_neg c] at z
        have e := Option.some.inj z
        have e1 : gr l1 l2 = l1 := congrArg Prod.fst e
        have e2 : le2 h1 h2 = h1 := congrArg Prod.snd e
        constructor
        · cases l1 <;> cases l2 <;> simp only [gr, loR, BdOk] at a1 b1 e1 ⊢ <;> (first | omega | (cases e1; done) | (have := Option.some.inj e1; split at this <;> omega))
        · cases h1 <;> cases h2 <;> simp only [le2, hiR, BdOk] at a2 b2 e2 ⊢ <;> (first | omega | (cases e2; done) | (have := Option.some.inj e2; split at this <;> omega))
    · rintro ⟨z1, z2⟩
      have c : ¬ min (hiR h1) (hiR h2) ≤ max (loR l1) (loR l2) := by omega
      rw [if_neg c]
      have e1 : gr l1 l2 = l1 := by
        cases l1 <;> cases l2 <;> simp only [gr, loR, BdOk] at a1 b1 z1 ⊢ <;> (first | omega | (congr 1; split <;> omega))
      have e2 : le2 h1 h2 = h1 := by
        cases h1 <;> cases h2 <;> simp only [le2, hiR, BdOk] at a2 b2 z2 ⊢ <;> (first | omega | (congr 1; split <;> omega))
      rw [e1, e2]
theorem lies_due {r1 r2 : Rg} (i1 : RgIn 20 r1) (i2 : RgIn 20 r2) (f1 : RgFit r1) (f2 : RgFit r2) :
    decide (comR r1 r2 = r1) = decide ((listR r1).filter (fun z => !decide (z ∈ listR r2)) = []) := by
  refine decide_eq_decide.mpr ((lies_in i1 i2 f1 f2).trans (Iff.trans ?_ fil_nil.symm))
  constructor
  · intro h x m
    simp [h x m]
  · intro h x m
    simpa using h x m
theorem far_due {k : Int} {r1 r2 : Rg} : decide (comR (farR k r1) (farR k r2) = farR k r1) = decide (comR r1 r2 = r1) := by
  rw [com_far]
  exact decide_eq_decide.mpr ⟨farR_inj, fun e => by rw [e]⟩
theorem far_some {k : Int} {r1 r2 : Rg} : (comR (farR k r1) (farR k r2)).isSome = (comR r1 r2).isSome := by
  rw [com_far]
  cases comR r1 r2 <;> rfl
theorem listR_len {r : Rg} (i : RgIn 20 r) : (listR r).length ≤ 100000 := by
  match r, i with
  | none, _ => exact Nat.zero_le _
  | some (l, h), ⟨a, b⟩ =>
    show (rgI (loR l) (hiR h)).length ≤ 100000
    rw [rgI_len]
    cases l <;> cases h <;> simp only [loR, hiR, BdOk] at a b ⊢ <;> omega
theorem RgIn.wide {r : Rg} (i : RgIn 20 r) : RgIn 1000 r := by
  match r, i with
  | none, _ => trivial
  | some (l, h), ⟨a, b⟩ =>
    refine ⟨?_, ?_⟩
    · cases l with
      | none => trivial
      | some x => simp only [BdOk] at a ⊢; omega
    · cases h with
      | none => trivial
      | some x => simp only [BdOk] at b ⊢; omega



/-! ### sizes -/
def LtO (o : Option Int) : Prop := ∀ i, o = some i → i.natAbs < 10 ^ 60
def LtR : Rg → Prop
  | none => True
  | some (l, h) => LtO l ∧ LtO h
theorem LtO.sz {o : Option Int} (h : LtO o) : SzO o := fun i e => Nat.lt_trans (h i e) (by decide)
theorem LtR.sz {r : Rg} (h : LtR r) : SzR r := by
  match r, h with
  | none, _ => trivial
  | some (l, u), ⟨a, b⟩ => exact ⟨a.sz, b.sz⟩
theorem dok_oD {o : Option Int} (h : LtO o) : DOk 0 1 (oD o) := by
  cases o with
  | none => exact DOk.none
  | some i => exact DOk.int (h i rfl)
theorem dok_rg {r : Rg} (h : LtR r) : DOk 4 3 (rgD r) := by
  match r, h with
  | none, _ => exact DOk.none.mono (by decide) (by decide)
  | some (l, u), ⟨a, b⟩ => exact (DOk.tuple (.cons (dok_oD a) (.cons (dok_oD b) .nil))).mono (by decide) (by decide)
theorem LtO.of {m : Int} {o : Option Int} (h : BdOk m o) (hm : m ≤ 10000000000000000000000000000000000000000) : LtO o := fun i e => by
  subst e
  have h' : -m ≤ i ∧ i ≤ m := h
  have : (10 : Nat) ^ 60 = 1000000000000000000000000000000000000000000000000000000000000 := by decide
  omega
theorem LtR.of {m : Int} {r : Rg} (h : RgIn m r) (hm : m ≤ 10000000000000000000000000000000000000000) : LtR r := by
  match r, h with
  | none, _ => trivial
  | some (l, u), ⟨a, b⟩ => exact ⟨.of a hm, .of b hm⟩
theorem far_lt {m k : Int} {r : Rg} (h : RgIn m r) (hm : m ≤ 10000000000000000000000000000000000000000) (hk : k.natAbs ≤ 10000000000000000000000000000000000000000) : LtR (farR k r) := by
  have T : (10 : Nat) ^ 60 = 1000000000000000000000000000000000000000000000000000000000000 := by decide
  have one : ∀ o : Option Int, BdOk m o → LtO (farO k o) := fun o a i e => by
    cases o with
    | none => cases e
    | some x =>
      have e' : x + k = i := Option.some.inj e
      have a' : -m ≤ x ∧ x ≤ m := a
      omega
  match r, h with
  | none, _ => trivial
  | some (l, u), ⟨a, b⟩ => exact ⟨one l a, one u b⟩

def dueD (b c : Bool) : PyData := .list [.bool b, .bool c]
def allD (b c : Bool) : PyData := .list [dueD b c, dueD b c, .bool b]
theorem allD_ok (b c : Bool) : DOk 20 10 (allD b c) :=
  (DOk.list (.cons (DOk.list (.cons (.bool b) (.cons (.bool c) .nil))) (.cons (DOk.list (.cons (.bool b) (.cons (.bool c) .nil))) (.cons (.bool b) .nil)))).mono (by decide) (by decide)
theorem dp_due {K : PySem.W.Frag} {H : Hp} {p : Addr} {b c : Bool} (h : SqL K H p [.bl b, .bl c]) : Dp K H (.ref p) (dueD b c) := .lst h (.cons (.bl b) (.cons (.bl c) .nil))
def sp_law (K : PySem.W.Frag) : Sp := fun vs H Q _ => ∃ (a : Addr) (ns : List Int), vs = [.ref a] ∧ SqL K H a (ns.map V.int) ∧ ns.length ≤ 63 ∧ ∀ H', Q (.bl true) H'

end Pk01

namespace Pk01
open PySem PySem.Spec PyProof.Rows L2 Gd
section
variable {P : Program} {w : World} {K : PySem.W.Frag} {mg : Str → Option Value} {base : Heap}
set_option maxHeartbeats 8000000 in
-- is_upside_down: level 1; builtins []; cells []; slots: 0 one, 1 low, 2 high
theorem ok_is_upside_down (h : At K mg "is_upside_down" s_is_upside_down ["one"]) : Dn P w K mg base 1 "is_upside_down" s_is_upside_down ["one"] (sp_is_upside_down K) := by
  refine .mk' h fun f fd F => F.ok sc_is_upside_down (fun vs H Q E h => ?_) (fun cdv A outer s H vs Q E hr h => ?_)
  · obtain ⟨v, r, rfl, hv, q⟩ := h
    rfl
  · obtain ⟨v, r, rfl, hv, q⟩ := h
    refine ⟨_, (pss_cons (ps_if (pt_cmpR op_isN (pv 0) pe_non (nomark _))
        (pss_one (ps_ret pe_bl))
        pss_nil)
      (pss_cons (ps_asg (pv 0) (pg_tup (by rfl) (pgs_cons (pg_name (i := 1) sc_is_upside_down.nd rfl (.inl rfl)) (pgs_cons (pg_name (i := 2) sc_is_upside_down.nd rfl (.inl rfl)) pgs_nil))))
      (pss_one (ps_ret (pe_and (pe_cmpR op_notN (pv 1) pe_non (nomark _)) (pe_and (pe_cmpR op_notN (pv 2) pe_non (nomark _)) (pe_one (pe_cmpR op_gt (pv 1) (pv 2) (nomark _))))))))), ?_⟩
    match r, hv with
    | none, hv =>
      have e : v = .non := hv
      subst e
      exact ⟨_, rfl, rfl, _, rfl, iteT q⟩
    | some (l, u), hv =>
      obtain ⟨p, rfl, s⟩ := hv
      refine ⟨_, rfl, rfl, _, rfl, iteF ?_⟩
      refine ⟨_, rfl, p, _, rfl, s, rfl, _, _, rfl, _, _, rfl, rfl, ?_⟩
      match l, u with
      | none, _ => exact ⟨_, rfl, rfl, _, rfl, iteF q⟩
      | some l, none => exact ⟨_, rfl, rfl, _, rfl, iteT ⟨_, rfl, rfl, _, rfl, iteF q⟩⟩
      | some l, some u => exact ⟨_, rfl, rfl, _, rfl, iteT ⟨_, rfl, rfl, _, rfl, iteT ⟨_, rfl, _, rfl, _, _, rfl, rfl, q⟩⟩⟩
end

end Pk01
namespace Pk01
open PySem PySem.Spec PyProof.Rows L2 Gd
section
variable {P : Program} {w : World} {K : PySem.W.Frag} {mg : Str → Option Value} {base : Heap}
set_option maxHeartbeats 8000000 in
-- check_range: level 2; builtins []; cells []; slots: 0 one
theorem ok_check_range (h : At K mg "check_range" s_check_range ["one"]) (D_is_upside_down : Dn P w K mg base 1 "is_upside_down" s_is_upside_down ["one"] (sp_is_upside_down K)) : Dn P w K mg base 2 "check_range" s_check_range ["one"] (sp_check_range K) := by
  refine .mk' h fun f fd F => F.ok sc_check_range (fun vs H Q E h => ?_) (fun cdv A outer s H vs Q E hr h => ?_)
  · obtain ⟨v, r, rfl, hv, ho, q⟩ := h
    rfl
  · obtain ⟨v, r, rfl, hv, ho, q⟩ := h
    refine ⟨_, (pss_one (ps_if (pt_val (pe_c D_is_upside_down hr (by rfl) (pa_cons (pv 0) pa_nil)))
        (pss_one ps_never)
        pss_nil)), ?_⟩
    refine ⟨_, rfl, v, r, rfl, hv, ?_⟩
    rw [up_ok ho]
    exact ⟨_, rfl, iteF q⟩
end

end Pk01
namespace Pk01
open PySem PySem.Spec PyProof.Rows L2 Gd
section
variable {P : Program} {w : World} {K : PySem.W.Frag} {mg : Str → Option Value} {base : Heap}
set_option maxHeartbeats 8000000 in
-- _least: level 1; builtins ['min']; cells []; slots: 0 one, 1 other
theorem ok__least (h : At K mg "_least" s__least ["one", "other"]) (m_min : mg "min" = none) : Dn P w K mg base 1 "_least" s__least ["one", "other"] (sp__least K) := by
  refine .mk' h fun f fd F => F.ok sc__least (fun vs H Q E h => ?_) (fun cdv A outer s H vs Q E hr h => ?_)
  · obtain ⟨a, b, rfl, q⟩ := h
    rfl
  · obtain ⟨a, b, rfl, q⟩ := h
    refine ⟨_, (pss_cons (ps_if (pt_cmpR op_isN (pv 0) pe_non (nomark _))
        (pss_one (ps_ret (pv 1)))
        pss_nil)
      (pss_one (ps_ret (pe_ifExp (pt_cmpR op_isN (pv 1) pe_non (nomark _)) (pv 0) (pe_callB (call_min2 rfl) (by rfl) m_min (by decide +kernel) (pa_cons (pv 0) (pa_cons (pv 1) pa_nil))))))), ?_⟩
    match a, b with
    | none, b => exact ⟨_, rfl, rfl, _, rfl, iteT ⟨_, rfl, q⟩⟩
    | some a, none => exact ⟨_, rfl, rfl, _, rfl, iteF ⟨_, rfl, rfl, _, rfl, iteT ⟨_, rfl, q⟩⟩⟩
    | some a, some b => exact ⟨_, rfl, rfl, _, rfl, iteF ⟨_, rfl, rfl, _, rfl, iteF ⟨_, rfl, _, rfl, _, _, rfl, q⟩⟩⟩
end

end Pk01
namespace Pk01
open PySem PySem.Spec PyProof.Rows L2 Gd
section
variable {P : Program} {w : World} {K : PySem.W.Frag} {mg : Str → Option Value} {base : Heap}
set_option maxHeartbeats 8000000 in
-- _greatest: level 1; builtins ['max']; cells []; slots: 0 one, 1 other
theorem ok__greatest (h : At K mg "_greatest" s__greatest ["one", "other"]) (m_max : mg "max" = none) : Dn P w K mg base 1 "_greatest" s__greatest ["one", "other"] (sp__greatest K) := by
  refine .mk' h fun f fd F => F.ok sc__greatest (fun vs H Q E h => ?_) (fun cdv A outer s H vs Q E hr h => ?_)
  · obtain ⟨a, b, rfl, q⟩ := h
    rfl
  · obtain ⟨a, b, rfl, q⟩ := h
    refine ⟨_, (pss_cons (ps_if (pt_cmpR op_isN (pv 0) pe_non (nomark _))
        (pss_one (ps_ret (pv 1)))
        pss_nil)
      (pss_one (ps_ret (pe_ifExp (pt_cmpR op_isN (pv 1) pe_non (nomark _)) (pv 0) (pe_callB (call_max2 rfl) (by rfl) m_max (by decide +kernel) (pa_cons (pv 0) (pa_cons (pv 1) pa_nil))))))), ?_⟩
    match a, b with
    | none, b => exact ⟨_, rfl, rfl, _, rfl, iteT ⟨_, rfl, q⟩⟩
    | some a, none => exact ⟨_, rfl, rfl, _, rfl, iteF ⟨_, rfl, rfl, _, rfl, iteT ⟨_, rfl, q⟩⟩⟩
    | some a, some b => exact ⟨_, rfl, rfl, _, rfl, iteF ⟨_, rfl, rfl, _, rfl, iteF ⟨_, rfl, _, rfl, _, _, rfl, q⟩⟩⟩
end

end Pk01
namespace Pk01
open PySem PySem.Spec PyProof.Rows L2 Gd
section
variable {P : Program} {w : World} {K : PySem.W.Frag} {mg : Str → Option Value} {base : Heap}
set_option maxHeartbeats 8000000 in
-- common: level 3; builtins []; cells []; slots: 0 one, 1 other, 2 both
theorem ok_common (h : At K mg "common" s_common ["one", "other"]) (D__greatest : Dn P w K mg base 1 "_greatest" s__greatest ["one", "other"] (sp__greatest K)) (D__least : Dn P w K mg base 1 "_least" s__least ["one", "other"] (sp__least K)) (D_check_range : Dn P w K mg base 2 "check_range" s_check_range ["one"] (sp_check_range K)) (D_is_upside_down : Dn P w K mg base 1 "is_upside_down" s_is_upside_down ["one"] (sp_is_upside_down K)) : Dn P w K mg base 3 "common" s_common ["one", "other"] (sp_common K) := by
  refine .mk' h fun f fd F => F.ok sc_common (fun vs H Q E h => ?_) (fun cdv A outer s H vs Q E hr h => ?_)
  · obtain ⟨v1, v2, r1, r2, rfl, h1, h2, o1, o2, q⟩ := h
    rfl
  · obtain ⟨v1, v2, r1, r2, rfl, h1, h2, o1, o2, q⟩ := h
    refine ⟨_, (pss_cons (ps_expr (pe_c D_check_range hr (by rfl) (pa_cons (pv 0) pa_nil)))
      (pss_cons (ps_expr (pe_c D_check_range hr (by rfl) (pa_cons (pv 1) pa_nil)))
      (pss_cons (ps_if (PW.pt (pw_or (pt_cmpR op_isN (pv 0) pe_non (nomark _)) (pw_or1 (pt_cmpR op_isN (pv 1) pe_non (nomark _)))))
        (pss_one (ps_ret pe_non))
        pss_nil)
      (pss_cons (ps_set (i := 2) sc_common.nd rfl (.inl rfl) (pe_tup (pa_cons (pe_c D__greatest hr (by rfl) (pa_cons (pe_ix ix_tup (pv 0) pe_int (fun _ _ => rfl)) (pa_cons (pe_ix ix_tup (pv 1) pe_int (fun _ _ => rfl)) pa_nil))) (pa_cons (pe_c D__least hr (by rfl) (pa_cons (pe_ix ix_tup (pv 0) pe_int (fun _ _ => rfl)) (pa_cons (pe_ix ix_tup (pv 1) pe_int (fun _ _ => rfl)) pa_nil))) pa_nil))))
      (pss_one (ps_ret (pe_ifExp (pt_val (pe_c D_is_upside_down hr (by rfl) (pa_cons (pv 2) pa_nil))) pe_non (pv 2)))))))), ?_⟩
    refine ⟨_, rfl, v1, r1, rfl, h1, o1, _, rfl, v2, r2, rfl, h2, o2, ?_⟩
    match r1, r2, h1, h2, q with
    | none, _, h1, _, q =>
      have e : v1 = .non := h1
      subst e
      exact ⟨_, rfl, rfl, _, rfl, iteT (iteT (q _ _ (Same.refl _) rfl))⟩
    | some (l1, u1), none, h1, h2, q =>
      obtain ⟨p1, rfl, s1⟩ := h1
      have e : v2 = .non := h2
      subst e
      exact ⟨_, rfl, rfl, _, rfl, iteF ⟨_, rfl, rfl, _, rfl, iteT (q _ _ (Same.refl _) rfl)⟩⟩
    | some (l1, u1), some (l2, u2), h1, h2, q =>
      obtain ⟨p1, rfl, s1⟩ := h1
      obtain ⟨p2, rfl, s2⟩ := h2
      refine ⟨_, rfl, rfl, _, rfl, iteF ⟨_, rfl, rfl, _, rfl, iteF ?_⟩⟩
      -- both = (.., ..)
      refine ⟨_, rfl, p1, _, 0, _, rfl, rfl, s1, atI_nat (j := 0) rfl, _, rfl, p2, _, 0, _, rfl, rfl, s2, atI_nat (j := 0) rfl, l1, l2, rfl, ?_⟩
      refine ⟨_, rfl, p1, _, 1, _, rfl, rfl, s1, atI_nat (j := 1) rfl, _, rfl, p2, _, 1, _, rfl, rfl, s2, atI_nat (j := 1) rfl, u1, u2, rfl, ?_⟩
      refine ⟨by show 2 ≤ sizeLine; decide, fun p np => ?_⟩
      have sb : SqT K (upd H p (.tup [ov (gr l1 l2), ov (le2 u1 u2)])) p [ov (gr l1 l2), ov (le2 u1 u2)] := .inl (.inl upd_same)
      have rb : RgV K (upd H p (.tup [ov (gr l1 l2), ov (le2 u1 u2)])) (.ref p) (some (gr l1 l2, le2 u1 u2)) := ⟨p, rfl, sb⟩
      refine ⟨_, rfl, .ref p, _, rfl, rb, _, rfl, ?_⟩
      have qq : ∀ v, RgV K (upd H p (.tup [ov (gr l1 l2), ov (le2 u1 u2)])) v (if up (some (gr l1 l2, le2 u1 u2)) = true then none else some (gr l1 l2, le2 u1 u2)) →
        Q v (upd H p (.tup [ov (gr l1 l2), ov (le2 u1 u2)])) := fun v => q v _ (Same.new np)
      cases c : up (some (gr l1 l2, le2 u1 u2)) with
      | true =>
        rw [c] at qq
        exact iteT (qq _ rfl)
      | false =>
        rw [c] at qq
        exact iteF ⟨_, rfl, qq _ rb⟩
end

end Pk01
namespace Pk01
open PySem PySem.Spec PyProof.Rows L2 Gd
section
variable {P : Program} {w : World} {K : PySem.W.Frag} {mg : Str → Option Value} {base : Heap}
set_option maxHeartbeats 8000000 in
-- meets: level 4; builtins []; cells []; slots: 0 one, 1 other
theorem ok_meets (h : At K mg "meets" s_meets ["one", "other"]) (D_common : Dn P w K mg base 3 "common" s_common ["one", "other"] (sp_common K)) : Dn P w K mg base 4 "meets" s_meets ["one", "other"] (sp_meets K) := by
  refine .mk' h fun f fd F => F.ok sc_meets (fun vs H Q E h => ?_) (fun cdv A outer s H vs Q E hr h => ?_)
  · obtain ⟨v1, v2, r1, r2, rfl, h1, h2, o1, o2, q⟩ := h
    rfl
  · obtain ⟨v1, v2, r1, r2, rfl, h1, h2, o1, o2, q⟩ := h
    refine ⟨_, (pss_one (ps_ret (pe_cmpR op_notN (pe_c D_common hr (by rfl) (pa_cons (pv 0) (pa_cons (pv 1) pa_nil))) pe_non (nomark _)))), ?_⟩
    refine ⟨_, rfl, _, rfl, v1, v2, r1, r2, rfl, h1, h2, o1, o2, fun v H' sm hv => ?_⟩
    refine ⟨rfl, ?_⟩
    cases c : comR r1 r2 with
    | none =>
      rw [c] at hv q
      have e : v = .non := hv
      subst e
      exact q H' sm
    | some r =>
      rw [c] at hv q
      obtain ⟨p, rfl, s⟩ := hv
      exact q H' sm
end

end Pk01
namespace Pk01
open PySem PySem.Spec PyProof.Rows L2 Gd
section
variable {P : Program} {w : World} {K : PySem.W.Frag} {mg : Str → Option Value} {base : Heap}
set_option maxHeartbeats 8000000 in
-- lies_within: level 4; builtins []; cells []; slots: 0 one, 1 other
theorem ok_lies_within (h : At K mg "lies_within" s_lies_within ["one", "other"]) (D_common : Dn P w K mg base 3 "common" s_common ["one", "other"] (sp_common K)) : Dn P w K mg base 4 "lies_within" s_lies_within ["one", "other"] (sp_lies_within K) := by
  refine .mk' h fun f fd F => F.ok sc_lies_within (fun vs H Q E h => ?_) (fun cdv A outer s H vs Q E hr h => ?_)
  · obtain ⟨v1, v2, r1, r2, rfl, h1, h2, o1, o2, q⟩ := h
    rfl
  · obtain ⟨v1, v2, r1, r2, rfl, h1, h2, o1, o2, q⟩ := h
    refine ⟨_, (pss_one (ps_ret (pe_cmpR (op_eqD hr.units) (pe_c D_common hr (by rfl) (pa_cons (pv 0) (pa_cons (pv 1) pa_nil))) (pv 0) (nomark _)))), ?_⟩
    refine ⟨_, rfl, _, rfl, v1, v2, r1, r2, rfl, h1, h2, o1, o2, fun v H' sm hv => ?_⟩
    refine ⟨_, rfl, rgD (comR r1 r2), rgD r1, dp_rg hv, dp_rg (h1.same sm), shaped_rgD _, shaped_rgD _, ?_⟩
    rw [eqv_rgD]
    exact q H' sm
end

end Pk01
namespace Pk01
open PySem PySem.Spec PyProof.Rows L2 Gd
section
variable {P : Program} {w : World} {K : PySem.W.Frag} {mg : Str → Option Value} {base : Heap}
set_option maxHeartbeats 8000000 in
-- _law_draw: level 1; builtins ['int']; cells []; slots: 0 rng, 1 limit, 2 digit, 3 blend
theorem ok__law_draw (h : At K mg "_law_draw" s__law_draw ["rng", "limit"]) (m_int : mg "int" = none) : Dn P w K mg base 1 "_law_draw" s__law_draw ["rng", "limit"] (sp__law_draw K) := by
  refine .mk' h fun f fd F => F.ok sc__law_draw (fun vs H Q E h => ?_) (fun cdv A outer s H vs Q E hr h => ?_)
  · obtain ⟨a, lim, n, rfl, rs, hn, l0, l1, q⟩ := h
    rfl
  · obtain ⟨a, lim, n, rfl, rs, hn, l0, l1, q⟩ := h
    refine ⟨_, (pss_cons (ps_if (pt_cmpR op_gt (pe_ix ix_list (pv 0) pe_int (fun _ _ => rfl)) pe_int (nomark _))
        (pss_cons (ps_set (i := 2) sc__law_draw.nd rfl (.inl rfl) (pe_op op_mod (pe_callTy call_int1 (by rfl) m_int (by decide +kernel) (pa_cons (pe_ix ix_list (pv 0) pe_int (fun _ _ => rfl)) pa_nil)) (pv 1)))
        (pss_cons (ps_asg (pe_op op_fdivW (pe_ix ix_list (pv 0) pe_int (fun _ _ => rfl)) (pv 1)) (pg_sub (pv 0) pe_int set_list))
        (pss_one (ps_ret (pv 2)))))
        pss_nil)
      (pss_cons (ps_asg (pe_op op_add (pe_ix ix_list (pv 0) pe_int (fun _ _ => rfl)) pe_int) (pg_sub (pv 0) pe_int set_list))
      (pss_cons (ps_set (i := 3) sc__law_draw.nd rfl (.inl rfl) (pe_op op_mod (pe_callTy call_int1 (by rfl) m_int (by decide +kernel) (pa_cons (pe_op op_powW (pe_op op_add (pe_ix ix_list (pv 0) pe_int (fun _ _ => rfl)) (pe_op op_mulW pe_int (pe_ix ix_list (pv 0) pe_int (fun _ _ => rfl)))) pe_int) pa_nil)) pe_int))
      (pss_cons (ps_set (i := 3) sc__law_draw.nd rfl (.inl rfl) (pe_op op_mod (pe_callTy call_int1 (by rfl) m_int (by decide +kernel) (pa_cons (pe_op op_powW (pe_op op_add (pv 3) (pe_op op_mulW pe_int (pe_ix ix_list (pv 0) pe_int (fun _ _ => rfl)))) pe_int) pa_nil)) pe_int))
      (pss_one (ps_ret (pe_op op_mod (pe_callTy call_int1 (by rfl) m_int (by decide +kernel) (pa_cons (pe_op op_fdivW (pv 3) pe_int) pa_nil)) (pv 1)))))))), ?_⟩
    obtain ⟨d, sd, t, e, d0, d1, s0, s1, t0, t1⟩ := rs.ok
    have hl : SqL K H a [.int d, .int sd, .int t] := .inl (.inl e)
    refine ⟨_, rfl, a, _, 0, _, rfl, rfl, hl, atI_nat (j := 0) rfl, _, _, rfl, rfl, _, rfl, ite2 (fun c => ?_) (fun c => ?_)⟩
    · have c' : d > 0 := of_decide_eq_true c
      -- digit = int(rng[0]) % limit
      refine ⟨_, rfl, a, _, 0, _, rfl, rfl, hl, atI_nat (j := 0) rfl, .inl ⟨_, rfl, _, rfl, _, _, rfl, rfl, l0, ?_⟩⟩
      -- rng[0] = rng[0] // limit
      refine ⟨_, rfl, a, _, 0, _, rfl, rfl, hl, atI_nat (j := 0) rfl, _, rfl, _, _, rfl, rfl, wide_div l0 l1 (by decide) (by decide), ?_⟩
      refine ⟨_, rfl, a, _, 0, 0, rfl, rfl, e, rfl, _, rfl, ?_⟩
      have dl : d / lim ≤ d := Int.ediv_le_self _ d0
      have dz : 0 ≤ d / lim := Int.ediv_nonneg d0 (by omega)
      refine q _ _ (Int.emod_nonneg _ (by omega)) (Int.emod_lt_of_pos _ l0) Kp.at ⟨_, _, _, upd_same, dz, ?_, s0, s1, t0, by omega⟩
      exact Nat.lt_of_le_of_lt (by omega) d1
    · -- rng[2] = rng[2] + 1
      refine ⟨_, rfl, a, _, 2, _, rfl, rfl, hl, atI_nat (j := 2) rfl, _, _, rfl, rfl, ?_⟩
      refine ⟨_, rfl, a, _, 2, 2, rfl, rfl, e, rfl, ?_⟩
      have e2 : upd H a (.lst [.int d, .int sd, .int (t + 1)]) a = some (.lst [.int d, .int sd, .int (t + 1)]) := upd_same
      have hl2 : SqL K (upd H a (.lst [.int d, .int sd, .int (t + 1)])) a [.int d, .int sd, .int (t + 1)] := .inl (.inl e2)
      -- blend = ..
      refine ⟨_, rfl, a, _, 1, _, rfl, rfl, hl2, atI_nat (j := 1) rfl, _, rfl, a, _, 2, _, rfl, rfl, hl2, atI_nat (j := 2) rfl, _, _, rfl, rfl, ?_, _, _, rfl, rfl, _, _, rfl, rfl, ?_, .inl ⟨_, rfl, _, _, rfl, rfl, (by show (0 : Int) < _; decide), ?_⟩⟩
      · exact wide_mul (a := 30) (b := 30) (by decide) (by omega) (by decide) (by decide) (by decide)
      · exact powW_ok (a := 64) (by omega) (by decide) (by decide)
      have b0 : 0 ≤ (sd + 998244353 * (t + 1)) ^ (3 : Int).toNat % 162259276829213363391578010288127 := Int.emod_nonneg _ (by decide)
      have b1 : (sd + 998244353 * (t + 1)) ^ (3 : Int).toNat % 162259276829213363391578010288127 < 162259276829213363391578010288127 := Int.emod_lt_of_pos _ (by decide)
      generalize (sd + 998244353 * (t + 1)) ^ (3 : Int).toNat % 162259276829213363391578010288127 = bl at b0 b1
      refine ⟨_, rfl, _, rfl, a, _, 2, _, rfl, rfl, hl2, atI_nat (j := 2) rfl, _, _, rfl, rfl, ?_, _, _, rfl, rfl, _, _, rfl, rfl, ?_, .inl ⟨_, rfl, _, _, rfl, rfl, (by show (0 : Int) < _; decide), ?_⟩⟩
      · exact wide_mul (a := 30) (b := 30) (by decide) (by omega) (by decide) (by decide) (by decide)
      · exact powW_ok (a := 120) (by omega) (by decide) (by decide)
      refine ⟨_, rfl, _, _, rfl, rfl, wide_div (b := 30) (by decide) (by decide) (by decide) (by decide), .inl ⟨_, rfl, _, rfl, _, _, rfl, rfl, l0, ?_⟩⟩
      exact q _ _ (Int.emod_nonneg _ (by omega)) (Int.emod_lt_of_pos _ l0) Kp.at ⟨_, _, _, upd_same, d0, d1, s0, s1, by omega, by omega⟩
end

end Pk01
namespace Pk01
open PySem PySem.Spec PyProof.Rows L2 Gd
section
variable {P : Program} {w : World} {K : PySem.W.Frag} {mg : Str → Option Value} {base : Heap}
set_option maxHeartbeats 8000000 in
-- _law_rng: level 1; builtins ['abs', 'int']; cells []; slots: 0 script, 1 digits, 2 seed, 3 number, 4 far
theorem ok__law_rng (h : At K mg "_law_rng" s__law_rng ["script"]) (m_abs : mg "abs" = none) (m_int : mg "int" = none) : Dn P w K mg base 1 "_law_rng" s__law_rng ["script"] (sp__law_rng K) := by
  refine .mk' h fun f fd F => F.ok sc__law_rng (fun vs H Q E h => ?_) (fun cdv A outer s H vs Q E hr h => ?_)
  · obtain ⟨a, ns, rfl, hS, hn, q⟩ := h
    rfl
  · obtain ⟨a, ns, rfl, hS, hn, q⟩ := h
    refine ⟨_, (pss_cons (ps_asg (pe_tup (pa_cons pe_int (pa_cons pe_int pa_nil))) (pg_tup (by rfl) (pgs_cons (pg_name (i := 1) sc__law_rng.nd rfl (.inl rfl)) (pgs_cons (pg_name (i := 2) sc__law_rng.nd rfl (.inl rfl)) pgs_nil))))
      (pss_cons (ps_for PassesOwn.never rfl (pi_list (pe_slice sl_list (pv 0) po_none (po_some pe_int))) (pg_name (i := 3) sc__law_rng.nd rfl (.inl rfl))
        (pss_cons (ps_set (i := 4) sc__law_rng.nd rfl (.inl rfl) (pe_callB call_abs (by rfl) m_abs (by decide +kernel) (pa_cons (pv 3) pa_nil)))
        (pss_cons (ps_if (pt_cmpR op_ge (pv 4) (pe_op op_powW pe_int pe_int) (nomark _))
          (pss_one (ps_set (i := 1) sc__law_rng.nd rfl (.inl rfl) (pe_op op_add (pe_op op_mulW (pv 1) (pe_op op_powW pe_int pe_int)) (pe_op op_mod (pe_callTy call_int1 (by rfl) m_int (by decide +kernel) (pa_cons (pv 4) pa_nil)) (pe_op op_powW pe_int pe_int)))))
          pss_nil)
        (pss_one (ps_set (i := 2) sc__law_rng.nd rfl (.inl rfl) (pe_op op_mod (pe_callTy call_int1 (by rfl) m_int (by decide +kernel) (pa_cons (pe_op op_add (pe_op op_add (pe_op op_mulW (pv 2) pe_int) (pe_op op_mod (pe_callTy call_int1 (by rfl) m_int (by decide +kernel) (pa_cons (pv 3) pa_nil)) pe_int)) pe_int) pa_nil)) pe_int))))))
      (pss_one (ps_ret (pe_lst (pa_cons (pv 1) (pa_cons (pv 2) (pa_cons pe_int pa_nil)))))))), ?_⟩
    refine ⟨by show 2 ≤ sizeLine; decide, fun c0 nc0 => ?_⟩
    refine ⟨c0, _, rfl, .inl (.inl upd_same), rfl, _, _, rfl, _, _, rfl, rfl, ?_⟩
    have sm0 : Same H (upd H c0 (.tup [.int 0, .int 88675123])) := Same.new nc0
    generalize upd H c0 (.tup [.int 0, .int 88675123]) = H0 at sm0
    refine ⟨_, rfl, 63, rfl, a, _, rfl, sm0.seq hS, fun c nc => ⟨c, rfl, ⟨_, .inl (.inl upd_same)⟩, ?_⟩⟩
    have len63 : (cutV (ns.map V.int) none (some 63)).length ≤ 63 := Nat.le_trans (cutV_length _ _ _) (by rw [List.length_map]; exact hn)
    refine for_list (xs := cutV (ns.map V.int) none (some 63)) (fun i σ H' => H' = upd H0 c (.lst (cutV (ns.map V.int) none (some 63))) ∧
      ∃ dg sd y3 y4, σ = [some (.ref a), some (.int dg), some (.int sd), y3, y4] ∧ 0 ≤ dg ∧ dg.natAbs < 2 ^ (200 * i + 1) ∧ 0 ≤ sd ∧ sd < 2305843009213693951)
      ⟨rfl, 0, 88675123, none, none, rfl, by decide, by decide, by decide, by decide⟩ ?_ ?_ ?_
    · intro i σ H' _ hw
      rw [hw.1]
      exact .inl (.inl upd_same)
    · intro i x σ H' hx hw
      have hi : i < (cutV (ns.map V.int) none (some 63)).length := (List.getElem?_eq_some_iff.mp hx).1
      obtain ⟨rfl, dg, sd, y3, y4, rfl, d0, d1, s0, s1⟩ := hw
      obtain ⟨z, rfl⟩ := cut_ints hx
      refine ⟨_, rfl, z, rfl, ?_⟩
      generalize (if z < 0 then -z else z) = f
      refine ⟨_, rfl, _, _, rfl, rfl, ten18, _, _, rfl, rfl, _, rfl, ite2 (fun _ => ?_) (fun _ => ?_)⟩
      · have bs := big_step (f := f) d0 d1
        refine ⟨_, rfl, _, _, rfl, rfl, ten60, _, _, rfl, rfl, ?_, _, rfl, .inl ⟨_, rfl, _, _, rfl, rfl, ten60, _, _, rfl, rfl, (by show (0 : Int) < _; decide), _, _, rfl, rfl, ?_⟩⟩
        · exact wide_mul (a := 200 * i + 1) (b := 200) d1 (by decide) (by omega) (by decide) (by omega)
        refine ⟨_, rfl, _, _, rfl, rfl, wide_mul (a := 64) (b := 64) (by omega) (by decide) (by decide) (by decide) (by decide), _, rfl, .inl ⟨_, rfl, _, _, rfl, rfl, (by show (0 : Int) < _; decide), _, _, rfl, rfl, _, _, rfl, rfl,
          .inl ⟨_, rfl, _, _, rfl, rfl, (by show (0 : Int) < _; decide), ?_⟩⟩⟩
        exact ⟨rfl, _, _, _, _, rfl, bs.1, bs.2, Int.emod_nonneg _ (by decide), Int.emod_lt_of_pos _ (by decide)⟩
      · refine ⟨_, rfl, _, _, rfl, rfl, wide_mul (a := 64) (b := 64) (by omega) (by decide) (by decide) (by decide) (by decide), _, rfl, .inl ⟨_, rfl, _, _, rfl, rfl, (by show (0 : Int) < _; decide), _, _, rfl, rfl, _, _, rfl, rfl,
          .inl ⟨_, rfl, _, _, rfl, rfl, (by show (0 : Int) < _; decide), ?_⟩⟩⟩
        exact ⟨rfl, dg, _, _, _, rfl, d0, keep_step d1, Int.emod_nonneg _ (by decide), Int.emod_lt_of_pos _ (by decide)⟩
    · intro σ H' hw
      obtain ⟨rfl, dg, sd, y3, y4, rfl, d0, d1, s0, s1⟩ := hw
      refine ⟨_, rfl, _, rfl, by show 3 ≤ sizeLine; decide, fun p np => ?_⟩
      have sm := sm0.trans (Same.new (o := .lst (cutV (ns.map V.int) none (some 63))) nc)
      exact q _ _ (sm.trans (Same.new np)) (sm.free np) ⟨_, _, _, upd_same, d0, end_step len63 d1, s0, s1, by decide, by decide⟩
end

end Pk01
namespace Pk01
open PySem PySem.Spec PyProof.Rows L2 Gd
section
variable {P : Program} {w : World} {K : PySem.W.Frag} {mg : Str → Option Value} {base : Heap}
set_option maxHeartbeats 8000000 in
-- _law_bound: level 2; builtins []; cells []; slots: 0 rng, 1 most
theorem ok__law_bound (h : At K mg "_law_bound" s__law_bound ["rng", "most"]) (D__law_draw : Dn P w K mg base 1 "_law_draw" s__law_draw ["rng", "limit"] (sp__law_draw K)) : Dn P w K mg base 2 "_law_bound" s__law_bound ["rng", "most"] (sp__law_bound K) := by
  refine .mk' h fun f fd F => F.ok sc__law_bound (fun vs H Q E h => ?_) (fun cdv A outer s H vs Q E hr h => ?_)
  · obtain ⟨a, m, n, rfl, rs, hn, m0, m1, q⟩ := h
    rfl
  · obtain ⟨a, m, n, rfl, rs, hn, m0, m1, q⟩ := h
    refine ⟨_, (pss_one (ps_ret (pe_ix ix_list (pe_lst (pa_cons pe_non (pa_cons (pe_op op_sub (pe_c D__law_draw hr (by rfl) (pa_cons (pv 0) (pa_cons (pe_op op_add (pe_op op_mulW pe_int (pv 1)) pe_int) pa_nil))) (pv 1)) (pa_cons (pe_op op_sub (pe_c D__law_draw hr (by rfl) (pa_cons (pv 0) (pa_cons pe_int pa_nil))) pe_int) pa_nil)))) (pe_c D__law_draw hr (by rfl) (pa_cons (pv 0) (pa_cons pe_int pa_nil))) (fun _ _ => rfl)))), ?_⟩
    have m1' : m ≤ 10000000000000000000000000000000 := m1
    refine ⟨_, rfl, _, rfl, _, _, rfl, rfl, wide_mul (a := 2) (b := 120) (by decide) (by omega) (by decide) (by decide) (by decide), _, _, rfl, rfl, a, _, n, rfl, rs, by omega, by omega, ?_, fun r H1 r0 r1 k1 rs1 => ?_⟩
    · have : (2 : Nat) ^ 200 = 1606938044258990275541962092341162602522202993782792835301376 := by decide
      omega
    refine ⟨_, rfl, _, _, rfl, rfl, _, rfl, a, _, n + 1, rfl, rs1, by omega, by decide, by decide, fun r2 H2 t0 t1 k2 rs2 => ?_⟩
    refine ⟨_, _, rfl, rfl, by show 3 ≤ sizeLine; decide, fun p np => ?_⟩
    have rs3 := rs2.same (Same.new (o := .lst [.non, .int (r - m), .int (r2 - 2)]) np)
    refine ⟨_, rfl, a, _, n + 2, rfl, rs3, by omega, by decide, by decide, fun r3 H3 u0 u1 k3 rs4 => ?_⟩
    have kk : Kp a H H3 := (k1.trans k2).trans ((Kp.of (Same.new np)).trans k3)
    have pne : p ≠ a := fun z => by
      obtain ⟨_, _, _, e, _⟩ := rs2.ok
      rw [← z, np] at e
      cases e
    have ep : SqL K H3 p [.non, .int (r - m), .int (r2 - 2)] := .inl (.inl (k3 _ _ pne upd_same))
    have three : r3 = 0 ∨ r3 = 1 ∨ r3 = 2 := by omega
    rcases three with rfl | rfl | rfl
    · exact ⟨p, _, 0, _, rfl, rfl, ep, atI_nat (j := 0) rfl, q none _ trivial kk rs4⟩
    · exact ⟨p, _, 1, _, rfl, rfl, ep, atI_nat (j := 1) rfl, q (some _) _ (by constructor <;> omega) kk rs4⟩
    · exact ⟨p, _, 2, _, rfl, rfl, ep, atI_nat (j := 2) rfl, q (some _) _ (by constructor <;> omega) kk rs4⟩
end

end Pk01
namespace Pk01
open PySem PySem.Spec PyProof.Rows L2 Gd
section
variable {P : Program} {w : World} {K : PySem.W.Frag} {mg : Str → Option Value} {base : Heap}
set_option maxHeartbeats 8000000 in
-- _law_range: level 3; builtins []; cells []; slots: 0 rng, 1 most, 2 low, 3 high
theorem ok__law_range (h : At K mg "_law_range" s__law_range ["rng", "most"]) (D__law_bound : Dn P w K mg base 2 "_law_bound" s__law_bound ["rng", "most"] (sp__law_bound K)) (D__law_draw : Dn P w K mg base 1 "_law_draw" s__law_draw ["rng", "limit"] (sp__law_draw K)) : Dn P w K mg base 3 "_law_range" s__law_range ["rng", "most"] (sp__law_range K) := by
  refine .mk' h fun f fd F => F.ok sc__law_range (fun vs H Q E h => ?_) (fun cdv A outer s H vs Q E hr h => ?_)
  · obtain ⟨a, m, n, rfl, rs, hn, m0, m1, q⟩ := h
    rfl
  · obtain ⟨a, m, n, rfl, rs, hn, m0, m1, q⟩ := h
    refine ⟨_, (pss_cons (ps_if (pt_cmpR op_eq (pe_c D__law_draw hr (by rfl) (pa_cons (pv 0) (pa_cons pe_int pa_nil))) pe_int (nomark _))
        (pss_one (ps_ret pe_non))
        pss_nil)
      (pss_cons (ps_par (i := 2) (j := 3) rfl sc__law_range.nd rfl rfl (by decide) rfl rfl (pa_cons (pe_c D__law_bound hr (by rfl) (pa_cons (pv 0) (pa_cons (pv 1) pa_nil))) (pa_cons (pe_c D__law_bound hr (by rfl) (pa_cons (pv 0) (pa_cons (pv 1) pa_nil))) pa_nil)) (by rfl))
      (pss_cons (ps_if (PW.pt (pw_and (pt_cmpR op_notN (pv 2) pe_non (nomark _)) (pw_and (pt_cmpR op_notN (pv 3) pe_non (nomark _)) (pw_and1 (pt_cmpR op_gt (pv 2) (pv 3) (nomark _))))))
        (pss_one (ps_ret (pe_tup (pa_cons (pv 3) (pa_cons (pv 2) pa_nil)))))
        pss_nil)
      (pss_one (ps_ret (pe_tup (pa_cons (pv 2) (pa_cons (pv 3) pa_nil)))))))), ?_⟩
    refine ⟨_, rfl, a, _, n, rfl, rs, by omega, by decide, by decide, fun r H1 r0 r1 k1 rs1 => ?_⟩
    refine ⟨rfl, _, rfl, ite2 (fun _ => ?_) (fun _ => ?_)⟩
    · exact q .non none H1 trivial trivial k1 (rs1.mono (by omega)) rfl
    refine ⟨_, rfl, _, rfl, a, m, n + 1, rfl, rs1, by omega, m0, m1, fun lo H2 bl k2 rs2 => ?_⟩
    refine ⟨_, rfl, _, rfl, a, m, n + 4, rfl, rs2, by omega, m0, m1, fun hi H3 bh k3 rs3 => ?_⟩
    have kk := (k1.trans k2).trans k3
    refine ⟨_, _, rfl, ?_⟩
    match lo, hi, bl, bh with
    | none, hi, bl, bh =>
      refine ⟨_, rfl, rfl, _, rfl, iteF (iteF ⟨_, rfl, _, rfl, by show 2 ≤ sizeLine; decide, fun p np => ?_⟩)⟩
      exact q _ (some (none, hi)) _ trivial ⟨bl, bh⟩ (kk.trans (Kp.new np)) (rs3.same (Same.new np)) ⟨p, rfl, .inl (.inl upd_same)⟩
    | some l, none, bl, bh =>
      refine ⟨_, rfl, rfl, _, rfl, iteT ⟨_, rfl, rfl, _, rfl, iteF (iteF ⟨_, rfl, _, rfl, by show 2 ≤ sizeLine; decide, fun p np => ?_⟩)⟩⟩
      exact q _ (some (some l, none)) _ trivial ⟨bl, bh⟩ (kk.trans (Kp.new np)) (rs3.same (Same.new np)) ⟨p, rfl, .inl (.inl upd_same)⟩
    | some l, some u, bl, bh =>
      refine ⟨_, rfl, rfl, _, rfl, iteT ⟨_, rfl, rfl, _, rfl, iteT ⟨_, rfl, _, rfl, _, _, rfl, rfl, _, rfl, ite2 (fun c => ?_) (fun c => ?_)⟩⟩⟩
      · have c' : l > u := of_decide_eq_true c
        refine ⟨_, rfl, _, rfl, by show 2 ≤ sizeLine; decide, fun p np => ?_⟩
        exact q _ (some (some u, some l)) _ (show u ≤ l by omega) ⟨bh, bl⟩ (kk.trans (Kp.new np)) (rs3.same (Same.new np)) ⟨p, rfl, .inl (.inl upd_same)⟩
      · have c' : ¬ l > u := fun z => c (decide_eq_true z)
        refine ⟨_, rfl, _, rfl, by show 2 ≤ sizeLine; decide, fun p np => ?_⟩
        exact q _ (some (some l, some u)) _ (show l ≤ u by omega) ⟨bl, bh⟩ (kk.trans (Kp.new np)) (rs3.same (Same.new np)) ⟨p, rfl, .inl (.inl upd_same)⟩
end

end Pk01
namespace Pk01
open PySem PySem.Spec PyProof.Rows L2 Gd
section
variable {P : Program} {w : World} {K : PySem.W.Frag} {mg : Str → Option Value} {base : Heap}
set_option maxHeartbeats 8000000 in
-- _law_listed: level 1; builtins ['list', 'range']; cells []; slots: 0 given, 1 low
theorem ok__law_listed (h : At K mg "_law_listed" s__law_listed ["given"]) (m_list : mg "list" = none) (m_range : mg "range" = none) : Dn P w K mg base 1 "_law_listed" s__law_listed ["given"] (sp__law_listed K) := by
  refine .mk' h fun f fd F => F.ok sc__law_listed (fun vs H Q E h => ?_) (fun cdv A outer s H vs Q E hr h => ?_)
  · obtain ⟨v, r, rfl, hv, hi, q⟩ := h
    rfl
  · obtain ⟨v, r, rfl, hv, hi, q⟩ := h
    refine ⟨_, (pss_cons (ps_if (pt_cmpR op_isN (pv 0) pe_non (nomark _))
        (pss_one (ps_ret (pe_lst pa_nil)))
        pss_nil)
      (pss_cons (ps_set (i := 1) sc__law_listed.nd rfl (.inl rfl) (pe_ifExp (pt_cmpR op_isN (pe_ix ix_tup (pv 0) pe_int (fun _ _ => rfl)) pe_non (nomark _)) (pe_un un_neg pe_int) (pe_ix ix_tup (pv 0) pe_int (fun _ _ => rfl))))
      (pss_one (ps_ret (pe_listRg rfl (by rfl) m_list (prg_2 (by rfl) m_range (pv 1) (pe_ifExp (pt_cmpR op_isN (pe_ix ix_tup (pv 0) pe_int (fun _ _ => rfl)) pe_non (nomark _)) pe_int (pe_op op_add (pe_ix ix_tup (pv 0) pe_int (fun _ _ => rfl)) pe_int)))))))), ?_⟩
    match r, hv, hi with
    | none, hv, _ =>
      have e : v = .non := hv
      subst e
      exact ⟨_, rfl, rfl, _, rfl, iteT ⟨Nat.zero_le _, fun p np => q p _ (Same.new np) np upd_same⟩⟩
    | some (l, u), hv, hi =>
      obtain ⟨t, rfl, s⟩ := hv
      refine ⟨_, rfl, rfl, _, rfl, iteF ?_⟩
      refine ⟨_, rfl, t, _, 0, _, rfl, rfl, s, atI_nat (j := 0) rfl, rfl, _, rfl, ?_⟩
      have fin : ∀ (p : Addr), (H p = none) → Q (.ref p) (upd H p (.lst (rgV (loR l) (hiR u)))) := by
        intro p np
        refine q p _ (Same.new np) np ?_
        rw [upd_same, rgV_rgI]
        rfl
      match l, u, hi with
      | none, none, _ =>
        refine iteT ⟨_, rfl, _, rfl, _, rfl, t, _, 1, _, rfl, rfl, s, atI_nat (j := 1) rfl, rfl, _, rfl, iteT ⟨_, _, rfl, rfl, ⟨by decide, by decide, by decide, by decide, by decide⟩, fun p np => fin p np⟩⟩
      | none, some u, ⟨_, b1, b2⟩ =>
        refine iteT ⟨_, rfl, _, rfl, _, rfl, t, _, 1, _, rfl, rfl, s, atI_nat (j := 1) rfl, rfl, _, rfl, iteF ⟨_, rfl, t, _, 1, _, rfl, rfl, s, atI_nat (j := 1) rfl, _, _, rfl, rfl, _, _, rfl, rfl,
          ⟨by omega, by omega, by omega, by omega, by omega⟩, fun p np => fin p np⟩⟩
      | some l, none, ⟨⟨b1, b2⟩, _⟩ =>
        refine iteF ⟨_, rfl, t, _, 0, _, rfl, rfl, s, atI_nat (j := 0) rfl, _, rfl, _, rfl, t, _, 1, _, rfl, rfl, s, atI_nat (j := 1) rfl, rfl, _, rfl, iteT ⟨_, _, rfl, rfl,
          ⟨by omega, by omega, by omega, by omega, by omega⟩, fun p np => fin p np⟩⟩
      | some l, some u, ⟨⟨b1, b2⟩, b3, b4⟩ =>
        refine iteF ⟨_, rfl, t, _, 0, _, rfl, rfl, s, atI_nat (j := 0) rfl, _, rfl, _, rfl, t, _, 1, _, rfl, rfl, s, atI_nat (j := 1) rfl, rfl, _, rfl, iteF ⟨_, rfl, t, _, 1, _, rfl, rfl, s, atI_nat (j := 1) rfl, _, _, rfl, rfl, _, _, rfl, rfl,
          ⟨by omega, by omega, by omega, by omega, by omega⟩, fun p np => fin p np⟩⟩
end

end Pk01
namespace Pk01
open PySem PySem.Spec PyProof.Rows L2 Gd
section
variable {P : Program} {w : World} {K : PySem.W.Frag} {mg : Str → Option Value} {base : Heap}
set_option maxHeartbeats 8000000 in
-- _law_far: level 1; builtins ['tuple']; cells ['shift']; slots: 0 given, 1 shift, 2 end
theorem ok__law_far (h : At K mg "_law_far" s__law_far ["given", "shift"]) (m_tuple : mg "tuple" = none) : Dn P w K mg base 1 "_law_far" s__law_far ["given", "shift"] (sp__law_far K) := by
  refine .mk' h fun f fd F => F.ok sc__law_far (fun vs H Q E h => ?_) (fun cdv A outer s H vs Q E hr h => ?_)
  · obtain ⟨v, r, k, rfl, hv, q⟩ := h
    rfl
  · obtain ⟨v, r, k, rfl, hv, q⟩ := h
    refine ⟨_, (pss_cons (ps_if (pt_cmpR op_isN (pv 0) pe_non (nomark _))
        (pss_one (ps_ret pe_non))
        pss_nil)
      (pss_one (ps_ret (pe_callTy call_tuple_of (by rfl) m_tuple (by decide +kernel) (pa_cons (pe_lc (own := [("end", 2)]) (g := gName 2) rfl sc__law_far.nd (pi_tup (pv 0)) (blkOk_by (N := ["given", "shift", "end"]) (sc := defScope s__law_far) (by decide +kernel)) (fun _ _ _ _ _ => pg_name (i := 2) sc__law_far.nd rfl (Or.inl rfl)) (fun _ _ _ _ _ => pts_nil) (fun _ _ _ _ _ => (pe_ifExp (pt_cmpR op_isN (pv 2) pe_non (nomark _)) pe_non (pe_op op_add (pv 2) (pv 1))))) pa_nil))))), ?_⟩
    match r, hv with
    | none, hv =>
      have e : v = .non := hv
      subst e
      exact ⟨_, rfl, rfl, _, rfl, iteT (q .non H (Same.refl _) rfl)⟩
    | some (l, u), hv =>
      obtain ⟨t, rfl, s⟩ := hv
      refine ⟨_, rfl, rfl, _, rfl, iteF ?_⟩
      refine ⟨_, rfl, t, rfl, ⟨_, s⟩, fun D nD => ?_⟩
      refine lc_tup (K := K) (a := t) (xs := [ov l, ov u]) (fun i H' => H' = upd H D (.lst ([ov (farO k l), ov (farO k u)].take i))) rfl ?_ ?_ ?_
      · intro i H' _ hw
        rw [hw]
        exact SqT.same (Same.new nD) s
      · intro i x H' hx hw
        subst hw
        have key : ∃ (o : Option Int) (acc : List V), i < 2 ∧ x = ov o ∧ acc = [ov (farO k l), ov (farO k u)].take i ∧ [ov (farO k l), ov (farO k u)].take (i + 1) = acc ++ [ov (farO k o)] := by
          match i, hx with
          | 0, hx => exact ⟨l, [], by omega, (Option.some.inj hx).symm, rfl, rfl⟩
          | 1, hx => exact ⟨u, [ov (farO k l)], by omega, (Option.some.inj hx).symm, rfl, rfl⟩
          | i + 2, hx => cases hx
        obtain ⟨o, acc, hi, rfl, e2, e3⟩ := key
        refine ⟨rfl, ?_⟩
        match o with
        | none =>
          refine ⟨_, rfl, rfl, _, rfl, iteT ⟨acc, ?_, ?_, ?_⟩⟩
          · rw [upd_same, e2]
          · rw [e2]; exact Nat.lt_of_le_of_lt (List.length_take_le _ _) (Nat.lt_of_lt_of_le hi (by decide))
          · rw [upd_upd, e3]; rfl
        | some z =>
          refine ⟨_, rfl, rfl, _, rfl, iteF ⟨_, rfl, _, rfl, _, _, rfl, rfl, acc, ?_, ?_, ?_⟩⟩
          · rw [upd_same, e2]
          · rw [e2]; exact Nat.lt_of_le_of_lt (List.length_take_le _ _) (Nat.lt_of_lt_of_le hi (by decide))
          · rw [upd_upd, e3]; rfl
      · intro H' hw
        subst hw
        refine ⟨D, _, rfl, .inl ⟨.inl (.inl upd_same), fun p np => ?_⟩⟩
        exact q _ _ ((Same.new nD).trans (Same.new np)) ⟨p, rfl, .inl (.inl upd_same)⟩
end

end Pk01
namespace Pk01
open PySem PySem.Spec PyProof.Rows L2 Gd
section
variable {P : Program} {w : World} {K : PySem.W.Frag} {mg : Str → Option Value} {base : Heap}
set_option maxHeartbeats 8000000 in
-- law: level 5; builtins ['len', 'min', 'range', 'repr']; cells ['more']; slots: 0 script, 1 rng, 2 lap, 3 first, 4 last, 5 some, 6 more, 7 due, 8 shift, 9 told, 10 named, 11 spot
theorem ok_law (h : At K mg "law" s_law ["script"]) (D__law_draw : Dn P w K mg base 1 "_law_draw" s__law_draw ["rng", "limit"] (sp__law_draw K)) (D__law_far : Dn P w K mg base 1 "_law_far" s__law_far ["given", "shift"] (sp__law_far K)) (D__law_listed : Dn P w K mg base 1 "_law_listed" s__law_listed ["given"] (sp__law_listed K)) (D__law_range : Dn P w K mg base 3 "_law_range" s__law_range ["rng", "most"] (sp__law_range K)) (D__law_rng : Dn P w K mg base 1 "_law_rng" s__law_rng ["script"] (sp__law_rng K)) (D_lies_within : Dn P w K mg base 4 "lies_within" s_lies_within ["one", "other"] (sp_lies_within K)) (D_meets : Dn P w K mg base 4 "meets" s_meets ["one", "other"] (sp_meets K)) (kw_lies_within_other_one : KwTo K "lies_within" s_lies_within ["one", "other"] ["other", "one"] 0 gk_lies_within_other_one) (kw_meets_other_one : KwTo K "meets" s_meets ["one", "other"] ["other", "one"] 0 gk_meets_other_one) (m_len : mg "len" = none) (m_min : mg "min" = none) (m_range : mg "range" = none) (m_repr : mg "repr" = none) : DnG P w K mg base 5 "law" s_law ["script"] (sp_law K) := by
  refine .mk' h fun f fd F => okG F sc_law (fun vs H Q E h => ?_) (fun cdv A outer s H vs Q E hgd hr h => ?_)
  · obtain ⟨a, ns, rfl, hS, hn, q⟩ := h
    rfl
  · obtain ⟨a, ns, rfl, hS, hn, q⟩ := h
    refine ⟨_, (pss_cons (ps_set (i := 1) sc_law.nd rfl (.inl rfl) (pe_c D__law_rng hr (by rfl) (pa_cons (pv 0) pa_nil)))
      (pss_cons (ps_for PassesOwn.never rfl (pi_range1 (by rfl) m_range (pa_cons (pe_op op_add pe_int (pe_callB (call_min2 rfl) (by rfl) m_min (by decide +kernel) (pa_cons pe_int (pa_cons (pe_callB call_len_seq (by rfl) m_len PySem.boot_len (pa_cons (pv 0) pa_nil)) pa_nil)))) pa_nil)) (pg_name (i := 2) sc_law.nd rfl (.inl rfl))
        (pss_cons (ps_par (i := 3) (j := 4) rfl sc_law.nd rfl rfl (by decide) rfl rfl (pa_cons (pe_c D__law_range hr (by rfl) (pa_cons (pv 1) (pa_cons pe_int pa_nil))) (pa_cons (pe_c D__law_range hr (by rfl) (pa_cons (pv 1) (pa_cons pe_int pa_nil))) pa_nil)) (by rfl))
        (C8.pss_cut (ps_if (PW.pt (pw_and (pt_cmpR op_notN (pv 3) pe_non (nomark _)) (pw_and (pt_cmpR op_notN (pe_ix ix_tup (pv 3) pe_int (fun _ _ => rfl)) pe_non (nomark _)) (pw_and1 (pt_cmpR op_eq (pe_c D__law_draw hr (by rfl) (pa_cons (pv 1) (pa_cons pe_int pa_nil))) pe_int (nomark _))))))
          (pss_one (ps_set (i := 4) sc_law.nd rfl (.inl rfl) (pe_tup (pa_cons (pe_callB (call_min2 rfl) (by rfl) m_min (by decide +kernel) (pa_cons pe_int (pa_cons (pe_op op_add (pe_ix ix_tup (pv 3) pe_int (fun _ _ => rfl)) (pe_c D__law_draw hr (by rfl) (pa_cons (pv 1) (pa_cons pe_int pa_nil)))) pa_nil))) (pa_cons pe_non pa_nil)))))
          pss_nil)
        (pss_cons (ps_asg (pe_tup (pa_cons (pe_c D__law_listed hr (by rfl) (pa_cons (pv 3) pa_nil)) (pa_cons (pe_c D__law_listed hr (by rfl) (pa_cons (pv 4) pa_nil)) pa_nil))) (pg_tup (by rfl) (pgs_cons (pg_name (i := 5) sc_law.nd rfl (.inl rfl)) (pgs_cons (pg_name (i := 6) sc_law.nd rfl (.inr rfl)) pgs_nil))))
        (pss_cons (ps_set (i := 7) sc_law.nd rfl (.inl rfl) (pe_lst (pa_cons (pe_cmpR (op_neD hr.units) (pe_lc (own := [("spot", 11)]) (g := gName 11) rfl sc_law.nd (pi_list (pv 5)) (blkOk_by (N := ["script", "rng", "lap", "first", "last", "some", "more", "due", "shift", "told", "named", "spot"]) (sc := defScope s_law) (by decide +kernel)) (fun _ _ _ _ _ => pg_name (i := 11) sc_law.nd rfl (Or.inl rfl)) (fun _ _ _ _ _ => pts_one (pt_cmpR (r := rIn K false) op_in_seq (pv 11) (pv 6) (by rfl))) (fun _ _ _ _ _ => (pv 11))) (pe_lst pa_nil) (nomark _)) (pa_cons (pe_cmpR (op_eqD hr.units) (pe_lc (own := [("spot", 11)]) (g := gName 11) rfl sc_law.nd (pi_list (pv 5)) (blkOk_by (N := ["script", "rng", "lap", "first", "last", "some", "more", "due", "shift", "told", "named", "spot"]) (sc := defScope s_law) (by decide +kernel)) (fun _ _ _ _ _ => pg_name (i := 11) sc_law.nd rfl (Or.inl rfl)) (fun _ _ _ _ _ => pts_one (pt_cmpR (r := rIn K true) op_notIn_seq (pv 11) (pv 6) (by rfl))) (fun _ _ _ _ _ => (pv 11))) (pe_lst pa_nil) (nomark _)) pa_nil))))
        (pss_cons (ps_set (i := 8) sc_law.nd rfl (.inl rfl) (pe_ix ix_list (pe_lst (pa_cons pe_int (pa_cons (pe_c D__law_draw hr (by rfl) (pa_cons (pv 1) (pa_cons (pe_op op_sub (pe_op op_powW pe_int pe_int) pe_int) pa_nil))) (pa_cons (pe_op op_sub pe_int (pe_op op_powW pe_int pe_int)) pa_nil)))) (pe_c D__law_draw hr (by rfl) (pa_cons (pv 1) (pa_cons pe_int pa_nil))) (fun _ _ => rfl)))
        (pss_cons (ps_par (i := 3) (j := 4) rfl sc_law.nd rfl rfl (by decide) rfl rfl (pa_cons (pe_c D__law_far hr (by rfl) (pa_cons (pv 3) (pa_cons (pv 8) pa_nil))) (pa_cons (pe_c D__law_far hr (by rfl) (pa_cons (pv 4) (pa_cons (pv 8) pa_nil))) pa_nil)) (by rfl))
        (pss_cons (ps_set (i := 9) sc_law.nd rfl (.inl rfl) (pe_lst (pa_cons (pe_c D_meets hr (by rfl) (pa_cons (pv 3) (pa_cons (pv 4) pa_nil))) (pa_cons (pe_c D_lies_within hr (by rfl) (pa_cons (pv 3) (pa_cons (pv 4) pa_nil))) pa_nil))))
        (pss_cons (ps_set (i := 10) sc_law.nd rfl (.inl rfl) (pe_lst (pa_cons (pe_cz D_meets hr kw_meets_other_one (by rfl) (pk_cons (pv 4) (pk_cons (pv 3) pk_nil))) (pa_cons (pe_cz D_lies_within hr kw_lies_within_other_one (by rfl) (pk_cons (pv 4) (pk_cons (pv 3) pk_nil))) pa_nil))))
        (pss_one (ps_if (pt_cmpR op_ne (pe_callB (Gd.call_reprD hgd hr) (by rfl) m_repr (by decide +kernel) (pa_cons (pe_lst (pa_cons (pv 9) (pa_cons (pv 10) (pa_cons (pe_c D_meets hr (by rfl) (pa_cons (pv 4) (pa_cons (pv 3) pa_nil))) pa_nil)))) pa_nil)) (pe_callB (Gd.call_reprD hgd hr) (by rfl) m_repr (by decide +kernel) (pa_cons (pe_lst (pa_cons (pv 7) (pa_cons (pv 7) (pa_cons (pe_ix ix_list (pv 7) pe_int (fun _ _ => rfl)) pa_nil)))) pa_nil)) (nomark _))
          (pss_one (ps_ret pe_bl))
          pss_nil)))))))))))
      (pss_one (ps_ret (pe_cmpR (op_eqD hr.units) (pe_lst (pa_cons (pe_c D_meets hr (by rfl) (pa_cons (pe_tup (pa_cons pe_int (pa_cons pe_int pa_nil))) (pa_cons (pe_tup (pa_cons pe_int (pa_cons pe_non pa_nil))) pa_nil))) (pa_cons (pe_c D_meets hr (by rfl) (pa_cons pe_non (pa_cons (pe_tup (pa_cons pe_non (pa_cons pe_non pa_nil))) pa_nil))) (pa_cons (pe_c D_lies_within hr (by rfl) (pa_cons pe_non (pa_cons pe_non pa_nil))) pa_nil)))) (pe_lst (pa_cons pe_bl (pa_cons pe_bl (pa_cons pe_bl pa_nil)))) (nomark _)))))), ?_⟩
    have big : ((40 : Int) + (if (((ns.map V.int).length : Nat) : Int) < 40 then (((ns.map V.int).length : Nat) : Int) else 40)) ≤ 80 ∧ 0 ≤ ((40 : Int) + (if (((ns.map V.int).length : Nat) : Int) < 40 then (((ns.map V.int).length : Nat) : Int) else 40)) := by
      rw [List.length_map]
      split <;> omega
    refine ⟨_, rfl, a, ns, rfl, hS, hn, fun g H1 sm1 ng rs => ?_⟩
    refine ⟨_, rfl, a, _, rfl, .inl (sm1.seq hS), _, _, rfl, _, _, rfl, rfl, _, rfl, ?_, ?_, ?_⟩
    · exact Int.le_trans (by decide) big.2
    · exact Int.lt_of_le_of_lt big.1 (by decide)
    refine for_range (fun i σ H' => RS (30 * i) H' g ∧ ∃ y2 y3 y4 y5 y6 y7 y8 y9 y10 y11, σ = [some (.ref a), some (.ref g), y2, y3, y4, y5, y6, y7, y8, y9, y10, y11]) ⟨rs, _, _, _, _, _, _, _, _, _, _, rfl⟩ ?_ ?_
    · intro i σ H2 hi hw
      have hi2 : i < 80 := by
        have := big.1
        omega
      obtain ⟨rs2, y2, y3, y4, y5, y6, y7, y8, y9, y10, y11, rfl⟩ := hw
      -- first, last
      refine ⟨_, rfl, g, 20, _, rfl, rs2, by omega, by decide, by decide, fun v1 r1 H3 f1 i1 k3 rs3 e1 => ?_⟩
      refine ⟨_, rfl, g, 20, _, rfl, rs3, by omega, by decide, by decide, fun v2 r2 H4 f2 i2 k4 rs4 e2 => ?_⟩
      have e1 := e1.kp rs3 k4
      refine ⟨_, _, rfl, ?_⟩
      -- a neighbour
      refine ⟨fun σ H' => ∃ v2 r2, RgFit r2 ∧ RgIn 20 r2 ∧ RS (30 * i + 16) H' g ∧ RgV K H' v1 r1 ∧ RgV K H' v2 r2 ∧
        σ = [some (.ref a), some (.ref g), some (.int (0 + (i : Nat))), some v1, some v2, y5, y6, y7, y8, y9, y10, y11], ?_, ?_⟩
      · match r1, e1, f1, i1 with
        | none, e1, _, _ =>
          have z : v1 = .non := e1
          subst z
          exact ⟨_, rfl, rfl, _, rfl, iteF (iteF ⟨v2, r2, f2, i2, rs4.mono (by omega), rfl, e2, rfl⟩)⟩
        | some (l, none), e1, _, _ =>
          obtain ⟨p1, rfl, s1⟩ := e1
          exact ⟨_, rfl, rfl, _, rfl, iteT ⟨_, rfl, p1, _, 1, _, rfl, rfl, s1, atI_nat (j := 1) rfl, rfl, _, rfl, iteF (iteF ⟨v2, r2, f2, i2, rs4.mono (by omega), ⟨p1, rfl, s1⟩, e2, rfl⟩)⟩⟩
        | some (l, some u), e1, _, i1 =>
          obtain ⟨p1, rfl, s1⟩ := e1
          refine ⟨_, rfl, rfl, _, rfl, iteT ⟨_, rfl, p1, _, 1, _, rfl, rfl, s1, atI_nat (j := 1) rfl, rfl, _, rfl, iteT ?_⟩⟩
          refine ⟨_, rfl, g, 4, _, rfl, rs4, by omega, by decide, by decide, fun d H5 d0 d1 k5 rs5 => ?_⟩
          have s1 := SqT.kp rs4 k5 s1
          have e2 := e2.kp rs4 k5
          refine ⟨rfl, _, rfl, ite2 (fun _ => ?_) (fun _ => ?_)⟩
          · refine ⟨_, rfl, p1, _, 1, _, rfl, rfl, s1, atI_nat (j := 1) rfl, _, rfl, g, 2, _, rfl, rs5, by omega, by decide, by decide, fun d2 H6 d20 d21 k6 rs6 => ?_⟩
            have s1 := SqT.kp rs5 k6 s1
            refine ⟨_, _, rfl, rfl, _, _, rfl, by show 2 ≤ sizeLine; decide, fun p np => ?_⟩
            have iu : -20 ≤ u ∧ u ≤ 20 := i1.2
            refine ⟨_, some (some (if u + d2 < 20 then u + d2 else 20), none), trivial, ⟨?_, trivial⟩, (rs6.same (Same.new np)).mono (by omega), ⟨p1, rfl, SqT.same (Same.new np) s1⟩, ⟨p, rfl, .inl (.inl upd_same)⟩, rfl⟩
            show -20 ≤ (if u + d2 < 20 then u + d2 else 20) ∧ (if u + d2 < 20 then u + d2 else 20) ≤ 20
            split <;> omega
          · exact ⟨v2, r2, f2, i2, rs5.mono (by omega), ⟨p1, rfl, s1⟩, e2, rfl⟩
      rintro σ H3 ⟨v2, r2, f2, i2, rs3, e1, e2, rfl⟩
      -- some, more
      refine ⟨_, rfl, v1, r1, rfl, e1, i1.wide, fun p1 H4 sm4 n4 o4 => ?_⟩
      refine ⟨_, rfl, v2, r2, rfl, e2.same sm4, i2.wide, fun p2 H5 sm5 n5 o5 => ?_⟩
      refine ⟨by show 2 ≤ sizeLine; decide, fun t nt => ⟨t, _, rfl, .inl (.inl upd_same), rfl, _, _, rfl, _, _, rfl, rfl, ?_⟩⟩
      have sm6 := (sm4.trans sm5).trans (Same.new (o := .tup [.ref p1, .ref p2]) nt)
      have l1 : SqL K (upd H5 t (.tup [.ref p1, .ref p2])) p1 ((listR r1).map V.int) := .inl (.inl (Same.new nt _ _ (sm5 _ _ o4)))
      have l2 : SqL K (upd H5 t (.tup [.ref p1, .ref p2])) p2 ((listR r2).map V.int) := .inl (.inl (Same.new nt _ _ o5))
      have rs6 := rs3.same sm6
      have e1 := e1.same sm6
      have e2 := e2.same sm6
      generalize upd H5 t (.tup [.ref p1, .ref p2]) = H6 at sm6 l1 l2 rs6 e1 e2
      clear sm4 n4 o4 sm5 n5 o5 nt rs3
      -- due
      refine ⟨_, rfl, p1, rfl, ⟨_, l1⟩, fun D1 nD1 => ?_⟩
      refine lc_filter (listR r1) (fun z => decide (z ∈ listR r2)) l1 (listR_len i1) nD1 (fun _ => rfl) (fun _ => rfl) ?_ ?_
      · intro z H' R sm r
        refine ⟨_, rfl, _, rfl, p2, _, rfl, .inl (sm.seq l2), rfl, flat_ints _, _, rfl, ?_⟩
        show R (inV (.int z) ((listR r2).map V.int)) H'
        rw [inV_ints]
        exact r
      refine ⟨Nat.zero_le _, fun q1 nq1 => ?_⟩
      refine ⟨_, _, .lst (.inl (.inl (Same.new nq1 _ _ upd_same))) (dp_ints _), .lst (.inl (.inl upd_same)) .nil, shaped_ints _, by decide, ?_⟩
      rw [eqv_ints_nil]
      have sm7 := (Same.new (H := H6) (o := .lst (((listR r1).filter fun z => decide (z ∈ listR r2)).map V.int)) nD1).trans (Same.new (o := .lst []) nq1)
      generalize upd (upd H6 D1 (.lst (((listR r1).filter fun z => decide (z ∈ listR r2)).map V.int))) q1 (.lst []) = H7 at sm7
      refine ⟨_, rfl, p1, rfl, ⟨_, sm7.seq l1⟩, fun D2 nD2 => ?_⟩
      refine lc_filter (listR r1) (fun z => !decide (z ∈ listR r2)) (sm7.seq l1) (listR_len i1) nD2 (fun _ => rfl) (fun _ => rfl) ?_ ?_
      · intro z H' R sm r
        refine ⟨_, rfl, _, rfl, p2, _, rfl, .inl ((sm7.trans sm).seq l2), rfl, flat_ints _, _, rfl, ?_⟩
        show R (!inV (.int z) ((listR r2).map V.int)) H'
        rw [inV_ints]
        exact r
      refine ⟨Nat.zero_le _, fun q2 nq2 => ?_⟩
      refine ⟨_, _, .lst (.inl (.inl (Same.new nq2 _ _ upd_same))) (dp_ints _), .lst (.inl (.inl upd_same)) .nil, shaped_ints _, by decide, ?_⟩
      rw [eqv_ints_nil, ← meets_due i1 i2, ← lies_due i1 i2 f1 f2]
      have sm8 := sm7.trans ((Same.new (o := .lst (((listR r1).filter fun z => !decide (z ∈ listR r2)).map V.int)) nD2).trans (Same.new (o := .lst []) nq2))
      generalize upd (upd H7 D2 (.lst (((listR r1).filter fun z => !decide (z ∈ listR r2)).map V.int))) q2 (.lst []) = H8 at sm8
      clear sm7 nD1 nq1 nD2 nq2
      refine ⟨by show 2 ≤ sizeLine; decide, fun due ndue => ?_⟩
      have dp0 : SqL K (upd H8 due (.lst [.bl (comR r1 r2).isSome, .bl (decide (comR r1 r2 = r1))])) due [.bl (comR r1 r2).isSome, .bl (decide (comR r1 r2 = r1))] := .inl (.inl upd_same)
      have sm9 := sm8.trans (Same.new (o := .lst [.bl (comR r1 r2).isSome, .bl (decide (comR r1 r2 = r1))]) ndue)
      have dne : due ≠ g := fun z => by
        obtain ⟨_, _, _, eg, _⟩ := (rs6.same sm8).ok
        rw [← z, ndue] at eg
        cases eg
      have odue : upd H8 due (.lst [.bl (comR r1 r2).isSome, .bl (decide (comR r1 r2 = r1))]) due = some (.lst [.bl (comR r1 r2).isSome, .bl (decide (comR r1 r2 = r1))]) := upd_same
      generalize upd H8 due (.lst [.bl (comR r1 r2).isSome, .bl (decide (comR r1 r2 = r1))]) = H9 at sm9 odue
      have rs9 := rs6.same sm9
      have e1 := e1.same sm9
      have e2 := e2.same sm9
      clear sm8 ndue dp0 rs6 l1 l2 sm9
      -- shift
      have T31 : (10 : Int) ^ (31 : Int).toNat = 10000000000000000000000000000000 := by decide
      refine ⟨_, rfl, _, _, rfl, rfl, ten31, _, _, rfl, rfl, g, _, _, rfl, rs9, by omega, by show (0 : Int) < _; decide, by decide, fun d1 H10 _ _ k10 rs10 => ?_⟩
      refine ⟨_, _, rfl, rfl, ten31, _, _, rfl, rfl, by show 3 ≤ sizeLine; decide, fun ch nch => ?_⟩
      have rs11 := rs10.same (Same.new (o := .lst [.int 0, .int d1, .int (40 - (10 : Int) ^ (31 : Int).toNat)]) nch)
      refine ⟨_, rfl, g, 3, _, rfl, rs11, by omega, by decide, by decide, fun d2 H11 d20 d21 k11 rs12 => ?_⟩
      have cne : ch ≠ g := fun z => by
        obtain ⟨_, _, _, eg, _⟩ := rs10.ok
        rw [← z, nch] at eg
        cases eg
      have lch : SqL K H11 ch [.int 0, .int d1, .int (40 - (10 : Int) ^ (31 : Int).toNat)] := .inl (.inl (k11 _ _ cne upd_same))
      have odue := k11 _ _ dne (Same.new (o := .lst [.int 0, .int d1, .int (40 - (10 : Int) ^ (31 : Int).toNat)]) nch _ _ (k10 _ _ dne odue))
      have e1 := ((e1.kp rs9 k10).same (Same.new (o := .lst [.int 0, .int d1, .int (40 - (10 : Int) ^ (31 : Int).toNat)]) nch)).kp rs11 k11
      have e2 := ((e2.kp rs9 k10).same (Same.new (o := .lst [.int 0, .int d1, .int (40 - (10 : Int) ^ (31 : Int).toNat)]) nch)).kp rs11 k11
      have pick : ∃ (k : Int), atI [V.int 0, V.int d1, V.int (40 - (10 : Int) ^ (31 : Int).toNat)] d2 = some (.int k) := by
        have three : d2 = 0 ∨ d2 = 1 ∨ d2 = 2 := by omega
        rcases three with rfl | rfl | rfl
        · exact ⟨_, atI_nat (j := 0) rfl⟩
        · exact ⟨_, atI_nat (j := 1) rfl⟩
        · exact ⟨_, atI_nat (j := 2) rfl⟩
      obtain ⟨k, pk⟩ := pick
      refine ⟨ch, _, d2, _, rfl, rfl, lch, pk, ?_⟩
      -- first, last
      refine ⟨_, rfl, _, rfl, v1, r1, k, rfl, e1, fun w1 H12 sm12 x1 => ?_⟩
      refine ⟨_, rfl, _, rfl, v2, r2, k, rfl, e2.same sm12, fun w2 H13 sm13 x2 => ?_⟩
      have x1 := x1.same sm13
      refine ⟨_, _, rfl, ?_⟩
      have odue := sm13 _ _ (sm12 _ _ odue)
      have rs13 := (rs12.same sm12).same sm13
      have g1 := fit_far (k := k) f1
      have g2 := fit_far (k := k) f2
      -- told
      refine ⟨_, rfl, _, rfl, w1, w2, _, _, rfl, x1, x2, g1, g2, fun H14 sm14 => ?_⟩
      refine ⟨_, rfl, _, rfl, w1, w2, _, _, rfl, x1.same sm14, x2.same sm14, g1, g2, fun H15 sm15 => ?_⟩
      refine ⟨by show 2 ≤ sizeLine; decide, fun told ntold => ?_⟩
      rw [far_some, far_due]
      have otold : upd H15 told (.lst [.bl (comR r1 r2).isSome, .bl (decide (comR r1 r2 = r1))]) told = some (.lst [.bl (comR r1 r2).isSome, .bl (decide (comR r1 r2 = r1))]) := upd_same
      have sm16 := (sm14.trans sm15).trans (Same.new (o := .lst [.bl (comR r1 r2).isSome, .bl (decide (comR r1 r2 = r1))]) ntold)
      generalize upd H15 told (.lst [.bl (comR r1 r2).isSome, .bl (decide (comR r1 r2 = r1))]) = H16 at sm16 otold
      -- named
      refine ⟨_, rfl, _, rfl, rfl, rfl, w1, w2, _, _, rfl, x1.same sm16, x2.same sm16, g1, g2, fun H17 sm17 => ?_⟩
      refine ⟨_, rfl, _, rfl, rfl, rfl, w1, w2, _, _, rfl, (x1.same sm16).same sm17, (x2.same sm16).same sm17, g1, g2, fun H18 sm18 => ?_⟩
      refine ⟨by show 2 ≤ sizeLine; decide, fun nam nnam => ?_⟩
      rw [far_some, far_due]
      have onam : upd H18 nam (.lst [.bl (comR r1 r2).isSome, .bl (decide (comR r1 r2 = r1))]) nam = some (.lst [.bl (comR r1 r2).isSome, .bl (decide (comR r1 r2 = r1))]) := upd_same
      have sm19 := (sm17.trans sm18).trans (Same.new (o := .lst [.bl (comR r1 r2).isSome, .bl (decide (comR r1 r2 = r1))]) nnam)
      generalize upd H18 nam (.lst [.bl (comR r1 r2).isSome, .bl (decide (comR r1 r2 = r1))]) = H19 at sm19 onam
      -- the two texts
      refine ⟨_, rfl, _, rfl, _, rfl, _, rfl, w2, w1, _, _, rfl, (x2.same sm16).same sm19, (x1.same sm16).same sm19, g2, g1, fun H20 sm20 => ?_⟩
      refine ⟨by show 3 ≤ sizeLine; decide, fun p nP => ?_⟩
      rw [far_some, com_comm r2 r1]
      have otold := Same.new (o := .lst [.ref told, .ref nam, .bl (comR r1 r2).isSome]) nP _ _ (sm20 _ _ (sm19 _ _ otold))
      have onam := Same.new (o := .lst [.ref told, .ref nam, .bl (comR r1 r2).isSome]) nP _ _ (sm20 _ _ onam)
      have odue := Same.new (o := .lst [.ref told, .ref nam, .bl (comR r1 r2).isSome]) nP _ _ (sm20 _ _ (sm19 _ _ (sm16 _ _ odue)))
      refine ⟨_, allD (comR r1 r2).isSome (decide (comR r1 r2 = r1)), 20, 10, rfl, ?_, allD_ok _ _, by decide, by decide, ⟨_, rfl⟩, ?_⟩
      · exact .lst (.inl (.inl upd_same)) (.cons (dp_due (.inl (.inl otold))) (.cons (dp_due (.inl (.inl onam))) (.cons (.bl _) .nil)))
      have smp := sm20.trans (Same.new (o := .lst [.ref told, .ref nam, .bl (comR r1 r2).isSome]) nP)
      generalize upd H20 p (.lst [.ref told, .ref nam, .bl (comR r1 r2).isSome]) = H21 at smp otold onam odue
      refine ⟨_, rfl, _, rfl, _, rfl, due, _, 0, _, rfl, rfl, .inl (.inl odue), atI_nat (j := 0) rfl, by show 3 ≤ sizeLine; decide, fun p2 nP2 => ?_⟩
      have odue := Same.new (o := .lst [.ref due, .ref due, .bl (comR r1 r2).isSome]) nP2 _ _ odue
      refine ⟨_, allD (comR r1 r2).isSome (decide (comR r1 r2 = r1)), 20, 10, rfl, ?_, allD_ok _ _, by decide, by decide, ⟨_, rfl⟩, ?_⟩
      · exact .lst (.inl (.inl upd_same)) (.cons (dp_due (.inl (.inl odue))) (.cons (dp_due (.inl (.inl odue))) (.cons (.bl _) .nil)))
      refine ⟨rfl, _, rfl, iteNS rfl ?_⟩
      have smf := ((sm16.trans sm19).trans smp).trans (Same.new (o := .lst [.ref due, .ref due, .bl (comR r1 r2).isSome]) nP2)
      exact ⟨(rs13.same smf).mono (by omega), _, _, _, _, _, _, _, _, _, _, rfl⟩
    · intro σ H2 hw
      obtain ⟨rs2, y2, y3, y4, y5, y6, y7, y8, y9, y10, y11, rfl⟩ := hw
      refine ⟨by show 2 ≤ sizeLine; decide, fun p1 n1 => ?_⟩
      refine ⟨by show 2 ≤ sizeLine; decide, fun p2 n2 => ?_⟩
      refine ⟨_, _, some (some 0, some 5), some (some 5, none), rfl, ⟨p1, rfl, SqT.same (Same.new n2) (.inl (.inl upd_same))⟩, ⟨p2, rfl, .inl (.inl upd_same)⟩, by show (0 : Int) ≤ 5; decide, trivial, fun H3 _ => ?_⟩
      refine ⟨by show 2 ≤ sizeLine; decide, fun p3 n3 => ?_⟩
      refine ⟨_, _, none, some (none, none), rfl, rfl, ⟨p3, rfl, .inl (.inl upd_same)⟩, trivial, trivial, fun H4 _ => ?_⟩
      refine ⟨_, _, none, none, rfl, rfl, rfl, trivial, trivial, fun H5 _ => ?_⟩
      refine ⟨by show 3 ≤ sizeLine; decide, fun p4 n4 => ?_⟩
      refine ⟨by show 3 ≤ sizeLine; decide, fun p5 n5 => ?_⟩
      refine ⟨.list [.bool true, .bool false, .bool true], .list [.bool true, .bool false, .bool true], ?_, ?_, by decide, by decide, ?_⟩
      · exact .lst (.inl (.inl (Same.new n5 _ _ upd_same))) (.cons (.bl _) (.cons (.bl _) (.cons (.bl _) .nil)))
      · exact .lst (.inl (.inl upd_same)) (.cons (.bl _) (.cons (.bl _) (.cons (.bl _) .nil)))
      · exact q _
end

end Pk01
namespace Pk01
open PySem PySem.Spec PyProof.Rows L2 Gd
set_option maxHeartbeats 8000000
theorem kw_lies_within_other_one {K : PySem.W.Frag} : KwTo K "lies_within" s_lies_within ["one", "other"] ["other", "one"] 0 gk_lies_within_other_one := by
  refine ⟨fun {vs zs us ws} l1 l2 r1 r2 => ?_, fun f fd F => kb_of0 0 F gk_lies_within_other_one ?_⟩
  · match vs, zs, us, ws, l1, l2, r1, r2 with
    | [], [_, _], [], [_, _], _, _, .nil, .cons c0 (.cons c1 .nil) => exact .cons c1 (.cons c0 .nil)
  · intro kV doc pm an cdv ct us ws l1 l2
    match us, ws, l1, l2 with
    | [], [_, _], _, _ => rfl
theorem kw_meets_other_one {K : PySem.W.Frag} : KwTo K "meets" s_meets ["one", "other"] ["other", "one"] 0 gk_meets_other_one := by
  refine ⟨fun {vs zs us ws} l1 l2 r1 r2 => ?_, fun f fd F => kb_of0 0 F gk_meets_other_one ?_⟩
  · match vs, zs, us, ws, l1, l2, r1, r2 with
    | [], [_, _], [], [_, _], _, _, .nil, .cons c0 (.cons c1 .nil) => exact .cons c1 (.cons c0 .nil)
  · intro kV doc pm an cdv ct us ws l1 l2
    match us, ws, l1, l2 with
    | [], [_, _], _, _ => rfl
variable {P : Program} {w : World} {K : PySem.W.Frag} {mg : Str → Option Value}
theorem at_mk {x : Str} {st : Stmt} {ps : List Str} {h : Heap} {f : Addr} {oc : Value} {od an : Option Addr} {sl : Array (Option Value)} {kV dc pm cd ct : Value} (X : K.In h) (G : h.Ns mainGlobals mg) (a : PySem.W.nsIn K mainGlobals x = some (some (.ref f))) (l : K.lookup f = some ⟨oc, od, .func (PySem.W.fnOf x x (defArgs st) (defBody st) (defScope st) .none kV dc pm an cd ct), sl⟩) (c : PySem.W.codeIn K cd x = true) (k : PySem.W.keepIn K (.ref f) = true)
    (b : ∀ (kV doc pm : Value) (an : Option Addr) (cdv ct : Value) (us : List Value), us.length = ps.length → bindArgs (PySem.W.fnOf x x (defArgs st) (defBody st) (defScope st) .none kV doc pm an cdv ct) ⟨us, []⟩ = pure (ps.zip us)) : At K mg x st ps :=
  ⟨f, _, fun_mk l c k, (fun_mk l c k).binds b, PySem.W.mg_of X G a⟩
theorem all_mk {l : PySem.W.OpenLaw} {h : Heap} {fa : Addr} (X : K.In h) (G : h.Ns mainGlobals mg) (hfa : mg "law" = some (.ref fa))
    {f0 f1 f2 f3 f4 f5 f6 f7 f8 f9 f10 f11 f12 f13 : Addr} {od0 an0 od1 an1 od2 an2 od3 an3 od4 an4 od5 an5 od6 an6 od7 an7 od8 an8 od9 an9 od10 an10 od11 an11 od12 an12 od13 an13 : Option Addr} {sl0 sl1 sl2 sl3 sl4 sl5 sl6 sl7 sl8 sl9 sl10 sl11 sl12 sl13 : Array (Option Value)} {oc0 kV0 dc0 pm0 cd0 ct0 oc1 kV1 dc1 pm1 cd1 ct1 oc2 kV2 dc2 pm2 cd2 ct2 oc3 kV3 dc3 pm3 cd3 ct3 oc4 kV4 dc4 pm4 cd4 ct4 oc5 kV5 dc5 pm5 cd5 ct5 oc6 kV6 dc6 pm6 cd6 ct6 oc7 kV7 dc7 pm7 cd7 ct7 oc8 kV8 dc8 pm8 cd8 ct8 oc9 kV9 dc9 pm9 cd9 ct9 oc10 kV10 dc10 pm10 cd10 ct10 oc11 kV11 dc11 pm11 cd11 ct11 oc12 kV12 dc12 pm12 cd12 ct12 oc13 kV13 dc13 pm13 cd13 ct13 : Value}

    (a0 : PySem.W.nsIn K mainGlobals "is_upside_down" = some (some (.ref f0))) (l0 : K.lookup f0 = some ⟨oc0, od0, .func (PySem.W.fnOf "is_upside_down" "is_upside_down" (defArgs s_is_upside_down) (defBody s_is_upside_down) (defScope s_is_upside_down) .none kV0 dc0 pm0 an0 cd0 ct0), sl0⟩) (c0 : PySem.W.codeIn K cd0 "is_upside_down" = true) (k0 : PySem.W.keepIn K (.ref f0) = true)
    (a1 : PySem.W.nsIn K mainGlobals "check_range" = some (some (.ref f1))) (l1 : K.lookup f1 = some ⟨oc1, od1, .func (PySem.W.fnOf "check_range" "check_range" (defArgs s_check_range) (defBody s_check_range) (defScope s_check_range) .none kV1 dc1 pm1 an1 cd1 ct1), sl1⟩) (c1 : PySem.W.codeIn K cd1 "check_range" = true) (k1 : PySem.W.keepIn K (.ref f1) = true)
    (a2 : PySem.W.nsIn K mainGlobals "_least" = some (some (.ref f2))) (l2 : K.lookup f2 = some ⟨oc2, od2, .func (PySem.W.fnOf "_least" "_least" (defArgs s__least) (defBody s__least) (defScope s__least) .none kV2 dc2 pm2 an2 cd2 ct2), sl2⟩) (c2 : PySem.W.codeIn K cd2 "_least" = true) (k2 : PySem.W.keepIn K (.ref f2) = true)
    (a3 : PySem.W.nsIn K mainGlobals "_greatest" = some (some (.ref f3))) (l3 : K.lookup f3 = some ⟨oc3, od3, .func (PySem.W.fnOf "_greatest" "_greatest" (defArgs s__greatest) (defBody s__greatest) (defScope s__greatest) .none kV3 dc3 pm3 an3 cd3 ct3), sl3⟩) (c3 : PySem.W.codeIn K cd3 "_greatest" = true) (k3 : PySem.W.keepIn K (.ref f3) = true)
    (a4 : PySem.W.nsIn K mainGlobals "common" = some (some (.ref f4))) (l4 : K.lookup f4 = some ⟨oc4, od4, .func (PySem.W.fnOf "common" "common" (defArgs s_common) (defBody s_common) (defScope s_common) .none kV4 dc4 pm4 an4 cd4 ct4), sl4⟩) (c4 : PySem.W.codeIn K cd4 "common" = true) (k4 : PySem.W.keepIn K (.ref f4) = true)
    (a5 : PySem.W.nsIn K mainGlobals "meets" = some (some (.ref f5))) (l5 : K.lookup f5 = some ⟨oc5, od5, .func (PySem.W.fnOf "meets" "meets" (defArgs s_meets) (defBody s_meets) (defScope s_meets) .none kV5 dc5 pm5 an5 cd5 ct5), sl5⟩) (c5 : PySem.W.codeIn K cd5 "meets" = true) (k5 : PySem.W.keepIn K (.ref f5) = true)
    (a6 : PySem.W.nsIn K mainGlobals "lies_within" = some (some (.ref f6))) (l6 : K.lookup f6 = some ⟨oc6, od6, .func (PySem.W.fnOf "lies_within" "lies_within" (defArgs s_lies_within) (defBody s_lies_within) (defScope s_lies_within) .none kV6 dc6 pm6 an6 cd6 ct6), sl6⟩) (c6 : PySem.W.codeIn K cd6 "lies_within" = true) (k6 : PySem.W.keepIn K (.ref f6) = true)
    (a7 : PySem.W.nsIn K mainGlobals "_law_draw" = some (some (.ref f7))) (l7 : K.lookup f7 = some ⟨oc7, od7, .func (PySem.W.fnOf "_law_draw" "_law_draw" (defArgs s__law_draw) (defBody s__law_draw) (defScope s__law_draw) .none kV7 dc7 pm7 an7 cd7 ct7), sl7⟩) (c7 : PySem.W.codeIn K cd7 "_law_draw" = true) (k7 : PySem.W.keepIn K (.ref f7) = true)
    (a8 : PySem.W.nsIn K mainGlobals "_law_rng" = some (some (.ref f8))) (l8 : K.lookup f8 = some ⟨oc8, od8, .func (PySem.W.fnOf "_law_rng" "_law_rng" (defArgs s__law_rng) (defBody s__law_rng) (defScope s__law_rng) .none kV8 dc8 pm8 an8 cd8 ct8), sl8⟩) (c8 : PySem.W.codeIn K cd8 "_law_rng" = true) (k8 : PySem.W.keepIn K (.ref f8) = true)
    (a9 : PySem.W.nsIn K mainGlobals "_law_bound" = some (some (.ref f9))) (l9 : K.lookup f9 = some ⟨oc9, od9, .func (PySem.W.fnOf "_law_bound" "_law_bound" (defArgs s__law_bound) (defBody s__law_bound) (defScope s__law_bound) .none kV9 dc9 pm9 an9 cd9 ct9), sl9⟩) (c9 : PySem.W.codeIn K cd9 "_law_bound" = true) (k9 : PySem.W.keepIn K (.ref f9) = true)
    (a10 : PySem.W.nsIn K mainGlobals "_law_range" = some (some (.ref f10))) (l10 : K.lookup f10 = some ⟨oc10, od10, .func (PySem.W.fnOf "_law_range" "_law_range" (defArgs s__law_range) (defBody s__law_range) (defScope s__law_range) .none kV10 dc10 pm10 an10 cd10 ct10), sl10⟩) (c10 : PySem.W.codeIn K cd10 "_law_range" = true) (k10 : PySem.W.keepIn K (.ref f10) = true)
    (a11 : PySem.W.nsIn K mainGlobals "_law_listed" = some (some (.ref f11))) (l11 : K.lookup f11 = some ⟨oc11, od11, .func (PySem.W.fnOf "_law_listed" "_law_listed" (defArgs s__law_listed) (defBody s__law_listed) (defScope s__law_listed) .none kV11 dc11 pm11 an11 cd11 ct11), sl11⟩) (c11 : PySem.W.codeIn K cd11 "_law_listed" = true) (k11 : PySem.W.keepIn K (.ref f11) = true)
    (a12 : PySem.W.nsIn K mainGlobals "_law_far" = some (some (.ref f12))) (l12 : K.lookup f12 = some ⟨oc12, od12, .func (PySem.W.fnOf "_law_far" "_law_far" (defArgs s__law_far) (defBody s__law_far) (defScope s__law_far) .none kV12 dc12 pm12 an12 cd12 ct12), sl12⟩) (c12 : PySem.W.codeIn K cd12 "_law_far" = true) (k12 : PySem.W.keepIn K (.ref f12) = true)
    (a13 : PySem.W.nsIn K mainGlobals "law" = some (some (.ref f13))) (l13 : K.lookup f13 = some ⟨oc13, od13, .func (PySem.W.fnOf "law" "law" (defArgs s_law) (defBody s_law) (defScope s_law) .none kV13 dc13 pm13 an13 cd13 ct13), sl13⟩) (c13 : PySem.W.codeIn K cd13 "law" = true) (k13 : PySem.W.keepIn K (.ref f13) = true)
    (z0 : PySem.W.nsIn K mainGlobals "abs" = some none)
    (z1 : PySem.W.nsIn K mainGlobals "int" = some none)
    (z2 : PySem.W.nsIn K mainGlobals "len" = some none)
    (z3 : PySem.W.nsIn K mainGlobals "list" = some none)
    (z4 : PySem.W.nsIn K mainGlobals "max" = some none)
    (z5 : PySem.W.nsIn K mainGlobals "min" = some none)
    (z6 : PySem.W.nsIn K mainGlobals "range" = some none)
    (z7 : PySem.W.nsIn K mainGlobals "repr" = some none)
    (z8 : PySem.W.nsIn K mainGlobals "tuple" = some none)
    : ∃ fd : FuncData, (∀ (s : Shared) (v : Value), BindsTo s fd ⟨[v], []⟩ [("script", v)]) ∧ ∀ base : Heap, K.In base → base.Ns mainGlobals mg → FnGd l.prog w K mg base 5 fa fd ["script"] (sp_law K) := by
  have e := hfa.symm.trans (PySem.W.mg_of X G a13)
  cases e
  have A0 : At K mg "is_upside_down" s_is_upside_down ["one"] := at_mk X G a0 l0 c0 k0 fun _ _ _ _ _ _ us hl => match us, hl with | [_], _ => rfl
  have A1 : At K mg "check_range" s_check_range ["one"] := at_mk X G a1 l1 c1 k1 fun _ _ _ _ _ _ us hl => match us, hl with | [_], _ => rfl
  have A2 : At K mg "_least" s__least ["one", "other"] := at_mk X G a2 l2 c2 k2 fun _ _ _ _ _ _ us hl => match us, hl with | [_, _], _ => rfl
  have A3 : At K mg "_greatest" s__greatest ["one", "other"] := at_mk X G a3 l3 c3 k3 fun _ _ _ _ _ _ us hl => match us, hl with | [_, _], _ => rfl
  have A4 : At K mg "common" s_common ["one", "other"] := at_mk X G a4 l4 c4 k4 fun _ _ _ _ _ _ us hl => match us, hl with | [_, _], _ => rfl
  have A5 : At K mg "meets" s_meets ["one", "other"] := at_mk X G a5 l5 c5 k5 fun _ _ _ _ _ _ us hl => match us, hl with | [_, _], _ => rfl
  have A6 : At K mg "lies_within" s_lies_within ["one", "other"] := at_mk X G a6 l6 c6 k6 fun _ _ _ _ _ _ us hl => match us, hl with | [_, _], _ => rfl
  have A7 : At K mg "_law_draw" s__law_draw ["rng", "limit"] := at_mk X G a7 l7 c7 k7 fun _ _ _ _ _ _ us hl => match us, hl with | [_, _], _ => rfl
  have A8 : At K mg "_law_rng" s__law_rng ["script"] := at_mk X G a8 l8 c8 k8 fun _ _ _ _ _ _ us hl => match us, hl with | [_], _ => rfl
  have A9 : At K mg "_law_bound" s__law_bound ["rng", "most"] := at_mk X G a9 l9 c9 k9 fun _ _ _ _ _ _ us hl => match us, hl with | [_, _], _ => rfl
  have A10 : At K mg "_law_range" s__law_range ["rng", "most"] := at_mk X G a10 l10 c10 k10 fun _ _ _ _ _ _ us hl => match us, hl with | [_, _], _ => rfl
  have A11 : At K mg "_law_listed" s__law_listed ["given"] := at_mk X G a11 l11 c11 k11 fun _ _ _ _ _ _ us hl => match us, hl with | [_], _ => rfl
  have A12 : At K mg "_law_far" s__law_far ["given", "shift"] := at_mk X G a12 l12 c12 k12 fun _ _ _ _ _ _ us hl => match us, hl with | [_, _], _ => rfl
  have A13 : At K mg "law" s_law ["script"] := at_mk X G a13 l13 c13 k13 fun _ _ _ _ _ _ us hl => match us, hl with | [_], _ => rfl
  refine ⟨PySem.W.fnOf "law" "law" (defArgs s_law) (defBody s_law) (defScope s_law) .none kV13 dc13 pm13 an13 cd13 ct13, fun s v => .of_eq rfl, fun base _ _ => ?_⟩
  have m_abs := PySem.W.mg_none_of X G z0
  have m_int := PySem.W.mg_none_of X G z1
  have m_len := PySem.W.mg_none_of X G z2
  have m_list := PySem.W.mg_none_of X G z3
  have m_max := PySem.W.mg_none_of X G z4
  have m_min := PySem.W.mg_none_of X G z5
  have m_range := PySem.W.mg_none_of X G z6
  have m_repr := PySem.W.mg_none_of X G z7
  have m_tuple := PySem.W.mg_none_of X G z8
  have D__law_draw := ok__law_draw (P := l.prog) (w := w) (mg := mg) (base := base) A7 m_int
  have D__law_far := ok__law_far (P := l.prog) (w := w) (mg := mg) (base := base) A12 m_tuple
  have D__law_listed := ok__law_listed (P := l.prog) (w := w) (mg := mg) (base := base) A11 m_list m_range
  have D__law_bound := ok__law_bound (P := l.prog) (w := w) (mg := mg) (base := base) A9 D__law_draw
  have D__law_range := ok__law_range (P := l.prog) (w := w) (mg := mg) (base := base) A10 D__law_bound D__law_draw
  have D__law_rng := ok__law_rng (P := l.prog) (w := w) (mg := mg) (base := base) A8 m_abs m_int
  have D__greatest := ok__greatest (P := l.prog) (w := w) (mg := mg) (base := base) A3 m_max
  have D__least := ok__least (P := l.prog) (w := w) (mg := mg) (base := base) A2 m_min
  have D_is_upside_down := ok_is_upside_down (P := l.prog) (w := w) (mg := mg) (base := base) A0
  have D_check_range := ok_check_range (P := l.prog) (w := w) (mg := mg) (base := base) A1 D_is_upside_down
  have D_common := ok_common (P := l.prog) (w := w) (mg := mg) (base := base) A4 D__greatest D__least D_check_range D_is_upside_down
  have D_lies_within := ok_lies_within (P := l.prog) (w := w) (mg := mg) (base := base) A6 D_common
  have D_meets := ok_meets (P := l.prog) (w := w) (mg := mg) (base := base) A5 D_common
  have D_law := ok_law (P := l.prog) (w := w) (mg := mg) (base := base) A13 D__law_draw D__law_far D__law_listed D__law_range D__law_rng D_lies_within D_meets kw_lies_within_other_one kw_meets_other_one m_len m_min m_range m_repr
  obtain ⟨f, fd, F, _, g, ok⟩ := D_law.ex
  have e2 := (PySem.W.mg_of X G a13).symm.trans g
  cases e2
  obtain ⟨oc, od, kV, doc, pm, an, cdv, ct, osl, rfl, lk, _⟩ := F.ex
  rw [l13] at lk
  cases lk
  exact ok
end Pk01
open PySem PySem.W PyProof.Rows
set_option maxHeartbeats 0 in
theorem PySem.Challenge.cw_tightranges_k01_ranges_that_meet_holds : PySem.Challenge.rw_tightranges_k01_ranges_that_meet.Holds := by
  w_on; o_law; k_head; (case hw => w_witness2)
  k_fill
  refine Gd.walkG (l := PySem.Challenge.rw_tightranges_k01_ranges_that_meet) (n := 63) (k := 5) (x := "script") (sp := fun w => Pk01.sp_law _) rfl (by decide) rfl ⟨rfl, by decide, by decide⟩ (fun w h Y => PySem.W.kIn_of Y) ?F (fun _ _ a ns hl _ hS => ⟨a, ns, rfl, hS, hl, fun _ => rfl⟩)
  case F =>
    intro w mg fa h KX G hmg
    refine' Pk01.all_mk KX G hmg ?a0 ?l0 ?c0 ?k0 ?a1 ?l1 ?c1 ?k1 ?a2 ?l2 ?c2 ?k2 ?a3 ?l3 ?c3 ?k3 ?a4 ?l4 ?c4 ?k4 ?a5 ?l5 ?c5 ?k5 ?a6 ?l6 ?c6 ?k6 ?a7 ?l7 ?c7 ?k7 ?a8 ?l8 ?c8 ?k8 ?a9 ?l9 ?c9 ?k9 ?a10 ?l10 ?c10 ?k10 ?a11 ?l11 ?c11 ?k11 ?a12 ?l12 ?c12 ?k12 ?a13 ?l13 ?c13 ?k13 ?z0 ?z1 ?z2 ?z3 ?z4 ?z5 ?z6 ?z7 ?z8
    (case a0 => k_is); (case l0 => k_is); (case c0 => k_is); (case k0 => k_is); (case a1 => k_is); (case l1 => k_is); (case c1 => k_is); (case k1 => k_is); (case a2 => k_is); (case l2 => k_is); (case c2 => k_is); (case k2 => k_is); (case a3 => k_is); (case l3 => k_is); (case c3 => k_is); (case k3 => k_is); (case a4 => k_is); (case l4 => k_is); (case c4 => k_is); (case k4 => k_is); (case a5 => k_is); (case l5 => k_is); (case c5 => k_is); (case k5 => k_is); (case a6 => k_is); (case l6 => k_is); (case c6 => k_is); (case k6 => k_is); (case a7 => k_is); (case l7 => k_is); (case c7 => k_is); (case k7 => k_is); (case a8 => k_is); (case l8 => k_is); (case c8 => k_is); (case k8 => k_is); (case a9 => k_is); (case l9 => k_is); (case c9 => k_is); (case k9 => k_is); (case a10 => k_is); (case l10 => k_is); (case c10 => k_is); (case k10 => k_is); (case a11 => k_is); (case l11 => k_is); (case c11 => k_is); (case k11 => k_is); (case a12 => k_is); (case l12 => k_is); (case c12 => k_is); (case k12 => k_is); (case a13 => k_is); (case l13 => k_is); (case c13 => k_is); (case k13 => k_is); (case z0 => k_is); (case z1 => k_is); (case z2 => k_is); (case z3 => k_is); (case z4 => k_is); (case z5 => k_is); (case z6 => k_is); (case z7 => k_is); (case z8 => k_is)

import PyProof.Rows.All
import Wide.All
import OpenK.AllK
import Wide.FinOn
import HandS.ForMost
import HandS.TupMul
import HandS.TupAny
import HandS.SetFor
import HandS.Walk
import HandS.EndBits
import KE.GoesEnum
import PyProof.ReprRoads
import HandS.Zip
import HandS.NoneIn
import HandS.IsInst
import HandS.Strs
import HandS.Conv
import PyProof.ListNew
import PySem.Challenge.RW_pressrelease_k32_resets_told
set_option Elab.async false
set_option linter.all false
set_option maxRecDepth 100000
set_option maxHeartbeats 4000000
/-! A layer for laws that ask repr: a def's promise that also knows that no repr is under way. -/
namespace Pr
open PySem PySem.Spec PyProof.Rows L2

/-! ### promises of defs that may ask repr -/
structure FnG (P : Program) (w : World) (K : PySem.W.Frag) (mg : Str → Option Value) (base : Heap) (k : Nat) (f : Addr) (fd : FuncData) (ps : List Str) (sp : Sp) : Prop where
  len : ∀ vs H Q E, sp vs H Q E → vs.length = ps.length
  go : ∀ (A : Around) (outer : List Env) (s : Shared) (H : Hp) (args : Args) (us : List Value) (vs : List V) (Q : VK) (E : XK), A.guards = some [] → Room k A →
    Env0 P w K mg base A outer s H → BindsTo s fd args (ps.zip us) → Vals vs us → sp vs H Q E →
    codeAny (model P w) A (.call (.ref f) args) (CR CX0 outer P w H s Q E) s

section
variable {P : Program} {w : World} {K : PySem.W.Frag} {mg : Str → Option Value} {base : Heap}
theorem FnG.of {k : Nat} {f : Addr} {fd : FuncData} {ps : List Str} {sp : Sp} (F : FnOk P w K mg base CX0 k f fd ps sp) : FnG P w K mg base k f fd ps sp :=
  ⟨F.len, fun A outer s H args us vs Q E _ hr => F.run A outer s H args us vs Q E hr⟩

/-- a def by its body, where no repr is under way -/
theorem okG {x qual : Str} {st : Stmt} {f : Addr} {fd : FuncData} {N ps : List Str} {k : Nat} {sp : Sp} (F : Fun K x qual st f fd) (S : FnScope N ps (defScope st))
    (len : ∀ vs H Q E, sp vs H Q E → vs.length = ps.length)
    (body : ∀ (cdv : Value) (A : Around) (outer : List Env) (s : Shared) (H : Hp) (vs : List V) (Q : VK) (E : XK), A.guards = some [] →
      Room k (A.deeper (envOfC qual (defScope st) s.heap.objs.size f cdv)) → sp vs H Q E →
      ∃ t, PSs (cxOf CX0 P w K mg base N qual (defScope st) f cdv A outer s H E).nox (defBody st) t ∧ t { nx := fun _ H' => Q .non H', rt := Q } (start N vs) H) :
    FnG P w K mg base (k + 1) f fd ps sp := by
  obtain ⟨oc, od, kV, doc, pm, an, cdv, ct, osl, rfl, lk, hcd⟩ := F.ex
  refine ⟨len, fun A outer s H args us vs Q E hg hr e0 hb r hsp => ?_⟩
  have hin : K.In s.heap := e0.mod.kin.keeps fun b o e => (e0.bs b o e).1
  have hlm : s.heap.NoLimit := e0.mod.nolimit.keeps fun b o e => (e0.bs b o e).1
  refine codeAny_call_function hr.depth (hin _ _ lk) rfl S.co S.gen rfl (PySem.W.codeRec_of hin hcd) (hb _ _ _ _ ?_)
  refine wpAny_newFunctionEnv_cells S.kind (fun ⟨n, v⟩ hy => ?_) fun env he s1 x => ?_
  · rcases S.par n (List.of_mem_zip hy).1 with q | q
    · exact .inl q
    · exact .inr ⟨q, PySem.W.cellsFrom_some _ _ _ (.inl q)⟩
  · subst he
    refine ⟨hlm.keeps x.toInCall.keep, codeAny_func ?_⟩
    obtain ⟨t, ht, hq⟩ := body cdv A outer s H vs Q E hg (hr.deeper _) hsp
    have I := inv_start (CX := CX0) (E := E) S hr.hd e0 (len _ _ _ _ hsp) r x
    refine wpAny_mono (ht.nox.run [] s1 (start N vs) H _ I hq) (fun fl s' hs => ?_) fun e s' hs => hs
    cases fl with
    | ret u => obtain ⟨v, σ', H', J, rv, q⟩ := hs; exact ⟨v, H', J.os, J.bare, J.base, J.hok, rv, q⟩
    | next => obtain ⟨σ', H', J, q⟩ := hs; exact ⟨V.non, H', J.os, J.bare, J.base, J.hok, rfl, q⟩
    | brk => obtain ⟨_, _, _, q⟩ := hs; exact q.elim
    | cont => obtain ⟨_, _, _, q⟩ := hs; exact q.elim
end

section
variable {X : Cx} {k : Nat} {f : Addr} {fd : FuncData} {ps : List Str} {sp : Sp} {x : Str} {p pos : Pos} {e : Expr} {es : List Expr} {t : TA}
/-- f(e, ..) of such a def -/
theorem pe_callG (F : FnG X.prog X.w X.K X.mg X.base k f fd ps sp) (gd : X.A.guards = some []) (hr : Room k X.A) (hg : Gl X x) (hm : X.mg x = some (.ref f)) (hk : PySem.W.keepIn X.K (.ref f) = true) (hb : Binds X.K fd ps [])
    (ha : PA X (e :: es) t) (hdb : (x == ("__debug__" : Str)) = false := by decide) (he : starEach (e :: es) X.env = (false, eval e X.env) :: starEach es X.env := by rfl)
    (hpl : (backTo pos (starEach es X.env)).any (·.1) = false := by rfl) : PE X (.Call (.Name x p) (e :: es) [] pos) (tCall sp [] E0 t) := by
  refine ⟨fun pins s σ H Q I h => wpAny_Call_Name_kw (ld_glob I hg hm ?_ hdb)⟩
  refine PySem.W.callWith_K (h₀ := X.base) I.ok.mod.kin hk (thn (ha.run pos pins s σ H _ I h) fun us s1 ⟨vs, H1, I1, r, q⟩ => ⟨I1.kIn, ?_⟩) he hpl
  have q1 : sp vs H1 Q E0 := by
    have q0 : sp (vs ++ []) H1 Q E0 := q
    rwa [List.append_nil] at q0
  have hl : us.length = ps.length := by rw [← r.length]; exact F.len _ _ _ _ q1
  have hb1 : BindsTo s1 fd ⟨us, []⟩ (ps.zip us) := by
    have := hb s1 us I1.kIn (by rw [List.append_nil]; exact hl)
    rwa [List.append_nil] at this
  refine wpAny_call (codeAny_mono (F.go X.A X.stack s1 H1 ⟨us, []⟩ us vs Q E0 gd hr I1.env0 hb1 r q1) fun r' s' hq => ?_)
  cases r' with
  | error e' => exact hq.elim
  | ok fl =>
    cases fl with
    | ret u => exact I1.after hq
    | next => exact hq.elim
    | brk => exact hq.elim
    | cont => exact hq.elim
end

/-! ### repr of data that holds no dict -/
def rRepr (K : PySem.W.Frag) : List V → Hp → VK → Prop := fun xs H Q => ∃ (a : Addr) (d : PyData), xs = [.ref a] ∧ Dp K H (.ref a) d ∧ d.showable = true ∧ d.hasDict = false ∧ d.depth ≤ 60 ∧ d.shown.length ≤ sizeLine ∧ Q (.str d.shown) H
theorem call_repr {X : Cx} {k : Nat} (gd : X.A.guards = some []) (hr : Room k X.A) : CallR X (.builtin "repr") (rRepr X.K) := by
  intro pins s σ H xs us Q I rv h
  obtain ⟨a, d, rfl, hd, hs, hn, hdep, hz, q⟩ := h
  obtain ⟨u, rfl, rx⟩ := vals1 rv
  cases rx
  obtain ⟨as, r⟩ := Dp.reads I d _ _ hd rfl
  exact repr_of_reads' r hs (PyData.noDict_hsm hn) gd (by have := hr.un; omega) (fun _ _ e => e) (fun h' t tk hk => ⟨.str d.shown, H, I.kept hk, ⟨t, rfl⟩, q⟩) hz

/-! ### the law's own call -/
theorem lawG {P : Program} {w : World} {K : PySem.W.Frag} {mg mb : Str → Option Value} {k : Nat} {fa a : Addr} {fd : FuncData} {x : Str} {sp : Sp} {s1 : Shared} {vs : List Value} {ns : List Int}
    (kin : K.In s1.heap) (nsg : s1.heap.Ns mainGlobals mg) (nsb : s1.heap.Ns builtinsNs mb) (bb : ∀ y : Str, y ≠ "__name__" → mb y = bootBuiltins y) (lim : s1.heap.NoLimit) (g0 : s1.gens = #[])
    (la : s1.heap.get? a = some { cls := .type "list", data := .seq vs.toArray }) (hints : IntsAre vs ns) (few : ns.length ≤ sizeLine) (rm : Room k callerA)
    (F : ∀ base : Heap, K.In base → base.Ns mainGlobals mg → FnG P w K mg base k fa fd [x] sp) (bd : ∀ (s : Shared) (u : Value), BindsTo s fd ⟨[u], []⟩ [(x, u)])
    (wish : ∀ H : Hp, Only H → SqL K H a (ns.map V.int) → sp [.ref a] H (fun v _ => v = .bl true) E0) :
    codeAny (model P w) callerA (.call (.ref fa) ⟨[.ref a], []⟩) (fun r s' => r = .ok (.ret (.bool true)) ∧ OldK s1.heap s'.heap ∧ s'.os = s1.os ∧ AllBare s'.gens) s1 := by
  have rv := vals_ints hints
  have lv := hints.length
  have main : ∀ H : Hp, Only H → SqL K H a (ns.map V.int) → HOk P w H s1.heap → (∀ b, H b ≠ none → b = a) → (H a ≠ none → K.lookup a = none) →
      codeAny (model P w) callerA (.call (.ref fa) ⟨[.ref a], []⟩) (fun r s' => r = .ok (.ret (.bool true)) ∧ OldK s1.heap s'.heap ∧ s'.os = s1.os ∧ AllBare s'.gens) s1 := by
    intro H hO hS hok hA hK
    have out : ∀ {b : Addr} {o : Obj} {es : Array DictEntry} {ep : Nat}, s1.heap.get? b = some o → o.data = .dict es ep → H b = none := fun {b o es ep} e d => by
      cases q : H b with
      | none => rfl
      | some u =>
        obtain rfl : b = a := hA b (by rw [q]; simp)
        rw [la] at e; cases e
        exact nomatch (show Data.seq vs.toArray _ = Data.dict es ep from d)
    have nsH : ∀ {b : Addr} {m : Str → Option Value}, s1.heap.Ns b m → (hidT s1.heap H).Ns b m := fun {b m} ⟨o, es, ep, e, d, r⟩ => ⟨o, es, ep, hidT_get e (out e d), d, r⟩
    have kinH : K.In (hidT s1.heap H) := fun b o e => hidT_get (kin b o e) (by
      cases q : H b with
      | none => rfl
      | some u =>
        obtain rfl : b = a := hA b (by rw [q]; simp)
        rw [hK (by rw [q]; simp)] at e; cases e)
    have md : Mod K mg (hidT s1.heap H) := ⟨kinH, nsH nsg, ⟨mb, nsH nsb, bb⟩, let ⟨mc, h1, h2⟩ := lim; ⟨mc, nsH h1, h2⟩⟩
    have e0 : Env0 P w K mg (hidT s1.heap H) callerA [] s1 H :=
      ⟨rfl, md, fun b o e => of_hidT e, Nat.le_of_eq (hidT_size _ _), trivial, fun b hb => absurd (show b ∈ ([] : List Addr) from hb) (by simp), hok, .of_eq g0⟩
    refine codeAny_mono ((F _ kinH (nsH nsg)).go callerA [] s1 H ⟨[.ref a], []⟩ [.ref a] [.ref a] _ _ rfl rm e0 (bd s1 (.ref a)) (.cons rfl .nil) (wish H hO hS)) fun r s' h => ?_
    cases r with
    | error e => exact h.elim
    | ok fl =>
      cases fl with
      | next => exact h.elim
      | brk => exact h.elim
      | cont => exact h.elim
      | ret u =>
        obtain ⟨v, H', os, bare, un, hok', r', q⟩ := h
        obtain rfl : v = .bl true := q
        obtain rfl : u = Value.bool true := r'
        refine ⟨rfl, OldK.of_keep fun b o e => ?_, os, bare⟩
        rcases hO b with z | ⟨ob, xs, z⟩
        · exact un.keep b o e z (fun y => absurd (show b ∈ ([] : List Addr) from y) (by simp)) (by simp)
        · have e1 := (hok b _ z).1
          rw [e] at e1; cases e1
          exact (hok' b _ (un.frzs b o _ z)).1
  cases hk : K.lookup a with
  | some o =>
    have e := kin a o hk
    rw [la] at e
    cases e
    exact main (fun _ => none) (fun _ => .inl rfl) (.inr ⟨_, vs.toArray, _, hk, rfl, rfl, rfl, by rw [List.size_toArray, lv]; exact few, by simpa using rv⟩)
      (fun b u z => nomatch (show (none : Option HO) = some u from z)) (fun b z => absurd rfl z) fun z => absurd rfl z
  | none =>
    refine main (upd (fun _ => none) a (.frz { cls := .type "list", data := .seq vs.toArray } (.lst (ns.map V.int)))) (fun b => ?_) (.inl (.inr ⟨_, upd_same⟩)) (fun b u z => ?_) (fun b z => ?_) fun _ => hk
    · by_cases hb : b = a
      · subst hb; exact .inr ⟨_, _, upd_same⟩
      · exact .inl (upd_ne hb)
    · by_cases hb : b = a
      · subst hb
        rw [upd_same] at z
        cases z
        exact ⟨la, by rw [List.length_map]; exact few, vs, _, rv, la⟩
      · rw [upd_ne hb] at z; cases z
    · by_cases hb : b = a
      · exact hb
      · exact absurd (upd_ne hb) z

/-- the goal that k_head leaves, from the law's promise -/
theorem walkG {l : PySem.W.OpenLaw} {n k : Nat} {q : Program} {loose : List Str} {XP : (Str → Option Value) → Heap → Prop} {YP : World → Heap → Prop} {d : DefRec} {K : Params → PySem.W.Frag} {sp : PySem.W.Frag → Sp} {x : Str}
    (hn : l.most = some n) (hn2 : n ≤ sizeLine) (hdf : d.params.defaults = []) (hr : Room k callerA) (hY : ∀ (w : World) (h : Heap), YP w h → (K w.params).In h)
    (F : ∀ (w : World) (mg : Str → Option Value) (fa : Addr) (h : Heap), (K w.params).In h → h.Ns mainGlobals mg → mg d.name = some (.ref fa) →
      ∃ fd : FuncData, (∀ (s : Shared) (u : Value), BindsTo s fd ⟨[u], []⟩ [(x, u)]) ∧ ∀ base : Heap, (K w.params).In base → base.Ns mainGlobals mg → FnG l.prog w (K w.params) mg base k fa fd [x] (sp (K w.params)))
    (hsp : ∀ (K : PySem.W.Frag) (H : Hp) (a : Addr) (ns : List Int), ns.length ≤ n → (∀ z ∈ ns, Builtin.Int.intBits z ≤ 1048576) → Only H → SqL K H a (ns.map V.int) → sp K [.ref a] H (fun v _ => v = .bl true) E0) :
    PySem.W.WalkO q loose XP YP l.row.toRowW d [] (fun f vs => PySem.call f vs) := by
  refine Att.attach_callB hn hdf fun w s0 s1 mg mb fa o pm cd doc a vs ns G Y ho hd hcd hmg hobj hints hlen hbits hg => ?_
  obtain ⟨fd, hb, hF⟩ := F w mg fa _ (hY w _ Y) G.T.g hmg
  exact lawG (hY w _ Y) G.T.g G.T.b G.T.builtins G.T.nolimit hg hobj hints (Nat.le_trans hlen hn2) hr hF hb fun H hO hS => hsp (K w.params) H a ns hlen hbits hO hS
end Pr
namespace Pr
open PySem PySem.Spec PyProof.Rows L2

/-- a tuple of which it is known that it has no attributes of its own -/
def FT (H : Hp) (a : Addr) (xs : List V) : Prop := ∃ o : Obj, H a = some (.frz o (.tup xs)) ∧ o.dict = none
theorem FT.sq {K : PySem.W.Frag} {H : Hp} {a : Addr} {xs : List V} (h : FT H a xs) : SqT K H a xs := let ⟨o, e, _⟩ := h; .inl (.inr ⟨o, e⟩)
theorem FT.same {H H' : Hp} {a : Addr} {xs : List V} (e : Same H H') (h : FT H a xs) : FT H' a xs := let ⟨o, q, z⟩ := h; ⟨o, e _ _ q, z⟩
theorem same_sqT {K : PySem.W.Frag} {H H' : Hp} {a : Addr} {xs : List V} (e : Same H H') (h : SqT K H a xs) : SqT K H' a xs := by
  rcases h with (h | ⟨o, h⟩) | h
  · exact .inl (.inl (e _ _ h))
  · exact .inl (.inr ⟨o, e _ _ h⟩)
  · exact .inr h

section
variable {X : Cx}
/-! ### tuple(list), the tuple known -/
def rTupF (K : PySem.W.Frag) : List V → Hp → VK → Prop := fun xs H Q => ∃ p ys, xs = [.ref p] ∧ SqL K H p ys ∧ ∀ l o, H l = none → o.dict = none → Q (.ref l) (upd H l (.frz o (.tup ys)))
theorem call_tupF : CallR X (.type "tuple") (rTupF X.K) := by
  intro pins s σ H xs us Q I r h
  obtain ⟨p, ys, rfl, hq, q⟩ := h
  obtain ⟨u, rfl, rx⟩ := vals1 r
  cases rx
  obtain ⟨its, r', pl, hz⟩ := I.list hq
  have hlen := r'.length
  refine call_tuple_list pl.isList (fun h' kp => ?_) (by simp only [List.size_toArray] <;> omega)
  have I1 : Inv X pins σ H { s with heap := h' } := I.kept (t' := s.toks) kp
  have I2 := I1.laid (t' := s.toks) (h' := h'.push { cls := .type "tuple", data := .seq its.toArray }) (a := h'.objs.size)
    (o := .frz { cls := .type "tuple", data := .seq its.toArray } (.tup ys)) (fun b o e => Heap.get?_push_of_some _ e) (Nat.le_refl _) ⟨Heap.get?_push_size _ rfl, hz, its, r', IsTup.new _ _⟩
  exact ⟨.ref h'.objs.size, _, I2, rfl, q _ _ (I1.hok.fresh (Nat.le_refl _)) rfl⟩

/-! ### t.count(k) -/
def rCntT (K : PySem.W.Frag) : V → List V → Hp → VK → Prop := fun x xs H Q => ∃ (p : Addr) (ns : List Int) (k : Int), x = .ref p ∧ xs = [.int k] ∧ SqT K H p (ns.map V.int) ∧ Q (.int (ns.count k : Nat)) H
theorem mt_tcount : MtR X "tuple.count" (rCntT X.K) := by
  intro pins s σ H x xs v us Q I rx rxs h
  obtain ⟨p, ns, k, rfl, rfl, hs, q⟩ := h
  cases rx
  obtain ⟨u, rfl, t, rfl⟩ := rxs.one
  obtain ⟨its, rv, ⟨⟨cls, dd, data, sl⟩, ho, hc, n, hd⟩, hlen⟩ := I.tuple hs
  simp only at hc hd
  subst hc hd
  have hi := ints_of_vals rv
  refine call_meets PySem.F.slot_tuple_count ⟨_, ho, rfl⟩ PySem.F.entry_tuple_count (PySem.F.args_tuple_count_2 _ _)
    (SeqAt.tuple_countAt p its.toArray n dd sl (.int k t) (eqk k)) ⟨ho, fun y hy => (eqk_gives hi y (by simpa using hy)).at _ _, ?_⟩
  have ec : its.toArray.toList.countP (eqk k) = ns.count k := eqk_count hi
  rw [ec]
  exact ⟨.int (ns.count k : Nat), H, I.tok _, ⟨s.toks, rfl⟩, q⟩

/-- o.m(e, ..), o a tuple that is known -/
def tTM (r : V → List V → Hp → VK → Prop) (to : TE) (t : TA) : TE := fun σ H Q => to σ H fun x H1 => (∃ p xs, x = .ref p ∧ FT H1 p xs) ∧ t σ H1 fun vs H2 => r x vs H2 Q
theorem pe_tm {name : Str} {id : String} {r : V → List V → Hp → VK → Prop} {o e : Expr} {es : List Expr} {apos cpos : Pos} {to : TE} {t : TA} (slot : Slot "tuple" name id) (hty : typeOf (.builtin id) = pure (.type "method_descriptor")) (hm : MtR X id r) (ho : PE X o to) (ha : PA X (e :: es) t)
    (hbase : attributeBase o name X.env (eval o X.env) = eval o X.env := by rfl)
    (hfew : ((backTo cpos (starEach (e :: es) X.env)).all (fun x => !x.1) && (backToKw cpos (keywordEach [] X.env)).all (fun x => x.1.isSome) && decide ((e :: es).length + ([] : List Keyword).length + (if ([] : List Keyword).isEmpty then 0 else 1) < 30)) = true := by rfl)
    (hline : (apos.endLine == cpos.line) = true := by rfl) (hs : starEach (e :: es) X.env = (false, eval e X.env) :: starEach es X.env := by rfl)
    (hplain : (backTo cpos (starEach es X.env)).any (·.1) = false := by rfl) : PE X (.Call (.Attribute o name apos) (e :: es) [] cpos) (tTM r to t) := by
  refine ⟨fun pins s σ H Q I h => wpAny_Call_method_late hbase hfew hline rfl (thn (ho.run pins s σ H _ I h) fun v s1 ⟨x, H1, I1, r1, ⟨p, xs, ex, ob, hp, hdn⟩, q1⟩ => ?_)⟩
  subst ex
  cases r1
  obtain ⟨g1, _, its, _, ⟨o2, g2, hc, _⟩⟩ := I1.hok p _ hp
  rw [g1] at g2
  cases g2
  refine ⟨"tuple", id, PySem.F.plainAttrs_tuple, slot, hty, ⟨ob, g1, hc⟩, fun a e => by cases e; exact ⟨ob, g1, hdn⟩, ?_⟩
  have hA := ha.run cpos pins s1 σ H1 _ I1 q1
  rw [hs] at hA ⊢
  refine Calls.callWith_builtin (by show (false || (backTo cpos (starEach es X.env)).any (·.1)) = false; rw [hplain] <;> rfl) (Calls.evalArgs_plain ?_)
  exact thn hA fun us s2 ⟨vs, H2, I2, r2, q2⟩ => hm pins s2 σ H2 (.ref p) vs (.ref p) us Q I2 rfl r2 q2
end

/-! ### (x,) * 0 and (x,) * 1 -/
theorem tup_mul0 (l : Addr) (y : Value) (n : Nat) (dd : Option Addr) (sl : Array (Option Value)) (u : Tok) :
    Meets (Builtin.«tuple.__mul__» ⟨[.ref l, .int 0 u], []⟩) (fun _ R s => s.heap.get? l = some { cls := .type "tuple", dict := dd, data := .seq #[y] n, slots := sl } ∧
      R (.ok (.ret (Value.ref s.heap.objs.size))) { s with heap := s.heap.push { cls := Value.type "tuple", data := Data.seq #[] }, toks := s.toks }) :=
  .of_wp fun prog w A R s h => by
    obtain ⟨hp, g, d, tk, os⟩ := s
    obtain ⟨hl, h⟩ := h
    have f1 := AutoSeq1.idx_int
    wp_walk using AutoSeq1.wpAny_loadPart' hl
    exact ⟨_, rfl, h⟩
theorem tup_mul1 (l : Addr) (y : Value) (n : Nat) (dd : Option Addr) (sl : Array (Option Value)) (u : Tok) :
    Meets (Builtin.«tuple.__mul__» ⟨[.ref l, .int 1 u], []⟩) (fun _ R s => s.heap.get? l = some { cls := .type "tuple", dict := dd, data := .seq #[y] n, slots := sl } ∧ R (.ok (.ret (.ref l))) s) :=
  .of_wp fun prog w A R s h => by
    obtain ⟨hp, g, d, tk, os⟩ := s
    obtain ⟨hl, h⟩ := h
    have f1 := AutoSeq1.idx_int
    wp_walk using AutoSeq1.wpAny_loadPart' hl
    exact ⟨_, rfl, h⟩
section
variable {X : Cx}
def rRep1 (K : PySem.W.Frag) : R2 := fun x y H Q => ∃ l v, x = .ref l ∧ SqT K H l [v] ∧ ((y = .int 1 ∧ Q (.ref l) H) ∨ (y = .int 0 ∧ ∀ p, H p = none → Q (.ref p) (upd H p (.tup []))))
theorem op_rep1 : OpR X (binaryOp .Mult) (rRep1 X.K) := by
  intro pins s σ H x y v u Q I rx ry h
  obtain ⟨l, z, rfl, hT, h⟩ := h
  cases rx
  obtain ⟨its, r, ⟨⟨cls, dd, data, sl⟩, ho, hc, n, hd⟩, hs⟩ := I.tuple hT
  simp only at hc hd
  subst hc hd
  obtain ⟨a, rfl, ra⟩ := vals1 r
  rcases h with ⟨rfl, q⟩ | ⟨rfl, q⟩
  · obtain ⟨t, rfl⟩ := ry
    refine wpAny_binaryOp_repeat_ref (T := "tuple") (U := "int") (by decide) ⟨_, ho, rfl⟩ (fun s' => typeIs_int s' 1 t) noFill_tuple_mul F.fills_int_mul F.slot_int_rmul repeat_tuple F.slot_int_index.lookup
      (call_meets F.slot_int_rmul (typeIs_int s 1 t) F.entry_int_rmul (F.args_int_rmul_2 _ _) (int_rmul_tuple 1 t l #[a] n dd sl)
        ⟨ho, rfl, ⟨_, ho, rfl⟩, call_meets F.slot_tuple_mul ⟨_, ho, rfl⟩ F.entry_tuple_mul (F.args_tuple_mul_2 _ _) (tup_mul1 l a n dd sl t) ⟨ho, ?_⟩⟩)
    exact ⟨.ref l, H, I, rfl, q⟩
  · obtain ⟨t, rfl⟩ := ry
    refine wpAny_binaryOp_repeat_ref (T := "tuple") (U := "int") (by decide) ⟨_, ho, rfl⟩ (fun s' => typeIs_int s' 0 t) noFill_tuple_mul F.fills_int_mul F.slot_int_rmul repeat_tuple F.slot_int_index.lookup
      (call_meets F.slot_int_rmul (typeIs_int s 0 t) F.entry_int_rmul (F.args_int_rmul_2 _ _) (int_rmul_tuple 0 t l #[a] n dd sl)
        ⟨ho, rfl, ⟨_, ho, rfl⟩, call_meets F.slot_tuple_mul ⟨_, ho, rfl⟩ F.entry_tuple_mul (F.args_tuple_mul_2 _ _) (tup_mul0 l a n dd sl t) ⟨ho, ?_⟩⟩)
    refine ⟨.ref s.heap.objs.size, _, I.laid (t' := s.toks) (o := .tup []) (fun b ob q => Heap.get?_push_of_some _ q) (Nat.le_refl _) ?_, rfl, q _ (I.hok.fresh (Nat.le_refl _))⟩
    exact ⟨Nat.zero_le _, [], .nil, IsTup.new _ _⟩
end

/-! ### enumerate(tuple) -/
theorem enum_newT (l : Addr) (items : Array Value) (n : Nat) (dct : Option Addr) (sl : Array (Option Value)) :
    Meets (Builtin.«enumerate.__new__» ⟨[.type "enumerate", .ref l], []⟩) (fun _ R s => s.heap.get? l = some { cls := .type "tuple", dict := dct, data := .seq items n, slots := sl } ∧
      R (.ok (.ret (.ref (s.heap.push { cls := .type "tuple_iterator", data := .fields #[.ref l, .int 0 0] }).objs.size)))
        { s with heap := (s.heap.push { cls := .type "tuple_iterator", data := .fields #[.ref l, .int 0 0] }).push { cls := .type "enumerate", data := .fields #[.none, .bool false, .ref s.heap.objs.size, rawInt 0, .none, .none] } }) :=
  .of_wp fun prog w A R s h => by
    obtain ⟨hp, g, d, tk, os⟩ := s; obtain ⟨hl, h⟩ := h
    have hsub := sub_enumerate
    have hL : Heap.IsTuple (Shared.heap ⟨hp, g, d, tk, os⟩) l items := ⟨_, hl, rfl, n, rfl⟩
    wp_walk using AutoSeq1.wpAny_loadPart' hl
    refine wpAny_stack_any fun st => wpAny_pure ?_
    split
    · rename_i c _ _ _ _ _
      cases (c == Value.type "enumerate") <;> (wp_walk using AutoSeq1.wpAny_loadPart' hl, wpAny_pyIter_tuple hL; exact ⟨_, rfl, h⟩)
    · wp_walk using AutoSeq1.wpAny_loadPart' hl, wpAny_pyIter_tuple hL
      exact ⟨_, rfl, h⟩
theorem call_enumT {prog : Program} {w : World} {A : Around} {E : Value → Shared → Prop} {s : Shared} {l : Addr} {items : Array Value} {Q : Value → Shared → Prop} (hL : s.heap.IsTuple l items)
    (h : ∀ h', IsEnum h' (s.heap.objs.size + 1) s.heap.objs.size 0 .none → h'.IsTupleIter s.heap.objs.size l 0 → h'.objs.size = s.heap.objs.size + 2 →
      (∀ b o, s.heap.get? b = some o → h'.get? b = some o) → Q (.ref (s.heap.objs.size + 1)) { s with heap := h' }) :
    wpAny (model prog w) A (call (.type "enumerate") [.ref l]) Q E s := by
  obtain ⟨⟨c, dct, dt, sl⟩, hl, hc, n, hd⟩ := hL
  simp only at hc hd
  subst hc hd
  refine callType_new F.called_enumerate (by decide) (F.typeCall_enumerate_1 _) (F.newCall_enumerate_1 _) (fun obj => F.args_object_init_2 obj _) F.entry_enumerate_new (enum_newT l items n dct sl) ⟨hl, ?_⟩
  generalize ho : ({ cls := .type "tuple_iterator", data := .fields #[.ref l, .int 0 0] } : Obj) = o1
  have f1 : o1.isFreed = false := by rw [← ho]; rfl
  generalize hp : ({ cls := .type "enumerate", data := .fields #[.none, .bool false, .ref s.heap.objs.size, rawInt 0, .none, .none] } : Obj) = o2
  have f2 : o2.isFreed = false := by rw [← hp]; rfl
  have hz : (s.heap.push o1).objs.size = s.heap.objs.size + 1 := Heap.size_push ..
  have hg := Heap.get?_push_size (s.heap.push o1) (o := o2) f2
  show _ ∧ _
  rw [hz] at hg ⊢
  have he : IsEnum ((s.heap.push o1).push o2) (s.heap.objs.size + 1) s.heap.objs.size 0 .none := by rw [hp.symm] at hg ⊢; exact hg
  refine ⟨⟨_, he, rfl⟩, h _ he ⟨_, Heap.get?_push_of_some _ (Heap.get?_push_size _ f1), by rw [← ho], by rw [← ho]; rfl⟩ (by rw [Heap.size_push, hz]) fun b o x => Heap.get?_push_of_some _ (Heap.get?_push_of_some _ x)⟩
/-- the tuple at a, each item in a new pair -/
def Itet (K : PySem.W.Frag) (a : Addr) : It :=
  ⟨fun i H => ∃ (xs : List V) (x : V), SqT K H a xs ∧ xs[i]? = some x, fun i H v H' => ∃ T x, v = .ref T ∧ H T = none ∧ H' = upd H T (.tup [.int (i : Nat), x]) ∧ ∀ xs, SqT K H a xs → xs[i]? = some x,
    fun i H => ∃ xs : List V, SqT K H a xs ∧ xs.length ≤ i⟩
theorem turn_enumT {P : Program} {w : World} {K : PySem.W.Frag} {elts : List Expr} {kk : Nat} {tpos : Pos} (a e it : Addr) :
    Turn P w K (.Tuple elts kk tpos) (Itet K a) [e, it] e (fun i h => (∃ old, IsEnum h e it ((i : Nat) : Int) old) ∧ h.IsTupleIter it a i ∧ e ≠ it) where
  mem := by simp
  obj := fun i h st b hb => by
    obtain ⟨⟨old, he⟩, ⟨o, ho, hc, hd⟩, _⟩ := st
    rcases (show b = e ∨ b = it by simpa using hb) with rfl | rfl
    · exact ⟨_, he, fun v q => nomatch q⟩
    · exact ⟨o, ho, fun v q => by rw [hd] at q; cases q⟩
  keep := fun i h h' st k => let ⟨⟨old, he⟩, hi, hne⟩ := st; ⟨⟨old, k e (by simp) _ he⟩, hi.at fun o q => k it (by simp) o q, hne⟩
  item := by
    intro X hP hw hK hc i pins s σ H E I hf st hg
    subst hP hw hK
    obtain ⟨⟨old, he⟩, hit, hne⟩ := st
    obtain ⟨xs, x, hq, hx⟩ := hg
    obtain ⟨its, rv, pt, hz⟩ := I.tuple hq
    have hT : s.heap.IsTuple a its.toArray := pt
    obtain ⟨u, hu, ru⟩ := rv.get hx
    have hel : e < s.heap.objs.size := Heap.lt_size he
    have hil : it < s.heap.objs.size := by obtain ⟨_, q, _⟩ := hit; exact Heap.lt_size q
    have nai : a ≠ it := fun z => by
      subst z
      obtain ⟨o1, q1, c1, _⟩ := hit
      obtain ⟨o2, q2, c2, _⟩ := hT
      rw [q1] at q2; cases q2
      rw [c1] at c2; exact absurd c2 (by decide)
    have nea : e ≠ a := fun z => by
      subst z
      obtain ⟨o2, q2, c2, _⟩ := hT
      have he' : s.heap.get? e = _ := he
      rw [he'] at q2; cases q2
      exact absurd (show Value.type "enumerate" = Value.type "tuple" from c2) (by decide)
    have hi : i < its.toArray.size := by
      have := (List.getElem?_eq_some_iff.mp hu).1
      simpa using this
    refine wpAny_pyNext_enum_itemD (Draws.tuple (A := X.A.in1) (I.ok.hd hc) it a nai its.toArray) he ⟨hit, hT⟩ hi hne (by simp [hne, nea]) fun y h' tk hy ho hit' hT' hsz hk => ?_
    obtain rfl : y = u := by
      have hy' : its.toArray[i]? = some y := hy
      rw [List.getElem?_toArray, hu] at hy'
      exact (Option.some.inj hy').symm
    refine ⟨_, rfl, wpAny_letOwnedTupleGo_enum (s := { s with heap := h', toks := tk + 1 }) ho fun h'' he' sb => ?_⟩
    have hT2 : h''.get? s.heap.objs.size = some { cls := .type "tuple", data := .seq #[.int i tk, y] } := (sb.2 _ (Nat.ne_of_gt hel)).trans hT'
    have new : ObjOk X.prog X.w (upd H s.heap.objs.size (.tup [.int (i : Nat), x])) h'' s.heap.objs.size (.tup [.int (i : Nat), x]) :=
      ⟨by show 2 ≤ sizeLine; decide, [.int i tk, y], .cons ⟨_, rfl⟩ (.cons ru .nil), ⟨_, hT2, rfl, _, rfl⟩⟩
    have I1 := I.turnedNew (t' := tk + 1) (ch := [e, it]) (fun b ob hb q => (sb.2 b (fun z => hb (by simp [z]))).trans (hk b ob (fun z => hb (by simp [z])) (fun z => hb (by simp [z])) q)) hf (Nat.le_refl _) new
    refine ⟨.ref s.heap.objs.size, _, I1, rfl, ⟨_, x, rfl, I.hok.fresh (Nat.le_refl _), rfl, fun ys hys => by rw [I.tuple_inj hys hq]; exact hx⟩, ⟨⟨y, ?_⟩, hit'.1.at fun o q => (sb.2 it (Ne.symm hne)).trans q, hne⟩, fun b hb => ?_⟩
    · rw [show ((i + 1 : Nat) : Int) = (i : Int) + 1 by omega]; exact he'
    · have hb' : b < s.heap.objs.size := by
        rcases (show b = e ∨ b = it by simpa using hb) with rfl | rfl
        · exact hel
        · exact hil
      rw [upd_ne (Nat.ne_of_lt hb')]
      exact (hf b hb).1
  done := by
    intro X hP hw hK hc i pins s σ H E I hf st hg
    subst hP hw hK
    obtain ⟨⟨old, he⟩, hit, hne⟩ := st
    obtain ⟨xs, hq, hx⟩ := hg
    obtain ⟨its, rv, pt, hz⟩ := I.tuple hq
    have hT : s.heap.IsTuple a its.toArray := pt
    obtain ⟨f0, f1, f2, f3, f4, f5⟩ := hf it (by simp)
    have hl := rv.length
    have hT : s.TypeIs (.ref e) "enumerate" := ⟨_, he, rfl⟩
    unfold pyNext
    refine wpAny_bind (wpAny_attempt (wpAny_callSpecial?_slot (name := Str.ofString "__next__") hT F.slot_enumerate_next (wpAny_call_entry F.slot_enumerate_next hT F.entry_enumerate_next ?_ (F.args_enumerate_next_1 _))))
    show wpAny _ _ (field (.ref e) 2 >>= _) _ _ _
    refine wpAny_bind (wpAny_field he rfl (x := .ref it) rfl ?_)
    refine wpAny_bind (wpAny_nextOf_tuple_end (I.ok.hd hc) hit pt (by simp; omega) fun h' x eb hx' => ?_)
    obtain ⟨o, ho, hcx⟩ := hx'
    refine wpAny_bind (wpAny_isInstance (T := "StopIteration") (b := true) ⟨o, ho, hcx⟩ isSubtype_stop ?_)
    exact wpAny_pure ⟨rfl, I.turned (t' := s.toks) (fun b o hb q => eb b o hb q) f0 f1 f3 f4 f5⟩
  self := fun A i s Q E st h => let ⟨⟨_, he⟩, _⟩ := st; wpAny_pyIter_enum he h
def iEnumT (K : PySem.W.Frag) (ta : TA) : TI := fun σ H R => ta σ H fun vs H1 => ∃ a xs, vs = [.ref a] ∧ SqT K H1 a xs ∧ R (Itet K a) H1
theorem pi_enumT {X : Cx} {e : Expr} {ta : TA} {p pos tpos : Pos} {elts : List Expr} {kk : Nat} (hg : Gl X "enumerate") (hm : X.mg "enumerate" = none) (ha : PA X [e] ta)
    (hs : starEach [e] X.env = [(false, eval e X.env)] := by rfl) : PI X (.Tuple elts kk tpos) (.Call (.Name "enumerate" p) [e] [] pos) (iEnumT X.K ta) := by
  refine ⟨fun pins s σ H R I h => Call_ (ld_blt I hg hm boot_enumerate (PyProof.Rows.callWith_type1 (thn (ha.run pos pins s σ H _ I h) fun us s1 ⟨vs, H1, I1, r1, a, xs, ex, hq, q⟩ => ?_) hs rfl))⟩
  subst ex
  obtain ⟨u, rfl, rx⟩ := vals1 r1
  cases rx
  obtain ⟨its, rv, pt, hz⟩ := I1.tuple hq
  refine call_enumT pt fun h' he hit hsz hk => wpAny_pyIter_enum he ?_
  refine ⟨s1.heap.objs.size + 1, [s1.heap.objs.size + 1, s1.heap.objs.size], _, _, H1, rfl, I1.kept (t' := s1.toks) hk, turn_enumT a (s1.heap.objs.size + 1) s1.heap.objs.size, ⟨⟨.none, he⟩, hit, Nat.succ_ne_self _⟩, fun b hb => ?_, q⟩
  have hle : s1.heap.objs.size ≤ b := by
    rcases (show b = s1.heap.objs.size + 1 ∨ b = s1.heap.objs.size by simpa using hb) with rfl | rfl
    · exact Nat.le_add_right _ _
    · exact Nat.le_refl _
  exact I1.fpOk hle (I1.hok.fresh hle)
theorem walk_enumT {K : PySem.W.Frag} {a : Addr} {xs : List V} : Walk (Itet K a) xs.length (fun H => SqT K H a xs) (YPair (fun i => some (.int (i : Nat))) (fun i => xs[i]?)) := by
  refine ⟨fun i _ hi q => ⟨xs, xs[i], q, by simp [hi]⟩, fun _ q => ⟨xs, q, Nat.le_refl _⟩, fun i H v H' _ q y => ?_⟩
  obtain ⟨T, x, h1, h2, h3, h4⟩ := y
  exact ⟨T, .int (i : Nat), x, h1, h2, h3, rfl, h4 xs q⟩
end Pr
namespace Pr
open PySem PySem.Spec PyProof.Rows L2
/-! ### data that repr can show: how deep, how long -/
structure Shw (dep n : Nat) (d : PyData) : Prop where
  sh : d.showable = true
  nd : d.hasDict = false
  dp : d.depth ≤ dep
  ln : d.shown.length ≤ n
theorem Shw.mono {dep dep' n n' : Nat} {d : PyData} (h : Shw dep n d) (h1 : dep ≤ dep') (h2 : n ≤ n') : Shw dep' n' d := ⟨h.sh, h.nd, Nat.le_trans h.dp h1, Nat.le_trans h.ln h2⟩
theorem Shw.int {i : Int} {k : Nat} (h0 : 0 ≤ i) (hk : 0 < k) (hk2 : k ≤ 100) (h : i < 10 ^ k) : Shw 0 k (.int i) := by
  refine ⟨?_, by simp only [PyData.hasDict], by simp [PyData.depth], ?_⟩
  · simp only [PyData.showable, decide_eq_true_eq]
    by_cases hz : i.natAbs = 0
    · rw [hz]; decide
    · refine (Nat.log2_lt hz).mpr ?_
      have h1 : (i.natAbs : Int) < ((10 ^ k : Nat) : Int) := by
        rw [Int.natCast_pow]
        have : ((i.natAbs : Nat) : Int) = i := Int.natAbs_of_nonneg h0
        rw [this]; exact h
      have h2 : i.natAbs < 10 ^ k := by exact_mod_cast h1
      have h3 : (10 : Nat) ^ k ≤ 10 ^ 100 := Nat.pow_le_pow_right (by decide) hk2
      have h4 : (10 : Nat) ^ 100 < 2 ^ 1920 := by decide +kernel
      omega
  · simp only [PyData.shown]
    exact toString_length_le h0 hk h
theorem shownAll_map : ∀ ds : List PyData, PyData.shownAll ds = ds.map PyData.shown
  | [] => rfl
  | d :: r => by simp only [PyData.shownAll, List.map_cons, shownAll_map r]
theorem piled_le {n : Nat} : ∀ {ds : List PyData}, (∀ d ∈ ds, d.shown.length ≤ n) → piled (ds.map PyData.shown) ≤ ds.length * (n + 2)
  | [], _ => by simp [piled_nil]
  | d :: r, h => by
    have h1 := piled_le (ds := r) fun x hx => h x (List.mem_cons_of_mem _ hx)
    have h2 := h d List.mem_cons_self
    rw [List.map_cons, piled_cons, List.length_cons, Nat.succ_mul]
    omega
theorem showAll_of {dep n : Nat} : ∀ {ds : List PyData}, (∀ d ∈ ds, Shw dep n d) → PyData.showableAll ds = true ∧ PyData.hasDictAll ds = false ∧ PyData.depthAll ds ≤ dep
  | [], _ => ⟨by simp only [PyData.showableAll], by simp only [PyData.hasDictAll], by simp [PyData.depthAll]⟩
  | d :: r, h => by
    obtain ⟨h1, h2, h3⟩ := showAll_of (ds := r) fun x hx => h x (List.mem_cons_of_mem _ hx)
    have g := h d List.mem_cons_self
    refine ⟨by simp only [PyData.showableAll, g.sh, h1, Bool.and_self], by simp only [PyData.hasDictAll, g.nd, h2, Bool.or_self], ?_⟩
    simp only [PyData.depthAll]
    exact Nat.max_le.mpr ⟨g.dp, h3⟩
theorem tupleText_len (ts : List Str) : (tupleText ts).length ≤ piled ts + 3 := by
  unfold tupleText
  rw [strLen_append, strLen_append]
  have e1 : (("(" : Str)).length = 1 := by decide +kernel
  have e2 : ((if ts.length == 1 then ",)" else ")" : String) : Str).length ≤ 2 := by
    cases ts.length == 1 <;> decide +kernel
  by_cases h : ts = []
  · subst h
    have : (Str.join ", " ([] : List Str)).length = 0 := by decide +kernel
    omega
  · have := join_length_add ts h
    omega
theorem textFrom_le : ∀ (ts : List Str) (k : Nat) (acc : Str), (textFrom k acc ts).length ≤ acc.length + piled ts
  | [], k, acc => by simp [textFrom, piled_nil]
  | t :: r, k, acc => by
    have h := textFrom_le r (k + 1) (acc ++ (if k > 0 then ", " else "" : String) ++ t)
    rw [piled_cons]
    show (textFrom (k + 1) _ r).length ≤ _
    have e : ((if k > 0 then ", " else "" : String) : Str).length ≤ 2 := by split <;> decide +kernel
    rw [strLen_append, strLen_append] at h
    omega
theorem listText_len (ts : List Str) : (listText ts).length ≤ piled ts + 2 := by
  unfold listText
  rw [strLen_append]
  have h := textFrom_le ts 0 "["
  have e1 : (("[" : Str)).length = 1 := by decide +kernel
  have e2 : (("]" : Str)).length = 1 := by decide +kernel
  omega
theorem Shw.tuple {dep n m : Nat} {ds : List PyData} (h : ∀ d ∈ ds, Shw dep n d) (hm : ds.length ≤ m) : Shw (dep + 1) (m * (n + 2) + 3) (.tuple ds) := by
  obtain ⟨h1, h2, h3⟩ := showAll_of h
  refine ⟨by simp only [PyData.showable, h1], by simp only [PyData.hasDict, h2], by simp only [PyData.depth]; omega, ?_⟩
  simp only [PyData.shown]
  rw [shownAll_map]
  have a1 := tupleText_len (ds.map PyData.shown)
  have a2 := piled_le fun d hd => (h d hd).ln
  have a3 : ds.length * (n + 2) ≤ m * (n + 2) := Nat.mul_le_mul_right _ hm
  omega
theorem Shw.list {dep n m : Nat} {ds : List PyData} (h : ∀ d ∈ ds, Shw dep n d) (hm : ds.length ≤ m) : Shw (dep + 1) (m * (n + 2) + 3) (.list ds) := by
  obtain ⟨h1, h2, h3⟩ := showAll_of h
  refine ⟨by simp only [PyData.showable, h1], by simp only [PyData.hasDict, h2], by simp only [PyData.depth]; omega, ?_⟩
  simp only [PyData.shown]
  rw [shownAll_map]
  have a1 := listText_len (ds.map PyData.shown)
  have a2 := piled_le fun d hd => (h d hd).ln
  have a3 : ds.length * (n + 2) ≤ m * (n + 2) := Nat.mul_le_mul_right _ hm
  omega

/-! ### the deck, panels -/
/-- only what stands at a and c may have changed -/
def But (a c : Addr) (H H' : Hp) : Prop := ∀ b o, b ≠ a → b ≠ c → H b = some o → H' b = some o
theorem But.refl (a c : Addr) (H : Hp) : But a c H H := fun _ _ _ _ h => h
theorem But.trans {a c : Addr} {H H1 H2 : Hp} (x : But a c H H1) (y : But a c H1 H2) : But a c H H2 := fun b o h1 h2 h => y b o h1 h2 (x b o h1 h2 h)
theorem But.of {a c : Addr} {H H' : Hp} (x : Same H H') : But a c H H' := fun b o _ _ h => x b o h
theorem same_new {H : Hp} {p : Addr} {o : HO} (h : H p = none) : Same H (upd H p o) := fun b x e => by
  rw [upd_ne (ne_of_none e h)]; exact e
/-- the deck at a, its cells at c, m draws may still be made -/
def Deck (H : Hp) (a c : Addr) (m : Nat) : Prop :=
  ∃ (cells : List Int) (n : Nat), H a = some (.lst [.ref c, .int (n : Int)]) ∧ H c = some (.lst (cells.map V.int)) ∧ a ≠ c ∧ cells.length ≤ 63 ∧ n + m ≤ 1000000
theorem Deck.same {H H' : Hp} {a c : Addr} {m : Nat} (e : Same H H') (h : Deck H a c m) : Deck H' a c m :=
  let ⟨cs, n, h1, h2, h3⟩ := h; ⟨cs, n, e _ _ h1, e _ _ h2, h3⟩
theorem Deck.less {H : Hp} {a c : Addr} {m m' : Nat} (h : Deck H a c m) (z : m' ≤ m) : Deck H a c m' :=
  let ⟨cs, n, h1, h2, h3, h4, h5⟩ := h; ⟨cs, n, h1, h2, h3, h4, by omega⟩
theorem Deck.apart {H : Hp} {a c : Addr} {m : Nat} (h : Deck H a c m) {b : Addr} {o : HO} (e : H b = some o) (ho : ∀ xs, o ≠ .lst xs) : b ≠ a ∧ b ≠ c := by
  obtain ⟨cs, n, h1, h2, _⟩ := h
  exact ⟨ne_of e h1 (ho _), ne_of e h2 (ho _)⟩
theorem Deck.fresh {H : Hp} {a c : Addr} {m : Nat} (h : Deck H a c m) {b : Addr} (e : H b = none) : b ≠ a ∧ b ≠ c := by
  obtain ⟨cs, n, h1, h2, _⟩ := h
  exact ⟨Ne.symm (ne_of_none h1 e), Ne.symm (ne_of_none h2 e)⟩
theorem FT.but {H H' : Hp} {a c p : Addr} {m : Nat} {xs : List V} (d : Deck H a c m) (b : But a c H H') (h : FT H p xs) : FT H' p xs := by
  obtain ⟨o, e, z⟩ := h
  have q := d.apart e (fun _ => by intro z; cases z)
  exact ⟨o, b _ _ q.1 q.2 e, z⟩
theorem tup_but {H H' : Hp} {a c p : Addr} {m : Nat} {xs : List V} (d : Deck H a c m) (b : But a c H H') (h : H p = some (.tup xs)) : H' p = some (.tup xs) := by
  have q := d.apart h (fun _ => by intro z; cases z)
  exact b _ _ q.1 q.2 h
/-- a panel at p -/
def PanAt (H : Hp) (p : Addr) (pan : List (List Int)) : Prop := ∃ qs : List Addr, FT H p (qs.map V.ref) ∧ Paired (fun q l => FT H q (l.map V.int)) qs pan
theorem PanAt.same {H H' : Hp} {p : Addr} {pan : List (List Int)} (e : Same H H') (h : PanAt H p pan) : PanAt H' p pan :=
  let ⟨qs, h1, h2⟩ := h; ⟨qs, h1.same e, h2.mono fun _ _ x => x.same e⟩
theorem PanAt.but {H H' : Hp} {a c p : Addr} {m : Nat} {pan : List (List Int)} (d : Deck H a c m) (b : But a c H H') (h : PanAt H p pan) : PanAt H' p pan :=
  let ⟨qs, h1, h2⟩ := h; ⟨qs, h1.but d b, h2.mono fun _ _ x => x.but d b⟩
theorem paired_get {α β : Type} {F : α → β → Prop} : ∀ {l1 : List α} {l2 : List β}, Paired F l1 l2 → ∀ (i : Nat) (y : β), l2[i]? = some y → ∃ x, l1[i]? = some x ∧ F x y
  | _, _, .nil, i, y, h => by simp at h
  | _, _, .cons r t, 0, y, h => by simp at h; subst h; exact ⟨_, rfl, r⟩
  | _, _, .cons r t, i + 1, y, h => by
    obtain ⟨x, h1, h2⟩ := paired_get t i y (by simpa using h)
    exact ⟨x, by simpa using h1, h2⟩
/-- what the document calls a panel of at most ten buttons -/
structure Good (pan : List (List Int)) : Prop where
  pos : 1 ≤ pan.length
  few : pan.length ≤ 10
  up : ∀ l ∈ pan, l.Pairwise (· < ·)
  rng : ∀ l ∈ pan, ∀ x ∈ l, 0 ≤ x ∧ x < (pan.length : Int)
  own : ∀ (i : Nat) (l : List Int), pan[i]? = some l → (i : Int) ∉ l
def dInts (l : List Int) : PyData := .tuple (l.map PyData.int)
def dPan (pan : List (List Int)) : PyData := .tuple (pan.map dInts)
section
variable {K : PySem.W.Frag} {H : Hp}
theorem dpAll_ints : ∀ l : List Int, DpAll K H (l.map V.int) (l.map PyData.int)
  | [] => .nil
  | x :: r => .cons (.int x) (dpAll_ints r)
theorem dp_ints {q : Addr} {l : List Int} (h : SqT K H q (l.map V.int)) : Dp K H (.ref q) (dInts l) := .tup h (dpAll_ints l)
theorem dpAll_pan : ∀ {qs : List Addr} {pan : List (List Int)}, Paired (fun q l => FT H q (l.map V.int)) qs pan → DpAll K H (qs.map V.ref) (pan.map dInts)
  | _, _, .nil => .nil
  | _, _, .cons r t => .cons (dp_ints r.sq) (dpAll_pan t)
theorem PanAt.dp {p : Addr} {pan : List (List Int)} (h : PanAt H p pan) : Dp K H (.ref p) (dPan pan) := by
  obtain ⟨qs, h1, h2⟩ := h
  exact .tup h1.sq (dpAll_pan h2)
end
theorem pw_length {n : Nat} : ∀ {l : List Int} {lo : Int}, l.Pairwise (· < ·) → (∀ x ∈ l, lo ≤ x ∧ x < lo + n) → l.length ≤ n := by
  induction n with
  | zero =>
    intro l lo _ h
    cases l with
    | nil => exact Nat.le_refl _
    | cons x r => have := h x List.mem_cons_self; omega
  | succ n ih =>
    intro l lo hp h
    cases l with
    | nil => exact Nat.zero_le _
    | cons x r =>
      have hx := h x List.mem_cons_self
      rw [List.pairwise_cons] at hp
      have := ih (l := r) (lo := lo + 1) hp.2 fun y hy => by
        have h1 := hp.1 y hy
        have h2 := h y (List.mem_cons_of_mem _ hy)
        omega
      rw [List.length_cons]; omega
theorem shw_ints {l : List Int} {m : Nat} (hl : l.length ≤ m) (h : ∀ x ∈ l, 0 ≤ x ∧ x < 10) : Shw 1 (m * 3 + 3) (dInts l) := by
  refine Shw.tuple (fun d hd => ?_) (by rw [List.length_map]; exact hl)
  obtain ⟨x, hx, rfl⟩ := List.mem_map.mp hd
  exact Shw.int (h x hx).1 (by decide) (by decide) (h x hx).2
theorem Good.shw {pan : List (List Int)} (g : Good pan) : Shw 2 353 (dPan pan) := by
  have := Shw.tuple (dep := 1) (n := 33) (m := 10) (ds := pan.map dInts) (fun d hd => ?_) (by rw [List.length_map]; exact g.few)
  · exact this
  · obtain ⟨l, hl, rfl⟩ := List.mem_map.mp hd
    have hf := g.few
    refine shw_ints (m := 10) (pw_length (n := 10) (lo := 0) (g.up l hl) fun x hx => ?_) fun x hx => ?_
    · have := g.rng l hl x hx; omega
    · have := g.rng l hl x hx; omega
end Pr
/-! Presses, as plain functions. -/
namespace Pr
open PySem PySem.Spec PyProof.Rows L2
def intL (n : Nat) : List Int := (List.range n).map fun i : Nat => (i : Int)
theorem mem_intL {n : Nat} {x : Int} : x ∈ intL n ↔ 0 ≤ x ∧ x < (n : Int) := by
  unfold intL
  rw [List.mem_map]
  constructor
  · rintro ⟨i, hi, rfl⟩
    have := List.mem_range.mp hi
    omega
  · rintro ⟨h0, h1⟩
    exact ⟨x.toNat, List.mem_range.mpr (by omega), Int.toNat_of_nonneg h0⟩
theorem intL_up (n : Nat) : (intL n).Pairwise (· < ·) := by
  unfold intL
  rw [List.pairwise_map]
  exact List.pairwise_lt_range.imp fun {a b} (h : a < b) => by omega
theorem intL_len (n : Nat) : (intL n).length = n := by unfold intL; rw [List.length_map, List.length_range]
theorem intL_succ (n : Nat) : intL (n + 1) = intL n ++ [(n : Int)] := by unfold intL; rw [List.range_succ, List.map_append]; rfl
/-- a state of n buttons -/
structure Asc (n : Nat) (st : List Int) : Prop where
  up : st.Pairwise (· < ·)
  rng : ∀ x ∈ st, 0 ≤ x ∧ x < (n : Int)
theorem Asc.nil (n : Nat) : Asc n [] := ⟨List.Pairwise.nil, fun _ h => by cases h⟩
theorem Asc.full (n : Nat) : Asc n (intL n) := ⟨intL_up n, fun _ h => mem_intL.mp h⟩
theorem Asc.filter (n : Nat) (f : Int → Bool) : Asc n ((intL n).filter f) := ⟨(intL_up n).filter f, fun _ h => mem_intL.mp (List.mem_filter.mp h).1⟩
theorem Asc.len {n : Nat} {st : List Int} (h : Asc n st) : st.length ≤ n := pw_length (lo := 0) h.up fun x hx => by have := h.rng x hx; omega
theorem asc_ext : ∀ {l1 l2 : List Int}, l1.Pairwise (· < ·) → l2.Pairwise (· < ·) → (∀ x, x ∈ l1 ↔ x ∈ l2) → l1 = l2
  | [], [], _, _, _ => rfl
  | [], y :: r, _, _, h => absurd ((h y).mpr List.mem_cons_self) (by simp)
  | x :: r, [], _, _, h => absurd ((h x).mp List.mem_cons_self) (by simp)
  | x :: r, y :: t, h1, h2, h => by
    rw [List.pairwise_cons] at h1 h2
    have exy : x = y := by
      rcases List.mem_cons.mp ((h x).mp List.mem_cons_self) with e | e
      · exact e
      · rcases List.mem_cons.mp ((h y).mpr List.mem_cons_self) with e' | e'
        · exact e'.symm
        · have a1 := h2.1 x e
          have a2 := h1.1 y e'
          omega
    subst exy
    have : r = t := asc_ext h1.2 h2.2 fun z => by
      constructor
      · intro hz
        rcases List.mem_cons.mp ((h z).mp (List.mem_cons_of_mem _ hz)) with e | e
        · have := h1.1 z hz; omega
        · exact e
      · intro hz
        rcases List.mem_cons.mp ((h z).mpr (List.mem_cons_of_mem _ hz)) with e | e
        · have := h2.1 z hz; omega
        · exact e
    rw [this]
theorem Asc.eq {n : Nat} {st : List Int} (h : Asc n st) : (intL n).filter (fun x => decide (x ∈ st)) = st :=
  asc_ext ((intL_up n).filter _) h.up fun x => by
    rw [List.mem_filter, decide_eq_true_eq, mem_intL]
    exact ⟨fun q => q.2, fun q => ⟨h.rng x q, q⟩⟩
def pressM (pan : List (List Int)) (st : List Int) (b : Int) : List Int := (intL pan.length).filter fun x => decide (x = b ∨ (x ∈ st ∧ x ∉ pan.getD b.toNat []))
def runM (pan : List (List Int)) (st : List Int) (row : List Int) : List Int := row.foldl (pressM pan) st
theorem pressM_asc (pan : List (List Int)) (st : List Int) (b : Int) : Asc pan.length (pressM pan st b) := Asc.filter _ _
theorem runM_asc {pan : List (List Int)} : ∀ {row st : List Int}, Asc pan.length st → Asc pan.length (runM pan st row)
  | [], _, h => h
  | b :: r, st, _ => runM_asc (row := r) (pressM_asc pan st b)
theorem mem_pressM {pan : List (List Int)} {st : List Int} {b x : Int} : x ∈ pressM pan st b ↔ (0 ≤ x ∧ x < (pan.length : Int)) ∧ (x = b ∨ (x ∈ st ∧ x ∉ pan.getD b.toNat [])) := by
  unfold pressM
  rw [List.mem_filter, decide_eq_true_eq, mem_intL]
theorem runM_take {pan : List (List Int)} {st row : List Int} {k : Nat} {b : Int} (h : row[k]? = some b) : runM pan st (row.take (k + 1)) = pressM pan (runM pan st (row.take k)) b := by
  unfold runM
  rw [List.take_add_one, h, List.foldl_append]; rfl
/-- what press_button makes: the kept ones and the button, sorted -/
theorem press_sorted {pan : List (List Int)} {st : List Int} {b : Int} {ns : List Int} (hs : Asc pan.length st) (h0 : 0 ≤ b) (h1 : b < (pan.length : Int))
    (hp : ns.Perm (st.filter (fun x => decide (x ≠ b ∧ x ∉ pan.getD b.toNat [])) ++ [b])) (hle : ns.Pairwise (· ≤ ·)) : ns = pressM pan st b := by
  have nd0 : (st.filter (fun x => decide (x ≠ b ∧ x ∉ pan.getD b.toNat [])) ++ [b]).Nodup := by
    refine List.nodup_append.mpr ⟨(hs.up.imp fun {x y} (q : x < y) => by omega : st.Nodup).filter _, by simp, fun x hx y hy e => ?_⟩
    rw [List.mem_singleton] at hy
    have := (List.mem_filter.mp hx).2
    rw [decide_eq_true_eq] at this
    exact this.1 (e.trans hy)
  have nd : ns.Nodup := hp.nodup_iff.mpr nd0
  have up : ns.Pairwise (· < ·) := (hle.and nd).imp fun {x y} (q : x ≤ y ∧ x ≠ y) => by omega
  refine asc_ext up (pressM_asc pan st b).up fun x => ?_
  rw [hp.mem_iff, mem_pressM, List.mem_append, List.mem_filter, decide_eq_true_eq, List.mem_singleton]
  constructor
  · rintro (⟨a1, a2⟩ | a)
    · exact ⟨hs.rng x a1, .inr ⟨a1, a2.2⟩⟩
    · subst a; exact ⟨⟨h0, h1⟩, .inl rfl⟩
  · rintro ⟨_, a | a⟩
    · exact .inr a
    · by_cases e : x = b
      · exact .inr e
      · exact .inl ⟨a.1, e, a.2⟩
/-- marks -/
def marks (n : Nat) (st : List Int) : List Bool := (List.range n).map fun i : Nat => decide ((i : Int) ∈ st)
theorem marks_len (n : Nat) (st : List Int) : (marks n st).length = n := by unfold marks; rw [List.length_map, List.length_range]
theorem marks_get {n : Nat} {st : List Int} {i : Nat} (h : i < n) : (marks n st)[i]? = some (decide ((i : Int) ∈ st)) := by
  unfold marks
  rw [List.getElem?_map, List.getElem?_range h]; rfl
theorem marks_set {pan : List (List Int)} {st : List Int} {b : Nat} (hb : b < pan.length) :
    ((List.range pan.length).map fun i : Nat => (decide ((i : Int) ∈ st) && !decide ((i : Int) ∈ pan.getD b []))).set b true = marks pan.length (pressM pan st (b : Int)) := by
  refine List.ext_getElem? fun i => ?_
  by_cases hi : i < pan.length
  · rw [marks_get hi, List.getElem?_set]
    by_cases e : b = i
    · subst e
      rw [if_pos rfl, if_pos (by rw [List.length_map, List.length_range]; exact hi)]
      congr 1
      exact (decide_eq_true (mem_pressM.mpr ⟨⟨by omega, by omega⟩, .inl rfl⟩)).symm
    · rw [if_neg e, List.getElem?_map, List.getElem?_range hi]
      show some _ = some _
      congr 1
      rw [Bool.eq_iff_iff, Bool.and_eq_true, decide_eq_true_eq, Bool.not_eq_true', decide_eq_false_iff_not, decide_eq_true_eq, mem_pressM, Int.toNat_natCast]
      constructor
      · rintro ⟨a, a'⟩
        exact ⟨⟨by omega, by omega⟩, .inr ⟨a, a'⟩⟩
      · rintro ⟨_, a | a⟩
        · omega
        · exact a
  · rw [List.getElem?_eq_none (by rw [List.length_set, List.length_map, List.length_range]; omega), List.getElem?_eq_none (by rw [marks_len]; omega)]
end Pr
/-! Effects, as plain functions; a tuple repeated; zip of two tuples. -/
namespace Pr
open PySem PySem.Spec PyProof.Rows L2
abbrev wSame : Str := "same"
abbrev wOn : Str := "on"
abbrev wOff : Str := "off"
/-- a press of b behind, where c had the word w -/
def wordM (pan : List (List Int)) (c : Int) (w : Str) (b : Int) : Str := if b = c then wOn else if c ∈ pan.getD b.toNat [] then wOff else w
def wordsM (pan : List (List Int)) (row : List Int) (c : Int) : Str := row.foldl (wordM pan c) wSame
def effM (pan : List (List Int)) (row : List Int) : List Str := (List.range pan.length).map fun c : Nat => wordsM pan row (c : Int)
def onM (l : List Int) (b : Int) (c : Nat) : Str := if (c : Int) ∈ l then wOff else if (c : Int) = b then wOn else wSame
def pressW (pan : List (List Int)) (b : Int) : List Str := (List.range pan.length).map (onM (pan.getD b.toNat []) b)
def joinM (xs ys : List Str) : List Str := List.zipWith (fun e l => if l = wSame then e else l) xs ys
theorem effM_len (pan : List (List Int)) (row : List Int) : (effM pan row).length = pan.length := by unfold effM; rw [List.length_map, List.length_range]
theorem pressW_len (pan : List (List Int)) (b : Int) : (pressW pan b).length = pan.length := by unfold pressW; rw [List.length_map, List.length_range]
theorem joinM_len {xs ys : List Str} (h : xs.length = ys.length) : (joinM xs ys).length = ys.length := by unfold joinM; rw [List.length_zipWith, h, Nat.min_self]
theorem effM_nil (pan : List (List Int)) : effM pan [] = List.replicate pan.length wSame := by
  unfold effM
  show (List.range pan.length).map (fun _ => wSame) = _
  rw [List.map_const', List.length_range]
theorem same_ne_on : wSame ≠ wOn := by decide +kernel
theorem same_ne_off : wSame ≠ wOff := by decide +kernel
theorem on_ne_off : wOn ≠ wOff := by decide +kernel
theorem Good.own' {pan : List (List Int)} (g : Good pan) {b : Int} (h0 : 0 ≤ b) (h1 : b < (pan.length : Int)) : b ∉ pan.getD b.toNat [] := by
  have hb : b.toNat < pan.length := by omega
  have := g.own b.toNat pan[b.toNat] (List.getElem?_eq_getElem hb)
  rw [List.getD_eq_getElem?_getD, List.getElem?_eq_getElem hb]
  rw [Int.toNat_of_nonneg h0] at this
  exact this
theorem wordM_join {pan : List (List Int)} (g : Good pan) {b : Int} (h0 : 0 ≤ b) (h1 : b < (pan.length : Int)) (c : Nat) (w : Str) :
    (if onM (pan.getD b.toNat []) b c = wSame then w else onM (pan.getD b.toNat []) b c) = wordM pan (c : Int) w b := by
  unfold onM wordM
  by_cases e : (c : Int) ∈ pan.getD b.toNat []
  · have hne : b ≠ (c : Int) := fun z => g.own' h0 h1 (z ▸ e)
    rw [if_pos e, if_neg hne, if_pos e, if_neg (Ne.symm same_ne_off)]
  · rw [if_neg e, if_neg e]
    by_cases e2 : (c : Int) = b
    · rw [if_pos e2, if_pos e2.symm, if_neg (Ne.symm same_ne_on)]
    · rw [if_neg e2, if_pos rfl, if_neg (Ne.symm e2)]
theorem eff_step {pan : List (List Int)} (g : Good pan) {b : Int} (h0 : 0 ≤ b) (h1 : b < (pan.length : Int)) (row : List Int) : joinM (effM pan row) (pressW pan b) = effM pan (row ++ [b]) := by
  unfold joinM effM pressW
  rw [List.zipWith_map, List.zipWith_self]
  refine List.map_congr_left fun c _ => ?_
  rw [wordM_join g h0 h1]
  unfold wordsM
  rw [List.foldl_append]; rfl
theorem eff_take {pan : List (List Int)} (g : Good pan) {row : List Int} {k : Nat} {b : Int} (hk : row[k]? = some b) (h0 : 0 ≤ b) (h1 : b < (pan.length : Int)) : joinM (effM pan (row.take k)) (pressW pan b) = effM pan (row.take (k + 1)) := by
  rw [eff_step g h0 h1, List.take_add_one, hk]; rfl
theorem word3 (pan : List (List Int)) (c : Int) : ∀ row : List Int, wordsM pan row c = wSame ∨ wordsM pan row c = wOn ∨ wordsM pan row c = wOff := by
  intro row
  unfold wordsM
  have : ∀ (l : List Int) (w : Str), (w = wSame ∨ w = wOn ∨ w = wOff) → (l.foldl (wordM pan c) w = wSame ∨ l.foldl (wordM pan c) w = wOn ∨ l.foldl (wordM pan c) w = wOff) := by
    intro l
    induction l with
    | nil => exact fun w h => h
    | cons b r ih =>
      intro w h
      rw [List.foldl_cons]
      refine ih _ ?_
      unfold wordM
      split
      · exact .inr (.inl rfl)
      · split
        · exact .inr (.inr rfl)
        · exact h
  exact this row _ (.inl rfl)
theorem eff3 {pan : List (List Int)} {row : List Int} {x : Str} (h : x ∈ effM pan row) : x = wSame ∨ x = wOn ∨ x = wOff := by
  unfold effM at h
  obtain ⟨c, _, rfl⟩ := List.mem_map.mp h
  exact word3 pan c row
theorem set_map_range {α : Type} (f : Nat → α) (n j : Nat) (v : α) : ((List.range n).map f).set j v = (List.range n).map fun c => if c = j then v else f c := by
  refine List.ext_getElem? fun i => ?_
  rw [List.getElem?_set, List.getElem?_map]
  by_cases h : i < n
  · rw [List.getElem?_map, List.getElem?_range h, List.length_map, List.length_range]
    by_cases e : j = i
    · subst e; rw [if_pos rfl, if_pos h]; simp
    · rw [if_neg e]; simp [Ne.symm e]
  · rw [List.getElem?_map, List.getElem?_eq_none (by rw [List.length_range]; omega), List.length_map, List.length_range]
    by_cases e : j = i
    · subst e; rw [if_pos rfl, if_neg h]; rfl
    · rw [if_neg e]; rfl
theorem replicate_map_range {α : Type} (n : Nat) (v : α) : List.replicate n v = (List.range n).map fun _ => v := by
  rw [List.map_const', List.length_range]
/-! ### data -/
def dStrs (l : List Str) : PyData := .tuple (l.map PyData.str)
theorem dpAll_strs {K : PySem.W.Frag} {H : Hp} : ∀ l : List Str, DpAll K H (l.map V.str) (l.map PyData.str)
  | [] => .nil
  | x :: r => .cons (.str x) (dpAll_strs r)
theorem dp_strs {K : PySem.W.Frag} {H : Hp} {q : Addr} {l : List Str} (h : SqT K H q (l.map V.str)) : Dp K H (.ref q) (dStrs l) := .tup h (dpAll_strs l)
theorem shw_word {x : Str} (h : x = wSame ∨ x = wOn ∨ x = wOff) : Shw 0 6 (.str x) := by
  refine ⟨by simp only [PyData.showable], by simp only [PyData.hasDict], by simp [PyData.depth], ?_⟩
  simp only [PyData.shown]
  rcases h with rfl | rfl | rfl <;> decide +kernel
theorem shw_words {l : List Str} {m : Nat} (hl : l.length ≤ m) (h : ∀ x ∈ l, x = wSame ∨ x = wOn ∨ x = wOff) : Shw 1 (m * 8 + 3) (dStrs l) := by
  refine Shw.tuple (fun d hd => ?_) (by rw [List.length_map]; exact hl)
  obtain ⟨x, hx, rfl⟩ := List.mem_map.mp hd
  exact shw_word (h x hx)
theorem shw_eff {pan : List (List Int)} (g : Good pan) (row : List Int) : Shw 1 83 (dStrs (effM pan row)) :=
  shw_words (m := 10) (by rw [effM_len]; exact g.few) fun _ h => eff3 h
/-! ### (x,) * n -/
section
variable {X : Cx}
def rRepS (K : PySem.W.Frag) : R2 := fun x y H Q => rRep1 K x y H Q ∨ rRepT K x y H Q
theorem op_repS : OpR X (binaryOp .Mult) (rRepS X.K) := by
  intro pins s σ H x y v u Q I rx ry h
  rcases h with h | h
  · exact op_rep1 pins s σ H x y v u Q I rx ry h
  · exact op_repT pins s σ H x y v u Q I rx ry h
end
theorem rep_flat {α : Type} (n : Nat) (v : α) : (List.replicate n [v]).flatten = List.replicate n v := by
  induction n with
  | zero => rfl
  | succ n ih => rw [List.replicate_succ, List.flatten_cons, ih]; rfl
/-! ### zip of tuples -/
theorem walk_zipT {K : PySem.W.Frag} {a b : Addr} {xs ys : List V} {n : Nat} (hn : n = min xs.length ys.length) : Walk (RZ.ItzT K a b) n (fun H => SqT K H a xs ∧ SqT K H b ys) (YPair (fun i => xs[i]?) (fun i => ys[i]?)) := by
  subst hn
  refine ⟨fun i _ hi q => ?_, fun _ q => ⟨xs, ys, q.1, q.2, by omega⟩, fun i H v H' _ q y => ?_⟩
  · have h1 : i < xs.length := by omega
    have h2 : i < ys.length := by omega
    exact ⟨xs, ys, xs[i], ys[i], q.1, q.2, by simp [h1], by simp [h2]⟩
  · obtain ⟨T, x, z, h1, h2, h3, h4, h5⟩ := y
    exact ⟨T, x, z, h1, h2, h3, h4 xs q.1, h5 ys q.2⟩
theorem str_get {os : List Str} {k : Nat} {x : V} (h : (os.map V.str)[k]? = some x) : ∃ z, os[k]? = some z ∧ x = .str z := by
  rw [List.getElem?_map] at h
  cases e : os[k]? with
  | none => rw [e] at h; cases h
  | some z => rw [e] at h; exact ⟨z, rfl, (Option.some.inj h).symm⟩
theorem int_get {os : List Int} {k : Nat} {x : V} (h : (os.map V.int)[k]? = some x) : ∃ z, os[k]? = some z ∧ x = .int z := by
  rw [List.getElem?_map] at h
  cases e : os[k]? with
  | none => rw [e] at h; cases h
  | some z => rw [e] at h; exact ⟨z, rfl, (Option.some.inj h).symm⟩
theorem joinM_get {xs ys : List Str} {i : Nat} {x y : Str} (hx : xs[i]? = some x) (hy : ys[i]? = some y) : (joinM xs ys)[i]? = some (if y = wSame then x else y) := by
  unfold joinM
  rw [List.getElem?_zipWith, hx, hy]
theorem ixN_nat {n j : Nat} (h : j < n) : ixN n (j : Int) = some j := by
  unfold ixN
  rw [if_pos (by omega), if_pos (by omega)]; rfl
theorem gen_heap {X : Hp} {R : Hp → Prop} (C : Hp → Prop) (hX : C X) (h : ∀ H', C H' → R H') : R X := h X hX
theorem gen_name {i : Nat} {v : V} {σ : L2.St} {X : Hp} {D : L2.St → Hp → Prop} (C : Hp → Prop) (hX : C X) (h : ∀ H', C H' → gName i v σ H' D) : gName i v σ X D := h X hX
theorem tyes {σ : L2.St} {H : Hp} {Q : Bool → Hp → Prop} (h : Q true H) : tYes σ H Q := h
theorem pan_at {H : Hp} {p : Addr} {pan : List (List Int)} (h : PanAt H p pan) {b : Int} (h0 : 0 ≤ b) (h1 : b < (pan.length : Int)) :
    ∃ (qs : List Addr) (q : Addr), FT H p (qs.map V.ref) ∧ atI (qs.map V.ref) b = some (.ref q) ∧ FT H q ((pan.getD b.toNat []).map V.int) ∧ qs.length = pan.length := by
  obtain ⟨qs, hq, hqs⟩ := h
  obtain ⟨n, rfl⟩ : ∃ n : Nat, b = (n : Int) := ⟨b.toNat, (Int.toNat_of_nonneg h0).symm⟩
  have hn : n < pan.length := by omega
  obtain ⟨q', g1, g2⟩ := paired_get hqs n pan[n] (List.getElem?_eq_getElem hn)
  refine ⟨qs, q', hq, atI_nat (by rw [List.getElem?_map, g1]; rfl), ?_, hqs.length⟩
  rw [Int.toNat_natCast, List.getD_eq_getElem?_getD, List.getElem?_eq_getElem hn]
  exact g2
theorem inV_ints {b : Int} (l : List Int) : inV (.int b) (l.map V.int) = decide (b ∈ l) := by
  unfold inV
  rw [List.any_map, Bool.eq_iff_iff, List.any_eq_true, decide_eq_true_eq]
  constructor
  · rintro ⟨x, hx, e⟩
    have e' : x = b := by simpa [eqV] using e
    rw [← e']; exact hx
  · intro h
    exact ⟨b, h, by simp [eqV]⟩
theorem flat_ints : ∀ l : List Int, (l.map V.int).all flatV = true
  | [] => rfl
  | x :: r => by rw [List.map_cons, List.all_cons, flat_ints r]; rfl
end Pr
/-! Data of any kind, with dicts; its lists stand apart from the deck (a, c). -/
namespace Pr
open PySem PySem.Spec PyProof.Rows L2
mutual
inductive Dq (K : PySem.W.Frag) (N : Addr → Prop) (H : Hp) : V → PyData → Prop
  | non : Dq K N H .non .none
  | bl (b : Bool) : Dq K N H (.bl b) (.bool b)
  | int (i : Int) : Dq K N H (.int i) (.int i)
  | str (x : Str) : Dq K N H (.str x) (.str x)
  | lst {l : Addr} {xs : List V} {ds : List PyData} : l ≠ sysModules → ¬ N l → H l = some (.lst xs) → DqAll K N H xs ds → Dq K N H (.ref l) (.list ds)
  | tup {l : Addr} {xs : List V} {ds : List PyData} : SqT K H l xs → DqAll K N H xs ds → Dq K N H (.ref l) (.tuple ds)
  | dct0 {l : Addr} : H l = some (.dK []) → Dq K N H (.ref l) (.dict [])
  | dct1 {l : Addr} {x : Str} {i : Int} : H l = some (.dK [(Sum.inr x, .int i)]) → Dq K N H (.ref l) (.dict [(.str x, .int i)])
inductive DqAll (K : PySem.W.Frag) (N : Addr → Prop) (H : Hp) : List V → List PyData → Prop
  | nil : DqAll K N H [] []
  | cons {v : V} {vs : List V} {d : PyData} {ds : List PyData} : Dq K N H v d → DqAll K N H vs ds → DqAll K N H (v :: vs) (d :: ds)
end
section
variable {K : PySem.W.Frag} {N : Addr → Prop} {a c : Addr} {H H' : Hp}
theorem DqAll.length : ∀ {vs : List V} {ds : List PyData}, DqAll K N H vs ds → vs.length = ds.length
  | _, _, .nil => rfl
  | _, _, .cons _ t => by rw [List.length_cons, List.length_cons, t.length]
theorem DqAll.append : ∀ {vs us : List V} {ds es : List PyData}, DqAll K N H vs ds → DqAll K N H us es → DqAll K N H (vs ++ us) (ds ++ es)
  | _, _, _, _, .nil, h => h
  | _, _, _, _, .cons r t, h => .cons r (t.append h)
theorem DqAll.get : ∀ {vs : List V} {ds : List PyData}, DqAll K N H vs ds → ∀ (i : Nat) (v : V), vs[i]? = some v → ∃ d, ds[i]? = some d ∧ Dq K N H v d
  | _, _, .nil, i, v, h => by simp at h
  | _, _, .cons r t, 0, v, h => by simp at h; subst h; exact ⟨_, rfl, r⟩
  | _, _, .cons r t, i + 1, v, h => by
    obtain ⟨d, h1, h2⟩ := t.get i v (by simpa using h)
    exact ⟨d, by simpa using h1, h2⟩
theorem DqAll.take : ∀ (n : Nat) {vs : List V} {ds : List PyData}, DqAll K N H vs ds → DqAll K N H (vs.take n) (ds.take n)
  | 0, _, _, _ => by simpa using DqAll.nil
  | n + 1, _, _, .nil => .nil
  | n + 1, _, _, .cons r t => .cons r (t.take n)
theorem DqAll.drop : ∀ (n : Nat) {vs : List V} {ds : List PyData}, DqAll K N H vs ds → DqAll K N H (vs.drop n) (ds.drop n)
  | 0, _, _, h => h
  | n + 1, _, _, .nil => .nil
  | n + 1, _, _, .cons r t => t.drop n
theorem DqAll.reverse : ∀ {vs : List V} {ds : List PyData}, DqAll K N H vs ds → DqAll K N H vs.reverse ds.reverse
  | _, _, .nil => .nil
  | _, _, .cons r t => by rw [List.reverse_cons, List.reverse_cons]; exact t.reverse.append (.cons r .nil)
theorem DqAll.rep (n : Nat) {vs : List V} {ds : List PyData} (h : DqAll K N H vs ds) : DqAll K N H (List.replicate n vs).flatten (List.replicate n ds).flatten := by
  induction n with
  | zero => exact .nil
  | succ n ih => rw [List.replicate_succ, List.replicate_succ, List.flatten_cons, List.flatten_cons]; exact h.append ih
theorem dqAll_ints : ∀ l : List Int, DqAll K N H (l.map V.int) (l.map PyData.int)
  | [] => .nil
  | x :: r => .cons (.int x) (dqAll_ints r)
theorem dq_ints {q : Addr} {l : List Int} (h : SqT K H q (l.map V.int)) : Dq K N H (.ref q) (dInts l) := .tup h (dqAll_ints l)
theorem dqAll_pan : ∀ {qs : List Addr} {pan : List (List Int)}, Paired (fun q l => FT H q (l.map V.int)) qs pan → DqAll K N H (qs.map V.ref) (pan.map dInts)
  | _, _, .nil => .nil
  | _, _, .cons r t => .cons (dq_ints r.sq) (dqAll_pan t)
mutual
theorem Dq.keep (hs : ∀ l o, ¬ N l → H l = some o → H' l = some o) (ht : ∀ l xs, SqT K H l xs → SqT K H' l xs) (hk : ∀ l kvs, H l = some (.dK kvs) → H' l = some (.dK kvs)) : ∀ (d : PyData) (v : V), Dq K N H v d → Dq K N H' v d
  | .none, _, h => by cases h; exact .non
  | .bool b, _, h => by cases h; exact .bl b
  | .int i, _, h => by cases h; exact .int i
  | .str x, _, h => by cases h; exact .str x
  | .list ds, _, h => by
    cases h with
    | lst h1 h2 e q => exact .lst h1 h2 (hs _ _ h2 e) (Dq.keepAll hs ht hk ds _ q)
  | .tuple ds, _, h => by
    cases h with
    | tup e q => exact .tup (ht _ _ e) (Dq.keepAll hs ht hk ds _ q)
  | .dict kvs, _, h => by
    cases h with
    | dct0 e => exact .dct0 (hk _ _ e)
    | dct1 e => exact .dct1 (hk _ _ e)
theorem Dq.keepAll (hs : ∀ l o, ¬ N l → H l = some o → H' l = some o) (ht : ∀ l xs, SqT K H l xs → SqT K H' l xs) (hk : ∀ l kvs, H l = some (.dK kvs) → H' l = some (.dK kvs)) : ∀ (ds : List PyData) (vs : List V), DqAll K N H vs ds → DqAll K N H' vs ds
  | [], _, h => by cases h; exact .nil
  | d :: ds, _, h => by
    cases h with
    | cons r t => exact .cons (Dq.keep hs ht hk d _ r) (Dq.keepAll hs ht hk ds _ t)
end
theorem Deck.sqT {m : Nat} (D : Deck H a c m) (b : But a c H H') {l : Addr} {xs : List V} (h : SqT K H l xs) : SqT K H' l xs := by
  rcases h with (h | ⟨o, h⟩) | h
  · exact .inl (.inl (b _ _ (D.apart h (fun _ => by intro z; cases z)).1 (D.apart h (fun _ => by intro z; cases z)).2 h))
  · exact .inl (.inr ⟨o, b _ _ (D.apart h (fun _ => by intro z; cases z)).1 (D.apart h (fun _ => by intro z; cases z)).2 h⟩)
  · exact .inr h
theorem Deck.dk {m : Nat} (D : Deck H a c m) (l : Addr) (kvs : List (Key × V)) (h : H l = some (.dK kvs)) : l ≠ a ∧ l ≠ c := D.apart h (fun _ => by intro z; cases z)
theorem apart_N (na : N a) (nc : N c) {l : Addr} (h : ¬ N l) : l ≠ a ∧ l ≠ c := ⟨fun e => h (by rw [e]; exact na), fun e => h (by rw [e]; exact nc)⟩
theorem Dq.but {m : Nat} (na : N a) (nc : N c) (D : Deck H a c m) (b : But a c H H') {v : V} {d : PyData} (h : Dq K N H v d) : Dq K N H' v d :=
  Dq.keep (fun l o h1 e => b l o (apart_N na nc h1).1 (apart_N na nc h1).2 e) (fun _ _ e => D.sqT b e) (fun l kvs e => b _ _ (D.dk l kvs e).1 (D.dk l kvs e).2 e) d v h
theorem DqAll.but {m : Nat} (na : N a) (nc : N c) (D : Deck H a c m) (b : But a c H H') {v : List V} {d : List PyData} (h : DqAll K N H v d) : DqAll K N H' v d :=
  Dq.keepAll (fun l o h1 e => b l o (apart_N na nc h1).1 (apart_N na nc h1).2 e) (fun _ _ e => D.sqT b e) (fun l kvs e => b _ _ (D.dk l kvs e).1 (D.dk l kvs e).2 e) d v h
mutual
theorem Dq.same (e : Same H H') : ∀ (d : PyData) (v : V), Dq K N H v d → Dq K N H' v d
  | .none, _, h => by cases h; exact .non
  | .bool b, _, h => by cases h; exact .bl b
  | .int i, _, h => by cases h; exact .int i
  | .str x, _, h => by cases h; exact .str x
  | .list ds, _, h => by
    cases h with
    | lst h1 h2 q r => exact .lst h1 h2 (e _ _ q) (Dq.sameAll e ds _ r)
  | .tuple ds, _, h => by
    cases h with
    | tup q r => exact .tup (same_sqT e q) (Dq.sameAll e ds _ r)
  | .dict kvs, _, h => by
    cases h with
    | dct0 q => exact .dct0 (e _ _ q)
    | dct1 q => exact .dct1 (e _ _ q)
theorem Dq.sameAll (e : Same H H') : ∀ (ds : List PyData) (vs : List V), DqAll K N H vs ds → DqAll K N H' vs ds
  | [], _, h => by cases h; exact .nil
  | d :: ds, _, h => by
    cases h with
    | cons r t => exact .cons (Dq.same e d _ r) (Dq.sameAll e ds _ t)
end
/-- its built-in type -/
def tyD : PyData → String
  | .none => "NoneType"
  | .bool _ => "bool"
  | .int _ => "int"
  | .str _ => "str"
  | .list _ => "list"
  | .tuple _ => "tuple"
  | .dict _ => "dict"
theorem tyT {l : Addr} {xs : List V} (h : SqT K H l xs) : TyX K H (.ref l) (.type "tuple") := by
  rcases h with (h | ⟨o, h⟩) | ⟨o, its, n, h, hc, _⟩
  · exact .base (.tup h)
  · exact .fTuple h
  · exact .kTuple h hc
theorem Dq.ty {v : V} {d : PyData} (h : Dq K N H v d) : TyX K H v (.type (tyD d)) := by
  cases h with
  | non => exact .base .non
  | bl b => exact .base (.bl b)
  | int i => exact .base (.int i)
  | str x => exact .base (.str x)
  | lst _ _ e _ => exact .base (.lst e)
  | tup e _ => exact tyT e
  | dct0 e => exact .base (.dK e)
  | dct1 e => exact .base (.dK e)
end
section
variable {X : Cx} {pins : List (Addr × Obj)} {σ : L2.St} {H : Hp} {s : Shared} {N : Addr → Prop}
mutual
theorem Dq.reads (I : Inv X pins σ H s) : ∀ (d : PyData) (v : V) (u : Value), Dq X.K N H v d → RelV v u → ∃ as, Reads s.heap u d as ∧ sysModules ∉ as
  | .none, _, _, h, r => by
    cases h; cases r; exact ⟨_, Reads.none, by simp⟩
  | .bool b, _, _, h, r => by
    cases h; cases r; exact ⟨_, Reads.bool b, by simp⟩
  | .int i, _, _, h, r => by
    cases h; obtain ⟨t, rfl⟩ := r; exact ⟨_, Reads.int i t, by simp⟩
  | .str x, _, _, h, r => by
    cases h; obtain ⟨t, rfl⟩ := r; exact ⟨_, Reads.str x t, by simp⟩
  | .list ds, _, _, h, r => by
    cases h with
    | lst h1 _ hs ha =>
      cases r
      obtain ⟨_, its, n, rv, ho⟩ := I.hok _ _ hs
      obtain ⟨as, hr, hn⟩ := Dq.readsAll I ds _ its ha rv
      exact ⟨_, Reads.list ho rfl rfl hr, by simp [hn, Ne.symm h1]⟩
  | .tuple ds, _, _, h, r => by
    cases h with
    | tup hs ha =>
      cases r
      obtain ⟨its, rv, ⟨o, ho, hc, n, hd⟩, _⟩ := I.tuple hs
      obtain ⟨as, hr, hn⟩ := Dq.readsAll I ds _ its ha rv
      exact ⟨_, Reads.tuple ho hc hd hr, hn⟩
  | .dict _, _, _, h, r => by
    cases h with
    | dct0 e =>
      cases r
      obtain ⟨_, ns, vs, kv, o, es, ep, ho, hc, hd, _, hp, _⟩ := I.hok _ _ e
      cases kv
      have he : es.toList = [] := by cases hes : es.toList with
        | nil => rfl
        | cons x y => rw [hes] at hp; cases hp
      have ns' := of_decide_eq_false (show decide (_ = sysModules) = false by simpa using ns)
      refine ⟨_, Reads.dict (kvs := []) ho hc.1 hd (by rw [he]; exact .nil) (by rw [he]; exact .nil), ?_⟩
      simp [Ne.symm ns']
    | @dct1 l x i e =>
      cases r
      obtain ⟨_, ns, vs, kv, o, es, ep, ho, hc, hd, _, hp, _⟩ := I.hok _ _ e
      cases kv with
      | @cons p q l1 l2 kq kr =>
        cases kr
        obtain ⟨h1, t, h2⟩ := kq
        obtain ⟨en, he, hk, hv⟩ : ∃ en, es.toList = [en] ∧ keyIs q.1 en.key = true ∧ en.val = q.2 := by
          cases hes : es.toList with
          | nil => rw [hes] at hp; cases hp
          | cons x y =>
            rw [hes] at hp
            cases hp with
            | cons p1 p2 p3 => cases p3; exact ⟨x, rfl, p1, p2⟩
        have h1' : (Sum.inr x : Key) = q.1 := h1
        rw [← h1'] at hk
        obtain ⟨t', hk'⟩ := Value.isStrOf_shape (show Value.isStrOf x en.key = true from hk)
        have ns' := of_decide_eq_false (show decide (_ = sysModules) = false by simpa using ns)
        refine ⟨_, Reads.dict (kvs := [(.str x, .int i)]) ho hc.1 hd (as := [] ++ []) (bs := [] ++ []) ?_ ?_, ?_⟩
        · rw [he]; show ReadsAll _ [en.key] _ _; rw [hk']; exact .cons (.str x t') .nil
        · rw [he]; show ReadsAll _ [en.val] _ _; rw [hv, h2]; exact .cons (.int i t) .nil
        · simp [Ne.symm ns']
theorem Dq.readsAll (I : Inv X pins σ H s) : ∀ (ds : List PyData) (vs : List V) (us : List Value), DqAll X.K N H vs ds → Vals vs us → ∃ as, ReadsAll s.heap us ds as ∧ sysModules ∉ as
  | [], _, _, h, r => by
    cases h; cases r; exact ⟨_, ReadsAll.nil, by simp⟩
  | d :: ds, _, _, h, r => by
    cases h with
    | cons h1 h2 =>
      cases r with
      | cons r1 r2 =>
        obtain ⟨as, q1, n1⟩ := Dq.reads I d _ _ h1 r1
        obtain ⟨bs, q2, n2⟩ := Dq.readsAll I ds _ _ h2 r2
        exact ⟨_, ReadsAll.cons q1 q2, by simp [n1, n2]⟩
end
end
/-! ### how deep, how long -/
structure Shq (dep n : Nat) (d : PyData) : Prop where
  sh : d.showable = true
  dp : d.depth ≤ dep
  ln : d.shown.length ≤ n
theorem Shq.mono {dep dep' n n' : Nat} {d : PyData} (h : Shq dep n d) (h1 : dep ≤ dep') (h2 : n ≤ n') : Shq dep' n' d := ⟨h.sh, Nat.le_trans h.dp h1, Nat.le_trans h.ln h2⟩
theorem Shw.q {dep n : Nat} {d : PyData} (h : Shw dep n d) : Shq dep n d := ⟨h.sh, h.dp, h.ln⟩
theorem shqAll {dep n : Nat} : ∀ {ds : List PyData}, (∀ d ∈ ds, Shq dep n d) → PyData.showableAll ds = true ∧ PyData.depthAll ds ≤ dep
  | [], _ => ⟨by simp only [PyData.showableAll], by simp [PyData.depthAll]⟩
  | d :: r, h => by
    obtain ⟨h1, h3⟩ := shqAll (ds := r) fun x hx => h x (List.mem_cons_of_mem _ hx)
    have g := h d List.mem_cons_self
    refine ⟨by simp only [PyData.showableAll, g.sh, h1, Bool.and_self], ?_⟩
    simp only [PyData.depthAll]
    exact Nat.max_le.mpr ⟨g.dp, h3⟩
theorem Shq.tuple {dep n m : Nat} {ds : List PyData} (h : ∀ d ∈ ds, Shq dep n d) (hm : ds.length ≤ m) : Shq (dep + 1) (m * (n + 2) + 3) (.tuple ds) := by
  obtain ⟨h1, h3⟩ := shqAll h
  refine ⟨by simp only [PyData.showable, h1], by simp only [PyData.depth]; omega, ?_⟩
  simp only [PyData.shown]
  rw [shownAll_map]
  have a1 := tupleText_len (ds.map PyData.shown)
  have a2 := piled_le fun d hd => (h d hd).ln
  have a3 : ds.length * (n + 2) ≤ m * (n + 2) := Nat.mul_le_mul_right _ hm
  omega
theorem Shq.list {dep n m : Nat} {ds : List PyData} (h : ∀ d ∈ ds, Shq dep n d) (hm : ds.length ≤ m) : Shq (dep + 1) (m * (n + 2) + 3) (.list ds) := by
  obtain ⟨h1, h3⟩ := shqAll h
  refine ⟨by simp only [PyData.showable, h1], by simp only [PyData.depth]; omega, ?_⟩
  simp only [PyData.shown]
  rw [shownAll_map]
  have a1 := listText_len (ds.map PyData.shown)
  have a2 := piled_le fun d hd => (h d hd).ln
  have a3 : ds.length * (n + 2) ≤ m * (n + 2) := Nat.mul_le_mul_right _ hm
  omega
/-! ### repr of such data -/
def rReprQ (K : PySem.W.Frag) : List V → Hp → VK → Prop := fun xs H Q => ∃ (N : Addr → Prop) (v : V) (d : PyData), xs = [v] ∧ Dq K N H v d ∧ Shq 60 sizeLine d ∧ Q (.str d.shown) H
theorem call_reprQ {X : Cx} {k : Nat} (gd : X.A.guards = some []) (hr : Room k X.A) : CallR X (.builtin "repr") (rReprQ X.K) := by
  intro pins s σ H xs us Q I rv h
  obtain ⟨N, v, d, rfl, hd, hs, q⟩ := h
  obtain ⟨u, rfl, rx⟩ := vals1 rv
  have isref : ∀ (l : Addr), v = .ref l → wpAny (model X.prog X.w) X.A (call (.builtin "repr") [u]) (EP X pins σ Q) X.xe s := fun l e => by
    subst e
    obtain ⟨as, r, hn⟩ := Dq.reads I d _ _ hd rx
    obtain rfl : u = .ref l := rx
    exact repr_of_reads' r hs.sh (fun _ => hn) gd (by have := hr.un; have := hs.dp; omega) (fun _ _ e => e) (fun h' t tk hk => ⟨.str d.shown, H, I.kept hk, ⟨t, rfl⟩, q⟩) hs.ln
  cases hd with
  | non => obtain rfl : u = .none := rx; exact PySem.P.repr_of_none ⟨.str "None", H, I.tok _, ⟨_, rfl⟩, by simpa only [PyData.shown] using q⟩
  | bl b => obtain rfl : u = .bool b := rx; exact PySem.P.repr_of_bool ⟨.str _, H, I.tok _, ⟨_, rfl⟩, by simpa only [PyData.shown] using q⟩
  | int i =>
    obtain ⟨t, rfl⟩ := rx
    have h1 : i.natAbs.log2 < 1920 := by simpa only [PyData.showable, decide_eq_true_eq] using hs.sh
    exact PySem.P.repr_of_int h1 ⟨.str _, H, I.tok _, ⟨_, rfl⟩, by simpa only [PyData.shown] using q⟩
  | str x =>
    obtain ⟨t, rfl⟩ := rx
    have h1 : (reprText x).length ≤ sizeLine := by simpa only [PyData.shown] using hs.ln
    exact PySem.P.repr_of_str ⟨.str _, H, I.tok _, ⟨_, rfl⟩, by simpa only [PyData.shown] using q⟩ h1
  | lst _ _ _ _ => exact isref _ rfl
  | tup _ _ => exact isref _ rfl
  | dct0 _ => exact isref _ rfl
  | dct1 _ => exact isref _ rfl
end Pr
/-! Rules for what the laws do with values of any kind. -/
namespace Pr
open PySem PySem.Spec PyProof.Rows L2
section
variable {X : Cx} {es : List Expr} {t : TA} {pos : Pos}
/-- a list that stands apart from the modules' table -/
def tLstG (t : TA) : TE := fun σ H Q => t σ H fun xs H1 => xs.length ≤ sizeLine ∧ ∀ p, H1 p = none → p ≠ sysModules → Q (.ref p) (upd H1 p (.lst xs))
theorem pe_lstG (h : PA X es t) : PE X (.List es pos) (tLstG t) := by
  refine ⟨fun pins s σ H Q I hq => wpAny_List_spliced (thn (h.run pos pins s σ H _ I hq) fun us s1 ⟨xs, H1, I1, r, z, q⟩ => ⟨by rw [← r.length]; exact z, ?_⟩)⟩
  refine ⟨.ref s1.heap.objs.size, upd H1 s1.heap.objs.size (.lst xs), I1.laid (t' := s1.toks) (fun b u e => Heap.get?_push_of_some _ e) (Nat.le_refl _) ⟨z, us, 0, r, Heap.get?_push_size _ rfl⟩, rfl,
    q _ (I1.hok.fresh (Nat.le_refl _)) (Nat.ne_of_gt I1.big)⟩
def rListG (K : PySem.W.Frag) : List V → Hp → VK → Prop := fun xs H Q => ∃ p ys, xs = [.ref p] ∧ SqT K H p ys ∧ ∀ l, H l = none → l ≠ sysModules → Q (.ref l) (upd H l (.lst ys))
theorem call_listG : CallR X (.type "list") (rListG X.K) := by
  intro pins s σ H xs us Q I r h
  obtain ⟨p, ys, rfl, hq, q⟩ := h
  obtain ⟨u, rfl, rx⟩ := vals1 r
  cases rx
  obtain ⟨its, r', ⟨o, ho, hc, n, hd⟩, hz⟩ := I.tuple hq
  have hlen := r'.length
  refine call_list_seq p (.inr rfl) ho hc hd (fun h' c' kp e => ?_) (by simp only [List.size_toArray] <;> omega)
  exact ⟨.ref s.heap.objs.size, _, I.laid (t' := s.toks) kp (Nat.le_refl _) (show ObjOk X.prog X.w _ h' _ (.lst ys) from ⟨hz, its, c', r', e⟩), rfl, q _ (I.hok.fresh (Nat.le_refl _)) (Nat.ne_of_gt I.big)⟩
/-- sorted(tuple of ints) -/
def rSortT (K : PySem.W.Frag) : List V → Hp → VK → Prop := fun vs H Q => ∃ (a : Addr) (ns : List Int), vs = [V.ref a] ∧ SqT K H a (ns.map V.int) ∧ ns.length < 64 ∧
  ∀ (ns' : List Int) (p : Addr), ns'.Perm ns → ns'.Pairwise (· ≤ ·) → H p = none → Q (.ref p) (upd H p (.lst (ns'.map V.int)))
theorem cr_sortT : CallR X (.builtin "sorted") (rSortT X.K) := by
  intro pins s σ H vs us Q I r h
  obtain ⟨a, ns, rfl, hs, h64, q⟩ := h
  obtain ⟨its, rv, ⟨o, ho, hc, n, hd⟩, hz⟩ := I.tuple hs
  rw [Vals.ref1 r]
  have hi := rv.ints
  have hlen := hi.length
  refine Calls.call_function_entry kind_sorted plain_sorted entry_sorted (args_sorted1 _) ?_
  unfold Builtin.«sorted»
  refine wpAny_bind (m := checkCount "sorted" 1 1 _) (wpAny_pure ?_)
  refine wpAny_bind (wpAny_collect_seq a (.inr rfl) ho hc hd (fun h' kp => ?_) (by rw [List.size_toArray, hlen]; exact small64 h64))
  have e : its.toArray.toList = its := by simp
  rw [e]
  refine wpAny_bind (wpAny_newList ?_)
  have I1 : Inv X pins σ H { s with heap := h' } := I.kept (t' := s.toks) kp
  have hoL : (h'.push (seqObj "list" its.toArray 0)).get? h'.objs.size = some (seqObj "list" its.toArray 0) := Heap.get?_push_size _ rfl
  refine wpAny_bind (wpAny_holding (wpAny_call_entry slot_list_sort ⟨_, hoL, rfl⟩ entry_list_sort (list_sort_tree hoL hi (by rw [hlen]; exact h64) fun out ns' a1 a2 a3 => ⟨_, rfl, ?_⟩) (args_list_sort _)))
  obtain ⟨ep, he'⟩ := PyProof.Rows.sortedHeap_at (vs := its) (out := out) hoL
  have hl2 : (ns'.map V.int).length ≤ sizeLine := by rw [List.length_map, a2.length_eq]; exact small64 h64
  refine wpAny_pure ⟨_, rfl, .ref h'.objs.size, upd H h'.objs.size (.lst (ns'.map V.int)), I1.laid (t' := s.toks) (fun b ob q => ?_) (Nat.le_refl _) ⟨hl2, out.toList, ep, vals_of_ints a1, he'⟩, rfl, q ns' _ a2 a3 (I1.hok.fresh (Nat.le_refl _))⟩
  have hb : b < h'.objs.size := Heap.lt_size q
  rw [PyProof.Rows.sortedHeap_old (Nat.ne_of_lt hb) (by rw [Heap.size_push]; exact Nat.lt_succ_of_lt hb)]
  exact Heap.get?_push_of_some _ q
/-- set(tuple of ints) -/
def rSetI (K : PySem.W.Frag) (w : World) : List V → Hp → VK → Prop := fun vs H Q => ∃ (a : Addr) (ns : List Int), vs = [V.ref a] ∧ SqT K H a (ns.map V.int) ∧ ns.length ≤ 200 ∧
  ∀ (l : Addr) (n : Nat), H l = none → n ≤ ns.length → Q (.ref l) (upd H l (SetO w l (fun j => decide (j ∈ ns)) n))
theorem cr_setI (hc : X.calm = true) : CallR X (.type "set") (rSetI X.K X.w) := by
  intro pins s σ H vs us Q I r h
  obtain ⟨a, ns, rfl, hs, hn, q⟩ := h
  obtain ⟨its, rv, pt, hz⟩ := I.tuple hs
  rw [Vals.ref1 r]
  have hi := rv.ints
  refine call_set_tupI ns (I.ok.hd hc) pt (by simpa using hi) (Nat.lt_of_le_of_lt (Nat.add_le_add_right hn 1) (by decide)) fun h' tk n R hn' kp => ?_
  exact ⟨.ref s.heap.objs.size, _, I.laid (t' := tk) kp (Nat.le_refl _) (setO_new R), rfl, q _ n (I.hok.fresh (Nat.le_refl _)) hn'⟩
end
/-! ### t[::-1] -/
section
variable {prog : Program} {w : World} {A : Around} {E : Value → Shared → Prop} {s : Shared}
theorem fm_congr {f g : Nat → Option Value} : ∀ {l : List Nat}, (∀ x ∈ l, f x = g x) → l.filterMap f = l.filterMap g
  | [], _ => rfl
  | x :: r, h => by
    rw [List.filterMap_cons, List.filterMap_cons, h x List.mem_cons_self, fm_congr fun y hy => h y (List.mem_cons_of_mem _ hy)]
theorem pick_back (l : List Value) : (List.range l.length).filterMap (fun (k : Nat) => l[(((l.length : Int) - 1) + (k : Int) * (-1)).toNat]?) = l.reverse := by
  have h1 : (List.range l.length).filterMap (fun (k : Nat) => l[(((l.length : Int) - 1) + (k : Int) * (-1)).toNat]?) = (List.range l.length).filterMap (fun (k : Nat) => some ((l[l.length - 1 - k]?).getD .none)) := by
    refine fm_congr fun k hk => ?_
    have hk' := List.mem_range.mp hk
    rw [show (((l.length : Int) - 1) + (k : Int) * (-1)).toNat = l.length - 1 - k by omega, List.getElem?_eq_getElem (by omega)]; rfl
  rw [h1, show (fun (k : Nat) => some ((l[l.length - 1 - k]?).getD Value.none)) = some ∘ (fun k : Nat => (l[l.length - 1 - k]?).getD Value.none) from rfl, List.filterMap_eq_map]
  refine List.ext_getElem? fun i => ?_
  by_cases hi : i < l.length
  · rw [List.getElem?_map, List.getElem?_range hi, List.getElem?_reverse hi, List.getElem?_eq_getElem (by omega)]
    show some ((l[l.length - 1 - i]?).getD Value.none) = _
    rw [List.getElem?_eq_getElem (by omega)]; rfl
  · rw [List.getElem?_eq_none (by rw [List.length_map, List.length_range]; omega), List.getElem?_eq_none (by rw [List.length_reverse]; omega)]
theorem getItem_tuple_back {t sl : Addr} {its : List Value} {Q : Value → Shared → Prop} {vs : Value} (ht : IsTup s.heap t its.toArray) (hs : s.heap.IsSliceOf sl .none .none vs) (ps : IsPart vs (some (-1)))
    (h : Q (.ref s.heap.objs.size) { s with heap := s.heap.push { cls := .type "tuple", data := .seq its.reverse.toArray } }) (hsz : its.length ≤ sizeLine) : wpAny (model prog w) A (getItem (.ref t) (.ref sl)) Q E s := by
  obtain ⟨os, hos, hcs, hds⟩ := id hs
  have hTs : s.TypeIs (.ref sl) "slice" := ⟨os, hos, hcs⟩
  unfold getItem
  try with_reducible refine wpAny_holding ?_
  first | refine wpAny_bind (wpAny_pure ?_) | skip
  refine wpAny_bind (wpAny_sequenceKey ht.typeIs (by decide) ?_)
  refine wpAny_bind (wpAny_callSpecial?_slot (name := Str.ofString "__getitem__") ht.typeIs PyProof.Rows.slot_tuple_getitem (wpAny_call_entry PyProof.Rows.slot_tuple_getitem ht.typeIs entry_tuple_getitem ?_ (args_tuple_getitem _ _)))
  show wpAny _ _ (Builtin.Tuple.tupleItemsOf (.ref t) >>= _) _ _ s
  refine wpAny_bind (tupleItemsOf_ ht (wpAny_bind (wpAny_typeOf hTs ?_)))
  rw [if_pos (by decide)]
  have hp : Builtin.Slice.slicePlaces ((its.length : Int) - 1) (-1) (-1) = its.length := by
    unfold Builtin.Slice.slicePlaces
    rw [if_neg (by omega)]
    split
    · simp only [Int.neg_neg, Int.ediv_one]; omega
    · omega
  refine wpAny_bind ?_
  unfold Builtin.Slice.sliceApplied Builtin.Slice.sliceFields
  refine wpAny_bind (wpAny_bind (wpAny_field hos hds (x := .none) rfl (wpAny_bind (wpAny_field hos hds (x := .none) rfl (wpAny_bind (wpAny_field hos hds (x := vs) rfl (wpAny_pure ?_)))))))
  refine wpAny_bind (HT.slicePart_ ps ?_)
  show wpAny _ _ (if ((-1 : Int) == 0) = true then _ else _) _ _ s
  rw [if_neg (by decide)]
  refine wpAny_bind (slicePart_none (wpAny_bind (slicePart_none (wpAny_bind (wpAny_pure ?_)))))
  show wpAny _ _ (pure (((its.toArray.size : Nat) : Int) - 1, (-1 : Int), Builtin.Slice.slicePlaces (((its.toArray.size : Nat) : Int) - 1) (-1) (-1))) _ _ s
  rw [List.size_toArray, hp]
  refine wpAny_pure ?_
  show wpAny _ _ (if ((((its.length : Nat) : Int) - 1 == 0 && (-1 : Int) == 1 && its.length == its.toArray.size) = true) then _ else _) _ _ s
  rw [if_neg (by rw [show ((-1 : Int) == 1) = false by decide, Bool.and_false, Bool.false_and]; exact Bool.false_ne_true)]
  have ep : ((List.range its.length).filterMap fun (k : Nat) => its.toArray[((its.length : Int) - 1 + (k : Int) * (-1)).toNat]?).toArray = its.reverse.toArray := by
    have := pick_back its
    simp only [List.getElem?_toArray]
    rw [this]
  rw [ep]
  have htake : sizeOk (.seq its.reverse.toArray) := by
    show its.reverse.toArray.size ≤ sizeLine
    rw [List.size_toArray, List.length_reverse]; exact hsz
  first
    | exact wpAny_bind (m := Builtin.Tuple.tupleExact _) (wpAny_newObj_type (wpAny_pure ⟨_, rfl, wpAny_pure h⟩) htake)
    | exact wpAny_bind (m := Builtin.Tuple.tupleExact _) (wpAny_newObj_type (wpAny_bind (wpAny_pure (wpAny_pure ⟨_, rfl, wpAny_pure h⟩))) htake)
    | exact wpAny_bind (wpAny_bind (m := Builtin.Tuple.tupleExact _) (wpAny_newObj_type (wpAny_pure (wpAny_pure ⟨_, rfl, wpAny_pure h⟩)) htake))
    | exact wpAny_bind (wpAny_bind (m := Builtin.Tuple.tupleExact _) (wpAny_newObj_type (wpAny_pure ⟨_, rfl, wpAny_pure h⟩) htake))
end
section
variable {X : Cx}
def tRevT (K : PySem.W.Frag) (te : TE) : TE := fun σ H Q => te σ H fun x H1 => ∃ a xs, x = .ref a ∧ SqT K H1 a xs ∧ ∀ p, H1 p = none → Q (.ref p) (upd H1 p (.tup xs.reverse))
theorem pe_revT {e : Expr} {te : TE} {k : Nat} {p1 p2 p3 pos : Pos} (he : PE X e te) : PE X (.Subscript e (.Slice none none (some (.UnaryOp .USub (.Constant (.int 1) k p1) p2)) p3) pos) (tRevT X.K te) := by
  refine ⟨fun pins s σ H Q I h => Subscript_ (thn (he.run pins s σ H _ I h) fun v s1 ⟨x, H1, I1, r1, a, xs, ex, hx, q⟩ => ?_)⟩
  subst ex
  cases r1
  have hst : PO X (some (.UnaryOp .USub (.Constant (.int 1) k p1) p2)) (tPart (tUn (rU fun i => .int (-i)) (tC (.int 1)))) := po_some (pe_un un_neg pe_int)
  refine wpAny_Slice (thn (po_none.run pins s1 σ H1 (fun o H2 => o = none ∧ H2 = H1) I1 ⟨rfl, rfl⟩) fun vl s2 ⟨l, H2, I2, pl, el, e2⟩ => ?_)
  subst el e2
  refine thn (po_none.run pins s2 σ H2 (fun o H3 => o = none ∧ H3 = H2) I2 ⟨rfl, rfl⟩) fun vu s3 ⟨u, H3, I3, pu, eu, e3⟩ => ?_
  subst eu e3
  refine thn (hst.run pins s3 σ H3 (fun o H4 => o = some (-1) ∧ H4 = H3) I3 ⟨1, rfl, -1, rfl, rfl, rfl⟩) fun vs s4 ⟨o, H4, I4, ps, eo, e4⟩ => ?_
  subst eo e4
  cases pl
  cases pu
  have I5 : Inv X pins σ H4 { s4 with heap := s4.heap.push { cls := .type "slice", data := .fields #[.none, .none, vs] } } := I4.kept (t' := s4.toks) fun b ob q => Heap.get?_push_of_some _ q
  obtain ⟨its, r, ht, hz⟩ := I5.tuple hx
  have hlen := r.length
  show wpAny (model X.prog X.w) X.A (subscriptTail e (.Slice none none (some (.UnaryOp .USub (.Constant (.int 1) k p1) p2)) p3) (.ref a) (.ref s4.heap.objs.size)) (EP X pins σ Q) X.xe { s4 with heap := s4.heap.push { cls := .type "slice", data := .fields #[.none, .none, vs] } }
  refine tail_any (ops := [.ref a, .ref s4.heap.objs.size]) ht.typeIs (PyProof.Rows.slot_tuple_getitem.lookup) ?_ (by with_unfolding_all rfl)
  refine getItem_tuple_back ht (Heap.IsSliceOf.new _ .none .none vs) ps ?_ (by omega)
  refine ⟨.ref _, _, I5.laid (t' := s4.toks) (o := .tup xs.reverse) (fun b ob q => Heap.get?_push_of_some _ q) (Nat.le_refl _) ?_, rfl, q _ (I5.hok.fresh (Nat.le_refl _))⟩
  exact ⟨by rw [List.length_reverse]; exact hz, _, r.reverse, IsTup.new _ _⟩
end
end Pr
/-! set(list of ints), and how many there are in it. -/
namespace Pr
open PySem PySem.Spec PyProof.Rows L2
section
variable {P : Program} {w : World} {A : Around} {E : Value → Shared → Prop} {s : Shared}
/-- a set just made -/
def set0 (w : World) : Obj := { cls := .type "set", dict := none, data := .set #[] 0 (.fresh 0 0 (!w.params.followText "set-order")) }
/-- a type's call by the codes of its two steps -/
theorem type_by {T nw ini : String} {xs : List Value} {Q Q1 : Value → Shared → Prop} (tc : TypeCalled T nw ini) (ok : checkTypeCall T ⟨xs, []⟩ = pure ())
    (first : codeAny (model P w) A.in1 (.call (.builtin nw) ⟨.type T :: xs, []⟩) (wants Q1 E) s)
    (second : ∀ v t, Q1 v t → t.TypeIs v T ∧ codeAny (model P w) A.in1 (.call (.builtin ini) ⟨v :: xs, []⟩) (wants (fun u t' => u = .none ∧ Q v t') E) t) :
    wpAny (model P w) A (call (.type T) xs) Q E s := by
  have f1 := tc.made; have f2 := tc.sub; have f3 := tc.notType; have f4 := tc.canCreate
  obtain ⟨c0, cs, f5⟩ := tc.mro
  apply wpAny_call; apply codeAny_of_tree
  change wpAny _ _ (callAny (Value.type T) _) _ _ _
  apply wpAny_pure; refine ⟨Code.quiet_builtin _ (by decide +kernel), ?_⟩
  apply codeAny_builtin F.entry_type_call; rw [Around.under_plain (weight_type_call_type T xs []) rfl]
  repeat (any_goals (first | assumption | wp_step))
  apply codeAny_mono first; intro r t hr
  match r, hr with
  | .error e, hr => exact hr
  | .ok .next, hr => exact hr.elim
  | .ok .brk, hr => exact hr.elim
  | .ok .cont, hr => exact hr.elim
  | .ok (.ret v), hr =>
    obtain ⟨hT, hc⟩ := second v t hr
    have f6 := tc.init.lookup; have f7 := tc.init.bind v
    repeat (any_goals (first | assumption | wp_step))
    apply codeAny_mono hc; intro r2 t2 hr2
    match r2, hr2 with
    | .error e, hr2 => exact hr2
    | .ok .next, hr2 => exact hr2.elim
    | .ok .brk, hr2 => exact hr2.elim
    | .ok .cont, hr2 => exact hr2.elim
    | .ok (.ret u), hr2 =>
      obtain ⟨rfl, hq⟩ := hr2
      repeat (any_goals (first | assumption | wp_step))
theorem call_setL {l : Addr} {its : Array Value} (ns : List Int) {Q : Value → Shared → Prop} (hh : A.handled = none) (hl : s.heap.IsList l its) (hi : IntsAre its.toList ns) (hb : ns.length + 1 < scanBound)
    (h : ∀ (h' : Heap) (tk c : Nat), SetR w h' s.heap.objs.size (fun j => decide (j ∈ ns)) c → (∀ b o, s.heap.get? b = some o → h'.get? b = some o) → Q (.ref s.heap.objs.size) { s with heap := h', toks := tk }) :
    wpAny (model P w) A (call (.type "set") [.ref l]) Q E s := by
  have hn : its.size = ns.length := by simpa using hi.length
  refine type_by F.called_set (F.typeCall_set_1 (.ref l)) (Q1 := fun v t => v = .ref s.heap.objs.size ∧ t = { s with heap := s.heap.push (set0 w) }) (code_set_led1 (.ref l) ⟨rfl, rfl⟩) ?_
  rintro obj t ⟨rfl, rfl⟩
  have hS : (s.heap.push (set0 w)).get? s.heap.objs.size = some (set0 w) := Heap.get?_push_size _ rfl
  refine ⟨⟨_, hS, rfl⟩, codeAny_call_builtin F.called_set.init.plain F.entry_set_init (check_set_init_1 ⟨_, hS, rfl⟩ ?_)⟩
  obtain ⟨⟨oc, od, odt, osl⟩, hol, hc, n, hd⟩ := id hl
  simp only at hc hd
  subst hc hd
  have lS : l < s.heap.objs.size := Heap.lt_size hol
  have hL : (s.heap.push (set0 w)).get? l = some { cls := .type "list", dict := od, data := .seq its n, slots := osl } := Heap.get?_push_of_some _ hol
  have hLl : (s.heap.push (set0 w)).IsList l its := ⟨_, hL, rfl, n, rfl⟩
  have k1 := F.sub_list_set
  have k2 := F.sub_list_frozenset
  have k3 : (Value.type "list" == Value.type "dict") = false := by decide
  have hz : (s.heap.push (set0 w)).objs.size = s.heap.objs.size + 1 := Heap.size_push ..
  have hP : s.heap.push (set0 w) = s.heap.push { cls := .type "set", dict := none, data := .set #[] 0 (.fresh 0 0 (!w.params.followText "set-order")) } := rfl
  generalize hG : s.heap.push (set0 w) = G at hS hL hLl hz ⊢
  unfold Builtin.«set.__init__» noKeywords Builtin.Frozenset.updateFrom
  generalize hI : pyIter = PI
  wp_walk
  subst hI
  refine wpAny_pyIter_list hLl (wpAny_bind (wpAny_runValue ?_))
  have at0 : (G.push { cls := .type "list_iterator", data := .fields #[.ref l, .int 0 0] }).get? s.heap.objs.size = some (set0 w) := Heap.get?_push_of_some _ hS
  have out1 : l ≠ G.objs.size := by rw [hz]; exact Nat.ne_of_lt (Nat.lt_succ_of_lt lS)
  have out2 : s.heap.objs.size ∉ [G.objs.size, l] := by
    rw [hz]
    intro q
    rcases List.mem_cons.mp q with e | e
    · exact Nat.ne_of_lt (Nat.lt_succ_self _) e
    · exact Nat.ne_of_lt lS (List.mem_singleton.mp e).symm
  have vals : ∀ (i : Nat) (v : Value), its[i]? = some v → ∃ k t, ns[i]? = some k ∧ v = .int k t := by
    intro i v hv
    have li : i < ns.length := hn ▸ (Array.getElem?_eq_some_iff.mp hv).1
    obtain ⟨t, e⟩ := hi.int_at i v (by rw [Array.getElem?_toList]; exact hv)
    rw [List.getD_eq_getElem?_getD, List.getElem?_eq_getElem li] at e
    exact ⟨ns[i], t, List.getElem?_eq_getElem li, e⟩
  have hh' : A.in1.in1.in1.handled = none := by simp [hh]
  refine set_update_ints (Walks.list hh' G.objs.size l out1 its).toS s.heap.objs.size out2 ns hn hb vals its.size 0 _ (Nat.sub_zero _) (Nat.zero_le _) ⟨⟨_, Heap.get?_push_size _ rfl, rfl, rfl⟩, hLl.push _⟩ ⟨0, Nat.le_refl _, setR_new_at at0⟩ ?_
  intro t' c mv _ R
  obtain ⟨h2, g2, d2, tk2, os2⟩ := t'
  obtain rfl : g2 = s.gens := mv.gens
  obtain rfl : d2 = s.drawn := mv.drawn
  obtain rfl : os2 = s.os := mv.os
  refine wpAny_pure (wpAny_pure ⟨rfl, h h2 tk2 c R fun b o e => ?_⟩)
  have lb : b < s.heap.objs.size := Heap.lt_size e
  refine mv.heap b o (fun q => ?_) (Heap.get?_push_of_some _ (by rw [← hG]; exact Heap.get?_push_of_some _ e))
  rcases List.mem_cons.mp q with e | e
  · exact Nat.ne_of_lt lb e
  · exact Nat.ne_of_lt (Nat.lt_succ_of_lt lb) ((List.mem_singleton.mp e).trans hz)
end
theorem nodup_few : ∀ (m : Nat) (l : List Int), l.Nodup → (∀ x ∈ l, 0 ≤ x ∧ x < (m : Int)) → l.length ≤ m
  | 0, l, _, h => by
    cases l with
    | nil => exact Nat.le_refl _
    | cons x r => have := h x List.mem_cons_self; omega
  | m + 1, l, hn, h => by
    have ih := nodup_few m (l.erase (m : Int)) (hn.erase _) fun x hx => by
      have h1 := (hn.mem_erase_iff.mp hx)
      have h2 := h x h1.2
      have h3 := h1.1
      omega
    have hl := List.length_erase (a := (m : Int)) (l := l)
    split at hl <;> omega
section
variable {X : Cx}
/-- set(list of ints) -/
def rSetL' (K : PySem.W.Frag) (w : World) : List V → Hp → VK → Prop := fun vs H Q => ∃ (a : Addr) (ns : List Int), vs = [V.ref a] ∧ SqL K H a (ns.map V.int) ∧ ns.length ≤ 1000 ∧
  ∀ (l : Addr) (n : Nat) (ks : List Int), H l = none → ks.Nodup → (∀ k, k ∈ ks ↔ k ∈ ns) → ks.length = n → Q (.ref l) (upd H l (SetO w l (fun j => decide (j ∈ ns)) n))
theorem cr_setL (hc : X.calm = true) : CallR X (.type "set") (rSetL' X.K X.w) := by
  intro pins s σ H vs us Q I r h
  obtain ⟨a, ns, rfl, hs, hn, q⟩ := h
  obtain ⟨its, rv, pl, hz⟩ := I.list hs
  rw [Vals.ref1 r]
  have hi := rv.ints
  refine call_setL ns (I.ok.hd hc) pl.isList (by simpa using hi) (Nat.lt_of_le_of_lt (Nat.add_le_add_right hn 1) (by decide)) fun h' tk n R kp => ?_
  obtain ⟨o, es, ep, t, h1, h2, h3, h4, h5, h6, h7, h8, h9, h10⟩ := id R
  refine ⟨.ref s.heap.objs.size, _, I.laid (t' := tk) kp (Nat.le_refl _) (setO_new R), rfl, q _ n (es.toList.map keyOf) (I.hok.fresh (Nat.le_refl _)) h5 (fun k => ?_) (by rw [List.length_map, Array.length_toList]; exact h9)⟩
  rw [← h6 k, decide_eq_true_eq]
/-- sorted(set(list of ints)), the ints from 0 to 62 -/
def rSortSet (K : PySem.W.Frag) : List V → Hp → VK → Prop := fun vs H Q => ∃ (a : Addr) (ns : List Int) (m : Nat), vs = [V.ref a] ∧ SqL K H a (ns.map V.int) ∧ ns.length ≤ 1000 ∧ m < 64 ∧ (∀ x ∈ ns, 0 ≤ x ∧ x < (m : Int)) ∧
  ∀ (ms : List Int) (p : Addr) (H' : Hp), Same H H' → H' p = some (.lst (ms.map V.int)) → ms.Pairwise (· < ·) → (∀ k, k ∈ ms ↔ k ∈ ns) → H p = none → Q (.ref p) H'
/-- what set asks, where sorted stands around it -/
theorem sortSet_of {w : World} {K : PySem.W.Frag} {vs : List V} {H : Hp} {Q : VK} (h : rSortSet K vs H Q) : rSetL' K w vs H (fun x H1 => rSortedSet w [x] H1 Q) := by
  obtain ⟨a, ns, m, rfl, hs, hn, hm, hr, q⟩ := h
  refine ⟨a, ns, rfl, hs, hn, fun l n ks nl nd mem len => ⟨l, _, n, rfl, upd_same, ?_, fun ms p up mm _ np => ?_⟩⟩
  · rw [← len]
    exact Nat.lt_of_le_of_lt (nodup_few m ks nd fun x hx => hr x ((mem x).mp hx)) hm
  · have sl : Same H (upd H l (SetO w l (fun j => decide (j ∈ ns)) n)) := same_new nl
    exact q ms p _ (sl.trans (same_new np)) upd_same up (fun k => by rw [mm k, decide_eq_true_eq]) (sl.free np)
end
end Pr
/-! A panel that is read, however its tuples stand. -/
namespace Pr
open PySem PySem.Spec PyProof.Rows L2
def PanT (K : PySem.W.Frag) (H : Hp) (p : Addr) (pan : List (List Int)) : Prop := ∃ qs : List Addr, SqT K H p (qs.map V.ref) ∧ Paired (fun q l => SqT K H q (l.map V.int)) qs pan
section
variable {K : PySem.W.Frag} {H H' : Hp} {p : Addr} {pan : List (List Int)}
theorem PanT.same (e : Same H H') (h : PanT K H p pan) : PanT K H' p pan :=
  let ⟨qs, h1, h2⟩ := h; ⟨qs, same_sqT e h1, h2.mono fun _ _ x => same_sqT e x⟩
theorem PanAt.t (h : PanAt H p pan) : PanT K H p pan :=
  let ⟨qs, h1, h2⟩ := h; ⟨qs, h1.sq, h2.mono fun _ _ x => x.sq⟩
theorem panT_at (h : PanT K H p pan) {b : Int} (h0 : 0 ≤ b) (h1 : b < (pan.length : Int)) :
    ∃ (qs : List Addr) (q : Addr), SqT K H p (qs.map V.ref) ∧ atI (qs.map V.ref) b = some (.ref q) ∧ SqT K H q ((pan.getD b.toNat []).map V.int) ∧ qs.length = pan.length := by
  obtain ⟨qs, hq, hqs⟩ := h
  obtain ⟨n, rfl⟩ : ∃ n : Nat, b = (n : Int) := ⟨b.toNat, (Int.toNat_of_nonneg h0).symm⟩
  have hn : n < pan.length := by omega
  obtain ⟨q', g1, g2⟩ := paired_get hqs n pan[n] (List.getElem?_eq_getElem hn)
  refine ⟨qs, q', hq, atI_nat (by rw [List.getElem?_map, g1]; rfl), ?_, hqs.length⟩
  rw [Int.toNat_natCast, List.getD_eq_getElem?_getD, List.getElem?_eq_getElem hn]
  exact g2
theorem PanT.len (h : PanT K H p pan) : ∃ xs : List V, SqT K H p xs ∧ xs.length = pan.length :=
  let ⟨qs, h1, h2⟩ := h; ⟨_, h1, by rw [List.length_map, h2.length]⟩
theorem dpAll_panT : ∀ {qs : List Addr} {pan : List (List Int)}, Paired (fun q l => SqT K H q (l.map V.int)) qs pan → DpAll K H (qs.map V.ref) (pan.map dInts)
  | _, _, .nil => .nil
  | _, _, .cons r t => .cons (dp_ints r) (dpAll_panT t)
theorem PanT.dp (h : PanT K H p pan) : Dp K H (.ref p) (dPan pan) := let ⟨_, h1, h2⟩ := h; .tup h1 (dpAll_panT h2)
end
theorem Good.rng' {pan : List (List Int)} (g : Good pan) {b x : Int} (hx : x ∈ pan.getD b.toNat []) : 0 ≤ x ∧ x < (pan.length : Int) := by
  by_cases h : b.toNat < pan.length
  · rw [List.getD_eq_getElem?_getD, List.getElem?_eq_getElem h] at hx
    exact g.rng _ (List.getElem_mem h) x hx
  · rw [List.getD_eq_getElem?_getD, List.getElem?_eq_none (by omega)] at hx
    cases hx
/-- one button -/
theorem good_one : Good [[]] := by
  refine ⟨by decide, by decide, fun l h => ?_, fun l h x hx => ?_, fun i l h hx => ?_⟩
  · rw [List.mem_singleton.mp h]; exact List.Pairwise.nil
  · rw [List.mem_singleton.mp h] at hx; cases hx
  · have : l = [] := by
      match i, h with
      | 0, h => exact (Option.some.inj h).symm
    rw [this] at hx; cases hx
/-! ### what a row meets -/
def metB (pan : List (List Int)) (row : List Int) (c : Int) : Prop := c ∈ row ∨ ∃ b ∈ row, c ∈ pan.getD b.toNat []
theorem words_same {pan : List (List Int)} {c : Int} : ∀ (row : List Int) (w : Str), row.foldl (wordM pan c) w = wSame ↔ w = wSame ∧ ¬ metB pan row c
  | [], w => by
    refine ⟨fun h => ⟨h, fun z => z.elim (fun q => by cases q) fun ⟨_, q, _⟩ => by cases q⟩, fun h => h.1⟩
  | b :: r, w => by
    rw [List.foldl_cons, words_same r]
    unfold wordM metB
    by_cases h1 : b = c
    · rw [if_pos h1]
      refine ⟨fun h => absurd h.1.symm same_ne_on, fun h => absurd ?_ h.2⟩
      exact .inl (by rw [h1]; exact List.mem_cons_self)
    · rw [if_neg h1]
      by_cases h2 : c ∈ pan.getD b.toNat []
      · rw [if_pos h2]
        refine ⟨fun h => absurd h.1.symm same_ne_off, fun h => absurd ?_ h.2⟩
        exact .inr ⟨b, List.mem_cons_self, h2⟩
      · rw [if_neg h2]
        refine and_congr_right fun _ => not_congr ⟨fun h => ?_, fun h => ?_⟩
        · rcases h with h | ⟨d, h3, h4⟩
          · exact .inl (List.mem_cons_of_mem _ h)
          · exact .inr ⟨d, List.mem_cons_of_mem _ h3, h4⟩
        · rcases h with h | ⟨d, h3, h4⟩
          · exact .inl ((List.mem_cons.mp h).resolve_left (Ne.symm h1))
          · rcases List.mem_cons.mp h3 with e | e
            · subst e; exact absurd h4 h2
            · exact .inr ⟨d, e, h4⟩
theorem same_mem_eff {pan : List (List Int)} {row : List Int} : wSame ∈ effM pan row ↔ ∃ c : Nat, c < pan.length ∧ ¬ metB pan row (c : Int) := by
  unfold effM
  rw [List.mem_map]
  constructor
  · rintro ⟨c, hc, e⟩
    exact ⟨c, List.mem_range.mp hc, ((words_same row wSame).mp e).2⟩
  · rintro ⟨c, hc, h⟩
    exact ⟨c, List.mem_range.mpr hc, (words_same row wSame).mpr ⟨rfl, h⟩⟩
theorem asc_full {n : Nat} {ms : List Int} (h : Asc n ms) : ms.length = n ↔ ∀ c : Nat, c < n → (c : Int) ∈ ms := by
  have e := h.eq
  constructor
  · intro hl c hc
    have h1 : ((intL n).filter (fun x => decide (x ∈ ms))).length = (intL n).length := by rw [e, hl, intL_len]
    have := List.length_filter_eq_length_iff.mp h1 (c : Int) (mem_intL.mpr ⟨by omega, by omega⟩)
    exact of_decide_eq_true this
  · intro hc
    rw [← e, List.length_filter_eq_length_iff.mpr, intL_len]
    intro x hx
    have := mem_intL.mp hx
    have h2 := hc x.toNat (by omega)
    rw [Int.toNat_of_nonneg this.1] at h2
    exact decide_eq_true h2
theorem inV_strs {b : Str} (l : List Str) : inV (.str b) (l.map V.str) = decide (b ∈ l) := by
  unfold inV
  rw [List.any_map, Bool.eq_iff_iff, List.any_eq_true, decide_eq_true_eq]
  constructor
  · rintro ⟨x, hx, e⟩
    have e' : x = b := by simpa [eqV] using e
    rw [← e']; exact hx
  · intro h
    exact ⟨b, h, by simp [eqV]⟩
end Pr
namespace K32
open PySem PySem.Spec PyProof.Rows L2 Pr
def topS (i : Nat) : Stmt := PySem.Challenge.pw_pressrelease_k32_resets_told.main.body.getD i (.Pass ⟨0, 0, 0, 0⟩)
abbrev sNo : Stmt := topS 1
abbrev sPressE : Stmt := topS 2
abbrev sJoin : Stmt := topS 3
abbrev sWith : Stmt := topS 4
abbrev sEff : Stmt := topS 5
abbrev sReset : Stmt := topS 7
abbrev sDeck : Stmt := topS 9
abbrev sDraw : Stmt := topS 10
abbrev sPanel : Stmt := topS 11
abbrev sRow : Stmt := topS 12
abbrev sMet : Stmt := topS 13
abbrev sCov : Stmt := topS 14
abbrev sLaw : Stmt := topS 15
theorem scDeck : FnScope ["_law_script", "_law_cell"] ["_law_script"] (defScope sDeck) := ⟨rfl, rfl, rfl, by decide +kernel, rfl, by decide +kernel, by decide +kernel⟩
theorem scDraw : FnScope ["_law_deck_here", "_law_bound", "_law_at", "_law_cell", "_law_mixed"] ["_law_deck_here", "_law_bound"] (defScope sDraw) := ⟨rfl, rfl, rfl, by decide +kernel, rfl, by decide +kernel, by decide +kernel⟩
theorem cut_ints (ns : List Int) (lo hi : Option Int) : ∃ ms : List Int, cutV (ns.map V.int) lo hi = ms.map V.int ∧ ms.length ≤ ns.length := by
  refine ⟨(ns.drop (HT.sIx ns.length 0 lo)).take (HT.sIx ns.length ns.length hi - HT.sIx ns.length 0 lo), ?_, ?_⟩
  · unfold cutV
    rw [List.length_map, List.map_take, List.map_drop]
  · rw [List.length_take, List.length_drop]; omega
section
variable {P : Program} {w : World} {K : PySem.W.Frag} {mg : Str → Option Value} {base : Heap}
def spDeck (K : PySem.W.Frag) : Sp := fun vs H Q _ => ∃ (s : Addr) (ns : List Int), vs = [.ref s] ∧ SqL K H s (ns.map V.int) ∧ ns.length ≤ 63 ∧
  ∀ H' a c, Same H H' → Deck H' a c 1000000 → Q (.ref a) H'
theorem ok_deck {f : Addr} {fd : FuncData} {k : Nat} (F : Fun K "_law_deck" "_law_deck" sDeck f fd) (ma : mg "abs" = none) : FnOk P w K mg base CX0 (k + 1) f fd ["_law_script"] (spDeck K) := by
  refine F.ok scDeck (fun vs H Q E h => ?_) (fun cdv A outer s H vs Q E hr h => ?_)
  · obtain ⟨s, ns, rfl, _⟩ := h
    rfl
  · obtain ⟨sa, ns, rfl, hS, hlen, q⟩ := h
    refine ⟨_, pss_one (ps_ret (pe_lst (pa_cons
      (pe_lc (own := [("_law_cell", 1)]) (g := gName 1) (tt := tYes) rfl scDeck.nd (pi_list (pe_slice sl_list (pv 0) po_none (po_some pe_int)))
        (blkOk_by (own := [("_law_cell", 1)]) (N := ["_law_script", "_law_cell"]) (sc := defScope sDeck) (by decide +kernel))
        (fun _ _ _ _ _ => pg_name (i := 1) scDeck.nd rfl (Or.inl rfl)) (fun _ _ _ _ _ => pts_nil)
        (fun _ _ _ _ _ => pe_callB call_abs (by rfl) ma (by decide +kernel) (pa_cons (pv 1) pa_nil)))
      (pa_cons pe_int pa_nil)))), ?_⟩
    refine ⟨.ref sa, rfl, 60, rfl, sa, ns.map V.int, rfl, hS, fun l nl => ?_⟩
    obtain ⟨ms, em, lm⟩ := cut_ints ns none (some 60)
    rw [em]
    have s1 : Same H (upd H l (.lst (ms.map V.int))) := same_new nl
    refine ⟨l, rfl, ⟨_, .inl (.inl upd_same)⟩, fun D nD => ?_⟩
    refine lc_list (xs := ms.map V.int) (fun i H3 => Same (upd H l (.lst (ms.map V.int))) H3 ∧ ∃ cells : List Int, cells.length = i ∧ H3 D = some (.lst (cells.map V.int)))
      ⟨same_new nD, [], rfl, upd_same⟩ (fun i H3 _ hP => hP.1.seq (.inl (.inl upd_same))) (fun i x H3 hx hP => ?_) (fun H3 hP => ?_)
    · obtain ⟨sm, cells, hc, eD⟩ := hP
      obtain ⟨z, hz, rfl⟩ := int_get hx
      have hi : i < ms.length := (List.getElem?_eq_some_iff.mp hz).1
      refine ⟨rfl, tyes (iteT ⟨_, rfl, _, rfl, cells.map V.int, eD, ?_, ?_, cells ++ [if z < 0 then -z else z], ?_, ?_⟩)⟩
      · rw [List.length_map]; exact small1000 (by omega)
      · intro b o e
        rw [upd_ne (ne_of_none e nD)]
        exact sm _ _ e
      · rw [List.length_append, hc]; rfl
      · rw [upd_same, List.map_append]; rfl
    · obtain ⟨sm, cells, hc, eD⟩ := hP
      rw [List.length_map] at hc
      refine ⟨by show 2 ≤ sizeLine; decide, fun p np => ?_⟩
      have nDp : D ≠ p := ne_of_none eD np
      refine q _ p D ((s1.trans sm).trans (same_new np)) ⟨cells, 0, upd_same, ?_, Ne.symm nDp, by omega, by omega⟩
      rw [upd_ne nDp]; exact eD

def spDraw : Sp := fun vs H Q _ => ∃ (a c : Addr) (m : Nat) (lim : Int), vs = [.ref a, .int lim] ∧ Deck H a c (m + 1) ∧ 0 < lim ∧ lim < 1000000 ∧
  ∀ H' r, But a c H H' → Deck H' a c m → 0 ≤ r → r < lim → Q (.int r) H'
theorem ok_draw {f : Addr} {fd : FuncData} {k : Nat} (F : Fun K "_law_draw" "_law_draw" sDraw f fd) (ml : mg "len" = none) (mx : mg "max" = none) : FnOk P w K mg base CX0 (k + 1) f fd ["_law_deck_here", "_law_bound"] spDraw := by
  refine F.ok scDraw (fun vs H Q E h => ?_) (fun cdv A outer s H vs Q E hr h => ?_)
  · obtain ⟨a, c, m, lim, rfl, _⟩ := h
    rfl
  · obtain ⟨a, c, m, lim, rfl, hD, l0, l1, q⟩ := h
    refine ⟨_, pss_cons (ps_asg (pe_op op_add (pe_ix ix_list (pv 0) pe_int (fun _ _ => rfl)) pe_int) (pg_sub (pv 0) pe_int set_list))
      (pss_cons (ps_set (i := 2) scDraw.nd rfl (.inl rfl) (pe_op op_mod (pe_ix ix_list (pv 0) pe_int (fun _ _ => rfl)) (pe_callB (call_max2 rfl) (by rfl) mx (by decide +kernel) (pa_cons pe_int (pa_cons (pe_callB call_len_seq (by rfl) ml PySem.boot_len (pa_cons (pe_ix ix_list (pv 0) pe_int (fun _ _ => rfl)) pa_nil)) pa_nil)))))
      (pss_cons (ps_set (i := 3) scDraw.nd rfl (.inl rfl) (pe_ix ix_list (pe_op op_cat (pe_ix ix_list (pv 0) pe_int (fun _ _ => rfl)) (pe_lst (pa_cons pe_int pa_nil))) (pv 2) (fun _ _ => rfl)))
      (pss_cons (ps_if (pt_cmpR op_ge (pv 3) (pe_op op_pow pe_int pe_int) (nomark _))
        (pss_cons (ps_asg (pe_op op_fdiv (pv 3) (pv 1)) (pg_sub (pe_ix ix_list (pv 0) pe_int (fun _ _ => rfl)) (pv 2) set_list))
          (pss_one (ps_ret (pe_op op_mod (pv 3) (pv 1)))))
        pss_nil)
      (pss_cons (ps_set (i := 4) scDraw.nd rfl (.inl rfl) (pe_op op_mod (pe_op op_pow (pe_op op_add (pe_op op_add (pe_op op_mod (pv 3) pe_int) (pe_op op_mul pe_int (pe_ix ix_list (pv 0) pe_int (fun _ _ => rfl)))) pe_int) pe_int) pe_int))
      (pss_one (ps_ret (pe_op op_mod (pe_op op_add (pe_op op_fdiv (pv 4) pe_int) (pe_op op_mul pe_int (pe_ix ix_list (pv 0) pe_int (fun _ _ => rfl)))) (pv 1)))))))), ?_⟩
    obtain ⟨cells, n, ha, hc, nac, hlen, hn⟩ := hD
    refine ⟨.ref a, rfl, a, _, 1, .int n, rfl, rfl, .inl (.inl ha), atI_nat (j := 1) rfl, n, 1, rfl, rfl, .ref a, rfl, a, _, 1, 1, rfl, rfl, ha, rfl, ?_⟩
    refine gen_heap (fun H1 => H1 a = some (.lst [.ref c, .int ((n : Int) + 1)]) ∧ H1 c = some (.lst (cells.map V.int)) ∧ But a c H H1) ⟨upd_same, by rw [upd_ne (Ne.symm nac)]; exact hc, fun b o h1 _ e => by rw [upd_ne h1]; exact e⟩ fun H1 ⟨ha1, hc1, b1⟩ => ?_
    have has : SqL K H1 a [.ref c, .int ((n : Int) + 1)] := .inl (.inl ha1)
    have hcs : SqL K H1 c (cells.map V.int) := .inl (.inl hc1)
    have hcl : ((cells.map V.int).length : Int) = (cells.length : Int) := by rw [List.length_map]
    obtain ⟨mm, hmm, mm1, mm2⟩ : ∃ mm : Nat, (if ((cells.map V.int).length : Int) > 1 then ((cells.map V.int).length : Int) else 1) = (mm : Int) ∧ 1 ≤ mm ∧ mm ≤ cells.length + 1 := by
      rw [hcl]
      by_cases e : (cells.length : Int) > 1
      · rw [if_pos e]; exact ⟨cells.length, rfl, by omega, by omega⟩
      · rw [if_neg e]; exact ⟨1, rfl, by omega, by omega⟩
    have hmc : mm = cells.length ∨ (cells.length = 0 ∧ mm = 1) := by
      rw [hcl] at hmm
      split at hmm <;> omega
    have l2 := Int.emod_nonneg ((n : Int) + 1) (show ((mm : Int)) ≠ 0 by omega)
    have l3 := Int.emod_lt_of_pos ((n : Int) + 1) (show (0 : Int) < (mm : Int) by omega)
    obtain ⟨j, hj⟩ : ∃ j : Nat, ((n : Int) + 1) % (mm : Int) = (j : Int) := ⟨_, (Int.toNat_of_nonneg l2).symm⟩
    refine ⟨.ref a, rfl, a, _, 1, .int ((n : Int) + 1), rfl, rfl, has, rfl, .ref a, rfl, a, _, 0, .ref c, rfl, rfl, has, rfl, c, _, rfl, .inl hcs, 1, _, rfl, (n : Int) + 1, (mm : Int), rfl, congrArg V.int hmm, (by omega), ?_⟩
    dsimp only
    rw [hj]
    obtain ⟨z, hz⟩ : ∃ z : Int, (cells ++ [0])[j]? = some z := ⟨_, List.getElem?_eq_getElem (by rw [List.length_append]; show j < cells.length + 1; omega)⟩
    have gz : (cells.map V.int ++ [V.int 0])[j]? = some (.int z) := by
      rw [show cells.map V.int ++ [V.int 0] = (cells ++ [0]).map V.int by rw [List.map_append]; rfl, List.getElem?_map, hz]; rfl
    have zin : (10 : Int) ^ 18 ≤ z → j < cells.length := fun hge => by
      rcases Nat.lt_or_ge j cells.length with q' | q'
      · exact q'
      · rw [List.getElem?_append_right q'] at hz
        have : z = 0 := by
          have hm := List.mem_of_getElem? hz
          exact List.mem_singleton.mp hm
        rw [this] at hge
        exact absurd hge (by decide)
    refine ⟨.ref a, rfl, a, _, 0, .ref c, rfl, rfl, has, rfl, by show 1 ≤ sizeLine; decide, fun L nL => ?_⟩
    have sL : Same H1 (upd H1 L (.lst [.int 0])) := same_new nL
    refine ⟨c, L, _, _, rfl, rfl, sL _ _ hc1, upd_same, by rw [List.length_map]; exact Nat.le_of_lt (small1000 (show cells.length + 1 ≤ 1000 by omega)), fun M nM => ?_⟩
    have sM := sL.trans (same_new (o := .lst (cells.map V.int ++ [.int 0])) nM)
    refine ⟨.int (j : Int), rfl, M, _, _, .int z, rfl, rfl, .inl (.inl upd_same), atI_nat gz, ?_⟩
    refine gen_name (fun H2 => H2 a = some (.lst [.ref c, .int ((n : Int) + 1)]) ∧ H2 c = some (.lst (cells.map V.int)) ∧ But a c H H2) ⟨sM _ _ ha1, sM _ _ hc1, b1.trans (But.of sM)⟩ fun H2 ⟨ha2, hc2, b2⟩ => ?_
    have has2 : SqL K H2 a [.ref c, .int ((n : Int) + 1)] := .inl (.inl ha2)
    refine ⟨.int z, rfl, 10, 18, rfl, rfl, ⟨by decide, by decide, by decide⟩, z, _, rfl, rfl, _, rfl, ite2 (fun e => ?_) (fun e => ?_)⟩
    · have ez : (10 : Int) ^ 18 ≤ z := of_decide_eq_true e
      refine ⟨.int z, rfl, .int lim, rfl, z, lim, rfl, rfl, ⟨l0, by omega⟩, .ref a, rfl, a, _, 0, .ref c, rfl, rfl, has2, rfl, .int (j : Int), rfl, c, _, _, j, rfl, rfl, hc2, ixN_nat (by rw [List.length_map]; exact zin ez),
        .int z, rfl, .int lim, rfl, z, lim, rfl, rfl, l0, ?_⟩
      refine q _ _ (b2.trans fun b o _ h2 e => by rw [upd_ne h2]; exact e) ⟨cells.set j (z / lim), n + 1, ?_, ?_, nac, by rw [List.length_set]; exact hlen, by omega⟩ (Int.emod_nonneg _ (by omega)) (Int.emod_lt_of_pos _ l0)
      · rw [upd_ne nac, ha2]; rfl
      · rw [upd_same, List.map_set]
    · have m1 : 0 ≤ z % 2147483563 := Int.emod_nonneg _ (by decide)
      have m2 : z % 2147483563 < 2147483563 := Int.emod_lt_of_pos _ (by decide)
      refine ⟨.int z, rfl, z, 2147483563, rfl, rfl, (by show (0 : Int) < 2147483563; decide), .ref a, rfl, a, _, 1, .int ((n : Int) + 1), rfl, rfl, has2, rfl, 104729, (n : Int) + 1, rfl, rfl, .inl ⟨by decide, by decide⟩, _, _, rfl, rfl, _, 7, rfl, rfl, _, 4, rfl, rfl, ⟨by decide, by decide, ?_⟩,
        _, 2147483629, rfl, rfl, (by show (0 : Int) < 2147483629; decide), ?_⟩
      · omega
      · dsimp only
        generalize (z % 2147483563 + 104729 * ((n : Int) + 1) + 7) ^ (4 : Int).toNat % 2147483629 = my
        refine ⟨.int my, rfl, my, 8, rfl, rfl, ⟨by decide, by decide⟩, .ref a, rfl, a, _, 1, .int ((n : Int) + 1), rfl, rfl, has2, rfl, 31, (n : Int) + 1, rfl, rfl, .inl ⟨by decide, by decide⟩, _, _, rfl, rfl, .int lim, rfl, _, lim, rfl, rfl, l0, ?_⟩
        exact q _ _ b2 ⟨cells, n + 1, by rw [ha2]; rfl, hc2, nac, hlen, by omega⟩ (Int.emod_nonneg _ (by omega)) (Int.emod_lt_of_pos _ l0)
end
end K32
namespace K32
open PySem PySem.Spec PyProof.Rows L2 Pr
def nPanel : List Str := ["_law_deck_here", "_law_most", "_law_n", "_law_way", "_law_found", "_law_button", "_law_own", "_law_other"]
theorem scPanel : FnScope nPanel ["_law_deck_here", "_law_most"] (defScope sPanel) := ⟨rfl, rfl, rfl, by decide +kernel, rfl, by decide +kernel, by decide +kernel⟩
def nRow : List Str := ["_law_deck_here", "_law_n", "_law_most", "_law_few", "_law_way", "_law_k"]
theorem scRow : FnScope nRow ["_law_deck_here", "_law_n", "_law_most"] (defScope sRow) := ⟨rfl, rfl, rfl, by decide +kernel, rfl, by decide +kernel, by decide +kernel⟩
theorem pick5 {y : Int} (h0 : 0 ≤ y) (h1 : y < 5) : ∃ v : Int, atI [V.int 2, .int 5, .int 9, .int 7, .int 1] y = some (.int v) ∧ 0 < v ∧ v < 1000000 := by
  obtain rfl | rfl | rfl | rfl | rfl : y = 0 ∨ y = 1 ∨ y = 2 ∨ y = 3 ∨ y = 4 := by omega
  · exact ⟨2, rfl, by decide, by decide⟩
  · exact ⟨5, rfl, by decide, by decide⟩
  · exact ⟨9, rfl, by decide, by decide⟩
  · exact ⟨7, rfl, by decide, by decide⟩
  · exact ⟨1, rfl, by decide, by decide⟩
def rInt1 : List V → Hp → VK → Prop := fun xs H Q => (∃ i, xs = [V.int i] ∧ Q (V.int i) H) ∨ ∃ k, xs = [V.bl k] ∧ Q (V.int (if k = true then 1 else 0)) H
def upto (nn i : Nat) (l : List Int) : Prop := ∀ x ∈ l, 0 ≤ x ∧ x < (nn : Int) ∧ x ≠ (i : Int)
section
variable {P : Program} {w : World} {K : PySem.W.Frag} {mg : Str → Option Value} {base : Heap}
/-- found.append(tuple(sorted(set(own * ..)))) -/
theorem panel_append {D : Ends} {σ : L2.St} {a c F O : Addr} {m nn i : Nat} {y : Int} {qs : List Addr} {pan : List (List Int)} {l : List Int} {H H8 : Hp} (h3 : σ[3]? = some (some (.int y))) (h4 : σ[4]? = some (some (.ref F))) (h6 : σ[6]? = some (some (.ref O)))
    (nF : H F = none) (b8 : But a c H H8) (D8 : Deck H8 a c m) (Fa : F ≠ a) (Fc : F ≠ c) (hF : H8 F = some (.lst (qs.map V.ref))) (hqs : Paired (fun q l => FT H8 q (l.map V.int)) qs pan) (hO : H8 O = some (.lst (l.map V.int))) (few : qs.length ≤ 100) (n10 : nn ≤ 10) (ll : l.length ≤ 100) (lu : upto nn i l)
    (nx : ∀ H9 q' ms, But a c H H9 → Deck H9 a c m → ms.Pairwise (· < ·) → upto nn i ms → H9 F = some (.lst ((qs ++ [q']).map V.ref)) → Paired (fun q l => FT H9 q (l.map V.int)) (qs ++ [q']) (pan ++ [ms]) → D.nx σ H9) :
    tDrop (tBM K "list" rAppend (tVar 4) (tCons (tCB (rTupF K) (tCons (tCB (rSortedSet w) (tCons (tCB (rSetL' K w) (tCons (tOp rRep (tVar 6) (tCB rInt1 (tCons (tOp rNe (tVar 3) (tC (.int 4))) tNil))) tNil)) tNil)) tNil)) tNil)) D σ H8 := by
  refine ⟨.ref F, h4, .inl ⟨rfl, _, .inl (.inl hF)⟩, .ref O, h6, .int y, h3, rfl, .inr ⟨_, rfl, O, _, _, rfl, rfl, hO, ?_, ?_, ?_, fun O2 nO2 => ?_⟩⟩
  · split <;> omega
  · split <;> omega
  · have : (l.map V.int).length * (if (!decide (V.int y = V.int 4)) = true then (1 : Int) else 0).toNat ≤ 100 := by
      rw [List.length_map]
      split
      · show l.length * 1 ≤ 100; omega
      · show l.length * 0 ≤ 100; omega
    exact Nat.le_of_lt (small1000 (by omega))
  · obtain ⟨l2, hl2, l2l, l2u⟩ : ∃ l2 : List Int, (List.replicate (if (!decide (V.int y = V.int 4)) = true then (1 : Int) else 0).toNat (l.map V.int)).flatten = l2.map V.int ∧ l2.length ≤ 100 ∧ upto nn i l2 := by
      split
      · exact ⟨l, by show (l.map V.int) ++ [] = _; rw [List.append_nil], ll, lu⟩
      · exact ⟨[], rfl, by decide, fun x h => by cases h⟩
    rw [hl2]
    have sO : Same H8 (upd H8 O2 (.lst (l2.map V.int))) := same_new nO2
    refine sortSet_of (w := w) (K := K) (vs := [.ref O2]) (H := upd H8 O2 (.lst (l2.map V.int))) (Q := fun y H2 => rTupF K [y] H2 fun z H4 => rAppend (.ref F) [z] H4 fun _ H6 => D.nx σ H6) ⟨O2, l2, nn, rfl, .inl (.inl upd_same), by omega, by omega, fun x hx => ⟨(l2u x hx).1, (l2u x hx).2.1⟩, fun ms p H9 s9 e9 up mm _ => ?_⟩
    refine ⟨p, _, rfl, .inl (.inl e9), fun t o nt ho => ?_⟩
    have s89 : Same H8 (upd H9 t (.frz o (.tup (ms.map V.int)))) := (sO.trans s9).trans (same_new nt)
    have tF : t ≠ F := Ne.symm (ne_of_none ((sO.trans s9) _ _ hF) nt)
    refine ⟨F, _, .ref t, rfl, rfl, s89 _ _ hF, by rw [List.length_map]; exact small1000 (by omega), ?_⟩
    have keep : ∀ b o', b ≠ F → H8 b = some o' → (upd (upd H9 t (.frz o (.tup (ms.map V.int)))) F (.lst (qs.map V.ref ++ [.ref t]))) b = some o' := fun b o' hb e => by
      rw [upd_ne hb]; exact s89 _ _ e
    refine nx _ t ms (fun b o' h1 h2 e => keep b o' (ne_of_none e nF) (b8 b o' h1 h2 e)) ?_ up (fun x hx => l2u x ((mm x).mp hx)) (by rw [upd_same, List.map_append]; rfl) ?_
    · obtain ⟨cs, n, e1, e2, e3⟩ := D8
      exact ⟨cs, n, keep _ _ (Ne.symm Fa) e1, keep _ _ (Ne.symm Fc) e2, e3⟩
    · refine Paired.snoc (hqs.mono fun q l ⟨oq, e, z⟩ => ⟨oq, keep q _ (ne_of e hF (by intro z; cases z)) e, z⟩) ⟨o, ?_, ho⟩
      rw [upd_ne tF, upd_same]
def spPanel : Sp := fun vs H Q _ => ∃ (a c : Addr) (m : Nat) (most : Int), vs = [.ref a, .int most] ∧ Deck H a c (m + 200) ∧ 1 ≤ most ∧ most ≤ 10 ∧
  ∀ H' p pan, But a c H H' → Deck H' a c m → PanAt H' p pan → Good pan → (pan.length : Int) ≤ most → Q (.ref p) H'
theorem ok_panel {f fD : Addr} {fd fdD : FuncData} {k : Nat} (F : Fun K "_law_panel" "_law_panel" sPanel f fd) (FD : Fun K "_law_draw" "_law_draw" sDraw fD fdD) (bD : Binds K fdD ["_law_deck_here", "_law_bound"] []) (gD : mg "_law_draw" = some (.ref fD))
    (ml : mg "len" = none) (mr : mg "range" = none) (mt : mg "tuple" = none) (mi : mg "int" = none) (mx : mg "max" = none) (mse : mg "set" = none) (mso : mg "sorted" = none) : FnOk P w K mg base CX0 (k + 2) f fd ["_law_deck_here", "_law_most"] spPanel := by
  have GD : FnOk P w K mg base CX0 (k + 1) fD fdD ["_law_deck_here", "_law_bound"] spDraw := ok_draw FD ml mx
  refine F.ok scPanel (fun vs H Q E h => ?_) (fun cdv A outer s H vs Q E hr h => ?_)
  · obtain ⟨a, c, m, most, rfl, _⟩ := h
    rfl
  · obtain ⟨a, c, m, most, rfl, hD, m1, m2, q⟩ := h
    refine ⟨_, pss_cons (ps_asg (pe_tup (pa_cons (pe_op op_add pe_int (pe_call GD hr (by rfl) gD FD.kp bD .nil pass0 (pa_cons (pv 0) (pa_cons (pv 1) pa_nil)))) (pa_cons (pe_call GD hr (by rfl) gD FD.kp bD .nil pass0 (pa_cons (pv 0) (pa_cons pe_int pa_nil))) (pa_cons (pe_lst pa_nil) pa_nil))))
        (pg_tup rfl (pgs_cons (pg_name (i := 2) scPanel.nd rfl (.inl rfl)) (pgs_cons (pg_name (i := 3) scPanel.nd rfl (.inr rfl)) (pgs_cons (pg_name (i := 4) scPanel.nd rfl (.inl rfl)) pgs_nil)))))
      (pss_cons (ps_for PassesOwn.never rfl (pi_range1 (by rfl) mr (pa_cons (pv 2) pa_nil)) (pg_name (i := 5) scPanel.nd rfl (.inr rfl))
        (pss_cons (ps_set (i := 6) scPanel.nd rfl (.inr rfl) (pe_lc (own := [("_law_other", 7)]) (g := gName 7) rfl scPanel.nd (pi_range1 (by rfl) mr (pa_cons (pv 2) pa_nil))
            (blkOk_by (own := [("_law_other", 7)]) (N := nPanel) (sc := defScope sPanel) (by decide +kernel)) (fun _ _ _ _ _ => pg_name (i := 7) scPanel.nd rfl (Or.inl rfl))
            (fun _ _ _ _ _ => pts_one (PW.pt (pw_and (pt_cmpR op_ne (pv 7) (pv 5) (nomark _)) (pw_and1 (pt_cmpR op_eq (pe_call GD hr (by rfl) gD FD.kp bD .nil pass0 (pa_cons (pv 0) (pa_cons (pe_ix (show IxR _ (rIxL K) from ix_list) (pe_lst (pa_cons pe_int (pa_cons pe_int (pa_cons pe_int (pa_cons pe_int (pa_cons pe_int pa_nil)))))) (pv 3) (fun _ _ => rfl)) pa_nil))) pe_int (nomark _))))))
            (fun _ _ _ _ _ => pv 7)))
        (pss_cons (ps_if (pt_cmpR op_eq (pv 3) pe_int (nomark _))
          (pss_one (ps_set (i := 6) scPanel.nd rfl (.inr rfl) (pe_lc (own := [("_law_other", 7)]) (g := gName 7) rfl scPanel.nd (pi_range1 (by rfl) mr (pa_cons (pv 2) pa_nil))
            (blkOk_by (own := [("_law_other", 7)]) (N := nPanel) (sc := defScope sPanel) (by decide +kernel)) (fun _ _ _ _ _ => pg_name (i := 7) scPanel.nd rfl (Or.inl rfl))
            (fun _ _ _ _ _ => pts_one (PW.pt (pw_and (pt_cmpR op_ne (pv 7) (pv 5) (nomark _)) (pw_and1 (pt_cmpR (show OpR _ _ (rIn K true) from op_notIn_seq) (pv 7) (pv 6) (by rfl))))))
            (fun _ _ _ _ _ => pv 7)))) pss_nil)
        (pss_cons (ps_if (PW.pt (pw_and (pt_cmpR op_eq (pv 3) pe_int (nomark _)) (pw_and1 (pt_cmpR op_gt (pv 2) pe_int (nomark _)))))
          (pss_one (ps_set (i := 6) scPanel.nd rfl (.inr rfl) (pe_op op_cat (pv 6) (pe_lst (pa_cons (pe_op op_mod (pe_op op_add (pv 5) pe_int) (pv 2)) pa_nil))))) pss_nil)
        (pss_one (ps_expr (pe_bm PySem.F.plainAttrs_list PySem.F.slot_list_append PySem.F.type_list_append mt_append (pv 4) (pa_cons (pe_callTy call_tupF (by rfl) mt (by decide +kernel) (pa_cons
            (pe_callB (cr_sortedSet rfl) (by rfl) mso (by decide +kernel) (pa_cons (pe_callTy (cr_setL rfl) (by rfl) mse (by decide +kernel) (pa_cons (pe_op op_rep (pv 6) (pe_callTy (show CallR _ _ rInt1 from call_int1) (by rfl) mi (by decide +kernel) (pa_cons (pe_cmpR op_ne (pv 3) pe_int (nomark _)) pa_nil))) pa_nil)) pa_nil)) pa_nil)) pa_nil))))))))
      (pss_one (ps_ret (pe_callTy call_tupF (by rfl) mt (by decide +kernel) (pa_cons (pv 4) pa_nil))))), ?_⟩
    refine ⟨.ref a, rfl, .int most, rfl, a, c, m + 199, most, rfl, hD.less (by omega), by omega, by omega, fun H1 r1 b1 D1 r1a r1b => ?_⟩
    refine ⟨1, r1, rfl, rfl, .ref a, rfl, a, c, m + 198, 5, rfl, D1, by decide, by decide, fun H2 y b2 D2 y0 y5 => ?_⟩
    refine ⟨Nat.zero_le _, fun F nF => ?_⟩
    have sF : Same H2 (upd H2 F (.lst [])) := same_new nF
    refine ⟨by show 3 ≤ sizeLine; decide, fun T nT => ⟨T, _, rfl, .inl (.inl upd_same), rfl, _, _, rfl, _, _, rfl, _, _, rfl, rfl, ?_⟩⟩
    have FD' := D2.fresh nF
    have b12 := b1.trans b2
    have hnF : H F = none := by
      cases e : H F with
      | none => rfl
      | some o =>
        have := b12 F o FD'.1 FD'.2 e
        rw [nF] at this; cases this
    refine gen_heap (fun H4 => But a c H H4 ∧ Deck H4 a c (m + 198) ∧ H4 F = some (.lst [])) ⟨(b12.trans (But.of sF)).trans (But.of (same_new nT)), (D2.same sF).same (same_new nT), (same_new nT) _ _ upd_same⟩ fun H4 ⟨b4, D4, eF4⟩ => ?_
    obtain ⟨nn, hnn⟩ : ∃ nn : Nat, 1 + r1 = (nn : Int) := ⟨(1 + r1).toNat, (Int.toNat_of_nonneg (by omega)).symm⟩
    have nn1 : 1 ≤ nn := by omega
    have nn2 : (nn : Int) ≤ most := by omega
    have nn3 : nn ≤ 10 := by omega
    dsimp only
    rw [hnn]
    refine ⟨.int (nn : Int), rfl, (nn : Int), rfl, by omega, by omega, ?_⟩
    refine for_range (n := nn) (fun i σ H5 => But a c H H5 ∧ Deck H5 a c (m + 10 * (10 - i)) ∧ i ≤ nn ∧
        (∃ (qs : List Addr) (pan : List (List Int)), H5 F = some (.lst (qs.map V.ref)) ∧ Paired (fun q l => FT H5 q (l.map V.int)) qs pan ∧ pan.length = i ∧
          ∀ (j : Nat) (l : List Int), pan[j]? = some l → l.Pairwise (· < ·) ∧ upto nn j l) ∧
        ∃ x5 x6 x7, σ = [some (.ref a), some (.int most), some (.int (nn : Int)), some (.int y), some (.ref F), x5, x6, x7]) ?_ ?_ ?_
    · exact ⟨b4, D4.less (by omega), Nat.zero_le _, ⟨[], [], eF4, .nil, rfl, fun j l h => by simp at h⟩, none, none, none, rfl⟩
    · intro i σ H5 hi hP
      obtain ⟨b5, D5, _, ⟨qs, pan, hF, hqs, hpl, hpan⟩, x5, x6, x7, rfl⟩ := hP
      rw [Int.zero_add]
      have few : qs.length ≤ 100 := by rw [hqs.length, hpl]; omega
      have close : ∀ (H9 : Hp) (q' : Addr) (ms : List Int), But a c H H9 → Deck H9 a c (m + 10 * (10 - (i + 1))) → ms.Pairwise (· < ·) → upto nn i ms → H9 F = some (.lst ((qs ++ [q']).map V.ref)) → Paired (fun q l => FT H9 q (l.map V.int)) (qs ++ [q']) (pan ++ [ms]) →
          But a c H H9 ∧ Deck H9 a c (m + 10 * (10 - (i + 1))) ∧ i + 1 ≤ nn ∧ (∃ (qs : List Addr) (pan : List (List Int)), H9 F = some (.lst (qs.map V.ref)) ∧ Paired (fun q l => FT H9 q (l.map V.int)) qs pan ∧ pan.length = i + 1 ∧
            ∀ (j : Nat) (l : List Int), pan[j]? = some l → l.Pairwise (· < ·) ∧ upto nn j l) := by
        intro H9 q' ms g1 g2 gu gm g3 g4
        refine ⟨g1, g2, hi, _, _, g3, g4, by rw [List.length_append, hpl]; rfl, fun j l' hj => ?_⟩
        by_cases hji : j < i
        · rw [List.getElem?_append_left (by omega)] at hj
          exact hpan j l' hj
        · rw [List.getElem?_append_right (by omega), hpl] at hj
          obtain rfl : j = i := by
            have := (List.getElem?_eq_some_iff.mp hj).1
            rw [List.length_singleton] at this; omega
          rw [Nat.sub_self] at hj
          obtain rfl : ms = l' := by simpa using hj
          exact ⟨gu, gm⟩
      -- own
      refine ⟨.int (nn : Int), rfl, (nn : Int), rfl, by omega, by omega, fun O nO => ?_⟩
      have oO := D5.fresh nO
      refine lc_range (n := nn) (fun k H6 => But a c H5 H6 ∧ Deck H6 a c (m + 10 * (10 - i) - k) ∧ ∃ acc : List Int, H6 O = some (.lst (acc.map V.int)) ∧ acc.length ≤ k ∧ upto nn i acc)
        ⟨But.of (same_new nO), (D5.same (same_new nO)).less (by omega), [], upd_same, Nat.le_refl _, fun x h => by cases h⟩ (fun k H6 hk hP => ?_) (fun H6 hP => ?_)
      · obtain ⟨b6, D6, acc, eO, al, am⟩ := hP
        rw [Int.zero_add]
        refine ⟨rfl, .int (k : Int), rfl, .int (i : Int), rfl, rfl, _, rfl, ite2 (fun e => ?_) (fun e => ?_)⟩
        · have hne : (k : Int) ≠ (i : Int) := fun z => by rw [z] at e; simp at e
          obtain ⟨v, hv, v0, v1⟩ := pick5 y0 y5
          refine ⟨.ref a, rfl, by show 5 ≤ sizeLine; decide, fun L nL => ⟨.int y, rfl, L, _, y, .int v, rfl, rfl, .inl (.inl upd_same), hv, a, c, m + 10 * (10 - i) - (k + 1), v, rfl,
            (D6.same (same_new nL)).less (by omega), v0, v1, fun H8 r b8 D8 r0 r1 => ⟨rfl, _, rfl, ite2 (fun e => ?_) (fun e => ?_)⟩⟩⟩
          all_goals
            have b78 : But a c H6 H8 := (But.of (same_new nL)).trans b8
            have eO8 : H8 O = some (.lst (acc.map V.int)) := b78 _ _ oO.1 oO.2 eO
          · refine ⟨_, rfl, acc.map V.int, eO8, by rw [List.length_map]; exact small1000 (by omega), ?_, ?_, acc ++ [(k : Int)], ?_, by rw [List.length_append]; show acc.length + 1 ≤ k + 1; omega, ?_⟩
            · intro b o h1 h2 e
              rw [upd_ne (ne_of_none e nO)]
              exact b78 _ _ h1 h2 (b6 _ _ h1 h2 e)
            · obtain ⟨cs, n, e1, e2, e3⟩ := D8
              exact ⟨cs, n, by rw [upd_ne (Ne.symm oO.1)]; exact e1, by rw [upd_ne (Ne.symm oO.2)]; exact e2, e3⟩
            · rw [upd_same, List.map_append]; rfl
            · intro x hx
              rcases List.mem_append.mp hx with h | h
              · exact am x h
              · rw [List.mem_singleton.mp h]; omega
          · exact ⟨b6.trans b78, D8, acc, eO8, by omega, am⟩
        · exact iteF ⟨b6, D6.less (by omega), acc, eO, by omega, am⟩
      · obtain ⟨b6, D6, l, eO, ll, lu⟩ := hP
        have b56 := b5.trans b6
        have hF6 := b6 _ _ FD'.1 FD'.2 hF
        have hq6 : Paired (fun q l => FT H6 q (l.map V.int)) qs pan := hqs.mono fun _ _ x => x.but D5 b6
        have D6' : Deck H6 a c (m + 10 * (10 - (i + 1))) := D6.less (by omega)
        by_cases h2 : y = 2
        · -- the others
          subst h2
          refine ⟨.int 2, rfl, rfl, _, rfl, iteT ⟨.int (nn : Int), rfl, (nn : Int), rfl, by omega, by omega, fun O2 nO2 => ?_⟩⟩
          refine lc_range (n := nn) (fun k H7 => Same H6 H7 ∧ ∃ acc : List Int, H7 O2 = some (.lst (acc.map V.int)) ∧ acc.length ≤ k ∧ upto nn i acc)
            ⟨same_new nO2, [], upd_same, Nat.le_refl _, fun x h => by cases h⟩ (fun k H7 hk hP => ?_) (fun H7 hP => ?_)
          · obtain ⟨s7, acc, eO2, al, am⟩ := hP
            rw [Int.zero_add]
            refine ⟨rfl, .int (k : Int), rfl, .int (i : Int), rfl, rfl, _, rfl, ite2 (fun e => ?_) (fun e => ?_)⟩
            · have hne : (k : Int) ≠ (i : Int) := fun z => by rw [z] at e; simp at e
              refine ⟨.int (k : Int), rfl, .ref O, rfl, O, _, rfl, .inl (.inl (.inl (s7 _ _ eO))), rfl, flat_ints _, _, rfl, ite2 (fun e2 => ?_) (fun e2 => ?_)⟩
              · refine ⟨_, rfl, acc.map V.int, eO2, by rw [List.length_map]; exact small1000 (by omega), ?_, acc ++ [(k : Int)], ?_, by rw [List.length_append]; show acc.length + 1 ≤ k + 1; omega, ?_⟩
                · intro b o e
                  rw [upd_ne (ne_of_none e nO2)]
                  exact s7 _ _ e
                · rw [upd_same, List.map_append]; rfl
                · intro x hx
                  rcases List.mem_append.mp hx with h | h
                  · exact am x h
                  · rw [List.mem_singleton.mp h]; omega
              · exact ⟨s7, acc, eO2, by omega, am⟩
            · exact iteF ⟨s7, acc, eO2, by omega, am⟩
          · obtain ⟨s7, acc, eO2, al, am⟩ := hP
            refine ⟨.int 2, rfl, rfl, _, rfl, iteF (iteF ?_)⟩
            refine panel_append (m := m + 10 * (10 - (i + 1))) (l := acc) rfl rfl rfl hnF (b56.trans (But.of s7)) (D6'.same s7) FD'.1 FD'.2 (s7 _ _ hF6) (hq6.mono fun _ _ x => x.same s7) eO2 few nn3 (by omega) am fun H9 q' ms g1 g2 gu gm g3 g4 => ?_
            obtain ⟨r1, r2, r3, r4⟩ := close H9 q' ms g1 g2 gu gm g3 g4
            exact ⟨r1, r2, r3, r4, _, _, _, rfl⟩
        · have n2 : decide (V.int y = V.int 2) = false := decide_eq_false fun z => h2 (V.int.inj z)
          refine ⟨.int y, rfl, rfl, _, rfl, ?_⟩
          rw [n2]
          refine iteF ?_
          by_cases h3 : y = 3
          · subst h3
            refine ⟨.int 3, rfl, rfl, _, rfl, iteT ⟨.int (nn : Int), rfl, _, 1, rfl, rfl, _, rfl, ite2 (fun e => ?_) (fun e => ?_)⟩⟩
            · have hn1 : (1 : Int) < (nn : Int) := of_decide_eq_true e
              refine ⟨.ref O, rfl, .int (i : Int), rfl, _, 1, rfl, rfl, .int (nn : Int), rfl, _, _, rfl, rfl, (by show (0 : Int) < (nn : Int); omega), by show 1 ≤ sizeLine; decide, fun L nL => ?_⟩
              have sL : Same H6 (upd H6 L (.lst [.int (((i : Int) + 1) % (nn : Int))])) := same_new nL
              refine ⟨O, L, _, _, rfl, rfl, sL _ _ eO, upd_same, by rw [List.length_map]; exact Nat.le_of_lt (small1000 (show l.length + 1 ≤ 1000 by omega)), fun O3 nO3 => ?_⟩
              have s3 := sL.trans (same_new (o := .lst (l.map V.int ++ [.int (((i : Int) + 1) % (nn : Int))])) nO3)
              have u3 : upto nn i (l ++ [((i : Int) + 1) % (nn : Int)]) := fun x hx => by
                rcases List.mem_append.mp hx with h | h
                · exact lu x h
                · rw [List.mem_singleton.mp h]
                  have e1 := Int.emod_nonneg ((i : Int) + 1) (show (nn : Int) ≠ 0 by omega)
                  have e2 := Int.emod_lt_of_pos ((i : Int) + 1) (show (0 : Int) < (nn : Int) by omega)
                  refine ⟨e1, e2, fun e3 => ?_⟩
                  by_cases h4 : (i : Int) + 1 < (nn : Int)
                  · rw [Int.emod_eq_of_lt (by omega) h4] at e3; omega
                  · have h5 : (i : Int) + 1 = (nn : Int) := by omega
                    rw [h5, Int.emod_self] at e3; omega
              refine panel_append (m := m + 10 * (10 - (i + 1))) (l := l ++ [((i : Int) + 1) % (nn : Int)]) rfl rfl rfl hnF (b56.trans (But.of s3)) (D6'.same s3) FD'.1 FD'.2 (s3 _ _ hF6) (hq6.mono fun _ _ x => x.same s3) (by rw [upd_same, List.map_append]; rfl) few nn3 (by rw [List.length_append]; show l.length + 1 ≤ 100; omega) u3 fun H9 q' ms g1 g2 gu gm g3 g4 => ?_
              obtain ⟨r1, r2, r3, r4⟩ := close H9 q' ms g1 g2 gu gm g3 g4
              exact ⟨r1, r2, r3, r4, _, _, _, rfl⟩
            · refine panel_append (m := m + 10 * (10 - (i + 1))) (l := l) rfl rfl rfl hnF b56 D6' FD'.1 FD'.2 hF6 hq6 eO few nn3 (by omega) lu fun H9 q' ms g1 g2 gu gm g3 g4 => ?_
              obtain ⟨r1, r2, r3, r4⟩ := close H9 q' ms g1 g2 gu gm g3 g4
              exact ⟨r1, r2, r3, r4, _, _, _, rfl⟩
          · have n3 : decide (V.int y = V.int 3) = false := decide_eq_false fun z => h3 (V.int.inj z)
            refine ⟨.int y, rfl, rfl, _, rfl, ?_⟩
            rw [n3]
            refine iteF (iteF ?_)
            refine panel_append (m := m + 10 * (10 - (i + 1))) (l := l) rfl rfl rfl hnF b56 D6' FD'.1 FD'.2 hF6 hq6 eO few nn3 (by omega) lu fun H9 q' ms g1 g2 gu gm g3 g4 => ?_
            obtain ⟨r1, r2, r3, r4⟩ := close H9 q' ms g1 g2 gu gm g3 g4
            exact ⟨r1, r2, r3, r4, _, _, _, rfl⟩
    · intro σ H5 hP
      obtain ⟨b5, D5, _, ⟨qs, pan, hF, hqs, hpl, hpan⟩, x5, x6, x7, rfl⟩ := hP
      refine ⟨.ref F, rfl, F, _, rfl, .inl (.inl hF), fun l o nl ho => ?_⟩
      have sl : Same H5 (upd H5 l (.frz o (.tup (qs.map V.ref)))) := same_new nl
      refine q _ l pan (b5.trans (But.of sl)) ((D5.same sl).less (by omega)) ⟨qs, ⟨o, upd_same, ho⟩, hqs.mono fun _ _ z => z.same sl⟩ ?_ (by omega)
      have hnn : (pan.length : Int) = (nn : Int) := by omega
      refine ⟨by omega, by omega, fun l hl => ?_, fun l hl => ?_, fun j l hl h => ?_⟩
      · obtain ⟨j, hj⟩ := List.getElem?_of_mem hl
        exact (hpan j l hj).1
      · obtain ⟨j, hj⟩ := List.getElem?_of_mem hl
        intro x hx
        have := (hpan j l hj).2 x hx
        exact ⟨this.1, by omega⟩
      · exact ((hpan j l hl).2 _ h).2.2 rfl

def spRow : Sp := fun vs H Q _ => ∃ (a c : Addr) (m : Nat) (n most : Int), vs = [.ref a, .int n, .int most] ∧ Deck H a c (m + 65) ∧ 1 ≤ n ∧ n < 1000000 ∧ 0 ≤ most ∧ most ≤ 60 ∧
  ∀ (H' : Hp) (t : Addr) (row : List Int), But a c H H' → Deck H' a c m → FT H' t (row.map V.int) → (∀ x ∈ row, 0 ≤ x ∧ x < n) → (row.length : Int) ≤ most → Q (.ref t) H'
theorem ok_row {f fD : Addr} {fd fdD : FuncData} {k : Nat} (F : Fun K "_law_row" "_law_row" sRow f fd) (FD : Fun K "_law_draw" "_law_draw" sDraw fD fdD) (bD : Binds K fdD ["_law_deck_here", "_law_bound"] []) (gD : mg "_law_draw" = some (.ref fD))
    (ml : mg "len" = none) (mr : mg "range" = none) (mt : mg "tuple" = none) (mx : mg "max" = none) : FnOk P w K mg base CX0 (k + 2) f fd ["_law_deck_here", "_law_n", "_law_most"] spRow := by
  have GD : FnOk P w K mg base CX0 (k + 1) fD fdD ["_law_deck_here", "_law_bound"] spDraw := ok_draw FD ml mx
  refine F.ok scRow (fun vs H Q E h => ?_) (fun cdv A outer s H vs Q E hr h => ?_)
  · obtain ⟨a, c, m, n, most, rfl, _⟩ := h
    rfl
  · obtain ⟨a, c, m, n, most, rfl, hD, n1, n2, m1, m2, q⟩ := h
    refine ⟨_, pss_cons (ps_set (i := 3) scRow.nd rfl (.inr rfl) (pe_lst (pa_cons (pe_call GD hr (by rfl) gD FD.kp bD .nil pass0 (pa_cons (pv 0) (pa_cons (pv 1) pa_nil))) (pa_cons (pe_call GD hr (by rfl) gD FD.kp bD .nil pass0 (pa_cons (pv 0) (pa_cons (pv 1) pa_nil))) (pa_cons (pe_call GD hr (by rfl) gD FD.kp bD .nil pass0 (pa_cons (pv 0) (pa_cons (pv 1) pa_nil))) pa_nil)))))
      (pss_cons (ps_set (i := 4) scRow.nd rfl (.inr rfl) (pe_call GD hr (by rfl) gD FD.kp bD .nil pass0 (pa_cons (pv 0) (pa_cons pe_int pa_nil))))
      (pss_one (ps_ret (pe_callTy call_tupF (by rfl) mt (by decide +kernel) (pa_cons
        (pe_lc (own := [("_law_k", 5)]) (g := gName 5) (tt := tYes) rfl scRow.nd (pi_range1 (by rfl) mr (pa_cons (pe_call GD hr (by rfl) gD FD.kp bD .nil pass0 (pa_cons (pv 0) (pa_cons (pe_op op_add (pv 2) pe_int) pa_nil))) pa_nil))
          (blkOk_by (own := [("_law_k", 5)]) (N := nRow) (sc := defScope sRow) (by decide +kernel)) (fun _ _ _ _ _ => pg_name (i := 5) scRow.nd rfl (Or.inl rfl)) (fun _ _ _ _ _ => pts_nil)
          (fun _ _ _ _ _ => pe_ix (show IxR _ (rIxL K) from ix_list) (pe_lst (pa_cons (pe_call GD hr (by rfl) gD FD.kp bD .nil pass0 (pa_cons (pv 0) (pa_cons (pv 1) pa_nil))) (pa_cons (pe_ix (show IxR _ (rIxL K) from ix_list) (pv 3) (pe_op op_mod (pv 5) pe_int) (fun _ _ => rfl)) pa_nil))) (pv 4) (fun _ _ => rfl))) pa_nil))))), ?_⟩
    refine ⟨.ref a, rfl, .int n, rfl, a, c, m + 64, n, rfl, hD.less (by omega), by omega, n2, fun H1 z1 b1 D1 z1a z1b => ?_⟩
    refine ⟨.ref a, rfl, .int n, rfl, a, c, m + 63, n, rfl, D1, by omega, n2, fun H2 z2 b2 D2 z2a z2b => ?_⟩
    refine ⟨.ref a, rfl, .int n, rfl, a, c, m + 62, n, rfl, D2, by omega, n2, fun H3 z3 b3 D3 z3a z3b => ?_⟩
    refine ⟨by show 3 ≤ sizeLine; decide, fun W nW => ?_⟩
    have oW := D3.fresh nW
    refine gen_name (fun H4 => But a c H H4 ∧ Deck H4 a c (m + 62) ∧ H4 W = some (.lst [.int z1, .int z2, .int z3])) ⟨((b1.trans b2).trans b3).trans (But.of (same_new nW)), D3.same (same_new nW), upd_same⟩ fun H4 ⟨b4, D4, eW⟩ => ?_
    refine ⟨.ref a, rfl, a, c, m + 61, 2, rfl, D4, by decide, by decide, fun H5 y b5 D5 y0 y1 => ?_⟩
    have eW5 := b5 _ _ oW.1 oW.2 eW
    refine ⟨.ref a, rfl, .int most, rfl, most, 1, rfl, rfl, a, c, m + 60, most + 1, rfl, D5, by omega, by omega, fun H6 u b6 D6 u0 u1 => ?_⟩
    have eW6 := b6 _ _ oW.1 oW.2 eW5
    obtain ⟨un, rfl⟩ : ∃ un : Nat, u = (un : Int) := ⟨u.toNat, (Int.toNat_of_nonneg u0).symm⟩
    refine ⟨_, rfl, by omega, by omega, fun D nD => ?_⟩
    have oD := D6.fresh nD
    refine lc_range (n := un) (fun i H7 => But a c H6 H7 ∧ Deck H7 a c (m + 60 - i) ∧ ∃ acc : List Int, H7 D = some (.lst (acc.map V.int)) ∧ acc.length = i ∧ ∀ x ∈ acc, 0 ≤ x ∧ x < n)
      ⟨But.of (same_new nD), (D6.same (same_new nD)).less (by omega), [], upd_same, rfl, fun x h => by cases h⟩ (fun i H7 hi hP => ?_) (fun H7 hP => ?_)
    · obtain ⟨b7, D7, acc, eD, al, am⟩ := hP
      rw [Int.zero_add]
      refine ⟨rfl, tyes (iteT ⟨.ref a, rfl, .int n, rfl, a, c, m + 60 - (i + 1), n, rfl, D7.less (by omega), by omega, n2, fun H8 z b8 D8 z0 z1' => ?_⟩)⟩
      have b68 := b7.trans b8
      obtain ⟨v, hv, v0, v1⟩ : ∃ v : Int, atI [V.int z1, V.int z2, V.int z3] ((i : Int) % 3) = some (.int v) ∧ 0 ≤ v ∧ v < n := by
        have e1 := Int.emod_nonneg (i : Int) (show (3 : Int) ≠ 0 by decide)
        have e2 := Int.emod_lt_of_pos (i : Int) (show (0 : Int) < 3 by decide)
        generalize (i : Int) % 3 = g at e1 e2
        obtain rfl | rfl | rfl : g = 0 ∨ g = 1 ∨ g = 2 := by omega
        · exact ⟨z1, rfl, z1a, z1b⟩
        · exact ⟨z2, rfl, z2a, z2b⟩
        · exact ⟨z3, rfl, z3a, z3b⟩
      refine ⟨.ref W, rfl, .int (i : Int), rfl, _, 3, rfl, rfl, (by show (0 : Int) < 3; decide), W, _, _, .int v, rfl, rfl, .inl (.inl (b68 _ _ oW.1 oW.2 eW6)), hv, by show 2 ≤ sizeLine; decide, fun L nL => ?_⟩
      have sL : Same H8 (upd H8 L (.lst [.int z, .int v])) := same_new nL
      obtain ⟨x, hx, x0, x1⟩ : ∃ x : Int, atI [V.int z, V.int v] y = some (.int x) ∧ 0 ≤ x ∧ x < n := by
        obtain rfl | rfl : y = 0 ∨ y = 1 := by omega
        · exact ⟨z, rfl, z0, z1'⟩
        · exact ⟨v, rfl, v0, v1⟩
      refine ⟨.int y, rfl, L, _, _, .int x, rfl, rfl, .inl (.inl upd_same), hx, acc.map V.int, sL _ _ (b8 _ _ oD.1 oD.2 eD), ?_, ?_, ?_, acc ++ [x], ?_, ?_, ?_⟩
      · rw [List.length_map]; exact small1000 (by omega)
      · intro b o h1 h2 e
        rw [upd_ne (ne_of_none e nD)]
        exact sL _ _ (b8 _ _ h1 h2 (b7 _ _ h1 h2 e))
      · obtain ⟨cs, n', e1, e2, e3⟩ := D8.same sL
        exact ⟨cs, n', by rw [upd_ne (Ne.symm oD.1)]; exact e1, by rw [upd_ne (Ne.symm oD.2)]; exact e2, e3⟩
      · rw [upd_same, List.map_append]; rfl
      · rw [List.length_append, al]; rfl
      · intro x' hx'
        rcases List.mem_append.mp hx' with h | h
        · exact am x' h
        · rw [List.mem_singleton.mp h]; exact ⟨x0, x1⟩
    · obtain ⟨b7, D7, acc, eD, al, am⟩ := hP
      refine ⟨D, _, rfl, .inl (.inl eD), fun t o nt ho => ?_⟩
      exact q _ t acc (((b4.trans b5).trans b6).trans (b7.trans (But.of (same_new nt)))) ((D7.same (same_new nt)).less (by omega)) ⟨o, upd_same, ho⟩ am (by omega)
end
end K32
namespace K32
open PySem PySem.Spec PyProof.Rows L2 Pr
theorem scNo : FnScope ["panel"] ["panel"] (defScope sNo) := ⟨rfl, rfl, rfl, by decide +kernel, rfl, by decide +kernel, by decide +kernel⟩
theorem scPressE : FnScope ["panel", "button", "words", "other"] ["panel", "button"] (defScope sPressE) := ⟨rfl, rfl, rfl, by decide +kernel, rfl, by decide +kernel, by decide +kernel⟩
def nJoin : List Str := ["first", "second", "early", "late"]
theorem scJoin : FnScope nJoin ["first", "second"] (defScope sJoin) := ⟨rfl, rfl, rfl, by decide +kernel, rfl, by decide +kernel, by decide +kernel⟩
theorem scWith : FnScope ["panel", "effect", "button"] ["panel", "effect", "button"] (defScope sWith) := ⟨rfl, rfl, rfl, by decide +kernel, rfl, by decide +kernel, by decide +kernel⟩
theorem scEff : FnScope ["panel", "row", "effect", "button"] ["panel", "row"] (defScope sEff) := ⟨rfl, rfl, rfl, by decide +kernel, rfl, by decide +kernel, by decide +kernel⟩
section
variable {P : Program} {w : World} {K : PySem.W.Frag} {mg : Str → Option Value} {base : Heap}
def spNo (K : PySem.W.Frag) : Sp := fun vs H Q _ => ∃ (p : Addr) (pan : List (List Int)), vs = [.ref p] ∧ PanT K H p pan ∧ Good pan ∧
  ∀ H' t, Same H H' → H' t = some (.tup ((effM pan []).map V.str)) → Q (.ref t) H'
theorem ok_no {f : Addr} {fd : FuncData} {k : Nat} (F : Fun K "no_effect" "no_effect" sNo f fd) (ml : mg "len" = none) : FnOk P w K mg base CX0 (k + 1) f fd ["panel"] (spNo K) := by
  refine F.ok scNo (fun vs H Q E h => ?_) (fun cdv A outer s H vs Q E hr h => ?_)
  · obtain ⟨p, pan, rfl, _⟩ := h
    rfl
  · obtain ⟨p, pan, rfl, hp, hg, q⟩ := h
    refine ⟨_, pss_one (ps_ret (pe_op op_repS (pe_tup (pa_cons pe_str pa_nil)) (pe_callB call_len_seq (by rfl) ml PySem.boot_len (pa_cons (pv 0) pa_nil)))), ?_⟩
    obtain ⟨qs, hq, hqs⟩ := id hp
    have hl : (qs.map V.ref).length = pan.length := by rw [List.length_map, hqs.length]
    have few := hg.few
    have pos := hg.pos
    refine ⟨by show 1 ≤ sizeLine; decide, fun T nT => ?_⟩
    have sT : Same H (upd H T (.tup [.str wSame])) := same_new nT
    refine ⟨.ref p, rfl, p, _, rfl, .inr (same_sqT sT hq), ?_⟩
    rw [hl]
    by_cases e : pan.length = 1
    · refine .inl ⟨T, .str wSame, rfl, .inl (.inl upd_same), .inl ⟨by rw [e]; rfl, q _ T sT ?_⟩⟩
      rw [upd_same, effM_nil, e]; rfl
    · refine .inr ⟨T, (pan.length : Int), _, rfl, rfl, .inl (.inl upd_same), by simp, by omega, by omega, by show 1 ≤ 1000; decide, fun t nt => q _ t (sT.trans (same_new nt)) ?_⟩
      rw [upd_same, rep_flat, effM_nil, List.map_replicate, Int.toNat_natCast]

def spPressE (K : PySem.W.Frag) : Sp := fun vs H Q _ => ∃ (p : Addr) (pan : List (List Int)) (b : Int), vs = [.ref p, .int b] ∧ PanT K H p pan ∧ Good pan ∧ 0 ≤ b ∧ b < (pan.length : Int) ∧
  ∀ H' t, Same H H' → H' t = some (.tup ((pressW pan b).map V.str)) → Q (.ref t) H'
theorem ok_pressE {f fN : Addr} {fd fdN : FuncData} {k : Nat} (F : Fun K "press_effect" "press_effect" sPressE f fd) (FN : Fun K "no_effect" "no_effect" sNo fN fdN) (bN : Binds K fdN ["panel"] []) (gN : mg "no_effect" = some (.ref fN))
    (ml : mg "len" = none) (mli : mg "list" = none) (mt : mg "tuple" = none) : FnOk P w K mg base CX0 (k + 2) f fd ["panel", "button"] (spPressE K) := by
  have GN : FnOk P w K mg base CX0 (k + 1) fN fdN ["panel"] (spNo K) := ok_no FN ml
  refine F.ok scPressE (fun vs H Q E h => ?_) (fun cdv A outer s H vs Q E hr h => ?_)
  · obtain ⟨p, pan, b, rfl, _⟩ := h
    rfl
  · obtain ⟨p, pan, b, rfl, hp, hg, b0, b1, q⟩ := h
    refine ⟨_, pss_cons (ps_set (i := 2) scPressE.nd rfl (.inl rfl) (pe_callTy call_list_of (by rfl) mli (by decide +kernel) (pa_cons (pe_call GN hr (by rfl) gN FN.kp bN .nil pass0 (pa_cons (pv 0) pa_nil)) pa_nil)))
      (pss_cons (ps_asg pe_str (pg_sub (pv 2) (pv 1) set_list))
      (pss_cons (ps_for PassesOwn.never rfl (pi_tup (pe_ix ix_tup (pv 0) (pv 1) (fun _ _ => rfl))) (pg_name (i := 3) scPressE.nd rfl (.inl rfl))
        (pss_one (ps_asg pe_str (pg_sub (pv 2) (pv 3) set_list))))
      (pss_one (ps_ret (pe_callTy call_tuple_of (by rfl) mt (by decide +kernel) (pa_cons (pv 2) pa_nil)))))), ?_⟩
    refine ⟨.ref p, rfl, p, pan, rfl, hp, hg, fun H1 t s1 et => ?_⟩
    refine ⟨t, _, rfl, .inr (.inl (.inl et)), fun W nW => ?_⟩
    have s2 : Same H (upd H1 W (.lst ((effM pan []).map V.str))) := s1.trans (same_new nW)
    have nW' : H W = none := s1.free nW
    obtain ⟨bn, rfl⟩ : ∃ bn : Nat, b = (bn : Int) := ⟨b.toNat, (Int.toNat_of_nonneg b0).symm⟩
    have hbn : bn < pan.length := by omega
    refine ⟨.ref W, rfl, .int (bn : Int), rfl, W, _, _, bn, rfl, rfl, upd_same, ixN_nat (by rw [List.length_map, effM_len]; exact hbn), ?_⟩
    obtain ⟨qs, q', hq, ha, hr', _⟩ := panT_at hp (b := (bn : Int)) b0 b1
    have s3 : Same H (upd (upd H1 W (.lst ((effM pan []).map V.str))) W (.lst (((effM pan []).map V.str).set bn (.str wOn)))) := fun x o e => by
      rw [upd_ne (ne_of_none e nW')]; exact s2 _ _ e
    refine ⟨.ref p, rfl, .int (bn : Int), rfl, p, _, _, .ref q', rfl, rfl, same_sqT s3 hq, ha, q', rfl, ⟨_, same_sqT s3 hr'⟩, ?_⟩
    generalize hl0 : pan.getD ((bn : Int)).toNat [] = l at hr'
    have hin : ∀ x ∈ l, 0 ≤ x ∧ x < (pan.length : Int) := fun x hx => by
      rw [← hl0, Int.toNat_natCast, List.getD_eq_getElem?_getD, List.getElem?_eq_getElem hbn] at hx
      exact hg.rng _ (List.getElem_mem hbn) x hx
    refine for_tup (xs := l.map V.int) (fun i σ H4 => Same H H4 ∧ H4 W = some (.lst (((List.range pan.length).map (onM (l.take i) (bn : Int))).map V.str)) ∧ ∃ x3, σ = [some (.ref p), some (.int (bn : Int)), some (.ref W), x3])
      ⟨s3, ?_, none, rfl⟩ (fun i σ H4 _ hP => same_sqT hP.1 hr') (fun i x σ H4 hx hP => ?_) (fun σ H4 hP => ?_)
    · rw [upd_same, effM_nil, replicate_map_range, List.map_map, set_map_range, List.map_map]
      refine congrArg _ (congrArg _ (List.map_congr_left fun c _ => ?_))
      show (if c = bn then V.str wOn else V.str wSame) = V.str (onM [] (bn : Int) c)
      unfold onM
      have e0 : ¬ ((c : Int) ∈ ([] : List Int)) := by simp
      by_cases e : c = bn
      · have e1 : (c : Int) = (bn : Int) := by omega
        rw [if_pos e, if_neg e0, if_pos e1]
      · have e1 : ¬ (c : Int) = (bn : Int) := by omega
        rw [if_neg e, if_neg e0, if_neg e1]
    · obtain ⟨s4, eW, x3, rfl⟩ := hP
      obtain ⟨z, hz, rfl⟩ := int_get hx
      have hzr := hin z (List.mem_of_getElem? hz)
      obtain ⟨zn, rfl⟩ : ∃ zn : Nat, z = (zn : Int) := ⟨z.toNat, (Int.toNat_of_nonneg hzr.1).symm⟩
      refine ⟨.ref W, rfl, .int (zn : Int), rfl, W, _, _, zn, rfl, rfl, eW, ixN_nat (by rw [List.length_map, List.length_map, List.length_range]; omega), ?_, ?_, _, rfl⟩
      · intro b o e
        rw [upd_ne (ne_of_none e nW')]; exact s4 _ _ e
      · rw [upd_same, List.map_map, set_map_range, List.map_map]
        refine congrArg _ (congrArg _ (List.map_congr_left fun c _ => ?_))
        show (if c = zn then V.str wOff else V.str (onM (l.take i) (bn : Int) c)) = V.str (onM (l.take (i + 1)) (bn : Int) c)
        unfold onM
        rw [List.take_add_one, hz]
        by_cases e : c = zn
        · rw [if_pos e, if_pos (by rw [e]; simp)]
        · have hne : (c : Int) ≠ (zn : Int) := by omega
          rw [if_neg e]
          congr 1
          by_cases e2 : (c : Int) ∈ l.take i
          · rw [if_pos e2, if_pos (List.mem_append_left _ e2)]
          · rw [if_neg e2, if_neg fun h => (List.mem_append.mp h).elim e2 fun h => hne (by simpa using h)]
    · obtain ⟨s4, eW, x3, rfl⟩ := hP
      rw [List.length_map, List.take_length] at eW
      refine ⟨.ref W, rfl, W, _, rfl, .inl ⟨.inl (.inl eW), fun t nt => q _ t (s4.trans (same_new nt)) ?_⟩⟩
      rw [upd_same]
      unfold pressW
      rw [hl0]

def spJoin (K : PySem.W.Frag) : Sp := fun vs H Q _ => ∃ (a b : Addr) (xs ys : List Str), vs = [.ref a, .ref b] ∧ SqT K H a (xs.map V.str) ∧ SqT K H b (ys.map V.str) ∧ xs.length = ys.length ∧ ys.length ≤ 100 ∧
  ∀ H' t, Same H H' → H' t = some (.tup ((joinM xs ys).map V.str)) → Q (.ref t) H'
theorem ok_join {f : Addr} {fd : FuncData} {k : Nat} (F : Fun K "joined_effect" "joined_effect" sJoin f fd) (mz : mg "zip" = none) (mt : mg "tuple" = none) : FnOk P w K mg base CX0 (k + 1) f fd ["first", "second"] (spJoin K) := by
  refine F.ok scJoin (fun vs H Q E h => ?_) (fun cdv A outer s H vs Q E hr h => ?_)
  · obtain ⟨a, b, xs, ys, rfl, _⟩ := h
    rfl
  · obtain ⟨a, b, xs, ys, rfl, ha, hb, hl, few, q⟩ := h
    refine ⟨_, pss_one (ps_ret (pe_callTy call_tuple_of (by rfl) mt (by decide +kernel) (pa_cons
      (pe_lc (own := [("early", 2), ("late", 3)]) (g := gTup K 2 (gCons (gName 2) (gCons (gName 3) gNil))) (tt := tYes) rfl scJoin.nd (RZ.pi_zipA (by rfl) mz (pa_cons (pv 0) (pa_cons (pv 1) pa_nil)))
        (blkOk_by (own := [("early", 2), ("late", 3)]) (N := nJoin) (sc := defScope sJoin) (by decide +kernel))
        (fun _ _ _ _ _ => pg_tup rfl (pgs_cons (pg_name (i := 2) scJoin.nd rfl (Or.inl rfl)) (pgs_cons (pg_name (i := 3) scJoin.nd rfl (Or.inl rfl)) pgs_nil)))
        (fun _ _ _ _ _ => pts_nil)
        (fun _ _ _ _ _ => pe_ifExp (pt_cmpR op_eq (pv 3) pe_str (nomark _)) (pv 2) (pv 3))) pa_nil))), ?_⟩
    refine ⟨.ref a, rfl, .ref b, rfl, a, b, _, _, rfl, .inr ⟨ha, hb, fun D nD => ?_⟩⟩
    have hjl := joinM_len hl
    refine lc_it (walk_zipT (n := ys.length) (xs := xs.map V.str) (ys := ys.map V.str) (by rw [List.length_map, List.length_map, hl, Nat.min_self])) (fun i H3 => Same H H3 ∧ H3 D = some (.lst (((joinM xs ys).take i).map V.str))) ⟨same_new nD, upd_same⟩
      (fun i H3 _ hP => ⟨same_sqT hP.1 ha, same_sqT hP.1 hb⟩) (fun i x H3 H4 hi hP hY => ?_) (fun H3 hP => ?_)
    · obtain ⟨s3, eD⟩ := hP
      obtain ⟨T, x1, x2, rfl, nT, rfl, e1, e2⟩ := hY
      obtain ⟨y1, f1, rfl⟩ := str_get e1
      obtain ⟨y2, f2, rfl⟩ := str_get e2
      have sT : Same H3 (upd H3 T (.tup [.str y1, .str y2])) := same_new nT
      have eD4 := sT _ _ eD
      have g := joinM_get f1 f2
      have fin : ∀ v : V, v = .str (if y2 = wSame then y1 else y2) → ∃ acc, (upd H3 T (.tup [.str y1, .str y2])) D = some (.lst acc) ∧ acc.length < sizeLine ∧ Same H (upd (upd H3 T (.tup [.str y1, .str y2])) D (.lst (acc ++ [v]))) ∧
          (upd (upd H3 T (.tup [.str y1, .str y2])) D (.lst (acc ++ [v]))) D = some (.lst (((joinM xs ys).take (i + 1)).map V.str)) := by
        intro v hv
        refine ⟨_, eD4, ?_, ?_, ?_⟩
        · rw [List.length_map, List.length_take]; exact small1000 (by omega)
        · intro b' o e
          rw [upd_ne (ne_of_none e nD)]
          exact sT _ _ (s3 _ _ e)
        · rw [upd_same, List.take_add_one, g, List.map_append, hv]; rfl
      refine ⟨T, _, rfl, .inl (.inl upd_same), rfl, _, _, rfl, _, _, rfl, rfl, rfl, tyes (iteT ⟨.str y2, rfl, rfl, _, rfl, ite2 (fun e => ?_) (fun e => ?_)⟩)⟩
      · have e' : y2 = wSame := V.str.inj (of_decide_eq_true e)
        exact ⟨.str y1, rfl, fin _ (by rw [if_pos e'])⟩
      · have e' : y2 ≠ wSame := fun z => e (by rw [z]; exact decide_eq_true rfl)
        exact ⟨.str y2, rfl, fin _ (by rw [if_neg e'])⟩
    · obtain ⟨s3, eD⟩ := hP
      rw [List.take_of_length_le (by rw [hjl]; exact Nat.le_refl _)] at eD
      refine ⟨D, _, rfl, .inl ⟨.inl (.inl eD), fun t nt => ?_⟩⟩
      exact q _ t (s3.trans (same_new nt)) upd_same

def spWith (K : PySem.W.Frag) : Sp := fun vs H Q _ => ∃ (p t : Addr) (pan : List (List Int)) (xs : List Str) (b : Int), vs = [.ref p, .ref t, .int b] ∧ PanT K H p pan ∧ Good pan ∧ SqT K H t (xs.map V.str) ∧ xs.length = pan.length ∧ 0 ≤ b ∧ b < (pan.length : Int) ∧
  ∀ H' u, Same H H' → H' u = some (.tup ((joinM xs (pressW pan b)).map V.str)) → Q (.ref u) H'
theorem ok_with {f fN fP fJ : Addr} {fd fdN fdP fdJ : FuncData} {k : Nat} (F : Fun K "effect_with_press" "effect_with_press" sWith f fd) (FN : Fun K "no_effect" "no_effect" sNo fN fdN) (bN : Binds K fdN ["panel"] []) (gN : mg "no_effect" = some (.ref fN))
    (FP : Fun K "press_effect" "press_effect" sPressE fP fdP) (bP : Binds K fdP ["panel", "button"] []) (gP : mg "press_effect" = some (.ref fP))
    (FJ : Fun K "joined_effect" "joined_effect" sJoin fJ fdJ) (bJ : Binds K fdJ ["first", "second"] []) (gJ : mg "joined_effect" = some (.ref fJ))
    (ml : mg "len" = none) (mli : mg "list" = none) (mt : mg "tuple" = none) (mz : mg "zip" = none) : FnOk P w K mg base CX0 (k + 3) f fd ["panel", "effect", "button"] (spWith K) := by
  have GP : FnOk P w K mg base CX0 (k + 2) fP fdP ["panel", "button"] (spPressE K) := ok_pressE FP FN bN gN ml mli mt
  have GJ : FnOk P w K mg base CX0 (k + 2) fJ fdJ ["first", "second"] (spJoin K) := ok_join FJ mz mt
  refine F.ok scWith (fun vs H Q E h => ?_) (fun cdv A outer s H vs Q E hr h => ?_)
  · obtain ⟨p, t, pan, xs, b, rfl, _⟩ := h
    rfl
  · obtain ⟨p, t, pan, xs, b, rfl, hp, hg, ht, hxl, b0, b1, q⟩ := h
    refine ⟨_, pss_one (ps_ret (pe_call GJ hr (by rfl) gJ FJ.kp bJ .nil pass0 (pa_cons (pv 1) (pa_cons (pe_call GP hr (by rfl) gP FP.kp bP .nil pass0 (pa_cons (pv 0) (pa_cons (pv 2) pa_nil))) pa_nil)))), ?_⟩
    have few := hg.few
    refine ⟨.ref t, rfl, .ref p, rfl, .int b, rfl, p, pan, b, rfl, hp, hg, b0, b1, fun H1 u s1 eu => ?_⟩
    exact ⟨t, u, xs, pressW pan b, rfl, same_sqT s1 ht, .inl (.inl eu), by rw [pressW_len, hxl], by rw [pressW_len]; omega, fun H2 v s2 ev => q _ v (s1.trans s2) ev⟩

def spEff (K : PySem.W.Frag) : Sp := fun vs H Q _ => ∃ (p r : Addr) (pan : List (List Int)) (row : List Int), vs = [.ref p, .ref r] ∧ PanT K H p pan ∧ Good pan ∧ SqT K H r (row.map V.int) ∧ (∀ x ∈ row, 0 ≤ x ∧ x < (pan.length : Int)) ∧
  ∀ H' u, Same H H' → H' u = some (.tup ((effM pan row).map V.str)) → Q (.ref u) H'
theorem ok_eff {f fN fP fJ fW : Addr} {fd fdN fdP fdJ fdW : FuncData} {k : Nat} (F : Fun K "effect_of" "effect_of" sEff f fd) (FN : Fun K "no_effect" "no_effect" sNo fN fdN) (bN : Binds K fdN ["panel"] []) (gN : mg "no_effect" = some (.ref fN))
    (FP : Fun K "press_effect" "press_effect" sPressE fP fdP) (bP : Binds K fdP ["panel", "button"] []) (gP : mg "press_effect" = some (.ref fP))
    (FJ : Fun K "joined_effect" "joined_effect" sJoin fJ fdJ) (bJ : Binds K fdJ ["first", "second"] []) (gJ : mg "joined_effect" = some (.ref fJ))
    (FW : Fun K "effect_with_press" "effect_with_press" sWith fW fdW) (bW : Binds K fdW ["panel", "effect", "button"] []) (gW : mg "effect_with_press" = some (.ref fW))
    (ml : mg "len" = none) (mli : mg "list" = none) (mt : mg "tuple" = none) (mz : mg "zip" = none) : FnOk P w K mg base CX0 (k + 4) f fd ["panel", "row"] (spEff K) := by
  have GN : FnOk P w K mg base CX0 (k + 3) fN fdN ["panel"] (spNo K) := ok_no FN ml
  have GW : FnOk P w K mg base CX0 (k + 3) fW fdW ["panel", "effect", "button"] (spWith K) := ok_with FW FN bN gN FP bP gP FJ bJ gJ ml mli mt mz
  refine F.ok scEff (fun vs H Q E h => ?_) (fun cdv A outer s H vs Q E hr h => ?_)
  · obtain ⟨p, r, pan, row, rfl, _⟩ := h
    rfl
  · obtain ⟨p, r, pan, row, rfl, hp, hg, hrow, hin, q⟩ := h
    refine ⟨_, pss_cons (ps_set (i := 2) scEff.nd rfl (.inl rfl) (pe_call GN hr (by rfl) gN FN.kp bN .nil pass0 (pa_cons (pv 0) pa_nil)))
      (pss_cons (ps_for PassesOwn.never rfl (pi_tup (pv 1)) (pg_name (i := 3) scEff.nd rfl (.inl rfl))
        (pss_one (ps_set (i := 2) scEff.nd rfl (.inl rfl) (pe_call GW hr (by rfl) gW FW.kp bW .nil pass0 (pa_cons (pv 0) (pa_cons (pv 2) (pa_cons (pv 3) pa_nil)))))))
      (pss_one (ps_ret (pv 2)))), ?_⟩
    refine ⟨.ref p, rfl, p, pan, rfl, hp, hg, fun H1 t s1 et => ?_⟩
    refine ⟨.ref r, rfl, r, rfl, ⟨_, same_sqT s1 hrow⟩, ?_⟩
    refine for_tup (xs := row.map V.int) (fun i σ H2 => Same H H2 ∧ ∃ u x3, H2 u = some (.tup ((effM pan (row.take i)).map V.str)) ∧ σ = [some (.ref p), some (.ref r), some (.ref u), x3])
      ⟨s1, t, _, et, rfl⟩ (fun i σ H2 _ hP => same_sqT hP.1 hrow) (fun i x σ H2 hx hP => ?_) (fun σ H2 hP => ?_)
    · obtain ⟨s2, u, x3, eu, rfl⟩ := hP
      obtain ⟨b, hb, rfl⟩ := int_get hx
      have hbr := hin b (List.mem_of_getElem? hb)
      refine ⟨.ref p, rfl, .ref u, rfl, .int b, rfl, p, u, pan, _, b, rfl, hp.same s2, hg, .inl (.inl eu), effM_len _ _, hbr.1, hbr.2, fun H3 v s3 ev => ⟨s2.trans s3, v, _, ?_, rfl⟩⟩
      rw [ev, eff_take hg hb hbr.1 hbr.2]
    · obtain ⟨s2, u, x3, eu, rfl⟩ := hP
      rw [List.length_map, List.take_length] at eu
      exact ⟨.ref u, rfl, q _ u s2 eu⟩
end
end K32
namespace K32
open PySem PySem.Spec PyProof.Rows L2 Pr
theorem scReset : FnScope ["panel", "row"] ["panel", "row"] (defScope sReset) := ⟨rfl, rfl, rfl, by decide +kernel, rfl, by decide +kernel, by decide +kernel⟩
theorem scMet : FnScope ["_law_panel_here", "_law_row_here", "_law_found", "_law_button"] ["_law_panel_here", "_law_row_here"] (defScope sMet) := ⟨rfl, rfl, rfl, by decide +kernel, rfl, by decide +kernel, by decide +kernel⟩
theorem scCov : FnScope ["_law_deck_here", "_law_panel_here", "_law_found", "_law_left"] ["_law_deck_here", "_law_panel_here"] (defScope sCov) := ⟨rfl, rfl, rfl, by decide +kernel, rfl, by decide +kernel, by decide +kernel⟩
theorem seqIx {j n : Nat} (h : j < n) : seqIndex? (j : Int) n = some j := by
  unfold seqIndex?
  simp
  omega
theorem mem_erase_or {l : List Int} {i : Nat} {x y : Int} (hi : l[i]? = some y) (hx : x ∈ l) : x = y ∨ x ∈ l.eraseIdx i := by
  obtain ⟨j, hj⟩ := List.getElem?_of_mem hx
  rcases Nat.lt_trichotomy j i with q | q | q
  · refine .inr (List.mem_of_getElem? (i := j) ?_)
    rw [List.getElem?_eraseIdx, if_pos q]; exact hj
  · subst q
    rw [hi] at hj
    exact .inl (Option.some.inj hj).symm
  · refine .inr (List.mem_of_getElem? (i := j - 1) ?_)
    rw [List.getElem?_eraseIdx, if_neg (by omega), show j - 1 + 1 = j by omega]; exact hj
section
variable {P : Program} {w : World} {K : PySem.W.Frag} {mg : Str → Option Value} {base : Heap}
def spReset (K : PySem.W.Frag) : Sp := fun vs H Q _ => ∃ (p r : Addr) (pan : List (List Int)) (row : List Int), vs = [.ref p, .ref r] ∧ PanT K H p pan ∧ Good pan ∧ SqT K H r (row.map V.int) ∧ (∀ x ∈ row, 0 ≤ x ∧ x < (pan.length : Int)) ∧
  ∀ H', Same H H' → Q (.bl (!decide (wSame ∈ effM pan row))) H'
theorem ok_reset {f fN fP fJ fW fE : Addr} {fd fdN fdP fdJ fdW fdE : FuncData} {k : Nat} (F : Fun K "is_reset" "is_reset" sReset f fd) (FN : Fun K "no_effect" "no_effect" sNo fN fdN) (bN : Binds K fdN ["panel"] []) (gN : mg "no_effect" = some (.ref fN))
    (FP : Fun K "press_effect" "press_effect" sPressE fP fdP) (bP : Binds K fdP ["panel", "button"] []) (gP : mg "press_effect" = some (.ref fP))
    (FJ : Fun K "joined_effect" "joined_effect" sJoin fJ fdJ) (bJ : Binds K fdJ ["first", "second"] []) (gJ : mg "joined_effect" = some (.ref fJ))
    (FW : Fun K "effect_with_press" "effect_with_press" sWith fW fdW) (bW : Binds K fdW ["panel", "effect", "button"] []) (gW : mg "effect_with_press" = some (.ref fW))
    (FE : Fun K "effect_of" "effect_of" sEff fE fdE) (bE : Binds K fdE ["panel", "row"] []) (gE : mg "effect_of" = some (.ref fE))
    (ml : mg "len" = none) (mli : mg "list" = none) (mt : mg "tuple" = none) (mz : mg "zip" = none) : FnOk P w K mg base CX0 (k + 5) f fd ["panel", "row"] (spReset K) := by
  have GE : FnOk P w K mg base CX0 (k + 4) fE fdE ["panel", "row"] (spEff K) := ok_eff FE FN bN gN FP bP gP FJ bJ gJ FW bW gW ml mli mt mz
  refine F.ok scReset (fun vs H Q E h => ?_) (fun cdv A outer s H vs Q E hr h => ?_)
  · obtain ⟨p, r, pan, row, rfl, _⟩ := h
    rfl
  · obtain ⟨p, r, pan, row, rfl, hp, hg, hrow, hin, q⟩ := h
    refine ⟨_, pss_one (ps_ret (pe_cmpR (show OpR _ _ (rIn K true) from op_notIn_seq) pe_str (pe_call GE hr (by rfl) gE FE.kp bE .nil pass0 (pa_cons (pv 0) (pa_cons (pv 1) pa_nil))) (by rfl))), ?_⟩
    refine ⟨.ref p, rfl, .ref r, rfl, p, r, pan, row, rfl, hp, hg, hrow, hin, fun H1 u s1 eu => ⟨u, _, rfl, .inr (.inl (.inl eu)), rfl, flat_strs _, ?_⟩⟩
    rw [if_pos rfl, inV_strs]
    exact q _ s1

def spMet (K : PySem.W.Frag) : Sp := fun vs H Q _ => ∃ (p r : Addr) (pan : List (List Int)) (row : List Int), vs = [.ref p, .ref r] ∧ PanT K H p pan ∧ Good pan ∧ SqT K H r (row.map V.int) ∧ row.length ≤ 60 ∧ (∀ x ∈ row, 0 ≤ x ∧ x < (pan.length : Int)) ∧
  ∀ (H' : Hp) (t : Addr) (ms : List Int), Same H H' → H' t = some (.lst (ms.map V.int)) → Asc pan.length ms → (∀ c, c ∈ ms ↔ metB pan row c) → Q (.ref t) H'
theorem ok_met {f : Addr} {fd : FuncData} {k : Nat} (F : Fun K "_law_met" "_law_met" sMet f fd) (mli : mg "list" = none) (mse : mg "set" = none) (mso : mg "sorted" = none) : FnOk P w K mg base CX0 (k + 1) f fd ["_law_panel_here", "_law_row_here"] (spMet K) := by
  refine F.ok scMet (fun vs H Q E h => ?_) (fun cdv A outer s H vs Q E hr h => ?_)
  · obtain ⟨p, r, pan, row, rfl, _⟩ := h
    rfl
  · obtain ⟨p, r, pan, row, rfl, hp, hg, hrow, hrl, hin, q⟩ := h
    refine ⟨_, pss_cons (ps_set (i := 2) scMet.nd rfl (.inl rfl) (pe_callTy call_list_of (by rfl) mli (by decide +kernel) (pa_cons (pv 1) pa_nil)))
      (pss_cons (ps_for PassesOwn.never rfl (pi_tup (pv 1)) (pg_name (i := 3) scMet.nd rfl (.inl rfl))
        (pss_one (ps_set (i := 2) scMet.nd rfl (.inl rfl) (pe_op op_cat (pv 2) (pe_callTy call_list_of (by rfl) mli (by decide +kernel) (pa_cons (pe_ix ix_tup (pv 0) (pv 3) (fun _ _ => rfl)) pa_nil))))))
      (pss_one (ps_ret (pe_callB (cr_sortedSet rfl) (by rfl) mso (by decide +kernel) (pa_cons (pe_callTy (cr_setL rfl) (by rfl) mse (by decide +kernel) (pa_cons (pv 2) pa_nil)) pa_nil))))), ?_⟩
    refine ⟨.ref r, rfl, r, _, rfl, .inr hrow, fun L nL => ?_⟩
    have few := hg.few
    refine ⟨.ref r, rfl, r, rfl, ⟨_, same_sqT (same_new nL) hrow⟩, ?_⟩
    refine for_tup (xs := row.map V.int) (fun i σ H2 => Same H H2 ∧ ∃ (W : Addr) (l : List Int) (x3 : Option V), H2 W = some (.lst (l.map V.int)) ∧ l.length ≤ row.length + 10 * i ∧ (∀ c, c ∈ l ↔ (c ∈ row ∨ ∃ b ∈ row.take i, c ∈ pan.getD b.toNat [])) ∧ σ = [some (.ref p), some (.ref r), some (.ref W), x3])
      ⟨same_new nL, L, row, none, upd_same, by omega, fun c => ⟨.inl, fun h => h.elim id fun ⟨b, hb, _⟩ => by simp at hb⟩, rfl⟩ (fun i σ H2 _ hP => same_sqT hP.1 hrow) (fun i x σ H2 hx hP => ?_) (fun σ H2 hP => ?_)
    · obtain ⟨s2, W, l, x3, eW, ll, lm, rfl⟩ := hP
      obtain ⟨b, hb, rfl⟩ := int_get hx
      have hi : i < row.length := (List.getElem?_eq_some_iff.mp hb).1
      have hbr := hin b (List.mem_of_getElem? hb)
      obtain ⟨qs, q', hq, ha, hr', _⟩ := panT_at (hp.same s2) hbr.1 hbr.2
      generalize hl0 : pan.getD b.toNat [] = l0 at hr'
      have hl0l : l0.length ≤ 10 := by
        have hbn : b.toNat < pan.length := by omega
        have hm : l0 ∈ pan := by
          rw [← hl0, List.getD_eq_getElem?_getD, List.getElem?_eq_getElem hbn]
          exact List.getElem_mem hbn
        refine pw_length (n := 10) (lo := 0) (hg.up l0 hm) fun x hx => ?_
        have := hg.rng l0 hm x hx
        omega
      refine ⟨.ref W, rfl, .ref p, rfl, .int b, rfl, p, _, _, .ref q', rfl, rfl, hq, ha, q', _, rfl, .inr hr', fun M nM => ?_⟩
      have sM : Same H2 (upd H2 M (.lst (l0.map V.int))) := same_new nM
      refine ⟨W, M, _, _, rfl, rfl, sM _ _ eW, upd_same, ?_, fun W2 nW2 => ⟨(s2.trans sM).trans (same_new nW2), W2, l ++ l0, _, ?_, ?_, ?_, rfl⟩⟩
      · rw [List.length_map, List.length_map]; exact Nat.le_of_lt (small1000 (by omega))
      · rw [upd_same, List.map_append]
      · rw [List.length_append]; omega
      · intro c
        rw [List.mem_append, lm c, List.take_add_one, hb]
        constructor
        · rintro ((h | ⟨d, h1, h2⟩) | h)
          · exact .inl h
          · exact .inr ⟨d, List.mem_append_left _ h1, h2⟩
          · exact .inr ⟨b, List.mem_append_right _ (by simp), by rw [hl0]; exact h⟩
        · rintro (h | ⟨d, h1, h2⟩)
          · exact .inl (.inl h)
          · rcases List.mem_append.mp h1 with h3 | h3
            · exact .inl (.inr ⟨d, h3, h2⟩)
            · have : d = b := by simpa using h3
              rw [this, hl0] at h2
              exact .inr h2
    · obtain ⟨s2, W, l, x3, eW, ll, lm, rfl⟩ := hP
      rw [List.length_map] at ll
      rw [List.length_map, List.take_length] at lm
      have lr : ∀ x ∈ l, 0 ≤ x ∧ x < (pan.length : Int) := fun x hx => by
        rcases (lm x).mp hx with h | ⟨b, _, h⟩
        · exact hin x h
        · exact hg.rng' h
      refine ⟨.ref W, rfl, sortSet_of (w := w) (K := K) (vs := [.ref W]) (H := H2) (Q := Q) ⟨W, l, pan.length, rfl, .inl (.inl eW), by omega, by omega, lr, fun ms t H3 s3 e3 up mm _ => ?_⟩⟩
      refine q H3 t ms (s2.trans s3) e3 ⟨up, fun x hx => lr x ((mm x).mp hx)⟩ fun c => ?_
      rw [mm c, lm c]
      exact Iff.rfl

def RowsOk (K : PySem.W.Frag) (H : Hp) (n : Nat) (ts : List Addr) : Prop := ∀ t ∈ ts, ∃ row : List Int, SqT K H t (row.map V.int) ∧ (∀ x ∈ row, 0 ≤ x ∧ x < (n : Int)) ∧ row.length ≤ 60
theorem RowsOk.same {H H' : Hp} {n : Nat} {ts : List Addr} (e : Same H H') (h : RowsOk K H n ts) : RowsOk K H' n ts := fun t ht => let ⟨row, h1, h2⟩ := h t ht; ⟨row, same_sqT e h1, h2⟩
def spCov (K : PySem.W.Frag) : Sp := fun vs H Q _ => ∃ (a c p : Addr) (m : Nat) (pan : List (List Int)), vs = [.ref a, .ref p] ∧ Deck H a c (m + 10) ∧ PanAt H p pan ∧ Good pan ∧
  ∀ (H' : Hp) (L : Addr) (ts : List Addr), But a c H H' → Deck H' a c m → H' L = some (.lst (ts.map V.ref)) → ts.length = 5 → RowsOk K H' pan.length ts → Q (.ref L) H'
theorem ok_cov {f fD fM : Addr} {fd fdD fdM : FuncData} {k : Nat} (F : Fun K "_law_covering" "_law_covering" sCov f fd) (FD : Fun K "_law_draw" "_law_draw" sDraw fD fdD) (bD : Binds K fdD ["_law_deck_here", "_law_bound"] []) (gD : mg "_law_draw" = some (.ref fD))
    (FM : Fun K "_law_met" "_law_met" sMet fM fdM) (bM : Binds K fdM ["_law_panel_here", "_law_row_here"] []) (gM : mg "_law_met" = some (.ref fM))
    (ml : mg "len" = none) (mr : mg "range" = none) (mli : mg "list" = none) (mx : mg "max" = none) (mse : mg "set" = none) (mso : mg "sorted" = none) : FnOk P w K mg base CX0 (k + 2) f fd ["_law_deck_here", "_law_panel_here"] (spCov K) := by
  have GD : FnOk P w K mg base CX0 (k + 1) fD fdD ["_law_deck_here", "_law_bound"] spDraw := ok_draw FD ml mx
  have GM : FnOk P w K mg base CX0 (k + 1) fM fdM ["_law_panel_here", "_law_row_here"] (spMet K) := ok_met FM mli mse mso
  refine F.ok scCov (fun vs H Q E h => ?_) (fun cdv A outer s H vs Q E hr h => ?_)
  · obtain ⟨a, c, p, m, pan, rfl, _⟩ := h
    rfl
  · obtain ⟨a, c, p, m, pan, rfl, hD, hp, hg, q⟩ := h
    refine ⟨_, pss_cons (ps_par (i := 2) (j := 3) rfl scCov.nd rfl rfl (by decide) rfl rfl (pa_cons (pe_tup pa_nil) (pa_cons (pe_listRg rfl (by rfl) mli (prg_1 (by rfl) mr (pe_callB call_len_seq (by rfl) ml PySem.boot_len (pa_cons (pv 1) pa_nil)))) pa_nil)) (by rfl))
      (pss_cons (ps_while PassesOwn.never (pt_cmpR op_lt (pe_callB call_len_seq (by rfl) ml PySem.boot_len (pa_cons (pe_call GM hr (by rfl) gM FM.kp bM .nil pass0 (pa_cons (pv 1) (pa_cons (pv 2) pa_nil))) pa_nil)) (pe_callB call_len_seq (by rfl) ml PySem.boot_len (pa_cons (pv 1) pa_nil)) (nomark _))
        (pss_one (ps_set (i := 2) scCov.nd rfl (.inl rfl) (pe_op op_catA (pv 2) (pe_tup (pa_cons (pe_bm PySem.F.plainAttrs_list PySem.F.slot_list_pop PySem.F.type_list_pop mt_popAt (pv 3) (pa_cons (pe_call GD hr (by rfl) gD FD.kp bD .nil pass0 (pa_cons (pv 0) (pa_cons (pe_callB call_len_seq (by rfl) ml PySem.boot_len (pa_cons (pv 3) pa_nil)) pa_nil))) pa_nil)) pa_nil))))))
      (pss_one (ps_ret (pe_lst (pa_cons (pv 2) (pa_cons (pe_slice sl_tupA (pv 2) po_none (po_some (pe_un un_neg pe_int))) (pa_cons (pe_revT (pv 2)) (pa_cons (pe_slice sl_tupA (pv 2) (po_some pe_int) po_none) (pa_cons (pe_op op_catA (pv 2) (pv 2)) pa_nil))))))))), ?_⟩
    obtain ⟨qs, hq, hqs⟩ := id hp
    have hl : (qs.map V.ref).length = pan.length := by rw [List.length_map, hqs.length]
    have few := hg.few
    have pos := hg.pos
    refine ⟨Nat.zero_le _, fun T0 n0 => ?_⟩
    have s0 : Same H (upd H T0 (.tup [])) := same_new n0
    refine ⟨.ref p, rfl, p, _, rfl, .inr (hq.same s0).sq, _, rfl, ?_⟩
    rw [hl]
    refine ⟨RgOk.of_le (by decide) (by omega) (by decide) (by omega), fun L nL => ⟨_, _, rfl, ?_⟩⟩
    have erg : rgV 0 (pan.length : Int) = (intL pan.length).map V.int := by
      unfold rgV intL
      rw [List.map_map]
      show List.map _ (List.range ((pan.length : Int) - 0).toNat) = _
      rw [show ((pan.length : Int) - 0).toNat = pan.length by omega]
      exact List.map_congr_left fun i _ => congrArg V.int (Int.zero_add _)
    rw [erg]
    have sL : Same (upd H T0 (.tup [])) (upd (upd H T0 (.tup [])) L (.lst ((intL pan.length).map V.int))) := same_new nL
    have oL := (hD.same s0).fresh nL
    have nLH : H L = none := s0.free nL
    refine ⟨fun mm σ H2 => ∃ (fs ls : List Int) (t : Addr), mm = ls.length ∧ But a c H H2 ∧ Deck H2 a c (m + ls.length) ∧ H2 t = some (.tup (fs.map V.int)) ∧ H2 L = some (.lst (ls.map V.int)) ∧ fs.length + ls.length = pan.length ∧ (∀ x ∈ fs, 0 ≤ x ∧ x < (pan.length : Int)) ∧ (∀ x ∈ ls, 0 ≤ x ∧ x < (pan.length : Int)) ∧
        (∀ x : Nat, x < pan.length → (x : Int) ∈ fs ∨ (x : Int) ∈ ls) ∧ σ = [some (.ref a), some (.ref p), some (.ref t), some (.ref L)],
      ⟨_, [], intL pan.length, T0, rfl, But.of (s0.trans sL), ((hD.same s0).same sL).less (by rw [intL_len]; omega), sL _ _ upd_same, upd_same, by rw [intL_len]; show 0 + _ = _; omega, (fun x h => by cases h), (fun x h => mem_intL.mp h), (fun x hx => .inr (mem_intL.mpr ⟨by omega, by omega⟩)), rfl⟩, ?_⟩
    rintro mm σ H2 ⟨fs, ls, t, rfl, b2, D2, et, eL, hlen, hfs, hls, hcov, rfl⟩
    have hp2 := hp.but hD b2
    have hq2 := hq.but hD b2
    refine ⟨.ref p, rfl, .ref t, rfl, p, t, pan, fs, rfl, hp2.t, hg, .inl (.inl et), by omega, hfs, fun H3 u ms s3 eu asc mem => ?_⟩
    refine ⟨u, _, rfl, .inl (.inl (.inl eu)), .ref p, rfl, p, _, rfl, .inr (hq2.same s3).sq, _, _, rfl, rfl, _, rfl, ite2 (fun e => ?_) (fun e => ?_)⟩
    · have e' : ms.length < pan.length := by
        have := of_decide_eq_true e
        rw [List.length_map, hl] at this; omega
      have lne : 0 < ls.length := by
        rcases Nat.eq_zero_or_pos ls.length with h | h
        · have hnil := List.eq_nil_of_length_eq_zero h
          subst hnil
          have : ms.length = pan.length := (asc_full asc).mpr fun x hx => (mem x).mpr (.inl ((hcov x hx).resolve_right (by simp)))
          omega
        · exact h
      refine ⟨_, fun σ' H' h => h, .ref t, rfl, .ref L, rfl, .inl ⟨rfl, _, .inl (.inl (s3 _ _ eL))⟩, .ref a, rfl, .ref L, rfl, L, _, rfl, .inl (.inl (.inl (s3 _ _ eL))), a, c, m + (ls.length - 1), _, rfl, (D2.same s3).less (by omega), by rw [List.length_map]; omega, by rw [List.length_map]; omega, fun H4 r b4 D4 r0 r1 => ?_⟩
      rw [List.length_map] at r1
      obtain ⟨j, rfl⟩ : ∃ j : Nat, r = (j : Int) := ⟨r.toNat, (Int.toNat_of_nonneg r0).symm⟩
      have hj : j < ls.length := by omega
      have gj : ls[j]? = some ls[j] := List.getElem?_eq_getElem hj
      have eL4 := b4 _ _ oL.1 oL.2 (s3 _ _ eL)
      refine ⟨L, _, _, j, .int ls[j], rfl, rfl, eL4, by omega, by omega, seqIx (by rw [List.length_map]; exact hj), by rw [List.getElem?_map, gj]; rfl, ?_⟩
      rw [show (ls.map V.int).eraseIdx j = (ls.eraseIdx j).map V.int from erase_mapI ls j]
      have b24 : But a c H2 H4 := (But.of s3).trans b4
      have et4 := tup_but D2 b24 et
      have ntL : t ≠ L := ne_of et4 eL4 (by intro z; cases z)
      have b5 : But a c H (upd H4 L (.lst ((ls.eraseIdx j).map V.int))) := fun x o h1 h2 h => by
        rw [upd_ne (ne_of_none h nLH)]; exact b24 _ _ h1 h2 (b2 _ _ h1 h2 h)
      have D5 : Deck (upd H4 L (.lst ((ls.eraseIdx j).map V.int))) a c (m + (ls.length - 1)) := by
        obtain ⟨cs, n, e1, e2, e3⟩ := D4
        exact ⟨cs, n, by rw [upd_ne (Ne.symm oL.1)]; exact e1, by rw [upd_ne (Ne.symm oL.2)]; exact e2, e3⟩
      have et5 : (upd H4 L (.lst ((ls.eraseIdx j).map V.int))) t = some (.tup (fs.map V.int)) := by rw [upd_ne ntL]; exact et4
      have eL5 : (upd H4 L (.lst ((ls.eraseIdx j).map V.int))) L = some (.lst ((ls.eraseIdx j).map V.int)) := upd_same
      generalize upd H4 L (.lst ((ls.eraseIdx j).map V.int)) = H5 at b5 D5 et5 eL5 ⊢
      have el : (ls.eraseIdx j).length = ls.length - 1 := List.length_eraseIdx_of_lt hj
      refine ⟨by show 1 ≤ sizeLine; decide, fun T nT => ?_⟩
      have sT : Same H5 (upd H5 T (.tup [.int ls[j]])) := same_new nT
      have fin : ∀ (t' : Addr) (H6 : Hp), Same H5 H6 → H6 t' = some (.tup ((fs ++ [ls[j]]).map V.int)) → ∃ m', m' < ls.length ∧ ∃ (fs ls : List Int) (t : Addr), m' = ls.length ∧ But a c H H6 ∧ Deck H6 a c (m + ls.length) ∧ H6 t = some (.tup (fs.map V.int)) ∧ H6 L = some (.lst (ls.map V.int)) ∧ fs.length + ls.length = pan.length ∧ (∀ x ∈ fs, 0 ≤ x ∧ x < (pan.length : Int)) ∧ (∀ x ∈ ls, 0 ≤ x ∧ x < (pan.length : Int)) ∧
          (∀ x : Nat, x < pan.length → (x : Int) ∈ fs ∨ (x : Int) ∈ ls) ∧ [some (V.ref a), some (.ref p), some (.ref t'), some (.ref L)] = [some (.ref a), some (.ref p), some (.ref t), some (.ref L)] := by
        intro t' H6 s6 e6
        refine ⟨ls.length - 1, by omega, fs ++ [ls[j]], ls.eraseIdx j, t', el.symm, b5.trans (But.of s6), (D5.same s6).less (by omega), e6, s6 _ _ eL5, by rw [List.length_append, el]; show fs.length + 1 + _ = _; omega, fun x hx => ?_, fun x hx => hls x (List.mem_of_mem_eraseIdx hx), fun x hx => ?_, rfl⟩
        · rcases List.mem_append.mp hx with h | h
          · exact hfs x h
          · rw [List.mem_singleton.mp h]; exact hls _ (List.getElem_mem hj)
        · rcases hcov x hx with h | h
          · exact .inl (List.mem_append_left _ h)
          · rcases mem_erase_or gj h with h | h
            · exact .inl (List.mem_append_right _ (by rw [h]; exact List.mem_singleton.mpr rfl))
            · exact .inr h
      refine ⟨t, T, _, _, rfl, rfl, .inl (.inl (sT _ _ et5)), .inl (.inl upd_same), ?_, fun h => ?_, fun _ h => ?_, fun _ _ T2 nT2 => ?_⟩
      · rw [List.length_map]; exact Nat.le_of_lt (small1000 (show fs.length + 1 ≤ 1000 by omega))
      · refine fin T _ sT ?_
        have : fs = [] := List.map_eq_nil_iff.mp h
        rw [this, upd_same]; rfl
      · exact absurd h (by simp)
      · refine fin T2 _ (sT.trans (same_new nT2)) ?_
        rw [upd_same, List.map_append]; rfl
    · have e' : pan.length ≤ ms.length := by
        have : ¬ ((ms.map V.int).length : Int) < ((qs.map V.ref).length : Int) := fun z => e (decide_eq_true z)
        rw [List.length_map, hl] at this; omega
      have fne : 0 < fs.length := by
        rcases Nat.eq_zero_or_pos fs.length with h | h
        · have hnil := List.eq_nil_of_length_eq_zero h
          subst hnil
          cases ms with
          | nil => exact absurd e' (by show ¬ pan.length ≤ 0; omega)
          | cons x r =>
            rcases (mem x).mp List.mem_cons_self with h | ⟨b, h, _⟩ <;> cases h
        · exact h
      have et3 := s3 _ _ et
      have hft : SqT K H3 t (fs.map V.int) := .inl (.inl et3)
      have fl : (fs.map V.int).length = fs.length := List.length_map ..
      have cut : ∀ lo hi, ∃ gs : List Int, cutV (fs.map V.int) lo hi = gs.map V.int ∧ gs.length ≤ fs.length ∧ ∀ x ∈ gs, x ∈ fs := fun lo hi => by
        refine ⟨(fs.drop (HT.sIx fs.length 0 lo)).take (HT.sIx fs.length fs.length hi - HT.sIx fs.length 0 lo), ?_, ?_, fun x hx => List.mem_of_mem_drop (List.mem_of_mem_take hx)⟩
        · unfold cutV
          rw [List.length_map, List.map_take, List.map_drop]
        · rw [List.length_take, List.length_drop]; omega
      obtain ⟨g1, c1, l1, m1⟩ := cut none (some (-1))
      obtain ⟨g2, c2, l2, m2⟩ := cut (some 1) none
      refine ⟨.ref t, rfl, .ref t, rfl, 1, rfl, -1, rfl, t, _, rfl, hft, fun h => ?_, fun _ T1 n1 => ?_⟩
      · refine absurd h.2 ?_
        rw [fl]
        unfold HT.sIx
        simp
        omega
      · rw [c1]
        have s4 : Same H3 (upd H3 T1 (.tup (g1.map V.int))) := same_new n1
        refine ⟨.ref t, rfl, t, _, rfl, same_sqT s4 hft, fun T2 n2 => ?_⟩
        rw [← List.map_reverse]
        have s5 := s4.trans (same_new (o := .tup (fs.reverse.map V.int)) n2)
        refine ⟨.ref t, rfl, 1, rfl, t, _, rfl, same_sqT s5 hft, fun h => ?_, fun _ T3 n3 => ?_⟩
        · refine absurd h.1 ?_
          rw [fl, show (1 : Int) = ((1 : Nat) : Int) from rfl, HT.sIx_nat]; omega
        · rw [c2]
          have s6 := s5.trans (same_new (o := .tup (g2.map V.int)) n3)
          refine ⟨.ref t, rfl, .ref t, rfl, t, t, _, _, rfl, rfl, same_sqT s6 hft, same_sqT s6 hft, ?_, fun h => ?_, fun _ h => ?_, fun _ _ T4 n4 => ?_⟩
          · rw [fl]; exact Nat.le_of_lt (small1000 (by omega))
          · rw [List.map_eq_nil_iff.mp h] at fne; exact absurd fne (by decide)
          · rw [List.map_eq_nil_iff.mp h] at fne; exact absurd fne (by decide)
          · rw [← List.map_append]
            have s7 := s6.trans (same_new (o := .tup ((fs ++ fs).map V.int)) n4)
            refine ⟨by show 5 ≤ sizeLine; decide, fun R nR => ?_⟩
            have kR := same_new (o := .lst [.ref t, .ref T1, .ref T2, .ref T3, .ref T4]) nR
            have k4 := same_new (o := .tup ((fs ++ fs).map V.int)) n4
            have k3' := same_new (o := .tup (g2.map V.int)) n3
            have s8 := s7.trans kR
            refine q _ R [t, T1, T2, T3, T4] (b2.trans ((But.of s3).trans (But.of s8))) (((D2.same s3).same s8).less (by omega)) upd_same rfl fun x hx => ?_
            have k3 := k4.trans kR
            have k2 := k3'.trans k3
            rcases (show x = t ∨ x = T1 ∨ x = T2 ∨ x = T3 ∨ x = T4 by simpa using hx) with rfl | rfl | rfl | rfl | rfl
            · exact ⟨fs, same_sqT s8 hft, hfs, by omega⟩
            · exact ⟨g1, .inl (.inl (((same_new n2).trans k2) _ _ upd_same)), fun y hy => hfs y (m1 y hy), by omega⟩
            · exact ⟨fs.reverse, .inl (.inl (k2 _ _ upd_same)), fun y hy => hfs y (List.mem_reverse.mp hy), by rw [List.length_reverse]; omega⟩
            · exact ⟨g2, .inl (.inl (k3 _ _ upd_same)), fun y hy => hfs y (m2 y hy), by omega⟩
            · exact ⟨fs ++ fs, .inl (.inl (kR _ _ upd_same)), fun y hy => hfs y ((List.mem_append.mp hy).elim id id), by rw [List.length_append]; omega⟩
end
end K32
namespace K32
open PySem PySem.Spec PyProof.Rows L2 Pr
def nLaw : List Str := ["_law_script", "_law_deck_here", "_law_turn", "_law_panel_here", "_law_rows", "_law_row_here", "_law_shown", "_law_due", "_law_told"]
theorem scLaw : FnScope nLaw ["_law_script"] (defScope sLaw) := ⟨rfl, rfl, rfl, by decide +kernel, rfl, by decide +kernel, by decide +kernel⟩
theorem shw_row {row : List Int} {n : Int} (hn : n ≤ 10) (hl : row.length ≤ 60) (h : ∀ x ∈ row, 0 ≤ x ∧ x < n) : Shw 1 183 (dInts row) :=
  shw_ints (m := 60) hl fun x hx => ⟨(h x hx).1, by have := (h x hx).2; omega⟩
theorem shw_two {d1 d2 : PyData} (h1 : Shw 2 353 d1) (h2 : Shw 2 353 d2) : Shw 3 713 (.list [d1, d2]) := by
  refine Shw.list (n := 353) (m := 2) (fun d hd => ?_) (Nat.le_refl _)
  rcases (show d = d1 ∨ d = d2 by simpa using hd) with rfl | rfl
  · exact h1
  · exact h2
theorem shw_bool (b : Bool) : Shw 2 353 (.bool b) := by
  refine ⟨by simp only [PyData.showable], by simp only [PyData.hasDict], by simp [PyData.depth], ?_⟩
  cases b <;> (simp only [PyData.shown]; decide +kernel)
theorem met_full {pan : List (List Int)} {row ms : List Int} (asc : Asc pan.length ms) (mem : ∀ c, c ∈ ms ↔ metB pan row c) : (!decide (wSame ∈ effM pan row)) = decide (ms.length = pan.length) := by
  by_cases h : ms.length = pan.length
  · rw [decide_eq_true h, decide_eq_false fun z => ?_]
    · rfl
    · obtain ⟨c, hc, hn⟩ := same_mem_eff.mp z
      exact hn ((mem c).mp ((asc_full asc).mp h c hc))
  · rw [decide_eq_false h, decide_eq_true ?_]
    · rfl
    · refine Classical.byContradiction fun hn => h ((asc_full asc).mpr fun c hc => Classical.byContradiction fun hc2 => hn (same_mem_eff.mpr ⟨c, hc, fun hm => hc2 ((mem c).mpr hm)⟩))
section
variable {P : Program} {w : World} {K : PySem.W.Frag} {mg : Str → Option Value} {base : Heap}
theorem sqT_but {H H' : Hp} {a c p : Addr} {m : Nat} {xs : List V} (d : Deck H a c m) (b : But a c H H') (h : SqT K H p xs) : SqT K H' p xs := by
  rcases h with (h | ⟨o, h⟩) | h
  · exact .inl (.inl (tup_but d b h))
  · have q := d.apart h (fun _ => by intro z; cases z)
    exact .inl (.inr ⟨o, b _ _ q.1 q.2 h⟩)
  · exact .inr h
theorem RowsOk.but {H H' : Hp} {a c : Addr} {m n : Nat} {ts : List Addr} (d : Deck H a c m) (b : But a c H H') (h : RowsOk K H n ts) : RowsOk K H' n ts := fun t ht => let ⟨row, h1, h2⟩ := h t ht; ⟨row, sqT_but d b h1, h2⟩
def spLaw (K : PySem.W.Frag) : Sp := fun vs H Q _ => ∃ (s : Addr) (ns : List Int), vs = [.ref s] ∧ SqL K H s (ns.map V.int) ∧ ns.length ≤ 63 ∧ ∀ H', Q (.bl true) H'
theorem ok_law {f fN fP fJ fW fE fZ fS fD fA fR fM fC : Addr} {fd fdN fdP fdJ fdW fdE fdZ fdS fdD fdA fdR fdM fdC : FuncData} (F : Fun K "law" "law" sLaw f fd)
    (FN : Fun K "no_effect" "no_effect" sNo fN fdN) (bN : Binds K fdN ["panel"] []) (gN : mg "no_effect" = some (.ref fN))
    (FP : Fun K "press_effect" "press_effect" sPressE fP fdP) (bP : Binds K fdP ["panel", "button"] []) (gP : mg "press_effect" = some (.ref fP))
    (FJ : Fun K "joined_effect" "joined_effect" sJoin fJ fdJ) (bJ : Binds K fdJ ["first", "second"] []) (gJ : mg "joined_effect" = some (.ref fJ))
    (FW : Fun K "effect_with_press" "effect_with_press" sWith fW fdW) (bW : Binds K fdW ["panel", "effect", "button"] []) (gW : mg "effect_with_press" = some (.ref fW))
    (FE : Fun K "effect_of" "effect_of" sEff fE fdE) (bE : Binds K fdE ["panel", "row"] []) (gE : mg "effect_of" = some (.ref fE))
    (FZ : Fun K "is_reset" "is_reset" sReset fZ fdZ) (bZ : Binds K fdZ ["panel", "row"] []) (gZ : mg "is_reset" = some (.ref fZ))
    (FS : Fun K "_law_deck" "_law_deck" sDeck fS fdS) (bS : Binds K fdS ["_law_script"] []) (gS : mg "_law_deck" = some (.ref fS))
    (FD : Fun K "_law_draw" "_law_draw" sDraw fD fdD) (bD : Binds K fdD ["_law_deck_here", "_law_bound"] []) (gD : mg "_law_draw" = some (.ref fD))
    (FA : Fun K "_law_panel" "_law_panel" sPanel fA fdA) (bA : Binds K fdA ["_law_deck_here", "_law_most"] []) (gA : mg "_law_panel" = some (.ref fA))
    (FR : Fun K "_law_row" "_law_row" sRow fR fdR) (bR : Binds K fdR ["_law_deck_here", "_law_n", "_law_most"] []) (gR : mg "_law_row" = some (.ref fR))
    (FM : Fun K "_law_met" "_law_met" sMet fM fdM) (bM : Binds K fdM ["_law_panel_here", "_law_row_here"] []) (gM : mg "_law_met" = some (.ref fM))
    (FC : Fun K "_law_covering" "_law_covering" sCov fC fdC) (bC : Binds K fdC ["_law_deck_here", "_law_panel_here"] []) (gC : mg "_law_covering" = some (.ref fC))
    (ml : mg "len" = none) (mr : mg "range" = none) (mt : mg "tuple" = none) (mli : mg "list" = none) (mi : mg "int" = none) (mz : mg "zip" = none) (mp : mg "repr" = none) (mx : mg "max" = none) (mse : mg "set" = none) (mso : mg "sorted" = none) (ma : mg "abs" = none) : FnG P w K mg base 6 f fd ["_law_script"] (spLaw K) := by
  have GZ : FnOk P w K mg base CX0 5 fZ fdZ ["panel", "row"] (spReset K) := ok_reset FZ FN bN gN FP bP gP FJ bJ gJ FW bW gW FE bE gE ml mli mt mz
  have GS : FnOk P w K mg base CX0 5 fS fdS ["_law_script"] (spDeck K) := ok_deck FS ma
  have GA : FnOk P w K mg base CX0 5 fA fdA ["_law_deck_here", "_law_most"] spPanel := ok_panel FA FD bD gD ml mr mt mi mx mse mso
  have GR : FnOk P w K mg base CX0 5 fR fdR ["_law_deck_here", "_law_n", "_law_most"] spRow := ok_row FR FD bD gD ml mr mt mx
  have GM : FnOk P w K mg base CX0 5 fM fdM ["_law_panel_here", "_law_row_here"] (spMet K) := ok_met FM mli mse mso
  have GC : FnOk P w K mg base CX0 5 fC fdC ["_law_deck_here", "_law_panel_here"] (spCov K) := ok_cov FC FD bD gD FM bM gM ml mr mli mx mse mso
  refine okG F scLaw (fun vs H Q E h => ?_) (fun cdv A outer s H vs Q E gd hr h => ?_)
  · obtain ⟨s, ns, rfl, _⟩ := h
    rfl
  · obtain ⟨sc, ns, rfl, hS, hlen, q⟩ := h
    refine ⟨_, pss_cons (ps_set (i := 1) scLaw.nd rfl (.inl rfl) (pe_call GS hr (by rfl) gS FS.kp bS .nil pass0 (pa_cons (pv 0) pa_nil)))
      (pss_cons (ps_for PassesOwn.never rfl (pi_range1 (by rfl) mr (pa_cons pe_int pa_nil)) (pg_name (i := 2) scLaw.nd rfl (.inl rfl))
        (pss_cons (ps_set (i := 3) scLaw.nd rfl (.inl rfl) (pe_call GA hr (by rfl) gA FA.kp bA .nil pass0 (pa_cons (pv 1) (pa_cons pe_int pa_nil))))
        (pss_cons (ps_set (i := 4) scLaw.nd rfl (.inl rfl) (pe_lst (pa_cons (pe_call GR hr (by rfl) gR FR.kp bR .nil pass0 (pa_cons (pv 1) (pa_cons (pe_callB call_len_seq (by rfl) ml PySem.boot_len (pa_cons (pv 3) pa_nil)) (pa_cons pe_int pa_nil))))
            (pa_cons (pe_call GR hr (by rfl) gR FR.kp bR .nil pass0 (pa_cons (pv 1) (pa_cons (pe_callB call_len_seq (by rfl) ml PySem.boot_len (pa_cons (pv 3) pa_nil)) (pa_cons pe_int pa_nil))))
            (pa_cons (pe_tup pa_nil) (pa_cons (pe_tupRg rfl (by rfl) mt (prg_1 (by rfl) mr (pe_callB call_len_seq (by rfl) ml PySem.boot_len (pa_cons (pv 3) pa_nil)))) pa_nil))))))
        (pss_one (ps_for PassesOwn.never rfl (pi_list (pe_op op_cat (pv 4) (pe_call GC hr (by rfl) gC FC.kp bC .nil pass0 (pa_cons (pv 1) (pa_cons (pv 3) pa_nil))))) (pg_name (i := 5) scLaw.nd rfl (.inl rfl))
          (pss_cons (ps_par (i := 6) (j := 7) rfl scLaw.nd rfl rfl (by decide) rfl rfl (pa_cons (pe_callB (call_repr gd hr) (by rfl) mp (by decide +kernel) (pa_cons (pe_lst (pa_cons (pv 3) (pa_cons (pv 5) pa_nil))) pa_nil))
              (pa_cons (pe_cmpR op_eq (pe_callB call_len_seq (by rfl) ml PySem.boot_len (pa_cons (pe_call GM hr (by rfl) gM FM.kp bM .nil pass0 (pa_cons (pv 3) (pa_cons (pv 5) pa_nil))) pa_nil)) (pe_callB call_len_seq (by rfl) ml PySem.boot_len (pa_cons (pv 3) pa_nil)) (nomark _)) pa_nil)) (by rfl))
          (pss_cons (ps_set (i := 8) scLaw.nd rfl (.inl rfl) (pe_lst (pa_cons (pe_call GZ hr (by rfl) gZ FZ.kp bZ .nil pass0 (pa_cons (pv 3) (pa_cons (pv 5) pa_nil))) (pa_cons (pe_call GZ hr (by rfl) gZ FZ.kp bZ .nil pass0 (pa_cons (pv 3) (pa_cons (pv 5) pa_nil))) pa_nil))))
          (pss_one (ps_if (PW.pt (pw_or (pt_cmpR op_ne (pe_callB (call_repr gd hr) (by rfl) mp (by decide +kernel) (pa_cons (pv 8) pa_nil)) (pe_callB (call_repr gd hr) (by rfl) mp (by decide +kernel) (pa_cons (pe_lst (pa_cons (pv 7) (pa_cons (pv 7) pa_nil))) pa_nil)) (nomark _))
              (pw_or1 (pt_cmpR op_ne (pe_callB (call_repr gd hr) (by rfl) mp (by decide +kernel) (pa_cons (pe_lst (pa_cons (pv 3) (pa_cons (pv 5) pa_nil))) pa_nil)) (pv 6) (nomark _)))))
            (pss_one (ps_ret pe_bl)) pss_nil)))))))))
      (pss_one (ps_ret (pe_cmpR op_eq (pe_callB (call_repr gd hr) (by rfl) mp (by decide +kernel) (pa_cons (pe_lst (pa_cons (pe_call GZ hr (by rfl) gZ FZ.kp bZ .nil pass0 (pa_cons (pe_tup (pa_cons (pe_tup pa_nil) pa_nil)) (pa_cons (pe_tup pa_nil) pa_nil)))
            (pa_cons (pe_call GZ hr (by rfl) gZ FZ.kp bZ .nil pass0 (pa_cons (pe_tup (pa_cons (pe_tup pa_nil) pa_nil)) (pa_cons (pe_tup (pa_cons pe_int pa_nil)) pa_nil))) pa_nil))) pa_nil))
          (pe_callB (call_repr gd hr) (by rfl) mp (by decide +kernel) (pa_cons (pe_lst (pa_cons pe_bl (pa_cons pe_bl pa_nil))) pa_nil)) (nomark _))))), ?_⟩
    refine ⟨.ref sc, rfl, sc, ns, rfl, hS, hlen, fun H1 a c s1 D1 => ?_⟩
    refine ⟨10, rfl, by decide, by decide, ?_⟩
    refine for_range (n := 10) (fun i σ H2 => Deck H2 a c (8000 - 500 * i) ∧ ∃ x2 x3 x4 x5 x6 x7 x8, σ = [some (.ref sc), some (.ref a), x2, x3, x4, x5, x6, x7, x8]) ⟨D1.less (by omega), none, none, none, none, none, none, none, rfl⟩ (fun i σ H2 hi hP => ?_) (fun σ H2 hP => ?_)
    · obtain ⟨D2, x2, x3, x4, x5, x6, x7, x8, rfl⟩ := hP
      refine ⟨.ref a, rfl, a, c, 8000 - 500 * i - 200, 10, rfl, D2.less (by omega), by decide, by decide, fun H3 p pan b3 D3 hp hg _ => ?_⟩
      have few := hg.few
      have pos := hg.pos
      have shp := hg.shw
      obtain ⟨qs, hq, hqs⟩ := id hp
      have hl : (qs.map V.ref).length = pan.length := by rw [List.length_map, hqs.length]
      refine ⟨.ref a, rfl, .ref p, rfl, p, _, rfl, .inr hq.sq, a, c, 8000 - 500 * i - 270, _, 60, rfl, D3.less (by omega), by rw [hl]; omega, by rw [hl]; omega, by decide, by decide, fun H4 t1 row1 b4 D4 ht1 hin1 hl1 => ?_⟩
      have hp4 := hp.but D3 b4
      have hq4 := hq.but D3 b4
      refine ⟨.ref a, rfl, .ref p, rfl, p, _, rfl, .inr hq4.sq, a, c, 8000 - 500 * i - 340, _, 6, rfl, D4.less (by omega), by rw [hl]; omega, by rw [hl]; omega, by decide, by decide, fun H5 t2 row2 b5 D5 ht2 hin2 hl2 => ?_⟩
      rw [hl] at hin1 hin2
      have hp5 := hp4.but D4 b5
      have hq5 := hq4.but D4 b5
      have ht15 := ht1.but D4 b5
      refine ⟨Nat.zero_le _, fun T0 n0 => ?_⟩
      have s6 : Same H5 (upd H5 T0 (.tup [])) := same_new n0
      refine ⟨.ref p, rfl, p, _, rfl, .inr (hq5.same s6).sq, _, rfl, ?_⟩
      rw [hl]
      refine ⟨RgOk.of_le (by decide) (by omega) (by decide) (by omega), fun T1 n1 => ?_⟩
      have erg : rgV 0 (pan.length : Int) = (intL pan.length).map V.int := by
        unfold rgV intL
        rw [List.map_map]
        show List.map _ (List.range ((pan.length : Int) - 0).toNat) = _
        rw [show ((pan.length : Int) - 0).toNat = pan.length by omega]
        exact List.map_congr_left fun i _ => congrArg V.int (Int.zero_add _)
      rw [erg]
      have s7 := s6.trans (same_new (o := .tup ((intL pan.length).map V.int)) n1)
      refine ⟨by show 4 ≤ sizeLine; decide, fun R nR => ?_⟩
      have sR : Same (upd (upd H5 T0 (.tup [])) T1 (.tup ((intL pan.length).map V.int))) (upd (upd (upd H5 T0 (.tup [])) T1 (.tup ((intL pan.length).map V.int))) R (.lst [.ref t1, .ref t2, .ref T0, .ref T1])) := same_new nR
      have s8 := s7.trans sR
      have ok8 : RowsOk K (upd (upd (upd H5 T0 (.tup [])) T1 (.tup ((intL pan.length).map V.int))) R (.lst [.ref t1, .ref t2, .ref T0, .ref T1])) pan.length [t1, t2, T0, T1] := fun x hx => by
        rcases (show x = t1 ∨ x = t2 ∨ x = T0 ∨ x = T1 by simpa using hx) with rfl | rfl | rfl | rfl
        · exact ⟨row1, (ht15.same s8).sq, hin1, by omega⟩
        · exact ⟨row2, (ht2.same s8).sq, hin2, by omega⟩
        · exact ⟨[], .inl (.inl (((same_new n1).trans sR) _ _ upd_same)), (fun y hy => by cases hy), by decide⟩
        · exact ⟨intL pan.length, .inl (.inl (sR _ _ upd_same)), fun y hy => mem_intL.mp hy, by rw [intL_len]; omega⟩
      have oR := (D5.same s7).fresh nR
      refine gen_name (fun H6 => Deck H6 a c (8000 - 500 * i - 340) ∧ PanAt H6 p pan ∧ H6 R = some (.lst ([t1, t2, T0, T1].map V.ref)) ∧ RowsOk K H6 pan.length [t1, t2, T0, T1]) ⟨D5.same s8, hp5.same s8, upd_same, ok8⟩ fun H6 ⟨D6, hp6, eR6, ok6⟩ => ?_
      generalize hts : [t1, t2, T0, T1] = ts1 at eR6 ok6
      have tl1 : ts1.length = 4 := by rw [← hts]; rfl
      -- the rows that cover
      refine ⟨.ref R, rfl, .ref a, rfl, .ref p, rfl, a, c, p, 8000 - 500 * (i + 1), pan, rfl, D6.less (by omega), hp6, hg, fun H7 C ts2 b7 D7 eC tl2 ok7 => ?_⟩
      have eR7 := b7 _ _ oR.1 oR.2 eR6
      have ok17 := ok6.but D6 b7
      have hp7 := hp6.but D6 b7
      refine ⟨R, C, _, _, rfl, rfl, eR7, eC, by rw [List.length_map, List.length_map, tl1, tl2]; decide, fun L nL => ?_⟩
      rw [← List.map_append]
      have okA : RowsOk K H7 pan.length (ts1 ++ ts2) := fun x hx => (List.mem_append.mp hx).elim (ok17 x) (ok7 x)
      generalize ts1 ++ ts2 = ts at okA nL ⊢
      have sL : Same H7 (upd H7 L (.lst (ts.map V.ref))) := same_new nL
      refine ⟨L, rfl, ⟨_, .inl (.inl upd_same)⟩, ?_⟩
      refine for_list (xs := ts.map V.ref) (fun j σ H8 => Same (upd H7 L (.lst (ts.map V.ref))) H8 ∧ ∃ x5 x6 x7 x8, σ = [some (.ref sc), some (.ref a), some (.int (0 + (i : Int))), some (.ref p), some (.ref R), x5, x6, x7, x8])
        ⟨Same.refl _, _, _, _, _, rfl⟩ (fun j σ H8 _ hP => hP.1.seq (.inl (.inl upd_same))) (fun j x σ H8 hx hP => ?_) (fun σ H8 hP => ?_)
      · obtain ⟨s8, x5, x6, x7, x8, rfl⟩ := hP
        obtain ⟨t, htm, rfl⟩ : ∃ t, t ∈ ts ∧ x = V.ref t := by
          rw [List.getElem?_map] at hx
          cases e : ts[j]? with
          | none => rw [e] at hx; cases hx
          | some t => rw [e] at hx; exact ⟨t, List.mem_of_getElem? e, (Option.some.inj hx).symm⟩
        have s78 := sL.trans s8
        obtain ⟨row, hrow, hin, hrl⟩ := (okA.same s78) t htm
        have hp8 : PanT K H8 p pan := (hp7.same s78).t
        obtain ⟨ps, hps, hpl⟩ := hp8.len
        have sh2 : Shw 3 713 (.list [dPan pan, dInts row]) := shw_two shp ((shw_row (n := (pan.length : Int)) (by omega) hrl hin).mono (by decide) (by decide))
        refine ⟨.ref p, rfl, .ref t, rfl, by show 2 ≤ sizeLine; decide, fun B nB => ?_⟩
        have sB : Same H8 (upd H8 B (.lst [.ref p, .ref t])) := same_new nB
        refine ⟨B, .list [dPan pan, dInts row], rfl, .lst (.inl (.inl upd_same)) (.cons (hp8.same sB).dp (.cons (dp_ints (same_sqT sB hrow)) .nil)), sh2.sh, sh2.nd, Nat.le_trans sh2.dp (by decide), Nat.le_trans sh2.ln (by decide), ?_⟩
        refine ⟨.ref p, rfl, .ref t, rfl, p, t, pan, row, rfl, hp8.same sB, hg, same_sqT sB hrow, hrl, hin, fun H9 u ms s9 eu asc mem => ?_⟩
        have s89 := sB.trans s9
        refine ⟨u, _, rfl, .inl (.inl (.inl eu)), .ref p, rfl, p, _, rfl, .inr (same_sqT s89 hps), rfl, _, _, rfl, ?_⟩
        have hbd : (!decide (wSame ∈ effM pan row)) = decide (V.int ((ms.map V.int).length : Nat) = V.int (ps.length : Nat)) := by
          rw [met_full asc mem, List.length_map, hpl]
          refine decide_eq_decide.mpr ⟨fun h => by rw [h], fun h => ?_⟩
          have := V.int.inj h
          omega
        -- told
        refine ⟨.ref p, rfl, .ref t, rfl, p, t, pan, row, rfl, hp8.same s89, hg, same_sqT s89 hrow, hin, fun H10 s10 => ?_⟩
        have s810 := s89.trans s10
        refine ⟨.ref p, rfl, .ref t, rfl, p, t, pan, row, rfl, hp8.same s810, hg, same_sqT s810 hrow, hin, fun H11 s11 => ?_⟩
        have s811 := s810.trans s11
        refine ⟨by show 2 ≤ sizeLine; decide, fun M nM => ?_⟩
        have sM := s811.trans (same_new (o := .lst [.bl (!decide (wSame ∈ effM pan row)), .bl (!decide (wSame ∈ effM pan row))]) nM)
        have shb := shw_two (shw_bool (!decide (wSame ∈ effM pan row))) (shw_bool (!decide (wSame ∈ effM pan row)))
        refine ⟨.ref M, rfl, M, .list [.bool (!decide (wSame ∈ effM pan row)), .bool (!decide (wSame ∈ effM pan row))], rfl, .lst (.inl (.inl upd_same)) (.cons (.bl _) (.cons (.bl _) .nil)), shb.sh, shb.nd, Nat.le_trans shb.dp (by decide), Nat.le_trans shb.ln (by decide), ?_⟩
        refine ⟨_, rfl, _, rfl, by show 2 ≤ sizeLine; decide, fun N nN => ?_⟩
        have shc := shw_two (shw_bool (decide (V.int ((ms.map V.int).length : Nat) = V.int (ps.length : Nat)))) (shw_bool (decide (V.int ((ms.map V.int).length : Nat) = V.int (ps.length : Nat))))
        refine ⟨N, .list [.bool (decide (V.int ((ms.map V.int).length : Nat) = V.int (ps.length : Nat))), .bool (decide (V.int ((ms.map V.int).length : Nat) = V.int (ps.length : Nat)))], rfl, .lst (.inl (.inl upd_same)) (.cons (.bl _) (.cons (.bl _) .nil)), shc.sh, shc.nd, Nat.le_trans shc.dp (by decide), Nat.le_trans shc.ln (by decide), rfl, _, rfl, iteNS (by rw [hbd]) ?_⟩
        have sN := sM.trans (same_new (o := .lst [.bl (decide (V.int ((ms.map V.int).length : Nat) = V.int (ps.length : Nat))), .bl (decide (V.int ((ms.map V.int).length : Nat) = V.int (ps.length : Nat)))]) nN)
        refine ⟨.ref p, rfl, .ref t, rfl, by show 2 ≤ sizeLine; decide, fun B2 nB2 => ?_⟩
        have sB2 := sN.trans (same_new (o := .lst [.ref p, .ref t]) nB2)
        refine ⟨B2, .list [dPan pan, dInts row], rfl, .lst (.inl (.inl upd_same)) (.cons (hp8.same sB2).dp (.cons (dp_ints (same_sqT sB2 hrow)) .nil)), sh2.sh, sh2.nd, Nat.le_trans sh2.dp (by decide), Nat.le_trans sh2.ln (by decide), _, rfl, rfl, _, rfl, iteNS rfl ?_⟩
        exact ⟨s8.trans sB2, _, _, _, _, rfl⟩
      · obtain ⟨s8, x5, x6, x7, x8, rfl⟩ := hP
        exact ⟨(D7.same sL).same s8, _, _, _, _, _, _, _, rfl⟩
    · -- one button
      refine ⟨Nat.zero_le _, fun A1 n1 => ⟨by show 1 ≤ sizeLine; decide, fun A2 n2 => ⟨Nat.zero_le _, fun A3 n3 => ?_⟩⟩⟩
      have k2 := (same_new (o := .tup [.ref A1]) n2).trans (same_new (o := .tup []) n3)
      have k3 := same_new (o := .tup []) n3
      have v1 : (!decide (wSame ∈ effM [[]] [])) = false := by decide +kernel
      have v2 : (!decide (wSame ∈ effM [[]] [0])) = true := by decide +kernel
      refine ⟨A2, A3, [[]], [], rfl, ⟨[A1], .inl (.inl (k3 _ _ upd_same)), .cons (.inl (.inl (k2 _ _ upd_same))) .nil⟩, good_one, .inl (.inl upd_same), (fun x h => by cases h), fun H3 s3 => ?_⟩
      refine ⟨Nat.zero_le _, fun B1 m1 => ⟨by show 1 ≤ sizeLine; decide, fun B2 m2 => ⟨by show 1 ≤ sizeLine; decide, fun B3 m3 => ?_⟩⟩⟩
      have l2 := (same_new (o := .tup [.ref B1]) m2).trans (same_new (o := .tup [.int 0]) m3)
      have l3 := same_new (o := .tup [.int 0]) m3
      refine ⟨B2, B3, [[]], [0], rfl, ⟨[B1], .inl (.inl (l3 _ _ upd_same)), .cons (.inl (.inl (l2 _ _ upd_same))) .nil⟩, good_one, .inl (.inl upd_same), (fun x h => by rw [List.mem_singleton.mp h]; decide), fun H4 s4 => ?_⟩
      rw [v1, v2]
      have shb := shw_two (shw_bool false) (shw_bool true)
      refine ⟨by show 2 ≤ sizeLine; decide, fun M nM => ⟨M, .list [.bool false, .bool true], rfl, .lst (.inl (.inl upd_same)) (.cons (.bl _) (.cons (.bl _) .nil)), shb.sh, shb.nd, Nat.le_trans shb.dp (by decide), Nat.le_trans shb.ln (by decide), ?_⟩⟩
      refine ⟨by show 2 ≤ sizeLine; decide, fun N nN => ⟨N, .list [.bool false, .bool true], rfl, .lst (.inl (.inl upd_same)) (.cons (.bl _) (.cons (.bl _) .nil)), shb.sh, shb.nd, Nat.le_trans shb.dp (by decide), Nat.le_trans shb.ln (by decide), rfl, ?_⟩⟩
      rw [decide_eq_true rfl]
      exact q _
end
end K32
namespace K32
open PySem PySem.Spec PyProof.Rows L2 Pr
/-! what the top has written -/
theorem all_mk {l : PySem.W.OpenLaw} {w : World} {K : PySem.W.Frag} {h : Heap} {mg : Str → Option Value} {fa f1 f2 f3 f4 f5 f6 f7 f8 f9 f10 f11 f12 f13 : Addr} (X : K.In h) (G : h.Ns mainGlobals mg) (hfa : mg "law" = some (.ref fa))
    {od1 an1 od2 an2 od3 an3 od4 an4 od5 an5 od6 an6 od7 an7 od8 an8 od9 an9 od10 an10 od11 an11 od12 an12 od13 an13 : Option Addr} {sl1 sl2 sl3 sl4 sl5 sl6 sl7 sl8 sl9 sl10 sl11 sl12 sl13 : Array (Option Value)} {oc1 kV1 dc1 pm1 cd1 ct1 oc2 kV2 dc2 pm2 cd2 ct2 oc3 kV3 dc3 pm3 cd3 ct3 oc4 kV4 dc4 pm4 cd4 ct4 oc5 kV5 dc5 pm5 cd5 ct5 oc6 kV6 dc6 pm6 cd6 ct6 oc7 kV7 dc7 pm7 cd7 ct7 oc8 kV8 dc8 pm8 cd8 ct8 oc9 kV9 dc9 pm9 cd9 ct9 oc10 kV10 dc10 pm10 cd10 ct10 oc11 kV11 dc11 pm11 cd11 ct11 oc12 kV12 dc12 pm12 cd12 ct12 oc13 kV13 dc13 pm13 cd13 ct13 : Value}
    (a1 : PySem.W.nsIn K mainGlobals "no_effect" = some (some (.ref f1))) (l1 : K.lookup f1 = some ⟨oc1, od1, .func (PySem.W.fnOf "no_effect" "no_effect" (defArgs sNo) (defBody sNo) (defScope sNo) .none kV1 dc1 pm1 an1 cd1 ct1), sl1⟩) (c1 : PySem.W.codeIn K cd1 "no_effect" = true) (k1 : PySem.W.keepIn K (.ref f1) = true)
    (a2 : PySem.W.nsIn K mainGlobals "press_effect" = some (some (.ref f2))) (l2 : K.lookup f2 = some ⟨oc2, od2, .func (PySem.W.fnOf "press_effect" "press_effect" (defArgs sPressE) (defBody sPressE) (defScope sPressE) .none kV2 dc2 pm2 an2 cd2 ct2), sl2⟩) (c2 : PySem.W.codeIn K cd2 "press_effect" = true) (k2 : PySem.W.keepIn K (.ref f2) = true)
    (a3 : PySem.W.nsIn K mainGlobals "joined_effect" = some (some (.ref f3))) (l3 : K.lookup f3 = some ⟨oc3, od3, .func (PySem.W.fnOf "joined_effect" "joined_effect" (defArgs sJoin) (defBody sJoin) (defScope sJoin) .none kV3 dc3 pm3 an3 cd3 ct3), sl3⟩) (c3 : PySem.W.codeIn K cd3 "joined_effect" = true) (k3 : PySem.W.keepIn K (.ref f3) = true)
    (a4 : PySem.W.nsIn K mainGlobals "effect_with_press" = some (some (.ref f4))) (l4 : K.lookup f4 = some ⟨oc4, od4, .func (PySem.W.fnOf "effect_with_press" "effect_with_press" (defArgs sWith) (defBody sWith) (defScope sWith) .none kV4 dc4 pm4 an4 cd4 ct4), sl4⟩) (c4 : PySem.W.codeIn K cd4 "effect_with_press" = true) (k4 : PySem.W.keepIn K (.ref f4) = true)
    (a5 : PySem.W.nsIn K mainGlobals "effect_of" = some (some (.ref f5))) (l5 : K.lookup f5 = some ⟨oc5, od5, .func (PySem.W.fnOf "effect_of" "effect_of" (defArgs sEff) (defBody sEff) (defScope sEff) .none kV5 dc5 pm5 an5 cd5 ct5), sl5⟩) (c5 : PySem.W.codeIn K cd5 "effect_of" = true) (k5 : PySem.W.keepIn K (.ref f5) = true)
    (a6 : PySem.W.nsIn K mainGlobals "is_reset" = some (some (.ref f6))) (l6 : K.lookup f6 = some ⟨oc6, od6, .func (PySem.W.fnOf "is_reset" "is_reset" (defArgs sReset) (defBody sReset) (defScope sReset) .none kV6 dc6 pm6 an6 cd6 ct6), sl6⟩) (c6 : PySem.W.codeIn K cd6 "is_reset" = true) (k6 : PySem.W.keepIn K (.ref f6) = true)
    (a7 : PySem.W.nsIn K mainGlobals "_law_deck" = some (some (.ref f7))) (l7 : K.lookup f7 = some ⟨oc7, od7, .func (PySem.W.fnOf "_law_deck" "_law_deck" (defArgs sDeck) (defBody sDeck) (defScope sDeck) .none kV7 dc7 pm7 an7 cd7 ct7), sl7⟩) (c7 : PySem.W.codeIn K cd7 "_law_deck" = true) (k7 : PySem.W.keepIn K (.ref f7) = true)
    (a8 : PySem.W.nsIn K mainGlobals "_law_draw" = some (some (.ref f8))) (l8 : K.lookup f8 = some ⟨oc8, od8, .func (PySem.W.fnOf "_law_draw" "_law_draw" (defArgs sDraw) (defBody sDraw) (defScope sDraw) .none kV8 dc8 pm8 an8 cd8 ct8), sl8⟩) (c8 : PySem.W.codeIn K cd8 "_law_draw" = true) (k8 : PySem.W.keepIn K (.ref f8) = true)
    (a9 : PySem.W.nsIn K mainGlobals "_law_panel" = some (some (.ref f9))) (l9 : K.lookup f9 = some ⟨oc9, od9, .func (PySem.W.fnOf "_law_panel" "_law_panel" (defArgs sPanel) (defBody sPanel) (defScope sPanel) .none kV9 dc9 pm9 an9 cd9 ct9), sl9⟩) (c9 : PySem.W.codeIn K cd9 "_law_panel" = true) (k9 : PySem.W.keepIn K (.ref f9) = true)
    (a10 : PySem.W.nsIn K mainGlobals "_law_row" = some (some (.ref f10))) (l10 : K.lookup f10 = some ⟨oc10, od10, .func (PySem.W.fnOf "_law_row" "_law_row" (defArgs sRow) (defBody sRow) (defScope sRow) .none kV10 dc10 pm10 an10 cd10 ct10), sl10⟩) (c10 : PySem.W.codeIn K cd10 "_law_row" = true) (k10 : PySem.W.keepIn K (.ref f10) = true)
    (a11 : PySem.W.nsIn K mainGlobals "_law_met" = some (some (.ref f11))) (l11 : K.lookup f11 = some ⟨oc11, od11, .func (PySem.W.fnOf "_law_met" "_law_met" (defArgs sMet) (defBody sMet) (defScope sMet) .none kV11 dc11 pm11 an11 cd11 ct11), sl11⟩) (c11 : PySem.W.codeIn K cd11 "_law_met" = true) (k11 : PySem.W.keepIn K (.ref f11) = true)
    (a12 : PySem.W.nsIn K mainGlobals "_law_covering" = some (some (.ref f12))) (l12 : K.lookup f12 = some ⟨oc12, od12, .func (PySem.W.fnOf "_law_covering" "_law_covering" (defArgs sCov) (defBody sCov) (defScope sCov) .none kV12 dc12 pm12 an12 cd12 ct12), sl12⟩) (c12 : PySem.W.codeIn K cd12 "_law_covering" = true) (k12 : PySem.W.keepIn K (.ref f12) = true)
    (a13 : PySem.W.nsIn K mainGlobals "law" = some (some (.ref f13))) (l13 : K.lookup f13 = some ⟨oc13, od13, .func (PySem.W.fnOf "law" "law" (defArgs sLaw) (defBody sLaw) (defScope sLaw) .none kV13 dc13 pm13 an13 cd13 ct13), sl13⟩) (c13 : PySem.W.codeIn K cd13 "law" = true) (k13 : PySem.W.keepIn K (.ref f13) = true)
    (z1 : PySem.W.nsIn K mainGlobals "len" = some none) (z2 : PySem.W.nsIn K mainGlobals "range" = some none) (z3 : PySem.W.nsIn K mainGlobals "tuple" = some none) (z4 : PySem.W.nsIn K mainGlobals "list" = some none) (z5 : PySem.W.nsIn K mainGlobals "int" = some none) (z6 : PySem.W.nsIn K mainGlobals "zip" = some none) (z7 : PySem.W.nsIn K mainGlobals "repr" = some none) (z8 : PySem.W.nsIn K mainGlobals "max" = some none) (z9 : PySem.W.nsIn K mainGlobals "set" = some none) (z10 : PySem.W.nsIn K mainGlobals "sorted" = some none) (z11 : PySem.W.nsIn K mainGlobals "abs" = some none) :
    ∃ fd : FuncData, (∀ (s : Shared) (v : Value), BindsTo s fd ⟨[v], []⟩ [("_law_script", v)]) ∧ ∀ base : Heap, K.In base → base.Ns mainGlobals mg → FnG l.prog w K mg base 6 fa fd ["_law_script"] (spLaw K) := by
  have e := hfa.symm.trans (PySem.W.mg_of X G a13)
  cases e
  have F1 := fun_mk (st := sNo) l1 c1 k1
  have F2 := fun_mk (st := sPressE) l2 c2 k2
  have F3 := fun_mk (st := sJoin) l3 c3 k3
  have F4 := fun_mk (st := sWith) l4 c4 k4
  have F5 := fun_mk (st := sEff) l5 c5 k5
  have F6 := fun_mk (st := sReset) l6 c6 k6
  have F7 := fun_mk (st := sDeck) l7 c7 k7
  have F8 := fun_mk (st := sDraw) l8 c8 k8
  have F9 := fun_mk (st := sPanel) l9 c9 k9
  have F10 := fun_mk (st := sRow) l10 c10 k10
  have F11 := fun_mk (st := sMet) l11 c11 k11
  have F12 := fun_mk (st := sCov) l12 c12 k12
  have F13 := fun_mk (st := sLaw) l13 c13 k13
  have b1 := F1.binds (ps := ["panel"]) fun _ _ _ _ _ _ us hl => match us, hl with | [_], _ => rfl
  have b2 := F2.binds (ps := ["panel", "button"]) fun _ _ _ _ _ _ us hl => match us, hl with | [_, _], _ => rfl
  have b3 := F3.binds (ps := ["first", "second"]) fun _ _ _ _ _ _ us hl => match us, hl with | [_, _], _ => rfl
  have b4 := F4.binds (ps := ["panel", "effect", "button"]) fun _ _ _ _ _ _ us hl => match us, hl with | [_, _, _], _ => rfl
  have b5 := F5.binds (ps := ["panel", "row"]) fun _ _ _ _ _ _ us hl => match us, hl with | [_, _], _ => rfl
  have b6 := F6.binds (ps := ["panel", "row"]) fun _ _ _ _ _ _ us hl => match us, hl with | [_, _], _ => rfl
  have b7 := F7.binds (ps := ["_law_script"]) fun _ _ _ _ _ _ us hl => match us, hl with | [_], _ => rfl
  have b8 := F8.binds (ps := ["_law_deck_here", "_law_bound"]) fun _ _ _ _ _ _ us hl => match us, hl with | [_, _], _ => rfl
  have b9 := F9.binds (ps := ["_law_deck_here", "_law_most"]) fun _ _ _ _ _ _ us hl => match us, hl with | [_, _], _ => rfl
  have b10 := F10.binds (ps := ["_law_deck_here", "_law_n", "_law_most"]) fun _ _ _ _ _ _ us hl => match us, hl with | [_, _, _], _ => rfl
  have b11 := F11.binds (ps := ["_law_panel_here", "_law_row_here"]) fun _ _ _ _ _ _ us hl => match us, hl with | [_, _], _ => rfl
  have b12 := F12.binds (ps := ["_law_deck_here", "_law_panel_here"]) fun _ _ _ _ _ _ us hl => match us, hl with | [_, _], _ => rfl
  exact ⟨_, fun s v => .of_eq rfl, fun base _ _ => ok_law F13 F1 b1 (PySem.W.mg_of X G a1) F2 b2 (PySem.W.mg_of X G a2) F3 b3 (PySem.W.mg_of X G a3) F4 b4 (PySem.W.mg_of X G a4) F5 b5 (PySem.W.mg_of X G a5) F6 b6 (PySem.W.mg_of X G a6) F7 b7 (PySem.W.mg_of X G a7) F8 b8 (PySem.W.mg_of X G a8) F9 b9 (PySem.W.mg_of X G a9) F10 b10 (PySem.W.mg_of X G a10) F11 b11 (PySem.W.mg_of X G a11) F12 b12 (PySem.W.mg_of X G a12) (PySem.W.mg_none_of X G z1) (PySem.W.mg_none_of X G z2) (PySem.W.mg_none_of X G z3) (PySem.W.mg_none_of X G z4) (PySem.W.mg_none_of X G z5) (PySem.W.mg_none_of X G z6) (PySem.W.mg_none_of X G z7) (PySem.W.mg_none_of X G z8) (PySem.W.mg_none_of X G z9) (PySem.W.mg_none_of X G z10) (PySem.W.mg_none_of X G z11) ⟩
end K32
open PySem PySem.W PyProof.Rows
theorem PySem.Challenge.cw_pressrelease_k32_resets_told_holds : PySem.Challenge.rw_pressrelease_k32_resets_told.Holds := by
  w_on; o_law; k_head; (case hw => w_witness2)
  k_fill
  refine Pr.walkG (l := PySem.Challenge.rw_pressrelease_k32_resets_told) (n := 63) (k := 6) (x := "_law_script") (sp := K32.spLaw) rfl (by decide) rfl ⟨rfl, by decide, by decide⟩ (fun w h Y => PySem.W.kIn_of Y) ?F (fun _ _ a ns hl _ _ hS => ⟨a, ns, rfl, hS, hl, fun _ => rfl⟩)
  case F =>
    intro w mg fa h KX G hmg
    refine' K32.all_mk KX G hmg ?a1 ?l1 ?c1 ?k1 ?a2 ?l2 ?c2 ?k2 ?a3 ?l3 ?c3 ?k3 ?a4 ?l4 ?c4 ?k4 ?a5 ?l5 ?c5 ?k5 ?a6 ?l6 ?c6 ?k6 ?a7 ?l7 ?c7 ?k7 ?a8 ?l8 ?c8 ?k8 ?a9 ?l9 ?c9 ?k9 ?a10 ?l10 ?c10 ?k10 ?a11 ?l11 ?c11 ?k11 ?a12 ?l12 ?c12 ?k12 ?a13 ?l13 ?c13 ?k13 ?z1 ?z2 ?z3 ?z4 ?z5 ?z6 ?z7 ?z8 ?z9 ?z10 ?z11
    (case a1 => k_is); (case l1 => k_is); (case c1 => k_is); (case k1 => k_is); (case a2 => k_is); (case l2 => k_is); (case c2 => k_is); (case k2 => k_is); (case a3 => k_is); (case l3 => k_is); (case c3 => k_is); (case k3 => k_is)
    (case a4 => k_is); (case l4 => k_is); (case c4 => k_is); (case k4 => k_is); (case a5 => k_is); (case l5 => k_is); (case c5 => k_is); (case k5 => k_is); (case a6 => k_is); (case l6 => k_is); (case c6 => k_is); (case k6 => k_is)
    (case a7 => k_is); (case l7 => k_is); (case c7 => k_is); (case k7 => k_is); (case a8 => k_is); (case l8 => k_is); (case c8 => k_is); (case k8 => k_is); (case a9 => k_is); (case l9 => k_is); (case c9 => k_is); (case k9 => k_is)
    (case a10 => k_is); (case l10 => k_is); (case c10 => k_is); (case k10 => k_is); (case a11 => k_is); (case l11 => k_is); (case c11 => k_is); (case k11 => k_is); (case a12 => k_is); (case l12 => k_is); (case c12 => k_is); (case k12 => k_is)
    (case a13 => k_is); (case l13 => k_is); (case c13 => k_is); (case k13 => k_is); (case z1 => k_is); (case z2 => k_is); (case z3 => k_is); (case z4 => k_is); (case z5 => k_is); (case z6 => k_is); (case z7 => k_is); (case z8 => k_is)
    (case z9 => k_is); (case z10 => k_is); (case z11 => k_is)

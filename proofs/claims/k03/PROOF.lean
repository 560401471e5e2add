import PyProof.Rows.All
import Wide.All
import OpenK.AllK
import Wide.FinOn
import HandS.ForMost
import HandS.Exc
import HandS.TryOnly
import HandS.ExcOwn
import HandS.WordsExc
import HandS.IsInst
import HandS.Wide
import HandS.Defaults
import HandS.MakeKwOnly
import HandS.OwnEq
import HandS.CallSlots
import HandS.NamedTupSort
import PyProof.ReprRoads
import PyProof.ReprReads
import PyProof.NeKinds
import KE.KExcStr
import PyProof.ReprLen
import HandS.TupSets
import HandS.Strs
import HandS.Style
import HandS.TupAny
import HandS.Text
import HandS.Walk
import HandS.TryMany
import HandS.SetFor
import HandS.Conv
import HandS.Evl
import PySem.Challenge.RW_tableheld_k03_costs_of_any_value
set_option Elab.async false
set_option linter.all false
set_option maxRecDepth 100000
set_option maxHeartbeats 4000000
/-! # Xby: what the laws of this program want over the hand layer: repr of data, defs under no repr, == and != of an own class -/
namespace Xby
open PySem PySem.Spec PyProof.Rows L2

/-! ## defs that run under no repr -/
structure FnG (P : Program) (w : World) (K : PySem.W.Frag) (mg : Str → Option Value) (base : Heap) (CX : CXT) (k : Nat) (f : Addr) (fd : FuncData) (ps : List Str) (sp : Sp) : Prop where
  len : ∀ vs H Q E, sp vs H Q E → vs.length = ps.length
  run : ∀ (A : Around) (outer : List Env) (s : Shared) (H : Hp) (args : Args) (us : List Value) (vs : List V) (Q : VK) (E : XK),
    A.guards = some [] → Room k A → Env0 P w K mg base A outer s H → BindsTo s fd args (ps.zip us) → Vals vs us → sp vs H Q E →
      codeAny (model P w) A (.call (.ref f) args) (CR CX outer P w H s Q E) s
section
variable {P : Program} {w : World} {K : PySem.W.Frag} {mg : Str → Option Value} {base : Heap}
/-- a def by its body, under no repr -/
theorem okG {x qual : Str} {st : Stmt} {f : Addr} {fd : FuncData} {N ps : List Str} {k : Nat} {sp : Sp}
    (F : Fun K x qual st f fd) (S : FnScope N ps (defScope st)) (len : ∀ vs H Q E, sp vs H Q E → vs.length = ps.length)
    (body : ∀ (cdv : Value) (A : Around) (outer : List Env) (s : Shared) (H : Hp) (vs : List V) (Q : VK) (E : XK),
      A.guards = some [] → Room k (A.deeper (envOfC qual (defScope st) s.heap.objs.size f cdv)) → sp vs H Q E →
        ∃ t, PSs (cxOf CX0 P w K mg base N qual (defScope st) f cdv A outer s H E).nox (defBody st) t ∧
          t { nx := fun _ H' => Q .non H', rt := Q } (start N vs) H) :
    FnG P w K mg base CX0 (k + 1) f fd ps sp := by
  constructor
  · exact len
  intro A outer s H args us vs Q E hg room e0 bnd rv hsp
  obtain ⟨oc, od, kV, doc, pm, an, cdv, ct, osl, rfl, lk, code⟩ := F.ex
  have inK : K.In s.heap := e0.mod.kin.keeps fun b o e => (e0.bs b o e).1
  have lim : s.heap.NoLimit := e0.mod.nolimit.keeps fun b o e => (e0.bs b o e).1
  have kinds : ∀ y ∈ ps.zip us, (defScope st).names.lookup y.1 = some .local ∨
      ((defScope st).names.lookup y.1 = some .cell ∧ ((cellsFrom (s.heap.objs.size + 1) (defScope st).names []).lookup y.1).isSome = true) := by
    rintro ⟨n, v⟩ hy
    rcases S.par n (List.of_mem_zip hy).1 with q | q
    · exact Or.inl q
    · exact Or.inr ⟨q, PySem.W.cellsFrom_some _ _ _ (Or.inl q)⟩
  refine codeAny_call_function room.depth (inK _ _ lk) rfl S.co S.gen rfl (PySem.W.codeRec_of inK code) (bnd _ _ _ _ ?_)
  refine wpAny_newFunctionEnv_cells S.kind kinds fun env he s1 ic => ?_
  subst he
  refine ⟨lim.keeps ic.toInCall.keep, codeAny_func ?_⟩
  obtain ⟨t, ht, q0⟩ := body cdv A outer s H vs Q E hg (room.deeper _) hsp
  have I0 := inv_start (CX := CX0) (E := E) (cd := cdv) S room.hd e0 (len _ _ _ _ hsp) rv ic
  refine wpAny_mono (ht.nox.run [] s1 (start N vs) H _ I0 q0) (fun fl s' end_ => ?_) fun e s' z => z
  cases fl with
  | next =>
    obtain ⟨σ', H', J, q⟩ := end_
    exact ⟨V.non, H', J.os, J.bare, J.base, J.hok, rfl, q⟩
  | ret u =>
    obtain ⟨v, σ', H', J, rr, q⟩ := end_
    exact ⟨v, H', J.os, J.bare, J.base, J.hok, rr, q⟩
  | brk =>
    obtain ⟨_, _, _, q⟩ := end_
    exact (show False from q).elim
  | cont =>
    obtain ⟨_, _, _, q⟩ := end_
    exact (show False from q).elim
end
section
variable {X : Cx} {k : Nat} {f : Addr} {fd : FuncData} {ps : List Str} {sp : Sp} {x : Str} {p pos : Pos} {e : Expr} {es : List Expr} {t : TA}
/-- such a def called by its name -/
theorem pe_callG (F : FnG X.prog X.w X.K X.mg X.base CX0 k f fd ps sp) (hgd : X.A.guards = some []) (hr : Room k X.A) (hg : Gl X x) (hm : X.mg x = some (.ref f)) (hk : PySem.W.keepIn X.K (.ref f) = true)
    (hb : Binds X.K fd ps []) (ha : PA X (e :: es) t) (hdb : (x == ("__debug__" : Str)) = false := by decide)
    (he : starEach (e :: es) X.env = (false, eval e X.env) :: starEach es X.env := by rfl) (hpl : (backTo pos (starEach es X.env)).any (·.1) = false := by rfl) :
    PE X (.Call (.Name x p) (e :: es) [] pos) (tCall sp [] E0 t) := by
  constructor
  intro pins s σ H Q I h
  refine wpAny_Call_Name_kw (ld_glob I hg hm ?_ hdb)
  refine PySem.W.callWith_K (h₀ := X.base) I.ok.mod.kin hk (thn (ha.run pos pins s σ H _ I h) ?_) he hpl
  rintro us s1 ⟨vs, H1, I1, r, q⟩
  refine ⟨I1.kIn, ?_⟩
  have q' : sp vs H1 Q E0 := by have z := q; rw [List.append_nil] at z; exact z
  have hl : us.length = ps.length := by rw [← r.length]; exact F.len _ _ _ _ q'
  have bn := hb s1 us I1.kIn (by rw [List.append_nil]; exact hl)
  rw [List.append_nil] at bn
  refine wpAny_call (codeAny_mono (F.run X.A X.stack s1 H1 ⟨us, []⟩ us vs Q E0 hgd hr I1.env0 bn r q') fun rr s' hq => ?_)
  cases rr with
  | error e => exact (show False from hq).elim
  | ok fl =>
    cases fl with
    | ret u => exact I1.after hq
    | next => exact (show False from hq).elim
    | brk => exact (show False from hq).elim
    | cont => exact (show False from hq).elim
end
/-! ## the law's end over such a def -/
/-- the script alone is tracked, as it stands; or nothing is -/
def scriptHp (a : Addr) (vs : List Value) (ns : List Int) (tracked : Bool) : Hp := fun b =>
  if tracked = true ∧ b = a then some (.frz { cls := .type "list", data := .seq vs.toArray } (.lst (ns.map V.int))) else none
theorem scriptHp_some {a b : Addr} {vs : List Value} {ns : List Int} {t : Bool} {u : HO} (h : scriptHp a vs ns t b = some u) :
    t = true ∧ b = a ∧ u = .frz { cls := .type "list", data := .seq vs.toArray } (.lst (ns.map V.int)) := by
  unfold scriptHp at h
  by_cases c : t = true ∧ b = a
  · rw [if_pos c] at h
    exact ⟨c.1, c.2, (Option.some.inj h).symm⟩
  · rw [if_neg c] at h
    cases h
theorem enterG {P : Program} {w : World} {K : PySem.W.Frag} {mg mb : Str → Option Value} {k : Nat} {fa a : Addr} {fd : FuncData} {x : Str} {sp : Sp} {S : Shared} {vs : List Value} {ns : List Int}
    (inK : K.In S.heap) (gl : S.heap.Ns mainGlobals mg) (bl : S.heap.Ns builtinsNs mb) (bb : ∀ y : Str, y ≠ "__name__" → mb y = bootBuiltins y) (lim : S.heap.NoLimit) (gens : S.gens = #[])
    (at_a : S.heap.get? a = some { cls := .type "list", data := .seq vs.toArray }) (hin : IntsAre vs ns) (few : ns.length ≤ sizeLine) (room : Room k callerA)
    (F : ∀ base : Heap, K.In base → base.Ns mainGlobals mg → FnG P w K mg base CX0 k fa fd [x] sp)
    (bnd : ∀ (s : Shared) (u : Value), BindsTo s fd ⟨[u], []⟩ [(x, u)])
    (promise : ∀ H : Hp, SqL K H a (ns.map V.int) → (∀ b o, H b = some o → ∃ ob xs, o = .frz ob (.lst xs)) → sp [.ref a] H (fun v _ => v = .bl true) E0) :
    codeAny (model P w) callerA (.call (.ref fa) ⟨[.ref a], []⟩) (fun r s' => r = .ok (.ret (.bool true)) ∧ OldK S.heap s'.heap ∧ s'.os = S.os ∧ AllBare s'.gens) S := by
  have rv : Vals (ns.map V.int) vs := vals_ints hin
  obtain ⟨t, sq, noK⟩ : ∃ t : Bool, SqL K (scriptHp a vs ns t) a (ns.map V.int) ∧ (t = true → K.lookup a = none) := by
    cases e : K.lookup a with
    | none => exact ⟨true, Or.inl (Or.inr ⟨_, if_pos ⟨rfl, rfl⟩⟩), fun _ => rfl⟩
    | some o =>
      have e' := inK a o e
      rw [at_a] at e'
      obtain rfl := (Option.some.inj e').symm
      refine ⟨false, Or.inr ⟨_, vs.toArray, _, e, rfl, rfl, rfl, ?_, by simpa using rv⟩, fun z => by cases z⟩
      have := rv.length
      rw [List.length_map] at this
      rw [List.size_toArray]
      omega
  have ok : HOk P w (scriptHp a vs ns t) S.heap := by
    intro b u hb
    obtain ⟨_, rfl, rfl⟩ := scriptHp_some hb
    exact ⟨at_a, by rw [List.length_map]; exact few, vs, _, rv, at_a⟩
  have untr : ∀ (b : Addr) (o : Obj), S.heap.get? b = some o → b ≠ a → (hidT S.heap (scriptHp a vs ns t)).get? b = some o := by
    intro b o e ne
    refine hidT_get e ?_
    cases q : scriptHp a vs ns t b with
    | none => rfl
    | some u => exact absurd (scriptHp_some q).2.1 ne
  have nsOk : ∀ {b : Addr} {m : Str → Option Value}, S.heap.Ns b m → (hidT S.heap (scriptHp a vs ns t)).Ns b m := by
    rintro b m ⟨o, es, ep, e, d, r⟩
    refine ⟨o, es, ep, untr b o e ?_, d, r⟩
    rintro rfl
    rw [at_a] at e
    obtain rfl := Option.some.inj e
    exact Data.noConfusion (show Data.seq vs.toArray _ = Data.dict es ep from d)
  have kIn : K.In (hidT S.heap (scriptHp a vs ns t)) := by
    intro b o e
    refine hidT_get (inK b o e) ?_
    cases q : scriptHp a vs ns t b with
    | none => rfl
    | some u =>
      obtain ⟨tt, rfl, _⟩ := scriptHp_some q
      rw [noK tt] at e
      cases e
  obtain ⟨mc, l1, l2⟩ := lim
  have e0 : Env0 P w K mg (hidT S.heap (scriptHp a vs ns t)) callerA [] S (scriptHp a vs ns t) :=
    { frames := rfl, mod := ⟨kIn, nsOk gl, ⟨mb, nsOk bl, bb⟩, ⟨mc, nsOk l1, l2⟩⟩, bs := fun b o e => of_hidT e, bsz := Nat.le_of_eq (hidT_size _ _), funs := trivial,
      frf := fun b hb => by simp [frs] at hb, hok := ok, bare := AllBare.of_eq gens }
  have onlyF : ∀ b o, scriptHp a vs ns t b = some o → ∃ ob xs, o = .frz ob (.lst xs) := fun b o e => ⟨_, _, (scriptHp_some e).2.2⟩
  refine codeAny_mono ((F _ kIn (nsOk gl)).run callerA [] S _ ⟨[.ref a], []⟩ [.ref a] [.ref a] _ _ rfl room e0 (bnd S (.ref a)) (.cons rfl .nil) (promise _ sq onlyF)) ?_
  intro r s' h
  cases r with
  | error e => exact (show False from h).elim
  | ok fl =>
    cases fl with
    | next => exact (show False from h).elim
    | brk => exact (show False from h).elim
    | cont => exact (show False from h).elim
    | ret u =>
      obtain ⟨v, H', os, bare, un, ok', rr, q⟩ := h
      obtain rfl : v = .bl true := q
      obtain rfl : u = Value.bool true := rr
      refine ⟨rfl, OldK.of_keep ?_, os, bare⟩
      intro b o e
      cases q : scriptHp a vs ns t b with
      | none => exact un.keep b o e q (by simp [frs]) (by simp)
      | some u =>
        obtain ⟨_, rfl, rfl⟩ := scriptHp_some q
        have z := (ok' b _ (un.frzs b _ _ q)).1
        rw [at_a] at e
        rw [← e]
        exact z
theorem walkG {l : PySem.W.OpenLaw} {n k : Nat} {q : Program} {loose : List Str} {XP : (Str → Option Value) → Heap → Prop} {YP : World → Heap → Prop} {d : DefRec} {K : Params → PySem.W.Frag} {sp : PySem.W.Frag → Sp} {x : Str}
    (most : l.most = some n) (few : n ≤ sizeLine) (plain : d.params.defaults = []) (room : Room k callerA) (hY : ∀ (w : World) (h : Heap), YP w h → (K w.params).In h)
    (F : ∀ (w : World) (mg : Str → Option Value) (fa : Addr) (h : Heap), (K w.params).In h → h.Ns mainGlobals mg → mg d.name = some (.ref fa) →
      ∃ fd : FuncData, (∀ (s : Shared) (u : Value), BindsTo s fd ⟨[u], []⟩ [(x, u)]) ∧
        ∀ base : Heap, (K w.params).In base → base.Ns mainGlobals mg → FnG l.prog w (K w.params) mg base CX0 k fa fd [x] (sp (K w.params)))
    (promise : ∀ (K : PySem.W.Frag) (H : Hp) (a : Addr) (ns : List Int), ns.length ≤ n → SqL K H a (ns.map V.int) → (∀ b o, H b = some o → ∃ ob xs, o = .frz ob (.lst xs)) → sp K [.ref a] H (fun v _ => v = .bl true) E0) :
    PySem.W.WalkO q loose XP YP l.row.toRowW d [] (fun f vs => PySem.call f vs) := by
  refine Att.attach_call most plain ?_
  intro w s₀ S mg mb fa o pm cd doc a vs ns G Y ho hd hcd hmg hobj hints hlen hg
  obtain ⟨fd, hb, hF⟩ := F w mg fa _ (hY w _ Y) G.T.g hmg
  exact enterG (hY w _ Y) G.T.g G.T.b G.T.builtins G.T.nolimit hg hobj hints (Nat.le_trans hlen few) room hF hb fun H h1 h2 => promise _ H a ns hlen h1 h2
end Xby

set_option Elab.async false
set_option linter.all false
set_option maxRecDepth 100000
set_option maxHeartbeats 4000000
/-! # repr of data; list != []; ** of great numbers; == and != of an own class -/
namespace Xby
open PySem PySem.Spec PyProof.Rows L2
/-! ## data, dicts among it -/
def keyD : Key → PyData
  | .inl i => .int i
  | .inr x => .str x
mutual
inductive Dq (K : PySem.W.Frag) (H : Hp) : V → PyData → Prop
  | non : Dq K H .non .none
  | bl (b : Bool) : Dq K H (.bl b) (.bool b)
  | int (i : Int) : Dq K H (.int i) (.int i)
  | str (x : Str) : Dq K H (.str x) (.str x)
  | lst {a : Addr} {xs : List V} {ds : List PyData} : H a = some (.lst xs) → sysModules ≠ a → DqAll K H xs ds → Dq K H (.ref a) (.list ds)
  | tup {a : Addr} {xs : List V} {ds : List PyData} : SqT K H a xs → DqAll K H xs ds → Dq K H (.ref a) (.tuple ds)
  | dct {a : Addr} {kvs : List (Key × V)} {ds : List (PyData × PyData)} : H a = some (.dK kvs) → DqKv K H kvs ds → Dq K H (.ref a) (.dict ds)
inductive DqAll (K : PySem.W.Frag) (H : Hp) : List V → List PyData → Prop
  | nil : DqAll K H [] []
  | cons {v : V} {vs : List V} {d : PyData} {ds : List PyData} : Dq K H v d → DqAll K H vs ds → DqAll K H (v :: vs) (d :: ds)
inductive DqKv (K : PySem.W.Frag) (H : Hp) : List (Key × V) → List (PyData × PyData) → Prop
  | nil : DqKv K H [] []
  | cons {k : Key} {v : V} {r : List (Key × V)} {d : PyData} {ds : List (PyData × PyData)} : Dq K H v d → DqKv K H r ds → DqKv K H ((k, v) :: r) ((keyD k, d) :: ds)
end
section
variable {X : Cx} {pins : List (Addr × Obj)} {σ : L2.St} {H : Hp} {s : Shared}
theorem readsKeys {K : PySem.W.Frag} {h : Heap} {es : List DictEntry} {vs : List (Key × Value)} (p : Pairs (mixKind X.prog X.w) es vs) :
    ∀ {kvs : List (Key × V)} {ds : List (PyData × PyData)}, KV kvs vs → DqKv K H kvs ds → ReadsAll h (es.map (·.key)) (ds.map (·.1)) [] := by
  induction p with
  | nil =>
    intro kvs ds kv q
    cases kv
    cases q
    exact .nil
  | @cons e kv0 es kvs0 h1 h2 h3 ih =>
    intro kvs ds kv q
    cases kv with
    | cons r t =>
      cases q with
      | @cons k v rr d dd q1 q2 =>
        have tl := ih t q2
        have r1 : k = kv0.1 := r.1
        have hd : Reads h e.key (keyD k) [] := by
          rcases keyIs_shape (show keyIs _ _ = true from h1) with ⟨i, tk, e1, e2⟩ | ⟨x, tk, e1, e2⟩
          · rw [r1, e1, e2]
            exact .int i tk
          · rw [r1, e1, e2]
            exact .str x tk
        exact .cons hd tl
mutual
theorem Dq.reads (I : Inv X pins σ H s) : ∀ (d : PyData) (v : V) (u : Value), Dq X.K H v d → RelV v u → ∃ as, Reads s.heap u d as ∧ sysModules ∉ as
  | .none, _, _, h, r => by
    cases h; cases r
    exact ⟨[], Reads.none, by simp⟩
  | .bool b, _, _, h, r => by
    cases h; cases r
    exact ⟨[], Reads.bool b, by simp⟩
  | .int i, _, _, h, r => by
    cases h
    obtain ⟨t, rfl⟩ := r
    exact ⟨[], Reads.int i t, by simp⟩
  | .str x, _, _, h, r => by
    cases h
    obtain ⟨t, rfl⟩ := r
    exact ⟨[], Reads.str x t, by simp⟩
  | .list ds, _, _, h, r => by
    cases h with
    | lst hs sm ha =>
      cases r
      obtain ⟨its, rv, ⟨o, n, ho, hc, _, hd⟩, _⟩ := I.list (SqL.of hs)
      obtain ⟨as, hr, ha⟩ := Dq.readsAll I ds _ its ha rv
      exact ⟨_, Reads.list ho hc hd hr, by rw [List.mem_cons, not_or]; exact ⟨sm, ha⟩⟩
  | .tuple ds, _, _, h, r => by
    cases h with
    | tup hs ha =>
      cases r
      obtain ⟨its, rv, ⟨o, ho, hc, n, hd⟩, _⟩ := I.tuple hs
      obtain ⟨as, hr, ha⟩ := Dq.readsAll I ds _ its ha rv
      exact ⟨_, Reads.tuple ho hc hd hr, ha⟩
  | .dict ds, _, _, h, r => by
    cases h with
    | dct hs ha =>
      cases r
      obtain ⟨_, sm, vs, kv, o, es, ep, ho, ex, hd, _, prs, _⟩ := I.hok _ _ hs
      obtain ⟨bs, hr, hb⟩ := Dq.readsKv I ds _ vs es.toList ha kv prs
      refine ⟨_, Reads.dict ho ex.1 hd (readsKeys prs kv ha) hr, ?_⟩
      rw [List.mem_append, List.mem_cons, not_or, not_or]
      exact ⟨⟨fun e => by rw [e] at sm; simp at sm, by simp⟩, hb⟩
theorem Dq.readsAll (I : Inv X pins σ H s) : ∀ (ds : List PyData) (vs : List V) (us : List Value), DqAll X.K H vs ds → Vals vs us → ∃ as, ReadsAll s.heap us ds as ∧ sysModules ∉ as
  | [], _, _, h, r => by
    cases h; cases r
    exact ⟨[], ReadsAll.nil, by simp⟩
  | d :: ds, _, _, h, r => by
    cases h with
    | cons h1 h2 =>
      cases r with
      | cons r1 r2 =>
        obtain ⟨as, q1, n1⟩ := Dq.reads I d _ _ h1 r1
        obtain ⟨bs, q2, n2⟩ := Dq.readsAll I ds _ _ h2 r2
        exact ⟨_, ReadsAll.cons q1 q2, by rw [List.mem_append, not_or]; exact ⟨n1, n2⟩⟩
theorem Dq.readsKv (I : Inv X pins σ H s) : ∀ (ds : List (PyData × PyData)) (kvs : List (Key × V)) (vs : List (Key × Value)) (es : List DictEntry), DqKv X.K H kvs ds → KV kvs vs → Pairs (mixKind X.prog X.w) es vs →
    ∃ as, ReadsAll s.heap (es.map (·.val)) (ds.map (·.2)) as ∧ sysModules ∉ as
  | [], _, _, _, h, r, p => by
    cases h; cases r; cases p
    exact ⟨[], ReadsAll.nil, by simp⟩
  | (_, d) :: ds, _, _, _, h, r, p => by
    cases h with
    | cons h1 h2 =>
      cases r with
      | cons r1 r2 =>
        cases p with
        | cons p1 p2 p3 =>
          obtain ⟨as, q1, n1⟩ := Dq.reads I d _ _ h1 (p2.symm ▸ r1.2)
          obtain ⟨bs, q2, n2⟩ := Dq.readsKv I ds _ _ _ h2 r2 p3
          exact ⟨_, ReadsAll.cons q1 q2, by rw [List.mem_append, not_or]; exact ⟨n1, n2⟩⟩
end
theorem mods_lt (I : Inv X pins σ H s) : sysModules < s.heap.objs.size := Nat.lt_of_le_of_lt (show sysModules ≤ mainGlobals by decide) (I.mod.glob.keeps I.bk).lt
/-- small enough to be shown -/
structure Fine (d : PyData) : Prop where
  sh : d.showable = true
  len : d.shown.length ≤ sizeLine
  dp : d.depth ≤ 60
def rRepr (K : PySem.W.Frag) : List V → Hp → VK → Prop := fun xs H Q => ∃ (x : V) (d : PyData), xs = [x] ∧ Dq K H x d ∧ Fine d ∧ Q (.str d.shown) H
theorem call_reprD (hg : X.A.guards = some []) (hu : X.A.units + 64 < cLine) : CallR X (.builtin "repr") (rRepr X.K) := by
  rintro pins s σ H xs us Q I rv ⟨x, d, rfl, hd, fine, q⟩
  obtain ⟨u, rfl, r⟩ := vals1 rv
  obtain ⟨as, rd, sm⟩ := Dq.reads I d x u hd r
  have dp := fine.dp
  cases rd with
  | none => exact PySem.P.repr_of_none ⟨.str _, H, I.tok _, ⟨_, rfl⟩, by simpa only [PyData.shown] using q⟩
  | bool b => exact PySem.P.repr_of_bool ⟨.str _, H, I.tok _, ⟨_, rfl⟩, by simpa only [PyData.shown] using q⟩
  | int i t => exact PySem.P.repr_of_int (by simpa [PyData.showable] using fine.sh) ⟨.str _, H, I.tok _, ⟨_, rfl⟩, by simpa only [PyData.shown] using q⟩
  | str y t => exact PySem.P.repr_of_str ⟨.str _, H, I.tok _, ⟨_, rfl⟩, by simpa only [PyData.shown] using q⟩ (by simpa only [PyData.shown] using fine.len)
  | list h1 h2 h3 h4 =>
    refine repr_of_reads' (Reads.list h1 h2 h3 h4) fine.sh (fun _ => sm) hg (by omega) (fun _ _ e => e) (fun h' u tk k => ?_) fine.len
    exact ⟨.str _, H, I.kept k, ⟨_, rfl⟩, q⟩
  | tuple h1 h2 h3 h4 =>
    refine repr_of_reads' (Reads.tuple h1 h2 h3 h4) fine.sh (fun _ => sm) hg (by omega) (fun _ _ e => e) (fun h' u tk k => ?_) fine.len
    exact ⟨.str _, H, I.kept k, ⟨_, rfl⟩, q⟩
  | dict h1 h2 h3 h4 h5 =>
    refine repr_of_reads' (Reads.dict h1 h2 h3 h4 h5) fine.sh (fun _ => sm) hg (by omega) (fun _ _ e => e) (fun h' u tk k => ?_) fine.len
    exact ⟨.str _, H, I.kept k, ⟨_, rfl⟩, q⟩
end
mutual
theorem Dq.same {K : PySem.W.Frag} {H H' : Hp} (e : Same H H') : ∀ {v : V} {d : PyData}, Dq K H v d → Dq K H' v d
  | _, _, .non => .non
  | _, _, .bl b => .bl b
  | _, _, .int i => .int i
  | _, _, .str x => .str x
  | _, _, .lst h n a => .lst (e _ _ h) n (DqAll.same e a)
  | _, _, .tup h a => .tup (SqT.ext h e) (DqAll.same e a)
  | _, _, .dct h a => .dct (e _ _ h) (DqKv.same e a)
theorem DqAll.same {K : PySem.W.Frag} {H H' : Hp} (e : Same H H') : ∀ {vs : List V} {ds : List PyData}, DqAll K H vs ds → DqAll K H' vs ds
  | _, _, .nil => .nil
  | _, _, .cons h a => .cons (Dq.same e h) (DqAll.same e a)
theorem DqKv.same {K : PySem.W.Frag} {H H' : Hp} (e : Same H H') : ∀ {kvs : List (Key × V)} {ds : List (PyData × PyData)}, DqKv K H kvs ds → DqKv K H' kvs ds
  | _, _, .nil => .nil
  | _, _, .cons h a => .cons (Dq.same e h) (DqKv.same e a)
end
section
variable {X : Cx}
/-- the same of data without dicts, wherever its lists lie -/
def rReprP (K : PySem.W.Frag) : List V → Hp → VK → Prop := fun xs H Q => ∃ (x : V) (d : PyData), xs = [x] ∧ Dp K H x d ∧ d.hasDict = false ∧ Fine d ∧ Q (.str d.shown) H
theorem call_reprP (hg : X.A.guards = some []) (hu : X.A.units + 64 < cLine) : CallR X (.builtin "repr") (rReprP X.K) := by
  rintro pins s σ H xs us Q I rv ⟨x, d, rfl, hd, nd, fine, q⟩
  obtain ⟨u, rfl, r⟩ := vals1 rv
  obtain ⟨as, rd⟩ := Dp.reads I d x u hd r
  have dp := fine.dp
  cases rd with
  | none => exact PySem.P.repr_of_none ⟨.str _, H, I.tok _, ⟨_, rfl⟩, by simpa only [PyData.shown] using q⟩
  | bool b => exact PySem.P.repr_of_bool ⟨.str _, H, I.tok _, ⟨_, rfl⟩, by simpa only [PyData.shown] using q⟩
  | int i t => exact PySem.P.repr_of_int (by simpa [PyData.showable] using fine.sh) ⟨.str _, H, I.tok _, ⟨_, rfl⟩, by simpa only [PyData.shown] using q⟩
  | str y t => exact PySem.P.repr_of_str ⟨.str _, H, I.tok _, ⟨_, rfl⟩, by simpa only [PyData.shown] using q⟩ (by simpa only [PyData.shown] using fine.len)
  | list h1 h2 h3 h4 =>
    refine repr_of_reads' (Reads.list h1 h2 h3 h4) fine.sh (PyData.noDict_hsm nd) hg (by omega) (fun _ _ e => e) (fun h' u tk k => ?_) fine.len
    exact ⟨.str _, H, I.kept k, ⟨_, rfl⟩, q⟩
  | tuple h1 h2 h3 h4 =>
    refine repr_of_reads' (Reads.tuple h1 h2 h3 h4) fine.sh (PyData.noDict_hsm nd) hg (by omega) (fun _ _ e => e) (fun h' u tk k => ?_) fine.len
    exact ⟨.str _, H, I.kept k, ⟨_, rfl⟩, q⟩
  | dict h1 h2 h3 h4 h5 =>
    simp only [PyData.hasDict] at nd
    cases nd
/-- a written list; it is not sys.modules -/
def tLstS (t : TA) : TE := fun σ H Q => t σ H fun xs H1 => xs.length ≤ sizeLine ∧ ∀ p, H1 p = none → sysModules ≠ p → Q (.ref p) (L2.upd H1 p (.lst xs))
theorem pe_lstS {es : List Expr} {t : TA} {pos : Pos} (h : PA X es t) : PE X (.List es pos) (tLstS t) := by
  constructor
  intro pins s σ H Q I hq
  refine wpAny_List_spliced (thn (h.run pos pins s σ H _ I hq) ?_)
  rintro us s1 ⟨xs, H1, I1, r, z, q⟩
  refine ⟨r.length ▸ z, ?_⟩
  have J := I1.laid (a := s1.heap.objs.size) (o := .lst xs) (h' := s1.heap.push { cls := .type "list", data := .seq us.toArray }) (t' := s1.toks) (fun b u e => Heap.get?_push_of_some _ e) (Nat.le_refl _) ⟨z, us, 0, r, Heap.get?_push_size _ rfl⟩
  exact ⟨.ref _, _, J, rfl, q _ (I1.hok.fresh (Nat.le_refl _)) (Nat.ne_of_lt (mods_lt I1))⟩
end
end Xby

set_option Elab.async false
set_option linter.all false
set_option maxRecDepth 100000
set_option maxHeartbeats 4000000
namespace Xby
open PySem PySem.Spec PyProof.Rows L2
section
variable {X : Cx}
/-- ** within 2^27 bits -/
def CPowW (i j : Int) : Prop := 0 ≤ j ∧ (Builtin.Int.intBits i : Int) * j ≤ 2 ^ 27
theorem op_powW : OpR X (binaryOp .Pow) (rI CPowW fun i j => .int (i ^ j.toNat)) := opI fun _ _ _ _ _ _ _ c q => pow_int c.1 c.2 q
/-- xs != [] -/
def rNeNil (K : PySem.W.Frag) : R2 := fun x y H Q => ∃ a b xs, x = .ref a ∧ y = .ref b ∧ SqL K H a xs ∧ SqL K H b [] ∧ Q (.bl (!xs.isEmpty)) H
theorem op_neNil (hu : X.A.units < cLine) : OpR X (compareOp .NotEq) (rNeNil X.K) := by
  rintro pins s σ H x y v u Q I rx ry ⟨a, b, xs, rfl, rfl, ha, hb, q⟩
  obtain rfl : v = Value.ref a := rx
  obtain rfl : u = Value.ref b := ry
  obtain ⟨its, rv, p, _⟩ := I.list ha
  obtain ⟨its2, rv2, p2, _⟩ := I.list hb
  cases rv2
  have l := rv.length
  unfold compareOp
  cases xs with
  | nil =>
    cases rv
    refine SeqAt.RcNeAt.lists p.isList p2.isList rfl hu (e := fun _ => true) (fun j h1 => absurd h1 (by simp)) _ _ _ _ ?_
    exact ⟨.bl false, H, I, rfl, q⟩
  | cons z zs =>
    refine SeqAt.RcNeAt.lists_lengths p.isList p2.isList ?_ hu _ _ _ _ ⟨.bl true, H, I, rfl, q⟩
    have : its.length ≠ 0 := by rw [← l]; simp
    simpa using this
end
section
open PySem.W
variable {prog : Program} {w : World} {A : Around} {E : Value → Shared → Prop} {s : Shared} {K : Frag} {x C f : Addr} {ox : Obj} {od : Option Obj} {b tb : Value}
theorem special_look {M : Model} {h : Heap} {nm : Str} {id : String} (X : K.In h) (I : InstAt h x ox C od) (hs : findIn K (.ref C) nm = some (some (.builtin id))) :
    Looks M h (specialOf (.ref x) nm) (some (.builtin id)) := I.type.andThen (looks_findIn X hs)
/-- x != b by the class's own ==, where object's != stands -/
theorem ne_own {Q : Value → Shared → Prop} (hu : A.units + 1 < cLine) (X : K.In s.heap) (I : InstAt s.heap x ox C od) (ne : findIn K (.ref C) "__ne__" = some (some (.builtin "object.__ne__")))
    (eq : findIn K (.ref C) "__eq__" = some (some (.ref f))) (hf : isFn K (.ref f) = true) (ob : mroIn K C (.type "object") = some true) (hb : Looks (model prog w) s.heap (typeOf b) tb) (hn : notFirst K C tb = true)
    (h : wpAny (model prog w) A.in1 (call (.ref f) [.ref x, b]) (fun v s' => ∃ c, v = .bool c ∧ Q (.bool (!c)) s') E s) :
    wpAny (model prog w) A (richCompare .NotEq (.ref x) b) Q E s := by
  have one : wpAny (model prog w) A (tryCompare (.ref x) "__ne__" b) (fun r s' => ∃ v, r = some v ∧ Q v s') E s := by
    unfold tryCompare
    refine wpAny_bind (NtL.csib (special_look X I ne) (F.slot_dict_itemiterator_ne.bind _) ?_)
    refine wpAny_call (codeAny_call_builtin F.slot_dict_itemiterator_ne.plain F.cmpEntry_ne (PySem.W.check_slot F.cmpKind_ne F.cmpSplit_ne (I.type.andThen (looks_mroIn X ob)) (F.cmpArgs_ne _ _) ?_))
    unfold Builtin.«object.__ne__»
    repeat (first
      | with_reducible refine wpAny_cRoomFor (show A.in1.units < cLine from hu) ?_
      | (refine wpAny_bind (m := callSpecialIfBound? (.ref x) (Str.ofString "__eq__") [b]) (ifBound_K X I eq hf (wpAny_mono h (fun v s' hv => ?_) fun _ _ z => z)); obtain ⟨c, rfl, q⟩ := hv)
      | exact ⟨_, rfl, q⟩
      | exact wpAny_pure ⟨_, rfl, q⟩
      | (refine wpAny_bind (m := truthy (.bool _)) (wpAny_truthy_bool ?_))
      | wp_step)
  unfold richCompare
  simp only [oneThing_ref]
  refine wpAny_holding (wpAny_bind (wpAny_cRoomFor (Nat.lt_of_succ_lt hu) ?_))
  refine wpAny_bind (I.type.here (wpAny_bind (hb.here ?_)))
  have e : tb ≠ .ref C → subIn K tb (.ref C) = some false := fun n => by
    unfold notFirst at hn
    rcases Bool.or_eq_true_iff.mp hn with z | z
    · exact absurd (beq_iff_eq.mp z) n
    · exact beq_iff_eq.mp z
  have fin : ∀ {α : Type} {k : Option Value → Sem α} {R : α → Shared → Prop}, (∀ v s', Q v s' → wpAny (model prog w) A (k (some v)) R E s') → wpAny (model prog w) A (tryCompare (.ref x) "__ne__" b >>= k) R E s := fun h2 =>
    wpAny_bind (wpAny_mono one (fun r s' z => by obtain ⟨v, rfl, q⟩ := z; exact h2 v s' q) fun _ _ z => z)
  by_cases c : tb = .ref C
  · rw [if_neg (by rw [c]; simp)]
    refine wpAny_bind (wpAny_pure ?_)
    rw [if_neg Bool.false_ne_true]
    exact fin fun v s' q => wpAny_pure q
  · rw [if_pos (by simpa using fun z => c z.symm)]
    refine wpAny_bind ((looks_subIn X (e c)).here ?_)
    rw [if_neg Bool.false_ne_true]
    exact fin fun v s' q => wpAny_pure q
end
section
variable {X : Cx} {C f : Addr} {fd : FuncData} {n : Nat} {sp : Sp} {ps : List Str} {CX : CXT} {E : XK}
theorem vback {Q : Value → Shared → Prop} {z : V} {v : Value} {s' : Shared} (r : RelV z v) (h : Q v s') : PySem.W.CmpBack Q v s' := by
  cases z with
  | non => cases r; exact h
  | bl _ => cases r; exact h
  | int _ => obtain ⟨t, rfl⟩ := r; exact h
  | str _ => obtain ⟨t, rfl⟩ := r; exact h
  | byt _ => obtain ⟨t, rfl⟩ := r; exact h
  | flt _ => obtain ⟨t, rfl⟩ := r; exact h
  | ref _ => cases r; exact h
  | ty _ => cases r; exact h
/-- x == y, x != y, x an instance of the class at C whose == is the def at f; y of type tb -/
def rOwn (K : PySem.W.Frag) (C : Addr) (sp : Sp) (E : XK) (g : VK → VK) : R2 := fun x y H Q => ∃ (a dx : Addr) (fs : List (Str × V)) (tb : Value), x = .ref a ∧ H a = some (.ins C dx fs) ∧ TyX K H y tb ∧ PySem.W.notFirst K C tb = true ∧ sp [x, y] H (g Q) E
theorem op_ownEq (F : FnOk X.prog X.w X.K X.mg X.base CX n f fd ps sp) (hr : Room n X.A) (bd : Binds X.K fd ps []) (hx : Passes CX X E)
    (eq : PySem.W.findIn X.K (.ref C) "__eq__" = some (some (.ref f))) (hf : PySem.W.isFn X.K (.ref f) = true) : OpR X (compareOp .Eq) (rOwn X.K C sp E fun Q => Q) := by
  rintro pins s σ H x y v u Q I rx ry ⟨a, dx, fs, tb, rfl, ha, ty, nf, q⟩
  obtain rfl : v = Value.ref a := rx
  obtain ⟨mA, J, _⟩ := ins_get I.hok ha
  obtain ⟨od, J, _⟩ := J.look
  obtain ⟨P, kx, hp, _⟩ := kit_of I ry ty
  obtain ⟨m, hF⟩ := I.fr
  refine PySem.W.cmp_K (op := .Eq) (tb := tb) hr.units0 hF I.ok.mod.kin J (kx.ty _ _ I.kIn hp) nf eq hf ?_
  refine wpAny_mono (run_fn (us := [.ref a, u]) (vs := [.ref a, y]) (dvs := []) F hr bd .nil hx I (.cons rfl (.cons ry .nil)) q) (fun w s' z => ?_) fun _ _ z => z
  obtain ⟨z', H', I', rz, qz⟩ := z
  exact vback rz ⟨z', H', I', rz, qz⟩
end
section
variable {X : Cx} {C f : Addr} {fd : FuncData} {n : Nat} {sp : Sp} {ps : List Str}
theorem op_ownNe (F : FnOk X.prog X.w X.K X.mg X.base CX0 n f fd ps sp) (hr : Room (n + 1) X.A) (bd : Binds X.K fd ps [])
    (eq : PySem.W.findIn X.K (.ref C) "__eq__" = some (some (.ref f))) (hf : PySem.W.isFn X.K (.ref f) = true) (ne : PySem.W.findIn X.K (.ref C) "__ne__" = some (some (.builtin "object.__ne__"))) (ob : PySem.W.mroIn X.K C (.type "object") = some true) :
    OpR X (compareOp .NotEq) (rOwn X.K C sp E0 fun Q v H => ∃ c, v = .bl c ∧ Q (.bl (!c)) H) := by
  rintro pins s σ H x y v u Q I rx ry ⟨a, dx, fs, tb, rfl, ha, ty, nf, q⟩
  obtain rfl : v = Value.ref a := rx
  obtain ⟨mA, J, _⟩ := ins_get I.hok ha
  obtain ⟨od, J, _⟩ := J.look
  obtain ⟨P, kx, hp, _⟩ := kit_of I ry ty
  have hun : X.A.units + 1 < cLine := by have := hr.un; omega
  unfold compareOp
  refine ne_own hun I.kIn J ne eq hf ob (kx.ty _ _ I.kIn hp) nf ?_
  have e0 : Env0 X.prog X.w X.K X.mg X.base X.A.in1 X.stack s H := I.env0.in1
  have hl := F.len _ _ _ _ q
  have rv : Vals [V.ref a, y] [Value.ref a, u] := .cons rfl (.cons ry .nil)
  have bn := bd s [.ref a, u] I.kIn (by rw [List.append_nil]; simpa using hl)
  rw [List.append_nil] at bn
  refine wpAny_call (codeAny_mono (F.run X.A.in1 X.stack s H ⟨[.ref a, u], []⟩ [.ref a, u] [.ref a, y] _ E0 hr.in1 e0 bn rv q) fun r s' hq => ?_)
  cases r with
  | error e => exact (show False from hq).elim
  | ok fl =>
    cases fl with
    | next => exact (show False from hq).elim
    | brk => exact (show False from hq).elim
    | cont => exact (show False from hq).elim
    | ret w =>
      obtain ⟨z, H', I', rz, c, rfl, qz⟩ := I.after hq
      obtain rfl : w = Value.bool c := rz
      exact ⟨c, rfl, .bl (!c), H', I', rfl, qz⟩
end
section
variable {X : Cx} {C f : Addr} {fd : FuncData} {n : Nat} {sp : Sp} {ps : List Str}
/-- the same, for a written part told -/
theorem op_ownEqK (K : PySem.W.Frag) (mg : Str → Option Value) (base : Heap) (P : Program) (w : World) (hK : X.K = K) (hm : X.mg = mg) (hB : X.base = base) (hP : X.prog = P) (hw : X.w = w) (F : FnOk P w K mg base CX0 n f fd ps sp) (hr : Room n X.A) (bd : Binds K fd ps [])
    (eq : PySem.W.findIn K (.ref C) "__eq__" = some (some (.ref f))) (hf : PySem.W.isFn K (.ref f) = true) : OpR X (compareOp .Eq) (rOwn K C sp E0 fun Q => Q) := by
  subst hK hm hB hP hw
  exact op_ownEq F hr bd pass0 eq hf
theorem op_ownNeK (K : PySem.W.Frag) (mg : Str → Option Value) (base : Heap) (P : Program) (w : World) (hK : X.K = K) (hm : X.mg = mg) (hB : X.base = base) (hP : X.prog = P) (hw : X.w = w) (F : FnOk P w K mg base CX0 n f fd ps sp) (hr : Room (n + 1) X.A) (bd : Binds K fd ps [])
    (eq : PySem.W.findIn K (.ref C) "__eq__" = some (some (.ref f))) (hf : PySem.W.isFn K (.ref f) = true) (ne : PySem.W.findIn K (.ref C) "__ne__" = some (some (.builtin "object.__ne__"))) (ob : PySem.W.mroIn K C (.type "object") = some true) :
    OpR X (compareOp .NotEq) (rOwn K C sp E0 fun Q v H => ∃ c, v = .bl c ∧ Q (.bl (!c)) H) := by
  subst hK hm hB hP hw
  exact op_ownNe F hr bd eq hf ne ob
end
section
variable {X : Cx}
theorem ix_listK (K : PySem.W.Frag) (hK : X.K = K) : IxR X (rIxL K) := by
  subst hK
  exact ix_list
theorem ix_tupK (K : PySem.W.Frag) (hK : X.K = K) : IxR X (rIxT K) := by
  subst hK
  exact ix_tup
theorem ix_seqK (K : PySem.W.Frag) (hK : X.K = K) : IxR X (rIx K) := by
  subst hK
  exact ix_seq
theorem op_inK (K : PySem.W.Frag) (hK : X.K = K) : OpR X (compareOp .In) (rIn K false) := by
  subst hK
  exact op_in_seq
theorem op_notInK (K : PySem.W.Frag) (hK : X.K = K) : OpR X (compareOp .NotIn) (rIn K true) := by
  subst hK
  exact op_notIn_seq
theorem call_lenK (K : PySem.W.Frag) (hK : X.K = K) : CallR X (.builtin "len") (fun xs H Q => ∃ x n, xs = [x] ∧ LenV K x H n ∧ Q (.int n) H) := by
  subst hK
  exact call_len
theorem call_isiK (K : PySem.W.Frag) (hK : X.K = K) : CallR X (.builtin "isinstance") (rIsi K) := by
  subst hK
  exact call_isi
theorem sl_listK (K : PySem.W.Frag) (hK : X.K = K) : SlR X (rSlL K) := by
  subst hK
  exact sl_list
theorem sl_tupK (K : PySem.W.Frag) (hK : X.K = K) : SlR X (rSlT K) := by
  subst hK
  exact sl_tup
theorem call_listK (K : PySem.W.Frag) (hK : X.K = K) : CallR X (.type "list") (fun xs H Q => ∃ p ys, xs = [.ref p] ∧ (SqL K H p ys ∨ SqT K H p ys) ∧ ∀ l, H l = none → Q (.ref l) (upd H l (.lst ys))) := by
  subst hK
  exact call_list_of
theorem cr_allK (K : PySem.W.Frag) (hK : X.K = K) (hc : X.calm = true) : CallR X (.builtin "all") (rAll K) := by
  subst hK
  exact cr_all hc
theorem cr_anyK (K : PySem.W.Frag) (hK : X.K = K) (hc : X.calm = true) : CallR X (.builtin "any") (rAny K) := by
  subst hK
  exact cr_any hc
theorem op_eqDK (K : PySem.W.Frag) (hK : X.K = K) (hu : X.A.units + 64 < cLine) : OpR X (compareOp .Eq) (rEqD K) := by
  subst hK
  exact op_eqD hu
theorem op_neDK (K : PySem.W.Frag) (hK : X.K = K) (hu : X.A.units + 64 < cLine) : OpR X (compareOp .NotEq) (rNeD K) := by
  subst hK
  exact op_neD hu
theorem op_neNilK (K : PySem.W.Frag) (hK : X.K = K) (hu : X.A.units < cLine) : OpR X (compareOp .NotEq) (rNeNil K) := by
  subst hK
  exact op_neNil hu
theorem call_reprK (K : PySem.W.Frag) (hK : X.K = K) (hg : X.A.guards = some []) (hu : X.A.units + 64 < cLine) : CallR X (.builtin "repr") (rRepr K) := by
  subst hK
  exact call_reprD hg hu
theorem call_reprPK (K : PySem.W.Frag) (hK : X.K = K) (hg : X.A.guards = some []) (hu : X.A.units + 64 < cLine) : CallR X (.builtin "repr") (rReprP K) := by
  subst hK
  exact call_reprP hg hu
theorem pe_fldK (K : PySem.W.Frag) (hK : X.K = K) {e : Expr} {f : Str} {pos : Pos} {ta : TE} (he : PE X e ta) (hb : attributeBase e f X.env (eval e X.env) = eval e X.env) : PE X (.Attribute e f pos) (tFld K ta f) := by
  subst hK
  exact pe_fld he hb
theorem pi_listK (K : PySem.W.Frag) (hK : X.K = K) {tg l : Expr} {tl : TE} (hl : PE X l tl) : PI X tg l (iList K tl) := by
  subst hK
  exact pi_list hl
theorem pi_tupK (K : PySem.W.Frag) (hK : X.K = K) {tg l : Expr} {tl : TE} (hl : PE X l tl) : PI X tg l (iTup K tl) := by
  subst hK
  exact pi_tup hl
end
end Xby

set_option Elab.async false
set_option linter.all false
set_option maxRecDepth 100000
set_option maxHeartbeats 4000000
namespace PySem
namespace LowV
open PySem.W PySem.Calls PyProof.Rows PySem.HandSPX
/-! ### the text of __init__ -/
def iA (p1 p2 : Pos) : Arguments := { posonlyargs := [], args := [{ arg := "self", annotation := none, pos := p1 }, { arg := "value", annotation := none, pos := p2 }], vararg := none, kwonlyargs := [], kw_defaults := [], kwarg := none, defaults := [] }
def iB (q1 q2 q3 q4 : Pos) : List Stmt := [.Assign [.Attribute (.Name "self" q1) "value" q2] (.Name "value" q3) q4]
def iS : Scope := { kind := .function, names := [(PySem.Str.ofString "self", .local), (PySem.Str.ofString "value", .local)], isGenerator := false, isCoroutine := false, more := [] }
/-- what the written part says of Low, at C, and of its __init__, at fI -/
structure LowTxt (K : Frag) (mg : Str → Option Value) (cn qn : Str) (C fI : Addr) : Prop where
  gC : mg cn = some (.ref C)
  cls : ∃ nm q N bs bm sn sub ab col dd k0 k1 k2 k3 k5, K.lookup C = some (excClassObj nm q C N bs bm true sn sub ab col dd k0 k1 k2 k3 k5 "ValueError.__new__") ∧ refsVE bm = true
  sa : findIn K (.ref C) "__setattr__" = some (some (.builtin "object.__setattr__"))
  ga : findIn K (.ref C) "__getattribute__" = some (some (.builtin "BaseException.__getattribute__"))
  gg : findIn K (.ref C) "__getattr__" = some none
  noN : findIn K (.ref C) "value" = some none
  iC : findIn K (.ref C) "__init__" = some (some (.ref fI))
  tC : typeIn K (.ref fI) = some (.type "function")
  kC : keepIn K (.ref C) = true
  exC : subIn K (.ref C) (.type "BaseException") = some true
  tyC : typeIn K (.ref C) = some (.type "type")
  hdC : hasDictIn K C = true
  te : exmOne K (.ref C) (.ref C) = some true
  fn : ∃ (oc : Value) (od : Option Addr) (doc pm : Value) (an : Option Addr) (cdv ct : Value) (osl : Array (Option Value)) (p1 p2 q1 q2 q3 q4 : Pos),
    K.lookup fI = some ⟨oc, od, .func (fnOf "__init__" qn (iA p1 p2) (iB q1 q2 q3 q4) iS .none .none doc pm an cdv ct), osl⟩ ∧ codeIn K cdv qn = true
theorem one_size (v : Value) : [v].length ≤ sizeLine := by
  rw [sizeLine_eq]
  exact (by decide : 1 ≤ 16777216)
theorem kept_but {K : Frag} {h h' : Heap} {x : Addr} (X : K.In h) (hx : K.lookup x = none) (k : ∀ b o, b ≠ x → h.get? b = some o → h'.get? b = some o) : K.In h' := fun a o e =>
  k a o (fun z => by rw [z, hx] at e; cases e) (X a o e)
theorem ldC {M : Model} {s : Shared} {name : Str} {scope : Scope} {L a : Addr} {cd : Value} {m : Str → Option Value} {x : Str} {pos : Pos} {v : Value} {Q : Value → Shared → Prop} {A : Around} {E : Value → Shared → Prop} (hn : s.heap.Ns L m) (hv : m x = some v) (h : Q v s)
    (hk : scope.kind = .function := by rfl) (hl : (envOfC name scope L a cd).kindOf x = some .local := by rfl) (hd : (x == ("__debug__" : Str)) = false := by decide) :
    wpAny M A (eval (.Name x pos) (envOfC name scope L a cd)) Q E s := wpAny_Name (wpAny_loadName_local hk hl hn hv h) hd
/-- what __init__ leaves of a fresh exception at x -/
structure InitEnd (h h' : Heap) (x C dx t1 : Addr) (v : Value) : Prop where
  keep : ∀ b o, b ≠ x → h.get? b = some o → h'.get? b = some o
  obj : h'.get? x = some { cls := .ref C, dict := some dx, data := .fields #[.ref t1, .none, .none, .none, .bool false, .none] }
  dbig : h.objs.size ≤ dx
  dne : dx ≠ x
  ns : h'.Ns1 dx (fun y => if y = "value" then some v else none)
/-- a made Low -/
structure OwnMade (h h' : Heap) (e C d : Addr) (v : Value) : Prop where
  keep : ∀ b o, h.get? b = some o → h'.get? b = some o
  new : h.objs.size ≤ e
  obj : ∃ oe vs, h'.get? e = some oe ∧ oe.cls = .ref C ∧ oe.dict = some d ∧ oe.data = .fields vs ∧ vs[1]? = some .none
  dbig : h.objs.size ≤ d
  dne : d ≠ e
  ns : h'.Ns1 d (fun y => if y = "value" then some v else none)
section
variable {cn qn : Str} {prog : Program} {w : World} {A : Around} {E : Value → Shared → Prop} {R : Result → Shared → Prop} {s : Shared} {K : Frag} {mg : Str → Option Value} {C fI : Addr}
theorem low_init (T : LowTxt K mg cn qn C fI) {x t0 : Addr} {v : Value} (X : K.In s.heap) (hlim : s.heap.NoLimit) (hx : s.heap.get? x = some (excO C t0)) (hnx : K.lookup x = none) (hroom : A.depth < recursionLimit)
    (hq : ∀ h' tk dx, InitEnd s.heap h' x C dx t0 v → R (.ok (.ret .none)) { s with heap := h', toks := tk }) :
    codeAny (model prog w) A (.call (.ref fI) ⟨[.ref x, v], []⟩) R s := by
  obtain ⟨oc, od, doc, pm, an, cdv, ct, osl, p1, p2, q1, q2, q3, q4, ho, hcd⟩ := T.fn
  obtain ⟨nm, q, N, bs, bm, sn, sub, ab, col, dd, k0, k1, k2, k3, k5, hC, hbm⟩ := T.cls
  have hcl : clsIn K C = some { name := nm, bases := bs, mro := .ref C :: bm, ns := N, qualname := q, hasDict := true, slotNames := sn, subclasses := sub, abstract := ab, collection := col, hasDel := false } := by unfold clsIn; rw [hC] <;> rfl
  refine Att.call_fn (binds := [("self", .ref x), ("value", v)]) X hlim ho hcd hroom (BindsTo.of_eq (by first | rfl | with_unfolding_all rfl)) (by first | rfl | decide | with_unfolding_all rfl) (fun s₁ IC => ?_) rfl rfl rfl
  obtain ⟨h₁, tk₁, rfl⟩ := IC.toInCall.same
  have k : ∀ b o, s.heap.get? b = some o → h₁.get? b = some o := IC.toInCall.keep
  have hn := IC.toInCall.ns
  have hxL : s.heap.objs.size ≠ x := Nat.ne_of_gt (Heap.lt_size hx)
  have X₁ : K.In h₁ := X.keeps k
  have hx₁ := k _ _ hx
  -- self.value = by
  show wpAny _ _ (execs _ _) _ _ _
  refine wpAny_execs_cons (plainObj_wpAny_Assign_Attribute ?_)
  refine ldC (v := v) hn (by first | rfl | with_unfolding_all rfl | kernel_rfl) (ldC (v := .ref x) hn (by first | rfl | with_unfolding_all rfl | kernel_rfl) ?_)
  refine set_plain X₁ (ox := excO C t0) (od := none) ⟨hx₁, rfl, rfl, trivial⟩ T.sa ?_
  refine exc_osa X₁ hx₁ hcl (show refsVE (.ref C :: bm) = true from hbm) rfl T.noN (fun h₃ tk₃ dx k₃ dn dne hx₃ hn₃ => ?_)
  show wpAny _ _ (execs _ _) _ _ _
  have z : s.heap.objs.size < h₁.objs.size := hn.lt
  exact wpAny_execs_nil (hq h₃ tk₃ dx ⟨fun b o hb e => k₃ b o hb (k b o e), hx₃, Nat.le_of_lt (Nat.lt_of_lt_of_le z dn), dne, hn₃⟩)
theorem low_made (T : LowTxt K mg cn qn C fI) {v : Value} (X : K.In s.heap) (hlim : s.heap.NoLimit) (hroom : A.depth + 1 < recursionLimit)
    (hq : ∀ h' tk e d, OwnMade s.heap h' e C d v → R (.ok (.ret (.ref e))) { s with heap := h', toks := tk }) :
    codeAny (model prog w) A (.call (.ref C) ⟨[v], []⟩) R s := by
  obtain ⟨nm, q, N, bs, bm, sn, sub, ab, col, dd, k0, k1, k2, k3, k5, hC, hbm⟩ := T.cls
  obtain ⟨hp, g, dr, tk, os⟩ := s
  have k : ∀ b o, hp.get? b = some o → ((hp.push (kdv_tup [v])).push (excO C hp.objs.size)).get? b = some o := fun b o e => Heap.get?_push_of_some _ (Heap.get?_push_of_some _ e)
  have hget : ((hp.push (kdv_tup [v])).push (excO C hp.objs.size)).get? (hp.objs.size + 1) = some (excO C hp.objs.size) := by heap_get
  have hnx : K.lookup (hp.objs.size + 1) = none := by
    cases e : K.lookup (hp.objs.size + 1) with
    | none => rfl
    | some o =>
      have z : hp.get? (hp.objs.size + 1) = some o := X _ _ e
      exact absurd (Nat.lt_of_succ_lt (Heap.lt_size z)) (Nat.lt_irrefl _)
  refine call_own F.excBase_ValueError (fun X => refsVE_contains X bm hbm) (X _ _ hC) (looks_findIn X T.iC) (fun self => bind_fn X self T.tC) (one_size v) ?_
  refine low_init (s := ⟨(hp.push (kdv_tup [v])).push (excO C hp.objs.size), g, dr, tk, os⟩) T (X.keeps k) (hlim.keeps k) hget hnx ?_ fun h' tk' dx ⟨k', hx, dn, dne, hns⟩ => ?_
  · show A.depth + 1 < recursionLimit
    exact hroom
  · have old : ∀ b o, hp.get? b = some o → h'.get? b = some o := fun b o e => k' b o (Nat.ne_of_lt (Nat.lt_succ_of_lt (Heap.lt_size e))) (k b o e)
    have z : hp.objs.size + 1 + 1 ≤ dx := by
      first
        | (simpa only [Heap.size_push] using dn)
        | exact dn
        | (have q := dn; rw [Heap.size_push, Heap.size_push] at q; exact q)
    exact ⟨rfl, hq h' tk' (hp.objs.size + 1) dx ⟨old, Nat.le_succ _, ⟨_, _, hx, rfl, rfl, rfl, rfl⟩, Nat.le_trans (Nat.le_trans (Nat.le_succ _) (Nat.le_succ _)) z, dne, hns⟩⟩
end
end LowV
end PySem
namespace L2
namespace LowV
open PySem PySem.Spec PyProof.Rows
theorem relO_low {v : V} {v' : Value} (r : RelV v v') (f : Str) : RelO (List.lookup f [(("value" : Str), v)]) (if f = "value" then some v' else none) := by
  by_cases hw : f = "value"
  · subst hw
    rw [if_pos rfl]
    have q : List.lookup ("value" : Str) [(("value" : Str), v)] = some v := by simp [List.lookup]
    rw [q]
    exact r
  · rw [if_neg hw]
    have qw : (f == ("value" : Str)) = false := by simpa using hw
    have q2 : List.lookup f [(("value" : Str), v)] = none := by simp [List.lookup, qw]
    rw [q2]
    trivial
section
variable {X : Cx} {C fI : Addr} {cn qn : Str}
/-- Low(e) -/
def tMkLow (C : Addr) (ta : TA) : St → Hp → XK → Prop := fun σ H Q => ta σ H fun vs H1 => ∃ v, vs = [v] ∧ ∀ d, H1 d = none → Q (.ref C) (some d) (upd H1 d (.xd [(("value" : Str), v)]))
theorem pmk_low {a : Expr} {ta : TA} {p pos : Pos} {k : Nat} (T : PySem.LowV.LowTxt X.K X.mg cn qn C fI) (hr : Room k X.A) (ha : PA X [a] ta) (hg : Gl X cn := by rfl) (hdb : (cn == ("__debug__" : Str)) = false := by decide)
    (he : starEach (a :: []) X.env = (false, eval a X.env) :: starEach [] X.env := by rfl) (hpl : (backTo pos (starEach [] X.env)).any (·.1) = false := by rfl) :
    PMk X (.Call (.Name cn p) [a] [] pos) (tMkLow C ta) := by
  intro pins s σ H Q I h
  refine wpAny_Call_Name_kw (ld_glob I hg T.gC ?_ hdb)
  refine PySem.W.callWith_K (h₀ := X.base) I.ok.mod.kin T.kC (thn (ha.run pos pins s σ H _ I h) fun us s1 hh => ?_) he hpl
  obtain ⟨vs, H1, I1, r1, v, ev, q1⟩ := hh
  subst ev
  refine ⟨I1.kIn, ?_⟩
  cases r1 with
  | cons rv rn =>
    rename_i v' us'
    cases rn
    show wpAny _ _ (call (.ref C) [v']) _ _ _
    have hlim := I1.nolimit
    obtain ⟨hp, g, dr, tk, os⟩ := s1
    refine wpAny_call (PySem.LowV.low_made T I1.kIn hlim (by have := hr.dp; omega) fun h' tk' e d M => ?_)
    show MkP X pins σ Q (.ref e) ⟨h', g, dr, tk', os⟩
    obtain ⟨oe, fv, hoe, hc, hd, hdat, h1⟩ := M.obj
    have hns := M.ns
    obtain ⟨G', g1, g2⟩ := restrict h' fun b => decide (b ≠ e)
    have gk : ∀ b, b ≠ e → G'.get? b = h'.get? b := fun b hb => g1 b (decide_eq_true hb)
    have ge : G'.get? e = none := g2 e (by simp)
    have old : ∀ b o, hp.get? b = some o → G'.get? b = some o := fun b o q => (gk b (Nat.ne_of_lt (Nat.lt_of_lt_of_le (Heap.lt_size q) M.new))).trans (M.keep b o q)
    have ob : ObjOk X.prog X.w (upd H1 d (.xd [(("value" : Str), v)])) G' d (.xd [(("value" : Str), v)]) :=
      ⟨_, hns.at (fun o q => (gk d M.dne).trans q), fun f => relO_low rv f⟩
    have J : Inv X pins σ (upd H1 d (.xd [(("value" : Str), v)])) ⟨G', g, dr, tk', os⟩ := I1.laid (t' := tk') old M.dbig ob
    refine ⟨e, oe, fv, ⟨G', g, dr, tk', os⟩, _, .ref C, some d, rfl, J, fun b o q => ?_, ge, hoe, ⟨hc, hd⟩, hdat, h1, ?_, rfl, I1.bare, raises_own T.exC T.tyC, q1 d (I1.hok.fresh M.dbig)⟩
    · by_cases hb : b = e
      · have q' : G'.get? b = some o := q
        rw [hb, ge] at q'; cases q'
      · exact (gk b hb).symm.trans q
    · rw [upd_ne (Ne.symm M.dne)]
      exact I1.hok.fresh M.new
/-- raise Low(e) -/
def tRaiseLow (C : Addr) (W : WX) (ta : TA) : TS := fun _ σ H => tMkLow C ta σ H fun cls d H' => W cls d σ H'
theorem ps_raiseLow {a : Expr} {ta : TA} {W : WX} {p pos pos2 : Pos} {k : Nat} (hc : X.calm = true) (T : PySem.LowV.LowTxt X.K X.mg cn qn C fI) (hr : Room k X.A) (tk : Takes X W) (ha : PA X [a] ta) (hg : Gl X cn := by rfl) (hdb : (cn == ("__debug__" : Str)) = false := by decide)
    (he : starEach (a :: []) X.env = (false, eval a X.env) :: starEach [] X.env := by rfl) (hpl : (backTo pos (starEach [] X.env)).any (·.1) = false := by rfl) :
    PS X (.Raise (some (.Call (.Name cn p) [a] [] pos)) none pos2) (tRaiseLow C W ta) := ps_raise hc tk (pmk_low T hr ha hg hdb he hpl)
/-- low.by, low the exception that the suite holds (at a; its class cls, its dict d) -/
def tByLow (C : Addr) (a : Addr) (cls : Value) (d : Option Addr) (te : TE) : TE := fun σ H Q => te σ H fun x H1 => x = .ref a ∧ cls = .ref C ∧ ∃ (dd : Addr) (v : V), d = some dd ∧ H1 dd = some (.xd [(("value" : Str), v)]) ∧ Q v H1
theorem pe_byLow {a : Addr} {oe : Obj} {cls : Value} {d : Option Addr} {pn : List (Addr × Obj)} {e : Expr} {te : TE} {pos : Pos} (T : PySem.LowV.LowTxt X.K X.mg cn qn C fI) (hz : Zc cls d oe) (hf : ∃ vs, oe.data = .fields vs) (he : PE (X.suite a ((a, oe) :: pn)) e te)
    (hb : attributeBase e "value" X.env (eval e X.env) = eval e X.env := by rfl) :
    PE (X.suite a ((a, oe) :: pn)) (.Attribute e "value" pos) (tByLow C a cls d te) := by
  refine ⟨fun pins s σ H Q I h => ?_⟩
  refine attr_of hb (thn (he.run pins s σ H _ I h) fun u s1 hh => ?_)
  obtain ⟨x, H1, I1, rx, ex, ec, dd, v, ed, ea, q⟩ := hh
  subst ex
  obtain rfl : u = Value.ref a := rx
  subst ec
  subst ed
  obtain ⟨ha, _⟩ := I1.pin (a, oe) (List.mem_append_left _ List.mem_cons_self)
  obtain ⟨vs, hd⟩ := hf
  have hx : ObjOk X.prog X.w H1 s1.heap dd (.xd [(("value" : Str), v)]) := I1.hok dd _ ea
  obtain ⟨mA, hns, hr⟩ := hx
  obtain ⟨od, ho, hl⟩ := lookIn_ns hns
  have l : List.lookup ("value" : Str) [(("value" : Str), v)] = some v := by simp [List.lookup]
  obtain ⟨u, hu, ru⟩ := RelO.some_of (v := v) (o := mA "value") (by rw [← l]; exact hr "value")
  have J : PySem.W.InstAt s1.heap a oe C (some od) := ⟨ha, hz.1, by unfold PySem.W.notCls; rw [hd] <;> rfl, by rw [hz.2]; exact ho⟩
  exact HandSPX.exc_get I1.kIn J T.ga T.gg T.exC (PySem.W.findObj_own T.hdC T.noN rfl (by rw [hl, hu])) (handed_of ru) ⟨v, H1, I1.tok _, ru, q⟩
end
end LowV
end L2
namespace PySem
namespace LowL
open PySem.W PySem.Calls PyProof.Rows PySem.HandSPX
/-! ### the text of __init__ -/
def iA (p1 p2 : Pos) : Arguments := { posonlyargs := [], args := [{ arg := "self", annotation := none, pos := p1 }, { arg := "limit", annotation := none, pos := p2 }], vararg := none, kwonlyargs := [], kw_defaults := [], kwarg := none, defaults := [] }
def iB (q1 q2 q3 q4 : Pos) : List Stmt := [.Assign [.Attribute (.Name "self" q1) "limit" q2] (.Name "limit" q3) q4]
def iS : Scope := { kind := .function, names := [(PySem.Str.ofString "self", .local), (PySem.Str.ofString "limit", .local)], isGenerator := false, isCoroutine := false, more := [] }
/-- what the written part says of Low, at C, and of its __init__, at fI -/
structure LowTxt (K : Frag) (mg : Str → Option Value) (cn qn : Str) (C fI : Addr) : Prop where
  gC : mg cn = some (.ref C)
  cls : ∃ nm q N bs bm sn sub ab col dd k0 k1 k2 k3 k5, K.lookup C = some (excClassObj nm q C N bs bm true sn sub ab col dd k0 k1 k2 k3 k5 "ValueError.__new__") ∧ refsVE bm = true
  sa : findIn K (.ref C) "__setattr__" = some (some (.builtin "object.__setattr__"))
  ga : findIn K (.ref C) "__getattribute__" = some (some (.builtin "BaseException.__getattribute__"))
  gg : findIn K (.ref C) "__getattr__" = some none
  noN : findIn K (.ref C) "limit" = some none
  iC : findIn K (.ref C) "__init__" = some (some (.ref fI))
  tC : typeIn K (.ref fI) = some (.type "function")
  kC : keepIn K (.ref C) = true
  exC : subIn K (.ref C) (.type "BaseException") = some true
  tyC : typeIn K (.ref C) = some (.type "type")
  hdC : hasDictIn K C = true
  te : exmOne K (.ref C) (.ref C) = some true
  fn : ∃ (oc : Value) (od : Option Addr) (doc pm : Value) (an : Option Addr) (cdv ct : Value) (osl : Array (Option Value)) (p1 p2 q1 q2 q3 q4 : Pos),
    K.lookup fI = some ⟨oc, od, .func (fnOf "__init__" qn (iA p1 p2) (iB q1 q2 q3 q4) iS .none .none doc pm an cdv ct), osl⟩ ∧ codeIn K cdv qn = true
theorem one_size (v : Value) : [v].length ≤ sizeLine := by
  rw [sizeLine_eq]
  exact (by decide : 1 ≤ 16777216)
theorem kept_but {K : Frag} {h h' : Heap} {x : Addr} (X : K.In h) (hx : K.lookup x = none) (k : ∀ b o, b ≠ x → h.get? b = some o → h'.get? b = some o) : K.In h' := fun a o e =>
  k a o (fun z => by rw [z, hx] at e; cases e) (X a o e)
theorem ldC {M : Model} {s : Shared} {name : Str} {scope : Scope} {L a : Addr} {cd : Value} {m : Str → Option Value} {x : Str} {pos : Pos} {v : Value} {Q : Value → Shared → Prop} {A : Around} {E : Value → Shared → Prop} (hn : s.heap.Ns L m) (hv : m x = some v) (h : Q v s)
    (hk : scope.kind = .function := by rfl) (hl : (envOfC name scope L a cd).kindOf x = some .local := by rfl) (hd : (x == ("__debug__" : Str)) = false := by decide) :
    wpAny M A (eval (.Name x pos) (envOfC name scope L a cd)) Q E s := wpAny_Name (wpAny_loadName_local hk hl hn hv h) hd
/-- what __init__ leaves of a fresh exception at x -/
structure InitEnd (h h' : Heap) (x C dx t1 : Addr) (v : Value) : Prop where
  keep : ∀ b o, b ≠ x → h.get? b = some o → h'.get? b = some o
  obj : h'.get? x = some { cls := .ref C, dict := some dx, data := .fields #[.ref t1, .none, .none, .none, .bool false, .none] }
  dbig : h.objs.size ≤ dx
  dne : dx ≠ x
  ns : h'.Ns1 dx (fun y => if y = "limit" then some v else none)
/-- a made Low -/
structure OwnMade (h h' : Heap) (e C d : Addr) (v : Value) : Prop where
  keep : ∀ b o, h.get? b = some o → h'.get? b = some o
  new : h.objs.size ≤ e
  obj : ∃ oe vs, h'.get? e = some oe ∧ oe.cls = .ref C ∧ oe.dict = some d ∧ oe.data = .fields vs ∧ vs[1]? = some .none
  dbig : h.objs.size ≤ d
  dne : d ≠ e
  ns : h'.Ns1 d (fun y => if y = "limit" then some v else none)
section
variable {cn qn : Str} {prog : Program} {w : World} {A : Around} {E : Value → Shared → Prop} {R : Result → Shared → Prop} {s : Shared} {K : Frag} {mg : Str → Option Value} {C fI : Addr}
theorem low_init (T : LowTxt K mg cn qn C fI) {x t0 : Addr} {v : Value} (X : K.In s.heap) (hlim : s.heap.NoLimit) (hx : s.heap.get? x = some (excO C t0)) (hnx : K.lookup x = none) (hroom : A.depth < recursionLimit)
    (hq : ∀ h' tk dx, InitEnd s.heap h' x C dx t0 v → R (.ok (.ret .none)) { s with heap := h', toks := tk }) :
    codeAny (model prog w) A (.call (.ref fI) ⟨[.ref x, v], []⟩) R s := by
  obtain ⟨oc, od, doc, pm, an, cdv, ct, osl, p1, p2, q1, q2, q3, q4, ho, hcd⟩ := T.fn
  obtain ⟨nm, q, N, bs, bm, sn, sub, ab, col, dd, k0, k1, k2, k3, k5, hC, hbm⟩ := T.cls
  have hcl : clsIn K C = some { name := nm, bases := bs, mro := .ref C :: bm, ns := N, qualname := q, hasDict := true, slotNames := sn, subclasses := sub, abstract := ab, collection := col, hasDel := false } := by unfold clsIn; rw [hC] <;> rfl
  refine Att.call_fn (binds := [("self", .ref x), ("limit", v)]) X hlim ho hcd hroom (BindsTo.of_eq (by first | rfl | with_unfolding_all rfl)) (by first | rfl | decide | with_unfolding_all rfl) (fun s₁ IC => ?_) rfl rfl rfl
  obtain ⟨h₁, tk₁, rfl⟩ := IC.toInCall.same
  have k : ∀ b o, s.heap.get? b = some o → h₁.get? b = some o := IC.toInCall.keep
  have hn := IC.toInCall.ns
  have hxL : s.heap.objs.size ≠ x := Nat.ne_of_gt (Heap.lt_size hx)
  have X₁ : K.In h₁ := X.keeps k
  have hx₁ := k _ _ hx
  -- self.limit = by
  show wpAny _ _ (execs _ _) _ _ _
  refine wpAny_execs_cons (plainObj_wpAny_Assign_Attribute ?_)
  refine ldC (v := v) hn (by first | rfl | with_unfolding_all rfl | kernel_rfl) (ldC (v := .ref x) hn (by first | rfl | with_unfolding_all rfl | kernel_rfl) ?_)
  refine set_plain X₁ (ox := excO C t0) (od := none) ⟨hx₁, rfl, rfl, trivial⟩ T.sa ?_
  refine exc_osa X₁ hx₁ hcl (show refsVE (.ref C :: bm) = true from hbm) rfl T.noN (fun h₃ tk₃ dx k₃ dn dne hx₃ hn₃ => ?_)
  show wpAny _ _ (execs _ _) _ _ _
  have z : s.heap.objs.size < h₁.objs.size := hn.lt
  exact wpAny_execs_nil (hq h₃ tk₃ dx ⟨fun b o hb e => k₃ b o hb (k b o e), hx₃, Nat.le_of_lt (Nat.lt_of_lt_of_le z dn), dne, hn₃⟩)
theorem low_made (T : LowTxt K mg cn qn C fI) {v : Value} (X : K.In s.heap) (hlim : s.heap.NoLimit) (hroom : A.depth + 1 < recursionLimit)
    (hq : ∀ h' tk e d, OwnMade s.heap h' e C d v → R (.ok (.ret (.ref e))) { s with heap := h', toks := tk }) :
    codeAny (model prog w) A (.call (.ref C) ⟨[v], []⟩) R s := by
  obtain ⟨nm, q, N, bs, bm, sn, sub, ab, col, dd, k0, k1, k2, k3, k5, hC, hbm⟩ := T.cls
  obtain ⟨hp, g, dr, tk, os⟩ := s
  have k : ∀ b o, hp.get? b = some o → ((hp.push (kdv_tup [v])).push (excO C hp.objs.size)).get? b = some o := fun b o e => Heap.get?_push_of_some _ (Heap.get?_push_of_some _ e)
  have hget : ((hp.push (kdv_tup [v])).push (excO C hp.objs.size)).get? (hp.objs.size + 1) = some (excO C hp.objs.size) := by heap_get
  have hnx : K.lookup (hp.objs.size + 1) = none := by
    cases e : K.lookup (hp.objs.size + 1) with
    | none => rfl
    | some o =>
      have z : hp.get? (hp.objs.size + 1) = some o := X _ _ e
      exact absurd (Nat.lt_of_succ_lt (Heap.lt_size z)) (Nat.lt_irrefl _)
  refine call_own F.excBase_ValueError (fun X => refsVE_contains X bm hbm) (X _ _ hC) (looks_findIn X T.iC) (fun self => bind_fn X self T.tC) (one_size v) ?_
  refine low_init (s := ⟨(hp.push (kdv_tup [v])).push (excO C hp.objs.size), g, dr, tk, os⟩) T (X.keeps k) (hlim.keeps k) hget hnx ?_ fun h' tk' dx ⟨k', hx, dn, dne, hns⟩ => ?_
  · show A.depth + 1 < recursionLimit
    exact hroom
  · have old : ∀ b o, hp.get? b = some o → h'.get? b = some o := fun b o e => k' b o (Nat.ne_of_lt (Nat.lt_succ_of_lt (Heap.lt_size e))) (k b o e)
    have z : hp.objs.size + 1 + 1 ≤ dx := by
      first
        | (simpa only [Heap.size_push] using dn)
        | exact dn
        | (have q := dn; rw [Heap.size_push, Heap.size_push] at q; exact q)
    exact ⟨rfl, hq h' tk' (hp.objs.size + 1) dx ⟨old, Nat.le_succ _, ⟨_, _, hx, rfl, rfl, rfl, rfl⟩, Nat.le_trans (Nat.le_trans (Nat.le_succ _) (Nat.le_succ _)) z, dne, hns⟩⟩
end
end LowL
end PySem
namespace L2
namespace LowL
open PySem PySem.Spec PyProof.Rows
theorem relO_low {v : V} {v' : Value} (r : RelV v v') (f : Str) : RelO (List.lookup f [(("limit" : Str), v)]) (if f = "limit" then some v' else none) := by
  by_cases hw : f = "limit"
  · subst hw
    rw [if_pos rfl]
    have q : List.lookup ("limit" : Str) [(("limit" : Str), v)] = some v := by simp [List.lookup]
    rw [q]
    exact r
  · rw [if_neg hw]
    have qw : (f == ("limit" : Str)) = false := by simpa using hw
    have q2 : List.lookup f [(("limit" : Str), v)] = none := by simp [List.lookup, qw]
    rw [q2]
    trivial
section
variable {X : Cx} {C fI : Addr} {cn qn : Str}
/-- Low(e) -/
def tMkLow (C : Addr) (ta : TA) : St → Hp → XK → Prop := fun σ H Q => ta σ H fun vs H1 => ∃ v, vs = [v] ∧ ∀ d, H1 d = none → Q (.ref C) (some d) (upd H1 d (.xd [(("limit" : Str), v)]))
theorem pmk_low {a : Expr} {ta : TA} {p pos : Pos} {k : Nat} (T : PySem.LowL.LowTxt X.K X.mg cn qn C fI) (hr : Room k X.A) (ha : PA X [a] ta) (hg : Gl X cn := by rfl) (hdb : (cn == ("__debug__" : Str)) = false := by decide)
    (he : starEach (a :: []) X.env = (false, eval a X.env) :: starEach [] X.env := by rfl) (hpl : (backTo pos (starEach [] X.env)).any (·.1) = false := by rfl) :
    PMk X (.Call (.Name cn p) [a] [] pos) (tMkLow C ta) := by
  intro pins s σ H Q I h
  refine wpAny_Call_Name_kw (ld_glob I hg T.gC ?_ hdb)
  refine PySem.W.callWith_K (h₀ := X.base) I.ok.mod.kin T.kC (thn (ha.run pos pins s σ H _ I h) fun us s1 hh => ?_) he hpl
  obtain ⟨vs, H1, I1, r1, v, ev, q1⟩ := hh
  subst ev
  refine ⟨I1.kIn, ?_⟩
  cases r1 with
  | cons rv rn =>
    rename_i v' us'
    cases rn
    show wpAny _ _ (call (.ref C) [v']) _ _ _
    have hlim := I1.nolimit
    obtain ⟨hp, g, dr, tk, os⟩ := s1
    refine wpAny_call (PySem.LowL.low_made T I1.kIn hlim (by have := hr.dp; omega) fun h' tk' e d M => ?_)
    show MkP X pins σ Q (.ref e) ⟨h', g, dr, tk', os⟩
    obtain ⟨oe, fv, hoe, hc, hd, hdat, h1⟩ := M.obj
    have hns := M.ns
    obtain ⟨G', g1, g2⟩ := restrict h' fun b => decide (b ≠ e)
    have gk : ∀ b, b ≠ e → G'.get? b = h'.get? b := fun b hb => g1 b (decide_eq_true hb)
    have ge : G'.get? e = none := g2 e (by simp)
    have old : ∀ b o, hp.get? b = some o → G'.get? b = some o := fun b o q => (gk b (Nat.ne_of_lt (Nat.lt_of_lt_of_le (Heap.lt_size q) M.new))).trans (M.keep b o q)
    have ob : ObjOk X.prog X.w (upd H1 d (.xd [(("limit" : Str), v)])) G' d (.xd [(("limit" : Str), v)]) :=
      ⟨_, hns.at (fun o q => (gk d M.dne).trans q), fun f => relO_low rv f⟩
    have J : Inv X pins σ (upd H1 d (.xd [(("limit" : Str), v)])) ⟨G', g, dr, tk', os⟩ := I1.laid (t' := tk') old M.dbig ob
    refine ⟨e, oe, fv, ⟨G', g, dr, tk', os⟩, _, .ref C, some d, rfl, J, fun b o q => ?_, ge, hoe, ⟨hc, hd⟩, hdat, h1, ?_, rfl, I1.bare, raises_own T.exC T.tyC, q1 d (I1.hok.fresh M.dbig)⟩
    · by_cases hb : b = e
      · have q' : G'.get? b = some o := q
        rw [hb, ge] at q'; cases q'
      · exact (gk b hb).symm.trans q
    · rw [upd_ne (Ne.symm M.dne)]
      exact I1.hok.fresh M.new
/-- raise Low(e) -/
def tRaiseLow (C : Addr) (W : WX) (ta : TA) : TS := fun _ σ H => tMkLow C ta σ H fun cls d H' => W cls d σ H'
theorem ps_raiseLow {a : Expr} {ta : TA} {W : WX} {p pos pos2 : Pos} {k : Nat} (hc : X.calm = true) (T : PySem.LowL.LowTxt X.K X.mg cn qn C fI) (hr : Room k X.A) (tk : Takes X W) (ha : PA X [a] ta) (hg : Gl X cn := by rfl) (hdb : (cn == ("__debug__" : Str)) = false := by decide)
    (he : starEach (a :: []) X.env = (false, eval a X.env) :: starEach [] X.env := by rfl) (hpl : (backTo pos (starEach [] X.env)).any (·.1) = false := by rfl) :
    PS X (.Raise (some (.Call (.Name cn p) [a] [] pos)) none pos2) (tRaiseLow C W ta) := ps_raise hc tk (pmk_low T hr ha hg hdb he hpl)
/-- low.by, low the exception that the suite holds (at a; its class cls, its dict d) -/
def tByLow (C : Addr) (a : Addr) (cls : Value) (d : Option Addr) (te : TE) : TE := fun σ H Q => te σ H fun x H1 => x = .ref a ∧ cls = .ref C ∧ ∃ (dd : Addr) (v : V), d = some dd ∧ H1 dd = some (.xd [(("limit" : Str), v)]) ∧ Q v H1
theorem pe_byLow {a : Addr} {oe : Obj} {cls : Value} {d : Option Addr} {pn : List (Addr × Obj)} {e : Expr} {te : TE} {pos : Pos} (T : PySem.LowL.LowTxt X.K X.mg cn qn C fI) (hz : Zc cls d oe) (hf : ∃ vs, oe.data = .fields vs) (he : PE (X.suite a ((a, oe) :: pn)) e te)
    (hb : attributeBase e "limit" X.env (eval e X.env) = eval e X.env := by rfl) :
    PE (X.suite a ((a, oe) :: pn)) (.Attribute e "limit" pos) (tByLow C a cls d te) := by
  refine ⟨fun pins s σ H Q I h => ?_⟩
  refine attr_of hb (thn (he.run pins s σ H _ I h) fun u s1 hh => ?_)
  obtain ⟨x, H1, I1, rx, ex, ec, dd, v, ed, ea, q⟩ := hh
  subst ex
  obtain rfl : u = Value.ref a := rx
  subst ec
  subst ed
  obtain ⟨ha, _⟩ := I1.pin (a, oe) (List.mem_append_left _ List.mem_cons_self)
  obtain ⟨vs, hd⟩ := hf
  have hx : ObjOk X.prog X.w H1 s1.heap dd (.xd [(("limit" : Str), v)]) := I1.hok dd _ ea
  obtain ⟨mA, hns, hr⟩ := hx
  obtain ⟨od, ho, hl⟩ := lookIn_ns hns
  have l : List.lookup ("limit" : Str) [(("limit" : Str), v)] = some v := by simp [List.lookup]
  obtain ⟨u, hu, ru⟩ := RelO.some_of (v := v) (o := mA "limit") (by rw [← l]; exact hr "limit")
  have J : PySem.W.InstAt s1.heap a oe C (some od) := ⟨ha, hz.1, by unfold PySem.W.notCls; rw [hd] <;> rfl, by rw [hz.2]; exact ho⟩
  exact HandSPX.exc_get I1.kIn J T.ga T.gg T.exC (PySem.W.findObj_own T.hdC T.noN rfl (by rw [hl, hu])) (handed_of ru) ⟨v, H1, I1.tok _, ru, q⟩
end
end LowL
end L2
set_option Elab.async false
set_option linter.all false
set_option maxRecDepth 100000
set_option maxHeartbeats 4000000
/-! # callees in one word; kinds of data; the drawer's words -/
namespace Xby
open PySem L2
structure Ca (P : Program) (w : World) (K : PySem.W.Frag) (mg : Str → Option Value) (base : Heap) (CX : CXT) (x : Str) (k : Nat) (ps : List Str) (sp : Sp) (f : Addr) (fd : FuncData) : Prop where
  G : FnOk P w K mg base CX k f fd ps sp
  g : mg x = some (.ref f)
  k : PySem.W.keepIn K (.ref f) = true
  B : Binds K fd ps []
/-- what a value is to is_integer_within and its like -/
def okV (lo hi : Int) : V → Bool
  | .int i => decide (lo ≤ i ∧ i ≤ hi)
  | _ => false
theorem Dq.kind {K : PySem.W.Frag} {H : Hp} {v : V} {d : PyData} (h : Dq K H v d) :
    (∃ b, v = .bl b) ∨ (∃ i, v = .int i) ∨ ∃ T : String, TyX K H v (.type T) ∧ (kitB T "bool" = some false ∧ kitB T "int" = some false) ∧ ∀ lo hi, okV lo hi v = false := by
  cases h with
  | non => exact .inr (.inr ⟨_, .base .non, ⟨by decide +kernel, by decide +kernel⟩, fun _ _ => rfl⟩)
  | bl b => exact .inl ⟨b, rfl⟩
  | int i => exact .inr (.inl ⟨i, rfl⟩)
  | str x => exact .inr (.inr ⟨_, .base (.str x), ⟨by decide +kernel, by decide +kernel⟩, fun _ _ => rfl⟩)
  | lst hs _ _ =>
    refine .inr (.inr ⟨"list", ?_, ⟨by decide +kernel, by decide +kernel⟩, fun _ _ => rfl⟩)
    exact .base (.lst hs)
  | tup hs _ =>
    refine .inr (.inr ⟨"tuple", ?_, ⟨by decide +kernel, by decide +kernel⟩, fun _ _ => rfl⟩)
    rcases hs with (hs | ⟨o, hs⟩) | ⟨o, _, _, hk, hc, _⟩
    · exact .base (.tup hs)
    · exact .fTuple hs
    · exact .kTuple hk hc
  | dct hs _ => exact .inr (.inr ⟨"dict", .base (.dK hs), ⟨by decide +kernel, by decide +kernel⟩, fun _ _ => rfl⟩)
theorem kit_bb : kitB "bool" "bool" = some true := by decide +kernel
theorem kit_ib : kitB "int" "bool" = some false := by decide +kernel
theorem kit_ii : kitB "int" "int" = some true := by decide +kernel
theorem kit_bi : kitB "bool" "int" = some true := by decide +kernel
/-! ## the drawer -/
def Pot (H : Hp) (p : Addr) (n : Nat) : Prop := ∃ a m c : Int, H p = some (.lst [.int a, .int m, .int c]) ∧ (0 ≤ a ∧ a.natAbs < 2 ^ 1000) ∧ (0 ≤ m ∧ m < 2305843009213693921) ∧ (0 ≤ c ∧ c ≤ n)
theorem Pot.more {H : Hp} {p : Addr} {n m : Nat} (h : Pot H p n) (l : n ≤ m) : Pot H p m := by
  obtain ⟨a, b, c, e, h1, h2, h3, h4⟩ := h
  exact ⟨a, b, c, e, h1, h2, h3, by omega⟩
/-- all but p is as it was -/
def But (p : Addr) (H H' : Hp) : Prop := ∀ b o, b ≠ p → H b = some o → H' b = some o
theorem But.refl (p : Addr) (H : Hp) : But p H H := fun _ _ _ e => e
theorem But.trans {p : Addr} {H H1 H2 : Hp} (a : But p H H1) (b : But p H1 H2) : But p H H2 := fun c o n e => b c o n (a c o n e)
theorem But.of {p : Addr} {H H' : Hp} (a : Same H H') : But p H H' := fun c o _ e => a c o e
theorem But.upd {p : Addr} {H H' : Hp} {o : HO} (a : But p H H') : But p H (upd H' p o) := fun c u n e => by rw [upd_ne n]; exact a c u n e
theorem Same.upd {H H' : Hp} {p : Addr} {o : HO} (a : Same H H') (n : H' p = none) : Same H (upd H' p o) := fun c u e => by
  have e' := a c u e
  rw [upd_ne (ne_of_none e' n)]
  exact e'
theorem But.new {q : Addr} {H H' : Hp} {p : Addr} {o : HO} (a : But q H H') (n : H' p = none) : But q H (L2.upd H' p o) := fun c u m e => by
  have e' := a c u m e
  rw [upd_ne (ne_of_none e' n)]
  exact e'
def spDraw : Sp := fun vs H Q _ => ∃ (p : Addr) (many : Int) (n : Nat), vs = [.ref p, .int many] ∧ (0 < many ∧ many < 1000) ∧ n ≤ 1000000 ∧ Pot H p n ∧
  ∀ r H', 0 ≤ r → r < many → Pot H' p (n + 1) → But p H H' → Q (.int r) H'
/-- an item of the list -/
def spAny : Sp := fun vs H Q _ => ∃ (p l : Addr) (xs : List V) (n : Nat), vs = [.ref p, .ref l] ∧ H l = some (.lst xs) ∧ l ≠ p ∧ (0 < xs.length ∧ xs.length < 1000) ∧ n ≤ 1000000 ∧ Pot H p n ∧
  ∀ x H', x ∈ xs → Pot H' p (n + 1) → But p H H' → Q x H'
/-- the drawer of a cell -/
def spPot (K : PySem.W.Frag) : Sp := fun vs H Q _ => ∃ (a : Addr) (ns : List Int) (k : Int), vs = [.ref a, .int k] ∧ SqL K H a (ns.map V.int) ∧ ns.length ≤ 63 ∧ (0 ≤ k ∧ k < 3) ∧
  ∀ p H', H p = none → Same H H' → Pot H' p 0 → Q (.ref p) H'
theorem Pot.ne {H : Hp} {p l : Addr} {n : Nat} (h : Pot H p n) (nl : H l = none) : p ≠ l := by
  obtain ⟨_, _, _, e, _⟩ := h
  exact ne_of_none e nl
theorem Pot.upd {H : Hp} {p l : Addr} {n : Nat} {o : HO} (h : Pot H p n) (ne : p ≠ l) : Pot (upd H l o) p n := by
  obtain ⟨a, m, c, e, r⟩ := h
  exact ⟨a, m, c, by rw [upd_ne ne]; exact e, r⟩
theorem Pot.new {H : Hp} {p l : Addr} {n : Nat} {o : HO} (h : Pot H p n) (nl : H l = none) : Pot (L2.upd H l o) p n := h.upd (h.ne nl)
theorem Pot.same {H H' : Hp} {p : Addr} {n : Nat} (h : Pot H p n) (s : Same H H') : Pot H' p n := by
  obtain ⟨a, m, c, e, r⟩ := h
  exact ⟨a, m, c, s _ _ e, r⟩
theorem But.updN {H H' : Hp} {p D : Addr} {o : HO} (b : But p H H') (n : H D = none) : But p H (L2.upd H' D o) := fun c u m e => by
  rw [upd_ne (ne_of_none e n)]
  exact b c u m e
theorem Same.updN {H H' : Hp} {D : Addr} {o : HO} (b : Same H H') (n : H D = none) : Same H (L2.upd H' D o) := fun c u e => by
  rw [upd_ne (ne_of_none e n)]
  exact b c u e
theorem Same.both {G H : Hp} {t : Addr} {o : HO} (s : Same G H) : Same (L2.upd G t o) (L2.upd H t o) := fun c u e => by
  by_cases h : c = t
  · subst h
    rw [upd_same] at e ⊢
    exact e
  · rw [upd_ne h] at e ⊢
    exact s c u e
theorem Same.but {G H H' : Hp} {p : Addr} (s : Same G H) (b : But p H H') (n : G p = none) : Same G H' := fun c u e => b c u (ne_of_none e n) (s c u e)
theorem But.same {p : Addr} {H H1 H2 : Hp} (a : But p H H1) (s : Same H1 H2) : But p H H2 := a.trans (But.of s)
theorem Same.one {H : Hp} {l : Addr} {o : HO} (n : H l = none) : Same H (L2.upd H l o) := Same.upd (Same.refl H) n
theorem Dq.list {K : PySem.W.Frag} {H : Hp} : ∀ {vs : List V}, (∀ v ∈ vs, ∃ d, Dq K H v d) → ∃ ds, DqAll K H vs ds
  | [], _ => ⟨[], .nil⟩
  | v :: vs, h => by
    obtain ⟨d, hd⟩ := h v (List.mem_cons_self ..)
    obtain ⟨ds, hds⟩ := Dq.list (vs := vs) fun u hu => h u (List.mem_cons_of_mem _ hu)
    exact ⟨d :: ds, .cons hd hds⟩
/-! ## small data -/
structure Sz (w k : Nat) (d : PyData) : Prop where
  lv : d.leavesShort 40 = true
  wt : d.weight ≤ w
  dp : d.depth ≤ k
  sh : d.showable = true
instance (w k : Nat) (d : PyData) : Decidable (Sz w k d) :=
  if h : d.leavesShort 40 = true ∧ d.weight ≤ w ∧ d.depth ≤ k ∧ d.showable = true then isTrue ⟨h.1, h.2.1, h.2.2.1, h.2.2.2⟩ else isFalse fun z => h ⟨z.lv, z.wt, z.dp, z.sh⟩
theorem Sz.more {w w' k k' : Nat} {d : PyData} (h : Sz w k d) (hw : w ≤ w') (hk : k ≤ k') : Sz w' k' d := ⟨h.lv, Nat.le_trans h.wt hw, Nat.le_trans h.dp hk, h.sh⟩
theorem Sz.fine {w k : Nat} {d : PyData} (h : Sz w k d) (hw : w ≤ 200000) (hk : k ≤ 60) : Fine d := by
  refine ⟨h.sh, ?_, Nat.le_trans h.dp hk⟩
  have a := PyData.shown_le 40 (by decide) d h.lv
  have b : (40 + 2) * d.weight ≤ (40 + 2) * 200000 := Nat.mul_le_mul_left _ (Nat.le_trans h.wt hw)
  rw [sizeLine_eq]
  omega
theorem Sz.all {w k : Nat} : ∀ {ds : List PyData}, (∀ d ∈ ds, Sz w k d) → PyData.leavesShortAll 40 ds = true ∧ PyData.weightAll ds ≤ (w + 1) * ds.length ∧ PyData.depthAll ds ≤ k ∧ PyData.showableAll ds = true
  | [], _ => ⟨rfl, Nat.zero_le _, Nat.zero_le _, rfl⟩
  | d :: ds, h => by
    have a := h d (List.mem_cons_self ..)
    obtain ⟨b1, b2, b3, b4⟩ := Sz.all (ds := ds) fun e he => h e (List.mem_cons_of_mem _ he)
    refine ⟨?_, ?_, ?_, ?_⟩
    · simp only [PyData.leavesShortAll, a.lv, b1, Bool.and_self]
    · simp only [PyData.weightAll, List.length_cons, Nat.mul_add, Nat.mul_one]
      have := a.wt
      omega
    · simp only [PyData.depthAll]
      exact Nat.max_le.mpr ⟨a.dp, b3⟩
    · simp only [PyData.showableAll, a.sh, b4, Bool.and_self]
theorem Sz.list {w k : Nat} {ds : List PyData} (h : ∀ d ∈ ds, Sz w k d) : Sz ((w + 1) * ds.length) (k + 1) (.list ds) := by
  obtain ⟨a, b, c, d⟩ := Sz.all h
  exact ⟨by simpa only [PyData.leavesShort] using a, by simpa only [PyData.weight] using b, by simp only [PyData.depth]; omega, by simpa only [PyData.showable] using d⟩
theorem Sz.tup {w k : Nat} {ds : List PyData} (h : ∀ d ∈ ds, Sz w k d) : Sz ((w + 1) * ds.length) (k + 1) (.tuple ds) := by
  obtain ⟨a, b, c, d⟩ := Sz.all h
  exact ⟨by simpa only [PyData.leavesShort] using a, by simpa only [PyData.weight] using b, by simp only [PyData.depth]; omega, by simpa only [PyData.showable] using d⟩
theorem small50 : ∀ m : Nat, m < 51 → Sz 40 0 (.int m) := by decide +kernel
theorem Sz.int50 {m : Int} (h0 : 0 ≤ m) (h1 : m ≤ 50) : Sz 40 0 (.int m) := by
  obtain ⟨n, rfl⟩ := Int.eq_ofNat_of_zero_le h0
  exact small50 n (by omega)
/-- values that stand in the fixed part G, with small data -/
def Gd (K : PySem.W.Frag) (w k : Nat) (G : Hp) (v : V) : Prop := ∃ d, Dq K G v d ∧ Sz w k d
theorem Gd.same {K : PySem.W.Frag} {w k : Nat} {G G' : Hp} {v : V} (s : Same G G') (h : Gd K w k G v) : Gd K w k G' v := by
  obtain ⟨d, a, b⟩ := h
  exact ⟨d, a.same s, b⟩
theorem Gd.list {K : PySem.W.Frag} {w k : Nat} {G : Hp} : ∀ {vs : List V}, (∀ v ∈ vs, Gd K w k G v) → ∃ ds, DqAll K G vs ds ∧ (∀ d ∈ ds, Sz w k d) ∧ ds.length = vs.length
  | [], _ => ⟨[], .nil, by simp, rfl⟩
  | v :: vs, h => by
    obtain ⟨d, hd, sd⟩ := h v (List.mem_cons_self ..)
    obtain ⟨ds, hds, sds, l⟩ := Gd.list (vs := vs) fun u hu => h u (List.mem_cons_of_mem _ hu)
    refine ⟨d :: ds, .cons hd hds, fun e he => ?_, by simp [l]⟩
    rcases List.mem_cons.mp he with rfl | he
    · exact sd
    · exact sds e he
/-! ## classes -/
theorem kit_own {K : PySem.W.Frag} {C : Addr} {T : String} {b : Bool} (ic : PySem.W.isClsIn K C = true) (ty : PySem.W.typeIn K (.ref C) = some (.type "type")) (sb : PySem.W.subIn K (.type T) (.ref C) = some b) : PySem.W.kitOne K (.type T) (.ref C) = some b := by
  have ic' : (PySem.W.clsIn K C).isSome = true := ic
  unfold PySem.W.kitOne PySem.W.kitCls
  rw [if_neg (by simp)]
  simp only [ic', ty]
  exact sb
theorem nf_own {K : PySem.W.Frag} {C : Addr} {T : String} (sb : PySem.W.subIn K (.type T) (.ref C) = some false) : PySem.W.notFirst K C (.type T) = true := by
  unfold PySem.W.notFirst
  rw [sb]
  simp
theorem exm_of {K : PySem.W.Frag} {A B : Addr} {b : Bool} (ex : PySem.W.subIn K (.ref B) (.type "BaseException") = some true) (ic : PySem.W.isClsIn K B = true) (ty : PySem.W.typeIn K (.ref B) = some (.type "type")) (sb : PySem.W.subIn K (.ref A) (.ref B) = some b) :
    PySem.W.exmOne K (.ref A) (.ref B) = some b := by
  have ic' : (PySem.W.clsIn K B).isSome = true := ic
  unfold PySem.W.exmOne PySem.W.kitCls
  rw [ex]
  simp only [ic', ty]
  exact sb
end Xby

set_option Elab.async false
set_option linter.all false
set_option maxRecDepth 100000
set_option maxHeartbeats 4000000
/-! # len(set(t)), t a tuple of any texts -/
namespace Xby
open PySem PySem.Spec PyProof.Rows
/-- how many different ones stand among the first i -/
def news (ys : List Str) : Nat → Nat
  | 0 => 0
  | i + 1 => if (ys.take i).any (· == ys.getD i Str.empty) then news ys i else news ys i + 1
theorem news_le (ys : List Str) : ∀ i, news ys i ≤ i
  | 0 => Nat.le_refl _
  | i + 1 => by
    have := news_le ys i
    unfold news
    split <;> omega
theorem news_all {ys : List Str} : ∀ {i : Nat}, i ≤ ys.length → (news ys i = i ↔ (ys.take i).Nodup)
  | 0, _ => by simp [news]
  | i + 1, h => by
    have hi : i < ys.length := h
    have ih := news_all (ys := ys) (i := i) (by omega)
    have le := news_le ys i
    have e1 : ys.getD i Str.empty = ys[i] := by simp [hi]
    have e2 : ys.take (i + 1) = ys.take i ++ [ys[i]] := by rw [List.take_succ, List.getElem?_eq_getElem hi]; rfl
    rw [e2, List.nodup_append]
    unfold news
    rw [e1]
    by_cases c : (ys.take i).any (· == ys[i]) = true
    · rw [if_pos c]
      obtain ⟨y, hy, he⟩ := List.any_eq_true.mp c
      obtain rfl : y = ys[i] := by simpa using he
      refine ⟨fun z => by omega, fun z => ?_⟩
      exact absurd rfl (z.2.2 _ hy _ (by simp))
    · rw [if_neg c]
      refine ⟨fun z => ⟨ih.mp (by omega), by simp, fun a ha b hb => ?_⟩, fun z => by rw [ih.mpr z.1]⟩
      obtain rfl : b = ys[i] := by simpa using hb
      intro q
      exact c (List.any_eq_true.mpr ⟨a, ha, by simpa using q⟩)
section
variable {prog : Program} {w : World} {A : Around} {R : Result → Shared → Prop} {it : Addr} {fp wr : List Addr} {G : Array GenState → Array GenState → Prop} {n : Nat} {P : Nat → Value → Prop} {St : Nat → Shared → Prop}
theorem fillTexts (W : WalksS prog w A.in1 it fp wr G n P St) (c : Addr) (nc : c ∉ fp) (ys : List Str) (len : ys.length = n) (few : n + 1 < scanBound) (its : ∀ i v, P i v → ∃ t, v = .str (ys.getD i Str.empty) t) :
    ∀ (m i : Nat) (s : Shared), n - i = m → i ≤ n → St i s → s.heap.SetOf (strKind prog w) c (fun y => (ys.take i).any (· == y)) (news ys i) →
      (∀ s1, Moved (c :: wr) G s s1 → s1.heap.SetOf (strKind prog w) c (fun y => (ys.take n).any (· == y)) (news ys n) → R (.ok (.ret .none)) s1) →
      codeAny (model prog w) A (.builtin "set.update.loop" ⟨[.ref c, .ref it], []⟩) R s := by
  have ncw : c ∉ wr := fun z => nc (W.sub _ z)
  have more : ∀ b ∈ wr, b ∈ c :: wr := fun b => List.mem_cons_of_mem _
  have kept : ∀ {s s1 : Shared} {T : Str → Bool} {k : Nat}, Moved wr G s s1 → s.heap.SetOf (strKind prog w) c T k → s1.heap.SetOf (strKind prog w) c T k := by
    rintro s s1 T k mv ⟨o, es, ep, t, g, rest⟩
    exact ⟨o, es, ep, t, mv.heap c _ ncw g, rest⟩
  intro m
  induction m with
  | zero =>
    intro i s hm hi st so fin
    obtain rfl : i = n := by omega
    refine codeAny_builtin F.entry_set_update_loop ?_
    rw [Around.under_plainId F.plain_set_update_loop _]
    change wpAny _ A.in1 (pyNext (.ref it) >>= _) _ _ s
    refine wpAny_bind (W.done s _ _ st fun s1 mv => ?_)
    change wpAny _ A.in1 (ret Value.none) _ _ s1
    exact wpAny_pure (fin s1 (mv.mono more) (kept mv so))
  | succ m ih =>
    intro i s hm hi st so fin
    have lt : i < n := by omega
    refine codeAny_builtin F.entry_set_update_loop ?_
    rw [Around.under_plainId F.plain_set_update_loop _]
    change wpAny _ A.in1 (pyNext (.ref it) >>= _) _ _ s
    refine wpAny_bind (W.item i s _ _ lt st fun v s1 pv st1 mv => ?_)
    obtain ⟨t, rfl⟩ := its i v pv
    have so1 := kept mv so
    change wpAny _ A.in1 (holding [Value.str (ys.getD i Str.empty) t] (setAdd c (.str (ys.getD i Str.empty) t)) >>= _) _ _ s1
    refine wpAny_bind (wpAny_holding ?_)
    unfold setAdd
    refine wpAny_holding ?_
    refine wpAny_bind ((strKind prog w).pyHash (k := ys.getD i Str.empty) (strKind_is _ _ _ _) ?_)
    have le := news_le ys i
    refine wpAny_setAddHashed_of (knd := strKind prog w) (s := { s1 with toks := s1.toks + 1 }) (strKind_is _ _ _ _) rfl so1 (by omega) fun h2 sb so2 => ?_
    have so3 : h2.SetOf (strKind prog w) c (fun y => (ys.take (i + 1)).any (· == y)) (news ys (i + 1)) := by
      refine SetOf_congr so2 (fun y => ?_) rfl
      have hi' : i < ys.length := by omega
      have e1 : ys.getD i Str.empty = ys[i] := by simp [hi']
      show ((ys.take i).any (· == y) || decide (y = ys.getD i Str.empty)) = _
      rw [List.take_succ, List.getElem?_eq_getElem hi', e1, List.any_append]
      congr 1
      by_cases e : y = ys[i]
      · subst e; simp
      · have e' : (ys[i] == y) = false := by simpa using fun z : ys[i] = y => e z.symm
        simp [e', e]
    refine wpAny_pure ⟨plainId_quiet F.plain_set_update_loop _, ih (i + 1) _ (by omega) lt (W.frame _ s1 _ _ st1 (Nat.le_succ _) fun b hb o e => ?_) so3 fun s3 mv3 so4 => ?_⟩
    · rw [sb.2 b fun z => nc (z ▸ hb)]
      exact e
    · refine fin s3 (Moved.trans W.gtrans ((mv.mono more).then_heap (Nat.le_succ _) fun b o hb e => ?_) mv3) so4
      rw [sb.2 b fun z => hb (z ▸ List.mem_cons_self)]
      exact e
end
section
variable {prog : Program} {w : World} {A : Around} {E : Value → Shared → Prop} {s : Shared}
/-- the new set -/
abbrev emptySet (led : Bool) : Obj := { cls := .type "set", dict := none, data := .set #[] 0 (.fresh 0 0 led) }
set_option maxHeartbeats 3200000 in
theorem set_of_texts {l : Addr} {us : Array Value} {ys : List Str} {Q : Value → Shared → Prop} (hh : A.handled = none) (hl : s.heap.IsTuple l us) (hi : StrsAre us.toList ys) (few : us.size + 1 < scanBound)
    (q : ∀ (h2 : Heap) (tk : Nat), h2.SetOf (strKind prog w) s.heap.objs.size (fun y => (ys.take us.size).any (· == y)) (news ys us.size) → (∀ b o, b < s.heap.objs.size → s.heap.get? b = some o → h2.get? b = some o) → Q (.ref s.heap.objs.size) { s with heap := h2, toks := tk }) :
    wpAny (model prog w) A (call (.type "set") [.ref l]) Q E s := by
  obtain ⟨cc, tl, mro⟩ := PySem.F.called_set.mro
  have made := PySem.F.called_set.made
  have sub := PySem.F.called_set.sub
  have nt := PySem.F.called_set.notType
  have cr := PySem.F.called_set.canCreate
  have ct := PySem.F.typeCall_set_1 (.ref l)
  refine wpAny_call (codeAny_of_tree ?_)
  change wpAny _ _ (callAny (.type "set") _) _ _ _
  refine wpAny_pure ⟨Code.quiet_builtin _ (by decide +kernel), codeAny_builtin PySem.F.entry_type_call ?_⟩
  rw [Around.under_plain (weight_type_call_type "set" [.ref l] []) rfl]
  repeat (any_goals (first | assumption | wp_step))
  refine codeAny_mono (code_set_new_1 (.ref l) (E := E) (Q₁ := fun u s1 => ∃ led : Bool, u = .ref s.heap.objs.size ∧ s1 = { s with heap := s.heap.push (emptySet led) }) fun led => ⟨led, rfl, rfl⟩) fun r s1 hr => ?_
  cases r with
  | error e => exact hr
  | ok fl =>
    cases fl with
    | ret u =>
      obtain ⟨led, rfl, rfl⟩ := hr
      have new : (s.heap.push (emptySet led)).get? s.heap.objs.size = some (emptySet led) := Heap.get?_push_size _ rfl
      have ty : Shared.TypeIs { s with heap := s.heap.push (emptySet led) } (.ref s.heap.objs.size) "set" := ⟨_, new, rfl⟩
      have lk := PySem.F.called_set.init.lookup
      have bd := PySem.F.called_set.init.bind (.ref s.heap.objs.size)
      repeat (any_goals (first | assumption | wp_step))
      refine codeAny_mono (codeAny_call_builtin (R := wants (fun r s2 => r = .none ∧ ∃ h2 tk, s2 = { s with heap := h2, toks := tk } ∧ h2.SetOf (strKind prog w) s.heap.objs.size (fun y => (ys.take us.size).any (· == y)) (news ys us.size) ∧
        (∀ b o, b < s.heap.objs.size → s.heap.get? b = some o → h2.get? b = some o)) E) PySem.F.called_set.init.plain PySem.F.entry_set_init (check_set_init_1 ty ?_)) fun r2 s2 hr2 => ?_
      · obtain ⟨⟨tc, td, tdata, tsl⟩, g, hc, nl, hd⟩ := hl
        simp only at hc hd
        subst hc hd
        have ls : l < s.heap.objs.size := Heap.lt_size g
        have g1 : (s.heap.push (emptySet led)).get? l = some { cls := .type "tuple", dict := td, data := .seq us nl, slots := tsl } := Heap.get?_push_of_some _ g
        have st := PySem.F.sub_tuple_set
        have sf := PySem.F.sub_tuple_frozenset
        have nd : (Value.type "tuple" == Value.type "dict") = false := by decide
        have tup1 : (s.heap.push (emptySet led)).IsTuple l us := ⟨_, g1, rfl, nl, rfl⟩
        unfold Builtin.«set.__init__» noKeywords Builtin.Frozenset.updateFrom
        generalize e : pyIter = it
        wp_walk
        subst e
        refine wpAny_pyIter_tuple tup1 (wpAny_bind (wpAny_runValue ?_))
        have h3 : A.in1.in1.in1.handled = none := by simp [hh]
        have ne : l ≠ (s.heap.push (emptySet led)).objs.size := by
          rw [Heap.size_push]
          exact Nat.ne_of_lt (Nat.lt_succ_of_lt ls)
        have nf : s.heap.objs.size ∉ [(s.heap.push (emptySet led)).objs.size, l] := by
          rw [Heap.size_push]
          simp only [List.mem_cons, List.not_mem_nil, or_false, not_or]
          exact ⟨Nat.ne_of_lt (Nat.lt_succ_self _), Nat.ne_of_gt ls⟩
        have len : ys.length = us.size := by rw [← StrsAre.len_eq hi, Array.length_toList]
        refine fillTexts ((Walks.tuple h3 _ l ne us).toS) s.heap.objs.size nf ys len few (fun i v hv => SS.strs_at hi i v (by rw [Array.getElem?_toList]; exact hv)) (us.size - 0) 0 _ (by omega) (Nat.zero_le _) ⟨⟨_, Heap.get?_push_size _ rfl, rfl, rfl⟩, tup1.push _⟩ ?_ ?_
        · have g2 : ((s.heap.push (emptySet led)).push { cls := .type "tuple_iterator", data := .fields #[.ref l, .int 0 0] }).get? s.heap.objs.size = some (emptySet led) := Heap.get?_push_of_some _ new
          exact SetOf_congr ((setObjOf_fresh (knd := strKind prog w) led).setOf g2 (by unfold scanBound; omega)) (fun _ => rfl) rfl
        · rintro ⟨h2, g2, d2, t2, o2⟩ mv so
          obtain rfl : g2 = s.gens := mv.gens
          obtain rfl : d2 = s.drawn := mv.drawn
          obtain rfl : o2 = s.os := mv.os
          change wpAny _ _ _ _ _ _
          refine wpAny_pure ?_
          change wpAny _ _ (ret Value.none) _ _ _
          refine wpAny_pure ⟨rfl, h2, t2, rfl, so, fun b o hb e => ?_⟩
          refine mv.heap b o ?_ (Heap.get?_push_of_some _ (Heap.get?_push_of_some _ e))
          rw [Heap.size_push]
          simp only [List.mem_cons, List.not_mem_nil, or_false, not_or]
          exact ⟨Nat.ne_of_lt hb, Nat.ne_of_lt (Nat.lt_succ_of_lt hb)⟩
      · cases r2 with
        | error e => exact hr2
        | ok fl2 =>
          cases fl2 with
          | ret r =>
            obtain ⟨rfl, h2, tk, rfl, so, k⟩ := hr2
            repeat (any_goals (first | assumption | wp_step))
            exact q _ _ so k
          | _ => exact hr2.elim
    | _ => exact hr.elim
end
end Xby
namespace Xby
open PySem PySem.Spec PyProof.Rows L2
section
variable {X : Cx}
/-- len(set(t)) -/
def tLenSetT (K : PySem.W.Frag) (ta : TE) : TE := fun σ H Q => ta σ H fun x H1 => ∃ (l : Addr) (ys : List Str), x = .ref l ∧ SqT K H1 l (ys.map V.str) ∧ ys.length ≤ 60 ∧ Q (.int (news ys ys.length)) H1
theorem pe_lenSetT {a : Expr} {ta : TE} {p p2 q pos : Pos} (hc : X.calm = true) (hg : Gl X "len") (hm : X.mg "len" = none) (hg2 : Gl X "set") (hm2 : X.mg "set" = none) (ha : PE X a ta)
    (na : starEach [a] X.env = (false, eval a X.env) :: starEach [] X.env := by rfl) : PE X (.Call (.Name "len" p) [.Call (.Name "set" p2) [a] [] q] [] pos) (tLenSetT X.K ta) := by
  constructor
  intro pins s σ H Q I h
  refine Call_ (ld_blt I hg hm boot_len (callWith_builtin1 (args_cons (Call_ (ld_blt I hg2 hm2 boot_set ?_)) rfl) rfl rfl))
  refine callWith_type1 (args_cons (thn (ha.run pins s σ H _ I h) fun v s1 ⟨x, H1, I1, r1, q1⟩ => args_nil ?_) na) na rfl
  obtain ⟨l, ys, rfl, hq, few, q1⟩ := q1
  cases r1
  obtain ⟨its, r, pl, _⟩ := I1.tuple hq
  have len : its.toArray.size = ys.length := by rw [List.size_toArray, ← r.length, List.length_map]
  have fits : its.toArray.size + 1 < scanBound := by
    rw [len]
    unfold scanBound
    omega
  refine set_of_texts (I1.ok.hd hc) pl (by simpa using strsAre_of r) fits fun h2 tk so k => ?_
  rw [len] at so
  refine args_nil ?_
  obtain ⟨o, es, ep, t, ho, ex, hd, _, _, _, hf, hn⟩ := so
  have I2 : Inv X pins σ H1 { s1 with heap := h2, toks := tk } := I1.kept fun b o e => k b o (Heap.lt_size e) e
  have le := news_le ys ys.length
  refine call_len_set ho ex hd hf (by rw [hn]; omega) ⟨.int (news ys ys.length), H1, I2.tok _, ⟨_, by rw [hn]⟩, q1⟩
theorem pe_lenSetTK (K : PySem.W.Frag) (hK : X.K = K) {a : Expr} {ta : TE} {p p2 q pos : Pos} (hc : X.calm = true) (hg : Gl X "len") (hm : X.mg "len" = none) (hg2 : Gl X "set") (hm2 : X.mg "set" = none) (ha : PE X a ta)
    (na : starEach [a] X.env = (false, eval a X.env) :: starEach [] X.env := by rfl) : PE X (.Call (.Name "len" p) [.Call (.Name "set" p2) [a] [] q] [] pos) (tLenSetT K ta) := by
  subst hK
  exact pe_lenSetT hc hg hm hg2 hm2 ha na
end
end Xby

set_option Elab.async false
set_option linter.all false
set_option maxRecDepth 100000
set_option maxHeartbeats 4000000
/-! # t[::-1], t a tuple -/
namespace Xby
open PySem PySem.Spec PyProof.Rows HT
section
variable {prog : Program} {w : World} {A : Around} {E : Value → Shared → Prop} {s : Shared}
theorem back_adjust (n : Nat) : Builtin.Slice.sliceAdjust none none (-1) (n : Int) = ((n : Int) - 1, -1) := by
  unfold Builtin.Slice.sliceAdjust
  simp
theorem back_places (n : Nat) : Builtin.Slice.slicePlaces ((n : Int) - 1) (-1) (-1) = n := by
  unfold Builtin.Slice.slicePlaces
  rw [if_neg (by decide)]
  by_cases h : (n : Int) - 1 > -1
  · rw [if_pos h]
    have : ((n : Int) - 1 - -1 - 1) / (- -1) = (n : Int) - 1 := by
      rw [show (- -1 : Int) = 1 by decide, Int.ediv_one]
      omega
    rw [this]
    omega
  · rw [if_neg h]
    omega
theorem back_applied {sl : Addr} {vl vu vs : Value} {n : Nat} {Q : Int × Int × Nat → Shared → Prop} (hs : s.heap.IsSliceOf sl vl vu vs) (pl : IsPart vl none) (pu : IsPart vu none) (ps : IsPart vs (some (-1)))
    (q : Q ((n : Int) - 1, -1, n) s) : wpAny (model prog w) A (Builtin.Slice.sliceApplied (.ref sl) (pure (n : Int))) Q E s := by
  obtain ⟨o, g, c, d⟩ := hs
  unfold Builtin.Slice.sliceApplied Builtin.Slice.sliceFields
  refine wpAny_bind (wpAny_bind (wpAny_field g d (x := vl) rfl (wpAny_bind (wpAny_field g d (x := vu) rfl (wpAny_bind (wpAny_field g d (x := vs) rfl (wpAny_pure ?_)))))))
  refine wpAny_bind (slicePart_ ps ?_)
  change wpAny _ _ (if ((-1 : Int) == 0) = true then _ else _) _ _ s
  rw [if_neg (by decide)]
  refine wpAny_bind (slicePart_ pl (wpAny_bind (slicePart_ pu (wpAny_bind (wpAny_pure ?_)))))
  change wpAny _ _ (match Builtin.Slice.sliceAdjust none none (-1) (n : Int) with | (lo, hi) => pure (lo, (-1 : Int), Builtin.Slice.slicePlaces lo hi (-1))) _ _ s
  rw [back_adjust]
  change wpAny _ _ (pure ((n : Int) - 1, (-1 : Int), Builtin.Slice.slicePlaces ((n : Int) - 1) (-1) (-1))) _ _ s
  rw [back_places]
  exact wpAny_pure q
theorem fm_congr {α β : Type} {f g : α → Option β} : ∀ {l : List α}, (∀ x ∈ l, f x = g x) → l.filterMap f = l.filterMap g
  | [], _ => rfl
  | x :: xs, h => by
    rw [List.filterMap_cons, List.filterMap_cons, h x List.mem_cons_self, fm_congr fun y hy => h y (List.mem_cons_of_mem _ hy)]
theorem back_items (us : Array Value) : ((List.range us.size).filterMap fun (k : Nat) => us[((us.size : Int) - 1 + (k : Int) * (-1)).toNat]?).toArray = us.toList.reverse.toArray := by
  have e : ((List.range us.size).filterMap fun (k : Nat) => us[((us.size : Int) - 1 + (k : Int) * (-1)).toNat]?) = (List.range us.size).filterMap ((us[·]?) ∘ fun k => us.size - 1 - k) := by
    refine fm_congr fun k hk => ?_
    have := List.mem_range.mp hk
    have : ((us.size : Int) - 1 + (k : Int) * (-1)).toNat = us.size - 1 - k := by omega
    show us[((us.size : Int) - 1 + (k : Int) * (-1)).toNat]? = us[us.size - 1 - k]?
    rw [this]
  rw [e, ← List.filterMap_map, PySem.W.krv_range, List.filterMap_reverse, PySem.W.krv_all]
theorem back_tuple {t sl : Addr} {us : Array Value} {vl vu vs : Value} {Q : Value → Shared → Prop} (ht : IsTup s.heap t us) (hs : s.heap.IsSliceOf sl vl vu vs) (pl : IsPart vl none) (pu : IsPart vu none) (ps : IsPart vs (some (-1))) (few : us.size ≤ sizeLine)
    (q : Q (.ref s.heap.objs.size) { s with heap := s.heap.push { cls := .type "tuple", data := .seq us.toList.reverse.toArray } }) : wpAny (model prog w) A (getItem (.ref t) (.ref sl)) Q E s := by
  have fits : sizeOk (.seq us.toList.reverse.toArray) := by
    show us.toList.reverse.toArray.size ≤ sizeLine
    rw [List.size_toArray, List.length_reverse, Array.length_toList]
    exact few
  have ty : s.TypeIs (.ref sl) "slice" := by
    obtain ⟨o, g, c, _⟩ := hs
    exact ⟨o, g, c⟩
  unfold getItem
  try with_reducible refine wpAny_holding ?_
  first | refine wpAny_bind (wpAny_pure ?_) | skip
  refine wpAny_bind (wpAny_sequenceKey ht.typeIs (by decide) (wpAny_bind (wpAny_callSpecial?_slot (name := Str.ofString "__getitem__") ht.typeIs slot_tuple_getitem (wpAny_call_entry slot_tuple_getitem ht.typeIs entry_tuple_getitem ?_ (args_tuple_getitem _ _)))))
  change wpAny _ _ (Builtin.Tuple.tupleItemsOf (.ref t) >>= _) _ _ s
  refine wpAny_bind (tupleItemsOf_ ht (wpAny_bind (wpAny_typeOf ty ?_)))
  rw [if_pos (by decide)]
  refine wpAny_bind (back_applied hs pl pu ps ?_)
  change wpAny _ _ (if ((us.size : Int) - 1 == 0 && (-1 : Int) == 1 && us.size == us.size) = true then _ else _) _ _ s
  rw [if_neg (by rw [show ((-1 : Int) == 1) = false by decide]; simp), back_items]
  first
    | exact wpAny_bind (m := Builtin.Tuple.tupleExact _) (wpAny_newObj_type (wpAny_pure ⟨_, rfl, wpAny_pure q⟩) fits)
    | exact wpAny_bind (wpAny_bind (m := Builtin.Tuple.tupleExact _) (wpAny_newObj_type (wpAny_pure (wpAny_pure ⟨_, rfl, wpAny_pure q⟩)) fits))
    | exact wpAny_bind (wpAny_bind (m := Builtin.Tuple.tupleExact _) (wpAny_newObj_type (wpAny_pure ⟨_, rfl, wpAny_pure q⟩) fits))
end
end Xby
namespace Xby
open PySem PySem.Spec PyProof.Rows L2
section
variable {X : Cx}
def tBackT (K : PySem.W.Frag) (te : TE) : TE := fun σ H Q => te σ H fun x H1 => ∃ a xs, x = .ref a ∧ SqT K H1 a xs ∧ ∀ p, H1 p = none → Q (.ref p) (upd H1 p (.tup xs.reverse))
theorem pe_backT {e : Expr} {te : TE} {k : Nat} {p1 p2 p3 pos : Pos} (K : PySem.W.Frag) (hK : X.K = K) (he : PE X e te) : PE X (.Subscript e (.Slice none none (some (.UnaryOp .USub (.Constant (.int 1) k p1) p2)) p3) pos) (tBackT K te) := by
  subst hK
  constructor
  intro pins s σ H Q I h
  refine Subscript_ (thn (he.run pins s σ H _ I h) fun v s1 ⟨x, H1, I1, r1, a, xs, ex, hx, q⟩ => ?_)
  subst ex
  cases r1
  have neg : PO X (some (.UnaryOp .USub (.Constant (.int 1) k p1) p2)) (tPart (tUn (rU fun i => .int (-i)) (tC (.int 1)))) := po_some (pe_un un_neg pe_int)
  refine wpAny_Slice (thn (po_none.run pins s1 σ H1 (fun o G => o = none ∧ G = H1) I1 ⟨rfl, rfl⟩) fun vl s2 ⟨l, H2, I2, pl, el, e2⟩ => ?_)
  refine thn (po_none.run pins s2 σ H2 (fun o G => o = none ∧ G = H2) I2 ⟨rfl, rfl⟩) fun vu s3 ⟨u, H3, I3, pu, eu, e3⟩ => ?_
  refine thn (neg.run pins s3 σ H3 (fun o G => o = some (-1) ∧ G = H3) I3 ⟨1, rfl, -1, rfl, rfl, rfl⟩) fun vs s4 ⟨o, H4, I4, ps, eo, e4⟩ => ?_
  subst el e2 eu e3 eo e4
  have J : Inv X pins σ H4 { s4 with heap := s4.heap.push { cls := .type "slice", data := .fields #[vl, vu, vs] } } := I4.kept (t' := s4.toks) fun b ob z => Heap.get?_push_of_some _ z
  obtain ⟨its, r, ht, hz⟩ := J.tuple hx
  have len := r.length
  change wpAny (model X.prog X.w) X.A (subscriptTail e (.Slice none none (some (.UnaryOp .USub (.Constant (.int 1) k p1) p2)) p3) (.ref a) (.ref s4.heap.objs.size)) (EP X pins σ Q) X.xe { s4 with heap := s4.heap.push { cls := .type "slice", data := .fields #[vl, vu, vs] } }
  refine tail_any (ops := [.ref a, .ref s4.heap.objs.size]) ht.typeIs slot_tuple_getitem.lookup ?_ (by with_unfolding_all rfl)
  refine back_tuple ht (Heap.IsSliceOf.new _ vl vu vs) pl pu ps (by rw [List.size_toArray]; omega) ?_
  refine ⟨.ref _, _, J.laid (t' := s4.toks) (o := .tup xs.reverse) (fun b ob z => Heap.get?_push_of_some _ z) (Nat.le_refl _) ?_, rfl, q _ (J.hok.fresh (Nat.le_refl _))⟩
  exact ⟨by rw [List.length_reverse]; exact hz, _, r.reverse, IsTup.new _ _⟩
theorem sl_tupAK (K : PySem.W.Frag) (hK : X.K = K) : SlR X (rSlA K) := by
  subst hK
  exact sl_tupA
theorem op_catAK (K : PySem.W.Frag) (hK : X.K = K) : OpR X (binaryOp .Add) (rCatA K) := by
  subst hK
  exact op_catA
theorem call_tupleK (K : PySem.W.Frag) (hK : X.K = K) : CallR X (.type "tuple") (fun xs H Q => ∃ p ys, xs = [.ref p] ∧ ((SqL K H p ys ∧ ∀ l, H l = none → Q (.ref l) (upd H l (.tup ys))) ∨ (SqT K H p ys ∧ Q (.ref p) H))) := by
  subst hK
  exact call_tuple_of
end
end Xby

set_option Elab.async false
set_option linter.all false
set_option maxRecDepth 100000
set_option maxHeartbeats 4000000
/-! # words, cells, columns, rows, as data -/
namespace Xby
open PySem L2
def lowC (c : Nat) : Bool := decide (97 ≤ c ∧ c ≤ 122)
def wordS (x : Str) : Bool := decide (1 ≤ x.length ∧ x.length ≤ 8) && x.cps.toList.all lowC
def wordD : PyData → Bool
  | .str x => wordS x
  | _ => false
def intD (lo hi : Int) : PyData → Bool
  | .int i => decide (lo ≤ i ∧ i ≤ hi)
  | _ => false
def nonD : PyData → Bool
  | .none => true
  | _ => false
def cellD (d : PyData) : Bool := nonD d || intD (-999) 999 d || wordD d
def strD : PyData → Str
  | .str x => x
  | _ => Str.empty
def colsD : PyData → Bool
  | .tuple ds => decide (1 ≤ ds.length ∧ ds.length ≤ 3) && ds.all wordD && decide (ds.map strD).Nodup
  | _ => false
def rowD (n : Nat) : PyData → Bool
  | .tuple ds => decide (ds.length = n) && ds.all cellD
  | _ => false
/-- a text among them is no great one -/
def Sh (d : PyData) : Prop := ∀ x, d = .str x → x.length ≤ 1000000
def Sh1 (d : PyData) : Prop := ∀ ds, d = .tuple ds → ∀ e ∈ ds, Sh e
def Sh2 (d : PyData) : Prop := ∀ ds, d = .tuple ds → ∀ e ∈ ds, Sh1 e
theorem le_a (c : Nat) : (!decide ((⟨#[c]⟩ : Str).cps.toList < ("a" : Str).cps.toList)) = decide (97 ≤ c) := by
  have : ("a" : Str).cps.toList = [97] := by decide +kernel
  rw [this]
  show (!decide ([c] < [97])) = _
  simp only [List.cons_lt_cons_iff, List.not_lt_nil, and_false, or_false]
  by_cases h : c < 97
  · simp [h, Nat.not_le.mpr h]
  · simp [h, Nat.not_lt.mp h]
theorem le_z (c : Nat) : (!decide (("z" : Str).cps.toList < (⟨#[c]⟩ : Str).cps.toList)) = decide (c ≤ 122) := by
  have : ("z" : Str).cps.toList = [122] := by decide +kernel
  rw [this]
  show (!decide ([122] < [c])) = _
  simp only [List.cons_lt_cons_iff, List.not_lt_nil, and_false, or_false]
  by_cases h : 122 < c
  · simp [h, Nat.not_le.mpr h]
  · simp [h, Nat.not_lt.mp h]
section
variable {K : PySem.W.Frag} {H : Hp} {v : V} {d : PyData}
theorem Dq.isStr (h : Dq K H v d) : (∃ x, v = .str x ∧ d = .str x) ∨ ∃ T : String, TyX K H v (.type T) ∧ kitB T "str" = some false ∧ wordD d = false := by
  cases h with
  | non => exact .inr ⟨_, .base .non, by decide +kernel, rfl⟩
  | bl b => exact .inr ⟨_, .base (.bl b), by decide +kernel, rfl⟩
  | int i => exact .inr ⟨_, .base (.int i), by decide +kernel, rfl⟩
  | str x => exact .inl ⟨x, rfl, rfl⟩
  | lst hs _ _ => exact .inr ⟨_, .base (.lst hs), by decide +kernel, rfl⟩
  | tup hs _ =>
    refine .inr ⟨"tuple", ?_, by decide +kernel, rfl⟩
    rcases hs with (hs | ⟨o, hs⟩) | ⟨o, _, _, hk, hc, _⟩
    · exact .base (.tup hs)
    · exact .fTuple hs
    · exact .kTuple hk hc
  | dct hs _ => exact .inr ⟨_, .base (.dK hs), by decide +kernel, rfl⟩
theorem tyTup {a : Addr} {xs : List V} (hs : SqT K H a xs) : TyX K H (.ref a) (.type "tuple") := by
  rcases hs with (hs | ⟨o, hs⟩) | ⟨o, _, _, hk, hc, _⟩
  · exact .base (.tup hs)
  · exact .fTuple hs
  · exact .kTuple hk hc
theorem Dq.isTup (h : Dq K H v d) : (∃ a xs ds, v = .ref a ∧ d = .tuple ds ∧ SqT K H a xs ∧ DqAll K H xs ds) ∨ ∃ T : String, TyX K H v (.type T) ∧ kitB T "tuple" = some false ∧ ∀ ds, d ≠ .tuple ds := by
  cases h with
  | non => exact .inr ⟨_, .base .non, by decide +kernel, by simp⟩
  | bl b => exact .inr ⟨_, .base (.bl b), by decide +kernel, by simp⟩
  | int i => exact .inr ⟨_, .base (.int i), by decide +kernel, by simp⟩
  | str x => exact .inr ⟨_, .base (.str x), by decide +kernel, by simp⟩
  | lst hs _ _ => exact .inr ⟨_, .base (.lst hs), by decide +kernel, by simp⟩
  | tup hs ha => exact .inl ⟨_, _, _, rfl, rfl, hs, ha⟩
  | dct hs _ => exact .inr ⟨_, .base (.dK hs), by decide +kernel, by simp⟩
theorem Dq.ofTup {ds : List PyData} (h : Dq K H v (.tuple ds)) : ∃ a xs, v = .ref a ∧ SqT K H a xs ∧ DqAll K H xs ds := by
  cases h with
  | tup hs ha => exact ⟨_, _, rfl, hs, ha⟩
theorem Dq.okV (h : Dq K H v d) (lo hi : Int) : okV lo hi v = intD lo hi d := by
  cases h <;> rfl
theorem DqAll.len {vs : List V} {ds : List PyData} (h : DqAll K H vs ds) : vs.length = ds.length := by
  induction vs generalizing ds with
  | nil => cases h; rfl
  | cons v vs ih =>
    cases h with
    | cons _ t => simp [ih t]
theorem DqAll.get {vs : List V} {ds : List PyData} (h : DqAll K H vs ds) : ∀ {i : Nat} {v : V}, vs[i]? = some v → ∃ d, ds[i]? = some d ∧ Dq K H v d := by
  induction vs generalizing ds with
  | nil =>
    intro i v e
    simp at e
  | cons u vs ih =>
    intro i v e
    cases h with
    | cons a t =>
      cases i with
      | zero =>
        obtain rfl : u = v := by simpa using e
        exact ⟨_, rfl, a⟩
      | succ i => exact ih t (by simpa using e)
theorem kit_ss : kitB "str" "str" = some true := by decide +kernel
theorem kit_tt : kitB "tuple" "tuple" = some true := by decide +kernel
theorem DqAll.words {vs : List V} {ds : List PyData} (h : DqAll K H vs ds) (w : ds.all wordD = true) : vs = (ds.map strD).map V.str := by
  induction vs generalizing ds with
  | nil => cases h; rfl
  | cons v vs ih =>
    cases h with
    | cons a t =>
      rw [List.all_cons, Bool.and_eq_true] at w
      rw [List.map_cons, List.map_cons, ← ih t w.2]
      congr 1
      cases a with
      | str x => rfl
      | _ => exact absurd w.1 (by simp [wordD])
end
end Xby

set_option Elab.async false
set_option linter.all false
set_option maxRecDepth 100000
set_option maxHeartbeats 4000000
/-! # parts of tuples, in one word -/
namespace Xby
open PySem L2
section
variable {K : PySem.W.Frag} {H : Hp} {a b : Addr} {xs ys : List V} {Q : VK}
theorem cut_to {i : Int} (h0 : 0 ≤ i) : cutV xs none (some i) = xs.take i.toNat := by
  obtain ⟨k, rfl⟩ := Int.eq_ofNat_of_zero_le h0
  unfold cutV
  rw [HT.sIx_none, HT.sIx_nat, List.drop_zero, Int.toNat_natCast, Nat.sub_zero]
  by_cases h : k ≤ xs.length
  · rw [Nat.min_eq_left h]
  · rw [Nat.min_eq_right (by omega), List.take_of_length_le (Nat.le_refl _), List.take_of_length_le (by omega)]
theorem cut_from {i : Int} (h0 : 0 ≤ i) : cutV xs (some i) none = xs.drop i.toNat := by
  obtain ⟨k, rfl⟩ := Int.eq_ofNat_of_zero_le h0
  unfold cutV
  rw [HT.sIx_none, HT.sIx_nat, Int.toNat_natCast]
  by_cases h : k ≤ xs.length
  · rw [Nat.min_eq_left h, List.take_of_length_le (by rw [List.length_drop]; omega)]
  · rw [Nat.min_eq_right (by omega), List.drop_of_length_le (Nat.le_refl _), List.drop_of_length_le (by omega)]
    simp
theorem cut_all {lo hi : Option Int} (h : HT.sIx xs.length 0 lo = 0 ∧ HT.sIx xs.length xs.length hi = xs.length) : cutV xs lo hi = xs := by
  unfold cutV
  rw [h.1, h.2]
  simp
/-- a part of a tuple: at some address -/
theorem part_of {lo hi : Option Int} (ha : H a = some (.tup xs)) (k : ∀ c H', Same H H' → H' c = some (.tup (cutV xs lo hi)) → Q (.ref c) H') : rSlA K (.ref a) lo hi H Q := by
  refine ⟨a, xs, rfl, SqT.of ha, fun h => ?_, fun _ p np => k p _ (Same.one np) upd_same⟩
  refine k a H (Same.refl H) ?_
  rw [cut_all h]
  exact ha
/-- a + b, tuples -/
theorem cat_of (ha : H a = some (.tup xs)) (hb : H b = some (.tup ys)) (few : xs.length + ys.length ≤ 1000) (k : ∀ c H', Same H H' → H' c = some (.tup (xs ++ ys)) → Q (.ref c) H') : rCatA K (.ref a) (.ref b) H Q := by
  refine ⟨a, b, xs, ys, rfl, rfl, SqT.of ha, SqT.of hb, ?_, fun h => ?_, fun _ h => ?_, fun _ _ p np => k p _ (Same.one np) upd_same⟩
  · have : sizeLine = 16777216 := sizeLine_eq
    omega
  · subst h
    exact k b H (Same.refl H) hb
  · subst h
    refine k a H (Same.refl H) ?_
    rw [List.append_nil]
    exact ha
end
/-! ## values without address, as data -/
def datC : V → PyData
  | .non => .none
  | .bl b => .bool b
  | .int i => .int i
  | .str x => .str x
  | _ => .none
def flatC : V → Bool
  | .non => true
  | .bl _ => true
  | .int _ => true
  | .str _ => true
  | _ => false
section
variable {K : PySem.W.Frag} {H : Hp}
theorem Dp.flat {v : V} (h : flatC v = true) : Dp K H v (datC v) := by
  cases v with
  | non => exact .non
  | bl b => exact .bl b
  | int i => exact .int i
  | str x => exact .str x
  | _ => cases h
theorem DpAll.flat {vs : List V} (h : ∀ v ∈ vs, flatC v = true) : DpAll K H vs (vs.map datC) := by
  induction vs with
  | nil => exact .nil
  | cons v vs ih => exact .cons (Dp.flat (h v List.mem_cons_self)) (ih fun u hu => h u (List.mem_cons_of_mem _ hu))
theorem Dq.flat {v : V} (h : flatC v = true) : Dq K H v (datC v) := by
  cases v with
  | non => exact .non
  | bl b => exact .bl b
  | int i => exact .int i
  | str x => exact .str x
  | _ => cases h
theorem DqAll.flat {vs : List V} (h : ∀ v ∈ vs, flatC v = true) : DqAll K H vs (vs.map datC) := by
  induction vs with
  | nil => exact .nil
  | cons v vs ih => exact .cons (Dq.flat (h v List.mem_cons_self)) (ih fun u hu => h u (List.mem_cons_of_mem _ hu))
end
/-! ## shapes -/
def Shp (k : Nat) (d : PyData) : Prop := d.canLay0 = true ∧ d.depth ≤ k
instance (k : Nat) (d : PyData) : Decidable (Shp k d) := inferInstanceAs (Decidable (_ ∧ _))
theorem Shp.shaped {k : Nat} {d : PyData} (h : Shp k d) (hk : k ≤ 64) : SeqAt.shaped d = true := by
  unfold SeqAt.shaped
  rw [h.1, Bool.true_and]
  exact decide_eq_true (Nat.le_trans h.2 hk)
theorem Shp.all {k : Nat} : ∀ {ds : List PyData}, (∀ d ∈ ds, Shp k d) → PyData.canLayAll0 ds = true ∧ PyData.depthAll ds ≤ k
  | [], _ => ⟨rfl, Nat.zero_le _⟩
  | d :: ds, h => by
    obtain ⟨a, b⟩ := h d List.mem_cons_self
    obtain ⟨c, e⟩ := Shp.all (ds := ds) fun x hx => h x (List.mem_cons_of_mem _ hx)
    refine ⟨?_, ?_⟩
    · simp only [PyData.canLayAll0, a, c, Bool.and_self]
    · simp only [PyData.depthAll]
      exact Nat.max_le.mpr ⟨b, e⟩
theorem Shp.tup {k : Nat} {ds : List PyData} (h : ∀ d ∈ ds, Shp k d) : Shp (k + 1) (.tuple ds) := by
  obtain ⟨a, b⟩ := Shp.all h
  refine ⟨by simpa only [PyData.canLay0] using a, ?_⟩
  simp only [PyData.depth]
  omega
/-! ## the text shown tells data apart; == of it is equality -/
theorem cps_app (a b : Str) : (a ++ b).cps = a.cps ++ b.cps := rfl
def FrP (d e : PyData) : Prop := ∀ r q : List Nat, d.shown.cps.toList ++ r = e.shown.cps.toList ++ q → d = e ∧ r = q
inductive FrPs : List PyData → List PyData → Prop
  | nil : FrPs [] []
  | cons {d e : PyData} {ds es : List PyData} : FrP d e → FrPs ds es → FrPs (d :: ds) (e :: es)
theorem join_cons2 (x y : Str) (r : List Str) : (Str.join ", " (x :: y :: r)).cps.toList = x.cps.toList ++ ((", " : Str).cps.toList ++ (Str.join ", " (y :: r)).cps.toList) := by
  show ((x ++ ", ") ++ Str.join ", " (y :: r) : Str).cps.toList = _
  rw [cps_app, cps_app, Array.toList_append, Array.toList_append, List.append_assoc]
theorem FrPs.join {ds es : List PyData} (h : FrPs ds es) : ∀ r q : List Nat, (Str.join ", " (PyData.shownAll ds)).cps.toList ++ r = (Str.join ", " (PyData.shownAll es)).cps.toList ++ q → ds = es ∧ r = q := by
  induction h with
  | nil => exact fun r q z => ⟨rfl, z⟩
  | @cons d e ds es h1 h2 ih =>
    cases h2 with
    | nil =>
      intro r q z
      obtain ⟨a, b⟩ := h1 r q z
      exact ⟨by rw [a], b⟩
    | @cons d2 e2 ds2 es2 h3 h4 =>
      intro r q z
      have e1 : (Str.join ", " (PyData.shownAll (d :: d2 :: ds2))).cps.toList = d.shown.cps.toList ++ ((", " : Str).cps.toList ++ (Str.join ", " (PyData.shownAll (d2 :: ds2))).cps.toList) := join_cons2 _ _ _
      have e2 : (Str.join ", " (PyData.shownAll (e :: e2 :: es2))).cps.toList = e.shown.cps.toList ++ ((", " : Str).cps.toList ++ (Str.join ", " (PyData.shownAll (e2 :: es2))).cps.toList) := join_cons2 _ _ _
      rw [e1, e2, List.append_assoc, List.append_assoc, List.append_assoc, List.append_assoc] at z
      obtain ⟨a, b⟩ := h1 _ _ z
      obtain ⟨a2, b2⟩ := ih _ _ (List.append_cancel_left b)
      exact ⟨by rw [a, a2], b2⟩
theorem FrPs.len {ds es : List PyData} (h : FrPs ds es) : (PyData.shownAll ds).length = (PyData.shownAll es).length := by
  induction h with
  | nil => rfl
  | cons _ _ ih => exact congrArg (· + 1) ih
theorem FrPs.tup {ds es : List PyData} (h : FrPs ds es) : FrP (.tuple ds) (.tuple es) := by
  intro r q z
  have t : ∀ ds : List PyData, (PyData.shown (.tuple ds)).cps.toList = ("(" : Str).cps.toList ++ ((Str.join ", " (PyData.shownAll ds)).cps.toList ++ (if (PyData.shownAll ds).length == 1 then ",)" else ")" : Str).cps.toList) := fun ds => by
    simp only [PyData.shown]
    unfold tupleText
    rw [cps_app, cps_app, Array.toList_append, Array.toList_append, List.append_assoc]
    split <;> rfl
  rw [t, t, h.len, List.append_assoc, List.append_assoc, List.append_assoc, List.append_assoc] at z
  obtain ⟨a, b⟩ := h.join _ _ (List.append_cancel_left z)
  exact ⟨by rw [a], List.append_cancel_left b⟩
theorem FrP.shown {d e : PyData} (h : FrP d e) : d.shown = e.shown ↔ d = e := by
  refine ⟨fun z => ?_, fun z => by rw [z]⟩
  exact (h [] [] (by rw [z])).1
theorem FrP.of_not {d e : PyData} (h1 : d.shown.cps.toList.isPrefixOf e.shown.cps.toList = false) (h2 : e.shown.cps.toList.isPrefixOf d.shown.cps.toList = false) : FrP d e := by
  intro r q z
  rcases List.append_eq_append_iff.mp z with ⟨a, ha, _⟩ | ⟨a, ha, _⟩
  · rw [ha, List.isPrefixOf_iff_prefix.mpr (List.prefix_append _ _)] at h1
    cases h1
  · rw [ha, List.isPrefixOf_iff_prefix.mpr (List.prefix_append _ _)] at h2
    cases h2
theorem FrP.refl (d : PyData) : FrP d d := fun _ _ z => ⟨rfl, List.append_cancel_left z⟩
def EqP (d e : PyData) : Prop := PyData.eqv d e = true ↔ d = e
inductive EqPs : List PyData → List PyData → Prop
  | nil : EqPs [] []
  | cons {d e : PyData} {ds es : List PyData} : EqP d e → EqPs ds es → EqPs (d :: ds) (e :: es)
theorem EqPs.all {ds es : List PyData} (h : EqPs ds es) : PyData.eqvAll ds es = true ↔ ds = es := by
  induction h with
  | nil => simp [PyData.eqvAll]
  | cons a _ ih =>
    simp only [PyData.eqvAll, Bool.and_eq_true, List.cons.injEq]
    rw [ih]
    exact and_congr_left' a
theorem EqPs.tup {ds es : List PyData} (h : EqPs ds es) : EqP (.tuple ds) (.tuple es) := by
  unfold EqP
  simp only [PyData.eqv, PyData.tuple.injEq]
  exact h.all
def Plain : PyData → Bool
  | .none => true
  | .int _ => true
  | .str _ => true
  | _ => false
theorem EqP.plain {d e : PyData} (hd : Plain d = true) (he : Plain e = true) : EqP d e := by
  unfold EqP
  cases d <;> cases e <;> first | cases hd; done | cases he; done | simp [PyData.eqv]
end Xby
namespace Xby
theorem FrPs.map {α : Type} {f : α → PySem.PyData} : ∀ {l k : List α}, l.length = k.length → (∀ x ∈ l, ∀ y ∈ k, FrP (f x) (f y)) → FrPs (l.map f) (k.map f)
  | [], [], _, _ => .nil
  | x :: l, y :: k, e, h => .cons (h x List.mem_cons_self y List.mem_cons_self) (FrPs.map (by simpa using e) fun a ha b hb => h a (List.mem_cons_of_mem _ ha) b (List.mem_cons_of_mem _ hb))
theorem EqPs.map {α : Type} {f : α → PySem.PyData} : ∀ {l k : List α}, l.length = k.length → (∀ x ∈ l, ∀ y ∈ k, EqP (f x) (f y)) → EqPs (l.map f) (k.map f)
  | [], [], _, _ => .nil
  | x :: l, y :: k, e, h => .cons (h x List.mem_cons_self y List.mem_cons_self) (EqPs.map (by simpa using e) fun a ha b hb => h a (List.mem_cons_of_mem _ ha) b (List.mem_cons_of_mem _ hb))
end Xby

set_option Elab.async false
set_option linter.all false
set_option maxRecDepth 100000
set_option maxHeartbeats 4000000
/-! # try: .. with several clauses, each 'except X as n' of one name n -/
namespace Xby
open PySem PySem.Spec PyProof.Rows L2
abbrev Suite := Addr → Value → Option Addr → TS
/-- behind a suite the name goes -/
def goes (i : Nat) (D : Ends) : Ends := { nx := fun σ H => D.nx (σ.set i none) H, rt := D.rt, bk := fun σ H => D.bk (σ.set i none) H, ct := fun σ H => D.ct (σ.set i none) H }
def wEach (K : PySem.W.Frag) (i : Nat) (out : WX) (D : Ends) : List (Value × Suite) → WX
  | [] => out
  | (c, ts) :: r => fun cls d σ H => ∃ b, PySem.W.exmOne K cls c = some b ∧ (b = true → ∀ a, H a = none → ts a cls d (goes i D) (σ.set i (some (.ref a))) H) ∧ (b = false → wEach K i out D r cls d σ H)
inductive Clauses (X : Cx) (n : Str) : List ExceptHandler → List (Value × Suite) → Prop
  | nil : Clauses X n [] []
  | cons {x : Str} {c : Value} {ts : Suite} {st : Stmt} {suite : List Stmt} {p q : Pos} {hds : List ExceptHandler} {l : List (Value × Suite)} (hc : Names X x c)
      (hsu : ∀ (a : Addr) (oe : Obj) (cls : Value) (d : Option Addr) (pn : List (Addr × Obj)), Zc cls d oe → (∃ vs, oe.data = .fields vs) → PSs (X.suite a ((a, oe) :: pn)) (st :: suite) (ts a cls d)) (r : Clauses X n hds l) :
      Clauses X n (.ExceptHandler (some (.Name x p)) (some n) (st :: suite) q :: hds) ((c, ts) :: l)
section
variable {X : Cx} {n : Str} {i : Nat} {body : List Stmt} {h₀ : ExceptHandler} {hds : List ExceptHandler} {l : List (Value × Suite)} {pos : Pos} {tb : WX → TS} {out : WX}
/-- what one asks of the clauses where an exception e stands -/
def Handled (X : Cx) (pins : List (Addr × Obj)) (D : Ends) (hds : List ExceptHandler) (e : Value) (s : Shared) : Prop :=
  wpAny (model X.prog X.w) X.A (handleBy e X.env hds) (SP X pins D) X.xe s
theorem ps_try_each (stk : X.stack = X.env :: X.outer) (frm : X.env.frame = some X.env.locals) (nd : X.N.Nodup) (at_i : X.N[i]? = some n) (loc : X.env.kindOf n = some .local) (tk : Takes X out)
    (bodyOk : ∀ (W : WX) (pn : List (Addr × Obj)) (xe : Value → Shared → Prop), Takes (X.tr pn xe) W → PassesOwn (model X.prog X.w) X.A X.env xe → PSs (X.tr pn xe) body (tb W))
    (cl : Clauses X n (h₀ :: hds) l) : PS X (.Try body (h₀ :: hds) [] [] pos) (fun D σ H => tb (wEach X.K i out D l) D σ H) := by
  constructor
  intro pins s σ H D I h
  have ok := I.ok
  have frs' : X.A.frames = some (X.env :: X.outer) := by rw [ok.frames, stk]
  have vis : Loc X.env.scope n := .inl loc
  refine wpAny_Try_except ?_
  have B := bodyOk (wEach X.K i out D l) (X.pn ++ pins) (fun e s1 => wpAny (model X.prog X.w) X.A (noteFrame e X.env) (fun _ s2 => wpAny (model X.prog X.w) X.A (setFlight e none) (fun _ s3 => Handled X pins D (h₀ :: hds) e s3) X.xe s2) X.xe s1)
    (fun u s1 xx => ?_) PassesOwn.looking
  · refine wpAny_mono (B.run [] s σ H D (I.toTry _) h) (fun f s1 z => ?_) fun _ _ z => z
    cases f with
    | next =>
      obtain ⟨σ1, H1, J, q⟩ := z
      exact wpAny_execs_nil ⟨σ1, H1, J.ofTry ok, q⟩
    | brk =>
      obtain ⟨σ1, H1, J, q⟩ := z
      exact ⟨σ1, H1, J.ofTry ok, q⟩
    | cont =>
      obtain ⟨σ1, H1, J, q⟩ := z
      exact ⟨σ1, H1, J.ofTry ok, q⟩
    | ret u =>
      obtain ⟨v, σ1, H1, J, r, q⟩ := z
      exact ⟨v, σ1, H1, J.ofTry ok, r, q⟩
  obtain ⟨a, F, sI, ps, σ1, H1, cls, d, rfl, J0, nb, up, sky, na, os, ag, wish⟩ := xx
  have J : Inv X pins σ1 H1 sI := J0.ofTry ok
  have sky2 : Sky F (X.env :: X.outer) a (Zc cls d) X.env.locals s1.heap := by
    rw [← stk]
    exact sky
  change wpAny (model X.prog X.w) X.A (noteFrame (.ref a) X.env) _ _ _
  refine Sky.land Zc.steady frs' frm sky2 fun h3 fl3 up3 => ?_
  have J3 : Inv X pins σ1 H1 { s1 with heap := h3 } := J.landed nb fl3.1 (up.trans up3) os ag
  obtain ⟨oe3, vs3, g3, z3, d3⟩ := fl3.there
  have nfr : a ∉ frs (X.env :: X.outer) := fun mem => by
    obtain ⟨_, o2, g2, isnt⟩ := fl3.2.2.1.mem mem
    rw [g3] at g2
    cases g2
    exact isnt _ d3
  have nL : a ≠ X.env.locals := fun z => nfr (List.mem_filterMap.mpr ⟨X.env, List.mem_cons_self, by rw [frm, z]⟩)
  have nF : a ∉ X.fs := fun mem => by
    obtain ⟨e, he, q⟩ := List.mem_filterMap.mp mem
    exact nfr (List.mem_filterMap.mpr ⟨e, List.mem_cons_of_mem _ he, q⟩)
  have S3 := J3.suite g3 d3 na nL nF
  have all : ∀ {hs : List ExceptHandler} {k : List (Value × Suite)}, Clauses X n hs k → wEach X.K i out D k cls d σ1 H1 → Handled X pins D hs (.ref a) { s1 with heap := h3 } := by
    intro hs k ck
    induction ck with
    | nil =>
      intro w
      refine wpAny_handleBy_nil ?_
      obtain ⟨_, _, _, oe, vs, T, oT, ts', he, hz, hd, h1, hr⟩ := id fl3
      unfold PySem.passOn
      refine wpAny_bind (wpAny_field he hd h1 ?_)
      rw [if_neg (by simp : ¬ ((Value.ref T == Value.none) = true))]
      have on : wpAny (model X.prog X.w) X.A (setFlight (.ref a) X.env.frame) (fun _ s4 => wpAny (model X.prog X.w) X.A (throw (.ref a) : Sem Flow) (SP X pins D) X.xe s4) X.xe { s1 with heap := h3 } := by
        rw [frm]
        refine HandSPX.setFlight_upZ fl3 fun h4 fl4 up4 => wpAny_throw (tk _ _ ⟨a, F, sI, pins, σ1, H1, cls, d, rfl, J, nb, (up.trans up3).trans up4, .inr (.inr ?_), na, os, ag, w⟩)
        rw [stk]
        exact fl4
      first
        | exact wpAny_bind (wpAny_pure (wpAny_bind on))
        | exact wpAny_bind on
    | @cons x c ts st suite p q hs2 k2 named suiteOk rest ih =>
      rintro ⟨b, exm, yes, no⟩
      refine wpAny_handleBy_cons (codeAny_handlers_test ?_) (by intro z; cases z)
      have looks : PySem.W.Looks (model X.prog X.w) h3 (typeOf (.ref a)) cls := fun A Q E s k z => wpAny_typeOf_ref (k _ _ g3) (by rw [z3.1]; exact z)
      have isOne := PySem.W.exm_one (M := model X.prog X.w) J3.kIn looks exm
      have name : ∀ {Q : Value → Shared → Prop} {E : Value → Shared → Prop}, Q c { s1 with heap := h3 } → wpAny (model X.prog X.w) (X.A.mark (some (.ref a))) (eval (.Name x p) X.env) Q E { s1 with heap := h3 } := fun {Q E} z => by
        obtain ⟨gl, db, m | ⟨m, bv, nn⟩⟩ := named
        · exact ld_glob (X := X.suite a ((a, oe3) :: (X.pn ++ pins))) S3 gl m z db
        · exact ld_blt (X := X.suite a ((a, oe3) :: (X.pn ++ pins))) S3 gl m bv z nn db
      refine name (isOne.here ?_)
      cases b with
      | false =>
        change wpAny _ X.A (handleBy (.ref a) X.env hs2) _ _ _
        exact ih (no rfl)
      | true =>
        refine codeAny_handlers_suite_as (HandSPX.lands_againZ fl3 fun h4 fl4 up4 => ?_)
        have J4 : Inv X pins σ1 H1 { s1 with heap := h4 } := J.landed nb fl4.1 ((up.trans up3).trans up4) os ag
        obtain ⟨oe4, vs4, g4, z4, d4⟩ := fl4.there
        refine store_ok (X := X.suite a ((a, oe4) :: (X.pn ++ pins))) (v := .ref a) (J4.suite g4 d4 na nL nF) nd at_i vis rfl (fun s5 S5 => ?_) (.inr loc)
        refine wpAny_mono ((suiteOk a oe4 cls d (X.pn ++ pins) z4 ⟨_, d4⟩).run [] s5 _ H1 _ S5 (yes rfl a na)) (fun f s6 z => ?_) fun _ _ z => z.elim
        have last : ∀ {σ6 : L2.St} {H6 : Hp} {Q : Shared → Prop}, Inv (X.suite a ((a, oe4) :: (X.pn ++ pins))) [] σ6 H6 s6 → (∀ s7, Inv X pins (σ6.set i none) H6 s7 → Q s7) →
            wpAny (model X.prog X.w) X.A (do bindName X.env n .none; unbindBehindTheSuite X.env n q) (fun _ s7 => Q s7) X.xe s6 := fun {σ6 H6 Q} S6 hq => gone_ok (S6.unsuite ok) nd at_i loc hq
        cases f with
        | next =>
          obtain ⟨σ6, H6, S6, z6⟩ := z
          exact last S6 fun s7 J7 => ⟨_, _, J7, z6⟩
        | brk =>
          obtain ⟨σ6, H6, S6, z6⟩ := z
          exact last S6 fun s7 J7 => ⟨_, _, J7, z6⟩
        | cont =>
          obtain ⟨σ6, H6, S6, z6⟩ := z
          exact last S6 fun s7 J7 => ⟨_, _, J7, z6⟩
        | ret u =>
          obtain ⟨v6, σ6, H6, S6, r6, z6⟩ := z
          exact last S6 fun s7 J7 => ⟨_, _, _, J7, r6, z6⟩
  exact all cl wish
end
end Xby

set_option Elab.async false
set_option linter.all false
set_option maxRecDepth 100000
set_option maxHeartbeats 4000000
/-! # for laws of any value: making under a try, list(..), the heap without the drawer, sizes -/
namespace Xby
open PySem PySem.Spec PyProof.Rows L2
section
variable {X : Cx} {CX : CXT} {k : Nat} {f C : Addr} {fd : FuncData} {ps : List Str} {sp : Sp} {x : Str} {p pos : Pos} {e : Expr} {es : List Expr} {t : TA}
theorem run_makeS {pins : List (Addr × Obj)} {σ : L2.St} {H : Hp} {s : Shared} {Q : VK} {E : XK} {us : List Value} {vs : List V} (M : Mk X.K C f) (F : FnOk X.prog X.w X.K X.mg X.base CX k f fd ps sp) (room : Room (k + 1) X.A) (bd : Binds X.K fd ps [])
    (out : PassesAt CX X σ E) (I : Inv X pins σ H s) (r : Vals vs us)
    (q : ∀ y dy, H y = none → H dy = none → dy ≠ y → sp (.ref y :: vs) (upd (upd H dy (.own y)) y (.ins C dy [])) (fun v H2 => v = .non ∧ Q (.ref y) H2) E) :
    wpAny (model X.prog X.w) X.A (call (.ref C) us) (EP X pins σ Q) X.xe s := by
  obtain ⟨y, ey⟩ : ∃ y, y = s.heap.objs.size + 1 := ⟨_, rfl⟩
  have q0 := q (s.heap.objs.size + 1) s.heap.objs.size (I.hok.fresh (Nat.le_succ _)) (I.hok.fresh (Nat.le_refl _)) (Nat.ne_of_lt (Nat.lt_succ_self _))
  have J := Inv.made (C := C) I
  have rv : Vals (V.ref (s.heap.objs.size + 1) :: vs) (Value.ref (s.heap.objs.size + 1) :: us) := .cons rfl r
  have len : (Value.ref (s.heap.objs.size + 1) :: us).length = ps.length := rv.length.symm.trans (F.len _ _ _ _ q0)
  have bn := bd _ (Value.ref (s.heap.objs.size + 1) :: us) J.kIn (by rw [List.append_nil]; exact len)
  rw [List.append_nil] at bn
  have go := F.run _ X.stack _ _ ⟨Value.ref (s.heap.objs.size + 1) :: us, []⟩ (Value.ref (s.heap.objs.size + 1) :: us) _ _ E (room.make C us []) (J.env0.make C us []) bn rv q0
  refine wpAny_call (make_map (f := f) I.kIn M.makes M.init (beq_iff_eq.mp M.fn) (codeAny_mono go fun r s1 z => ?_))
  cases r with
  | error e => exact out pins _ _ e s1 J z
  | ok fl =>
    cases fl with
    | ret u =>
      obtain ⟨v, H1, J1, rv1, rfl, q1⟩ := J.after z
      exact ⟨rv1, V.ref (s.heap.objs.size + 1), H1, J1, rfl, q1⟩
    | next => exact z.elim
    | brk => exact z.elim
    | cont => exact z.elim
def tMakeS (C : Addr) (sp : Sp) (E : L2.St → XK) (t : TA) : TE := fun σ H Q => t σ H fun vs H1 => ∀ y dy, H1 y = none → H1 dy = none → dy ≠ y → sp (.ref y :: vs) (upd (upd H1 dy (.own y)) y (.ins C dy [])) (fun v H2 => v = .non ∧ Q (.ref y) H2) (E σ)
theorem pe_makeS {E : L2.St → XK} (M : Mk X.K C f) (F : FnOk X.prog X.w X.K X.mg X.base CX k f fd ps sp) (room : Room (k + 1) X.A) (gl : Gl X x) (at_x : X.mg x = some (.ref C)) (bd : Binds X.K fd ps []) (out : ∀ σ, PassesAt CX X σ (E σ)) (args : PA X (e :: es) t)
    (db : (x == ("__debug__" : Str)) = false := by decide) (he : starEach (e :: es) X.env = (false, eval e X.env) :: starEach es X.env := by rfl) (hpl : (backTo pos (starEach es X.env)).any (·.1) = false := by rfl) :
    PE X (.Call (.Name x p) (e :: es) [] pos) (tMakeS C sp E t) := by
  constructor
  intro pins s σ H Q I h
  refine wpAny_Call_Name_kw (ld_glob I gl at_x ?_ db)
  exact PySem.W.callWith_K (h₀ := X.base) I.ok.mod.kin M.kp (thn (args.run pos pins s σ H _ I h) fun us s1 ⟨vs, H1, I1, r, q⟩ => ⟨I1.kIn, run_makeS M F room bd (out σ) I1 r q⟩) he hpl
/-- list(t), t a tuple; it is not sys.modules -/
theorem call_listT (K : PySem.W.Frag) (hK : X.K = K) : CallR X (.type "list") (fun xs H Q => ∃ p ys, xs = [.ref p] ∧ SqT K H p ys ∧ ∀ l, H l = none → sysModules ≠ l → Q (.ref l) (upd H l (.lst ys))) := by
  subst hK
  rintro pins s σ H xs us Q I r ⟨p, ys, rfl, hq, q⟩
  obtain ⟨u, rfl, rx⟩ := vals1 r
  cases rx
  obtain ⟨its, rv, pl, few⟩ := I.tuple hq
  have len := rv.length
  obtain ⟨o, g, c, n, d⟩ := pl
  refine call_list_seq p (.inr rfl) g c d (fun h2 c2 kp e => ?_) (by simp only [List.size_toArray] <;> omega)
  have J := I.laid (o := .lst ys) (t' := s.toks) kp (Nat.le_refl _) ⟨few, its, c2, rv, e⟩
  exact ⟨.ref s.heap.objs.size, _, J, rfl, q _ (I.hok.fresh (Nat.le_refl _)) (Nat.ne_of_lt (mods_lt I))⟩
end
/-! ## the heap without the drawer -/
def wo (p : Addr) (H : Hp) : Hp := fun b => if b = p then none else H b
section
variable {p a : Addr} {H H' : Hp} {o : HO}
theorem wo_same : Same (wo p H) H := fun b o e => by
  unfold wo at e
  split at e
  · cases e
  · exact e
theorem wo_at (n : a ≠ p) (e : H a = some o) : wo p H a = some o := by
  unfold wo
  rw [if_neg n]
  exact e
theorem wo_p : wo p H p = none := if_pos rfl
theorem wo_but (b : But p H H') : Same (wo p H) (wo p H') := fun c u e => by
  have n : c ≠ p := fun z => by rw [z, wo_p] at e; cases e
  exact wo_at n (b c u n (wo_same c u e))
end
/-! ## sizes, added up -/
structure Szs (w k : Nat) (ds : List PyData) : Prop where
  lv : PyData.leavesShortAll 40 ds = true
  wt : PyData.weightAll ds ≤ w
  dp : PyData.depthAll ds ≤ k
  sh : PyData.showableAll ds = true
theorem lvA : ∀ xs ys : List PyData, PyData.leavesShortAll 40 (xs ++ ys) = (PyData.leavesShortAll 40 xs && PyData.leavesShortAll 40 ys)
  | [], ys => by simp [PyData.leavesShortAll]
  | x :: xs, ys => by simp only [List.cons_append, PyData.leavesShortAll, lvA xs ys, Bool.and_assoc]
theorem wtA : ∀ xs ys : List PyData, PyData.weightAll (xs ++ ys) = PyData.weightAll xs + PyData.weightAll ys
  | [], ys => by simp [PyData.weightAll]
  | x :: xs, ys => by simp only [List.cons_append, PyData.weightAll, wtA xs ys]; omega
theorem dpA : ∀ xs ys : List PyData, PyData.depthAll (xs ++ ys) = max (PyData.depthAll xs) (PyData.depthAll ys)
  | [], ys => by simp [PyData.depthAll]
  | x :: xs, ys => by simp only [List.cons_append, PyData.depthAll, dpA xs ys]; omega
theorem shA : ∀ xs ys : List PyData, PyData.showableAll (xs ++ ys) = (PyData.showableAll xs && PyData.showableAll ys)
  | [], ys => by simp [PyData.showableAll]
  | x :: xs, ys => by simp only [List.cons_append, PyData.showableAll, shA xs ys, Bool.and_assoc]
section
variable {w v k : Nat} {d : PyData} {xs ys ds : List PyData}
theorem Szs.add (a : Szs w k xs) (b : Szs v k ys) : Szs (w + v) k (xs ++ ys) := ⟨by rw [lvA, a.lv, b.lv]; rfl, by rw [wtA]; exact Nat.add_le_add a.wt b.wt, by rw [dpA]; exact Nat.max_le.mpr ⟨a.dp, b.dp⟩, by rw [shA, a.sh, b.sh]; rfl⟩
theorem Szs.parts (a : Szs w k (xs ++ ys)) : Szs w k xs ∧ Szs w k ys := by
  obtain ⟨a1, a2, a3, a4⟩ := a
  rw [lvA, Bool.and_eq_true] at a1
  rw [wtA] at a2
  rw [dpA] at a3
  rw [shA, Bool.and_eq_true] at a4
  exact ⟨⟨a1.1, by omega, by omega, a4.1⟩, ⟨a1.2, by omega, by omega, a4.2⟩⟩
theorem Szs.more {w' k' : Nat} (a : Szs w k xs) (hw : w ≤ w') (hk : k ≤ k') : Szs w' k' xs := ⟨a.lv, Nat.le_trans a.wt hw, Nat.le_trans a.dp hk, a.sh⟩
theorem Szs.nil : Szs 0 0 [] := ⟨rfl, Nat.le_refl _, Nat.le_refl _, rfl⟩
theorem Szs.one (a : Sz w k d) : Szs (w + 1) k [d] := ⟨by simp [PyData.leavesShortAll, a.lv], by have := a.wt; simp only [PyData.weightAll]; omega, by have := a.dp; simp only [PyData.depthAll]; omega, by simp [PyData.showableAll, a.sh]⟩
theorem Szs.take (a : Szs w k xs) (n : Nat) : Szs w k (xs.take n) := by
  rw [← List.take_append_drop n xs] at a
  exact a.parts.1
theorem Szs.drop (a : Szs w k xs) (n : Nat) : Szs w k (xs.drop n) := by
  rw [← List.take_append_drop n xs] at a
  exact a.parts.2
theorem Szs.mem (a : Szs w k xs) (h : d ∈ xs) : Sz w k d := by
  obtain ⟨l, r, rfl⟩ := List.append_of_mem h
  have b := (Szs.parts (xs := l) (ys := d :: r) a).2
  have c := (Szs.parts (xs := [d]) (ys := r) b).1
  obtain ⟨c1, c2, c3, c4⟩ := c
  simp only [PyData.leavesShortAll, PyData.weightAll, PyData.depthAll, PyData.showableAll, Bool.and_true] at c1 c2 c3 c4
  exact ⟨c1, by omega, by omega, c4⟩
theorem wtR : ∀ xs : List PyData, PyData.weightAll xs.reverse = PyData.weightAll xs
  | [] => rfl
  | x :: xs => by
    rw [List.reverse_cons, wtA, wtR xs]
    simp only [PyData.weightAll]
    omega
theorem Szs.rev (a : Szs w k xs) : Szs w k xs.reverse := by
  have b : ∀ {ys : List PyData}, Szs w k ys → PyData.leavesShortAll 40 ys.reverse = true ∧ PyData.depthAll ys.reverse ≤ k ∧ PyData.showableAll ys.reverse = true := by
    intro ys
    induction ys with
    | nil => exact fun _ => ⟨rfl, Nat.zero_le _, rfl⟩
    | cons y ys ih =>
      intro s
      obtain ⟨s1, s2⟩ := Szs.parts (xs := [y]) (ys := ys) s
      obtain ⟨i1, i2, i3⟩ := ih s2
      rw [List.reverse_cons, lvA, dpA, shA, i1, i3, s1.lv, s1.sh]
      exact ⟨rfl, Nat.max_le.mpr ⟨i2, s1.dp⟩, rfl⟩
  obtain ⟨b1, b2, b3⟩ := b a
  exact ⟨b1, by rw [wtR]; exact a.wt, b2, b3⟩
theorem Szs.tup (a : Szs w k ds) : Sz w (k + 1) (.tuple ds) := ⟨by simpa only [PyData.leavesShort] using a.lv, by simpa only [PyData.weight] using a.wt, by have := a.dp; simp only [PyData.depth]; omega, by simpa only [PyData.showable] using a.sh⟩
theorem Szs.lst (a : Szs w k ds) : Sz w (k + 1) (.list ds) := ⟨by simpa only [PyData.leavesShort] using a.lv, by simpa only [PyData.weight] using a.wt, by have := a.dp; simp only [PyData.depth]; omega, by simpa only [PyData.showable] using a.sh⟩
theorem Sz.items (a : Sz w k (.tuple ds)) : ∃ j, k = j + 1 ∧ Szs w j ds := by
  obtain ⟨a1, a2, a3, a4⟩ := a
  simp only [PyData.leavesShort, PyData.weight, PyData.depth, PyData.showable] at a1 a2 a3 a4
  exact ⟨k - 1, by omega, a1, a2, by omega, a4⟩
theorem Sz.dictA (a : Sz w k d) : Sz (w + 3) (k + 1) (.dict [(.str "a", d)]) := by
  have l : (PyData.str "a").leavesShort 40 = true := by decide +kernel
  have z : (PyData.str "a").weight = 1 := by decide +kernel
  have dd : (PyData.str "a").depth = 0 := by decide +kernel
  have ss : (PyData.str "a").showable = true := by decide +kernel
  obtain ⟨a1, a2, a3, a4⟩ := a
  refine ⟨?_, ?_, ?_, ?_⟩
  · simp only [PyData.leavesShort, PyData.leavesShortKv] at l ⊢
    simp only [l, a1, Bool.and_self]
  · simp only [PyData.weight, PyData.weightKv] at z ⊢
    omega
  · simp only [PyData.depth, PyData.depthKv] at dd ⊢
    omega
  · simp only [PyData.showable, PyData.showableKv] at ss ⊢
    simp only [a4, Bool.and_self]
theorem Sz.short (a : Sz w k d) (hw : w ≤ 1000000) : Sh d := by
  rintro x rfl
  have := a.wt
  simp only [PyData.weight] at this
  have : x.length = x.cps.size := rfl
  omega
theorem Sz.short1 (a : Sz w k d) (hw : w ≤ 1000000) : Sh1 d := by
  rintro ds rfl e he
  obtain ⟨j, _, s⟩ := a.items
  exact (s.mem he).short hw
theorem Sz.short2 (a : Sz w k d) (hw : w ≤ 1000000) : Sh2 d := by
  rintro ds rfl e he
  obtain ⟨j, _, s⟩ := a.items
  exact (s.mem he).short1 hw
end
end Xby

set_option Elab.async false
set_option linter.all false
set_option maxRecDepth 100000
set_option maxHeartbeats 4000000
/-! # t == (), parts of tuples of any items, what a table's making says of two values -/
namespace Xby
open PySem PySem.Spec PyProof.Rows L2
section
variable {X : Cx}
def rNilT (K : PySem.W.Frag) : R2 := fun x y H Q => ∃ a b xs, x = .ref a ∧ y = .ref b ∧ SqT K H a xs ∧ SqT K H b [] ∧ Q (.bl xs.isEmpty) H
theorem op_nilT (K : PySem.W.Frag) (hK : X.K = K) (hu : X.A.units < cLine) : OpR X (compareOp .Eq) (rNilT K) := by
  subst hK
  rintro pins s σ H x y v u Q I rx ry ⟨a, b, xs, rfl, rfl, ha, hb, q⟩
  obtain rfl : v = Value.ref a := rx
  obtain rfl : u = Value.ref b := ry
  obtain ⟨its, rv, p, _⟩ := I.tuple ha
  obtain ⟨its2, rv2, p2, _⟩ := I.tuple hb
  cases rv2
  have l := rv.length
  have e : ((List.range (min its.toArray.size (#[] : Array Value).size)).all (fun _ => true) && its.toArray.size == (#[] : Array Value).size) = xs.isEmpty := by
    cases xs with
    | nil =>
      cases rv
      rfl
    | cons z zs =>
      have : its.length ≠ 0 := by rw [← l]; simp
      simp [this]
  unfold compareOp
  refine SeqAt.RcAt.tuples p p2 hu (e := fun _ => true) (fun j h1 h2 => absurd h2 (by simp)) _ _ _ _ ?_
  rw [e]
  exact ⟨.bl xs.isEmpty, H, I, rfl, q⟩
end
section
variable {K : PySem.W.Frag} {H : Hp} {a b p : Addr} {xs ys : List V} {Q : VK} {n : Nat}
theorem seqWo (h : SqT K H a xs) (pot : Pot H p n) : SqT K (wo p H) a xs := by
  obtain ⟨_, _, _, q, _⟩ := pot
  rcases h with (h | ⟨o, h⟩) | ⟨o, i, j, h⟩
  · exact .inl (.inl (wo_at (by rintro rfl; rw [h] at q; cases q) h))
  · exact .inl (.inr ⟨o, wo_at (by rintro rfl; rw [h] at q; cases q) h⟩)
  · exact .inr ⟨o, i, j, h⟩
/-- a part of a tuple: at some address -/
theorem partT {lo hi : Option Int} (ha : SqT K H a xs) (k : ∀ c H', Same H H' → SqT K H' c (cutV xs lo hi) → Q (.ref c) H') : rSlA K (.ref a) lo hi H Q := by
  refine ⟨a, xs, rfl, ha, fun h => ?_, fun _ p np => k p _ (Same.one np) (SqT.of upd_same)⟩
  refine k a H (Same.refl H) ?_
  rw [cut_all h]
  exact ha
/-- a + b, tuples -/
theorem catT (ha : SqT K H a xs) (hb : SqT K H b ys) (few : xs.length + ys.length ≤ 1000000) (k : ∀ c H', Same H H' → SqT K H' c (xs ++ ys) → Q (.ref c) H') : rCatA K (.ref a) (.ref b) H Q := by
  refine ⟨a, b, xs, ys, rfl, rfl, ha, hb, ?_, fun h => ?_, fun _ h => ?_, fun _ _ p np => k p _ (Same.one np) (SqT.of upd_same)⟩
  · have : sizeLine = 16777216 := sizeLine_eq
    omega
  · subst h
    exact k b H (Same.refl H) hb
  · subst h
    refine k a H (Same.refl H) ?_
    rw [List.append_nil]
    exact ha
theorem cut_last : cutV xs none (some (-1)) = xs.take (xs.length - 1) := by
  unfold cutV
  have : HT.sIx xs.length xs.length (some (-1)) = xs.length - 1 := by
    unfold HT.sIx
    simp only [show ((-1 : Int) < 0) = True by simp, if_true]
    omega
  rw [HT.sIx_none, this, List.drop_zero, Nat.sub_zero]
theorem DqAll.add {xs ys : List V} {ds es : List PyData} (h : DqAll K H xs ds) (k : DqAll K H ys es) : DqAll K H (xs ++ ys) (ds ++ es) := by
  induction xs generalizing ds with
  | nil => cases h; exact k
  | cons x xs ih =>
    cases h with
    | cons a t => exact .cons a (ih t)
theorem DqAll.part {xs : List V} {ds : List PyData} (h : DqAll K H xs ds) (n : Nat) : DqAll K H (xs.take n) (ds.take n) ∧ DqAll K H (xs.drop n) (ds.drop n) := by
  induction xs generalizing ds n with
  | nil =>
    cases h
    simpa using DqAll.nil
  | cons x xs ih =>
    cases h with
    | cons a t =>
      cases n with
      | zero => exact ⟨.nil, .cons a t⟩
      | succ n => exact ⟨.cons a (ih t n).1, (ih t n).2⟩
theorem DqAll.back {xs : List V} {ds : List PyData} (h : DqAll K H xs ds) : DqAll K H xs.reverse ds.reverse := by
  induction xs generalizing ds with
  | nil => cases h; exact .nil
  | cons x xs ih =>
    cases h with
    | cons a t =>
      rw [List.reverse_cons, List.reverse_cons]
      exact (ih t).add (.cons a .nil)
end
/-! ## what the making of a table says -/
inductive Fk where
  | columns | rows | row | many | none
  deriving DecidableEq
def Fk.name : Fk → Str
  | .columns => "columns"
  | .rows => "rows"
  | .row => "row"
  | .many => "many"
  | .none => "none"
def firstBad (n : Nat) : List V → List PyData → Option V
  | v :: vs, d :: ds => if rowD n d then firstBad n vs ds else some v
  | _, _ => none
def wid : PyData → Nat
  | .tuple ds => ds.length
  | _ => 0
def due (vh vr : V) (dh dr : PyData) (xs : List V) : Fk × V :=
  if colsD dh then
    match dr with
    | .tuple rs => if 6 < rs.length then (.many, .int 6) else match firstBad (wid dh) xs rs with
      | some v => (.row, v)
      | none => (.none, .non)
    | _ => (.rows, vr)
  else (.columns, vh)
/-- the two values, and the items of the second one where it is a tuple -/
structure Two (K : PySem.W.Frag) (H : Hp) (vh vr : V) (dh dr : PyData) (xs : List V) : Prop where
  h : Dq K H vh dh
  r : Dq K H vr dr
  x : ∀ rs, dr = .tuple rs → ∃ a, vr = .ref a ∧ SqT K H a xs ∧ DqAll K H xs rs
  s1 : Sh1 dh
  s2 : Sh2 dr
section
variable {K : PySem.W.Frag} {H H' : Hp} {vh vr : V} {dh dr : PyData} {xs : List V}
theorem Two.same (t : Two K H vh vr dh dr xs) (s : Same H H') : Two K H' vh vr dh dr xs := ⟨t.h.same s, t.r.same s, fun rs e => by
  obtain ⟨a, e1, e2, e3⟩ := t.x rs e
  exact ⟨a, e1, e2.ext s, e3.same s⟩, t.s1, t.s2⟩
theorem two_of (h : Dq K H vh dh) (r : Dq K H vr dr) (s1 : Sh1 dh) (s2 : Sh2 dr) : ∃ xs, Two K H vh vr dh dr xs := by
  rcases r.isTup with ⟨a, xs, ds, rfl, rfl, hs, ha⟩ | ⟨_, _, _, no⟩
  · refine ⟨xs, h, r, fun rs e => ?_, s1, s2⟩
    obtain rfl : ds = rs := by injection e
    exact ⟨a, rfl, hs, ha⟩
  · exact ⟨[], h, r, fun rs e => absurd e (no rs), s1, s2⟩
theorem due_cols (n : colsD dh = false) : due vh vr dh dr xs = (.columns, vh) := by
  unfold due
  rw [n]
  rfl
theorem due_rows (c : colsD dh = true) (n : ∀ rs, dr ≠ .tuple rs) : due vh vr dh dr xs = (.rows, vr) := by
  unfold due
  rw [if_pos c]
  cases dr with
  | tuple rs => exact absurd rfl (n rs)
  | _ => rfl
theorem due_many {rs : List PyData} (c : colsD dh = true) (n : 6 < rs.length) : due vh vr dh (.tuple rs) xs = (.many, .int 6) := by
  unfold due
  rw [if_pos c]
  exact if_pos n
theorem due_row {rs : List PyData} {v : V} (c : colsD dh = true) (n : ¬ 6 < rs.length) (b : firstBad (wid dh) xs rs = some v) : due vh vr dh (.tuple rs) xs = (.row, v) := by
  unfold due
  rw [if_pos c]
  show (if 6 < rs.length then _ else _) = _
  rw [if_neg n, b]
theorem due_none {rs : List PyData} (c : colsD dh = true) (n : ¬ 6 < rs.length) (b : firstBad (wid dh) xs rs = none) : due vh vr dh (.tuple rs) xs = (.none, .non) := by
  unfold due
  rw [if_pos c]
  show (if 6 < rs.length then _ else _) = _
  rw [if_neg n, b]
theorem bad_at {n : Nat} : ∀ {xs : List V} {rs : List PyData} {i : Nat} {v : V} {d : PyData}, xs[i]? = some v → rs[i]? = some d → (∀ j e, j < i → rs[j]? = some e → rowD n e = true) → rowD n d = false → firstBad n xs rs = some v
  | [], _, _, _, _, e, _, _, _ => by simp at e
  | _ :: _, [], _, _, _, _, e, _, _ => by simp at e
  | x :: xs, r :: rs, 0, v, d, e1, e2, _, b => by
    obtain rfl : x = v := by simpa using e1
    obtain rfl : r = d := by simpa using e2
    unfold firstBad
    rw [b]
    rfl
  | x :: xs, r :: rs, i + 1, v, d, e1, e2, ok, b => by
    unfold firstBad
    rw [ok 0 r (Nat.succ_pos _) rfl, if_pos rfl]
    exact bad_at (by simpa using e1) (by simpa using e2) (fun j e hj he => ok (j + 1) e (Nat.succ_lt_succ hj) (by simpa using he)) b
theorem bad_no {n : Nat} : ∀ {xs : List V} {rs : List PyData}, (∀ e ∈ rs, rowD n e = true) → firstBad n xs rs = none
  | [], _, _ => by unfold firstBad; rfl
  | _ :: _, [], _ => by unfold firstBad; rfl
  | x :: xs, r :: rs, ok => by
    unfold firstBad
    rw [ok r List.mem_cons_self, if_pos rfl]
    exact bad_no fun e he => ok e (List.mem_cons_of_mem _ he)
/-- what is told is data, no greater -/
theorem due_data {w k : Nat} (t : Two K H vh vr dh dr xs) (zh : Sz w k dh) (zr : Sz w k dr) (hw : 3 ≤ w) : ∃ d, Dq K H (due vh vr dh dr xs).2 d ∧ Sz w k d := by
  have six : Sz w k (.int 6) := (show Sz 3 0 (.int 6) by decide +kernel).more hw (Nat.zero_le _)
  by_cases c : colsD dh = true
  · rcases t.r.isTup with ⟨a, xs', ds, _, e, _, _⟩ | ⟨_, _, _, no⟩
    · subst e
      obtain ⟨a, rfl, hs, ha⟩ := t.x ds rfl
      by_cases m : 6 < ds.length
      · rw [due_many c m]
        exact ⟨_, .int 6, six⟩
      · cases b : firstBad (wid dh) xs ds with
        | none =>
          rw [due_none c m b]
          exact ⟨_, .non, (show Sz 0 0 .none by decide +kernel).more (by omega) (Nat.zero_le _)⟩
        | some v =>
          rw [due_row c m b]
          have mem : ∀ {xs : List V} {rs : List PyData}, DqAll K H xs rs → firstBad (wid dh) xs rs = some v → ∃ d ∈ rs, Dq K H v d := by
            intro xs
            induction xs with
            | nil => exact fun h b => by unfold firstBad at b; cases b
            | cons x xs ih =>
              intro rs h b
              cases h with
              | cons a1 a2 =>
                unfold firstBad at b
                split at b
                · obtain ⟨d, hd, q⟩ := ih a2 b
                  exact ⟨d, List.mem_cons_of_mem _ hd, q⟩
                · obtain rfl : x = v := Option.some.inj b
                  exact ⟨_, List.mem_cons_self, a1⟩
          obtain ⟨d, hd, q⟩ := mem ha b
          obtain ⟨j, rfl, s⟩ := zr.items
          exact ⟨d, q, (s.mem hd).more (Nat.le_refl _) (Nat.le_succ _)⟩
    · rw [due_rows c no]
      exact ⟨_, t.r, zr⟩
  · rw [due_cols (Bool.eq_false_iff.mpr c)]
    exact ⟨_, t.h, zh⟩
end
end Xby

set_option Elab.async false
set_option linter.all false
set_option maxRecDepth 100000
set_option maxHeartbeats 4000000
/-! # values that are data beside the drawer -/
namespace Xby
open PySem L2
def Okd (K : PySem.W.Frag) (p : Addr) (w k : Nat) (H : Hp) (x : V) : Prop := ∃ d, Dq K (wo p H) x d ∧ Sz w k d
section
variable {K : PySem.W.Frag} {p a : Addr} {w k n : Nat} {H H' : Hp} {x v : V} {l xs : List V} {ds : List PyData} {d : PyData}
theorem Okd.but (h : Okd K p w k H x) (b : But p H H') : Okd K p w k H' x := by
  obtain ⟨d, q, z⟩ := h
  exact ⟨d, q.same (wo_but b), z⟩
theorem all_but (h : ∀ x ∈ l, Okd K p w k H x) (b : But p H H') : ∀ x ∈ l, Okd K p w k H' x := fun x hx => (h x hx).but b
theorem all_add (h : ∀ x ∈ l, Okd K p w k H x) (a : Okd K p w k H v) : ∀ x ∈ v :: l, Okd K p w k H x := fun x hx => by
  rcases List.mem_cons.mp hx with rfl | hx
  · exact a
  · exact h x hx
theorem newTup (pot : Pot H p n) (na : H a = none) (h : DqAll K (wo p H) xs ds) : Dq K (wo p (upd H a (.tup xs))) (.ref a) (.tuple ds) :=
  .tup (SqT.of (wo_at (pot.ne na).symm upd_same)) (h.same (wo_but (But.of (Same.one na))))
theorem newLst (pot : Pot H p n) (na : H a = none) (sm : sysModules ≠ a) (h : DqAll K (wo p H) xs ds) : Dq K (wo p (upd H a (.lst xs))) (.ref a) (.list ds) :=
  .lst (wo_at (pot.ne na).symm upd_same) sm (h.same (wo_but (But.of (Same.one na))))
theorem newDct (pot : Pot H p n) (na : H a = none) : Dq K (wo p (upd H a (.dK []))) (.ref a) (.dict []) :=
  .dct (wo_at (pot.ne na).symm upd_same) .nil
theorem tupAt (pot : Pot H p n) (ha : SqT K H a xs) (h : DqAll K (wo p H) xs ds) : Dq K (wo p H) (.ref a) (.tuple ds) := .tup (seqWo ha pot) h
theorem DqAll.nil' {K : PySem.W.Frag} {H : Hp} : DqAll K H [] [] := .nil
end
end Xby
namespace Xby
open PySem L2
/-- the thing (a tuple), the list so far, what was made since -/
structure Bag (K : PySem.W.Frag) (p : Addr) (n w k : Nat) (H : Hp) (a : Addr) (xs : List V) (ds : List PyData) (L : Addr) (I : List V) (Hc : Hp) (items : List V) : Prop where
  pot : Pot Hc p n
  but : But p H Hc
  hs : SqT K (wo p Hc) a xs
  ha : DqAll K (wo p Hc) xs ds
  hl : Hc L = some (.lst I)
  g : ∀ x ∈ I, Okd K p w k Hc x
  gi : ∀ x ∈ items, Okd K p w k Hc x
section
variable {K : PySem.W.Frag} {p a L c : Addr} {n w k : Nat} {H Hc Hd : Hp} {xs I items ys : List V} {ds es : List PyData} {v : V}
theorem Bag.same (b : Bag K p n w k H a xs ds L I Hc items) (s : Same Hc Hd) : Bag K p n w k H a xs ds L I Hd items :=
  ⟨b.pot.same s, b.but.same s, b.hs.ext (wo_but (But.of s)), b.ha.same (wo_but (But.of s)), s _ _ b.hl, all_but b.g (But.of s), all_but b.gi (But.of s)⟩
theorem Bag.add (b : Bag K p n w k H a xs ds L I Hc items) (o : Okd K p w k Hc v) : Bag K p n w k H a xs ds L I Hc (v :: items) := ⟨b.pot, b.but, b.hs, b.ha, b.hl, b.g, all_add b.gi o⟩
/-- a tuple made of what the thing holds -/
theorem Bag.tup (b : Bag K p n w k H a xs ds L I Hc items) (s : Same Hc Hd) (hc : SqT K Hd c ys) (h : DqAll K (wo p Hc) ys es) (z : Sz w k (.tuple es)) : Bag K p n w k H a xs ds L I Hd (.ref c :: items) :=
  (b.same s).add ⟨_, tupAt (b.pot.same s) hc (h.same (wo_but (But.of s))), z⟩
theorem Bag.hsc (b : Bag K p n w k H a xs ds L I Hc items) : SqT K Hc a xs := b.hs.ext wo_same
end
theorem Szs.len {w k : Nat} : ∀ {ds : List PyData}, Szs w k ds → ds.length ≤ w
  | [], _ => Nat.zero_le _
  | d :: ds, s => by
    have a := s.wt
    simp only [PyData.weightAll] at a
    have b := Szs.len (w := w - 1) (k := k) (ds := ds) ⟨by have := s.lv; simp only [PyData.leavesShortAll, Bool.and_eq_true] at this; exact this.2, by omega, by have := s.dp; simp only [PyData.depthAll] at this; omega, by have := s.sh; simp only [PyData.showableAll, Bool.and_eq_true] at this; exact this.2⟩
    simp only [List.length_cons]
    omega
end Xby
namespace Xby
open PySem L2
/-- one item otherwise -/
theorem Szs.other {w j : Nat} {ds : List PyData} {i : Nat} {e d : PyData} (s : Szs w j ds) (hi : ds[i]? = some e) (z : Sz (2 * e.weight + 113) (j + 2) d) : Szs (2 * w + 113) (j + 2) (ds.take i ++ [d] ++ ds.drop (i + 1)) := by
  obtain ⟨hl, he⟩ := List.getElem?_eq_some_iff.mp hi
  have split : ds = ds.take i ++ ([e] ++ ds.drop (i + 1)) := by
    rw [← he]
    have := List.drop_eq_getElem_cons hl
    rw [List.singleton_append, ← this, List.take_append_drop]
  have wt := s.wt
  rw [split, wtA, wtA] at wt
  have w1 : PyData.weightAll [e] = e.weight + 1 := by simp [PyData.weightAll]
  have a := (s.take i).more (Nat.le_refl _) (show j ≤ j + 2 by omega)
  have b := (s.drop (i + 1)).more (Nat.le_refl _) (show j ≤ j + 2 by omega)
  have c := Szs.one z
  have all := (a.add c).add b
  refine ⟨all.lv, ?_, all.dp, all.sh⟩
  rw [wtA, wtA]
  have w2 : PyData.weightAll [d] = d.weight + 1 := by simp [PyData.weightAll]
  have := z.wt
  omega
theorem Sz.self {w j : Nat} {e : PyData} (z : Sz w j e) : Sz e.weight j e := ⟨z.lv, Nat.le_refl _, z.dp, z.sh⟩
end Xby

set_option linter.all false
/-! # plain facts about lists of ints -/
namespace Xby
theorem count_nodup {l ys : List Int} (nd : l.Nodup) (m : ∀ k, k ∈ l ↔ k ∈ ys) : l.length = ys.length ↔ ys.Nodup := by
  constructor
  · intro e
    rw [List.nodup_iff_count]
    intro a
    by_cases h : ys.count a ≤ 1
    · exact h
    · exfalso
      have ha : a ∈ ys := List.count_pos_iff.mp (by omega)
      have hb : a ∈ ys.erase a := List.count_pos_iff.mp (by rw [List.count_erase_self]; omega)
      have sub : l ⊆ ys.erase a := fun k hk => by
        by_cases c : k = a
        · rw [c]; exact hb
        · exact (List.mem_erase_of_ne c).mpr ((m k).mp hk)
      have := nd.length_le_of_subset sub
      rw [List.length_erase_of_mem ha] at this
      have : 0 < ys.length := List.length_pos_of_mem ha
      omega
  · intro n
    have a := nd.length_le_of_subset fun k hk => (m k).mp hk
    have b := n.length_le_of_subset fun k hk => (m k).mpr hk
    omega
theorem rise_iff : ∀ {l : List Int}, (∀ k (h : k + 1 < l.length), l[k] < l[k + 1]) ↔ l.Pairwise (· < ·)
  | [] => by simp
  | [x] => by simp
  | x :: y :: l => by
    have ih := rise_iff (l := y :: l)
    rw [List.pairwise_cons]
    constructor
    · intro h
      have p := ih.mp fun k hk => by
        have := h (k + 1) (by simpa using hk)
        simpa using this
      refine ⟨fun z hz => ?_, p⟩
      have xy : x < y := h 0 (by simp)
      rcases List.mem_cons.mp hz with rfl | hz
      · exact xy
      · exact Int.lt_trans xy (List.rel_of_pairwise_cons p hz)
    · rintro ⟨a, p⟩ k hk
      cases k with
      | zero => exact a y List.mem_cons_self
      | succ k =>
        have hk' : k + 1 < (y :: l).length := by simpa using hk
        exact ih.mpr p k hk'
theorem asc_unique {a b : List Int} (ha : a.Pairwise (· < ·)) (hb : b.Pairwise (· < ·)) (m : ∀ k, k ∈ a ↔ k ∈ b) : a = b := by
  have na : a.Nodup := ha.imp fun h => Int.ne_of_lt h
  have nb : b.Nodup := hb.imp fun h => Int.ne_of_lt h
  have p : a.Perm b := (List.perm_ext_iff_of_nodup na nb).mpr m
  exact p.eq_of_pairwise (le := (· < ·)) (fun x y _ _ h1 h2 => absurd (Int.lt_trans h1 h2) (Int.lt_irrefl _)) ha hb
/-- pairs of places: ascending, none twice -/
def okPs (ps : List (Int × Int)) : Bool := decide ((ps.map (·.1)).Pairwise (· < ·)) && decide (ps.map (·.2)).Nodup
end Xby

set_option Elab.async false
set_option linter.all false
set_option maxRecDepth 100000
set_option maxHeartbeats 4000000
/-! # set(l), l a list of ints; its length; t != (); targets that are tuples -/
namespace Xby
open PySem PySem.Spec PyProof.Rows L2
section
variable {prog : Program} {w : World} {A : Around} {E : Value → Shared → Prop} {s : Shared}
abbrev newSet (w : World) : Obj := { cls := .type "set", dict := none, data := .set #[] 0 (.fresh 0 0 (!w.params.followText "set-order")) }
set_option maxHeartbeats 3200000 in
theorem set_of_ints {l : Addr} {us : Array Value} {ys : List Int} {Q : Value → Shared → Prop} (hh : A.handled = none) (hl : s.heap.IsList l us) (hi : IntsAre us.toList ys) (few : ys.length + 1 < scanBound)
    (q : ∀ (h2 : Heap) (tk c : Nat), SetR w h2 s.heap.objs.size (fun j => decide (j ∈ ys)) c → c ≤ ys.length → (∀ b o, s.heap.get? b = some o → h2.get? b = some o) → Q (.ref s.heap.objs.size) { s with heap := h2, toks := tk }) :
    wpAny (model prog w) A (call (.type "set") [.ref l]) Q E s := by
  have lenU : us.size = ys.length := by
    have z := IntsAre.length hi
    rw [Array.length_toList] at z
    exact z
  obtain ⟨cc, tl, mro⟩ := PySem.F.called_set.mro
  have made := PySem.F.called_set.made
  have sub := PySem.F.called_set.sub
  have nt := PySem.F.called_set.notType
  have cr := PySem.F.called_set.canCreate
  have ct := PySem.F.typeCall_set_1 (.ref l)
  refine wpAny_call (codeAny_of_tree ?_)
  change wpAny _ _ (callAny (.type "set") _) _ _ _
  refine wpAny_pure ⟨Code.quiet_builtin _ (by decide +kernel), codeAny_builtin PySem.F.entry_type_call ?_⟩
  rw [Around.under_plain (weight_type_call_type "set" [.ref l] []) rfl]
  repeat (any_goals (first | assumption | wp_step))
  refine codeAny_mono (code_set_led1 (w := w) (.ref l) (E := E) (Q₁ := fun u s1 => u = .ref s.heap.objs.size ∧ s1 = { s with heap := s.heap.push (newSet w) }) ⟨rfl, rfl⟩) fun r s1 hr => ?_
  cases r with
  | error e => exact hr
  | ok fl =>
    cases fl with
    | ret u =>
      obtain ⟨rfl, rfl⟩ := hr
      have new : (s.heap.push (newSet w)).get? s.heap.objs.size = some (newSet w) := Heap.get?_push_size _ rfl
      have ty : Shared.TypeIs { s with heap := s.heap.push (newSet w) } (.ref s.heap.objs.size) "set" := ⟨_, new, rfl⟩
      have lk := PySem.F.called_set.init.lookup
      have bd := PySem.F.called_set.init.bind (.ref s.heap.objs.size)
      repeat (any_goals (first | assumption | wp_step))
      refine codeAny_mono (codeAny_call_builtin (R := wants (fun r s2 => r = .none ∧ ∃ h2 tk c, s2 = { s with heap := h2, toks := tk } ∧ SetR w h2 s.heap.objs.size (fun j => decide (j ∈ ys)) c ∧ c ≤ ys.length ∧
        (∀ b o, s.heap.get? b = some o → h2.get? b = some o)) E) PySem.F.called_set.init.plain PySem.F.entry_set_init (check_set_init_1 ty ?_)) fun r2 s2 hr2 => ?_
      · obtain ⟨⟨tc, td, tdata, tsl⟩, g, hc, nl, hd⟩ := hl
        simp only at hc hd
        subst hc hd
        have ls : l < s.heap.objs.size := Heap.lt_size g
        have g1 : (s.heap.push (newSet w)).get? l = some { cls := .type "list", dict := td, data := .seq us nl, slots := tsl } := Heap.get?_push_of_some _ g
        have st := PySem.F.sub_list_set
        have sf := PySem.F.sub_list_frozenset
        have nd : (Value.type "list" == Value.type "dict") = false := by decide
        have lst1 : (s.heap.push (newSet w)).IsList l us := ⟨_, g1, rfl, nl, rfl⟩
        unfold Builtin.«set.__init__» noKeywords Builtin.Frozenset.updateFrom
        generalize e : pyIter = it
        wp_walk
        subst e
        refine wpAny_pyIter_list lst1 (wpAny_bind (wpAny_runValue ?_))
        have h3 : A.in1.in1.in1.handled = none := by simp [hh]
        have ne : l ≠ (s.heap.push (newSet w)).objs.size := by
          rw [Heap.size_push]
          exact Nat.ne_of_lt (Nat.lt_succ_of_lt ls)
        have nf : s.heap.objs.size ∉ [(s.heap.push (newSet w)).objs.size, l] := by
          rw [Heap.size_push]
          simp only [List.mem_cons, List.not_mem_nil, or_false, not_or]
          exact ⟨Nat.ne_of_lt (Nat.lt_succ_self _), Nat.ne_of_gt ls⟩
        have val : ∀ (i : Nat) (v : Value), us[i]? = some v → ∃ k t, ys[i]? = some k ∧ v = .int k t := fun i v hv => by
          have hi' : i < ys.length := by rw [← lenU]; exact (Array.getElem?_eq_some_iff.mp hv).1
          obtain ⟨t, e⟩ := PyProof.Rows.IntsAre.int_at hi i v (by rw [Array.getElem?_toList]; exact hv)
          refine ⟨ys[i], t, List.getElem?_eq_getElem hi', ?_⟩
          rw [e, List.getD_eq_getElem?_getD, List.getElem?_eq_getElem hi'] <;> rfl
        refine set_update_ints ((Walks.list h3 _ l ne us).toS) s.heap.objs.size nf ys lenU few val (us.size - 0) 0 _ (by omega) (Nat.zero_le _) ⟨⟨_, Heap.get?_push_size _ rfl, rfl, rfl⟩, lst1.push _⟩ ?_ ?_
        · have g2 : ((s.heap.push (newSet w)).push { cls := .type "list_iterator", data := .fields #[.ref l, .int 0 0] }).get? s.heap.objs.size = some (newSet w) := Heap.get?_push_of_some _ new
          exact ⟨0, Nat.le_refl 0, setR_new_at g2⟩
        · rintro ⟨h2, g2, d2, t2, o2⟩ c2 mv c3 so
          obtain rfl : g2 = s.gens := mv.gens
          obtain rfl : d2 = s.drawn := mv.drawn
          obtain rfl : o2 = s.os := mv.os
          change wpAny _ _ _ _ _ _
          refine wpAny_pure ?_
          change wpAny _ _ (ret Value.none) _ _ _
          rw [lenU] at c3
          refine wpAny_pure ⟨rfl, h2, t2, c2, rfl, so, c3, fun b o e => ?_⟩
          have hb := Heap.lt_size e
          refine mv.heap b o ?_ (Heap.get?_push_of_some _ (Heap.get?_push_of_some _ e))
          rw [Heap.size_push]
          simp only [List.mem_cons, List.not_mem_nil, or_false, not_or]
          exact ⟨Nat.ne_of_lt hb, Nat.ne_of_lt (Nat.lt_succ_of_lt hb)⟩
      · cases r2 with
        | error e => exact hr2
        | ok fl2 =>
          cases fl2 with
          | ret r =>
            obtain ⟨rfl, h2, tk, c2, rfl, so, c3, k⟩ := hr2
            repeat (any_goals (first | assumption | wp_step))
            exact q _ _ _ so c3 k
          | _ => exact hr2.elim
    | _ => exact hr.elim
end
/-- how many different ones -/
theorem setR_count {w : World} {h : Heap} {a : Addr} {ys : List Int} {c : Nat} (R : SetR w h a (fun j => decide (j ∈ ys)) c) : c = ys.length ↔ ys.Nodup := by
  obtain ⟨o, es, ep, t, _, _, _, _, nd, mem, _, _, hc, _⟩ := R
  have m : ∀ k, k ∈ es.toList.map keyOf ↔ k ∈ ys := fun k => by
    rw [← mem k]
    simp
  have l1 : (es.toList.map keyOf).length = c := by rw [List.length_map, Array.length_toList, hc]
  rw [← l1]
  exact count_nodup nd m
theorem setR_within {w : World} {h : Heap} {a : Addr} {ys : List Int} {c : Nat} (R : SetR w h a (fun j => decide (j ∈ ys)) c) (zs : List Int) (sub : ys ⊆ zs) : c ≤ zs.length := by
  obtain ⟨o, es, ep, t, _, _, _, _, nd, mem, _, _, hc, _⟩ := R
  have l1 : (es.toList.map keyOf).length = c := by rw [List.length_map, Array.length_toList, hc]
  rw [← l1]
  refine nd.length_le_of_subset fun k hk => sub ?_
  have := (mem k).mpr hk
  simpa using this
section
variable {X : Cx}
def rSetL (K : PySem.W.Frag) (w : World) : List V → Hp → VK → Prop := fun xs H Q => ∃ (l : Addr) (ys : List Int), xs = [.ref l] ∧ SqL K H l (ys.map V.int) ∧ ys.length ≤ 1000 ∧
  ∀ p c, H p = none → c ≤ ys.length → (c = ys.length ↔ ys.Nodup) → (∀ zs : List Int, ys ⊆ zs → c ≤ zs.length) → Q (.ref p) (upd H p (SetO w p (fun j => decide (j ∈ ys)) c))
theorem call_setL (K : PySem.W.Frag) (w : World) (hK : X.K = K) (hw : X.w = w) (hc : X.calm = true) : CallR X (.type "set") (rSetL K w) := by
  subst hK hw
  rintro pins s σ H xs us Q I rv ⟨l, ys, rfl, hq, few, q⟩
  obtain ⟨u, rfl, r⟩ := vals1 rv
  cases r
  obtain ⟨its, rr, pl, _⟩ := I.list hq
  have hi := ints_of_vals rr
  have fits : ys.length + 1 < scanBound := by
    unfold scanBound
    omega
  refine set_of_ints (I.ok.hd hc) pl.isList (by simpa using hi) fits fun h2 tk c R c1 k => ?_
  have J : Inv X pins σ (upd H s.heap.objs.size (SetO X.w s.heap.objs.size (fun j => decide (j ∈ ys)) c)) { s with heap := h2, toks := tk } := I.laid (t' := tk) k (Nat.le_refl _) (setO_new (P := X.prog) (H := H) R)
  exact ⟨.ref _, _, J, rfl, q _ c (I.hok.fresh (Nat.le_refl _)) c1 (setR_count R) (setR_within R)⟩
def rLenS (w : World) : List V → Hp → VK → Prop := fun xs H Q => ∃ (a : Addr) (S : Int → Bool) (n : Nat), xs = [.ref a] ∧ H a = some (SetO w a S n) ∧ n < 1000000 ∧ Q (.int n) H
theorem call_lenS (w : World) (hw : X.w = w) : CallR X (.builtin "len") (rLenS w) := by
  subst hw
  rintro pins s σ H xs us Q I rv ⟨a, S, n, rfl, ha, few, q⟩
  obtain ⟨u, rfl, r⟩ := vals1 rv
  cases r
  obtain ⟨o, es, ep, t, ho, ex, hd, _, _, _, _, hf, hn, _⟩ := setO_get I ha
  refine call_len_set ho ex hd hf (by rw [hn]; omega) ⟨.int n, H, I.tok _, ⟨_, by rw [hn]⟩, q⟩
theorem cr_sortedSetK (w : World) (hw : X.w = w) (hc : X.calm = true) : CallR X (.builtin "sorted") (rSortedSet w) := by
  subst hw
  exact cr_sortedSet hc
/-- t != () -/
def rNeNilT (K : PySem.W.Frag) : R2 := fun x y H Q => ∃ a b xs, x = .ref a ∧ y = .ref b ∧ SqT K H a xs ∧ SqT K H b [] ∧ Q (.bl (!xs.isEmpty)) H
theorem op_neNilT (K : PySem.W.Frag) (hK : X.K = K) (hu : X.A.units + 64 < cLine) : OpR X (compareOp .NotEq) (rNeNilT K) := by
  subst hK
  rintro pins s σ H x y v u Q I rx ry ⟨a, b, xs, rfl, rfl, ha, hb, q⟩
  obtain rfl : v = Value.ref a := rx
  obtain rfl : u = Value.ref b := ry
  obtain ⟨its, rv, p, _⟩ := I.tuple ha
  obtain ⟨its2, rv2, p2, _⟩ := I.tuple hb
  cases rv2
  have l := rv.length
  have e : (!((List.range (min its.toArray.size (#[] : Array Value).size)).all (fun _ => true) && its.toArray.size == (#[] : Array Value).size)) = !xs.isEmpty := by
    cases xs with
    | nil =>
      cases rv
      rfl
    | cons z zs =>
      have : its.length ≠ 0 := by rw [← l]; simp
      simp [this]
  unfold compareOp
  refine SeqAt.RcNeAt.tuples p p2 (by omega) (e := fun _ => true) (fun j h1 h2 => absurd h2 (by simp)) _ _ _ _ ?_
  rw [e]
  exact ⟨.bl (!xs.isEmpty), H, I, rfl, q⟩
theorem pg_tupK (K : PySem.W.Frag) (hK : X.K = K) {es : List Expr} {k : Nat} {t : TGs} {n : Nat} {pos : Pos} (hc : X.calm = true) (h : PGs X es t)
    (hn : (assignEach es X.env).length = n := by rfl) (hst : (assignEach es X.env).findIdx? (·.1) = none := by rfl) : PG X (.Tuple es k pos) (gTup K n t) := by
  subst hK
  exact pg_tup hc h hn hst
end
end Xby

set_option Elab.async false
set_option linter.all false
set_option maxRecDepth 100000
set_option maxHeartbeats 4000000
namespace Xby
open PySem PySem.Spec PyProof.Rows L2
/-! ## comprehensions whose elements are told beforehand, in a heap that only grows -/
section
variable {J : It} {n : Nat} {G : Hp → Prop} {Y : Nat → Hp → V → Hp → Prop}
/-- what stands in the list behind the first m turns -/
def kept (f : Nat → V) (p : Nat → Bool) (m : Nat) : List V := ((List.range m).filter p).map f
theorem kept_len (f : Nat → V) (p : Nat → Bool) (m : Nat) : (kept f p m).length ≤ m := by
  unfold kept
  rw [List.length_map]
  exact Nat.le_trans (List.length_filter_le _ _) (by simp)
theorem kept_succ (f : Nat → V) (p : Nat → Bool) (m : Nat) : kept f p (m + 1) = kept f p m ++ (if p m then [f m] else []) := by
  unfold kept
  rw [List.range_succ, List.filter_append, List.map_append]
  congr 1
  cases h : p m <;> simp [h]
theorem lc_grow (w : Walk J n G Y) {g : TG} {tt : TT} {te : TE} {vs : List Nat} {σ : L2.St} {H1 : Hp} {D : Addr} {Qd : Hp → Prop} (nD : H1 D = none) (few : n < sizeLine) (f : Nat → V) (p : Nat → Bool)
    (hG : ∀ H', Same H1 H' → G H')
    (hs : ∀ i x H H' (Z : VK) (N : Hp → Prop), i < n → Same H1 H → Y i H x H' → (∀ H'', Same H H'' → p i = true → Z (f i) H'') → (∀ H'', Same H H'' → p i = false → N H'') →
      g x (wipe σ vs) H' fun σ2 H2 => wipe σ2 vs = wipe σ vs ∧ tt σ2 H2 fun b H3 => if b = true then te σ2 H3 Z else N H3)
    (hd : ∀ H, Same H1 H → H D = some (.lst (kept f p n)) → Qd H) :
    ∃ W : Nat → Nat → Hp → Prop, (∃ m, W 0 m (upd H1 D (.lst []))) ∧ ∀ i m H, W i m H →
      (J.stop i H ∧ Qd H) ∨ (J.go i H ∧ ∃ Nx : Hp → Prop, (∀ H', Nx H' → ∃ m', m' < m ∧ W (i + 1) m' H') ∧ ∀ x H', J.yld i H x H' → g x (wipe σ vs) H' fun σ2 H2 => wipe σ2 vs = wipe σ vs ∧ tt σ2 H2 fun b H3 =>
        if b = true then te σ2 H3 fun y H4 => ∃ acc, H4 D = some (.lst acc) ∧ acc.length < sizeLine ∧ Nx (upd H4 D (.lst (acc ++ [y]))) else Nx H3) := by
  refine lc_it w (fun i H => i ≤ n ∧ Same H1 H ∧ H D = some (.lst (kept f p i))) ⟨Nat.zero_le _, Same.one nD, upd_same⟩ (fun i H _ z => hG H z.2.1) ?_ (fun H z => hd H z.2.1 z.2.2)
  rintro i x H H' hi ⟨hi', s1, hD⟩ y
  refine hs i x H H' _ _ hi s1 y (fun H'' s2 pi => ⟨_, s2 _ _ hD, Nat.lt_of_le_of_lt (kept_len _ _ _) (by omega), hi, ?_, ?_⟩) (fun H'' s2 pi => ⟨hi, s1.trans s2, ?_⟩)
  · exact Same.updN (s1.trans s2) nD
  · rw [upd_same, kept_succ, pi]
    rfl
  · rw [s2 _ _ hD, kept_succ, pi]
    simp
end
/-! over a tuple, a list, a range -/
section
variable {K : PySem.W.Frag} {a : Addr} {xs : List V} {g : TG} {tt : TT} {te : TE} {vs : List Nat} {σ : L2.St} {H1 : Hp} {D : Addr} {Qd : Hp → Prop}
theorem lc_growT (hx : SqT K H1 a xs) (nD : H1 D = none) (few : xs.length < sizeLine) (f : Nat → V) (p : Nat → Bool)
    (hs : ∀ i x H (Z : VK) (N : Hp → Prop), xs[i]? = some x → Same H1 H → (∀ H'', Same H H'' → p i = true → Z (f i) H'') → (∀ H'', Same H H'' → p i = false → N H'') →
      g x (wipe σ vs) H fun σ2 H2 => wipe σ2 vs = wipe σ vs ∧ tt σ2 H2 fun b H3 => if b = true then te σ2 H3 Z else N H3)
    (hd : ∀ H, Same H1 H → H D = some (.lst (kept f p xs.length)) → Qd H) :
    ∃ W : Nat → Nat → Hp → Prop, (∃ m, W 0 m (upd H1 D (.lst []))) ∧ ∀ i m H, W i m H →
      ((Itt K a).stop i H ∧ Qd H) ∨ ((Itt K a).go i H ∧ ∃ Nx : Hp → Prop, (∀ H', Nx H' → ∃ m', m' < m ∧ W (i + 1) m' H') ∧ ∀ x H', (Itt K a).yld i H x H' → g x (wipe σ vs) H' fun σ2 H2 => wipe σ2 vs = wipe σ vs ∧ tt σ2 H2 fun b H3 =>
        if b = true then te σ2 H3 fun y H4 => ∃ acc, H4 D = some (.lst acc) ∧ acc.length < sizeLine ∧ Nx (upd H4 D (.lst (acc ++ [y]))) else Nx H3) := by
  refine lc_tup (K := K) (a := a) (xs := xs) (fun i H => i ≤ xs.length ∧ Same H1 H ∧ H D = some (.lst (kept f p i))) ⟨Nat.zero_le _, Same.one nD, upd_same⟩ (fun i H _ z => hx.ext z.2.1) ?_ (fun H z => hd H z.2.1 z.2.2)
  rintro i x H hi ⟨hi', s1, hD⟩
  have il := (List.getElem?_eq_some_iff.mp hi).1
  refine hs i x H _ _ hi s1 (fun H'' s2 pi => ⟨_, s2 _ _ hD, Nat.lt_of_le_of_lt (kept_len _ _ _) (by omega), il, ?_, ?_⟩) (fun H'' s2 pi => ⟨il, s1.trans s2, ?_⟩)
  · exact Same.updN (s1.trans s2) nD
  · rw [upd_same, kept_succ, pi]
    rfl
  · rw [s2 _ _ hD, kept_succ, pi]
    simp
theorem lc_growL (hx : SqL K H1 a xs) (nD : H1 D = none) (few : xs.length < sizeLine) (f : Nat → V) (p : Nat → Bool)
    (hs : ∀ i x H (Z : VK) (N : Hp → Prop), xs[i]? = some x → Same H1 H → (∀ H'', Same H H'' → p i = true → Z (f i) H'') → (∀ H'', Same H H'' → p i = false → N H'') →
      g x (wipe σ vs) H fun σ2 H2 => wipe σ2 vs = wipe σ vs ∧ tt σ2 H2 fun b H3 => if b = true then te σ2 H3 Z else N H3)
    (hd : ∀ H, Same H1 H → H D = some (.lst (kept f p xs.length)) → Qd H) :
    ∃ W : Nat → Nat → Hp → Prop, (∃ m, W 0 m (upd H1 D (.lst []))) ∧ ∀ i m H, W i m H →
      ((Itl K a).stop i H ∧ Qd H) ∨ ((Itl K a).go i H ∧ ∃ Nx : Hp → Prop, (∀ H', Nx H' → ∃ m', m' < m ∧ W (i + 1) m' H') ∧ ∀ x H', (Itl K a).yld i H x H' → g x (wipe σ vs) H' fun σ2 H2 => wipe σ2 vs = wipe σ vs ∧ tt σ2 H2 fun b H3 =>
        if b = true then te σ2 H3 fun y H4 => ∃ acc, H4 D = some (.lst acc) ∧ acc.length < sizeLine ∧ Nx (upd H4 D (.lst (acc ++ [y]))) else Nx H3) := by
  refine lc_list (K := K) (a := a) (xs := xs) (fun i H => i ≤ xs.length ∧ Same H1 H ∧ H D = some (.lst (kept f p i))) ⟨Nat.zero_le _, Same.one nD, upd_same⟩ (fun i H _ z => hx.ext z.2.1) ?_ (fun H z => hd H z.2.1 z.2.2)
  rintro i x H hi ⟨hi', s1, hD⟩
  have il := (List.getElem?_eq_some_iff.mp hi).1
  refine hs i x H _ _ hi s1 (fun H'' s2 pi => ⟨_, s2 _ _ hD, Nat.lt_of_le_of_lt (kept_len _ _ _) (by omega), il, ?_, ?_⟩) (fun H'' s2 pi => ⟨il, s1.trans s2, ?_⟩)
  · exact Same.updN (s1.trans s2) nD
  · rw [upd_same, kept_succ, pi]
    rfl
  · rw [s2 _ _ hD, kept_succ, pi]
    simp
theorem lc_growR {lo : Int} {n : Nat} (nD : H1 D = none) (few : n < sizeLine) (f : Nat → V) (p : Nat → Bool)
    (hs : ∀ i H (Z : VK) (N : Hp → Prop), i < n → Same H1 H → (∀ H'', Same H H'' → p i = true → Z (f i) H'') → (∀ H'', Same H H'' → p i = false → N H'') →
      g (.int (lo + i)) (wipe σ vs) H fun σ2 H2 => wipe σ2 vs = wipe σ vs ∧ tt σ2 H2 fun b H3 => if b = true then te σ2 H3 Z else N H3)
    (hd : ∀ H, Same H1 H → H D = some (.lst (kept f p n)) → Qd H) :
    ∃ W : Nat → Nat → Hp → Prop, (∃ m, W 0 m (upd H1 D (.lst []))) ∧ ∀ i m H, W i m H →
      ((Itr lo n).stop i H ∧ Qd H) ∨ ((Itr lo n).go i H ∧ ∃ Nx : Hp → Prop, (∀ H', Nx H' → ∃ m', m' < m ∧ W (i + 1) m' H') ∧ ∀ x H', (Itr lo n).yld i H x H' → g x (wipe σ vs) H' fun σ2 H2 => wipe σ2 vs = wipe σ vs ∧ tt σ2 H2 fun b H3 =>
        if b = true then te σ2 H3 fun y H4 => ∃ acc, H4 D = some (.lst acc) ∧ acc.length < sizeLine ∧ Nx (upd H4 D (.lst (acc ++ [y]))) else Nx H3) := by
  refine lc_range (lo := lo) (n := n) (fun i H => i ≤ n ∧ Same H1 H ∧ H D = some (.lst (kept f p i))) ⟨Nat.zero_le _, Same.one nD, upd_same⟩ ?_ (fun H z => hd H z.2.1 z.2.2)
  rintro i H hi ⟨hi', s1, hD⟩
  refine hs i H _ _ hi s1 (fun H'' s2 pi => ⟨_, s2 _ _ hD, Nat.lt_of_le_of_lt (kept_len _ _ _) (by omega), hi, ?_, ?_⟩) (fun H'' s2 pi => ⟨hi, s1.trans s2, ?_⟩)
  · exact Same.updN (s1.trans s2) nD
  · rw [upd_same, kept_succ, pi]
    rfl
  · rw [s2 _ _ hD, kept_succ, pi]
    simp
end
theorem kept_all (f : Nat → V) (m : Nat) : kept f (fun _ => true) m = (List.range m).map f := by
  unfold kept
  rw [List.filter_eq_self.mpr fun _ _ => rfl]
theorem kept_map {α : Type} (xs : List α) (d : α) (f : α → V) : kept (fun i => f (xs.getD i d)) (fun _ => true) xs.length = xs.map f := by
  rw [kept_all]
  apply List.ext_getElem
  · simp
  · intro i h1 h2
    have : i < xs.length := by simpa using h1
    simp [this]
theorem kept_filter {α : Type} (d : α) (f : α → V) (p : α → Bool) : ∀ (xs : List α), kept (fun i => f (xs.getD i d)) (fun i => p (xs.getD i d)) xs.length = (xs.filter p).map f := by
  intro xs
  unfold kept
  have e : xs = (List.range xs.length).map fun i => xs.getD i d := by
    apply List.ext_getElem
    · simp
    · intro i h1 h2
      simp [h1]
  conv => rhs; rw [e]
  rw [List.filter_map, List.map_map]
  rfl
end Xby

set_option Elab.async false
set_option linter.all false
set_option maxRecDepth 100000
set_option maxHeartbeats 4000000
/-! # tables, pairs and alignments as they lie in the heap; what a program's top has -/
namespace Xby
open PySem L2
/-! ## the top -/
structure Txt (K : PySem.W.Frag) (mg : Str → Option Value) where
  C : Addr
  EK : Addr
  ER : Addr
  EW : Addr
  EM : Addr
  iK : Addr
  iR : Addr
  iW : Addr
  iM : Addr
  t1 : Tok
  t2 : Tok
  t3 : Tok
  t4 : Tok
  eK : PySem.LowV.LowTxt K mg "BadColumns" "BadColumns.__init__" EK iK
  eR : PySem.LowV.LowTxt K mg "BadRows" "BadRows.__init__" ER iR
  eW : PySem.LowV.LowTxt K mg "BadRow" "BadRow.__init__" EW iW
  eM : PySem.LowL.LowTxt K mg "TooMany" "TooMany.__init__" EM iM
  cl : Cls K C
  n_columns : NoAttr K C "columns"
  n_rows : NoAttr K C "rows"
  g_Table : mg "Table" = some (.ref C)
  c_LONGEST_WORD : mg "LONGEST_WORD" = some (.int 8 t1)
  c_GREATEST_NUMBER : mg "GREATEST_NUMBER" = some (.int 999 t2)
  c_MOST_COLUMNS : mg "MOST_COLUMNS" = some (.int 3 t3)
  c_MOST_ROWS : mg "MOST_ROWS" = some (.int 6 t4)
  b_abs : mg "abs" = none
  b_all : mg "all" = none
  b_any : mg "any" = none
  b_bool : mg "bool" = none
  b_dict : mg "dict" = none
  b_enumerate : mg "enumerate" = none
  b_int : mg "int" = none
  b_isinstance : mg "isinstance" = none
  b_len : mg "len" = none
  b_list : mg "list" = none
  b_max : mg "max" = none
  b_min : mg "min" = none
  b_range : mg "range" = none
  b_repr : mg "repr" = none
  b_reversed : mg "reversed" = none
  b_set : mg "set" = none
  b_sorted : mg "sorted" = none
  b_str : mg "str" = none
  b_sum : mg "sum" = none
  b_tuple : mg "tuple" = none
  b_zip : mg "zip" = none
/-! ## cells, rows, tables -/
def cellV (v : V) : Bool := flatC v && cellD (datC v)
inductive RowsK (K : PySem.W.Frag) (H : Hp) (wd : Nat) : List V → List (List V) → Prop
  | nil : RowsK K H wd [] []
  | cons {a : Addr} {r : List V} {vs : List V} {rs : List (List V)} : SqT K H a r → r.length = wd → (∀ v ∈ r, cellV v = true) → RowsK K H wd vs rs → RowsK K H wd (.ref a :: vs) (r :: rs)
section
variable {K : PySem.W.Frag} {H H' : Hp} {wd n : Nat} {p a : Addr} {xs : List V} {rs : List (List V)}
theorem RowsK.len (h : RowsK K H wd xs rs) : xs.length = rs.length := by
  induction h with
  | nil => rfl
  | cons _ _ _ _ ih => simp [ih]
theorem RowsK.same (h : RowsK K H wd xs rs) (s : Same H H') : RowsK K H' wd xs rs := by
  induction h with
  | nil => exact .nil
  | cons e l m _ ih => exact .cons (e.ext s) l m ih
theorem RowsK.get (h : RowsK K H wd xs rs) : ∀ {i : Nat} {x : V}, xs[i]? = some x → ∃ b r, x = .ref b ∧ rs[i]? = some r ∧ SqT K H b r ∧ r.length = wd ∧ ∀ v ∈ r, cellV v = true := by
  induction h with
  | nil => exact fun e => by simp at e
  | @cons b r _ _ e l m _ ih =>
    intro i x hx
    cases i with
    | zero =>
      obtain rfl : V.ref b = x := by simpa using hx
      exact ⟨b, r, rfl, rfl, e, l, m⟩
    | succ i => exact ih (by simpa using hx)
theorem RowsK.snoc {r : List V} (h : RowsK K H wd xs rs) (e : SqT K H a r) (l : r.length = wd) (m : ∀ v ∈ r, cellV v = true) : RowsK K H wd (xs ++ [.ref a]) (rs ++ [r]) := by
  induction h with
  | nil => exact .cons e l m .nil
  | cons e' l' m' _ ih => exact .cons e' l' m' ih
theorem cellV_flat {v : V} (h : cellV v = true) : flatC v = true := by
  unfold cellV at h
  rw [Bool.and_eq_true] at h
  exact h.1
theorem cellV_cell {v : V} (h : cellV v = true) : cellD (datC v) = true := by
  unfold cellV at h
  rw [Bool.and_eq_true] at h
  exact h.2
theorem RowsK.dq (h : RowsK K H wd xs rs) : DqAll K H xs (rs.map fun r => .tuple (r.map datC)) := by
  induction h with
  | nil => exact .nil
  | cons e l m _ ih => exact .cons (.tup e (DqAll.flat fun v hv => cellV_flat (m v hv))) ih
theorem seqBut {a : Addr} {xs : List V} (h : SqT K H a xs) (pot : Pot H p n) (b : But p H H') : SqT K H' a xs := ((seqWo h pot).ext (wo_but b)).ext wo_same
theorem RowsK.but (h : RowsK K H wd xs rs) (pot : Pot H p n) (b : But p H H') : RowsK K H' wd xs rs := by
  induction h with
  | nil => exact .nil
  | cons e l m _ ih => exact .cons (seqBut e pot b) l m ih
end
def intV : V → Bool
  | .int _ => true
  | _ => false
theorem intV_not {v : V} (h : ∀ lo hi, okV lo hi v = false) : intV v = false := by
  cases v with
  | int i => exact absurd (h i i) (by simp [okV])
  | _ => rfl
theorem intV_is {v : V} (h : intV v = true) : ∃ i, v = .int i := by
  cases v with
  | int i => exact ⟨i, rfl⟩
  | _ => cases h
def flds (c r : V) : List (Str × V) := putF "rows" r (putF "columns" c [])
theorem l_columns (c r : V) : (flds c r).lookup ("columns" : Str) = some c := by
  unfold flds
  rw [lookup_putF, if_neg (by decide +kernel), lookup_putF, if_pos rfl]
theorem l_rows (c r : V) : (flds c r).lookup ("rows" : Str) = some r := by
  unfold flds
  rw [lookup_putF, if_pos rfl]
/-- a table at a: its names, its rows -/
structure Tab (K : PySem.W.Frag) (C : Addr) (H : Hp) (a : Addr) (hs : List Str) (rs : List (List V)) (dx ac ar : Addr) (xs : List V) : Prop where
  at_ : H a = some (.ins C dx (flds (.ref ac) (.ref ar)))
  c : SqT K H ac (hs.map V.str)
  r : SqT K H ar xs
  rows : RowsK K H hs.length xs rs
  w1 : 1 ≤ hs.length
  w3 : hs.length ≤ 3
  hw : ∀ h ∈ hs, wordS h = true
  nd : hs.Nodup
  r6 : rs.length ≤ 6
def IsTab (K : PySem.W.Frag) (C : Addr) (H : Hp) (a : Addr) (hs : List Str) (rs : List (List V)) : Prop := ∃ dx ac ar xs, Tab K C H a hs rs dx ac ar xs
section
variable {K : PySem.W.Frag} {C : Addr} {H H' : Hp} {a p : Addr} {hs : List Str} {rs : List (List V)} {n : Nat}
theorem IsTab.same (t : IsTab K C H a hs rs) (s : Same H H') : IsTab K C H' a hs rs := by
  obtain ⟨dx, ac, ar, xs, t⟩ := t
  exact ⟨dx, ac, ar, xs, s _ _ t.at_, t.c.ext s, t.r.ext s, t.rows.same s, t.w1, t.w3, t.hw, t.nd, t.r6⟩
theorem IsTab.but (t : IsTab K C H a hs rs) (pot : Pot H p n) (b : But p H H') : IsTab K C H' a hs rs := by
  obtain ⟨dx, ac, ar, xs, t⟩ := t
  have ne : a ≠ p := by
    rintro rfl
    obtain ⟨_, _, _, q, _⟩ := pot
    rw [t.at_] at q
    cases q
  exact ⟨dx, ac, ar, xs, b _ _ ne t.at_, seqBut t.c pot b, seqBut t.r pot b, t.rows.but pot b, t.w1, t.w3, t.hw, t.nd, t.r6⟩
theorem Tab.len (t : IsTab K C H a hs rs) : 1 ≤ hs.length ∧ hs.length ≤ 3 ∧ rs.length ≤ 6 := by
  obtain ⟨dx, ac, ar, xs, t⟩ := t
  exact ⟨t.w1, t.w3, t.r6⟩
end
theorem dq_strs {K : PySem.W.Frag} {H : Hp} : ∀ hs : List Str, DqAll K H (hs.map V.str) (hs.map PyData.str)
  | [] => .nil
  | h :: hs => .cons (.str h) (dq_strs hs)
/-! ## pairs -/
def pairD (m o : Nat) : PyData → Bool
  | .tuple [.int i, .int j] => decide (0 ≤ i ∧ i < m) && decide (0 ≤ j ∧ j < o)
  | _ => false
def prD : PyData → Int × Int
  | .tuple [.int i, .int j] => (i, j)
  | _ => (0, 0)
def pairsD (m o : Nat) : PyData → Bool
  | .tuple ds => ds.all (pairD m o) && okPs (ds.map prD)
  | _ => false
def nilD : PyData → Bool
  | .tuple [] => true
  | _ => false
def laidD (m o r q : Nat) : PyData → Bool
  | .tuple [a, b] => pairsD m o a && pairsD r q b && (!nilD a || nilD b)
  | _ => false
def datP (p : Int × Int) : PyData := .tuple [.int p.1, .int p.2]
/-- pairs of ints, as items -/
inductive Prs (K : PySem.W.Frag) (H : Hp) : List V → List (Int × Int) → Prop
  | nil : Prs K H [] []
  | cons {a : Addr} {i j : Int} {vs : List V} {ps : List (Int × Int)} : SqT K H a [.int i, .int j] → Prs K H vs ps → Prs K H (.ref a :: vs) ((i, j) :: ps)
section
variable {K : PySem.W.Frag} {H H' : Hp} {n : Nat} {p a : Addr} {xs : List V} {ps : List (Int × Int)}
theorem Prs.len (h : Prs K H xs ps) : xs.length = ps.length := by
  induction h with
  | nil => rfl
  | cons _ _ ih => simp [ih]
theorem Prs.same (h : Prs K H xs ps) (s : Same H H') : Prs K H' xs ps := by
  induction h with
  | nil => exact .nil
  | cons e _ ih => exact .cons (e.ext s) ih
theorem Prs.but (h : Prs K H xs ps) (pot : Pot H p n) (b : But p H H') : Prs K H' xs ps := by
  induction h with
  | nil => exact .nil
  | cons e _ ih => exact .cons (seqBut e pot b) ih
theorem Prs.get (h : Prs K H xs ps) : ∀ {i : Nat} {x : V}, xs[i]? = some x → ∃ b, x = .ref b ∧ ps[i]? = some (ps.getD i (0, 0)) ∧ SqT K H b [.int (ps.getD i (0, 0)).1, .int (ps.getD i (0, 0)).2] := by
  induction h with
  | nil => exact fun e => by simp at e
  | @cons b i j _ _ e _ ih =>
    intro k x hx
    cases k with
    | zero =>
      obtain rfl : V.ref b = x := by simpa using hx
      exact ⟨b, rfl, rfl, e⟩
    | succ k =>
      obtain ⟨b, h1, h2, h3⟩ := ih (i := k) (by simpa using hx)
      exact ⟨b, h1, by simpa using h2, by simpa using h3⟩
theorem Prs.snoc {i j : Int} (h : Prs K H xs ps) (e : SqT K H a [.int i, .int j]) : Prs K H (xs ++ [.ref a]) (ps ++ [(i, j)]) := by
  induction h with
  | nil => exact .cons e .nil
  | cons e' _ ih => exact .cons e' ih
theorem Prs.dq (h : Prs K H xs ps) : DqAll K H xs (ps.map datP) := by
  induction h with
  | nil => exact .nil
  | cons e _ ih => exact .cons (.tup e (.cons (.int _) (.cons (.int _) .nil))) ih
theorem Prs.of {ds : List PyData} {m o : Nat} (h : DqAll K H xs ds) (all : ds.all (pairD m o) = true) : Prs K H xs (ds.map prD) ∧ ds = (ds.map prD).map datP ∧ ∀ q ∈ ds.map prD, (0 ≤ q.1 ∧ q.1 < m) ∧ 0 ≤ q.2 ∧ q.2 < o := by
  induction xs generalizing ds with
  | nil =>
    cases h
    exact ⟨.nil, rfl, by simp⟩
  | cons x xs ih =>
    cases h with
    | @cons _ _ d ds h1 h2 =>
      rw [List.all_cons, Bool.and_eq_true] at all
      obtain ⟨a1, a2, a3⟩ := ih h2 all.2
      have one := all.1
      unfold pairD at one
      split at one
      · rename_i i j
        rw [Bool.and_eq_true] at one
        cases h1 with
        | tup hs hd =>
          cases hd with
          | cons i1 r1 =>
            cases r1 with
            | cons i2 r2 =>
              cases r2
              cases i1
              cases i2
              refine ⟨.cons hs a1, ?_, fun q hq => ?_⟩
              · rw [List.map_cons, List.map_cons, ← a2]
                rfl
              · rw [List.map_cons] at hq
                rcases List.mem_cons.mp hq with rfl | hq
                · exact ⟨of_decide_eq_true one.1, of_decide_eq_true one.2⟩
                · exact a3 q hq
      · cases one
end
theorem pairsD_map {m o : Nat} {ps : List (Int × Int)} (hb : ∀ q ∈ ps, (0 ≤ q.1 ∧ q.1 < m) ∧ 0 ≤ q.2 ∧ q.2 < o) : pairsD m o (.tuple (ps.map datP)) = okPs ps := by
  have e1 : (ps.map datP).all (pairD m o) = true := by
    rw [List.all_map, List.all_eq_true]
    intro q hq
    obtain ⟨h1, h2⟩ := hb q hq
    show (decide _ && decide _) = true
    rw [decide_eq_true h1, decide_eq_true h2]
    rfl
  have e2 : (ps.map datP).map prD = ps := by
    rw [List.map_map]
    exact List.map_id'' (fun q => rfl) ps
  show ((ps.map datP).all (pairD m o) && okPs ((ps.map datP).map prD)) = okPs ps
  rw [e1, e2, Bool.true_and]
end Xby
namespace Xby
open PySem L2
theorem sh_word {d : PyData} (h : wordD d = true) : Sh d := by
  rintro x rfl
  have h : wordS x = true := h
  unfold wordS at h
  rw [Bool.and_eq_true] at h
  have := (of_decide_eq_true h.1).2
  omega
theorem sh_cell {d : PyData} (h : cellD d = true) : Sh d := by
  rintro x rfl
  have h : (false || false || wordD (.str x)) = true := h
  exact sh_word (d := .str x) (by simpa using h) x rfl
theorem tab_two {K : PySem.W.Frag} {H : Hp} {ac ar : Addr} {hs : List Str} {xs : List V} {rs : List (List V)} (hc : SqT K H ac (hs.map V.str)) (hr : SqT K H ar xs) (rows : RowsK K H hs.length xs rs) (w1 : 1 ≤ hs.length) (w3 : hs.length ≤ 3)
    (hw : ∀ h ∈ hs, wordS h = true) (nd : hs.Nodup) (r6 : rs.length ≤ 6) :
    ∃ xs', Two K H (.ref ac) (.ref ar) (.tuple (hs.map PyData.str)) (.tuple (rs.map fun r => .tuple (r.map datC))) xs' ∧ (due (.ref ac) (.ref ar) (.tuple (hs.map PyData.str)) (.tuple (rs.map fun r => .tuple (r.map datC))) xs').1 = .none := by
  have all : ∀ {rs : List (List V)} {xs : List V}, RowsK K H hs.length xs rs → ∀ r ∈ rs, r.length = hs.length ∧ ∀ v ∈ r, cellV v = true := by
    intro rs xs h
    induction h with
    | nil => exact fun r hr => by simp at hr
    | cons _ l m _ ih =>
      intro r hr
      rcases List.mem_cons.mp hr with rfl | hr
      · exact ⟨l, m⟩
      · exact ih r hr
  have all := all rows
  have s1 : Sh1 (.tuple (hs.map PyData.str)) := by
    rintro ds e d hd
    injection e with e
    subst e
    obtain ⟨h, hh, rfl⟩ := List.mem_map.mp hd
    exact sh_word (d := .str h) (hw h hh)
  have s2 : Sh2 (.tuple (rs.map fun r => .tuple (r.map datC))) := by
    rintro ds e d hd
    injection e with e
    subst e
    obtain ⟨r, hr, rfl⟩ := List.mem_map.mp hd
    rintro ds e d hd
    injection e with e
    subst e
    obtain ⟨v, hv, rfl⟩ := List.mem_map.mp hd
    exact sh_cell (cellV_cell ((all r hr).2 v hv))
  obtain ⟨xs', two⟩ := two_of (.tup hc (dq_strs hs)) (.tup hr rows.dq) s1 s2
  refine ⟨xs', two, ?_⟩
  have c : colsD (.tuple (hs.map PyData.str)) = true := by
    show (decide _ && _ && decide _) = true
    have e1 : (hs.map PyData.str).all wordD = true := by
      rw [List.all_map, List.all_eq_true]
      exact hw
    have e2 : (hs.map PyData.str).map strD = hs := by
      rw [List.map_map]
      exact List.map_id'' (fun q => rfl) hs
    rw [e1, e2, decide_eq_true nd, decide_eq_true (by rw [List.length_map]; exact ⟨w1, w3⟩)]
    rfl
  refine congrArg Prod.fst (due_none c (by rw [List.length_map]; omega) (bad_no fun e he => ?_))
  obtain ⟨r, hr, rfl⟩ := List.mem_map.mp he
  obtain ⟨l, m⟩ := all r hr
  show (decide ((r.map datC).length = (hs.map PyData.str).length) && (r.map datC).all cellD) = true
  rw [List.length_map, List.length_map, decide_eq_true l, Bool.true_and, List.all_map, List.all_eq_true]
  exact fun v hv => cellV_cell (m v hv)
end Xby
namespace Xby
open PySem L2
theorem pairD_two (m o : Nat) (d e : PyData) : pairD m o (.tuple [d, e]) = (intD 0 ((m : Int) - 1) d && intD 0 ((o : Int) - 1) e) := by
  have l : ∀ (x : Int) (n : Nat), decide (0 ≤ x ∧ x < (n : Int)) = decide (0 ≤ x ∧ x ≤ (n : Int) - 1) := fun x n => by
    congr 1
    exact propext ⟨fun z => ⟨z.1, by omega⟩, fun z => ⟨z.1, by omega⟩⟩
  cases d <;> cases e <;> first
    | (show (decide _ && decide _) = (decide _ && decide _); rw [l, l]; done)
    | simp [pairD, intD]
theorem pairD_len {m o : Nat} {ds : List PyData} (h : ds.length ≠ 2) : pairD m o (.tuple ds) = false := by
  match ds, h with
  | [], _ => rfl
  | [d], _ => cases d <;> rfl
  | [d, e], h => exact absurd rfl h
  | d :: e :: f :: r, _ => cases d <;> cases e <;> rfl
theorem pairD_not {m o : Nat} {d : PyData} (h : ∀ ds, d ≠ .tuple ds) : pairD m o d = false := by
  cases d with
  | tuple ds => exact absurd rfl (h ds)
  | _ => rfl
theorem laidD_len {m o r q : Nat} {ds : List PyData} (h : ds.length ≠ 2) : laidD m o r q (.tuple ds) = false := by
  match ds, h with
  | [], _ => rfl
  | [d], _ => rfl
  | [d, e], h => exact absurd rfl h
  | d :: e :: f :: r, _ => rfl
/-- no great tuple -/
def Few (d : PyData) : Prop := ∀ ds, d = .tuple ds → ds.length ≤ 1000
def Few1 (d : PyData) : Prop := ∀ ds, d = .tuple ds → ∀ e ∈ ds, Few e
theorem rise_all (ps : List (Int × Int)) : ((List.range (ps.length - 1)).map fun i => decide ((ps.getD i (0, 0)).1 < (ps.getD (i + 1) (0, 0)).1)).all id = decide ((ps.map (·.1)).Pairwise (· < ·)) := by
  rw [Bool.eq_iff_iff, decide_eq_true_iff, ← rise_iff, List.all_map, List.all_eq_true]
  constructor
  · intro h k hk
    rw [List.length_map] at hk
    have := h k (List.mem_range.mpr (by omega))
    have := of_decide_eq_true this
    simpa [List.getD_eq_getElem?_getD, hk, Nat.lt_of_succ_lt hk] using this
  · intro h k hk
    have hk := List.mem_range.mp hk
    have h1 : k + 1 < ps.length := by omega
    have := h k (by rw [List.length_map]; exact h1)
    show decide _ = true
    refine decide_eq_true ?_
    simpa [List.getD_eq_getElem?_getD, h1, Nat.lt_of_succ_lt h1] using this
section
variable {K : PySem.W.Frag} {H : Hp} {v : V} {d : PyData} {m o : Nat}
theorem pairs_tup (h : Dq K H v d) (p : pairsD m o d = true) : ∃ a xs ds, v = .ref a ∧ d = .tuple ds ∧ SqT K H a xs ∧ DqAll K H xs ds := by
  cases d with
  | tuple ds =>
    obtain ⟨a, xs, e, h1, h2⟩ := h.ofTup
    exact ⟨a, xs, ds, e, rfl, h1, h2⟩
  | _ => cases p
theorem nilD_of {xs : List V} {ds : List PyData} (h : DqAll K H xs ds) : xs.isEmpty = nilD (.tuple ds) := by
  cases h <;> rfl
end
end Xby
namespace Xby
open PySem L2
def InB (m o : Nat) (ps : List (Int × Int)) : Prop := ∀ q ∈ ps, (0 ≤ q.1 ∧ q.1 < m) ∧ 0 ≤ q.2 ∧ q.2 < o
/-- an alignment at a -/
def Laid (K : PySem.W.Frag) (H : Hp) (a : Addr) (cs ps : List (Int × Int)) : Prop := ∃ a1 a2 x1 x2, SqT K H a [.ref a1, .ref a2] ∧ SqT K H a1 x1 ∧ Prs K H x1 cs ∧ SqT K H a2 x2 ∧ Prs K H x2 ps
section
variable {K : PySem.W.Frag} {H H' : Hp} {a p b : Addr} {cs ps : List (Int × Int)} {n : Nat} {xs l l' : List V}
theorem Laid.same (h : Laid K H a cs ps) (s : Same H H') : Laid K H' a cs ps := by
  obtain ⟨a1, a2, x1, x2, h1, h2, h3, h4, h5⟩ := h
  exact ⟨a1, a2, x1, x2, h1.ext s, h2.ext s, h3.same s, h4.ext s, h5.same s⟩
theorem Laid.but (h : Laid K H a cs ps) (pot : Pot H p n) (s : But p H H') : Laid K H' a cs ps := by
  obtain ⟨a1, a2, x1, x2, h1, h2, h3, h4, h5⟩ := h
  exact ⟨a1, a2, x1, x2, seqBut h1 pot s, seqBut h2 pot s, h3.but pot s, seqBut h4 pot s, h5.but pot s⟩
theorem Laid.dq (h : Laid K H a cs ps) : Dq K H (.ref a) (.tuple [.tuple (cs.map datP), .tuple (ps.map datP)]) := by
  obtain ⟨a1, a2, x1, x2, h1, h2, h3, h4, h5⟩ := h
  exact .tup h1 (.cons (.tup h2 h3.dq) (.cons (.tup h4 h5.dq) .nil))
theorem seqUpd (h : SqT K H a xs) (hb : H b = some (.lst l)) : SqT K (upd H b (.lst l')) a xs := by
  rcases h with (h | ⟨o, h⟩) | ⟨o, i, j, h⟩
  · exact .inl (.inl (by rw [upd_ne (by rintro rfl; rw [h] at hb; cases hb)]; exact h))
  · exact .inl (.inr ⟨o, by rw [upd_ne (by rintro rfl; rw [h] at hb; cases hb)]; exact h⟩)
  · exact .inr ⟨o, i, j, h⟩
theorem Prs.updL (h : Prs K H xs ps) (hb : H b = some (.lst l)) : Prs K (upd H b (.lst l')) xs ps := by
  induction h with
  | nil => exact .nil
  | cons e _ ih => exact .cons (seqUpd e hb) ih
end
theorem erase_perm {α : Type} : ∀ (l : List α) (i : Nat) (h : i < l.length), (l[i] :: l.eraseIdx i).Perm l
  | x :: xs, 0, _ => List.Perm.refl _
  | x :: xs, i + 1, h => by
    have h' : i < xs.length := by simpa using h
    exact (List.Perm.swap x xs[i] (xs.eraseIdx i)).trans ((erase_perm xs i h').cons x)
end Xby

set_option Elab.async false
set_option linter.all false
set_option maxRecDepth 100000
set_option maxHeartbeats 4000000
namespace Xby
open PySem L2
def spPairs6 (K : PySem.W.Frag) : Sp := fun vs H Q _ => ∃ (v : V) (d : PyData) (m o : Nat), vs = [v, .int m, .int o] ∧ m ≤ 6 ∧ Dq K H v d ∧ Few d ∧ ∀ H', Same H H' → Q (.bl (pairsD m o d)) H'
theorem dp_ints {K : PySem.W.Frag} {H : Hp} {a : Addr} {ns : List Int} (h : H a = some (.lst (ns.map V.int))) : Dp K H (.ref a) (.list (ns.map PyData.int)) := by
  refine .lst (SqL.of h) ?_
  clear h
  induction ns with
  | nil => exact .nil
  | cons n ns ih => exact .cons (.int n) ih
theorem shaped_ints (ns : List Int) : SeqAt.shaped (.list (ns.map PyData.int)) = true := by
  have h : ∀ ns : List Int, PyData.canLayAll0 (ns.map PyData.int) = true ∧ PyData.depthAll (ns.map PyData.int) = 0 := by
    intro ns
    induction ns with
    | nil => exact ⟨rfl, rfl⟩
    | cons n ns ih => exact ⟨by simp only [List.map_cons, PyData.canLayAll0, PyData.canLay0, ih.1, Bool.and_self], by simp only [List.map_cons, PyData.depthAll, PyData.depth, ih.2]; rfl⟩
  obtain ⟨a, b⟩ := h ns
  exact Shp.shaped (k := 1) ⟨by simpa only [PyData.canLay0] using a, by simp only [PyData.depth, b]; omega⟩ (by decide)
theorem eqv_ints (xs ys : List Int) : PyData.eqv (.list (xs.map PyData.int)) (.list (ys.map PyData.int)) = decide (xs = ys) := by
  simp only [PyData.eqv]
  induction xs generalizing ys with
  | nil => cases ys <;> simp [PyData.eqvAll]
  | cons x xs ih =>
    cases ys with
    | nil => simp [PyData.eqvAll]
    | cons y ys =>
      simp only [List.map_cons, PyData.eqvAll, PyData.eqv, ih]
      rw [Bool.eq_iff_iff]
      simp
end Xby

set_option Elab.async false
set_option linter.all false
set_option maxRecDepth 100000
set_option maxHeartbeats 4000000
namespace Xby
open PySem L2
section
variable {K : PySem.W.Frag} {H H' : Hp} {p L a : Addr} {o u : HO} {xs l I : List V} {w k n : Nat} {cs ps : List (Int × Int)}
theorem wo_upd : wo L (upd H L o) = wo L H := by
  funext b
  unfold wo
  split
  · rfl
  · rename_i h
    exact upd_ne h
theorem wo_wo : Same (wo p (wo L H)) (wo p H) := wo_but (But.of wo_same)
theorem wo_but2 (b : But p H H') (hp : ∀ {o}, H L = some o → H' L = some o ∨ True) : But p (wo L H) (wo L H') := fun c o n e => by
  have nl : c ≠ L := fun z => by rw [z, wo_p] at e; cases e
  exact wo_at nl (b c o n (wo_same c o e))
theorem wo_butL (b : But p H H') : But p (wo L H) (wo L H') := wo_but2 b fun _ => .inr trivial
theorem wo_potL (pot : Pot H p n) (ne : p ≠ L) : Pot (wo L H) p n := by
  obtain ⟨x, y, z, e, r⟩ := pot
  exact ⟨x, y, z, wo_at ne e, r⟩
theorem seqOff (h : SqT K H a xs) (hb : H L = some (.lst l)) : SqT K (wo L H) a xs := by
  rcases h with (h | ⟨o, h⟩) | ⟨o, i, j, h⟩
  · exact .inl (.inl (wo_at (by rintro rfl; rw [h] at hb; cases hb) h))
  · exact .inl (.inr ⟨o, wo_at (by rintro rfl; rw [h] at hb; cases hb) h⟩)
  · exact .inr ⟨o, i, j, h⟩
theorem Prs.off (h : Prs K H xs ps) (hb : H L = some (.lst l)) : Prs K (wo L H) xs ps := by
  induction h with
  | nil => exact .nil
  | cons e _ ih => exact .cons (seqOff e hb) ih
theorem Laid.off (h : Laid K H a cs ps) (hb : H L = some (.lst l)) : Laid K (wo L H) a cs ps := by
  obtain ⟨a1, a2, x1, x2, h1, h2, h3, h4, h5⟩ := h
  exact ⟨a1, a2, x1, x2, seqOff h1 hb, seqOff h2 hb, h3.off hb, seqOff h4 hb, h5.off hb⟩
theorem Laid.dqp (h : Laid K H a cs ps) (pot : Pot H p n) : Dq K (wo p H) (.ref a) (.tuple [.tuple (cs.map datP), .tuple (ps.map datP)]) := by
  obtain ⟨_, _, _, q, _⟩ := pot
  exact (h.off q).dq
/-- what is data where a list is shut away does not hold that list -/
theorem seqShut {od : Obj} (h : SqT K H a xs) (hb : H L = some (.frz od (.lst I))) : SqT K (wo L H) a xs := by
  rcases h with (h | ⟨o, h⟩) | ⟨o, i, j, h⟩
  · exact .inl (.inl (wo_at (by rintro rfl; rw [h] at hb; cases hb) h))
  · exact .inl (.inr ⟨o, wo_at (by rintro rfl; rw [h] at hb; cases hb) h⟩)
  · exact .inr ⟨o, i, j, h⟩
mutual
theorem Dq.shut {od : Obj} (hb : H L = some (.frz od (.lst I))) : ∀ {v : V} {d : PyData}, Dq K H v d → Dq K (wo L H) v d
  | _, _, .non => .non
  | _, _, .bl b => .bl b
  | _, _, .int i => .int i
  | _, _, .str x => .str x
  | _, _, .lst h n a => .lst (wo_at (by rintro rfl; rw [h] at hb; cases hb) h) n (DqAll.shut hb a)
  | _, _, .tup h a => .tup (seqShut h hb) (DqAll.shut hb a)
  | _, _, .dct h a => .dct (wo_at (by rintro rfl; rw [h] at hb; cases hb) h) (DqKv.shut hb a)
theorem DqAll.shut {od : Obj} (hb : H L = some (.frz od (.lst I))) : ∀ {vs : List V} {ds : List PyData}, DqAll K H vs ds → DqAll K (wo L H) vs ds
  | _, _, .nil => .nil
  | _, _, .cons h a => .cons (Dq.shut hb h) (DqAll.shut hb a)
theorem DqKv.shut {od : Obj} (hb : H L = some (.frz od (.lst I))) : ∀ {kvs : List (Key × V)} {ds : List (PyData × PyData)}, DqKv K H kvs ds → DqKv K (wo L H) kvs ds
  | _, _, .nil => .nil
  | _, _, .cons h a => .cons (Dq.shut hb h) (DqKv.shut hb a)
end
theorem wo_shut {od : Obj} (hb : H L = some (.lst I)) : Same (wo p (wo L H)) (wo p (upd H L (.frz od (.lst I)))) := wo_but (But.of fun b o e => by
  have n : b ≠ L := fun z => by rw [z, wo_p] at e; cases e
  rw [upd_ne n]
  exact wo_same b o e)
theorem wo_comm : wo p (wo L H) = wo L (wo p H) := by
  funext b
  unfold wo
  by_cases h1 : b = p <;> by_cases h2 : b = L <;> simp [h1, h2]
/-- a list is shut away, something is done, the list is there again -/
structure Lock (p L : Addr) (I : List V) (od : Obj) (H H' : Hp) : Prop where
  at_ : H' L = some (.frz od (.lst I))
  but : But p H (upd H' L (.lst I))
  off : But p (wo L H) (wo L (upd H' L (.lst I)))
theorem lock_of {od : Obj} (hL : H L = some (.lst I)) (ne : L ≠ p) (b : But p (upd H L (.frz od (.lst I))) H') : Lock p L I od H H' := by
  refine ⟨b L _ ne upd_same, fun c o n e => ?_, ?_⟩
  · by_cases h : c = L
    · subst h
      rw [hL] at e
      rw [upd_same]
      exact e
    · rw [upd_ne h]
      exact b c o n (by rw [upd_ne h]; exact e)
  · have z := wo_butL (L := L) b
    rw [wo_upd] at z
    rw [wo_upd]
    exact z
/-- data made while the list was shut away -/
theorem Okd.shut {od : Obj} {x : V} (h : Okd K p w k H' x) (hb : H' L = some (.frz od (.lst I))) (ne : L ≠ p) : Okd K p w k (wo L (upd H' L (.lst I))) x := by
  obtain ⟨d, q, z⟩ := h
  refine ⟨d, ?_, z⟩
  rw [wo_upd, wo_comm]
  exact q.shut (wo_at ne hb)
end
theorem sz_pair : ∀ i j : Nat, i < 6 → j < 6 → Sz 10 1 (datP ((i : Int), (j : Int))) := by
  have : ∀ i : Fin 6, ∀ j : Fin 6, Sz 10 1 (datP ((i.val : Int), (j.val : Int))) := by decide +kernel
  exact fun i j hi hj => this ⟨i, hi⟩ ⟨j, hj⟩
theorem okPs_len {ps : List (Int × Int)} {m o : Nat} (ok : okPs ps = true) (inb : InB m o ps) : ps.length ≤ m := by
  unfold okPs at ok
  rw [Bool.and_eq_true] at ok
  have nd : (ps.map (·.1)).Nodup := (of_decide_eq_true ok.1).imp fun h => Int.ne_of_lt h
  have := nd.length_le_of_subset (l₂ := (List.range m).map fun i : Nat => (i : Int)) fun x hx => by
    obtain ⟨q, hq, rfl⟩ := List.mem_map.mp hx
    have := (inb q hq).1
    exact List.mem_map.mpr ⟨q.1.toNat, List.mem_range.mpr (by omega), by omega⟩
  rw [List.length_map, List.length_map, List.length_range] at this
  exact this
theorem sz_pairs {ps : List (Int × Int)} {m o : Nat} (hm : m ≤ 6) (ho : o ≤ 6) (ok : okPs ps = true) (inb : InB m o ps) : Sz 66 2 (.tuple (ps.map datP)) := by
  have l := okPs_len ok inb
  refine (Sz.tup (w := 10) (k := 1) fun d hd => ?_).more ?_ (by decide)
  · obtain ⟨q, hq, rfl⟩ := List.mem_map.mp hd
    obtain ⟨⟨h0, h1⟩, h2, h3⟩ := inb q hq
    have := sz_pair q.1.toNat q.2.toNat (by omega) (by omega)
    rw [Int.toNat_of_nonneg h0, Int.toNat_of_nonneg h2] at this
    exact this
  · rw [List.length_map]
    omega
theorem sz_laid {cs ps : List (Int × Int)} {m o r q : Nat} (hm : m ≤ 6) (ho : o ≤ 6) (hr : r ≤ 6) (hq : q ≤ 6) (oc : okPs cs = true) (ic : InB m o cs) (op : okPs ps = true) (ip : InB r q ps) : Sz 134 3 (.tuple [.tuple (cs.map datP), .tuple (ps.map datP)]) := by
  refine (Sz.tup (w := 66) (k := 2) fun d hd => ?_).more (by show 67 * 2 ≤ 134; decide) (by decide)
  simp only [List.mem_cons, List.not_mem_nil, or_false] at hd
  rcases hd with rfl | rfl
  · exact sz_pairs hm ho oc ic
  · exact sz_pairs hr hq op ip
theorem Sz.few {w k : Nat} {d : PyData} (z : Sz w k d) (h : w ≤ 1000) : Few d := by
  rintro ds rfl
  obtain ⟨j, _, s⟩ := z.items
  have := s.len
  omega
theorem Sz.few1 {w k : Nat} {d : PyData} (z : Sz w k d) (h : w ≤ 1000) : Few1 d := by
  rintro ds rfl e he
  obtain ⟨j, _, s⟩ := z.items
  exact (s.mem he).few h
theorem fine_bool (b : Bool) : Fine (.bool b) := by
  have : ∀ b : Bool, Sz 10 1 (.bool b) := by decide +kernel
  exact (this b).fine (by decide) (by decide)
theorem laidD_of {cs ps : List (Int × Int)} {m o r q : Nat} (ic : InB m o cs) (ip : InB r q ps) (oc : okPs cs = true) (op : okPs ps = true) (z : cs = [] → ps = []) : laidD m o r q (.tuple [.tuple (cs.map datP), .tuple (ps.map datP)]) = true := by
  show (pairsD m o _ && pairsD r q _ && (!nilD _ || nilD _)) = true
  rw [pairsD_map ic, pairsD_map ip, oc, op]
  cases cs with
  | nil =>
    rw [z rfl]
    rfl
  | cons c cs => rfl
end Xby
namespace Xby
open PySem L2
section
variable {K : PySem.W.Frag} {C : Addr} {H H' H0 : Hp} {p L a b one other : Addr} {o u : HO} {xs l I : List V} {w k n m : Nat} {cs ps : List (Int × Int)} {hs ks : List Str} {rs qs : List (List V)} {wd : Nat} {x : V}
theorem Okd.more {w' k' : Nat} (h : Okd K p w k H x) (hw : w ≤ w') (hk : k ≤ k') : Okd K p w' k' H x := by
  obtain ⟨d, q, z⟩ := h
  exact ⟨d, q, z.more hw hk⟩
theorem seqButL (h : SqT K H a xs) (hb : H b = some (.lst l)) (s : But b H H') : SqT K H' a xs := by
  rcases h with (h | ⟨o, h⟩) | ⟨o, i, j, h⟩
  · exact .inl (.inl (s a _ (by rintro rfl; rw [h] at hb; cases hb) h))
  · exact .inl (.inr ⟨o, s a _ (by rintro rfl; rw [h] at hb; cases hb) h⟩)
  · exact .inr ⟨o, i, j, h⟩
theorem RowsK.butL (h : RowsK K H wd xs rs) (hb : H b = some (.lst l)) (s : But b H H') : RowsK K H' wd xs rs := by
  induction h with
  | nil => exact .nil
  | cons e l m _ ih => exact .cons (seqButL e hb s) l m ih
theorem IsTab.butL (t : IsTab K C H a hs rs) (hb : H b = some (.lst l)) (s : But b H H') : IsTab K C H' a hs rs := by
  obtain ⟨dx, ac, ar, xs, t⟩ := t
  have ne : a ≠ b := by
    rintro rfl
    rw [t.at_] at hb
    cases hb
  exact ⟨dx, ac, ar, xs, s _ _ ne t.at_, seqButL t.c hb s, seqButL t.r hb s, t.rows.butL hb s, t.w1, t.w3, t.hw, t.nd, t.r6⟩
theorem But.upd1 : But b H (L2.upd H b o) := fun c u n e => by
  rw [upd_ne n]
  exact e
/-- a drawer, a list of data that grows, two tables -/
structure Bk (K : PySem.W.Frag) (C p L one other : Addr) (H0 : Hp) (hs ks : List Str) (rs qs : List (List V)) (w k : Nat) (m : Nat) (I : List V) (H : Hp) : Prop where
  hL : H L = some (.lst I)
  g : ∀ x ∈ I, Okd K p w k (wo L H) x
  t1 : IsTab K C H one hs rs
  t2 : IsTab K C H other ks qs
  pot : Pot H p m
  but : But p H0 H
  ne : L ≠ p
  nw : H0 L = none
  few : I.length ≤ 100000
theorem Bk.next (s : Bk K C p L one other H0 hs ks rs qs w k m I H) (b : But p H H') (pot : Pot H' p n) : Bk K C p L one other H0 hs ks rs qs w k n I H' :=
  ⟨b _ _ s.ne s.hL, all_but s.g (wo_butL b), s.t1.but s.pot b, s.t2.but s.pot b, pot, s.but.trans b, s.ne, s.nw, s.few⟩
theorem Bk.same (s : Bk K C p L one other H0 hs ks rs qs w k m I H) (b : Same H H') : Bk K C p L one other H0 hs ks rs qs w k m I H' := s.next (But.of b) (s.pot.same b)
theorem Bk.more (s : Bk K C p L one other H0 hs ks rs qs w k m I H) (h : m ≤ n) : Bk K C p L one other H0 hs ks rs qs w k n I H := ⟨s.hL, s.g, s.t1, s.t2, s.pot.more h, s.but, s.ne, s.nw, s.few⟩
theorem Bk.add (s : Bk K C p L one other H0 hs ks rs qs w k m I H) (o : Okd K p w k (wo L H) x) (few : I.length < 100000) : Bk K C p L one other H0 hs ks rs qs w k m (I ++ [x]) (upd H L (.lst (I ++ [x]))) := by
  refine ⟨upd_same, fun y hy => ?_, s.t1.butL s.hL But.upd1, s.t2.butL s.hL But.upd1, s.pot.upd s.ne.symm, s.but.updN s.nw, s.ne, s.nw, by rw [List.length_append]; exact few⟩
  rw [wo_upd]
  rcases List.mem_append.mp hy with hy | hy
  · exact s.g y hy
  · obtain rfl : y = x := by simpa using hy
    exact o
/-- behind what was done while the list was shut away -/
theorem Bk.lock {od : Obj} (s : Bk K C p L one other H0 hs ks rs qs w k m I H) (b : But p (upd H L (.frz od (.lst I))) H') (pot : Pot H' p n) : Lock p L I od H H' ∧ Bk K C p L one other H0 hs ks rs qs w k n I (upd H' L (.lst I)) := by
  have lk := lock_of s.hL s.ne b
  exact ⟨lk, s.next lk.but (pot.upd s.ne.symm)⟩
theorem Bk.line (s : Bk K C p L one other H0 hs ks rs qs w k m I H) : I.length < sizeLine := by
  have := s.few
  have : sizeLine = 16777216 := sizeLine_eq
  omega
end
end Xby

set_option Elab.async false
set_option linter.all false
set_option maxRecDepth 100000
set_option maxHeartbeats 4000000
namespace K03
open PySem L2 Xby
def top (i : Nat) : Stmt := PySem.Challenge.pw_tableheld_k03_costs_of_any_value.main.body.getD i (.Pass ⟨0, 0, 0, 0⟩)
def spInteger (K : PySem.W.Frag) : Sp := fun vs H Q _ => ∃ (v : V) (d : PyData), vs = [v] ∧ Dq K H v d ∧ Q (.bl (intV v)) H
def spWithin (K : PySem.W.Frag) : Sp := fun vs H Q _ => ∃ (v : V) (d : PyData) (lo hi : Int), vs = [v, .int lo, .int hi] ∧ Dq K H v d ∧ Q (.bl (okV lo hi v)) H
abbrev fv : Str := "value"
def flds (a b c d e : V) : List (Str × V) := putF "move" e (putF "name" d (putF "column" c (putF "row" b (putF "cell" a []))))
/-- the first that is no cost -/
def bad (vs : List V) : Option V := vs.find? fun v => !okV 1 50 v
def spInit (K : PySem.W.Frag) (C CB : Addr) : Sp := fun vs H Q E => ∃ (x dx : Addr) (a b c d e : V), vs = [.ref x, a, b, c, d, e] ∧ H x = some (.ins C dx []) ∧ (∀ v ∈ [a, b, c, d, e], ∃ z, Dq K H v z) ∧
  (∀ v, bad [a, b, c, d, e] = some v → ∀ (d' : Addr) H', Same H H' → H' d' = some (.xd [(fv, v)]) → E (.ref CB) (some d') H') ∧
  (bad [a, b, c, d, e] = none → ∀ H', But x H H' → H' x = some (.ins C dx (flds a b c d e)) → Q .non H')
structure Txt (K : PySem.W.Frag) (mg : Str → Option Value) (C CB fB : Addr) (t1 t2 : Tok) : Prop where
  low : PySem.LowV.LowTxt K mg "BadCost" "BadCost.__init__" CB fB
  cl : Cls K C
  n_cell : NoAttr K C "cell"
  n_row : NoAttr K C "row"
  n_column : NoAttr K C "column"
  n_name : NoAttr K C "name"
  n_move : NoAttr K C "move"
  g_Costs : mg "Costs" = some (.ref C)
  c_LEAST_COST : mg "LEAST_COST" = some (.int 1 t1)
  c_GREATEST_COST : mg "GREATEST_COST" = some (.int 50 t2)
  b_abs : mg "abs" = none
  b_all : mg "all" = none
  b_any : mg "any" = none
  b_bool : mg "bool" = none
  b_int : mg "int" = none
  b_isinstance : mg "isinstance" = none
  b_len : mg "len" = none
  b_max : mg "max" = none
  b_min : mg "min" = none
  b_range : mg "range" = none
  b_repr : mg "repr" = none
  b_tuple : mg "tuple" = none
  kcc : PySem.W.kitOne K (.ref C) (.ref C) = some true
  kT : ∀ T : String, T ∈ ["NoneType", "tuple", "int", "list"] → PySem.W.kitOne K (.type T) (.ref C) = some false ∧ PySem.W.notFirst K C (.type T) = true
  ca : PySem.W.findIn K (.ref C) "__class__" = some (some (.builtin "object.__class__"))
  cn : PySem.W.specialIn K (.builtin "object.__class__") "__get__" = some (some (.builtin "getset_descriptor.__get__"))
  ct : PySem.W.takesIn K (.builtin "object.__class__") = some true
  cm : PySem.W.mroIn K C (.type "object") = some true
  ne : PySem.W.findIn K (.ref C) "__ne__" = some (some (.builtin "object.__ne__"))
section
variable {P : Program} {w : World} {K : PySem.W.Frag} {mg : Str → Option Value} {base : Heap} {C CB fB : Addr} {t1 t2 : Tok}
abbrev s_is_integer : Stmt := top 4
theorem sc_is_integer : FnScope ["value"] ["value"] (defScope s_is_integer) := ⟨rfl, rfl, rfl, by decide +kernel, rfl, by decide +kernel, by decide +kernel⟩
theorem ok_integer {f : Addr} {fd : FuncData} (F : Fun K "is_integer" "is_integer" s_is_integer f fd) (T : Txt K mg C CB fB t1 t2) : FnOk P w K mg base CX0 1 f fd ["value"] (spInteger K) := by
  refine F.ok sc_is_integer (fun vs H Q E h => ?_) (fun cdv A outer s H vs Q E hr h => ⟨_, (pss_one (ps_ret (pe_and (pe_callB (call_isiK K rfl) (by rfl) T.b_isinstance (by decide +kernel) (pa_cons (pv 0) (pa_cons (pe_bltn (v := .ty "int") (by rfl) T.b_int (by decide +kernel) rfl) pa_nil))) (pe_one (pe_not (pe_callB (call_isiK K rfl) (by rfl) T.b_isinstance (by decide +kernel) (pa_cons (pv 0) (pa_cons (pe_bltn (v := .ty "bool") (by rfl) T.b_bool (by decide +kernel) rfl) pa_nil)))))))), ?_⟩)
  · obtain ⟨_, _, rfl, _⟩ := h
    rfl
  obtain ⟨v, d, rfl, hd, k⟩ := h
  rcases hd.kind with ⟨b, rfl⟩ | ⟨i, rfl⟩ | ⟨T', ty, ⟨kb, ki⟩, no⟩
  · exact ⟨_, rfl, _, _, _, _, _, rfl, .ty _, .base (.bl b), kit_ty kit_bi, _, rfl, _, rfl, _, _, _, _, _, rfl, .ty _, .base (.bl b), kit_ty kit_bb, _, rfl, k⟩
  · exact ⟨_, rfl, _, _, _, _, _, rfl, .ty _, .base (.int i), kit_ty kit_ii, _, rfl, _, rfl, _, _, _, _, _, rfl, .ty _, .base (.int i), kit_ty kit_ib, _, rfl, k⟩
  · rw [intV_not no] at k
    exact ⟨_, rfl, _, _, _, _, _, rfl, .ty _, ty, kit_ty ki, _, rfl, k⟩
abbrev s_is_integer_within : Stmt := top 5
theorem sc_is_integer_within : FnScope ["value", "least", "most"] ["value", "least", "most"] (defScope s_is_integer_within) := ⟨rfl, rfl, rfl, by decide +kernel, rfl, by decide +kernel, by decide +kernel⟩
theorem ok_within {f fI : Addr} {fd fdI : FuncData} (F : Fun K "is_integer_within" "is_integer_within" s_is_integer_within f fd) (T : Txt K mg C CB fB t1 t2)
    (c_is_integer : ∀ base, Ca P w K mg base CX0 "is_integer" 1 ["value"] (spInteger K) fI fdI) : FnOk P w K mg base CX0 2 f fd ["value", "least", "most"] (spWithin K) := by
  have c_is_integer := c_is_integer base
  refine F.ok sc_is_integer_within (fun vs H Q E h => ?_) (fun cdv A outer s H vs Q E hr h => ⟨_, (pss_one (ps_ret (pe_and (pe_call c_is_integer.G (hr.mono (by first | decide | omega)) (by rfl) c_is_integer.g c_is_integer.k c_is_integer.B .nil pass0 (pa_cons (pv 0) pa_nil)) (pe_one (pe_chain op_le op_le (pv 1) (pv 0) (pv 2)))))), ?_⟩)
  · obtain ⟨_, _, _, _, rfl, _⟩ := h
    rfl
  obtain ⟨v, d, lo, hi, rfl, hd, k⟩ := h
  refine ⟨_, rfl, v, d, rfl, hd, _, rfl, ite2 (fun hint => ?_) (fun hn => ?_)⟩
  · obtain ⟨i, rfl⟩ := intV_is hint
    refine ⟨_, rfl, _, rfl, _, _, rfl, rfl, _, rfl, ite2 (fun h1 => ?_) (fun h1 => ?_)⟩
    · refine ⟨_, rfl, _, _, rfl, rfl, ?_⟩
      have e : decide (i ≤ hi) = okV lo hi (.int i) := by
        have := of_decide_eq_true h1
        show _ = decide (lo ≤ i ∧ i ≤ hi)
        congr 1
        exact propext ⟨fun z => ⟨this, z⟩, fun z => z.2⟩
      show Q (.bl (decide (i ≤ hi))) H
      rw [e]
      exact k
    · have e : okV lo hi (.int i) = false := decide_eq_false fun z => h1 (decide_eq_true z.1)
      rw [e] at k
      exact k
  · have e : okV lo hi v = false := by
      cases v with
      | int i => exact absurd rfl hn
      | _ => rfl
    rw [e] at k
    exact k
abbrev s_Costs___init__ : Stmt := inClass (top 9) 0
theorem sc_Costs___init__ : FnScope ["self", "cell", "row", "column", "name", "move", "cost"] ["self", "cell", "row", "column", "name", "move"] (defScope s_Costs___init__) := ⟨rfl, rfl, rfl, by decide +kernel, rfl, by decide +kernel, by decide +kernel⟩
theorem ok_init {f fW : Addr} {fd fdW : FuncData} {kws : List (Str × V)} (F : FunD K "__init__" "Costs.__init__" (defArgs s_Costs___init__) (defBody s_Costs___init__) (defScope s_Costs___init__) [] kws f fd) (T : Txt K mg C CB fB t1 t2)
    (c_is_integer_within : ∀ base, Ca P w K mg base CX0 "is_integer_within" 2 ["value", "least", "most"] (spWithin K) fW fdW) : FnOk P w K mg base (L2.CX P w) 3 f fd ["self", "cell", "row", "column", "name", "move"] (spInit K C CB) := by
  have c_is_integer_within := c_is_integer_within base
  refine F.ok sc_Costs___init__ (fun vs H Q E h => ?_) (fun cdv A outer s H vs Q E hr h => ⟨_, (pss_cons (ps_for (passes_of rfl) rfl (pi_tupK K rfl (pe_tup (pa_cons (pv 1) (pa_cons (pv 2) (pa_cons (pv 3) (pa_cons (pv 4) (pa_cons (pv 5) pa_nil))))))) (pg_name (i := 6) sc_Costs___init__.nd rfl (Or.inl rfl)) (pss_one (ps_if (pt_not (pt_val (pe_call c_is_integer_within.G (hr.mono (by first | decide | omega)) (by rfl) c_is_integer_within.g c_is_integer_within.k c_is_integer_within.B .nil pass0 (pa_cons (pv 6) (pa_cons (pe_glob (v := .int 1) rfl T.c_LEAST_COST ⟨_, rfl⟩) (pa_cons (pe_glob (v := .int 50) rfl T.c_GREATEST_COST ⟨_, rfl⟩) pa_nil)))))) (pss_one (L2.LowV.ps_raiseLow rfl T.low hr (takes_of rfl rfl rfl rfl) (by exact (pa_cons (pv 6) pa_nil)))) pss_nil)))
    (pss_cons (ps_fld (pv 0) (pv 1) rfl)
    (pss_cons (ps_fld (pv 0) (pv 2) rfl)
    (pss_cons (ps_fld (pv 0) (pv 3) rfl)
    (pss_cons (ps_fld (pv 0) (pv 4) rfl)
    (pss_one (ps_fld (pv 0) (pv 5) rfl))))))), ?_⟩)
  · obtain ⟨_, _, _, _, _, _, _, rfl, _⟩ := h
    rfl
  obtain ⟨x, dx, a, b, c, d, e, rfl, hx, hd, kB, kG⟩ := h
  refine ⟨_, rfl, _, rfl, _, rfl, _, rfl, _, rfl, by show 5 ≤ sizeLine; decide, fun t nt => ?_⟩
  have nxt : x ≠ t := ne_of_none hx nt
  have s1 : Same H (upd H t (.tup [a, b, c, d, e])) := Same.upd (Same.refl H) nt
  refine ⟨t, rfl, ⟨_, SqT.of upd_same⟩, for_tup (K := K) (a := t) (xs := [a, b, c, d, e])
    (fun i σ H' => ∃ o, σ = [some (.ref x), some a, some b, some c, some d, some e, o] ∧ H' = upd H t (.tup [a, b, c, d, e]) ∧ ∀ v ∈ [a, b, c, d, e].take i, okV 1 50 v = true)
    ⟨none, rfl, rfl, by simp⟩ (fun i σ H' _ ⟨_, _, e2, _⟩ => by rw [e2]; exact SqT.of upd_same) ?_ ?_⟩
  · rintro i v σ H' hi ⟨o, rfl, rfl, ok⟩
    obtain ⟨z, hz⟩ := hd v (List.mem_of_getElem? hi)
    refine ⟨_, rfl, v, z, 1, 50, rfl, hz.same s1, _, rfl, ?_⟩
    cases hv : okV 1 50 v with
    | true =>
      refine ⟨_, rfl, rfl, fun u hu => ?_⟩
      rw [List.take_succ, hi, List.mem_append] at hu
      rcases hu with hu | hu
      · exact ok u hu
      · obtain rfl : u = v := by simpa using hu
        exact hv
    | false =>
      refine ⟨_, rfl, v, rfl, fun d' nd => ?_⟩
      refine kB v ?_ d' _ (Same.upd s1 nd) upd_same
      have : [a, b, c, d, e] = [a, b, c, d, e].take i ++ v :: [a, b, c, d, e].drop (i + 1) := by
        obtain ⟨h1, h2⟩ := List.getElem?_eq_some_iff.mp hi
        rw [← h2, ← List.drop_eq_getElem_cons h1, List.take_append_drop]
      unfold bad
      rw [this, List.find?_append, List.find?_eq_none.mpr (fun u hu => by rw [ok u hu]; decide), List.find?_cons, hv]
      rfl
  · rintro σ H' ⟨o, rfl, rfl, ok⟩
    have g : bad [a, b, c, d, e] = none := List.find?_eq_none.mpr fun u hu => by rw [ok u hu]; decide
    have hx1 : (upd H t (.tup [a, b, c, d, e])) x = some (.ins C dx []) := by rw [upd_ne nxt]; exact hx
    refine ⟨_, rfl, _, rfl, x, C, dx, _, rfl, hx1, T.cl, T.n_cell, by decide, ?_⟩
    refine ⟨_, rfl, _, rfl, x, C, dx, _, rfl, upd_same, T.cl, T.n_row, by show 1 < 1000; decide, ?_⟩
    refine ⟨_, rfl, _, rfl, x, C, dx, _, rfl, upd_same, T.cl, T.n_column, ?_, ?_⟩
    · exact Nat.lt_of_le_of_lt (Nat.le_trans (length_putF _ _ _) (Nat.succ_le_succ (length_putF _ _ _))) (by decide)
    refine ⟨_, rfl, _, rfl, x, C, dx, _, rfl, upd_same, T.cl, T.n_name, ?_, ?_⟩
    · exact Nat.lt_of_le_of_lt (Nat.le_trans (length_putF _ _ _) (Nat.succ_le_succ (Nat.le_trans (length_putF _ _ _) (Nat.succ_le_succ (length_putF _ _ _))))) (by decide)
    refine ⟨_, rfl, _, rfl, x, C, dx, _, rfl, upd_same, T.cl, T.n_move, ?_, ?_⟩
    · exact Nat.lt_of_le_of_lt (Nat.le_trans (length_putF _ _ _) (Nat.succ_le_succ (Nat.le_trans (length_putF _ _ _) (Nat.succ_le_succ (Nat.le_trans (length_putF _ _ _) (Nat.succ_le_succ (length_putF _ _ _))))))) (by decide)
    refine kG g _ ?_ upd_same
    exact ((((((But.of s1).upd).upd).upd).upd).upd)
end
end K03

set_option Elab.async false
set_option linter.all false
set_option maxRecDepth 100000
set_option maxHeartbeats 4000000
namespace K03
open PySem L2 Xby
section
variable {P : Program} {w : World} {K : PySem.W.Frag} {mg : Str → Option Value} {base : Heap} {C CB fB : Addr} {t1 t2 : Tok}
abbrev s_law_draw : Stmt := top 11
theorem sc_law_draw : FnScope ["_law_pot_here", "_law_many", "_law_digit", "_law_prime", "_law_made_here"] ["_law_pot_here", "_law_many"] (defScope s_law_draw) := ⟨rfl, rfl, rfl, by decide +kernel, rfl, by decide +kernel, by decide +kernel⟩
theorem ok_draw {f : Addr} {fd : FuncData} (F : Fun K "_law_draw" "_law_draw" s_law_draw f fd) (T : Txt K mg C CB fB t1 t2) : FnOk P w K mg base CX0 1 f fd ["_law_pot_here", "_law_many"] spDraw := by
  refine F.ok sc_law_draw (fun vs H Q E h => ?_) (fun cdv A outer s H vs Q E hr h => ⟨_, (pss_cons (ps_if (pt_cmpR op_gt (pe_ix (ix_listK K rfl) (pv 0) pe_int (fun _ _ => rfl)) pe_int (nomark _)) (pss_cons (ps_set (i := 2) sc_law_draw.nd rfl (Or.inl rfl) (pe_op op_mod (pe_callTy call_int1 (by rfl) T.b_int (by decide +kernel) (pa_cons (pe_ix (ix_listK K rfl) (pv 0) pe_int (fun _ _ => rfl)) pa_nil)) (pv 1)))
    (pss_cons (ps_asg (pe_op op_fdivW (pe_ix (ix_listK K rfl) (pv 0) pe_int (fun _ _ => rfl)) (pv 1)) (pg_sub (pv 0) pe_int set_list))
    (pss_one (ps_ret (pv 2))))) pss_nil)
    (pss_cons (ps_asg (pe_op op_add (pe_ix (ix_listK K rfl) (pv 0) pe_int (fun _ _ => rfl)) pe_int) (pg_sub (pv 0) pe_int set_list))
    (pss_cons (ps_set (i := 3) sc_law_draw.nd rfl (Or.inl rfl) (pe_ix (ix_listK K rfl) (pe_lst (pa_cons pe_int (pa_cons pe_int (pa_cons pe_int (pa_cons pe_int (pa_cons pe_int pa_nil)))))) (pe_op op_mod (pe_callTy call_int1 (by rfl) T.b_int (by decide +kernel) (pa_cons (pe_ix (ix_listK K rfl) (pv 0) pe_int (fun _ _ => rfl)) pa_nil)) pe_int) (fun _ _ => rfl)))
    (pss_cons (ps_set (i := 4) sc_law_draw.nd rfl (Or.inl rfl) (pe_op op_mod (pe_callTy call_int1 (by rfl) T.b_int (by decide +kernel) (pa_cons (pe_op op_pow (pe_op op_add (pe_op op_add (pe_ix (ix_listK K rfl) (pv 0) pe_int (fun _ _ => rfl)) (pe_op op_mul (pe_op op_mul pe_int (pe_ix (ix_listK K rfl) (pv 0) pe_int (fun _ _ => rfl))) (pe_ix (ix_listK K rfl) (pv 0) pe_int (fun _ _ => rfl)))) pe_int) pe_int) pa_nil)) (pv 3)))
    (pss_cons (ps_set (i := 4) sc_law_draw.nd rfl (Or.inl rfl) (pe_op op_mod (pe_callTy call_int1 (by rfl) T.b_int (by decide +kernel) (pa_cons (pe_op op_mul (pv 4) (pe_op op_add (pe_op op_mod (pe_callTy call_int1 (by rfl) T.b_int (by decide +kernel) (pa_cons (pv 4) pa_nil)) pe_int) (pe_op op_mul pe_int (pe_ix (ix_listK K rfl) (pv 0) pe_int (fun _ _ => rfl))))) pa_nil)) pe_int))
    (pss_one (ps_ret (pe_op op_mod (pe_callTy call_int1 (by rfl) T.b_int (by decide +kernel) (pa_cons (pe_op op_fdiv (pv 4) pe_int) pa_nil)) (pv 1))))))))), ?_⟩)
  · obtain ⟨p, many, n, rfl, _⟩ := h
    rfl
  obtain ⟨p, many, n, rfl, ⟨m0, m1⟩, hn, ⟨a, m, c, hp, ⟨a0, a1⟩, ⟨g0, g1⟩, ⟨c0, c1⟩⟩, k⟩ := h
  refine ⟨_, rfl, p, _, _, _, rfl, rfl, SqL.of hp, rfl, _, _, rfl, rfl, _, rfl, ite2 (fun ha => ?_) (fun ha => ?_)⟩
  · refine ⟨_, rfl, p, _, _, _, rfl, rfl, SqL.of hp, rfl, .inl ⟨_, rfl, _, rfl, _, _, rfl, rfl, m0, ?_⟩⟩
    refine ⟨_, rfl, p, _, _, _, rfl, rfl, SqL.of hp, rfl, _, rfl, _, _, rfl, rfl, wide_div (b := 10) m0 (by omega) (by decide) (by decide), _, rfl, p, _, _, _, rfl, rfl, hp, rfl, _, rfl, ?_⟩
    have d0 : 0 ≤ a / many := Int.ediv_nonneg a0 (by omega)
    have d1 : a / many ≤ a := Int.ediv_le_self _ a0
    exact k _ _ (Int.emod_nonneg _ (by omega)) (Int.emod_lt_of_pos _ m0) ⟨_, m, c, upd_same, ⟨d0, wide_le d0 d1 a1⟩, ⟨g0, g1⟩, c0, by omega⟩ (fun b o hb e => by rw [upd_ne hb]; exact e)
  · refine ⟨_, rfl, p, _, _, _, rfl, rfl, SqL.of hp, rfl, _, _, rfl, rfl, _, rfl, p, _, _, _, rfl, rfl, hp, rfl, ?_⟩
    refine ⟨by show 5 ≤ sizeLine; decide, fun l hl => ?_⟩
    have npl : p ≠ l := fun e => by rw [← e, upd_same] at hl; cases hl
    have hp2 : (upd (upd H p (.lst ([V.int a, V.int m, V.int c].set 2 (.int (c + 1))))) l (.lst [.int 2147483647, .int 2147483629, .int 2147483587, .int 2147483579, .int 2147483563])) p = some (.lst [.int a, .int m, .int (c + 1)]) := by
      rw [upd_ne npl, upd_same]; rfl
    obtain ⟨v, hv, v0, v1⟩ : ∃ v : Int, atI [V.int 2147483647, V.int 2147483629, V.int 2147483587, V.int 2147483579, V.int 2147483563] ((c + 1) % 5) = some (.int v) ∧ 2147483563 ≤ v ∧ v ≤ 2147483647 := by
      have h0 : (c + 1) % 5 = 0 ∨ (c + 1) % 5 = 1 ∨ (c + 1) % 5 = 2 ∨ (c + 1) % 5 = 3 ∨ (c + 1) % 5 = 4 := by omega
      rcases h0 with e | e | e | e | e <;> rw [e]
      · exact ⟨_, rfl, by decide, by decide⟩
      · exact ⟨_, rfl, by decide, by decide⟩
      · exact ⟨_, rfl, by decide, by decide⟩
      · exact ⟨_, rfl, by decide, by decide⟩
      · exact ⟨_, rfl, by decide, by decide⟩
    refine ⟨_, rfl, p, _, _, _, rfl, rfl, SqL.of hp2, rfl, .inl ⟨_, rfl, _, _, rfl, rfl, (show (0 : Int) < 5 by decide), l, _, _, _, rfl, rfl, SqL.of upd_same, hv, ?_⟩⟩
    have q0 : (c + 1) * (c + 1) ≤ 1000001 * 1000001 := Int.mul_le_mul (by omega) (by omega) (by omega) (by omega)
    have q1 : 0 ≤ (c + 1) * (c + 1) := Int.mul_nonneg (by omega) (by omega)
    have q2 : 99991 * (c + 1) * (c + 1) = 99991 * ((c + 1) * (c + 1)) := Int.mul_assoc _ _ _
    refine ⟨_, rfl, p, _, _, _, rfl, rfl, SqL.of hp2, rfl, _, rfl, p, _, _, _, rfl, rfl, SqL.of hp2, rfl, _, _, rfl, rfl, .inl ⟨by decide, by decide⟩, _, rfl, p, _, _, _, rfl, rfl, SqL.of hp2, rfl, _, _, rfl, rfl, .inl ⟨by omega, by omega⟩, _, _, rfl, rfl, _, _, rfl, rfl, ?_⟩
    refine ⟨_, _, rfl, rfl, ⟨by decide, by decide, by omega⟩, .inl ⟨_, rfl, _, rfl, _, _, rfl, rfl, by omega, ?_⟩⟩
    refine ⟨_, rfl, _, rfl, .inl ⟨_, rfl, _, _, rfl, rfl, (show (0 : Int) < 10007 by decide), _, rfl, p, _, _, _, rfl, rfl, SqL.of hp2, rfl, _, _, rfl, rfl, .inl ⟨by decide, by decide⟩, _, _, rfl, rfl, _, _, rfl, rfl, .inl ⟨?_, ?_⟩, .inl ⟨_, rfl, _, _, rfl, rfl, (show (0 : Int) < 2305843009213693907 by decide), ?_⟩⟩⟩
    · exact Int.lt_of_lt_of_le (show -2 ^ 64 < (0 : Int) by decide) (Int.emod_nonneg _ (by omega))
    · exact Int.lt_trans (Int.emod_lt_of_pos _ (by omega)) (by omega)
    · refine ⟨_, rfl, _, _, rfl, rfl, ⟨by decide, by decide⟩, .inl ⟨_, rfl, _, rfl, _, _, rfl, rfl, m0, ?_⟩⟩
      exact k _ _ (Int.emod_nonneg _ (by omega)) (Int.emod_lt_of_pos _ m0) ⟨a, m, c + 1, hp2, ⟨a0, a1⟩, ⟨g0, g1⟩, by omega, by omega⟩ (fun b o hb e => by
        have e1 : (upd H p (.lst ([V.int a, V.int m, V.int c].set 2 (.int (c + 1))))) b = some o := by rw [upd_ne hb]; exact e
        rw [upd_ne (ne_of_none e1 hl)]; exact e1)
abbrev s_law_any : Stmt := top 12
theorem sc_law_any : FnScope ["_law_pot_here", "_law_items"] ["_law_pot_here", "_law_items"] (defScope s_law_any) := ⟨rfl, rfl, rfl, by decide +kernel, rfl, by decide +kernel, by decide +kernel⟩
theorem ok_any {f fD : Addr} {fd fdD : FuncData} (F : Fun K "_law_any" "_law_any" s_law_any f fd) (T : Txt K mg C CB fB t1 t2)
    (c_law_draw : ∀ base, Ca P w K mg base CX0 "_law_draw" 1 ["_law_pot_here", "_law_many"] spDraw fD fdD) : FnOk P w K mg base CX0 2 f fd ["_law_pot_here", "_law_items"] spAny := by
  have c_law_draw := c_law_draw base
  refine F.ok sc_law_any (fun vs H Q E h => ?_) (fun cdv A outer s H vs Q E hr h => ⟨_, (pss_one (ps_ret (pe_ix (ix_listK K rfl) (pv 1) (pe_call c_law_draw.G (hr.mono (by first | decide | omega)) (by rfl) c_law_draw.g c_law_draw.k c_law_draw.B .nil pass0 (pa_cons (pv 0) (pa_cons (pe_callB (call_lenK K rfl) (by rfl) T.b_len (by decide +kernel) (pa_cons (pv 1) pa_nil)) pa_nil))) (fun _ _ => rfl)))), ?_⟩)
  · obtain ⟨_, _, _, _, rfl, _⟩ := h
    rfl
  obtain ⟨p, l, xs, n, rfl, hl, npl, ⟨x0, x1⟩, hn, hp, k⟩ := h
  refine ⟨_, rfl, _, rfl, _, rfl, _, _, rfl, .inl ⟨_, SqL.of hl, rfl⟩, p, _, n, rfl, ⟨by omega, by omega⟩, hn, hp, fun r H' r0 r1 pot but => ?_⟩
  have hr : r.toNat < xs.length := by omega
  refine ⟨l, xs, r, xs[r.toNat], rfl, rfl, SqL.of (but _ _ npl hl), ?_, k _ _ (List.getElem_mem hr) pot but⟩
  have := atI_nat (xs := xs) (j := r.toNat) (v := xs[r.toNat]) (by simp [hr])
  rw [Int.toNat_of_nonneg r0] at this
  exact this
abbrev s_law_pot : Stmt := top 13
theorem sc_law_pot : FnScope ["_law_script", "_law_k", "_law_drawn", "_law_own"] ["_law_script", "_law_k"] (defScope s_law_pot) := ⟨rfl, rfl, rfl, by decide +kernel, rfl, by decide +kernel, by decide +kernel⟩
theorem ten300 : ((10 : Int) ^ (60 : Int).toNat) ^ (5 : Int).toNat < 2 ^ 1000 := by decide +kernel
theorem ten300p : 0 < ((10 : Int) ^ (60 : Int).toNat) ^ (5 : Int).toNat := by decide +kernel
theorem pot_bound (x : Int) (b : Bool) : 0 ≤ x % (((10 : Int) ^ (60 : Int).toNat) ^ (5 : Int).toNat) * (if b = true then 1 else 0) ∧ (x % (((10 : Int) ^ (60 : Int).toNat) ^ (5 : Int).toNat) * (if b = true then 1 else 0)).natAbs < 2 ^ 1000 := by
  have h0 := Int.emod_nonneg x (Int.ne_of_gt ten300p)
  have h1 := Int.lt_trans (Int.emod_lt_of_pos x ten300p) ten300
  cases b with
  | false =>
    rw [if_neg Bool.false_ne_true, Int.mul_zero]
    exact ⟨Int.le_refl _, by decide +kernel⟩
  | true =>
    rw [if_pos rfl, Int.mul_one]
    refine ⟨h0, ?_⟩
    have := Int.natAbs_of_nonneg h0
    generalize x % (((10 : Int) ^ (60 : Int).toNat) ^ (5 : Int).toNat) = y at *
    have h2 : ((y.natAbs : Nat) : Int) < ((2 ^ 1000 : Nat) : Int) := by rw [this]; exact h1
    exact Int.ofNat_lt.mp h2
theorem pot_small (x : Int) (b : Bool) : CMulW (x % (((10 : Int) ^ (60 : Int).toNat) ^ (5 : Int).toNat)) (if b = true then 1 else 0) := by
  have h := (pot_bound x true).2
  rw [if_pos rfl, Int.mul_one] at h
  refine wide_mul (a := 1000) (b := 1) h ?_ (by decide) (by decide) (by decide)
  cases b <;> decide
theorem ok_pot {f : Addr} {fd : FuncData} (F : Fun K "_law_pot" "_law_pot" s_law_pot f fd) (T : Txt K mg C CB fB t1 t2) : FnOk P w K mg base CX0 1 f fd ["_law_script", "_law_k"] (spPot K) := by
  refine F.ok sc_law_pot (fun vs H Q E h => ?_) (fun cdv A outer s H vs Q E hr h => ⟨_, (pss_cons (ps_set (i := 2) sc_law_pot.nd rfl (Or.inl rfl) (pe_ifExp (pt_cmpR op_lt (pv 1) (pe_callB (call_lenK K rfl) (by rfl) T.b_len (by decide +kernel) (pa_cons (pv 0) pa_nil)) (nomark _)) (pe_ix (ix_listK K rfl) (pv 0) (pv 1) (fun _ _ => rfl)) (pe_op op_add (pe_op op_mul pe_int (pv 1)) pe_int)))
    (pss_cons (ps_set (i := 3) sc_law_pot.nd rfl (Or.inl rfl) (pe_op op_mulW (pe_op op_mod (pe_callTy call_int1 (by rfl) T.b_int (by decide +kernel) (pa_cons (pe_callB call_abs (by rfl) T.b_abs (by decide +kernel) (pa_cons (pv 2) pa_nil)) pa_nil)) (pe_op op_powW (pe_op op_pow pe_int pe_int) pe_int)) (pe_callTy call_int1 (by rfl) T.b_int (by decide +kernel) (pa_cons (pe_cmpR op_ge (pe_callB call_abs (by rfl) T.b_abs (by decide +kernel) (pa_cons (pv 2) pa_nil)) (pe_op op_pow pe_int pe_int) (nomark _)) pa_nil))))
    (pss_one (ps_ret (pe_lst (pa_cons (pv 3) (pa_cons (pe_op op_mod (pe_callTy call_int1 (by rfl) T.b_int (by decide +kernel) (pa_cons (pe_op op_add (pe_op op_add (pe_op op_mul (pe_op op_mod (pe_callTy call_int1 (by rfl) T.b_int (by decide +kernel) (pa_cons (pv 2) pa_nil)) pe_int) pe_int) (pe_op op_mul (pe_op op_mul pe_int (pv 1)) (pv 1))) pe_int) pa_nil)) pe_int) (pa_cons pe_int pa_nil)))))))), ?_⟩)
  · obtain ⟨_, _, _, rfl, _⟩ := h
    rfl
  obtain ⟨a, ns, k, rfl, hS, few, ⟨k0, k3⟩, kk⟩ := h
  have kk9 : k * k ≤ 9 := Int.mul_le_mul (show k ≤ 3 by omega) (show k ≤ 3 by omega) k0 (by decide)
  have kk0 : 0 ≤ k * k := Int.mul_nonneg k0 k0
  have kk1 : 9049 * k * k = 9049 * (k * k) := Int.mul_assoc _ _ _
  refine ⟨_, rfl, _, rfl, _, _, rfl, .inl ⟨_, hS, rfl⟩, _, _, rfl, rfl, _, rfl, ite2 (fun h1 => ?_) (fun h1 => ?_)⟩
  · have hk : k.toNat < ns.length := by
      have := of_decide_eq_true h1
      rw [List.length_map] at this
      omega
    have ea : atI (ns.map V.int) k = some (.int ns[k.toNat]) := by
      have := atI_nat (xs := ns.map V.int) (j := k.toNat) (v := .int ns[k.toNat]) (by simp [hk])
      rw [Int.toNat_of_nonneg k0] at this
      exact this
    refine ⟨_, rfl, _, rfl, a, _, k, _, rfl, rfl, hS, ea, ?_⟩
    generalize ns[k.toNat] = d
    refine ⟨_, rfl, _, rfl, .inl ⟨_, rfl, _, _, rfl, rfl, ⟨by decide, by decide, by decide⟩, _, _, rfl, rfl, ⟨by decide, by decide +kernel⟩, _, _, rfl, rfl, ten300p, _, rfl, _, rfl, _, _, rfl, rfl, ⟨by decide, by decide, by decide⟩, _, _, rfl, rfl, .inr ⟨_, rfl, _, _, rfl, rfl, pot_small _ _, ?_⟩⟩⟩
    refine ⟨_, rfl, _, rfl, .inl ⟨_, rfl, _, _, rfl, rfl, (show (0 : Int) < 2305843009213693951 by decide), _, _, rfl, rfl, .inr ⟨by decide, by decide⟩, _, rfl, _, _, rfl, rfl, .inl ⟨by decide, by decide⟩, _, rfl, _, _, rfl, rfl, .inl ⟨by omega, by omega⟩, _, _, rfl, rfl, _, _, rfl, rfl, .inl ⟨_, rfl, _, _, rfl, rfl, (show (0 : Int) < 2305843009213693921 by decide), by show 3 ≤ sizeLine; decide, fun p hp => ?_⟩⟩⟩
    exact kk p _ hp (Same.upd (Same.refl H) hp) ⟨_, _, _, upd_same, pot_bound _ _, ⟨Int.emod_nonneg _ (by decide), Int.emod_lt_of_pos _ (by decide)⟩, by decide, by decide⟩
  · refine ⟨_, rfl, _, _, rfl, rfl, .inl ⟨by decide, by decide⟩, _, _, rfl, rfl, ?_⟩
    generalize 19 * k + 5 = d
    refine ⟨_, rfl, _, rfl, .inl ⟨_, rfl, _, _, rfl, rfl, ⟨by decide, by decide, by decide⟩, _, _, rfl, rfl, ⟨by decide, by decide +kernel⟩, _, _, rfl, rfl, ten300p, _, rfl, _, rfl, _, _, rfl, rfl, ⟨by decide, by decide, by decide⟩, _, _, rfl, rfl, .inr ⟨_, rfl, _, _, rfl, rfl, pot_small _ _, ?_⟩⟩⟩
    refine ⟨_, rfl, _, rfl, .inl ⟨_, rfl, _, _, rfl, rfl, (show (0 : Int) < 2305843009213693951 by decide), _, _, rfl, rfl, .inr ⟨by decide, by decide⟩, _, rfl, _, _, rfl, rfl, .inl ⟨by decide, by decide⟩, _, rfl, _, _, rfl, rfl, .inl ⟨by omega, by omega⟩, _, _, rfl, rfl, _, _, rfl, rfl, .inl ⟨_, rfl, _, _, rfl, rfl, (show (0 : Int) < 2305843009213693921 by decide), by show 3 ≤ sizeLine; decide, fun p hp => ?_⟩⟩⟩
    exact kk p _ hp (Same.upd (Same.refl H) hp) ⟨_, _, _, upd_same, pot_bound _ _, ⟨Int.emod_nonneg _ (by decide), Int.emod_lt_of_pos _ (by decide)⟩, by decide, by decide⟩
end
end K03

set_option Elab.async false
set_option linter.all false
set_option maxRecDepth 100000
set_option maxHeartbeats 4000000
namespace K03
open PySem L2 Xby
theorem l_cell (a b c d e : V) : (flds a b c d e).lookup ("cell" : Str) = some a := by
  unfold flds
  rw [lookup_putF, if_neg (by decide +kernel), lookup_putF, if_neg (by decide +kernel), lookup_putF, if_neg (by decide +kernel), lookup_putF, if_neg (by decide +kernel), lookup_putF, if_pos rfl]
theorem l_row (a b c d e : V) : (flds a b c d e).lookup ("row" : Str) = some b := by
  unfold flds
  rw [lookup_putF, if_neg (by decide +kernel), lookup_putF, if_neg (by decide +kernel), lookup_putF, if_neg (by decide +kernel), lookup_putF, if_pos rfl]
theorem l_column (a b c d e : V) : (flds a b c d e).lookup ("column" : Str) = some c := by
  unfold flds
  rw [lookup_putF, if_neg (by decide +kernel), lookup_putF, if_neg (by decide +kernel), lookup_putF, if_pos rfl]
theorem l_name (a b c d e : V) : (flds a b c d e).lookup ("name" : Str) = some d := by
  unfold flds
  rw [lookup_putF, if_neg (by decide +kernel), lookup_putF, if_pos rfl]
theorem l_move (a b c d e : V) : (flds a b c d e).lookup ("move" : Str) = some e := by
  unfold flds
  rw [lookup_putF, if_pos rfl]
def fldL : List V → List (Str × V)
  | [a, b, c, d, e] => flds a b c d e
  | _ => []
/-- == of costs: the other one is costs, or of a built-in type -/
def spEq (K : PySem.W.Frag) (C : Addr) : Sp := fun vs H Q _ => ∃ (x dx : Addr) (a b c d e : Int) (y : V), vs = [.ref x, y] ∧ H x = some (.ins C dx (flds (.int a) (.int b) (.int c) (.int d) (.int e))) ∧
  ((∃ (z dz : Addr) (a' b' c' d' e' : Int), y = .ref z ∧ H z = some (.ins C dz (flds (.int a') (.int b') (.int c') (.int d') (.int e'))) ∧ Q (.bl (decide ([a, b, c, d, e] = [a', b', c', d', e']))) H) ∨
   (∃ T : String, TyX K H y (.type T) ∧ PySem.W.kitOne K (.type T) (.ref C) = some false ∧ Q (.bl false) H))
/-- the told costs, the usual ones for the others -/
def whole (way : Int) : List V → List V
  | [a, b, c, d, e] => if way = 0 then [a, b, c, d, e] else if way = 1 then [.int 3, b, .int 5, .int 1, e] else [a, .int 4, c, d, .int 1]
  | _ => []
def Bill (K : PySem.W.Frag) (H : Hp) (l : Addr) (bs : List V) : Prop := H l = some (.lst bs) ∧ bs.length = 5 ∧ ∀ v ∈ bs, ∃ d, Dq K H v d
def spMade (K : PySem.W.Frag) (C CB : Addr) : Sp := fun vs H Q E => ∃ (l : Addr) (way : Int) (bs : List V), vs = [.ref l, .int way] ∧ Bill K H l bs ∧ (0 ≤ way ∧ way < 3) ∧
  (∀ v, bad (whole way bs) = some v → ∀ (d' : Addr) H', Same H H' → H' d' = some (.xd [(fv, v)]) → E (.ref CB) (some d') H') ∧
  (bad (whole way bs) = none → ∀ (x dx : Addr) H', H x = none → Same H H' → H' x = some (.ins C dx (fldL (whole way bs))) → Q (.ref x) H')
def spHeard (K : PySem.W.Frag) : Sp := fun vs H Q _ => ∃ (l : Addr) (way : Int) (bs : List V), vs = [.ref l, .int way] ∧ Bill K H l bs ∧ (0 ≤ way ∧ way < 3) ∧
  ∀ (p : Addr) H', sysModules ≠ p → Same H H' → H' p = some (.lst (bad (whole way bs)).toList) → Q (.ref p) H'
/-- return [error.value] -/
def t_suite (CB : Addr) : Addr → Value → Option Addr → TS := fun a cls d => tRet (tLstS (tCons (L2.LowV.tByLow CB a cls d (tVar 2)) tNil))
theorem list5 {α : Type} {l : List α} (h : l.length = 5) : ∃ a b c d e, l = [a, b, c, d, e] := by
  match l, h with
  | [a, b, c, d, e], _ => exact ⟨a, b, c, d, e, rfl⟩
section
variable {P : Program} {w : World} {K : PySem.W.Frag} {mg : Str → Option Value} {base : Heap} {C CB fB : Addr} {t1 t2 : Tok}
abbrev s_law_is_int : Stmt := top 14
theorem sc_law_is_int : FnScope ["_law_value", "_law_low", "_law_high"] ["_law_value", "_law_low", "_law_high"] (defScope s_law_is_int) := ⟨rfl, rfl, rfl, by decide +kernel, rfl, by decide +kernel, by decide +kernel⟩
theorem ok_is_int {f : Addr} {fd : FuncData} (F : Fun K "_law_is_int" "_law_is_int" s_law_is_int f fd) (T : Txt K mg C CB fB t1 t2) : FnOk P w K mg base CX0 1 f fd ["_law_value", "_law_low", "_law_high"] (spWithin K) := by
  refine F.ok sc_law_is_int (fun vs H Q E h => ?_) (fun cdv A outer s H vs Q E hr h => ⟨_, (pss_one (ps_ret (pe_and (pe_callB (call_isiK K rfl) (by rfl) T.b_isinstance (by decide +kernel) (pa_cons (pv 0) (pa_cons (pe_bltn (v := .ty "int") (by rfl) T.b_int (by decide +kernel) rfl) pa_nil))) (pe_and (pe_not (pe_callB (call_isiK K rfl) (by rfl) T.b_isinstance (by decide +kernel) (pa_cons (pv 0) (pa_cons (pe_bltn (v := .ty "bool") (by rfl) T.b_bool (by decide +kernel) rfl) pa_nil)))) (pe_one (pe_chain op_le op_le (pv 1) (pv 0) (pv 2))))))), ?_⟩)
  · obtain ⟨_, _, _, _, rfl, _⟩ := h
    rfl
  obtain ⟨v, d, lo, hi, rfl, hd, k⟩ := h
  rcases hd.kind with ⟨b, rfl⟩ | ⟨i, rfl⟩ | ⟨T', ty, ⟨kb, ki⟩, no⟩
  · exact ⟨_, rfl, _, _, _, _, _, rfl, .ty _, .base (.bl b), kit_ty kit_bi, _, rfl, _, rfl, _, _, _, _, _, rfl, .ty _, .base (.bl b), kit_ty kit_bb, _, rfl, _, rfl, k⟩
  · refine ⟨_, rfl, _, _, _, _, _, rfl, .ty _, .base (.int i), kit_ty kit_ii, _, rfl, _, rfl, _, _, _, _, _, rfl, .ty _, .base (.int i), kit_ty kit_ib, _, rfl, _, rfl, ?_⟩
    refine ⟨_, rfl, _, rfl, _, _, rfl, rfl, _, rfl, ite2 (fun h1 => ?_) (fun h1 => ?_)⟩
    · refine ⟨_, rfl, _, _, rfl, rfl, ?_⟩
      have e : decide (i ≤ hi) = okV lo hi (.int i) := by
        have := of_decide_eq_true h1
        show _ = decide (lo ≤ i ∧ i ≤ hi)
        congr 1
        exact propext ⟨fun z => ⟨this, z⟩, fun z => z.2⟩
      show Q (.bl (decide (i ≤ hi))) H
      rw [e]
      exact k
    · have e : okV lo hi (.int i) = false := decide_eq_false fun z => h1 (decide_eq_true z.1)
      rw [e] at k
      exact k
  · rw [no] at k
    exact ⟨_, rfl, _, _, _, _, _, rfl, .ty _, ty, kit_ty ki, _, rfl, k⟩
abbrev s_Costs___eq__ : Stmt := inClass (top 9) 1
theorem sc_Costs___eq__ : FnScope ["self", "other"] ["self", "other"] (defScope s_Costs___eq__) := ⟨rfl, rfl, rfl, by decide +kernel, rfl, by decide +kernel, by decide +kernel⟩
theorem ok_eq {f : Addr} {fd : FuncData} (F : Fun K "__eq__" "Costs.__eq__" s_Costs___eq__ f fd) (T : Txt K mg C CB fB t1 t2) : FnOk P w K mg base CX0 1 f fd ["self", "other"] (spEq K C) := by
  refine F.ok sc_Costs___eq__ (fun vs H Q E h => ?_) (fun cdv A outer s H vs Q E hr h => ⟨_, (pss_one (ps_ret (pe_and (pe_callB (call_isiK K rfl) (by rfl) T.b_isinstance (by decide +kernel) (pa_cons (pv 1) (pa_cons (pe_glob (v := .ref C) rfl T.g_Costs rfl) pa_nil))) (pe_and (pe_cmpR op_eq (pe_fldK K rfl (pv 0) rfl) (pe_fldK K rfl (pv 1) rfl) (nomark _)) (pe_and (pe_cmpR op_eq (pe_fldK K rfl (pv 0) rfl) (pe_fldK K rfl (pv 1) rfl) (nomark _)) (pe_and (pe_cmpR op_eq (pe_fldK K rfl (pv 0) rfl) (pe_fldK K rfl (pv 1) rfl) (nomark _)) (pe_and (pe_cmpR op_eq (pe_fldK K rfl (pv 0) rfl) (pe_fldK K rfl (pv 1) rfl) (nomark _)) (pe_one (pe_cmpR op_eq (pe_fldK K rfl (pv 0) rfl) (pe_fldK K rfl (pv 1) rfl) (nomark _)))))))))), ?_⟩)
  · obtain ⟨_, _, _, _, _, _, _, _, rfl, _⟩ := h
    rfl
  obtain ⟨x, dx, a, b, c, d, e, y, rfl, hx, ⟨z, dz, a', b', c', d', e', rfl, hz, k⟩ | ⟨T', ty, kit, k⟩⟩ := h
  · refine ⟨_, rfl, _, _, _, _, _, rfl, .own C, .base (.ins hz T.cl T.ca T.cn T.ct T.cm), T.kcc, _, rfl, ?_⟩
    have no : ∀ {p : Prop}, ¬ p → (p ∧ True ∨ ¬p) := fun n => .inr n
    refine ⟨_, rfl, x, C, dx, _, _, rfl, hx, T.cl, T.n_cell, l_cell .., _, rfl, z, C, dz, _, _, rfl, hz, T.cl, T.n_cell, l_cell .., rfl, _, rfl, ite2 (fun h => ?_) (fun h => ?_)⟩
    · obtain rfl : a = a' := by simpa using h
      refine ⟨_, rfl, x, C, dx, _, _, rfl, hx, T.cl, T.n_row, l_row .., _, rfl, z, C, dz, _, _, rfl, hz, T.cl, T.n_row, l_row .., rfl, _, rfl, ite2 (fun h => ?_) (fun h => ?_)⟩
      · obtain rfl : b = b' := by simpa using h
        refine ⟨_, rfl, x, C, dx, _, _, rfl, hx, T.cl, T.n_column, l_column .., _, rfl, z, C, dz, _, _, rfl, hz, T.cl, T.n_column, l_column .., rfl, _, rfl, ite2 (fun h => ?_) (fun h => ?_)⟩
        · obtain rfl : c = c' := by simpa using h
          refine ⟨_, rfl, x, C, dx, _, _, rfl, hx, T.cl, T.n_name, l_name .., _, rfl, z, C, dz, _, _, rfl, hz, T.cl, T.n_name, l_name .., rfl, _, rfl, ite2 (fun h => ?_) (fun h => ?_)⟩
          · obtain rfl : d = d' := by simpa using h
            refine ⟨_, rfl, x, C, dx, _, _, rfl, hx, T.cl, T.n_move, l_move .., _, rfl, z, C, dz, _, _, rfl, hz, T.cl, T.n_move, l_move .., rfl, ?_⟩
            have : decide (V.int e = V.int e') = decide ([a, b, c, d, e] = [a, b, c, d, e']) := by simp
            show Q (.bl (decide (V.int e = V.int e'))) H
            rw [this]
            exact k
          · have n : decide ([a, b, c, d, e] = [a, b, c, d', e']) = false := by simpa using fun q => absurd q (by simpa using h)
            rw [n] at k
            exact k
        · have n : decide ([a, b, c, d, e] = [a, b, c', d', e']) = false := by simpa using fun q => absurd q (by simpa using h)
          rw [n] at k
          exact k
      · have n : decide ([a, b, c, d, e] = [a, b', c', d', e']) = false := by simpa using fun q => absurd q (by simpa using h)
        rw [n] at k
        exact k
    · have n : decide ([a, b, c, d, e] = [a', b', c', d', e']) = false := by simpa using fun q => absurd q (by simpa using h)
      rw [n] at k
      exact k
  · exact ⟨_, rfl, _, _, _, _, _, rfl, .own C, ty, kit, _, rfl, k⟩
abbrev s_law_made : Stmt := top 15
theorem sc_law_made : FnScope ["_law_bill", "_law_way"] ["_law_bill", "_law_way"] (defScope s_law_made) := ⟨rfl, rfl, rfl, by decide +kernel, rfl, by decide +kernel, by decide +kernel⟩
theorem ok_made {f fI : Addr} {fd fdI : FuncData} (F : Fun K "_law_made" "_law_made" s_law_made f fd) (T : Txt K mg C CB fB t1 t2) (M : Mk K C fI)
    (FI : FunD K "__init__" "Costs.__init__" (defArgs s_Costs___init__) (defBody s_Costs___init__) (defScope s_Costs___init__) [] [("cell", .int 3), ("row", .int 4), ("column", .int 5), ("name", .int 1), ("move", .int 1)] fI fdI)
    (G : ∀ base, FnOk P w K mg base (L2.CX P w) 3 fI fdI ["self", "cell", "row", "column", "name", "move"] (spInit K C CB)) : FnOk P w K mg base (L2.CX P w) 5 f fd ["_law_bill", "_law_way"] (spMade K C CB) := by
  have G := G base
  obtain ⟨mv0, hb0⟩ := FI.kbinds0 (ps := ["self", "cell", "row", "column", "name", "move"]) 1 ["move", "name", "column", "row", "cell"] [] (fun {α} us _ ws => us ++ (ws.drop 4 ++ ((ws.drop 3).take 1 ++ ((ws.drop 2).take 1 ++ ((ws.drop 1).take 1 ++ ws.take 1))))) (by simp) (by simp)
    (fun r1 r2 r3 => r1.append ((r3.drop 4).append (((r3.drop 3).take 1).append (((r3.drop 2).take 1).append (((r3.drop 1).take 1).append (r3.take 1)))))) (fun D doc pm an cdv ct us mv ws h1 h2 h3 => by
      obtain ⟨u, rfl⟩ := List.length_eq_one_iff.mp h1
      match mv, h2, ws, h3 with
      | [], _, [w1, w2, w3, w4, w5], _ => rfl)
  obtain ⟨mv1, hb1⟩ := FI.kbinds0 (ps := ["self", "cell", "row", "column", "name", "move"]) 1 ["row", "move"] [("cell", .int 3), ("column", .int 5), ("name", .int 1)] (fun {α} us ms ws => us ++ (ms.take 1 ++ (ws.take 1 ++ ((ms.drop 1).take 1 ++ (ms.drop 2 ++ ws.drop 1))))) (by simp) (by simp)
    (fun r1 r2 r3 => r1.append ((r2.take 1).append ((r3.take 1).append (((r2.drop 1).take 1).append ((r2.drop 2).append (r3.drop 1)))))) (fun D doc pm an cdv ct us mv ws h1 h2 h3 => by
      obtain ⟨u, rfl⟩ := List.length_eq_one_iff.mp h1
      match mv, h2, ws, h3 with
      | [m1, m2, m3], _, [w1, w2], _ =>
        refine ⟨_, _, _, _, _, _, rfl, rfl, _, _, _, _, _, _, rfl, rfl, _, _, _, _, _, _, rfl, rfl, ?_⟩
        rfl)
  obtain ⟨mv2, hb2⟩ := FI.kbinds0 (ps := ["self", "cell", "row", "column", "name", "move"]) 1 ["cell", "column", "name"] [("row", .int 4), ("move", .int 1)] (fun {α} us ms ws => us ++ (ws.take 1 ++ (ms.take 1 ++ (ws.drop 1 ++ ms.drop 1)))) (by simp) (by simp)
    (fun r1 r2 r3 => r1.append ((r3.take 1).append ((r2.take 1).append ((r3.drop 1).append (r2.drop 1))))) (fun D doc pm an cdv ct us mv ws h1 h2 h3 => by
      obtain ⟨u, rfl⟩ := List.length_eq_one_iff.mp h1
      match mv, h2, ws, h3 with
      | [m1, m2], _, [w1, w2, w3], _ =>
        refine ⟨_, _, _, _, _, _, rfl, rfl, _, _, _, _, _, _, rfl, rfl, ?_⟩
        rfl)
  refine F.okX sc_law_made (fun vs H Q E h => ?_) (fun cdv A outer s H vs Q E hr h => ⟨_, (pss_cons (ps_if (pt_cmpR op_eq (pv 1) pe_int (nomark _)) (pss_one (ps_ret (pe_makeK0 M G (hr.mono (by decide)) (by rfl) T.g_Costs hb0 (passes_call (takes_of rfl rfl rfl rfl) fun _ _ _ _ z => z) (pk_cons (pe_ix (ix_listK K rfl) (pv 0) pe_int (fun _ _ => rfl)) (pk_cons (pe_ix (ix_listK K rfl) (pv 0) pe_int (fun _ _ => rfl)) (pk_cons (pe_ix (ix_listK K rfl) (pv 0) pe_int (fun _ _ => rfl)) (pk_cons (pe_ix (ix_listK K rfl) (pv 0) pe_int (fun _ _ => rfl)) (pk_cons (pe_ix (ix_listK K rfl) (pv 0) pe_int (fun _ _ => rfl)) pk_nil)))))))) pss_nil)
    (pss_cons (ps_if (pt_cmpR op_eq (pv 1) pe_int (nomark _)) (pss_one (ps_ret (pe_makeK0 M G (hr.mono (by decide)) (by rfl) T.g_Costs hb1 (passes_call (takes_of rfl rfl rfl rfl) fun _ _ _ _ z => z) (pk_cons (pe_ix (ix_listK K rfl) (pv 0) pe_int (fun _ _ => rfl)) (pk_cons (pe_ix (ix_listK K rfl) (pv 0) pe_int (fun _ _ => rfl)) pk_nil))))) pss_nil)
    (pss_one (ps_ret (pe_makeK0 M G (hr.mono (by decide)) (by rfl) T.g_Costs hb2 (passes_call (takes_of rfl rfl rfl rfl) fun _ _ _ _ z => z) (pk_cons (pe_ix (ix_listK K rfl) (pv 0) pe_int (fun _ _ => rfl)) (pk_cons (pe_ix (ix_listK K rfl) (pv 0) pe_int (fun _ _ => rfl)) (pk_cons (pe_ix (ix_listK K rfl) (pv 0) pe_int (fun _ _ => rfl)) pk_nil)))))))), ?_⟩)
  · obtain ⟨_, _, _, rfl, _⟩ := h
    rfl
  obtain ⟨l, way, bs, rfl, ⟨hl, h5, hd⟩, hw, kB, kG⟩ := h
  obtain ⟨a, b, c, d, e, rfl⟩ := list5 h5
  have mk : ∀ (x dx : Addr) (a' b' c' d' e' : V), H x = none → H dx = none → dx ≠ x → (∀ v ∈ [a', b', c', d', e'], ∃ d, Dq K H v d) → whole way [a, b, c, d, e] = [a', b', c', d', e'] →
      spInit K C CB [.ref x, a', b', c', d', e'] (upd (upd H dx (.own x)) x (.ins C dx [])) (fun v H3 => v = .non ∧ Q (.ref x) H3) E := by
    intro x dx a' b' c' d' e' nx ndx ne hq ew
    have s1 : Same H (upd (upd H dx (.own x)) x (.ins C dx [])) := Same.upd (Same.upd (Same.refl H) ndx) (by rw [upd_ne (Ne.symm ne)]; exact nx)
    refine ⟨x, dx, a', b', c', d', e', rfl, upd_same, fun v hv => ?_, fun v hv d'' H' s2 h2 => kB v (by rw [ew]; exact hv) d'' H' (s1.trans s2) h2, fun g H' bt hx => ⟨rfl, ?_⟩⟩
    · obtain ⟨z, hz⟩ := hq v hv
      exact ⟨z, hz.same s1⟩
    · refine kG (by rw [ew]; exact g) x dx H' nx (fun p o e => bt p o (ne_of_none e nx) (s1 p o e)) ?_
      rw [ew]
      exact hx
  have w3 : way = 0 ∨ way = 1 ∨ way = 2 := by omega
  have hI : ∀ i : Int, ∃ d, Dq K H (.int i) d := fun i => ⟨_, .int i⟩
  rcases w3 with rfl | rfl | rfl
  · refine ⟨_, rfl, rfl, _, rfl, ite2 (fun _ => ?_) (fun h => absurd rfl h)⟩
    refine ⟨_, rfl, l, _, _, _, rfl, rfl, SqL.of hl, rfl, _, rfl, l, _, _, _, rfl, rfl, SqL.of hl, rfl, _, rfl, l, _, _, _, rfl, rfl, SqL.of hl, rfl, _, rfl, l, _, _, _, rfl, rfl, SqL.of hl, rfl, _, rfl, l, _, _, _, rfl, rfl, SqL.of hl, rfl, rfl, rfl, fun x dx nx ndx ne => ?_⟩
    exact mk x dx a b c d e nx ndx ne hd rfl
  · refine ⟨_, rfl, rfl, _, rfl, ite2 (fun h => absurd (of_decide_eq_true h) (by decide)) (fun _ => ?_)⟩
    refine ⟨_, rfl, rfl, _, rfl, ite2 (fun _ => ?_) (fun h => absurd rfl h)⟩
    refine ⟨_, rfl, l, _, _, _, rfl, rfl, SqL.of hl, rfl, _, rfl, l, _, _, _, rfl, rfl, SqL.of hl, rfl, rfl, rfl, fun x dx nx ndx ne => ?_⟩
    refine mk x dx (.int 3) b (.int 5) (.int 1) e nx ndx ne (fun v hv => ?_) rfl
    simp only [List.mem_cons, List.not_mem_nil, or_false] at hv
    rcases hv with rfl | rfl | rfl | rfl | rfl
    · exact hI _
    · exact hd _ (by simp)
    · exact hI _
    · exact hI _
    · exact hd _ (by simp)
  · refine ⟨_, rfl, rfl, _, rfl, ite2 (fun h => absurd (of_decide_eq_true h) (by decide)) (fun _ => ?_)⟩
    refine ⟨_, rfl, rfl, _, rfl, ite2 (fun h => absurd (of_decide_eq_true h) (by decide)) (fun _ => ?_)⟩
    refine ⟨_, rfl, l, _, _, _, rfl, rfl, SqL.of hl, rfl, _, rfl, l, _, _, _, rfl, rfl, SqL.of hl, rfl, _, rfl, l, _, _, _, rfl, rfl, SqL.of hl, rfl, rfl, rfl, fun x dx nx ndx ne => ?_⟩
    refine mk x dx a (.int 4) c d (.int 1) nx ndx ne (fun v hv => ?_) rfl
    simp only [List.mem_cons, List.not_mem_nil, or_false] at hv
    rcases hv with rfl | rfl | rfl | rfl | rfl
    · exact hd _ (by simp)
    · exact hI _
    · exact hd _ (by simp)
    · exact hd _ (by simp)
    · exact hI _
abbrev s_law_heard : Stmt := top 16
theorem sc_law_heard : FnScope ["_law_bill", "_law_way", "error"] ["_law_bill", "_law_way"] (defScope s_law_heard) := ⟨rfl, rfl, rfl, by decide +kernel, rfl, by decide +kernel, by decide +kernel⟩
theorem ok_heard {f fM : Addr} {fd fdM : FuncData} (F : Fun K "_law_heard" "_law_heard" s_law_heard f fd) (T : Txt K mg C CB fB t1 t2)
    (c_law_made : ∀ base, Ca P w K mg base (L2.CX P w) "_law_made" 5 ["_law_bill", "_law_way"] (spMade K C CB) fM fdM) : FnOk P w K mg base CX0 6 f fd ["_law_bill", "_law_way"] (spHeard K) := by
  have c_law_made := c_law_made base
  refine F.ok sc_law_heard (fun vs H Q E h => ?_) (fun cdv A outer s H vs Q E hr h => ⟨_, (pss_cons (ps_try_as (i := 2) (tb := fun W => tDrop (tCallS (spMade K C CB) (WE W) (tCons (tVar 0) (tCons (tVar 1) tNil)))) (ts := t_suite CB) (Wout := fun _ _ _ _ => False) rfl rfl sc_law_heard.nd rfl rfl ⟨rfl, by decide, Or.inl T.low.gC⟩ takes0 (fun W pn xe tk _ => pss_one (ps_expr (by exact (pe_callS c_law_made.G (hr.mono (by decide)) rfl c_law_made.g c_law_made.k c_law_made.B (fun σ => passAt tk σ) (by exact (pa_cons (pv 0) (pa_cons (pv 1) pa_nil))))))) (fun a oe cls d pn hz hf => pss_one (ps_ret (pe_lstS (pa_cons (L2.LowV.pe_byLow T.low hz hf (pv 2)) pa_nil)))))
    (pss_one (ps_ret (pe_lstS pa_nil)))), ?_⟩)
  · obtain ⟨_, _, _, rfl, _⟩ := h
    rfl
  obtain ⟨l, way, bs, rfl, bill, hw, k⟩ := h
  refine ⟨_, rfl, _, rfl, l, way, bs, rfl, bill, hw, fun v hv d' H' s1 hd => ?_, fun hv x dx H' nx s1 hx => ?_⟩
  · refine ⟨true, T.low.te, fun _ a0 na => ?_, fun q => Bool.noConfusion q⟩
    refine ⟨_, rfl, rfl, rfl, d', v, rfl, hd, by show 1 ≤ sizeLine; decide, fun p hp sp => ?_⟩
    exact k p _ sp (Same.upd s1 hp) (by rw [hv]; exact upd_same)
  · refine ⟨by show 0 ≤ sizeLine; decide, fun p hp sp => ?_⟩
    exact k p _ sp (Same.upd s1 hp) (by rw [hv]; exact upd_same)
end
end K03

set_option Elab.async false
set_option linter.all false
set_option maxRecDepth 100000
set_option maxHeartbeats 8000000
namespace K03
open PySem L2 Xby
/-- == by the class: its def, bound -/
structure CaE (P : Program) (w : World) (K : PySem.W.Frag) (mg : Str → Option Value) (base : Heap) (C : Addr) (f : Addr) (fd : FuncData) : Prop where
  G : FnOk P w K mg base CX0 1 f fd ["self", "other"] (spEq K C)
  B : Binds K fd ["self", "other"] []
  e : PySem.W.findIn K (.ref C) "__eq__" = some (some (.ref f))
  i : PySem.W.isFn K (.ref f) = true
def spRight : Sp := fun vs H Q _ => ∃ (p : Addr) (n : Nat), vs = [.ref p] ∧ n + 100 ≤ 1000000 ∧ Pot H p n ∧ ∀ H', Pot H' p (n + 100) → But p H H' → Q (.bl true) H'
def told (way : Int) : List Int := if way = 0 then [0, 1, 2, 3, 4] else if way = 1 then [1, 4] else [0, 2, 3]
theorem whole_at {way : Int} (hw : way = 0 ∨ way = 1 ∨ way = 2) {bs : List V} (l5 : bs.length = 5) {i : Nat} (hi : i < 5) :
    ∃ tt : Bool, inV (.int (0 + (i : Int))) ((told way).map V.int) = tt ∧ ∃ y, (whole way bs)[i]? = some y ∧ (if tt = true then bs[i]? = some y else ([.int 3, .int 4, .int 5, .int 1, .int 1] : List V)[i]? = some y) := by
  obtain ⟨a, b, c, d, e, rfl⟩ := list5 l5
  rcases hw with rfl | rfl | rfl
  · match i, hi with
    | 0, _ => exact ⟨true, by decide +kernel, _, rfl, rfl⟩
    | 1, _ => exact ⟨true, by decide +kernel, _, rfl, rfl⟩
    | 2, _ => exact ⟨true, by decide +kernel, _, rfl, rfl⟩
    | 3, _ => exact ⟨true, by decide +kernel, _, rfl, rfl⟩
    | 4, _ => exact ⟨true, by decide +kernel, _, rfl, rfl⟩
  · match i, hi with
    | 0, _ => exact ⟨false, by decide +kernel, _, rfl, rfl⟩
    | 1, _ => exact ⟨true, by decide +kernel, _, rfl, rfl⟩
    | 2, _ => exact ⟨false, by decide +kernel, _, rfl, rfl⟩
    | 3, _ => exact ⟨false, by decide +kernel, _, rfl, rfl⟩
    | 4, _ => exact ⟨true, by decide +kernel, _, rfl, rfl⟩
  · match i, hi with
    | 0, _ => exact ⟨true, by decide +kernel, _, rfl, rfl⟩
    | 1, _ => exact ⟨false, by decide +kernel, _, rfl, rfl⟩
    | 2, _ => exact ⟨true, by decide +kernel, _, rfl, rfl⟩
    | 3, _ => exact ⟨true, by decide +kernel, _, rfl, rfl⟩
    | 4, _ => exact ⟨false, by decide +kernel, _, rfl, rfl⟩
theorem whole_eq (way : Int) (a b c d e : V) : whole way [a, b, c, d, e] = if way = 0 then [a, b, c, d, e] else if way = 1 then [.int 3, b, .int 5, .int 1, e] else [a, .int 4, c, d, .int 1] := rfl
theorem whole_len {way : Int} {bs : List V} (l5 : bs.length = 5) : (whole way bs).length = 5 := by
  obtain ⟨a, b, c, d, e, rfl⟩ := list5 l5
  rw [whole_eq]
  split
  · rfl
  · split <;> rfl
theorem whole_gd {K : PySem.W.Frag} {G : Hp} {way : Int} {bs : List V} (l5 : bs.length = 5) (h : ∀ v ∈ bs, Gd K 200 2 G v) : ∀ v ∈ whole way bs, Gd K 200 2 G v := by
  obtain ⟨a, b, c, d, e, rfl⟩ := list5 l5
  have hI : ∀ m : Int, 0 ≤ m → m ≤ 50 → Gd K 200 2 G (.int m) := fun m h0 h1 => ⟨_, .int m, (Sz.int50 h0 h1).more (by decide) (by decide)⟩
  intro v hv
  rw [whole_eq] at hv
  split at hv
  · exact h v hv
  · split at hv
    · simp only [List.mem_cons, List.not_mem_nil, or_false] at hv
      rcases hv with rfl | rfl | rfl | rfl | rfl
      · exact hI 3 (by decide) (by decide)
      · exact h _ (by simp)
      · exact hI 5 (by decide) (by decide)
      · exact hI 1 (by decide) (by decide)
      · exact h _ (by simp)
    · simp only [List.mem_cons, List.not_mem_nil, or_false] at hv
      rcases hv with rfl | rfl | rfl | rfl | rfl
      · exact h _ (by simp)
      · exact hI 4 (by decide) (by decide)
      · exact h _ (by simp)
      · exact h _ (by simp)
      · exact hI 1 (by decide) (by decide)
theorem okV_int {v : V} (h : okV 1 50 v = true) : ∃ m : Int, v = .int m ∧ 1 ≤ m ∧ m ≤ 50 := by
  cases v with
  | int m => exact ⟨m, rfl, of_decide_eq_true h⟩
  | _ => cases h
theorem whole_ok {l : List V} (l5 : l.length = 5) (h : ∀ v ∈ l, okV 1 50 v = true) : ∃ a b c d e : Int, l = [.int a, .int b, .int c, .int d, .int e] ∧ (∀ m ∈ [a, b, c, d, e], 1 ≤ m ∧ m ≤ 50) := by
  obtain ⟨v1, v2, v3, v4, v5, rfl⟩ := list5 l5
  obtain ⟨a, rfl, ha⟩ := okV_int (h v1 (by simp))
  obtain ⟨b, rfl, hb⟩ := okV_int (h v2 (by simp))
  obtain ⟨c, rfl, hc⟩ := okV_int (h v3 (by simp))
  obtain ⟨d, rfl, hd⟩ := okV_int (h v4 (by simp))
  obtain ⟨e, rfl, he⟩ := okV_int (h v5 (by simp))
  refine ⟨a, b, c, d, e, rfl, fun m hm => ?_⟩
  simp only [List.mem_cons, List.not_mem_nil, or_false] at hm
  rcases hm with rfl | rfl | rfl | rfl | rfl <;> assumption
theorem bad_none {l : List Int} (h : ∀ m ∈ l, 1 ≤ m ∧ m ≤ 50) : bad (l.map V.int) = none := by
  refine List.find?_eq_none.mpr fun v hv => ?_
  obtain ⟨m, hm, rfl⟩ := List.mem_map.mp hv
  have : okV 1 50 (.int m) = true := decide_eq_true (h m hm)
  rw [this]
  decide
theorem eqv_ints : ∀ l k : List Int, PyData.eqvAll (l.map PyData.int) (k.map PyData.int) = decide (l = k)
  | [], [] => rfl
  | [], _ :: _ => rfl
  | _ :: _, [] => rfl
  | x :: xs, y :: ys => by
    show (PyData.eqv (.int x) (.int y) && PyData.eqvAll (xs.map PyData.int) (ys.map PyData.int)) = _
    rw [eqv_ints xs ys]
    have e : PyData.eqv (.int x) (.int y) = (x == y) := by simp [PyData.eqv]
    rw [e]
    by_cases h : x = y
    · subst h
      simp
    · simp [h]
theorem eqv_intsL (l k : List Int) : PyData.eqv (.list (l.map PyData.int)) (.list (k.map PyData.int)) = decide (l = k) := by
  rw [← eqv_ints]
  simp [PyData.eqv]
theorem dp_ints {K : PySem.W.Frag} {H : Hp} : ∀ l : List Int, DpAll K H (l.map V.int) (l.map PyData.int)
  | [] => .nil
  | x :: xs => .cons (.int x) (dp_ints xs)
theorem dq_ints {K : PySem.W.Frag} {H : Hp} : ∀ l : List Int, DqAll K H (l.map V.int) (l.map PyData.int)
  | [] => .nil
  | x :: xs => .cons (.int x) (dq_ints xs)
theorem lay_ints : ∀ l : List Int, PyData.canLayAll0 (l.map PyData.int) = true ∧ PyData.depthAll (l.map PyData.int) = 0
  | [] => ⟨rfl, rfl⟩
  | x :: xs => by
    obtain ⟨a, b⟩ := lay_ints xs
    refine ⟨?_, ?_⟩
    · simp only [List.map_cons, PyData.canLayAll0, PyData.canLay0, a, Bool.and_self]
    · simp only [List.map_cons, PyData.depthAll, PyData.depth, b, Nat.max_self]
theorem sh_ints (l : List Int) : SeqAt.shaped (.list (l.map PyData.int)) = true := by
  obtain ⟨a, b⟩ := lay_ints l
  unfold SeqAt.shaped
  simp only [PyData.canLay0, PyData.depth, a, b]
  decide
theorem sz_ints {l : List Int} (h : ∀ m ∈ l, 0 ≤ m ∧ m ≤ 50) : ∀ d ∈ l.map PyData.int, Sz 40 0 d := fun d hd => by
  obtain ⟨m, hm, rfl⟩ := List.mem_map.mp hd
  exact Sz.int50 (h m hm).1 (h m hm).2
section
variable {P : Program} {w : World} {K : PySem.W.Frag} {mg : Str → Option Value} {base : Heap} {C CB fB : Addr} {t1 t2 : Tok}
abbrev s_law_right : Stmt := top 17
theorem sc_law_right : FnScope ["_law_pot_here", "_law_bill", "_law_way", "_law_turn", "_law_plain", "_law_told", "_law_whole", "_law_k", "_law_bad", "_law_value", "_law_costs", "_law_again", "_law_others", "_law_odd"] ["_law_pot_here"] (defScope s_law_right) := ⟨rfl, rfl, rfl, by decide +kernel, rfl, by decide +kernel, by decide +kernel⟩
theorem ok_right {f fD fA fN fM fH fE : Addr} {fd fdD fdA fdN fdM fdH fdE : FuncData} (F : Fun K "_law_right" "_law_right" s_law_right f fd) (T : Txt K mg C CB fB t1 t2)
    (c_law_draw : ∀ base, Ca P w K mg base CX0 "_law_draw" 1 ["_law_pot_here", "_law_many"] spDraw fD fdD) (c_law_any : ∀ base, Ca P w K mg base CX0 "_law_any" 2 ["_law_pot_here", "_law_items"] spAny fA fdA)
    (c_law_is_int : ∀ base, Ca P w K mg base CX0 "_law_is_int" 1 ["_law_value", "_law_low", "_law_high"] (spWithin K) fN fdN) (c_law_made : ∀ base, Ca P w K mg base (L2.CX P w) "_law_made" 5 ["_law_bill", "_law_way"] (spMade K C CB) fM fdM)
    (c_law_heard : ∀ base, Ca P w K mg base CX0 "_law_heard" 6 ["_law_bill", "_law_way"] (spHeard K) fH fdH) (c_eq : ∀ base, CaE P w K mg base C fE fdE) : FnG P w K mg base CX0 7 f fd ["_law_pot_here"] spRight := by
  have c_law_draw := c_law_draw base
  have c_law_any := c_law_any base
  have c_law_is_int := c_law_is_int base
  have c_law_made := c_law_made base
  have c_law_heard := c_law_heard base
  have c_eq := c_eq base
  refine okG F sc_law_right (fun vs H Q E h => ?_) (fun cdv A outer s H vs Q E hg hr h => ⟨_, (pss_cons (ps_asg (pe_tup (pa_cons (pe_lc (own := [("_law_turn", 3)]) (g := gName 3) (tt := tYes) rfl sc_law_right.nd (pi_range1 (by rfl) T.b_range (pa_cons pe_int pa_nil)) (blkOk_by (N := ["_law_pot_here", "_law_bill", "_law_way", "_law_turn", "_law_plain", "_law_told", "_law_whole", "_law_k", "_law_bad", "_law_value", "_law_costs", "_law_again", "_law_others", "_law_odd"]) (sc := defScope s_law_right) (by decide +kernel)) (fun _ _ _ _ _ => (pg_name (i := 3) sc_law_right.nd rfl (Or.inl rfl))) (fun _ _ _ _ _ => pts_nil) (fun _ _ _ _ _ => (pe_call c_law_any.G (hr.mono (by first | decide | omega)) (by rfl) c_law_any.g c_law_any.k c_law_any.B .nil pass0 (pa_cons (pv 0) (pa_cons (pe_lst (pa_cons pe_int (pa_cons pe_int (pa_cons pe_int (pa_cons pe_int (pa_cons pe_int pa_nil)))))) pa_nil))))) (pa_cons (pe_call c_law_draw.G (hr.mono (by first | decide | omega)) (by rfl) c_law_draw.g c_law_draw.k c_law_draw.B .nil pass0 (pa_cons (pv 0) (pa_cons pe_int pa_nil))) pa_nil))) (pg_tupK K rfl rfl (pgs_cons (pg_name (i := 1) sc_law_right.nd rfl (Or.inr rfl)) (pgs_cons (pg_name (i := 2) sc_law_right.nd rfl (Or.inl rfl)) pgs_nil))))
    (pss_cons (ps_for PassesOwn.never rfl (pi_range1 (by rfl) T.b_range (pa_cons (pe_call c_law_draw.G (hr.mono (by first | decide | omega)) (by rfl) c_law_draw.g c_law_draw.k c_law_draw.B .nil pass0 (pa_cons (pv 0) (pa_cons pe_int pa_nil))) pa_nil)) (pg_name (i := 3) sc_law_right.nd rfl (Or.inl rfl)) (pss_one (ps_asg (pe_call c_law_any.G (hr.mono (by first | decide | omega)) (by rfl) c_law_any.g c_law_any.k c_law_any.B .nil pass0 (pa_cons (pv 0) (pa_cons (pe_lst (pa_cons pe_int (pa_cons pe_int (pa_cons (pe_un un_neg pe_int) (pa_cons pe_bl (pa_cons pe_bl (pa_cons pe_non (pa_cons pe_str (pa_cons (pe_tup (pa_cons pe_int pa_nil)) (pa_cons (pe_lstS (pa_cons pe_int pa_nil)) (pa_cons pe_dnewK (pa_cons (pe_op op_pow pe_int pe_int) (pa_cons pe_int (pa_cons pe_int pa_nil)))))))))))))) pa_nil))) (pg_sub (pv 1) (pe_call c_law_draw.G (hr.mono (by first | decide | omega)) (by rfl) c_law_draw.g c_law_draw.k c_law_draw.B .nil pass0 (pa_cons (pv 0) (pa_cons pe_int pa_nil))) set_list))))
    (pss_cons (ps_set (i := 4) sc_law_right.nd rfl (Or.inr rfl) (pe_lst (pa_cons pe_int (pa_cons pe_int (pa_cons pe_int (pa_cons pe_int (pa_cons pe_int pa_nil)))))))
    (pss_cons (ps_set (i := 5) sc_law_right.nd rfl (Or.inr rfl) (pe_ix (ix_listK K rfl) (pe_lst (pa_cons (pe_lst (pa_cons pe_int (pa_cons pe_int (pa_cons pe_int (pa_cons pe_int (pa_cons pe_int pa_nil)))))) (pa_cons (pe_lst (pa_cons pe_int (pa_cons pe_int pa_nil))) (pa_cons (pe_lst (pa_cons pe_int (pa_cons pe_int (pa_cons pe_int pa_nil)))) pa_nil)))) (pv 2) (fun _ _ => rfl)))
    (pss_cons (ps_setLc (i := 6) (own := [("_law_k", 7)]) (g := gName 7) (tt := tYes) rfl sc_law_right.nd rfl rfl (sw_true rfl rfl rfl (by decide +kernel)) (pi_range1 (by rfl) T.b_range (pa_cons pe_int pa_nil)) (blkOk_by (N := ["_law_pot_here", "_law_bill", "_law_way", "_law_turn", "_law_plain", "_law_told", "_law_whole", "_law_k", "_law_bad", "_law_value", "_law_costs", "_law_again", "_law_others", "_law_odd"]) (sc := defScope s_law_right) (by decide +kernel)) (fun _ _ _ _ _ => (pg_name (i := 7) sc_law_right.nd rfl (Or.inl rfl))) (fun _ _ _ _ _ => pts_nil) (fun _ _ _ _ _ => (pe_ifExp (pt_cmpR (op_inK K rfl) (pv 7) (pv 5) (by rfl)) (pe_ix (ix_listK K rfl) (pv 1) (pv 7) (fun _ _ => rfl)) (pe_ix (ix_listK K rfl) (pv 4) (pv 7) (fun _ _ => rfl)))))
    (pss_cons (ps_setLc (i := 8) (own := [("_law_value", 9)]) (g := gName 9) rfl sc_law_right.nd rfl rfl (sw_true rfl rfl rfl (by decide +kernel)) (pi_listK K rfl (pv 6)) (blkOk_by (N := ["_law_pot_here", "_law_bill", "_law_way", "_law_turn", "_law_plain", "_law_told", "_law_whole", "_law_k", "_law_bad", "_law_value", "_law_costs", "_law_again", "_law_others", "_law_odd"]) (sc := defScope s_law_right) (by decide +kernel)) (fun _ _ _ _ _ => (pg_name (i := 9) sc_law_right.nd rfl (Or.inl rfl))) (fun _ _ _ _ _ => pts_one (pt_not (pt_val (pe_call c_law_is_int.G (hr.mono (by first | decide | omega)) (by rfl) c_law_is_int.g c_law_is_int.k c_law_is_int.B .nil pass0 (pa_cons (pv 9) (pa_cons pe_int (pa_cons pe_int pa_nil))))))) (fun _ _ _ _ _ => (pv 9)))
    (pss_cons (ps_if (pt_cmpR (op_neNilK K rfl hr.units0) (pv 8) (pe_lst pa_nil) (nomark _)) (pss_one (ps_ret (pe_cmpR op_eq (pe_callB (call_reprK K rfl hg hr.units) (by rfl) T.b_repr (by decide +kernel) (pa_cons (pe_call c_law_heard.G (hr.mono (by first | decide | omega)) (by rfl) c_law_heard.g c_law_heard.k c_law_heard.B .nil pass0 (pa_cons (pv 1) (pa_cons (pv 2) pa_nil))) pa_nil)) (pe_callB (call_reprK K rfl hg hr.units) (by rfl) T.b_repr (by decide +kernel) (pa_cons (pe_lstS (pa_cons (pe_ix (ix_listK K rfl) (pv 8) pe_int (fun _ _ => rfl)) pa_nil)) pa_nil)) (nomark _)))) pss_nil)
    (pss_cons (ps_asg (pe_tup (pa_cons (pe_call c_law_made.G (hr.mono (by decide)) (by rfl) c_law_made.g c_law_made.k c_law_made.B .nil passL (pa_cons (pv 1) (pa_cons (pv 2) pa_nil))) (pa_cons (pe_call c_law_made.G (hr.mono (by decide)) (by rfl) c_law_made.g c_law_made.k c_law_made.B .nil passL (pa_cons (pv 1) (pa_cons (pv 2) pa_nil))) pa_nil))) (pg_tupK K rfl rfl (pgs_cons (pg_name (i := 10) sc_law_right.nd rfl (Or.inr rfl)) (pgs_cons (pg_name (i := 11) sc_law_right.nd rfl (Or.inl rfl)) pgs_nil))))
    (pss_cons (ps_if (pt_cmpR op_ne (pe_callB (call_reprPK K rfl hg hr.units) (by rfl) T.b_repr (by decide +kernel) (pa_cons (pe_lst (pa_cons (pe_fldK K rfl (pv 10) rfl) (pa_cons (pe_fldK K rfl (pv 10) rfl) (pa_cons (pe_fldK K rfl (pv 10) rfl) (pa_cons (pe_fldK K rfl (pv 10) rfl) (pa_cons (pe_fldK K rfl (pv 10) rfl) pa_nil)))))) pa_nil)) (pe_callB (call_reprPK K rfl hg hr.units) (by rfl) T.b_repr (by decide +kernel) (pa_cons (pv 6) pa_nil)) (nomark _)) (pss_one (ps_ret pe_bl)) pss_nil)
    (pss_cons (ps_setLc (i := 12) (own := [("_law_value", 9)]) (g := gName 9) (tt := tYes) rfl sc_law_right.nd rfl rfl (sw_true rfl rfl rfl (by decide +kernel)) (pi_listK K rfl (pv 6)) (blkOk_by (N := ["_law_pot_here", "_law_bill", "_law_way", "_law_turn", "_law_plain", "_law_told", "_law_whole", "_law_k", "_law_bad", "_law_value", "_law_costs", "_law_again", "_law_others", "_law_odd"]) (sc := defScope s_law_right) (by decide +kernel)) (fun _ _ _ _ _ => (pg_name (i := 9) sc_law_right.nd rfl (Or.inl rfl))) (fun _ _ _ _ _ => pts_nil) (fun _ _ _ _ _ => (pv 9)))
    (pss_cons (ps_asg (pe_call c_law_any.G (hr.mono (by first | decide | omega)) (by rfl) c_law_any.g c_law_any.k c_law_any.B .nil pass0 (pa_cons (pv 0) (pa_cons (pe_lst (pa_cons pe_int (pa_cons pe_int (pa_cons pe_int (pa_cons pe_int pa_nil))))) pa_nil))) (pg_sub (pv 12) (pe_call c_law_draw.G (hr.mono (by first | decide | omega)) (by rfl) c_law_draw.g c_law_draw.k c_law_draw.B .nil pass0 (pa_cons (pv 0) (pa_cons pe_int pa_nil))) set_list))
    (pss_cons (ps_if (PW.pt (pw_or (pt_cmpR op_ne (pe_cmpR (op_ownEqK K mg base P w rfl rfl rfl rfl rfl c_eq.G (hr.mono (by decide)) c_eq.B c_eq.e c_eq.i) (pv 10) (pe_call c_law_made.G (hr.mono (by decide)) (by rfl) c_law_made.g c_law_made.k c_law_made.B .nil passL (pa_cons (pv 12) (pa_cons pe_int pa_nil))) (nomark _)) (pe_cmpR (op_eqDK K rfl hr.units) (pv 12) (pv 6) (nomark _)) (nomark _)) (pw_or (pt_not (pt_cmpR (op_ownEqK K mg base P w rfl rfl rfl rfl rfl c_eq.G (hr.mono (by decide)) c_eq.B c_eq.e c_eq.i) (pv 10) (pv 11) (nomark _))) (pw_or1 (pt_cmpR (op_ownNeK K mg base P w rfl rfl rfl rfl rfl c_eq.G (hr.mono (by decide)) c_eq.B c_eq.e c_eq.i T.ne T.cm) (pv 10) (pv 11) (nomark _)))))) (pss_one (ps_ret pe_bl)) pss_nil)
    (pss_one (ps_ret (pe_not (pe_callB (cr_anyK K rfl rfl) (by rfl) T.b_any (by decide +kernel) (pa_cons (pe_lc (own := [("_law_odd", 13)]) (g := gName 13) (tt := tYes) rfl sc_law_right.nd (pi_listK K rfl (pe_lst (pa_cons pe_non (pa_cons (pe_callTy call_tuple_of (by rfl) T.b_tuple (by decide +kernel) (pa_cons (pv 6) pa_nil)) (pa_cons pe_int (pa_cons (pe_lst pa_nil) pa_nil)))))) (blkOk_by (N := ["_law_pot_here", "_law_bill", "_law_way", "_law_turn", "_law_plain", "_law_told", "_law_whole", "_law_k", "_law_bad", "_law_value", "_law_costs", "_law_again", "_law_others", "_law_odd"]) (sc := defScope s_law_right) (by decide +kernel)) (fun _ _ _ _ _ => (pg_name (i := 13) sc_law_right.nd rfl (Or.inl rfl))) (fun _ _ _ _ _ => pts_nil) (fun _ _ _ _ _ => (pe_cmpR (op_ownEqK K mg base P w rfl rfl rfl rfl rfl c_eq.G (hr.mono (by decide)) c_eq.B c_eq.e c_eq.i) (pv 10) (pv 13) (nomark _)))) pa_nil))))))))))))))))), ?_⟩)
  · obtain ⟨_, _, rfl, _⟩ := h
    rfl
  obtain ⟨p, n, rfl, hn, hp, k⟩ := h
  -- the bill
  refine ⟨5, rfl, by decide, by decide, fun D nD => lc_range (lo := 0) (n := 5) (fun i H' => ∃ acc : List Int, H' D = some (.lst (acc.map V.int)) ∧ acc.length = i ∧ (∀ m ∈ acc, 0 ≤ m ∧ m ≤ 50) ∧ Pot H' p (n + i) ∧ But p H H') ?_ ?_ ?_⟩
  · exact ⟨[], upd_same, rfl, by simp, hp.new nD, But.of (Same.one nD)⟩
  · rintro i H' hi ⟨acc, hD, la, ha, pot, but⟩
    refine ⟨rfl, ⟨_, rfl, by show 5 ≤ sizeLine; decide, fun l nl => ⟨p, l, _, n + i, rfl, upd_same, (pot.ne nl).symm, ⟨by decide, by decide⟩, by omega, pot.new nl, fun x H2 hx pot2 but2 => ?_⟩⟩⟩
    obtain ⟨m, rfl, m0, m1⟩ : ∃ m : Int, x = .int m ∧ 0 ≤ m ∧ m ≤ 50 := by
      simp only [List.mem_cons, List.not_mem_nil, or_false] at hx
      rcases hx with rfl | rfl | rfl | rfl | rfl <;> exact ⟨_, rfl, by decide, by decide⟩
    have dp : D ≠ p := (hp.ne nD).symm
    have hD2 : H2 D = some (.lst (acc.map V.int)) := but2 D _ dp (by rw [upd_ne (ne_of_none hD nl)]; exact hD)
    refine ⟨_, hD2, ?_, acc ++ [m], ?_, by simp [la], fun z hz => ?_, (pot2.more (by omega)).upd dp.symm, (((but.new nl).trans but2).updN nD)⟩
    · rw [List.length_map, la]
      exact Nat.lt_of_lt_of_le hi (by show 5 ≤ sizeLine; decide)
    · rw [upd_same, List.map_append]
      rfl
    · rcases List.mem_append.mp hz with hz | hz
      · exact ha z hz
      · obtain rfl : z = m := by simpa using hz
        exact ⟨m0, m1⟩
  rintro H1 ⟨acc, hD1, la, ha, pot1, but1⟩
  have dp : D ≠ p := (hp.ne nD).symm
  -- the way
  refine ⟨_, rfl, p, 3, n + 5, rfl, ⟨by decide, by decide⟩, by omega, pot1, fun way H2 w0 w3 pot2 but2 => ?_⟩
  refine ⟨by show 2 ≤ sizeLine; decide, fun t nt => ⟨t, _, rfl, SqT.of upd_same, rfl, _, _, rfl, _, _, rfl, rfl, ?_⟩⟩
  have hD2 := but2 D _ dp hD1
  have hD3 : (upd H2 t (.tup [V.ref D, V.int way])) D = some (.lst (acc.map V.int)) := by rw [upd_ne (ne_of_none hD2 nt)]; exact hD2
  have pot3 := pot2.new (o := .tup [V.ref D, V.int way]) nt
  have but3 : But p H (upd H2 t (.tup [V.ref D, V.int way])) := (but1.trans but2).new nt
  generalize upd H2 t (.tup [V.ref D, V.int way]) = H3 at hD3 pot3 but3 ⊢
  clear hD2 nt pot2 but2 hD1 pot1 but1
  -- what is changed in it
  refine ⟨_, rfl, p, 3, n + 6, rfl, ⟨by decide, by decide⟩, by omega, pot3, fun r H4 r0 r3 pot4 but4 => ⟨r, rfl, by omega, by omega, for_range (lo := 0) (n := r.toNat)
    (fun i σ H' => ∃ (o : Option V) (bs : List V) (G : Hp), σ = [some (.ref p), some (.ref D), some (.int way), o, none, none, none, none, none, none, none, none, none, none] ∧ H' D = some (.lst bs) ∧ bs.length = 5 ∧
      (∀ v ∈ bs, Gd K 200 2 G v) ∧ Same G H' ∧ G p = none ∧ G D = none ∧ Pot H' p (n + 7 + 2 * i) ∧ But p H H') ?_ ?_ ?_⟩⟩
  · refine ⟨none, acc.map V.int, fun _ => none, rfl, but4 D _ dp hD3, by simp [la], fun v hv => ?_, fun _ _ e => (by cases e), rfl, rfl, pot4, but3.trans but4⟩
    obtain ⟨m, hm, rfl⟩ := List.mem_map.mp hv
    exact ⟨_, .int m, (Sz.int50 (ha m hm).1 (ha m hm).2).more (by decide) (by decide)⟩
  · rintro i σ H' hi ⟨o, bs, G, rfl, hD, l5, hG, sG, gp, gD, pot, but⟩
    refine ⟨_, rfl, _, rfl, by show 1 ≤ sizeLine; decide, fun t nt => ⟨by show 1 ≤ sizeLine; decide, fun q nq sq => fun d nd => ⟨_, _, rfl, rfl, ⟨by decide, by decide, by decide⟩, by show 13 ≤ sizeLine; decide, fun l nl => ?_⟩⟩⟩
    have pA := ((pot.new (o := .tup [V.int 3]) nt).new (o := .lst [V.int 3]) nq).new (o := .dK []) nd
    have bA := ((but.new (o := .tup [V.int 3]) nt).new (o := .lst [V.int 3]) nq).new (o := .dK []) nd
    have sA : Same (upd (upd (upd G t (.tup [V.int 3])) q (.lst [V.int 3])) d (.dK [])) (upd (upd (upd H' t (.tup [V.int 3])) q (.lst [V.int 3])) d (.dK [])) := Same.both (Same.both (Same.both sG))
    have tq : t ≠ q := fun e => by rw [← e, upd_same] at nq; cases nq
    have td : t ≠ d := fun e => by rw [← e, upd_ne tq, upd_same] at nd; cases nd
    have qd : q ≠ d := fun e => by rw [← e, upd_same] at nd; cases nd
    have hDA : (upd (upd (upd H' t (.tup [V.int 3])) q (.lst [V.int 3])) d (.dK [])) D = some (.lst bs) := by
      have e1 : (upd H' t (.tup [V.int 3])) D = some (.lst bs) := by rw [upd_ne (ne_of_none hD nt)]; exact hD
      have e2 : (upd (upd H' t (.tup [V.int 3])) q (.lst [V.int 3])) D = some (.lst bs) := by rw [upd_ne (ne_of_none e1 nq)]; exact e1
      rw [upd_ne (ne_of_none e2 nd)]
      exact e2
    have gp' : (upd (upd (upd G t (.tup [V.int 3])) q (.lst [V.int 3])) d (.dK [])) p = none := by
      have n1 := pot.ne nt
      have n2 := (pot.new (o := .tup [V.int 3]) nt).ne nq
      have n3 := ((pot.new (o := .tup [V.int 3]) nt).new (o := .lst [V.int 3]) nq).ne nd
      rw [upd_ne n3, upd_ne n2, upd_ne n1]
      exact gp
    have gD' : (upd (upd (upd G t (.tup [V.int 3])) q (.lst [V.int 3])) d (.dK [])) D = none := by
      have e1 : (upd H' t (.tup [V.int 3])) D = some (.lst bs) := by rw [upd_ne (ne_of_none hD nt)]; exact hD
      have e2 : (upd (upd H' t (.tup [V.int 3])) q (.lst [V.int 3])) D = some (.lst bs) := by rw [upd_ne (ne_of_none e1 nq)]; exact e1
      rw [upd_ne (ne_of_none e2 nd), upd_ne (ne_of_none e1 nq), upd_ne (ne_of_none hD nt)]
      exact gD
    have hGA : ∀ v ∈ bs, Gd K 200 2 (upd (upd (upd G t (.tup [V.int 3])) q (.lst [V.int 3])) d (.dK [])) v := fun v hv => (hG v hv).same
      (Same.upd (Same.upd (Same.one (sG.free nt)) (by rw [upd_ne tq.symm]; exact sG.free (by rw [upd_ne tq.symm] at nq; exact nq))) (by
        rw [upd_ne qd.symm, upd_ne td.symm]
        rw [upd_ne qd.symm, upd_ne td.symm] at nd
        exact sG.free nd))
    have aT : (upd (upd (upd G t (.tup [V.int 3])) q (.lst [V.int 3])) d (.dK [])) t = some (.tup [V.int 3]) := by rw [upd_ne td, upd_ne tq, upd_same]
    have aQ : (upd (upd (upd G t (.tup [V.int 3])) q (.lst [V.int 3])) d (.dK [])) q = some (.lst [V.int 3]) := by rw [upd_ne qd, upd_same]
    have aD : (upd (upd (upd G t (.tup [V.int 3])) q (.lst [V.int 3])) d (.dK [])) d = some (.dK []) := upd_same
    generalize upd (upd (upd G t (.tup [V.int 3])) q (.lst [V.int 3])) d (.dK []) = G2 at sA gp' gD' hGA aT aQ aD
    generalize upd (upd (upd H' t (.tup [V.int 3])) q (.lst [V.int 3])) d (.dK []) = HA at pA bA sA hDA nl ⊢
    refine ⟨p, l, _, n + 7 + 2 * i, rfl, upd_same, (pA.ne nl).symm, ⟨show 0 < 13 by decide, show 13 < 1000 by decide⟩, by omega, pA.new nl, fun x H2 hx pot2 but2 => ?_⟩
    refine ⟨_, rfl, _, rfl, p, 5, n + 7 + 2 * i + 1, rfl, ⟨by decide, by decide⟩, by omega, pot2, fun j H3 j0 j5 pot3 but3 => ?_⟩
    have hD2 : H2 D = some (.lst bs) := but2 D _ dp (by rw [upd_ne (ne_of_none hDA nl)]; exact hDA)
    have hD3 := but3 D _ dp hD2
    refine ⟨D, bs, j, j.toNat, rfl, rfl, hD3, ?_, ?_⟩
    · unfold ixN
      rw [l5, if_pos j0, if_pos (by omega)]
    have gx : Gd K 200 2 G2 x := by
      simp only [List.mem_cons, List.not_mem_nil, or_false] at hx
      rcases hx with rfl | rfl | rfl | rfl | rfl | rfl | rfl | rfl | rfl | rfl | rfl | rfl | rfl
      · exact ⟨_, .int _, by decide +kernel⟩
      · exact ⟨_, .int _, by decide +kernel⟩
      · exact ⟨_, .int _, by decide +kernel⟩
      · exact ⟨_, .bl _, by decide +kernel⟩
      · exact ⟨_, .bl _, by decide +kernel⟩
      · exact ⟨_, .non, by decide +kernel⟩
      · exact ⟨_, .str _, by decide +kernel⟩
      · exact ⟨_, .tup (SqT.of aT) (.cons (.int 3) .nil), by decide +kernel⟩
      · exact ⟨_, .lst aQ sq (.cons (.int 3) .nil), by decide +kernel⟩
      · exact ⟨_, .dct aD .nil, by decide +kernel⟩
      · exact ⟨_, .int _, by decide +kernel⟩
      · exact ⟨_, .int _, by decide +kernel⟩
      · exact ⟨_, .int _, by decide +kernel⟩
    have sN : Same G2 (upd HA l (.lst [.int 0, .int 51, .int (-1), .bl true, .bl false, .non, .str "3", .ref t, .ref q, .ref d, .int (10 ^ 30), .int 1, .int 50])) := Same.upd sA nl
    refine ⟨_, bs.set j.toNat x, G2, rfl, upd_same, by simp [l5], fun v hv => ?_, (Same.updN (Same.but (Same.but sN but2 gp') but3 gp') gD'), gp', gD', (pot3.more (by omega)).upd dp.symm, ((((bA.new nl).trans but2).trans but3).updN nD)⟩
    rcases List.mem_or_eq_of_mem_set hv with h | rfl
    · exact hGA v h
    · exact gx
  rintro σ H5 ⟨o, bs, G, rfl, hD5, l5, hG, sG, gp, gD, pot5, but5⟩
  have hw3 : way = 0 ∨ way = 1 ∨ way = 2 := by omega
  have np : D ≠ p := dp
  -- the usual costs, which are told
  refine ⟨by show 5 ≤ sizeLine; decide, fun PL nPL => ?_⟩
  refine ⟨by show 5 ≤ sizeLine; decide, fun a0 n0 => ⟨by show 2 ≤ sizeLine; decide, fun a1 n1 => ⟨by show 3 ≤ sizeLine; decide, fun a2 n2 => ⟨by show 3 ≤ sizeLine; decide, fun ao no => ?_⟩⟩⟩⟩
  have s6 := Same.upd (o := .lst [.ref a0, .ref a1, .ref a2]) (Same.upd (Same.upd (Same.upd (Same.one nPL) n0) n1) n2) no
  have hPL6 := Same.one (o := .lst [.ref a0, .ref a1, .ref a2]) no _ _ (Same.one n2 _ _ (Same.one n1 _ _ (Same.one n0 _ _ upd_same)))
  obtain ⟨tl, hat, htl6⟩ : ∃ tl, atI [V.ref a0, .ref a1, .ref a2] way = some (.ref tl) ∧ (upd (upd (upd (upd (upd H5 PL (.lst [.int 3, .int 4, .int 5, .int 1, .int 1])) a0 (.lst [.int 0, .int 1, .int 2, .int 3, .int 4])) a1 (.lst [.int 1, .int 4])) a2 (.lst [.int 0, .int 2, .int 3])) ao (.lst [.ref a0, .ref a1, .ref a2])) tl = some (.lst ((told way).map V.int)) := by
    rcases hw3 with rfl | rfl | rfl
    · exact ⟨a0, rfl, Same.one no _ _ (Same.one n2 _ _ (Same.one n1 _ _ upd_same))⟩
    · exact ⟨a1, rfl, Same.one no _ _ (Same.one n2 _ _ upd_same)⟩
    · exact ⟨a2, rfl, Same.one no _ _ upd_same⟩
  refine ⟨_, rfl, ao, _, _, _, rfl, rfl, SqL.of upd_same, hat, ?_⟩
  generalize upd (upd (upd (upd (upd H5 PL _) a0 _) a1 _) a2 _) ao _ = H6 at s6 hPL6 htl6 ⊢
  clear no n2 n1 n0 nPL hat
  -- whole
  refine ⟨5, rfl, by decide, by decide, fun W nW => lc_range (lo := 0) (n := 5) (fun i H' => H' = upd H6 W (.lst ((whole way bs).take i))) rfl ?_ ?_⟩
  · rintro i H' hi rfl
    obtain ⟨tt, htt, y, hy, hc⟩ := whole_at hw3 l5 hi
    have e6 : Same H6 (upd H6 W (.lst ((whole way bs).take i))) := Same.one nW
    refine ⟨rfl, _, rfl, _, rfl, tl, _, rfl, .inl (SqL.of (e6 _ _ htl6)), rfl, by simp [flatV], _, rfl, ?_⟩
    have fin : ∃ acc, (upd H6 W (.lst ((whole way bs).take i))) W = some (.lst acc) ∧ acc.length < sizeLine ∧ upd (upd H6 W (.lst ((whole way bs).take i))) W (.lst (acc ++ [y])) = upd H6 W (.lst ((whole way bs).take (i + 1))) := by
      refine ⟨_, upd_same, ?_, ?_⟩
      · rw [List.length_take, whole_len l5]
        exact Nat.lt_of_le_of_lt (Nat.min_le_right _ _) (by decide)
      · rw [upd_upd, List.take_succ, hy]
        rfl
    show if inV (.int (0 + (i : Int))) ((told way).map V.int) = true then _ else _
    rw [htt]
    cases tt with
    | true => exact ⟨_, rfl, _, rfl, D, bs, _, y, rfl, rfl, SqL.of (e6 _ _ (s6 _ _ hD5)), by rw [Int.zero_add]; exact atI_nat hc, fin⟩
    | false => exact ⟨_, rfl, _, rfl, PL, _, _, y, rfl, rfl, SqL.of (e6 _ _ hPL6), by rw [Int.zero_add]; exact atI_nat hc, fin⟩
  rintro H7 rfl
  have lw := whole_len (way := way) l5
  have ew : (whole way bs).take 5 = whole way bs := List.take_of_length_le (by omega)
  rw [ew]
  have hW7 : (upd H6 W (.lst (whole way bs))) W = some (.lst (whole way bs)) := upd_same
  have s7 : Same H5 (upd H6 W (.lst (whole way bs))) := Same.upd s6 nW
  generalize upd H6 W (.lst (whole way bs)) = H7 at hW7 s7 ⊢
  have gw := whole_gd (way := way) l5 hG
  -- those that are none
  refine ⟨_, rfl, W, rfl, ⟨_, SqL.of hW7⟩, fun DB nDB => lc_list (K := K) (a := W) (xs := whole way bs) (fun i H' => H' = upd H7 DB (.lst (((whole way bs).take i).filter fun v => !okV 1 50 v))) rfl (fun i H' _ e => by rw [e]; exact SqL.of (Same.one nDB _ _ hW7)) ?_ ?_⟩
  · rintro i v H' hi rfl
    obtain ⟨d, hd, _⟩ := gw v (List.mem_of_getElem? hi)
    have e7 : Same H7 (upd H7 DB (.lst (((whole way bs).take i).filter fun v => !okV 1 50 v))) := Same.one nDB
    refine ⟨rfl, _, rfl, v, d, 1, 50, rfl, hd.same ((sG.trans s7).trans e7), _, rfl, ?_⟩
    show if (!okV 1 50 v) = true then _ else _
    cases hv : okV 1 50 v with
    | true =>
      show upd H7 DB _ = upd H7 DB _
      rw [List.take_succ, hi, List.filter_append]
      simp [hv]
    | false =>
      refine ⟨_, rfl, _, upd_same, ?_, ?_⟩
      · exact Nat.lt_of_le_of_lt (Nat.le_trans (List.length_filter_le _ _) (by rw [List.length_take, lw]; exact Nat.min_le_right _ _)) (show 5 < sizeLine by decide)
      · show upd (upd H7 DB _) DB _ = upd H7 DB _
        rw [upd_upd, List.take_succ, hi, List.filter_append]
        simp [hv]
  rintro H8 rfl
  have ew2 : (whole way bs).take (whole way bs).length = whole way bs := List.take_length
  rw [ew2]
  have hB8 : (upd H7 DB (.lst ((whole way bs).filter fun v => !okV 1 50 v))) DB = some (.lst ((whole way bs).filter fun v => !okV 1 50 v)) := upd_same
  have hW8 := Same.one (o := .lst ((whole way bs).filter fun v => !okV 1 50 v)) nDB _ _ hW7
  have s8 : Same H5 (upd H7 DB (.lst ((whole way bs).filter fun v => !okV 1 50 v))) := Same.upd s7 nDB
  generalize upd H7 DB (.lst ((whole way bs).filter fun v => !okV 1 50 v)) = H8 at hB8 hW8 s8 ⊢
  have bd : bad (whole way bs) = ((whole way bs).filter fun v => !okV 1 50 v).head? := List.head?_filter.symm
  refine ⟨_, rfl, by show 0 ≤ sizeLine; decide, fun e0 ne0 => ⟨DB, e0, _, rfl, rfl, SqL.of (Same.one ne0 _ _ hB8), SqL.of upd_same, _, rfl, ?_⟩⟩
  have s9 := Same.upd (o := .lst []) s8 ne0
  have hB9 := Same.one (o := .lst []) ne0 _ _ hB8
  have hW9 := Same.one (o := .lst []) ne0 _ _ hW8
  generalize upd H8 e0 (.lst []) = H9 at s9 hB9 hW9 ⊢
  have bill9 : Bill K H9 D bs := ⟨s9 _ _ hD5, l5, fun v hv => by obtain ⟨d, hd, _⟩ := hG v hv; exact ⟨d, hd.same (sG.trans s9)⟩⟩
  cases hb : (whole way bs).filter (fun v => !okV 1 50 v) with
  | cons v rr =>
    rw [hb] at bd hB9
    obtain ⟨d, hd, sd⟩ := gw v (List.mem_filter (p := fun v => !okV 1 50 v) |>.mp (by rw [hb]; simp)).1
    have fd' : Fine (.list [d]) := (Sz.list (w := 200) (k := 2) (ds := [d]) (by simpa using sd)).fine (show (200 + 1) * 1 ≤ 200000 by decide) (by decide)
    refine ⟨_, rfl, _, rfl, D, way, bs, rfl, bill9, ⟨w0, w3⟩, fun hl H10 sl s10 h10 => ?_⟩
    rw [bd] at h10
    refine ⟨_, .list [d], rfl, .lst h10 sl (.cons (hd.same ((sG.trans s9).trans s10)) .nil), fd', ?_⟩
    refine ⟨_, rfl, DB, _, 0, v, rfl, rfl, SqL.of (s10 _ _ hB9), atI_nat (j := 0) rfl, by show 1 ≤ sizeLine; decide, fun q nq sq => ?_⟩
    refine ⟨_, .list [d], rfl, .lst upd_same sq (.cons (hd.same (((sG.trans s9).trans s10).trans (Same.one nq))) .nil), fd', rfl, ?_⟩
    rw [decide_eq_true rfl]
    exact k _ ((pot5.same ((s9.trans s10).trans (Same.one nq))).more (by omega)) (but5.same ((s9.trans s10).trans (Same.one nq)))
  | nil =>
    rw [hb] at bd
    have g0 : bad (whole way bs) = none := bd
    have okAll : ∀ v ∈ whole way bs, okV 1 50 v = true := fun v hv => by
      have := List.find?_eq_none.mp g0 v hv
      simpa using this
    obtain ⟨a, b, c, d, e, ewh, rng⟩ := whole_ok lw okAll
    have bill := bill9
    rw [ewh] at g0 hW9
    have nob : ∀ {X : Prop} {v : V}, bad (whole way bs) = some v → X := fun h => by rw [ewh, g0] at h; cases h
    have gw0 : bad (whole way bs) = none := by rw [ewh]; exact g0
    -- costs, again
    refine ⟨_, rfl, _, rfl, D, way, bs, rfl, bill, ⟨w0, w3⟩, fun v hv => nob hv, fun _ x1 dx1 H10 nx1 s10 hx1 => ?_⟩
    refine ⟨_, rfl, _, rfl, D, way, bs, rfl, ⟨s10 _ _ bill.1, l5, fun v hv => by obtain ⟨z, hz⟩ := bill.2.2 v hv; exact ⟨z, hz.same s10⟩⟩, ⟨w0, w3⟩, fun v hv => nob hv, fun _ x2 dx2 H11 nx2 s11 hx2 => ?_⟩
    refine ⟨by show 2 ≤ sizeLine; decide, fun t nt => ⟨t, _, rfl, SqT.of upd_same, rfl, _, _, rfl, _, _, rfl, rfl, ?_⟩⟩
    rw [ewh] at hx1 hx2
    have s12 : Same H9 (upd H11 t (.tup [V.ref x1, V.ref x2])) := Same.upd (s10.trans s11) nt
    have hx1 := Same.one (o := .tup [V.ref x1, V.ref x2]) nt _ _ (s11 _ _ hx1)
    have hx2 := Same.one (o := .tup [V.ref x1, V.ref x2]) nt _ _ hx2
    have hW12 := s12 _ _ hW9
    generalize upd H11 t (.tup [V.ref x1, V.ref x2]) = H12 at s12 hx1 hx2 hW12 ⊢
    have fI : Fine (.list ([a, b, c, d, e].map PyData.int)) := (Sz.list (sz_ints fun m hm => ⟨by have := (rng m hm).1; omega, (rng m hm).2⟩)).fine (show (40 + 1) * 5 ≤ 200000 by decide) (by decide)
    -- what they tell
    refine ⟨_, rfl, x1, C, dx1, _, _, rfl, hx1, T.cl, T.n_cell, l_cell .., _, rfl, x1, C, dx1, _, _, rfl, hx1, T.cl, T.n_row, l_row .., _, rfl, x1, C, dx1, _, _, rfl, hx1, T.cl, T.n_column, l_column .., _, rfl, x1, C, dx1, _, _, rfl, hx1, T.cl, T.n_name, l_name .., _, rfl, x1, C, dx1, _, _, rfl, hx1, T.cl, T.n_move, l_move .., by show 5 ≤ sizeLine; decide, fun q nq => ?_⟩
    refine ⟨_, .list ([a, b, c, d, e].map PyData.int), rfl, .lst (SqL.of upd_same) (dp_ints [a, b, c, d, e]), rfl, fI, _, rfl, _, .list ([a, b, c, d, e].map PyData.int), rfl, .lst (SqL.of (Same.one nq _ _ hW12)) (dp_ints [a, b, c, d, e]), rfl, fI, rfl, _, rfl, iteNS rfl ?_⟩
    have s13 : Same H9 (upd H12 q (.lst [V.int a, V.int b, V.int c, V.int d, V.int e])) := Same.upd s12 nq
    have hx1 := Same.one (o := .lst [V.int a, V.int b, V.int c, V.int d, V.int e]) nq _ _ hx1
    have hx2 := Same.one (o := .lst [V.int a, V.int b, V.int c, V.int d, V.int e]) nq _ _ hx2
    have hW13 := s13 _ _ hW9
    generalize upd H12 q (.lst [V.int a, V.int b, V.int c, V.int d, V.int e]) = H13 at s13 hx1 hx2 hW13 ⊢
    have pot13 : Pot H13 p (n + 30) := (pot5.same (s9.trans s13)).more (by omega)
    have but13 : But p H H13 := but5.same (s9.trans s13)
    have npx1 : x1 ≠ p := by obtain ⟨_, _, _, z, _⟩ := pot13; exact ne_of hx1 z (by intro q; cases q)
    have npx2 : x2 ≠ p := by obtain ⟨_, _, _, z, _⟩ := pot13; exact ne_of hx2 z (by intro q; cases q)
    have npW : W ≠ p := ((pot5.same s6).ne nW).symm
    clear bill g0 gw0 nob bill9 hB9 hW9 hW12 s12 s11 s10 s8 s7 s6 hB8 hW8 hW7 hPL6 htl6 hb okAll bd
    -- others
    refine ⟨_, rfl, W, rfl, ⟨_, SqL.of hW13⟩, fun O nO => lc_list (K := K) (a := W) (xs := [V.int a, V.int b, V.int c, V.int d, V.int e]) (fun i H' => H' = upd H13 O (.lst ([V.int a, V.int b, V.int c, V.int d, V.int e].take i))) rfl (fun i H' _ z => by rw [z]; exact SqL.of (Same.one nO _ _ hW13)) ?_ ?_⟩
    · rintro i v H' hi rfl
      refine ⟨rfl, _, rfl, _, upd_same, ?_, ?_⟩
      · exact Nat.lt_of_le_of_lt (by rw [List.length_take]; exact Nat.min_le_right _ _) (show 5 < sizeLine by decide)
      · show upd (upd H13 O _) O _ = upd H13 O _
        rw [upd_upd, List.take_succ, hi]
        rfl
    rintro H14 rfl
    have hO14 : (upd H13 O (.lst ([V.int a, V.int b, V.int c, V.int d, V.int e].take 5))) O = some (.lst [V.int a, V.int b, V.int c, V.int d, V.int e]) := upd_same
    have nOp : O ≠ p := (pot13.ne nO).symm
    have pot14 := pot13.new (o := .lst ([V.int a, V.int b, V.int c, V.int d, V.int e].take 5)) nO
    have but14 := but13.new (o := .lst ([V.int a, V.int b, V.int c, V.int d, V.int e].take 5)) nO
    have s14 : Same H13 (upd H13 O (.lst ([V.int a, V.int b, V.int c, V.int d, V.int e].take 5))) := Same.one nO
    have n1O : x1 ≠ O := ne_of_none hx1 nO
    have n2O : x2 ≠ O := ne_of_none hx2 nO
    have nWO : W ≠ O := ne_of_none hW13 nO
    have nHO : H O = none := by
      cases z : H O with
      | none => rfl
      | some u =>
        have := but13 O u nOp z
        rw [nO] at this
        cases this
    have hx1 := s14 _ _ hx1
    have hx2 := s14 _ _ hx2
    have hW14 := s14 _ _ hW13
    generalize upd H13 O (.lst ([V.int a, V.int b, V.int c, V.int d, V.int e].take 5)) = H14 at hO14 pot14 but14 hx1 hx2 hW14 ⊢
    clear s14 hW13 pot13 but13
    refine ⟨_, rfl, by show 4 ≤ sizeLine; decide, fun l nl => ⟨p, l, _, n + 30, rfl, upd_same, (pot14.ne nl).symm, ⟨show 0 < 4 by decide, show 4 < 1000 by decide⟩, by omega, pot14.new nl, fun x H15 hx pot15 but15 => ?_⟩⟩
    obtain ⟨m, rfl, m0, m1⟩ : ∃ m : Int, x = .int m ∧ 1 ≤ m ∧ m ≤ 50 := by
      simp only [List.mem_cons, List.not_mem_nil, or_false] at hx
      rcases hx with rfl | rfl | rfl | rfl <;> exact ⟨_, rfl, by decide, by decide⟩
    refine ⟨_, rfl, _, rfl, p, 5, n + 31, rfl, ⟨by decide, by decide⟩, by omega, pot15, fun j H16 j0 j5 pot16 but16 => ?_⟩
    have keep : ∀ {b : Addr} {o : HO}, b ≠ p → H14 b = some o → H16 b = some o := fun nb z => but16 _ _ nb (but15 _ _ nb (Same.one nl _ _ z))
    have hO16 := keep nOp hO14
    refine ⟨O, _, j, j.toNat, rfl, rfl, hO16, ?_, ?_⟩
    · unfold ixN
      rw [if_pos j0]
      exact if_pos (show j < ((5 : Nat) : Int) from j5)
    obtain ⟨os, eos, los, ros⟩ : ∃ os : List Int, [V.int a, V.int b, V.int c, V.int d, V.int e].set j.toNat (.int m) = os.map V.int ∧ os.length = 5 ∧ ∀ z ∈ os, 1 ≤ z ∧ z ≤ 50 := by
      refine ⟨[a, b, c, d, e].set j.toNat m, ?_, by simp, fun z hz => ?_⟩
      · rw [List.map_set]
        rfl
      · rcases List.mem_or_eq_of_mem_set hz with h | rfl
        · exact rng z h
        · exact ⟨m0, m1⟩
    show tSeq _ _ _ _ (upd H16 O (.lst ([V.int a, V.int b, V.int c, V.int d, V.int e].set j.toNat (.int m))))
    rw [eos]
    have pot17 := (pot16.upd (o := .lst (os.map V.int)) nOp.symm)
    have but17 := (((but14.new (o := .lst [.int 3, .int 1, .int 50, .int 7]) nl).trans but15).trans but16).updN (o := .lst (os.map V.int)) nHO
    have hO17 : (upd H16 O (.lst (os.map V.int))) O = some (.lst (os.map V.int)) := upd_same
    have hx1 : (upd H16 O (.lst (os.map V.int))) x1 = some (.ins C dx1 (fldL [V.int a, V.int b, V.int c, V.int d, V.int e])) := by rw [upd_ne n1O]; exact keep npx1 hx1
    have hx2 : (upd H16 O (.lst (os.map V.int))) x2 = some (.ins C dx2 (fldL [V.int a, V.int b, V.int c, V.int d, V.int e])) := by rw [upd_ne n2O]; exact keep npx2 hx2
    have hW17 : (upd H16 O (.lst (os.map V.int))) W = some (.lst [V.int a, V.int b, V.int c, V.int d, V.int e]) := by rw [upd_ne nWO]; exact keep npW hW14
    generalize upd H16 O (.lst (os.map V.int)) = H17 at pot17 but17 hO17 hx1 hx2 hW17 ⊢
    obtain ⟨a', b', c', d', e', rfl⟩ := list5 los
    -- the great comparison
    have nf : PySem.W.notFirst K C (.ref C) = true := by simp [PySem.W.notFirst]
    refine ⟨_, rfl, _, rfl, O, 0, _, rfl, ⟨hO17, rfl, fun v hv => ?_⟩, ⟨by decide, by decide⟩, fun v hv => ?_, fun _ x3 dx3 H18 nx3 s18 hx3 => ?_⟩
    · obtain ⟨z, hz, rfl⟩ := List.mem_map.mp hv
      exact ⟨_, .int z⟩
    · have hv' : bad ([a', b', c', d', e'].map V.int) = some v := hv
      rw [bad_none ros] at hv'
      cases hv'
    have hx1 := s18 _ _ hx1
    have hx2 := s18 _ _ hx2
    have hW18 := s18 _ _ hW17
    have hO18 := s18 _ _ hO17
    have pot18 := pot17.same s18
    have but18 := but17.same s18
    refine ⟨x1, dx1, _, .ref C, rfl, hx1, .base (.ins hx3 T.cl T.ca T.cn T.ct T.cm), nf, x1, dx1, a, b, c, d, e, .ref x3, rfl, hx1, .inl ⟨x3, dx3, a', b', c', d', e', rfl, hx3, ?_⟩⟩
    refine ⟨_, rfl, _, rfl, .list ([a', b', c', d', e'].map PyData.int), .list ([a, b, c, d, e].map PyData.int), .lst (SqL.of hO18) (dp_ints _), .lst (SqL.of hW18) (dp_ints [a, b, c, d, e]), sh_ints _, sh_ints _, rfl, _, rfl, iteNS ?_ ?_⟩
    · rw [eqv_intsL]
      congr 1
      exact decide_eq_decide.mpr ⟨fun z => z.symm, fun z => z.symm⟩
    refine ⟨_, rfl, _, rfl, x1, dx1, _, .ref C, rfl, hx1, .base (.ins hx2 T.cl T.ca T.cn T.ct T.cm), nf, x1, dx1, a, b, c, d, e, .ref x2, rfl, hx1, .inl ⟨x2, dx2, a, b, c, d, e, rfl, hx2, _, rfl, iteNS rfl ?_⟩⟩
    refine ⟨_, rfl, _, rfl, x1, dx1, _, .ref C, rfl, hx1, .base (.ins hx2 T.cl T.ca T.cn T.ct T.cm), nf, x1, dx1, a, b, c, d, e, .ref x2, rfl, hx1, .inl ⟨x2, dx2, a, b, c, d, e, rfl, hx2, _, rfl, _, rfl, iteNS rfl ?_⟩⟩
    -- nothing else
    refine ⟨_, rfl, W, _, rfl, .inl ⟨SqL.of hW18, fun tp ntp => ⟨by show 0 ≤ sizeLine; decide, fun e1 ne1 => ⟨by show 4 ≤ sizeLine; decide, fun lo nlo => ?_⟩⟩⟩⟩
    have s21 := Same.upd (o := .lst [.non, .ref tp, .int 3, .ref e1]) (Same.upd (o := .lst []) (Same.one (o := .tup [V.int a, V.int b, V.int c, V.int d, V.int e]) ntp) ne1) nlo
    have htp := Same.one (o := .lst [.non, .ref tp, .int 3, .ref e1]) nlo _ _ (Same.one (o := .lst []) ne1 _ _ (upd_same (H := H18) (a := tp) (o := .tup [V.int a, V.int b, V.int c, V.int d, V.int e])))
    have he1 := Same.one (o := .lst [.non, .ref tp, .int 3, .ref e1]) nlo _ _ (upd_same (H := upd H18 tp (.tup [V.int a, V.int b, V.int c, V.int d, V.int e])) (a := e1) (o := .lst []))
    have hlo := upd_same (H := upd (upd H18 tp (.tup [V.int a, V.int b, V.int c, V.int d, V.int e])) e1 (.lst [])) (a := lo) (o := .lst [.non, .ref tp, .int 3, .ref e1])
    generalize upd (upd (upd H18 tp (.tup [V.int a, V.int b, V.int c, V.int d, V.int e])) e1 (.lst [])) lo (.lst [.non, .ref tp, .int 3, .ref e1]) = H21 at s21 htp he1 hlo ⊢
    refine ⟨lo, rfl, ⟨_, SqL.of hlo⟩, fun R nR => lc_list (K := K) (a := lo) (xs := [.non, .ref tp, .int 3, .ref e1]) (fun i H' => H' = upd H21 R (.lst ((List.replicate i false).map V.bl))) rfl (fun i H' _ z => by rw [z]; exact SqL.of (Same.one nR _ _ hlo)) ?_ ?_⟩
    · rintro i v H' hi rfl
      have i4 : i < 4 := (List.getElem?_eq_some_iff.mp hi).1
      have sR : Same H18 (upd H21 R (.lst ((List.replicate i false).map V.bl))) := Same.upd s21 nR
      obtain ⟨T', ty, mem⟩ : ∃ T' : String, TyX K (upd H21 R (.lst ((List.replicate i false).map V.bl))) v (.type T') ∧ T' ∈ ["NoneType", "tuple", "int", "list"] := by
        have hv := List.mem_of_getElem? hi
        simp only [List.mem_cons, List.not_mem_nil, or_false] at hv
        rcases hv with rfl | rfl | rfl | rfl
        · exact ⟨_, .base .non, by simp⟩
        · exact ⟨_, .base (.tup (Same.one nR _ _ htp)), by simp⟩
        · exact ⟨_, .base (.int 3), by simp⟩
        · exact ⟨_, .base (.lst (Same.one nR _ _ he1)), by simp⟩
      obtain ⟨kt, nt⟩ := T.kT T' mem
      refine ⟨rfl, _, rfl, _, rfl, x1, dx1, _, .type T', rfl, sR _ _ hx1, ty, nt, x1, dx1, a, b, c, d, e, v, rfl, sR _ _ hx1, .inr ⟨T', ty, kt, _, upd_same, ?_, ?_⟩⟩
      · rw [List.length_map, List.length_replicate]
        exact Nat.lt_trans i4 (by decide)
      · show upd (upd H21 R _) R _ = upd H21 R _
        rw [upd_upd, List.replicate_succ', List.map_append]
        rfl
    rintro H22 rfl
    have s22 : Same H18 (upd H21 R (.lst ((List.replicate 4 false).map V.bl))) := Same.upd s21 nR
    refine ⟨R, List.replicate 4 false, rfl, SqL.of upd_same, _, rfl, ?_⟩
    exact k _ ((pot18.same s22).more (by omega)) (but18.same s22)
end
end K03

set_option Elab.async false
set_option linter.all false
set_option maxRecDepth 100000
set_option maxHeartbeats 8000000
namespace K03
open PySem L2 Xby
structure CaG (P : Program) (w : World) (K : PySem.W.Frag) (mg : Str → Option Value) (base : Heap) (x : Str) (k : Nat) (ps : List Str) (sp : Sp) (f : Addr) (fd : FuncData) : Prop where
  G : FnG P w K mg base CX0 k f fd ps sp
  g : mg x = some (.ref f)
  k : PySem.W.keepIn K (.ref f) = true
  B : Binds K fd ps []
def spLaw (K : PySem.W.Frag) : Sp := fun vs H Q _ => ∃ (a : Addr) (ns : List Int), vs = [.ref a] ∧ SqL K H a (ns.map V.int) ∧ ns.length ≤ 63 ∧ ∀ H', Q (.bl true) H'
section
variable {P : Program} {w : World} {K : PySem.W.Frag} {mg : Str → Option Value} {base : Heap} {C CB fB : Addr} {t1 t2 : Tok}
abbrev s_law : Stmt := top 18
theorem sc_law : FnScope ["_law_script", "_law_k", "_law_pot_here", "_law_turn"] ["_law_script"] (defScope s_law) := ⟨rfl, rfl, rfl, by decide +kernel, rfl, by decide +kernel, by decide +kernel⟩
theorem ok_law {f fP fR : Addr} {fd fdP fdR : FuncData} (F : Fun K "law" "law" s_law f fd) (T : Txt K mg C CB fB t1 t2)
    (c_law_pot : ∀ base, Ca P w K mg base CX0 "_law_pot" 1 ["_law_script", "_law_k"] (spPot K) fP fdP) (c_law_right : ∀ base, CaG P w K mg base "_law_right" 7 ["_law_pot_here"] spRight fR fdR) : FnG P w K mg base CX0 8 f fd ["_law_script"] (spLaw K) := by
  have c_law_pot := c_law_pot base
  have c_law_right := c_law_right base
  refine okG F sc_law (fun vs H Q E h => ?_) (fun cdv A outer s H vs Q E hg hr h => ⟨_, (pss_cons (ps_for PassesOwn.never rfl (pi_range1 (by rfl) T.b_range (pa_cons (pe_callB (call_max2 rfl) (by rfl) T.b_max (by decide +kernel) (pa_cons pe_int (pa_cons (pe_callB (call_min2 rfl) (by rfl) T.b_min (by decide +kernel) (pa_cons pe_int (pa_cons (pe_callB (call_lenK K rfl) (by rfl) T.b_len (by decide +kernel) (pa_cons (pv 0) pa_nil)) pa_nil))) pa_nil))) pa_nil)) (pg_name (i := 1) sc_law.nd rfl (Or.inl rfl)) (pss_cons (ps_set (i := 2) sc_law.nd rfl (Or.inr rfl) (pe_call c_law_pot.G (hr.mono (by first | decide | omega)) (by rfl) c_law_pot.g c_law_pot.k c_law_pot.B .nil pass0 (pa_cons (pv 0) (pa_cons (pv 1) pa_nil))))
    (pss_one (ps_if (pt_not (pt_val (pe_callB (cr_allK K rfl rfl) (by rfl) T.b_all (by decide +kernel) (pa_cons (pe_lc (own := [("_law_turn", 3)]) (g := gName 3) (tt := tYes) rfl sc_law.nd (pi_range1 (by rfl) T.b_range (pa_cons pe_int pa_nil)) (blkOk_by (N := ["_law_script", "_law_k", "_law_pot_here", "_law_turn"]) (sc := defScope s_law) (by decide +kernel)) (fun _ _ _ _ _ => (pg_name (i := 3) sc_law.nd rfl (Or.inl rfl))) (fun _ _ _ _ _ => pts_nil) (fun _ _ _ _ _ => (pe_callG c_law_right.G hg (hr.mono (by decide)) (by rfl) c_law_right.g c_law_right.k c_law_right.B (pa_cons (pv 2) pa_nil)))) pa_nil)))) (pss_one (ps_ret pe_bl)) pss_nil))))
    (pss_one (ps_ret pe_bl))), ?_⟩)
  · obtain ⟨_, _, rfl, _⟩ := h
    rfl
  obtain ⟨a, ns, rfl, hS, few, k⟩ := h
  have nb : 0 ≤ (if (if ((ns.map V.int).length : Int) < 3 then ((ns.map V.int).length : Int) else 3) > 1 then (if ((ns.map V.int).length : Int) < 3 then ((ns.map V.int).length : Int) else 3) else 1) ∧
      (if (if ((ns.map V.int).length : Int) < 3 then ((ns.map V.int).length : Int) else 3) > 1 then (if ((ns.map V.int).length : Int) < 3 then ((ns.map V.int).length : Int) else 3) else 1) ≤ 3 := by
    split <;> split <;> omega
  refine ⟨_, rfl, _, _, rfl, .inl ⟨_, hS, rfl⟩, _, _, rfl, _, _, rfl, _, rfl, Int.le_trans (by decide) nb.1, Int.lt_of_le_of_lt nb.2 (by decide), ?_⟩
  revert nb
  generalize (if (if ((ns.map V.int).length : Int) < 3 then ((ns.map V.int).length : Int) else 3) > 1 then (if ((ns.map V.int).length : Int) < 3 then ((ns.map V.int).length : Int) else 3) else 1) = N
  intro nb
  refine for_range (lo := 0) (n := N.toNat) (fun i σ H' => ∃ o1 o2 o3 : Option V, σ = [some (.ref a), o1, o2, o3] ∧ Same H H') ⟨none, none, none, rfl, Same.refl H⟩ ?_ ?_
  · rintro i σ H1 hi ⟨o1, o2, o3, rfl, s1⟩
    refine ⟨_, rfl, _, rfl, a, ns, 0 + (i : Int), rfl, s1.seq hS, few, ⟨by omega, by omega⟩, fun p H2 np s2 pot => ?_⟩
    refine ⟨8, rfl, by decide, by decide, fun D nD => lc_range (lo := 0) (n := 8) (fun j H' => H' D = some (.lst ((List.replicate j true).map V.bl)) ∧ Pot H' p (100 * j) ∧ But p H2 H') ?_ ?_ ?_⟩
    · exact ⟨upd_same, pot.new nD, But.of (Same.one nD)⟩
    · rintro j H' hj ⟨hD, pot', but'⟩
      have dp : D ≠ p := (pot.ne nD).symm
      refine ⟨rfl, _, rfl, p, 100 * j, rfl, by omega, pot', fun H3 pot3 but3 => ⟨_, but3 D _ dp hD, ?_, ?_, (pot3.more (by omega)).upd dp.symm, ((but'.trans but3).updN nD)⟩⟩
      · rw [List.length_map, List.length_replicate]
        exact Nat.lt_trans hj (by decide)
      · rw [upd_same, List.replicate_succ', List.map_append]
        rfl
    rintro H3 ⟨hD, pot3, but3⟩
    refine ⟨D, List.replicate 8 true, rfl, SqL.of hD, _, rfl, ?_⟩
    have np0 : H p = none := s1.free np
    exact ⟨_, _, _, rfl, fun b o e => but3 b o (ne_of_none e np0) (s2 b o (s1 b o e))⟩
  · rintro σ H1 ⟨o1, o2, o3, rfl, s1⟩
    exact k _
end
end K03

set_option Elab.async false
set_option linter.all false
set_option maxRecDepth 100000
set_option maxHeartbeats 8000000
namespace K03
open PySem L2 Xby
open PySem (excClassObj)
theorem all_mk {l : PySem.W.OpenLaw} {w : World} {K : PySem.W.Frag} {h : Heap} {mg : Str → Option Value} {fa : Addr} {C CB CH fB DK : Addr} {t1 t2 u0 u1 u2 u3 u4 : Tok}
    {nmB qB : Str} {NB : Addr} {bsB : List Value} {snB : List Str} {subB : List Value} {abB : Bool} {colB : Option Bool} {ddB : Option Addr} {m0 m1 m2 m3 m5 : Option Value} {ocB dcB pmB cdB ctB : Value} {odB anB : Option Addr} {slB : Array (Option Value)} {pB1 pB2 pB3 pB4 pB5 pB6 : Pos}
    {fJ : Addr} {ocJ dcJ pmJ cdJ ctJ : Value} {odJ anJ : Option Addr} {slJ : Array (Option Value)} {kVJ : Value}
    {fW : Addr} {ocW dcW pmW cdW ctW : Value} {odW anW : Option Addr} {slW : Array (Option Value)} {kVW : Value}
    {fI : Addr} {ocI dcI pmI cdI ctI : Value} {odI anI : Option Addr} {slI : Array (Option Value)}
    {fE : Addr} {ocE dcE pmE cdE ctE : Value} {odE anE : Option Addr} {slE : Array (Option Value)} {kVE : Value}
    {fD : Addr} {ocD dcD pmD cdD ctD : Value} {odD anD : Option Addr} {slD : Array (Option Value)} {kVD : Value}
    {fA : Addr} {ocA dcA pmA cdA ctA : Value} {odA anA : Option Addr} {slA : Array (Option Value)} {kVA : Value}
    {fP : Addr} {ocP dcP pmP cdP ctP : Value} {odP anP : Option Addr} {slP : Array (Option Value)} {kVP : Value}
    {fN : Addr} {ocN dcN pmN cdN ctN : Value} {odN anN : Option Addr} {slN : Array (Option Value)} {kVN : Value}
    {fM : Addr} {ocM dcM pmM cdM ctM : Value} {odM anM : Option Addr} {slM : Array (Option Value)} {kVM : Value}
    {fH : Addr} {ocH dcH pmH cdH ctH : Value} {odH anH : Option Addr} {slH : Array (Option Value)} {kVH : Value}
    {fR : Addr} {ocR dcR pmR cdR ctR : Value} {odR anR : Option Addr} {slR : Array (Option Value)} {kVR : Value}
    {fL : Addr} {ocL dcL pmL cdL ctL : Value} {odL anL : Option Addr} {slL : Array (Option Value)} {kVL : Value}
    (X : K.In h) (G : h.Ns mainGlobals mg) (hfa : mg "law" = some (.ref fa))
    (aC : PySem.W.nsIn K mainGlobals "Costs" = some (some (.ref C)))
    (aJ : PySem.W.nsIn K mainGlobals "is_integer" = some (some (.ref fJ)))
    (lJ : K.lookup fJ = some ⟨ocJ, odJ, .func (PySem.W.fnOf "is_integer" "is_integer" (defArgs s_is_integer) (defBody s_is_integer) (defScope s_is_integer) .none kVJ dcJ pmJ anJ cdJ ctJ), slJ⟩)
    (cJ : PySem.W.codeIn K cdJ "is_integer" = true)
    (kJ : PySem.W.keepIn K (.ref fJ) = true)
    (aW : PySem.W.nsIn K mainGlobals "is_integer_within" = some (some (.ref fW)))
    (lW : K.lookup fW = some ⟨ocW, odW, .func (PySem.W.fnOf "is_integer_within" "is_integer_within" (defArgs s_is_integer_within) (defBody s_is_integer_within) (defScope s_is_integer_within) .none kVW dcW pmW anW cdW ctW), slW⟩)
    (cW : PySem.W.codeIn K cdW "is_integer_within" = true)
    (kW : PySem.W.keepIn K (.ref fW) = true)
    (aI : PySem.W.findIn K (.ref C) "__init__" = some (some (.ref fI)))
    (iI : PySem.W.isFn K (.ref fI) = true)
    (lI : K.lookup fI = some ⟨ocI, odI, .func (PySem.W.fnOf "__init__" "Costs.__init__" (defArgs s_Costs___init__) (defBody s_Costs___init__) (defScope s_Costs___init__) .none (.ref DK) dcI pmI anI cdI ctI), slI⟩)
    (cI : PySem.W.codeIn K cdI "Costs.__init__" = true)
    (kI : PySem.W.keepIn K (.ref fI) = true)
    (aE : PySem.W.findIn K (.ref C) "__eq__" = some (some (.ref fE)))
    (iE : PySem.W.isFn K (.ref fE) = true)
    (lE : K.lookup fE = some ⟨ocE, odE, .func (PySem.W.fnOf "__eq__" "Costs.__eq__" (defArgs s_Costs___eq__) (defBody s_Costs___eq__) (defScope s_Costs___eq__) .none kVE dcE pmE anE cdE ctE), slE⟩)
    (cE : PySem.W.codeIn K cdE "Costs.__eq__" = true)
    (kE : PySem.W.keepIn K (.ref fE) = true)
    (aD : PySem.W.nsIn K mainGlobals "_law_draw" = some (some (.ref fD)))
    (lD : K.lookup fD = some ⟨ocD, odD, .func (PySem.W.fnOf "_law_draw" "_law_draw" (defArgs s_law_draw) (defBody s_law_draw) (defScope s_law_draw) .none kVD dcD pmD anD cdD ctD), slD⟩)
    (cD : PySem.W.codeIn K cdD "_law_draw" = true)
    (kD : PySem.W.keepIn K (.ref fD) = true)
    (aA : PySem.W.nsIn K mainGlobals "_law_any" = some (some (.ref fA)))
    (lA : K.lookup fA = some ⟨ocA, odA, .func (PySem.W.fnOf "_law_any" "_law_any" (defArgs s_law_any) (defBody s_law_any) (defScope s_law_any) .none kVA dcA pmA anA cdA ctA), slA⟩)
    (cA : PySem.W.codeIn K cdA "_law_any" = true)
    (kA : PySem.W.keepIn K (.ref fA) = true)
    (aP : PySem.W.nsIn K mainGlobals "_law_pot" = some (some (.ref fP)))
    (lP : K.lookup fP = some ⟨ocP, odP, .func (PySem.W.fnOf "_law_pot" "_law_pot" (defArgs s_law_pot) (defBody s_law_pot) (defScope s_law_pot) .none kVP dcP pmP anP cdP ctP), slP⟩)
    (cP : PySem.W.codeIn K cdP "_law_pot" = true)
    (kP : PySem.W.keepIn K (.ref fP) = true)
    (aN : PySem.W.nsIn K mainGlobals "_law_is_int" = some (some (.ref fN)))
    (lN : K.lookup fN = some ⟨ocN, odN, .func (PySem.W.fnOf "_law_is_int" "_law_is_int" (defArgs s_law_is_int) (defBody s_law_is_int) (defScope s_law_is_int) .none kVN dcN pmN anN cdN ctN), slN⟩)
    (cN : PySem.W.codeIn K cdN "_law_is_int" = true)
    (kN : PySem.W.keepIn K (.ref fN) = true)
    (aM : PySem.W.nsIn K mainGlobals "_law_made" = some (some (.ref fM)))
    (lM : K.lookup fM = some ⟨ocM, odM, .func (PySem.W.fnOf "_law_made" "_law_made" (defArgs s_law_made) (defBody s_law_made) (defScope s_law_made) .none kVM dcM pmM anM cdM ctM), slM⟩)
    (cM : PySem.W.codeIn K cdM "_law_made" = true)
    (kM : PySem.W.keepIn K (.ref fM) = true)
    (aH : PySem.W.nsIn K mainGlobals "_law_heard" = some (some (.ref fH)))
    (lH : K.lookup fH = some ⟨ocH, odH, .func (PySem.W.fnOf "_law_heard" "_law_heard" (defArgs s_law_heard) (defBody s_law_heard) (defScope s_law_heard) .none kVH dcH pmH anH cdH ctH), slH⟩)
    (cH : PySem.W.codeIn K cdH "_law_heard" = true)
    (kH : PySem.W.keepIn K (.ref fH) = true)
    (aR : PySem.W.nsIn K mainGlobals "_law_right" = some (some (.ref fR)))
    (lR : K.lookup fR = some ⟨ocR, odR, .func (PySem.W.fnOf "_law_right" "_law_right" (defArgs s_law_right) (defBody s_law_right) (defScope s_law_right) .none kVR dcR pmR anR cdR ctR), slR⟩)
    (cR : PySem.W.codeIn K cdR "_law_right" = true)
    (kR : PySem.W.keepIn K (.ref fR) = true)
    (aL : PySem.W.nsIn K mainGlobals "law" = some (some (.ref fL)))
    (lL : K.lookup fL = some ⟨ocL, odL, .func (PySem.W.fnOf "law" "law" (defArgs s_law) (defBody s_law) (defScope s_law) .none kVL dcL pmL anL cdL ctL), slL⟩)
    (cL : PySem.W.codeIn K cdL "law" = true)
    (kL : PySem.W.keepIn K (.ref fL) = true)
    (q0 : PySem.W.nsIn K DK "cell" = some (some (.int 3 u0)))
    (q1 : PySem.W.nsIn K DK "row" = some (some (.int 4 u1)))
    (q2 : PySem.W.nsIn K DK "column" = some (some (.int 5 u2)))
    (q3 : PySem.W.nsIn K DK "name" = some (some (.int 1 u3)))
    (q4 : PySem.W.nsIn K DK "move" = some (some (.int 1 u4)))
    (pg : PySem.W.plainGet K C Str.empty = true)
    (hd : PySem.W.hasDictIn K C = true)
    (po : PySem.W.plainOver K C = true)
    (sa : PySem.W.findIn K (.ref C) "__setattr__" = some (some (.builtin "object.__setattr__")))
    (mk : PySem.W.makesIn K C = true)
    (kc : PySem.W.keepIn K (.ref C) = true)
    (n_cell : PySem.W.findIn K (.ref C) "cell" = some none)
    (n_row : PySem.W.findIn K (.ref C) "row" = some none)
    (n_column : PySem.W.findIn K (.ref C) "column" = some none)
    (n_name : PySem.W.findIn K (.ref C) "name" = some none)
    (n_move : PySem.W.findIn K (.ref C) "move" = some none)
    (k1 : PySem.W.nsIn K mainGlobals "LEAST_COST" = some (some (.int 1 t1)))
    (k2 : PySem.W.nsIn K mainGlobals "GREATEST_COST" = some (some (.int 50 t2)))
    (z_abs : PySem.W.nsIn K mainGlobals "abs" = some none)
    (z_all : PySem.W.nsIn K mainGlobals "all" = some none)
    (z_any : PySem.W.nsIn K mainGlobals "any" = some none)
    (z_bool : PySem.W.nsIn K mainGlobals "bool" = some none)
    (z_int : PySem.W.nsIn K mainGlobals "int" = some none)
    (z_isinstance : PySem.W.nsIn K mainGlobals "isinstance" = some none)
    (z_len : PySem.W.nsIn K mainGlobals "len" = some none)
    (z_max : PySem.W.nsIn K mainGlobals "max" = some none)
    (z_min : PySem.W.nsIn K mainGlobals "min" = some none)
    (z_range : PySem.W.nsIn K mainGlobals "range" = some none)
    (z_repr : PySem.W.nsIn K mainGlobals "repr" = some none)
    (z_tuple : PySem.W.nsIn K mainGlobals "tuple" = some none)
    (isC : PySem.W.isClsIn K C = true)
    (tyC : PySem.W.typeIn K (.ref C) = some (.type "type"))
    (sb_NoneType : PySem.W.subIn K (.type "NoneType") (.ref C) = some false)
    (sb_tuple : PySem.W.subIn K (.type "tuple") (.ref C) = some false)
    (sb_int : PySem.W.subIn K (.type "int") (.ref C) = some false)
    (sb_list : PySem.W.subIn K (.type "list") (.ref C) = some false)
    (ca : PySem.W.findIn K (.ref C) "__class__" = some (some (.builtin "object.__class__")))
    (cn : PySem.W.specialIn K (.builtin "object.__class__") "__get__" = some (some (.builtin "getset_descriptor.__get__")))
    (ct : PySem.W.takesIn K (.builtin "object.__class__") = some true)
    (cm : PySem.W.mroIn K C (.type "object") = some true)
    (ne : PySem.W.findIn K (.ref C) "__ne__" = some (some (.builtin "object.__ne__")))
    (aB : PySem.W.nsIn K mainGlobals "BadCost" = some (some (.ref CB)))
    (xB : K.lookup CB = some (excClassObj nmB qB CB NB bsB [.ref CH, .type "ValueError", .type "Exception", .type "BaseException", .type "object"] true snB subB abB colB ddB m0 m1 m2 m3 m5 "ValueError.__new__"))
    (saB : PySem.W.findIn K (.ref CB) "__setattr__" = some (some (.builtin "object.__setattr__")))
    (gaB : PySem.W.findIn K (.ref CB) "__getattribute__" = some (some (.builtin "BaseException.__getattribute__")))
    (ggB : PySem.W.findIn K (.ref CB) "__getattr__" = some none)
    (nbB : PySem.W.findIn K (.ref CB) "value" = some none)
    (iB : PySem.W.findIn K (.ref CB) "__init__" = some (some (.ref fB)))
    (tB : PySem.W.typeIn K (.ref fB) = some (.type "function"))
    (lB : K.lookup fB = some ⟨ocB, odB, .func (PySem.W.fnOf "__init__" "BadCost.__init__" (PySem.LowV.iA pB1 pB2) (PySem.LowV.iB pB3 pB4 pB5 pB6) PySem.LowV.iS .none .none dcB pmB anB cdB ctB), slB⟩)
    (cB : PySem.W.codeIn K cdB "BadCost.__init__" = true)
    (kB : PySem.W.keepIn K (.ref CB) = true)
    (eB : PySem.W.subIn K (.ref CB) (.type "BaseException") = some true)
    (tyB : PySem.W.typeIn K (.ref CB) = some (.type "type"))
    (hB : PySem.W.hasDictIn K CB = true)
    (icB : PySem.W.isClsIn K CB = true)
    (sB : PySem.W.subIn K (.ref CB) (.ref CB) = some true) :
    ∃ fd : FuncData, (∀ (s : Shared) (v : Value), BindsTo s fd ⟨[v], []⟩ [("_law_script", v)]) ∧ ∀ base : Heap, K.In base → base.Ns mainGlobals mg → FnG l.prog w K mg base CX0 8 fa fd ["_law_script"] (spLaw K) := by
  have e := hfa.symm.trans (PySem.W.mg_of X G aL)
  cases e
  have low : PySem.LowV.LowTxt K mg "BadCost" "BadCost.__init__" CB fB :=
    { gC := PySem.W.mg_of X G aB, cls := ⟨nmB, qB, NB, bsB, _, snB, subB, abB, colB, ddB, m0, m1, m2, m3, m5, xB, rfl⟩, sa := saB, ga := gaB, gg := ggB, noN := nbB, iC := iB, tC := tB, kC := kB, exC := eB, tyC := tyB, hdC := hB, te := exm_of eB icB tyB sB,
      fn := ⟨_, _, _, _, _, _, _, _, _, _, _, _, _, _, lB, cB⟩ }
  have kT : ∀ T : String, T ∈ ["NoneType", "tuple", "int", "list"] → PySem.W.kitOne K (.type T) (.ref C) = some false ∧ PySem.W.notFirst K C (.type T) = true := by
    intro T' hT
    simp only [List.mem_cons, List.not_mem_nil, or_false] at hT
    rcases hT with rfl | rfl | rfl | rfl
    · exact ⟨kit_own isC tyC sb_NoneType, nf_own sb_NoneType⟩
    · exact ⟨kit_own isC tyC sb_tuple, nf_own sb_tuple⟩
    · exact ⟨kit_own isC tyC sb_int, nf_own sb_int⟩
    · exact ⟨kit_own isC tyC sb_list, nf_own sb_list⟩
  have kcc : PySem.W.kitOne K (.ref C) (.ref C) = some true := by
    unfold PySem.W.kitOne
    simp
  have T : Txt K mg C CB fB t1 t2 :=
    { low := low
      cl := ⟨pg, hd, po, sa⟩
      n_cell := n_cell
      n_row := n_row
      n_column := n_column
      n_name := n_name
      n_move := n_move
      g_Costs := PySem.W.mg_of X G aC
      c_LEAST_COST := PySem.W.mg_of X G k1
      c_GREATEST_COST := PySem.W.mg_of X G k2
      b_abs := PySem.W.mg_none_of X G z_abs
      b_all := PySem.W.mg_none_of X G z_all
      b_any := PySem.W.mg_none_of X G z_any
      b_bool := PySem.W.mg_none_of X G z_bool
      b_int := PySem.W.mg_none_of X G z_int
      b_isinstance := PySem.W.mg_none_of X G z_isinstance
      b_len := PySem.W.mg_none_of X G z_len
      b_max := PySem.W.mg_none_of X G z_max
      b_min := PySem.W.mg_none_of X G z_min
      b_range := PySem.W.mg_none_of X G z_range
      b_repr := PySem.W.mg_none_of X G z_repr
      b_tuple := PySem.W.mg_none_of X G z_tuple
      kcc := kcc
      kT := kT
      ca := ca
      cn := cn
      ct := ct
      cm := cm
      ne := ne }
  have FJ := fun_mk (st := s_is_integer) lJ cJ kJ
  have FW := fun_mk (st := s_is_integer_within) lW cW kW
  have FE := fun_mk (st := s_Costs___eq__) lE cE kE
  have FD := fun_mk (st := s_law_draw) lD cD kD
  have FA := fun_mk (st := s_law_any) lA cA kA
  have FP := fun_mk (st := s_law_pot) lP cP kP
  have FN := fun_mk (st := s_law_is_int) lN cN kN
  have FM := fun_mk (st := s_law_made) lM cM kM
  have FH := fun_mk (st := s_law_heard) lH cH kH
  have FR := fun_mk (st := s_law_right) lR cR kR
  have FL := fun_mk (st := s_law) lL cL kL
  have bJ := FJ.binds (ps := ["value"]) fun _ _ _ _ _ _ us hl => match us, hl with | [_], _ => rfl
  have bW := FW.binds (ps := ["value", "least", "most"]) fun _ _ _ _ _ _ us hl => match us, hl with | [_, _, _], _ => rfl
  have bE := FE.binds (ps := ["self", "other"]) fun _ _ _ _ _ _ us hl => match us, hl with | [_, _], _ => rfl
  have bD := FD.binds (ps := ["_law_pot_here", "_law_many"]) fun _ _ _ _ _ _ us hl => match us, hl with | [_, _], _ => rfl
  have bA := FA.binds (ps := ["_law_pot_here", "_law_items"]) fun _ _ _ _ _ _ us hl => match us, hl with | [_, _], _ => rfl
  have bP := FP.binds (ps := ["_law_script", "_law_k"]) fun _ _ _ _ _ _ us hl => match us, hl with | [_, _], _ => rfl
  have bN := FN.binds (ps := ["_law_value", "_law_low", "_law_high"]) fun _ _ _ _ _ _ us hl => match us, hl with | [_, _, _], _ => rfl
  have bM := FM.binds (ps := ["_law_bill", "_law_way"]) fun _ _ _ _ _ _ us hl => match us, hl with | [_, _], _ => rfl
  have bH := FH.binds (ps := ["_law_bill", "_law_way"]) fun _ _ _ _ _ _ us hl => match us, hl with | [_, _], _ => rfl
  have bR := FR.binds (ps := ["_law_pot_here"]) fun _ _ _ _ _ _ us hl => match us, hl with | [_], _ => rfl
  have bL := FL.binds (ps := ["_law_script"]) fun _ _ _ _ _ _ us hl => match us, hl with | [_], _ => rfl
  have mg_ : ∀ {n : Str} {v : Value}, PySem.W.nsIn K mainGlobals n = some (some v) → mg n = some v := fun e => PySem.W.mg_of X G e
  have FI : FunD K "__init__" "Costs.__init__" (defArgs s_Costs___init__) (defBody s_Costs___init__) (defScope s_Costs___init__) [] [("cell", .int 3), ("row", .int 4), ("column", .int 5), ("name", .int 1), ("move", .int 1)] fI _ :=
    ⟨⟨_, _, _, _, _, _, _, _, _, _, rfl, lI, cI, .inl ⟨rfl, rfl⟩, .inr ⟨DK, rfl, fun q hq => by
      simp only [List.mem_cons, List.not_mem_nil, or_false] at hq
      rcases hq with rfl | rfl | rfl | rfl | rfl
      · exact ⟨_, q0, _, rfl⟩
      · exact ⟨_, q1, _, rfl⟩
      · exact ⟨_, q2, _, rfl⟩
      · exact ⟨_, q3, _, rfl⟩
      · exact ⟨_, q4, _, rfl⟩⟩⟩, kI⟩
  have cJ : ∀ base, Ca l.prog w K mg base CX0 "is_integer" 1 _ (spInteger K) fJ _ := fun base => ⟨ok_integer FJ T, mg_ aJ, kJ, bJ⟩
  have cW : ∀ base, Ca l.prog w K mg base CX0 "is_integer_within" 2 _ (spWithin K) fW _ := fun base => ⟨ok_within FW T cJ, mg_ aW, kW, bW⟩
  have gI : ∀ base, FnOk l.prog w K mg base (L2.CX l.prog w) 3 fI _ _ (spInit K C CB) := fun base => ok_init FI T cW
  have cD : ∀ base, Ca l.prog w K mg base CX0 "_law_draw" 1 _ spDraw fD _ := fun base => ⟨ok_draw FD T, mg_ aD, kD, bD⟩
  have cA : ∀ base, Ca l.prog w K mg base CX0 "_law_any" 2 _ spAny fA _ := fun base => ⟨ok_any FA T cD, mg_ aA, kA, bA⟩
  have cP : ∀ base, Ca l.prog w K mg base CX0 "_law_pot" 1 _ (spPot K) fP _ := fun base => ⟨ok_pot FP T, mg_ aP, kP, bP⟩
  have cN : ∀ base, Ca l.prog w K mg base CX0 "_law_is_int" 1 _ (spWithin K) fN _ := fun base => ⟨ok_is_int FN T, mg_ aN, kN, bN⟩
  have cM : ∀ base, Ca l.prog w K mg base (L2.CX l.prog w) "_law_made" 5 _ (spMade K C CB) fM _ := fun base => ⟨ok_made FM T ⟨mk, aI, iI, kc⟩ FI gI, mg_ aM, kM, bM⟩
  have cH : ∀ base, Ca l.prog w K mg base CX0 "_law_heard" 6 _ (spHeard K) fH _ := fun base => ⟨ok_heard FH T cM, mg_ aH, kH, bH⟩
  have cE : ∀ base, CaE l.prog w K mg base C fE _ := fun base => ⟨ok_eq FE T, bE, aE, iE⟩
  have cR : ∀ base, CaG l.prog w K mg base "_law_right" 7 _ spRight fR _ := fun base => ⟨ok_right FR T cD cA cN cM cH cE, mg_ aR, kR, bR⟩
  exact ⟨_, fun s v => .of_eq rfl, fun base _ _ => ok_law FL T cP cR⟩

end K03
open PySem PySem.W PyProof.Rows in
set_option maxRecDepth 100000 in
set_option maxHeartbeats 0 in
theorem PySem.Challenge.cw_tableheld_k03_costs_of_any_value_holds : PySem.Challenge.rw_tableheld_k03_costs_of_any_value.Holds := by
  w_on; o_law; k_head; (case hw => w_witness2)
  k_fill
  refine Xby.walkG (l := PySem.Challenge.rw_tableheld_k03_costs_of_any_value) (n := 63) (k := 8) (x := "_law_script") (sp := K03.spLaw) rfl (by decide) rfl ⟨rfl, by decide, by decide⟩ (fun w h Y => PySem.W.kIn_of Y) ?F (fun K H a ns hl hS ho => ⟨a, ns, rfl, hS, hl, fun _ => rfl⟩)
  case F =>
    intro w mg fa h KX G hmg
    refine' K03.all_mk KX G hmg ?aC ?aJ ?lJ ?cJ ?kJ ?aW ?lW ?cW ?kW ?aI ?iI ?lI ?cI ?kI ?aE ?iE ?lE ?cE ?kE ?aD ?lD ?cD ?kD ?aA ?lA ?cA ?kA ?aP ?lP ?cP ?kP ?aN ?lN ?cN ?kN ?aM ?lM ?cM ?kM ?aH ?lH ?cH ?kH ?aR ?lR ?cR ?kR ?aL ?lL ?cL ?kL ?q0 ?q1 ?q2 ?q3 ?q4 ?pg ?hd ?po ?sa ?mk ?kc ?n_cell ?n_row ?n_column ?n_name ?n_move ?k1 ?k2 ?z_abs ?z_all ?z_any ?z_bool ?z_int ?z_isinstance ?z_len ?z_max ?z_min ?z_range ?z_repr ?z_tuple ?isC ?tyC ?sb_NoneType ?sb_tuple ?sb_int ?sb_list ?ca ?cn ?ct ?cm ?ne ?aB ?xB ?saB ?gaB ?ggB ?nbB ?iB ?tB ?lB ?cB ?kB ?eB ?tyB ?hB ?icB ?sB
    (case aC => k_is)
    (case aJ => k_is)
    (case lJ => k_is)
    (case cJ => k_is)
    (case kJ => k_is)
    (case aW => k_is)
    (case lW => k_is)
    (case cW => k_is)
    (case kW => k_is)
    (case aI => k_is)
    (case iI => k_is)
    (case lI => k_is)
    (case cI => k_is)
    (case kI => k_is)
    (case aE => k_is)
    (case iE => k_is)
    (case lE => k_is)
    (case cE => k_is)
    (case kE => k_is)
    (case aD => k_is)
    (case lD => k_is)
    (case cD => k_is)
    (case kD => k_is)
    (case aA => k_is)
    (case lA => k_is)
    (case cA => k_is)
    (case kA => k_is)
    (case aP => k_is)
    (case lP => k_is)
    (case cP => k_is)
    (case kP => k_is)
    (case aN => k_is)
    (case lN => k_is)
    (case cN => k_is)
    (case kN => k_is)
    (case aM => k_is)
    (case lM => k_is)
    (case cM => k_is)
    (case kM => k_is)
    (case aH => k_is)
    (case lH => k_is)
    (case cH => k_is)
    (case kH => k_is)
    (case aR => k_is)
    (case lR => k_is)
    (case cR => k_is)
    (case kR => k_is)
    (case aL => k_is)
    (case lL => k_is)
    (case cL => k_is)
    (case kL => k_is)
    (case q0 => k_is)
    (case q1 => k_is)
    (case q2 => k_is)
    (case q3 => k_is)
    (case q4 => k_is)
    (case pg => k_is)
    (case hd => k_is)
    (case po => k_is)
    (case sa => k_is)
    (case mk => k_is)
    (case kc => k_is)
    (case n_cell => k_is)
    (case n_row => k_is)
    (case n_column => k_is)
    (case n_name => k_is)
    (case n_move => k_is)
    (case k1 => k_is)
    (case k2 => k_is)
    (case z_abs => k_is)
    (case z_all => k_is)
    (case z_any => k_is)
    (case z_bool => k_is)
    (case z_int => k_is)
    (case z_isinstance => k_is)
    (case z_len => k_is)
    (case z_max => k_is)
    (case z_min => k_is)
    (case z_range => k_is)
    (case z_repr => k_is)
    (case z_tuple => k_is)
    (case isC => k_is)
    (case tyC => k_is)
    (case sb_NoneType => k_is)
    (case sb_tuple => k_is)
    (case sb_int => k_is)
    (case sb_list => k_is)
    (case ca => k_is)
    (case cn => k_is)
    (case ct => k_is)
    (case cm => k_is)
    (case ne => k_is)
    (case aB => k_is)
    (case xB => k_is)
    (case saB => k_is)
    (case gaB => k_is)
    (case ggB => k_is)
    (case nbB => k_is)
    (case iB => k_is)
    (case tB => k_is)
    (case lB => k_is)
    (case cB => k_is)
    (case kB => k_is)
    (case eB => k_is)
    (case tyB => k_is)
    (case hB => k_is)
    (case icB => k_is)
    (case sB => k_is)

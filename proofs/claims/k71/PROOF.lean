import PyProof.Rows.All
import Wide.All
import OpenK.AllK
import Wide.FinOn
import PySem.Challenge.RW_floorcurves_k71_ways_and_floors_shaded
import Lean
import PyProof.EqAt
import PyProof.EqKinds
import PyProof.TupleCall
local macro_rules | `(tactic| lia) => `(tactic| first | lia -verbose | omega)
local macro_rules | `(tactic| ac_nf) => `(tactic| decide +kernel)
local macro_rules | `(tactic| trivial) => `(tactic| first | exact Or.inl rfl | exact Or.inr rfl)
abbrev A0:=@PySem.wpAny_bind
abbrev A1:=@List.getElem?_eq_getElem
abbrev A2:=@List.length_map
abbrev A3:=@PySem.wpAny_pure
abbrev A4:=@Option.map_eq_some_iff
abbrev A5:=@if_neg
abbrev A6:=@if_pos
abbrev A7:=@List.getElem?_map
abbrev A8:=@Nat.le_refl
abbrev A9:=@PySem.Heap.get?_push_of_some
abbrev AA:=@List.map_append
abbrev AB:=@Option.bind_eq_some_iff
abbrev AC:=@Bool.and_eq_true
abbrev AD:=@List.size_toArray
abbrev AE:=@Bool.false_eq_true
abbrev AF:=@List.length_append
abbrev AG:=@List.getD_eq_getElem?_getD
abbrev AH:=@List.getElem?_eq_some_iff
abbrev AI:=@List.mem_cons_self
abbrev AJ:=@List.map_cons
abbrev AK:=@List.mem_cons
abbrev AL:=@PySem.Heap.get?_push_size
abbrev AM:=@List.mem_cons_of_mem
abbrev AN:=@PySem.Heap.lt_size
abbrev AO:=@Nat.ne_of_lt
abbrev AQ:=@PyProof.Rows.wpS_bind
abbrev AR:=@PySem.PassesOwn.never
abbrev AS:=@Nat.zero_le
abbrev AT:=@decide_eq_true_eq
abbrev AU:=@List.mem_singleton
abbrev AV:=@List.all_eq_true
abbrev AW:=@Nat.le_of_lt
abbrev AX:=@Int.eq_ofNat_of_zero_le
abbrev AY:=@Nat.lt_of_lt_of_le
abbrev AZ:=@Bool.false_ne_true
abbrev Aa:=@List.take_add_one
abbrev Ab:=@Int.toNat_natCast
abbrev Ac:=@List.mem_map
abbrev Ad:=@List.pairwise_cons
abbrev Ae:=@PyProof.Rows.wpS_pure
abbrev Af:=@Option.some.inj
abbrev Ag:=@Nat.lt_succ_of_lt
abbrev Ah:=@List.mem_append_right
abbrev Ai:=@List.drop_eq_getElem_cons
abbrev Aj:=@Array.getElem?_eq_getElem
abbrev Ak:=@if_false
abbrev Al:=@List.take_length
abbrev Am:=@List.length_take
abbrev An:=@List.length_cons
abbrev Ao:=@decide_eq_false
abbrev Ap:=@List.replicate_succ
abbrev Aq:=@List.mem_of_getElem?
abbrev Ar:=@PySem.wpAny_call_entry
abbrev As:=@List.mem_range
abbrev At:=@PySem.sizeLine_eq
abbrev Au:=@PySem.W.mg_none_of
abbrev Av:=@PySem.wpAny_newObj_type
abbrev Aw:=@PySem.wpAny_holding
abbrev Ax:=@of_decide_eq_true
abbrev Ay:=@PySem.F.plainAttrs_list
abbrev Az:=@Option.some.injEq
abbrev B0:=@List.length_singleton
abbrev B1:=@PySem.Heap.size_update
abbrev B2:=@PySem.Heap.get?_push_ne
abbrev B3:=@Array.length_toList
abbrev B4:=@List.range_succ
abbrev B5:=@decide_eq_true
abbrev B6:=@List.length_replicate
abbrev B7:=@List.mem_append
abbrev B8:=@List.sum_cons
abbrev B9:=@PySem.Heap.SameBut.update
abbrev B':=@Int.mul_comm
abbrev BA:=@List.map_congr_left
abbrev BB:=@List.append_assoc
abbrev BC:=@PySem.wpAny_mono
abbrev BD:=@PyProof.Rows.slot_tuple_getitem
abbrev BE:=@PySem.wpAny_setState_of
abbrev BF:=@List.getElem?_append_right
abbrev BG:=@Bool.not_true
abbrev BH:=@PySem.wpAny_callSpecial?_slot
abbrev BI:=@Nat.lt_or_ge
abbrev BJ:=@List.getElem?_append_left
abbrev BK:=@PySem.F.slot_dict_valueiterator_next
abbrev BL:=@PySem.F.type_list_append
abbrev BM:=@PySem.F.slot_list_append
abbrev BN:=@PySem.W.kia_one
abbrev BO:=@Nat.le_trans
abbrev BP:=@List.find?_cons
abbrev BQ:=@PySem.F.slot_dict_keyiterator_next
abbrev BR:=@PySem.Heap.size_push
abbrev BS:=@PyProof.Rows.callWith_type1
abbrev BU:=@PySem.wpAny_Call_Name_kw
abbrev BV:=@Prod.mk.injEq
abbrev BW:=@List.map_map
abbrev BX:=@Array.getElem?_eq_none
abbrev BY:=@List.nodup_cons
abbrev BZ:=@List.length_set
abbrev Ba:=@Nat.lt_succ_self
abbrev Bb:=@List.not_mem_nil
abbrev Bc:=@List.length_drop
abbrev Bd:=@List.mem_iff_getElem
abbrev Be:=@Option.map_some
abbrev Bf:=@List.foldl_cons
abbrev Bg:=@congrArg
abbrev Bh:=@PySem.mem_of_lookup
abbrev Bi:=@PySem.Around.under_plainId
abbrev Bj:=@PySem.wpAny_truthy_bool
abbrev Bk:=@PyProof.Rows.size_push'
abbrev Bl:=@PySem.codeAny_builtin
abbrev Bm:=@PySem.Value.ref.injEq
abbrev Bn:=@List.getElem_mem
abbrev Bo:=@Array.getElem?_eq_some_iff
abbrev Bp:=@Array.getElem?_toList
abbrev Bq:=@PySem.Paired.length
abbrev Br:=@PySem.wpAny_forIn_list
abbrev Bs:=@List.append_nil
abbrev Bt:=@Nat.pow_le_pow_right
abbrev Bu:=@List.mem_append_left
abbrev Bv:=@List.getElem?_set_ne
abbrev Bw:=@Nat.lt_irrefl
abbrev Bx:=@if_true
abbrev By:=@List.flatMap_append
abbrev Bz:=@List.lookup_cons
abbrev C0:=@List.take_of_length_le
abbrev C1:=@List.drop_of_length_le
abbrev C2:=@PySem.wpAny_isInstance
abbrev C3:=@Bool.or_eq_true
abbrev C4:=@PySem.wpAny_typeNameOfWhole_valiter
abbrev C5:=@PySem.wpAny_typeNameOfWhole_keyiter
abbrev C6:=@List.flatten_cons
abbrev C7:=@PySem.Obj.data_mapFields
abbrev C8:=@PySem.wpAny_specialOf
abbrev C9:=@PySem.wpAny_passesOwn
abbrev CA:=@PySem.wpAny_loadPart'
abbrev CB:=@PySem.wpAny_execs_nil
abbrev CC:=@beq_iff_eq
abbrev CD:=@Array.size_map
abbrev CF:=@PySem.wpAny_attempt
abbrev CG:=@Nat.ne_of_gt
abbrev CH:=@List.cons_append
abbrev CI:=@PySem.Heap.get?_update_self
abbrev CJ:=@PySem.wpAny_dictEntries
abbrev CK:=@List.pairwise_iff_getElem
abbrev CL:=@PySem.wpAny_setField
abbrev CM:=@PySem.wpAny_rule
abbrev CN:=@PyProof.Rows.get?_update_seq
abbrev CO:=@Int.emod_nonneg
abbrev CP:=@PyProof.Rows.listUpdate_at
abbrev CQ:=@List.filter_append
abbrev CS:=@PySem.F.called_set
abbrev CT:=@Array.forIn_toList
abbrev CU:=@PySem.wpAny_typeNameOf_valiter
abbrev CV:=@PySem.wpAny_typeNameOf_keyiter
abbrev CW:=@bne_self_eq_false
abbrev CY:=@Int.zero_add
abbrev CZ:=@PySem.wpAny_dictEpoch
abbrev Ca:=@PySem.Calls.spliced_cons
abbrev Cb:=@PyProof.Rows.callWith_builtin1
abbrev Cc:=@List.map_drop
abbrev Cd:=@PySem.wpAny_fieldsOf
abbrev Ce:=@PySem.codeAny_mono
abbrev Cf:=@Nat.le_succ
abbrev Cg:=@List.mem_of_mem_take
abbrev Ch:=@List.mem_of_mem_drop
abbrev Ci:=@Int.mul_le_mul_of_nonneg_left
abbrev Cj:=@PySem.F.slot_tuple_hash
abbrev Ck:=@PySem.Calls.callWith_builtin
abbrev Cm:=@Nat.min_eq_left
abbrev Cn:=@List.sum_append
abbrev Co:=@Bool.eq_iff_iff
abbrev Cp:=@beq_eq_false_iff_ne
abbrev Cq:=@List.getD_cons_succ
abbrev Cr:=@PySem.wpAny_askSetting
abbrev Cs:=@Ne.symm
abbrev Ct:=@List.map_nil
abbrev Cu:=@PySem.wpAny_newList
abbrev Cv:=@PySem.plainId_quiet
abbrev Cw:=@or_false
abbrev Cy:=@Nat.mod_lt
abbrev Cz:=@List.mem_filterMap
abbrev D0:=@List.drop_zero
abbrev D1:=@Int.mul_nonneg
abbrev D2:=@Bool.not_false
abbrev D3:=@Bool.and_false
abbrev D4:=@Array.perm_iff_toList_perm
abbrev D5:=@PySem.Heap.get?_update_ne
abbrev D6:=@PySem.wpAny_typeOf
abbrev D7:=@PyProof.Rows.wpS_modify
abbrev D8:=@PySem.call_meets
set_option pp.maxSteps 400
set_option Elab.async false
set_option linter.all false
set_option maxRecDepth 100000
set_option maxHeartbeats 4000000
set_option Elab.async false
set_option linter.all false
set_option maxRecDepth 100000
namespace L2
open PySem PySem.Spec PyProof.Rows
noncomputable abbrev Key:=Sum Int Str
noncomputable def kM_:Key->Value->Bool
 | .inl k,v=>Value.isInt k v
 | .inr x,v=>Value.isStrOf x v
noncomputable def vA_ (w:World):Key->Int
 | .inl k=>hashInt k
 | .inr x=>hashStr w x
theorem aU_:∀{k:Key}{v:Value},kM_ k v=true->(∃i t,k=Sum.inl i/\v=Value.int i t)\/(∃x t,k=Sum.inr x/\v=Value.str x t)
 | .inl i,v,h=>by
  obtain⟨t,e⟩:=Value.isInt_shape (k:=i) (v:=v) h;exact .inl ⟨i,t,rfl,e⟩
 | .inr x,v,h=>by
  obtain⟨t,e⟩:=Value.isStrOf_shape (x:=x) (v:=v) h;exact .inr ⟨x,t,rfl,e⟩
theorem my_ (i:Int) (t:Tok):kM_ (.inl i) (.int i t)=true:=by simp [kM_,Value.isInt]
theorem mx_ (x:Str) (t:Tok):kM_ (.inr x) (.str x t)=true:=by simp [kM_,Value.isStrOf]
theorem sB_ (a b:Int):decide ((Sum.inl a:Key)=Sum.inl b)=(a==b):=by
 by_cases e:a=b
 .subst e;simp
 .have h:¬(Sum.inl a:Key)=Sum.inl b:=fun q=>e (Sum.inl.inj q);rw [Ao h];exact(Cp.mpr e).symm
theorem sy_ (a b:Str):decide ((Sum.inr a:Key)=Sum.inr b)=decide (a=b):=by
 by_cases e:a=b
 .subst e;simp
 .have h:¬(Sum.inr a:Key)=Sum.inr b:=fun q=>e (Sum.inr.inj q);rw [Ao h,Ao e]
theorem sA_ (a:Int) (b:Str):decide ((Sum.inl a:Key)=Sum.inr b)=false:=Ao (fun q=>nomatch q)
theorem sz_ (a:Str) (b:Int):decide ((Sum.inr a:Key)=Sum.inl b)=false:=Ao (fun q=>nomatch q)
noncomputable def aZ_ (prog:Program) (w:World):PySem.KeyKind prog w Key where
 is:=kM_
 hash:=vA_ w
 inj:=fun v a b ha hb=>by
  rcases aU_ ha with⟨i,t,rfl,rfl⟩|⟨x,t,rfl,rfl⟩
  .rcases aU_ hb with⟨j,u,rfl,e⟩|⟨y,u,rfl,e⟩
   .injection e with e1 _;rw [e1]
   .exact nomatch e
  .rcases aU_ hb with⟨j,u,rfl,e⟩|⟨y,u,rfl,e⟩
   .exact nomatch e
   .injection e with e1 _;rw [e1]
 byValue:=fun k v h=>by
  rcases aU_ h with⟨i,t,rfl,rfl⟩|⟨x,t,rfl,rfl⟩<;>rfl
 pyHash:=fun hv h=>by
  rcases aU_ hv with⟨i,t,rfl,rfl⟩|⟨x,t,rfl,rfl⟩
  .exact wpAny_pyHash_int h
  .exact wpAny_pyHash_str h
 eqBool:=fun hu hv h=>by
  rcases aU_ hu with⟨i,t,rfl,rfl⟩|⟨x,t,rfl,rfl⟩
  .rcases aU_ hv with⟨j,u,rfl,rfl⟩|⟨y,u,rfl,rfl⟩
   .rw [sB_] at h;exact wpAny_eqBool_int h
   .rw [sA_] at h;exact SeqAt.EqAt.int_str i t y u _ _ _ _ h
  .rcases aU_ hv with⟨j,u,rfl,rfl⟩|⟨y,u,rfl,rfl⟩
   .rw [sz_] at h;exact SeqAt.EqAt.str_int x t j u _ _ _ _ h
   .rw [sy_] at h;exact wpAny_eqBool_str h
 «strs»:=fun k x t v h=>by
  rcases aU_ h with⟨i,u,rfl,e⟩|⟨y,u,rfl,e⟩
  .exact nomatch e
  .injection e with e1 _;subst e1;cases v<;>rfl
theorem iN_ (prog:Program) (w:World) (i:Int) (t:Tok):(aZ_ prog w).is (.inl i) (.int i t)=true:=my_ i t
theorem iM_ (prog:Program) (w:World) (x:Str) (t:Tok):(aZ_ prog w).is (.inr x) (.str x t)=true:=mx_ x t
end L2
namespace L2
open PySem PySem.Spec PyProof.Rows
inductive V where
 |non|bl (b:Bool)|int (i:Int)|str (x:Str)|byt (b:Array UInt8)|flt (b:UInt64)|ref (a:Addr)|ty (n:String)
 deriving DecidableEq
noncomputable def aV_:V->Value->Prop
 | .non,u=>u=Value.none
 | .bl b,u=>u=Value.bool b
 | .int i,u=>∃t,u=Value.int i t
 | .str x,u=>∃t,u=Value.str x t
 | .byt b,u=>∃t,u=Value.bytes b t
 | .flt b,u=>∃t,u=Value.float b t
 | .ref a,u=>u=Value.ref a
 | .ty n,u=>u=Value.type n
noncomputable abbrev aR_:List V->List Value->Prop:=Paired aV_
theorem aR_.length {xs:List V}{us:List Value} (r:aR_ xs us):xs.length=us.length:=Bq r
theorem aR_.get:∀{xs:List V}{us:List Value}{i:Nat}{x:V},aR_ xs us->xs[i]? =some x->∃u,us[i]? =some u/\aV_ x u
 |_,_,_,_, .nil,e=>by simp at e
 |_,_,0,_, .cons r _,e=>by simp at e;subst e;exact⟨_,rfl,r⟩
 |_,_,i+1,x, .cons _ t,e=>by
  obtain⟨u,h1,h2⟩:=aR_.get (i:=i) (x:=x) t (by simpa using e);exact⟨u,by simpa using h1,h2⟩
theorem aR_.set {x:V}{u:Value} (r:aV_ x u):∀{xs:List V}{us:List Value} (i:Nat),aR_ xs us->aR_ (xs.set i x) (us.set i u)
 |_,_,_, .nil=> .nil
 |_,_,0, .cons _ t=> .cons r t
 |_,_,i+1, .cons q t=> .cons q (aR_.set r i t)
theorem aR_.append:∀{xs ys:List V}{us ws:List Value},aR_ xs us->aR_ ys ws->aR_ (xs++ys) (us++ws)
 |_,_,_,_, .nil,s=>s
 |_,_,_,_, .cons r t,s=> .cons r (aR_.append t s)
theorem aR_.take:∀{xs:List V}{us:List Value} (n:Nat),aR_ xs us->aR_ (xs.take n) (us.take n)
 |_,_,0,_=> .nil
 |_,_,_+1, .nil=> .nil
 |_,_,n+1, .cons r t=> .cons r (aR_.take n t)
theorem aR_.drop:∀{xs:List V}{us:List Value} (n:Nat),aR_ xs us->aR_ (xs.drop n) (us.drop n)
 |_,_,0,r=>r
 |_,_,_+1, .nil=> .nil
 |_,_,n+1, .cons _ t=>aR_.drop n t
noncomputable def i9_:Option V->Option Value->Prop
 |some v,some u=>aV_ v u
 |none,none=>True
 |_,_=>False
noncomputable def KV {κ:Type}:List (κ×V)->List (κ×Value)->Prop:=Paired fun(p:κ×V) (q:κ×Value)=>p.1=q.1/\aV_ p.2 q.2
noncomputable def kV:Key->V
 | .inl i=> .int i
 | .inr x=> .str x
inductive HO where
  |lst (xs:List V)
  |tup (xs:List V)
  |dK (kvs:List (Key×V))|dT (kvs:List (List Key×V))
  |set (S:Int->Bool) (n:Nat)
  |ins (C dx:Addr) (fs:List (Str×V))
  |own (x:Addr)
  |xd (fs:List (Str×V))
  |met (f x:Addr)
  |rng (lo hi:Int)
  |frz (o:Obj) (u:HO)
  |tbl (ps:Array Value)
  |ext (φ:Heap->Prop)
noncomputable abbrev Hp:=Addr->Option HO
noncomputable def upd (H:Hp) (a:Addr) (o:HO):Hp:=fun b=>if b=a then some o else H b
theorem ae_ {H:Hp}{a:Addr}{o:HO}:upd H a o a=some o:=by unfold upd;rw [A6 rfl]
theorem ao_ {H:Hp}{a b:Addr}{o:HO} (h:b≠a):upd H a o b=H b:=by unfold upd;rw [A5 h]
theorem pF_ {H:Hp}{a:Addr}{o u:HO}:upd (upd H a o) a u=upd H a u:=by
 funext b;unfold upd;split<;>rfl
theorem oe_ {H:Hp}{a b:Addr}{o u:HO} (h:H a=some o) (h':H b=some u) (d:o≠u):a≠b:=by
 intro e;subst e;rw [h] at h';exact d (Af h')
theorem ap_ {H:Hp}{a b:Addr}{o:HO} (h:H a=some o) (h':H b=none):a≠b:=by
 intro e;subst e;rw [h] at h';cases h'
section
variable (P:Program) (w:World)
noncomputable def aH_ (H:Hp) (h:Heap) (a:Addr):HO->Prop
 | .lst xs=>xs.length<=sizeLine/\∃(its:List Value) (n:Nat),aR_ xs its/\h.get? a=some {cls:= .type "list",data:= .seq its.toArray n}
 | .tup xs=>xs.length<=sizeLine/\∃its:List Value,aR_ xs its/\IsTup h a its.toArray
 | .dK kvs=>kvs.length<=sizeLine/\(a==sysModules)=false/\∃vs,KV kvs vs/\h.DictOf (aZ_ P w) a vs
 | .dT kvs=>kvs.length<=sizeLine/\(a==sysModules)=false/\∃xs:List (List Key×Addr×Value),
   Paired (fun(p:List Key×V) (q:List Key×Addr×Value)=>p.1=q.1/\H q.2.1=some (.tup (p.1.map kV))/\aV_ p.2 q.2.2) kvs xs/\
   ∃o es ep,h.get? a=some o/\o.ExactDict/\o.data= .dict es ep/\es.toList=xs.map (entryOfKey (tupleKind (aZ_ P w)))/\(xs.map (·.1)).Nodup
 | .set S n=>h.SetOf (intKind P w) a S n
 | .ins C dx fs=>H dx=some (.own a)/\fs.length<=1000/\dx≠a/\h.get? a=some (W.instObj C dx)/\
   ∃mA,h.Ns1 dx mA/\(∀f,i9_ (fs.lookup f) (mA f))/\PySem.Within mA (fs.map (·.1))
 | .own _=>∃o,h.get? a=some o
 | .xd fs=>∃mA,h.Ns1 a mA/\∀f,i9_ (fs.lookup f) (mA f)
 | .rng lo hi=>∃t u v,h.get? a=some {cls:= .type "range",data:= .fields #[.int lo t, .int hi u, .int 1 v]}
 | .frz o u=>h.get? a=some o/\aH_ H h a u
 | .tbl ps=>h.get? a=some {cls:= .none,data:= .fields ps}
 | .met f x=>h.get? a=some (W.methodObj (.ref f) (.ref x))
 | .ext φ=>φ h/\(∃o,h.get? a=some o)/\∀h1 h2:Heap,φ h1->(∀o,h1.get? a=some o->h2.get? a=some o)->φ h2
noncomputable def HOk (H:Hp) (h:Heap):Prop:=∀a o,H a=some o->aH_ P w H h a o
end
section
variable {P:Program}{w:World}{H H':Hp}{h h':Heap}{a:Addr}{o:HO}
theorem aH_.lt (x:aH_ P w H h a o):a<h.objs.size:=by
 cases o with
 |lst xs=>obtain⟨_,_,_,_,e⟩:=x;exact AN e
 |tup xs=>obtain⟨_,_,_,p⟩:=x;exact p.lt
 |dK kvs=>obtain⟨_,_,_,_,o,_,_,e,_⟩:=x;exact AN e
 |dT kvs=>obtain⟨_,_,_,_,o,_,_,e,_⟩:=x;exact AN e
 |set S n=>obtain⟨o,_,_,_,e,_⟩:=x;exact AN e
 |ins C dx fs=>obtain⟨_,_,_,e,_⟩:=x;exact AN e
 |own y=>obtain⟨_,e⟩:=x;exact AN e
 |xd fs=>obtain⟨_,⟨_,_,_,e,_⟩,_⟩:=x;exact AN e
 |rng lo hi=>obtain⟨_,_,_,e⟩:=x;exact AN e
 |frz ob u=>obtain⟨e,_⟩:=x;exact AN e
 |tbl ps=>exact AN (show h.get? a=some _ from x)
 |met f y=>exact AN (show h.get? a=some _ from x)
 |ext φ=>obtain⟨_,⟨_,e⟩,_⟩:=x;exact AN e
theorem Paired.mapP {α β:Type}{F G:α->β->Prop}:∀{l₁:List α}{l₂:List β},Paired F l₁ l₂->(∀a b,F a b->G a b)->Paired G l₁ l₂
 |_,_, .nil,_=> .nil
 |_,_, .cons r t,f=> .cons (f _ _ r) (Paired.mapP t f)
theorem aH_.stay (x:aH_ P w H h a o) (k:∀b u,(b=a\/H b=some (.own a))->h.get? b=some u->h'.get? b=some u)
  (ho:∀b,H b=some (.own a)->H' b=some (.own a)) (ht:∀b xs,H b=some (.tup xs)->H' b=some (.tup xs)):aH_ P w H' h' a o:=by
 induction o with
 |lst xs=>obtain⟨z,its,n,r,e⟩:=x;exact⟨z,its,n,r,k _ _ (.inl rfl) e⟩
 |tup xs=>obtain⟨z,its,r,ob,e,c⟩:=x;exact⟨z,its,r,ob,k _ _ (.inl rfl) e,c⟩
 |dK kvs=>obtain⟨z,y,vs,r,ob,es,ep,e,c⟩:=x;exact⟨z,y,vs,r,ob,es,ep,k _ _ (.inl rfl) e,c⟩
 |dT kvs=>
  obtain⟨z,y,xs,r,ob,es,ep,e,c⟩:=x;exact⟨z,y,xs,Paired.mapP r fun p q z=>⟨z.1,ht _ _ z.2.1,z.2.2⟩,ob,es,ep,k _ _ (.inl rfl) e,c⟩
 |set S n=>obtain⟨ob,es,ep,t,e,c⟩:=x;exact⟨ob,es,ep,t,k _ _ (.inl rfl) e,c⟩
 |ins C dx fs=>
  obtain⟨d,z,ne,e,mA,⟨od,es,ep,e2,c⟩,r⟩:=x;exact⟨ho _ d,z,ne,k _ _ (.inl rfl) e,mA,⟨od,es,ep,k _ _ (.inr d) e2,c⟩,r⟩
 |own y=>obtain⟨ob,e⟩:=x;exact⟨ob,k _ _ (.inl rfl) e⟩
 |xd fs=>obtain⟨mA,⟨od,es,ep,e,c⟩,r⟩:=x;exact⟨mA,⟨od,es,ep,k _ _ (.inl rfl) e,c⟩,r⟩
 |rng lo hi=>obtain⟨t,u,v,e⟩:=x;exact⟨t,u,v,k _ _ (.inl rfl) e⟩
 |frz ob u ih=>obtain⟨e,q⟩:=x;exact⟨k _ _ (.inl rfl) e,ih q⟩
 |tbl ps=>
  have e:h.get? a=some {cls:= .none,data:= .fields ps}:=x;show h'.get? a=some {cls:= .none,data:= .fields ps};exact k a _ (.inl rfl) e
 |met f y=>
  have e:h.get? a=some (W.methodObj (.ref f) (.ref y)):=x;show h'.get? a=some (W.methodObj (.ref f) (.ref y));exact k a _ (.inl rfl) e
 |ext φ=>obtain⟨p,⟨o,e⟩,st⟩:=x;exact⟨st _ _ p fun o q=>k _ _ (.inl rfl) q,⟨o,k _ _ (.inl rfl) e⟩,st⟩
theorem HOk.lt (x:HOk P w H h) (e:H a=some o):a<h.objs.size:=(x a o e).lt
theorem HOk.fresh (x:HOk P w H h) (e:h.objs.size<=a):H a=none:=by
 cases q:H a with
 |none=>rfl
 |some u=>exact absurd (AY (x.lt q) e) (Bw _)
theorem HOk.kept (x:HOk P w H h) (k:∀b u,h.get? b=some u->h'.get? b=some u):HOk P w H h':=fun a o e=>
 (x a o e).stay (fun b u _ q=>k b u q) (fun _ q=>q) fun _ _ q=>q
theorem HOk.laid (x:HOk P w H h) (k:∀b u,h.get? b=some u->h'.get? b=some u) (hp:h.objs.size<=a) (new:aH_ P w (upd H a o) h' a o):HOk P w (upd H a o) h':=fun b u e=>by
 have hn:=x.fresh hp;by_cases hb:b=a
 .subst hb;rw [ae_] at e;cases e;exact new
 .rw [ao_ hb] at e;exact(x b u e).stay (fun c v _ q=>k c v q) (fun c q=>by rw [ao_ (ap_ q hn)];exact q) fun c xs q=>by rw [ao_ (ap_ q hn)];exact q
end
noncomputable def Rd (H:Hp) (a:Addr) (u:HO):Prop:=H a=some u\/∃o,H a=some (.frz o u)
theorem Rd.ok {P:Program}{w:World}{H:Hp}{h:Heap}{a:Addr}{u:HO} (r:Rd H a u) (x:HOk P w H h):aH_ P w H h a u:=by
 rcases r with r|⟨o,r⟩
 .exact x a u r
 .obtain⟨_,q⟩:=x a _ r;exact q
noncomputable def Mut:Option HO->Prop
 |some (.lst _)=>True
 |some (.dK _)=>True
 |some (.dT _)=>True
 |some (.set _ _)=>True
 |some (.ins _ _ _)=>True
 |some (.ext _)=>True
 |_=>False
section
variable {P:Program}{w:World}{H:Hp}{h h':Heap}{x e:Addr}{o':HO}
theorem HOk.write (ok:HOk P w H h) (mu:Mut (H x)) (he:e=x\/H e=some (.own x)) (k:∀b u,b≠e->h.get? b=some u->h'.get? b=some u) (heo:∃u,h'.get? e=some u)
  (new:aH_ P w (upd H x o') h' x o'):HOk P w (upd H x o') h':=fun b u q=>by
 have nown:∀c y,H c=some (.own y)->c≠x:=fun c y r z=>by subst z;rw [r] at mu;exact mu
 have ntup:∀c xs,H c=some (.tup xs)->c≠x:=fun c xs r z=>by subst z;rw [r] at mu;exact mu
 by_cases hb:b=x
 .subst hb;rw [ae_] at q;cases q;exact new
 .rw [ao_ hb] at q;by_cases hbe:b=e
  .have q':H b=some (.own x):=by
    rcases he with z|z
    .exact absurd (hbe.trans z) hb
    .rw [hbe];exact z
   rw [q] at q';cases q';obtain⟨v,hv⟩:=heo;exact⟨v,by rw [hbe];exact hv⟩
  .refine(ok b u q).stay (fun c v hc r=>k c v ?_ r) (fun c r=>by rw [ao_ (nown c b r)];exact r) fun c xs r=>by rw [ao_ (ntup c xs r)];exact r
   rcases hc with rfl|hc
   .exact hbe
   .rintro rfl;rcases he with z|z
    .exact nown c b hc z
    .rw [hc] at z;cases z;exact hb rfl
end
structure Un (fs ex:List Addr) (H H':Hp) (h h':Heap):Prop where
 keep:∀b o,h.get? b=some o->H b=none->b∉fs->b∉ex->h'.get? b=some o
 slot:∀b o,h.get? b=some o->H b=none->b∈fs->b∉ex->∃sl,h'.get? b=some {o with slots:=sl}
 free:∀b o,h.get? b=some o->H b=none->b∉ex->H' b=none
 there:∀b o,h.get? b=some o->b∉ex->∃o',h'.get? b=some o'
 tups:∀b xs,H b=some (.tup xs)->H' b=some (.tup xs)
 frzs:∀b o u,H b=some (.frz o u)->H' b=some (.frz o u)
 tbls:∀b ps,H b=some (.tbl ps)->∃more,H' b=some (.tbl (ps++more))
section
variable {fs fs' ex ex':List Addr}{H H1 H2:Hp}{h h1 h2 h':Heap}{a x e:Addr}{o:HO}
theorem Un.any (u:Un fs ex H H1 h h1) {b:Addr}{ob:Obj} (q:h.get? b=some ob) (n:H b=none) (hx:b∉ex):∃sl,h1.get? b=some {ob with slots:=sl}:=by
 by_cases hb:b∈fs
 .exact u.slot b ob q n hb hx
 .exact⟨ob.slots,u.keep b ob q n hb hx⟩
theorem Un.kept (k:∀b u,h.get? b=some u->h'.get? b=some u):Un fs ex H H h h':=
 ⟨fun b ob q _ _ _=>k b ob q,fun b ob q _ _ _=>⟨ob.slots,k b ob q⟩,fun _ _ _ n _=>n,fun b ob q _=>⟨ob,k b ob q⟩,fun _ _ q=>q,fun _ _ _ q=>q,fun _ ps q=>⟨#[],by rw [q];simp⟩⟩
theorem Un.refl:Un fs ex H H h h:=Un.kept fun _ _ q=>q
theorem Un.laid (k:∀b u,h.get? b=some u->h'.get? b=some u) (hp:h.objs.size<=a) (hn:H a=none):Un fs ex H (upd H a o) h h' where
 keep:=fun b u q _ _ _=>k b u q
 slot:=fun b u q _ _ _=>⟨u.slots,k b u q⟩
 free:=fun b u q n _=>by rw [ao_ (AO (AY (AN q) hp))];exact n
 there:=fun b u q _=>⟨u,k b u q⟩
 tups:=fun b xs q=>by rw [ao_ (ap_ q hn)];exact q
 frzs:=fun b u xs q=>by rw [ao_ (ap_ q hn)];exact q
 tbls:=fun b ps q=>⟨#[],by rw [ao_ (ap_ q hn),q];simp⟩
theorem Un.write (mu:Mut (H x)) (he:e=x\/H e=some (.own x)) (k:∀b u,b≠e->h.get? b=some u->h'.get? b=some u) (heo:∃u,h'.get? e=some u):Un fs ex H (upd H x o) h h':=by
 have hx:∀b,H b=none->b≠x:=fun b n z=>by subst z;rw [n] at mu;exact mu
 have hb:∀b,H b=none->b≠e:=fun b n z=>by
  subst z;rcases he with r|r
  .exact hx b n r
  .rw [n] at r;cases r
 have hm:∀b u,H b=some u->¬Mut (some u)->b≠x:=fun b u q nm z=>by subst z;rw [q] at mu;exact nm mu
 refine⟨fun b u q n _ _=>k b u (hb b n) q,fun b u q n _ _=>⟨u.slots,k b u (hb b n) q⟩,fun b u q n _=>by rw [ao_ (hx b n)];exact n,fun b u q _=> ?_,
  fun b xs q=>by rw [ao_ (hm b _ q fun z=>z)];exact q,fun b u xs q=>by rw [ao_ (hm b _ q fun z=>z)];exact q,fun b ps q=>⟨#[],by rw [ao_ (hm b _ q fun z=>z),q];simp⟩⟩
 by_cases hbe:b=e
 .subst hbe;exact heo
 .exact⟨u,k b u hbe q⟩
end
noncomputable def trk (h:Heap) (H:Hp):List Addr:=(List.range h.objs.size).filter fun a=>(H a).isSome
noncomputable def ox_ (h:Heap) (H:Hp):Heap:=W.hideAll h (trk h H)
theorem mK_ (h:Heap) (H:Hp):(ox_ h H).objs.size=h.objs.size:=W.hideAll_size _ _
theorem ow_ {h:Heap}{H:Hp}{b:Addr}{o:Obj} (e:h.get? b=some o) (n:H b=none):(ox_ h H).get? b=some o:=
 W.hideAll_get _ e fun hm=>by
  have q:(H b).isSome=true:=(List.mem_filter.mp hm).2;rw [n] at q;simp at q
theorem qv_ {h:Heap}{H:Hp}{b:Addr}{o:Obj} (e:(ox_ h H).get? b=some o):h.get? b=some o/\H b=none:=by
 have e':h.get? b=some o:=W.of_hideAll (trk h H) e;refine⟨e', ?_⟩;cases q:H b with
 |none=>rfl
 |some x=>
  have hm:b∈trk h H:=List.mem_filter.mpr ⟨As.mpr (AN e'),by simp [q]⟩;have z:(ox_ h H).get? b=none:=W.hideAll_none (trk h H) hm;rw [z] at e;cases e
noncomputable def q9_ (g h:Heap) (L:Addr):List (Addr×Obj):=(List.range h.objs.size).filterMap fun a=>if a=L\/(g.get? a).isSome=true then none else(h.get? a).map fun o=>(a,o)
noncomputable def cM_ (g h:Heap) (L d:Addr):List (Addr×Obj):=(q9_ g h L).filter fun p=>decide (p.1≠d)
end L2
namespace L2
open PySem PySem.Spec PyProof.Rows
structure Mod (K:W.Frag) (mg:Str->Option Value) (base:Heap):Prop where
 kin:K.In base
 glob:base.Ns mainGlobals mg
 blt:∃mb,base.Ns builtinsNs mb/\∀x:Str,x≠"__name__"->mb x=bootBuiltins x
 nolimit:base.NoLimit
structure Cx where
 prog:Program
 w:World
 K:W.Frag
 mg:Str->Option Value
 base:Heap
 A:Around
 N:List Str
 s₀:Shared
 H₀:Hp
 env:Env
 outer:List Env
 stack:List Env
 ex:List Addr
 fn:Str->Bool
 calm:Bool
 pn:List (Addr×Obj)
 xe:Value->Shared->Prop
noncomputable def frs (l:List Env):List Addr:=l.filterMap (·.frame)
noncomputable abbrev Cx.fs (X:Cx):List Addr:=frs X.outer
noncomputable def Vis (sc:Scope) (x:Str):Prop:=sc.names.lookup x=some .local\/sc.names.lookup x=some .cell\/sc.names.lookup x=some .free
noncomputable def Loc (sc:Scope) (x:Str):Prop:=sc.names.lookup x=some .local\/sc.names.lookup x=some .cell
noncomputable def u3_ (env:Env) (h:Heap) (m:Str->Option Value) (x:Str) (u:Value):Prop:=
 (env.kindOf x=some .local/\m x=some u)\/((env.kindOf x=some .cell\/env.kindOf x=some .free)/\∃c,env.cells.lookup x=some c/\h.IsCell c (some u))
structure Cx.Ok (X:Cx):Prop where
 mod:Mod X.K X.mg X.base
 kind:X.env.scope.kind= .function
 glob:X.env.globals=mainGlobals
 blt:X.env.builtins=builtinsNs
 above:X.s₀.heap.objs.size<=X.env.locals
 inj:∀x y c,X.env.cells.lookup x=some c->X.env.cells.lookup y=some c->x=y
 has:∀x,(X.env.kindOf x=some .cell\/X.env.kindOf x=some .free)->∃c,X.env.cells.lookup x=some c
 cab:∀x c,X.fn x=true->X.env.cells.lookup x=some c->X.s₀.heap.objs.size<=c
 hd:X.calm=true->X.A.handled=none
 frames:X.A.frames=some X.stack
 stk:X.stack=X.outer\/(X.stack=X.env::X.outer/\X.env.frame=some X.env.locals)
 exf:∀b∈X.ex,b≠X.env.locals/\∀x c,X.env.cells.lookup x=some c->c≠b
 bs:∀b o,X.base.get? b=some o->X.s₀.heap.get? b=some o/\X.H₀ b=none
 bsz:X.base.objs.size<=X.s₀.heap.objs.size
 noex:∀b o,X.base.get? b=some o->b∉X.ex
 exfs:∀b∈X.ex,b∉X.fs
 funs:X.s₀.heap.FunFrames X.base X.outer
 frf:∀b∈X.fs,X.H₀ b=none
structure Inv (X:Cx) (pins:List (Addr×Obj)) (σ:List (Option V)) (H:Hp) (s:Shared):Prop where
 ok:X.Ok
 os:s.os=X.s₀.os
 bare:AllBare s.gens
 base:Un X.fs X.ex X.H₀ H X.s₀.heap s.heap
 loc:∃m,s.heap.Ns X.env.locals m/\∀(i:Nat) (x:Str) (v:V),X.N[i]? =some x->σ[i]? =some (some v)->Vis X.env.scope x->∃u,aV_ v u/\u3_ X.env s.heap m x u
 cell:∀x c,X.env.cells.lookup x=some c->∃v,s.heap.IsCell c v
 free:H X.env.locals=none
 freeC:∀x c,X.env.cells.lookup x=some c->H c=none
 pin:∀p∈X.pn++pins,s.heap.get? p.1=some p.2/\H p.1=none/\p.1≠X.env.locals/\p.1∉X.fs/\∀v,p.2.data≠ .cell v
 hok:HOk X.prog X.w H s.heap
 len:σ.length=X.N.length
section
variable {X:Cx}{pins:List (Addr×Obj)}{σ:List (Option V)}{H H':Hp}{s:Shared}{h':Heap}
theorem Cx.Ok.nofr (ok:X.Ok) {b:Addr}{o:Obj} (e:X.base.get? b=some o):b∉X.fs:=fun hb=>by
 have:=(ok.funs.mem hb).1;rw [e] at this;cases this
theorem Inv.bs (I:Inv X pins σ H s):∀b o,X.base.get? b=some o->s.heap.get? b=some o/\H b=none:=fun b o e=>
 ⟨I.base.keep b o (I.ok.bs b o e).1 (I.ok.bs b o e).2 (I.ok.nofr e) (I.ok.noex b o e),I.base.free b o (I.ok.bs b o e).1 (I.ok.bs b o e).2 (I.ok.noex b o e)⟩
theorem Inv.bk (I:Inv X pins σ H s):∀b o,X.base.get? b=some o->s.heap.get? b=some o:=fun b o e=>(I.bs b o e).1
theorem Inv.mod (I:Inv X pins σ H s):Mod X.K X.mg X.base:=I.ok.mod
theorem Inv.kIn (I:Inv X pins σ H s):X.K.In s.heap:=I.ok.mod.kin.keeps I.bk
theorem Inv.lt (I:Inv X pins σ H s):X.env.locals<s.heap.objs.size:=let ⟨_,hn,_⟩:=I.loc;hn.lt
theorem Inv.sz (I:Inv X pins σ H s):X.s₀.heap.objs.size<=s.heap.objs.size:=BO I.ok.above (AW I.lt)
theorem Inv.nofs (I:Inv X pins σ H s) {a:Addr} (h:s.heap.objs.size<=a):a∉X.fs:=fun hb=>by
 obtain⟨_,o,ho,_⟩:=I.ok.funs.mem hb;exact absurd (AY (AN ho) (BO I.sz h)) (Bw _)
theorem Inv.cne (I:Inv X pins σ H s):∀x c,X.env.cells.lookup x=some c->c≠X.env.locals:=fun x c e z=>by
 obtain⟨v,o,ho,hd⟩:=I.cell x c e;obtain⟨m,⟨o',es,ep,ho',hd',_⟩,_⟩:=I.loc;rw [z,ho'] at ho;cases ho;rw [hd'] at hd;cases hd
theorem Inv.funs (I:Inv X pins σ H s):s.heap.FunFrames X.base X.outer:=by
 have all:∀(l:List Env),(∀b∈frs l,b∈X.fs)->X.s₀.heap.FunFrames X.base l->s.heap.FunFrames X.base l:=by
  intro l;induction l with
  |nil=>intro _ _;trivial
  |cons env r ih=>
   intro hs hl;obtain⟨hk,⟨L,o,hf,hn,ho,hd⟩,hr⟩:=hl;have hL:L∈X.fs:=hs L (by unfold frs;rw [List.filterMap_cons,hf];exact AI);obtain⟨sl,e⟩:=I.base.slot L o ho (I.ok.frf L hL) hL fun z=>I.ok.exfs L z hL;exact⟨hk,⟨L,_,hf,hn,e,hd⟩,ih (fun b hb=>hs b (by unfold frs;rw [List.filterMap_cons,hf];exact AM _ hb)) hr⟩
 exact all X.outer (fun _ hb=>hb) I.ok.funs
theorem Inv.stack (I:Inv X pins σ H s):s.heap.FunFrames X.base X.stack:=by
 rcases I.ok.stk with e|⟨e,hf⟩
 .rw [e];exact I.funs
 .rw [e];obtain⟨m,hn,_⟩:=I.loc;refine .cons (by rw [I.ok.kind];decide) hf hn ?_ I.funs;exact Heap.get?_none_of_le (BO I.ok.bsz I.ok.above)
theorem Inv.stkSub (I:Inv X pins σ H s):∀b∈frs X.stack,b∈X.env.locals::X.fs:=fun b hb=>by
 rcases I.ok.stk with e|⟨e,hf⟩
 .rw [e] at hb;exact AM _ hb
 .rw [e] at hb;unfold frs at hb;rw [List.filterMap_cons,hf] at hb;exact hb
theorem Inv.stkFree (I:Inv X pins σ H s):∀b∈frs X.stack,H b=none:=fun b hb=>by
 rcases AK.mp (I.stkSub b hb) with e|hb
 .rw [e];exact I.free
 .obtain⟨_,o,ho,_⟩:=I.ok.funs.mem hb;exact I.base.free b o ho (I.ok.frf b hb) fun z=>I.ok.exfs b z hb
theorem Inv.step {g':Array GenState}{t':Nat}{d':Drawn}{ch:List Addr} (I:Inv X pins σ H s)
  (hch:∀b∈ch,(b∈X.ex\/X.s₀.heap.objs.size<=b)/\b≠X.env.locals/\(∀x c,X.env.cells.lookup x=some c->c≠b)/\∀p∈X.pn++pins,p.1≠b)
  (keep:∀b o,b≠X.env.locals->b∉X.fs->b∉ch->s.heap.get? b=some o->H b=none->h'.get? b=some o)
  (slot:∀b o,b≠X.env.locals->b∈X.fs->b∉ch->s.heap.get? b=some o->H b=none->∃sl,h'.get? b=some {o with slots:=sl}) (free:∀b o,b∉ch->s.heap.get? b=some o->H b=none->H' b=none)
  (there:∀b o,b∉ch->s.heap.get? b=some o->∃o',h'.get? b=some o')
  (tups:∀b xs,H b=some (.tup xs)->H' b=some (.tup xs)) (frzs:∀b o u,H b=some (.frz o u)->H' b=some (.frz o u)) (tbls:∀b ps,H b=some (.tbl ps)->∃more,H' b=some (.tbl (ps++more)))
  (ns:∀m,s.heap.Ns X.env.locals m->h'.Ns X.env.locals m) (hok:HOk X.prog X.w H' h') (hg:AllBare g'):
  Inv X pins σ H' {s with heap:=h',gens:=g',drawn:=d',toks:=t'}:=by
 have neL:∀b o,X.s₀.heap.get? b=some o->b≠X.env.locals:=fun b o e=>AO (AY (AN e) I.ok.above);have neC:∀b o,X.s₀.heap.get? b=some o->b∉X.ex->b∉ch:=fun b o e hx hb=>by
  rcases(hch b hb).1 with z|z
  .exact hx z
  .exact absurd (AY (AN e) z) (Bw _)
 have cellK:∀x c,X.env.cells.lookup x=some c->∀v,s.heap.IsCell c v->h'.IsCell c v:=fun x c e v ⟨o,ho,hd⟩=>by
  have nch:c∉ch:=fun z=>(hch c z).2.2.1 x c e rfl;by_cases hc:c∈X.fs
  .obtain⟨sl,q⟩:=slot c o (I.cne x c e) hc nch ho (I.freeC x c e);exact⟨_,q,hd⟩
  .exact⟨o,keep c o (I.cne x c e) hc nch ho (I.freeC x c e),hd⟩
 refine⟨I.ok,I.os,hg,⟨fun b o e n hb hx=> ?_,fun b o e n hb hx=> ?_,fun b o e n hx=> ?_,fun b o e hx=> ?_,fun b xs e=>tups b xs (I.base.tups b xs e),fun b o xs e=>frzs b o xs (I.base.frzs b o xs e),fun b ps e=> ?_⟩, ?_,fun x c e=> ?_, ?_,fun x c e=> ?_,fun p hp=> ?_,hok,I.len⟩
 .exact keep b o (neL b o e) hb (neC b o e hx) (I.base.keep b o e n hb hx) (I.base.free b o e n hx)
 .obtain⟨sl,e1⟩:=I.base.slot b o e n hb hx;obtain⟨sl',e2⟩:=slot b _ (neL b o e) hb (neC b o e hx) e1 (I.base.free b o e n hx);exact⟨sl',e2⟩
 .obtain⟨o',e1⟩:=I.base.there b o e hx;exact free b o' (neC b o e hx) e1 (I.base.free b o e n hx)
 .obtain⟨o',e1⟩:=I.base.there b o e hx;exact there b o' (neC b o e hx) e1
 .obtain⟨m1,e1⟩:=I.base.tbls b ps e;obtain⟨m2,e2⟩:=tbls b _ e1;exact⟨m1++m2,by rw [e2,Array.append_assoc]⟩
 .obtain⟨m,hn,hl⟩:=I.loc;refine⟨m,ns m hn,fun i x v e1 e2 e3=> ?_⟩;obtain⟨u,r,l⟩:=hl i x v e1 e2 e3;refine⟨u,r, ?_⟩;rcases l with l|⟨k,c,e,z⟩
  .exact .inl l
  .exact .inr ⟨k,c,e,cellK x c e _ z⟩
 .obtain⟨v,z⟩:=I.cell x c e;exact⟨v,cellK x c e v z⟩
 .obtain⟨m,⟨o,_,_,ho,_⟩,_⟩:=I.loc;exact free _ o (fun z=>(hch _ z).2.1 rfl) ho I.free
 .obtain⟨v,o,ho,hd⟩:=I.cell x c e;exact free c o (fun z=>(hch c z).2.2.1 x c e rfl) ho (I.freeC x c e)
 .obtain⟨e,n,ne,nf,d⟩:=I.pin p hp;have nch:p.1∉ch:=fun z=>(hch p.1 z).2.2.2 p hp rfl;exact⟨keep p.1 p.2 ne nf nch e n,free p.1 p.2 nch e n,ne,nf,d⟩
theorem Inv.un {t':Nat} (I:Inv X pins σ H s) (u:Un X.fs [] H H' s.heap h') (hok:HOk X.prog X.w H' h'):Inv X pins σ H' {s with heap:=h',toks:=t'}:=by
 obtain⟨m,⟨o,es,ep,ho,r⟩,_⟩:=id I.loc;obtain⟨sl,hL⟩:=u.any ho I.free (by simp);exact I.step (g':=s.gens) (d':=s.drawn) (ch:=[]) (fun _ z=>nomatch z) (fun b o _ hb _ e n=>u.keep b o e n hb (by simp)) (fun b o _ hb _ e n=>u.slot b o e n hb (by simp)) (fun b o _ e n=>u.free b o e n (by simp)) (fun b o _ e=>u.there b o e (by simp)) u.tups u.frzs u.tbls (fun m' hm=>by
  obtain⟨o',es',ep',ho',r'⟩:=hm;rw [ho] at ho';cases ho';exact⟨_,es',ep',hL,r'⟩) hok I.bare
theorem Inv.call {g':Array GenState}{t':Nat}{d':Drawn}{ch:List Addr} (I:Inv X pins σ H s) (u:Un (frs X.stack) ch H H' s.heap h') (hok:HOk X.prog X.w H' h') (hg:AllBare g')
  (hch:∀b∈ch,(b∈X.ex\/X.s₀.heap.objs.size<=b)/\b≠X.env.locals/\(∀x c,X.env.cells.lookup x=some c->c≠b)/\∀p∈X.pn++pins,p.1≠b):
  Inv X pins σ H' {s with heap:=h',gens:=g',drawn:=d',toks:=t'}:=by
 obtain⟨m,⟨o,es,ep,ho,r⟩,_⟩:=id I.loc;obtain⟨sl,hL⟩:=u.any ho I.free fun z=>(hch _ z).2.1 rfl;exact I.step (ch:=ch) hch (fun b o hL hb hc e n=>u.keep b o e n (fun z=>(AK.mp (I.stkSub b z)).elim hL hb) hc) (fun b o _ _ hc e n=>u.any e n hc) (fun b o hc e n=>u.free b o e n hc) (fun b o hc e=>u.there b o e hc) u.tups u.frzs u.tbls (fun m' hm=>by
  obtain⟨o',es',ep',ho',r'⟩:=hm;rw [ho] at ho';cases ho';exact⟨_,es',ep',hL,r'⟩) hok hg
theorem Inv.turned {t':Nat}{it:Addr} (I:Inv X pins σ H s) (k:∀b o,b≠it->s.heap.get? b=some o->h'.get? b=some o) (hn:H it=none) (hL:it≠X.env.locals)
  (h1:it∈X.ex\/X.s₀.heap.objs.size<=it) (h2:∀x c,X.env.cells.lookup x=some c->c≠it) (h3:∀p∈X.pn++pins,p.1≠it):Inv X pins σ H {s with heap:=h',toks:=t'}:=by
 have nit:∀b u,H b=some u->b≠it:=fun b u e z=>by rw [z,hn] at e;cases e
 refine I.step (g':=s.gens) (d':=s.drawn) (ch:=[it]) (fun b hb=> ?_) (fun b o _ _ hc e _=>k b o (fun z=>hc (by simp [z])) e) (fun b o _ _ hc e _=>⟨o.slots,k b o (fun z=>hc (by simp [z])) e⟩) (fun _ _ _ _ n=>n)
  (fun b o hc e=>⟨o,k b o (fun z=>hc (by simp [z])) e⟩) (fun _ _ e=>e) (fun _ _ _ e=>e) (fun b ps e=>⟨#[],by rw [e];simp⟩) (fun m hm=> ?_) (fun b u e=> ?_) I.bare
 .have e:b=it:=by simpa using hb
  subst e;exact⟨h1,hL,h2,h3⟩
 .obtain⟨o,es,ep,ho,r⟩:=hm;exact⟨o,es,ep,k _ o (Cs hL) ho,r⟩
 .refine(I.hok b u e).stay (fun c v hc q=>k c v ?_ q) (fun _ q=>q) fun _ _ q=>q;rcases hc with z|z
  .rw [z];exact nit b u e
  .exact nit c _ z
theorem Inv.tok (I:Inv X pins σ H s) (t:Nat):Inv X pins σ H {s with toks:=t}:=I.un (h':=s.heap) (t':=t) Un.refl I.hok
theorem Inv.kept {t':Nat} (I:Inv X pins σ H s) (k:∀b u,s.heap.get? b=some u->h'.get? b=some u):Inv X pins σ H {s with heap:=h',toks:=t'}:=I.un (Un.kept k) (I.hok.kept k)
theorem Inv.laid {a:Addr}{o:HO}{t':Nat} (I:Inv X pins σ H s) (k:∀b u,s.heap.get? b=some u->h'.get? b=some u) (hp:s.heap.objs.size<=a) (new:aH_ X.prog X.w (upd H a o) h' a o):
  Inv X pins σ (upd H a o) {s with heap:=h',toks:=t'}:=I.un (Un.laid k hp (I.hok.fresh hp)) (I.hok.laid k hp new)
theorem Inv.write {x e:Addr}{o:HO}{t':Nat} (I:Inv X pins σ H s) (mu:Mut (H x)) (he:e=x\/H e=some (.own x)) (k:∀b u,b≠e->s.heap.get? b=some u->h'.get? b=some u) (heo:∃u,h'.get? e=some u)
  (new:aH_ X.prog X.w (upd H x o) h' x o):Inv X pins σ (upd H x o) {s with heap:=h',toks:=t'}:=I.un (Un.write mu he k heo) (I.hok.write mu he k heo new)
theorem Inv.weak {σ':List (Option V)} (I:Inv X pins σ H s) (hl:σ'.length=σ.length) (w:∀(i:Nat) v,σ'[i]? =some (some v)->σ[i]? =some (some v)):Inv X pins σ' H s:=
 ⟨I.ok,I.os,I.bare,I.base,let ⟨m,hn,hl'⟩:=I.loc;⟨m,hn,fun i x v e1 e2 e3=>hl' i x v e1 (w i v e2) e3⟩,I.cell,I.free,I.freeC,I.pin,I.hok,hl.trans I.len⟩
theorem Inv.pins_of {pins':List (Addr×Obj)} (I:Inv X pins σ H s) (h:∀p∈pins',s.heap.get? p.1=some p.2/\H p.1=none/\p.1≠X.env.locals/\p.1∉X.fs/\∀v,p.2.data≠ .cell v):Inv X pins' σ H s:=
 ⟨I.ok,I.os,I.bare,I.base,I.loc,I.cell,I.free,I.freeC,fun p hp=>(B7.mp hp).elim (fun z=>I.pin p (Bu _ z)) (h p),I.hok,I.len⟩
theorem gr_ {N:List Str} (hN:N.Nodup) {i j:Nat}{x:Str} (a:N[i]? =some x) (b:N[j]? =some x):i=j:=by
 obtain⟨h1,e1⟩:=AH.mp a;obtain⟨h2,e2⟩:=AH.mp b;exact(List.getElem_inj hN).mp (e1.trans e2.symm)
theorem lg_ {M:Model}{A:Around}{E:Value->Shared->Prop}{i:Nat}{x:Str}{v:V}{u:Value}{Q:Unit->Shared->Prop} (I:Inv X pins σ H s) (hN:X.N.Nodup) (hi:X.N[i]? =some x) (hx:Loc X.env.scope x) (r:aV_ v u)
  (h:∀s',Inv X pins (σ.set i (some v)) H s'->(∃a,Heap.SameBut a s.heap s'.heap/\(a=X.env.locals\/X.env.cells.lookup x=some a))->Q () s') (hf:X.fn x=true\/X.env.scope.names.lookup x=some .local:=by first|exact .inl rfl|exact .inr rfl|assumption):wpAny M A (storeName X.env x u) Q E s:=by
 obtain⟨m,hn,hl⟩:=id I.loc;have hcls:(X.env.scope.kind== .class||(X.env.scope.kind== .module&&X.env.locals !=X.env.globals))=false:=by rw [I.ok.kind];rfl
 have hiσ:i<σ.length:=by rw [I.len];exact(AH.mp hi).1
 have cne:=I.cne;have tracked:∀{a:Addr}{h':Heap},(∃o,s.heap.get? a=some o/\H a=none)->Heap.SameBut a s.heap h'->HOk X.prog X.w H h':=fun{a h'} ha hs b ob e=>by
  obtain⟨_,_,hfree⟩:=ha;refine(I.hok b ob e).stay (fun c w' hc q=>(hs.2 c ?_).trans q) (fun _ q=>q) fun _ _ q=>q;rintro rfl;rcases hc with rfl|hc
  .rw [hfree] at e;cases e
  .rw [hfree] at hc;cases hc
 rcases hx with hk|hk
 .refine wpAny_storeName_local hk hn (fun h' hn' hs=> ?_) hcls;obtain⟨oL,_,_,hoL,_⟩:=id hn;refine h _ ⟨I.ok,I.os,I.bare,⟨fun b o e n hb hx=> ?_,fun b o e n hb hx=> ?_,I.base.free,fun b o e hx=> ?_,I.base.tups,I.base.frzs,I.base.tbls⟩,⟨_,hn',fun j y v' e1 e2 e3=> ?_⟩,fun y c e=> ?_,I.free,I.freeC,fun p hp=> ?_,tracked ⟨oL,hoL,I.free⟩ hs,by simpa using I.len⟩ ⟨_,hs, .inl rfl⟩
  .exact(hs.2 b (AO (AY (AN e) I.ok.above))).trans (I.base.keep b o e n hb hx)
  .obtain⟨sl,e1⟩:=I.base.slot b o e n hb hx;exact⟨sl,(hs.2 b (AO (AY (AN e) I.ok.above))).trans e1⟩
  .obtain⟨o',e1⟩:=I.base.there b o e hx;exact⟨o',(hs.2 b (AO (AY (AN e) I.ok.above))).trans e1⟩
  .by_cases hj:j=i
   .subst hj;rw [hi] at e1;cases e1;rw [List.getElem?_set_self hiσ] at e2;cases e2;exact⟨u,r, .inl ⟨hk,by simp⟩⟩
   .rw [Bv (Cs hj)] at e2;obtain⟨u',r',q⟩:=hl j y v' e1 e2 e3;refine⟨u',r', ?_⟩;rcases q with⟨k,e⟩|⟨k,c,e,z⟩
    .refine .inl ⟨k, ?_⟩;have:y≠x:=fun e=>hj (gr_ hN e1 (e▸hi));simp [this,e]
    .exact .inr ⟨k,c,e,z.sameBut hs (cne y c e)⟩
  .obtain⟨w',z⟩:=I.cell y c e;exact⟨w',z.sameBut hs (cne y c e)⟩
  .obtain⟨e,n,ne,nf,d⟩:=I.pin p hp;exact⟨(hs.2 p.1 ne).trans e,n,ne,nf,d⟩
 .have hfn:X.fn x=true:=by
   rcases hf with z|z
   .exact z
   .rw [z] at hk;cases hk
  obtain⟨c,hc⟩:=I.ok.has x (.inl hk);obtain⟨w',z⟩:=I.cell x c hc;refine wpAny_storeName_cell I.ok.kind hk hc z (fun h' hc' hs=> ?_);obtain⟨oc,hoc,hocd⟩:=id z;refine h {s with heap:=h'} ⟨I.ok,I.os,I.bare,⟨fun b o e n hb hx=> ?_,fun b o e n hb hx=> ?_,I.base.free,fun b o e hx=> ?_,I.base.tups,I.base.frzs,I.base.tbls⟩,⟨m,hn.sameBut hs (Cs (cne x c hc)),fun j y v' e1 e2 e3=> ?_⟩,fun y c' e=> ?_,I.free,I.freeC,fun p hp=> ?_,tracked ⟨oc,hoc,I.freeC x c hc⟩ hs,by simpa using I.len⟩ ⟨c,hs, .inr hc⟩
  .exact(hs.2 b (AO (AY (AN e) (I.ok.cab x c hfn hc)))).trans (I.base.keep b o e n hb hx)
  .obtain⟨sl,e1⟩:=I.base.slot b o e n hb hx;exact⟨sl,(hs.2 b (AO (AY (AN e) (I.ok.cab x c hfn hc)))).trans e1⟩
  .obtain⟨o',e1⟩:=I.base.there b o e hx;exact⟨o',(hs.2 b (AO (AY (AN e) (I.ok.cab x c hfn hc)))).trans e1⟩
  .by_cases hj:j=i
   .subst hj;rw [hi] at e1;cases e1;rw [List.getElem?_set_self hiσ] at e2;cases e2;exact⟨u,r, .inr ⟨.inl hk,c,hc,hc'⟩⟩
   .rw [Bv (Cs hj)] at e2;obtain⟨u',r',q⟩:=hl j y v' e1 e2 e3;refine⟨u',r', ?_⟩;rcases q with q|⟨k,c',e,z'⟩
    .exact .inl q
    .refine .inr ⟨k,c',e,z'.sameBut hs ?_⟩;rintro rfl;exact hj (gr_ hN e1 (I.ok.inj _ _ _ e hc▸hi))
  .by_cases hcc:c'=c
   .subst hcc;exact⟨_,hc'⟩
   .obtain⟨w2,z2⟩:=I.cell y c' e;exact⟨w2,z2.sameBut hs hcc⟩
  .obtain⟨e,n,ne,nf,d⟩:=I.pin p hp;refine⟨(hs.2 p.1 ?_).trans e,n,ne,nf,d⟩;intro q;rw [q,hoc] at e;have q':oc=p.2:=Af e;exact d w' (by rw [<-q'];exact hocd)
theorem dI_ {M:Model}{A:Around}{E:Value->Shared->Prop}{i:Nat}{x:Str}{v:V}{u:Value}{Q:Unit->Shared->Prop} (I:Inv X pins σ H s) (hN:X.N.Nodup) (hi:X.N[i]? =some x) (hx:Loc X.env.scope x) (r:aV_ v u)
  (h:∀s',Inv X pins (σ.set i (some v)) H s'->Q () s') (hf:X.fn x=true\/X.env.scope.names.lookup x=some .local:=by first|exact .inl rfl|exact .inr rfl|assumption):wpAny M A (storeName X.env x u) Q E s:=
 lg_ I hN hi hx r (fun s' I' _=>h s' I') hf
theorem Inv.call' {s':Shared}{ch:List Addr} (I:Inv X pins σ H s) (ho:s'.os=s.os) (u:Un (frs X.stack) ch H H' s.heap s'.heap) (hok:HOk X.prog X.w H' s'.heap) (hg:AllBare s'.gens)
  (hch:∀b∈ch,(b∈X.ex\/X.s₀.heap.objs.size<=b)/\b≠X.env.locals/\(∀x c,X.env.cells.lookup x=some c->c≠b)/\∀p∈X.pn++pins,p.1≠b):Inv X pins σ H' s':=by
 obtain⟨h',g',d',t',o'⟩:=s';have e:o'=s.os:=ho;subst e;exact I.call (g':=g') (t':=t') (d':=d') u hok hg hch
end
noncomputable abbrev XK:=Value->Option Addr->Hp->Prop
noncomputable abbrev St:=List (Option V)
noncomputable abbrev VK:=V->Hp->Prop
noncomputable abbrev TE:=St->Hp->VK->Prop
noncomputable abbrev TT:=St->Hp->(Bool->Hp->Prop)->Prop
noncomputable abbrev TA:=St->Hp->(List V->Hp->Prop)->Prop
structure Ends where
 nx:St->Hp->Prop
 rt:VK
 bk:St->Hp->Prop:=fun _ _=>False
 ct:St->Hp->Prop:=fun _ _=>False
noncomputable abbrev TS:=Ends->St->Hp->Prop
noncomputable def EP (X:Cx) (pins:List (Addr×Obj)) (σ:St) (Q:VK) (u:Value) (s':Shared):Prop:=∃v H',Inv X pins σ H' s'/\aV_ v u/\Q v H'
noncomputable def TP (X:Cx) (pins:List (Addr×Obj)) (σ:St) (Q:Bool->Hp->Prop) (b:Bool) (s':Shared):Prop:=∃H',Inv X pins σ H' s'/\Q b H'
noncomputable def AP (X:Cx) (pins:List (Addr×Obj)) (σ:St) (Q:List V->Hp->Prop) (us:List Value) (s':Shared):Prop:=∃vs H',Inv X pins σ H' s'/\aR_ vs us/\Q vs H'
noncomputable def SP (X:Cx) (pins:List (Addr×Obj)) (D:Ends) (f:Flow) (s':Shared):Prop:=
 match f with
 | .next=>∃σ' H',Inv X pins σ' H' s'/\D.nx σ' H'
 | .brk=>∃σ' H',Inv X pins σ' H' s'/\D.bk σ' H'
 | .cont=>∃σ' H',Inv X pins σ' H' s'/\D.ct σ' H'
 | .ret u=>∃v σ' H',Inv X pins σ' H' s'/\aV_ v u/\D.rt v H'
noncomputable def PE (X:Cx) (e:Expr) (t:TE):Prop:=
 ∀(pins:List (Addr×Obj)) (s:Shared) (σ:St) (H:Hp) (Q:VK),Inv X pins σ H s->t σ H Q->wpAny (model X.prog X.w) X.A (eval e X.env) (EP X pins σ Q) X.xe s
noncomputable def PT (X:Cx) (e:Expr) (t:TT):Prop:=
 ∀(pins:List (Addr×Obj)) (s:Shared) (σ:St) (H:Hp) (Q:Bool->Hp->Prop),Inv X pins σ H s->t σ H Q->wpAny (model X.prog X.w) X.A (isTrue e X.env (eval e X.env)) (TP X pins σ Q) X.xe s
noncomputable def PW (X:Cx) (e:Expr) (t:TT):Prop:=
 ∀(whole:Sem Value) (pins:List (Addr×Obj)) (s:Shared) (σ:St) (H:Hp) (Q:Bool->Hp->Prop),Inv X pins σ H s->t σ H Q->wpAny (model X.prog X.w) X.A (isTrue e X.env whole) (TP X pins σ Q) X.xe s
theorem PW.pt {X:Cx}{e:Expr}{t:TT} (h:PW X e t):PT X e t:=h _
noncomputable def PA (X:Cx) (es:List Expr) (t:TA):Prop:=
 ∀(pos:Pos) (pins:List (Addr×Obj)) (s:Shared) (σ:St) (H:Hp) (Q:List V->Hp->Prop),Inv X pins σ H s->t σ H Q->wpAny (model X.prog X.w) X.A (spliced (backTo pos (starEach es X.env))) (AP X pins σ Q) X.xe s
noncomputable def PS (X:Cx) (st:Stmt) (t:TS):Prop:=
 ∀(pins:List (Addr×Obj)) (s:Shared) (σ:St) (H:Hp) (D:Ends),Inv X pins σ H s->t D σ H->wpAny (model X.prog X.w) X.A (exec st X.env) (SP X pins D) X.xe s
noncomputable def PSs (X:Cx) (st:List Stmt) (t:TS):Prop:=
 ∀(pins:List (Addr×Obj)) (s:Shared) (σ:St) (H:Hp) (D:Ends),Inv X pins σ H s->t D σ H->wpAny (model X.prog X.w) X.A (execs st X.env) (SP X pins D) X.xe s
theorem thn {α:Type}{t:Sem α}{Q Q':α->Shared->Prop}{M:Model}{A:Around}{E:Value->Shared->Prop}{s:Shared} (h:wpAny M A t Q E s) (hQ:∀a s,Q a s->Q' a s):wpAny M A t Q' E s:=BC h hQ fun _ _ x=>x
end L2
namespace L2
open PySem PySem.Spec PyProof.Rows
section
variable {X:Cx}
noncomputable def s4_ (i:Nat):TE:=fun σ H Q=>∃v,σ[i]? =some (some v)/\Q v H
noncomputable def tC (v:V):TE:=fun _ H Q=>Q v H
theorem r9_ {i:Nat}{x:Str}{pos:Pos} (hN:X.N[i]? =some x) (hv:Vis X.env.scope x) (hd:(x==("__debug__":Str))=false:=by decide) (hcd:(x==("__classdict__":Str))=false:=by decide):PE X (.Name x pos) (s4_ i):=by
 intro pins s σ H Q I h;obtain⟨v,e,h⟩:=h;obtain⟨m,hn,hl⟩:=I.loc;obtain⟨u,r,l⟩:=hl i x v hN e hv;have fin:EP X pins σ Q u s:=⟨v,H,I,r,h⟩;rcases l with⟨hk,hm⟩|⟨hk,c,hc,hcell⟩
 .exact wpAny_Name (wpAny_loadName_local I.ok.kind hk hn hm fin) hd
 .rcases hk with hk|hk
  .exact wpAny_Name (wpAny_loadName_cell I.ok.kind hk hc hcell fin) hd
  .exact wpAny_Name (wpAny_loadName_free I.ok.kind hk hc hcell fin hcd) hd
theorem ac_ {i j pos}:PE X (.Constant (.int i) j pos) (tC (.int i)):=fun _ _ _ H _ I h=>wpAny_Constant_int ⟨.int i,H,I.tok _,⟨_,rfl⟩,h⟩
theorem iE_ {b j pos}:PE X (.Constant (.bool b) j pos) (tC (.bl b)):=fun _ _ _ H _ I h=>Constant_bool ⟨.bl b,H,I,rfl,h⟩
theorem lQ_ {j pos}:PE X (.Constant .none j pos) (tC .non):=fun _ _ _ H _ I h=>Constant_none ⟨.non,H,I,rfl,h⟩
theorem lO_ {x j pos}:PE X (.Constant (.str x) j pos) (tC (.str x)):=fun _ _ _ H _ I h=>Calls.Constant_str ⟨.str x,H,I.tok _,⟨_,rfl⟩,h⟩
noncomputable def Gl (X:Cx) (x:Str):Prop:=X.env.kindOf x=some .globalImplicit
theorem eb_ {E:Value->Shared->Prop}{pins:List (Addr×Obj)}{s:Shared}{σ:St}{H:Hp}{x:Str}{u:Value}{pos:Pos}{Q:Value->Shared->Prop} (I:Inv X pins σ H s) (hg:Gl X x) (hm:X.mg x=some u) (h:Q u s)
  (hd:(x==("__debug__":Str))=false:=by decide):wpAny (model X.prog X.w) X.A (eval (.Name x pos) X.env) Q E s:=
 Calls.Name_function_global I.ok.kind hg (Calls.loadGlobal_global (by rw [I.ok.glob];exact I.mod.glob.keeps I.bk) hm h) hd
theorem dm_ {E:Value->Shared->Prop}{pins:List (Addr×Obj)}{s:Shared}{σ:St}{H:Hp}{x:Str}{u:Value}{pos:Pos}{Q:Value->Shared->Prop} (I:Inv X pins σ H s) (hg:Gl X x) (hm:X.mg x=none) (hv:bootBuiltins x=some u) (h:Q u s)
  (hn:x≠"__name__":=by decide) (hd:(x==("__debug__":Str))=false:=by decide):wpAny (model X.prog X.w) X.A (eval (.Name x pos) X.env) Q E s:=by
 obtain⟨mb,h1,h2⟩:=I.mod.blt;exact Calls.Name_function_global I.ok.kind hg (Calls.loadGlobal_builtin (by rw [I.ok.glob];exact I.mod.glob.keeps I.bk) hm (by rw [I.ok.blt];exact h1.keeps I.bk) ((h2 x hn).trans hv) h) hd
theorem ge_ {x:Str}{v:V}{u:Value}{pos:Pos} (hg:Gl X x) (hm:X.mg x=some u) (r:aV_ v u) (hd:(x==("__debug__":Str))=false:=by decide):PE X (.Name x pos) (tC v):=
 fun _ _ _ H _ I h=>eb_ I hg hm ⟨v,H,I,r,h⟩ hd
theorem iD_ {x:Str}{v:V}{u:Value}{pos:Pos} (hg:Gl X x) (hm:X.mg x=none) (hv:bootBuiltins x=some u) (r:aV_ v u) (hn:x≠"__name__":=by decide) (hd:(x==("__debug__":Str))=false:=by decide):PE X (.Name x pos) (tC v):=
 fun _ _ _ H _ I h=>dm_ I hg hm hv ⟨v,H,I,r,h⟩ hn hd
variable {a b:Expr}{ta tb:TE}{pos:Pos}
noncomputable def PC (X:Cx) (op:CmpOp) (a b:Expr) (t:TE):Prop:=
 ∀(pins:List (Addr×Obj)) (s:Shared) (σ:St) (H:Hp) (Q:VK),Inv X pins σ H s->t σ H Q->
  wpAny (model X.prog X.w) X.A (eval a X.env) (fun v s₁=>wpAny (model X.prog X.w) X.A (eval b X.env) (fun u s₂=>wpAny (model X.prog X.w) X.A (compareOp op v u) (EP X pins σ Q) X.xe s₂) X.xe s₁) X.xe s
theorem od_ (b:Expr) {op:CmpOp} (h:op≠ .In) (h2:op≠ .NotIn):behindInMarks op b=false:=by
 have e1:(op==CmpOp.In)=false:=by cases op<;>first|rfl|exact absurd rfl h
 have e2:(op==CmpOp.NotIn)=false:=by cases op<;>first|rfl|exact absurd rfl h2
 cases b<;>simp [behindInMarks,e1,e2]
noncomputable def tB (t:TE):TT:=fun σ H Q=>t σ H fun x H1=>∃c,x= .bl c/\Q c H1
theorem r2_ {op:CmpOp}{t:TE} (h:PC X op a b t) (h1:behindInMarks op b=false:=by first|exact od_ _ (by decide) (by decide)|rfl):PT X (.Compare a [op] [b] pos) (tB t):=by
 intro pins s σ H Q I hw;refine wpAny_isTrue_Compare1 (thn (h pins s σ H _ I hw) fun v s1 h1=>thn h1 fun u s2 h2=>thn h2 fun c s3 ⟨x,H1,I1,r1,q1⟩=> ?_) h1;obtain⟨d,rfl,q⟩:=q1;cases r1;exact Bj ⟨H1,I1,q⟩
theorem hi_ {e:Expr}{t:TE} (h:PE X e t) (he:∀whole,isTrue e X.env whole=(do let v<-whole;standAt e.pos;holding [v] (truthy v)):=by intro _;rfl):PT X e (tB t):=by
 intro pins s σ H Q I hw;refine isTrue_plain (thn (h pins s σ H _ I hw) fun v s1 ⟨x,H1,I1,r1,q1⟩=> ?_) (he _);obtain⟨d,rfl,q⟩:=q1;cases r1;exact Bj ⟨H1,I1,q⟩
variable {tA tB':TT}{cM_:List Expr}
noncomputable def vf_ (t u:TT):TT:=fun σ H Q=>t σ H fun c H1=>if c=true then u σ H1 Q else Q false H1
noncomputable def tOr (t u:TT):TT:=fun σ H Q=>t σ H fun c H1=>if c=true then Q true H1 else u σ H1 Q
noncomputable def u9_ (t:TT):TT:=fun σ H Q=>t σ H fun c H1=>Q (!c) H1
theorem f8_ (ha:PT X a tA):PW X (.BoolOp .And [a] pos) tA:=by
 intro wh pins s σ H Q I h;refine isTrue_and (thn (ha pins s σ H Q I h) fun c s1 e=> ?_);cases c with
 |true=>exact isTrue_and_nil e
 |false=>exact e
theorem lD_ (ha:PT X a tA):PW X (.BoolOp .Or [a] pos) tA:=by
 intro wh pins s σ H Q I h;refine isTrue_or (thn (ha pins s σ H Q I h) fun c s1 e=> ?_);cases c with
 |false=>exact isTrue_or_nil e
 |true=>exact e
theorem hg_ (ha:PT X a tA) (hb:PW X (.BoolOp .And (b::cM_) pos) tB'):PW X (.BoolOp .And (a::b::cM_) pos) (vf_ tA tB'):=by
 intro wh pins s σ H Q I h;refine isTrue_and (thn (ha pins s σ H _ I h) fun c s1 ⟨H1,I1,q1⟩=> ?_);cases c with
 |true=>exact hb wh pins s1 σ H1 Q I1 q1
 |false=>exact⟨H1,I1,q1⟩
theorem nU_ (ha:PT X a tA) (hb:PW X (.BoolOp .Or (b::cM_) pos) tB'):PW X (.BoolOp .Or (a::b::cM_) pos) (tOr tA tB'):=by
 intro wh pins s σ H Q I h;refine isTrue_or (thn (ha pins s σ H _ I h) fun c s1 ⟨H1,I1,q1⟩=> ?_);cases c with
 |true=>exact⟨H1,I1,q1⟩
 |false=>exact hb wh pins s1 σ H1 Q I1 q1
theorem eN_ (ha:PT X a tA):PT X (.UnaryOp .Not a pos) (u9_ tA):=by
 intro pins s σ H Q I h;exact isTrue_not (ha pins s σ H (fun c H1=>Q (!c) H1) I h)
noncomputable def tu_ (ta tb:TE):TE:=fun σ H Q=>ta σ H fun x H1=>∃c,x= .bl c/\if c=true then tb σ H1 Q else Q (.bl false) H1
noncomputable def tp_ (ta:TE):TE:=fun σ H Q=>ta σ H fun x H1=>∃c,x= .bl c/\Q (.bl (!c)) H1
theorem lP_ {op}{t:TE} (h:PE X a t):PE X (.BoolOp op [a] pos) t:=fun pins s σ H Q I hw=>BoolOp_one (h pins s σ H Q I hw)
theorem jH_ (ha:PE X a ta) (hb:PE X (.BoolOp .And (b::cM_) pos) tb):PE X (.BoolOp .And (a::b::cM_) pos) (tu_ ta tb):=by
 intro pins s σ H Q I h;refine BoolOp_and (thn (ha pins s σ H _ I h) fun v s1 ⟨x,H1,I1,r1,q1⟩=> ?_);obtain⟨c,rfl,q1⟩:=q1;cases r1;refine Bj ?_;cases c with
 |true=>exact hb pins s1 σ H1 Q I1 q1
 |false=>exact⟨.bl false,H1,I1,rfl,q1⟩
theorem sa_ (ha:PE X a ta):PE X (.UnaryOp .Not a pos) (tp_ ta):=by
 intro pins s σ H Q I h;refine UnaryOp_ (thn (ha pins s σ H _ I h) fun v s1 ⟨x,H1,I1,r1,q1⟩=> ?_);obtain⟨c,rfl,q1⟩:=q1;cases r1;exact not_of (Bj ⟨.bl (!c),H1,I1,rfl,q1⟩)
end
end L2
namespace L2
open PySem PySem.Spec PyProof.Rows
noncomputable def SqL (K:W.Frag) (H:Hp) (a:Addr) (xs:List V):Prop:=
 Rd H a (.lst xs)\/
  ∃(o:Obj) (its:Array Value) (n:Nat),K.lookup a=some o/\o.cls= .type "list"/\o.dict=none/\o.data= .seq its n/\its.size<=sizeLine/\aR_ xs its.toList
noncomputable def SqT (K:W.Frag) (H:Hp) (a:Addr) (xs:List V):Prop:=
 Rd H a (.tup xs)\/
  ∃(o:Obj) (its:Array Value) (n:Nat),K.lookup a=some o/\o.cls= .type "tuple"/\o.data= .seq its n/\its.size<=sizeLine/\aR_ xs its.toList
noncomputable def vF_:Value->Option V
 | .none=>some .non
 | .bool b=>some (.bl b)
 | .int i _=>some (.int i)
 | .str x _=>some (.str x)
 | .bytes b _=>some (.byt b)
 | .float b _=>some (.flt b)
 | .ref a=>some (.ref a)
 | .type n=>some (.ty n)
 |_=>none
theorem aV_.abs {x:V}{u:Value} (r:aV_ x u):vF_ u=some x:=by
 cases x with
 |non=>cases r;rfl
 |bl _=>cases r;rfl
 |int _=>obtain⟨t,rfl⟩:=r;rfl
 |str _=>obtain⟨t,rfl⟩:=r;rfl
 |byt _=>obtain⟨t,rfl⟩:=r;rfl
 |flt _=>obtain⟨t,rfl⟩:=r;rfl
 |ref _=>cases r;rfl
 |ty _=>cases r;rfl
theorem aV_.inj {x y:V}{u:Value} (r:aV_ x u) (q:aV_ y u):x=y:=Af (r.abs.symm.trans q.abs)
theorem aR_.inj:∀{xs ys:List V}{us:List Value},aR_ xs us->aR_ ys us->xs=ys
 |_,_,_, .nil, .nil=>rfl
 |_,_,_, .cons r t, .cons r' t'=>by rw [r.inj r',aR_.inj t t']
section
variable {X:Cx}{pins:List (Addr×Obj)}{σ:St}{H:Hp}{s:Shared}{a:Addr}{xs ys:List V}
theorem SqL.of {K:W.Frag} (h:H a=some (.lst xs)):SqL K H a xs:= .inl (.inl h)
theorem SqT.of {K:W.Frag} (h:H a=some (.tup xs)):SqT K H a xs:= .inl (.inl h)
theorem Inv.list (I:Inv X pins σ H s) (h:SqL X.K H a xs):∃its:List Value,aR_ xs its/\PlainL s.heap a its.toArray/\xs.length<=sizeLine:=by
 rcases h with h|⟨o,its,n,hk,hc,hd,hs,hz,r⟩
 .obtain⟨z,its,n,r,e⟩:=h.ok I.hok;exact⟨its,r,⟨_,n,e,rfl,rfl,rfl⟩,z⟩
 .refine⟨its.toList,r,⟨o,n,I.kIn a o hk,hc,hd,by simpa using hs⟩, ?_⟩;have e:=r.length;simp only [B3] at e;lia
theorem Inv.tuple (I:Inv X pins σ H s) (h:SqT X.K H a xs):∃its:List Value,aR_ xs its/\IsTup s.heap a its.toArray/\xs.length<=sizeLine:=by
 rcases h with h|⟨o,its,n,hk,hc,hs,hz,r⟩
 .obtain⟨z,its,r,p⟩:=h.ok I.hok;exact⟨its,r,p,z⟩
 .refine⟨its.toList,r,⟨o,I.kIn a o hk,hc,n,by simpa using hs⟩, ?_⟩;have e:=r.length;simp only [B3] at e;lia
theorem Inv.list_inj (I:Inv X pins σ H s) (h:SqL X.K H a xs) (h':SqL X.K H a ys):xs=ys:=by
 obtain⟨its,r,⟨o,n,e,_,_,d⟩,_⟩:=I.list h;obtain⟨its',r',⟨o',n',e',_,_,d'⟩,_⟩:=I.list h';rw [e] at e';cases e';rw [d] at d';injection d' with d1 _;have:its=its':=by simpa using congrArg Array.toList d1
 subst this;exact r.inj r'
theorem Inv.tuple_inj (I:Inv X pins σ H s) (h:SqT X.K H a xs) (h':SqT X.K H a ys):xs=ys:=by
 obtain⟨its,r,⟨o,e,_,n,d⟩,_⟩:=I.tuple h;obtain⟨its',r',⟨o',e',_,n',d'⟩,_⟩:=I.tuple h';rw [e] at e';cases e';rw [d] at d';injection d' with d1 _;have:its=its':=by simpa using congrArg Array.toList d1
 subst this;exact r.inj r'
end
noncomputable abbrev Cx.wish (X:Cx) (E:Value->Shared->Prop):Cx:={X with xe:=E}
noncomputable abbrev Cx.nox (X:Cx):Cx:=X.wish fun _ _=>False
theorem Cx.Ok.wish {X:Cx} (ok:X.Ok) (E:Value->Shared->Prop):(X.wish E).Ok:=
 ⟨ok.mod,ok.kind,ok.glob,ok.blt,ok.above,ok.inj,ok.has,ok.cab,ok.hd,ok.frames,ok.stk,ok.exf,ok.bs,ok.bsz,ok.noex,ok.exfs,ok.funs,ok.frf⟩
theorem Cx.Ok.unwish {X:Cx}{E:Value->Shared->Prop} (ok:(X.wish E).Ok):X.Ok:=
 ⟨ok.mod,ok.kind,ok.glob,ok.blt,ok.above,ok.inj,ok.has,ok.cab,ok.hd,ok.frames,ok.stk,ok.exf,ok.bs,ok.bsz,ok.noex,ok.exfs,ok.funs,ok.frf⟩
section
variable {X:Cx}{pins:List (Addr×Obj)}{σ:St}{H:Hp}{s:Shared}{E:Value->Shared->Prop}
theorem Inv.wish (I:Inv X pins σ H s) (E:Value->Shared->Prop):Inv (X.wish E) pins σ H s:=⟨I.ok.wish E,I.os,I.bare,I.base,I.loc,I.cell,I.free,I.freeC,I.pin,I.hok,I.len⟩
theorem Inv.unwish (I:Inv (X.wish E) pins σ H s):Inv X pins σ H s:=⟨I.ok.unwish,I.os,I.bare,I.base,I.loc,I.cell,I.free,I.freeC,I.pin,I.hok,I.len⟩
theorem SP.unwish {D:Ends}{f:Flow}{s':Shared} (h:SP (X.wish E) pins D f s'):SP X pins D f s':=by
 cases f with
 |next=>obtain⟨σ',H',I,q⟩:=h;exact⟨σ',H',I.unwish,q⟩
 |brk=>obtain⟨σ',H',I,q⟩:=h;exact⟨σ',H',I.unwish,q⟩
 |cont=>obtain⟨σ',H',I,q⟩:=h;exact⟨σ',H',I.unwish,q⟩
 |ret u=>obtain⟨v,σ',H',I,r,q⟩:=h;exact⟨v,σ',H',I.unwish,r,q⟩
theorem PSs.nox {st:List Stmt}{t:TS} (h:PSs X.nox st t):PSs X st t:=fun pins s σ H D I hw=>
 BC (h pins s σ H D (I.wish _) hw) (fun _ _ q=>q.unwish) fun _ _ z=>False.elim z
end
section
variable {X:Cx}{st:Stmt}{cM_:List Stmt}{t u:TS}{e:Expr}{te:TE}{pos:Pos}
noncomputable def tq_:TS:=fun D σ H=>D.nx σ H
noncomputable def u7_ (t u:TS):TS:=fun D σ H=>t {D with nx:=u D} σ H
theorem aJ_:PSs X [] tq_:=fun _ _ σ H _ I h=>CB ⟨σ,H,I,h⟩
theorem ad_ (h1:PS X st t) (h2:PSs X cM_ u):PSs X (st::cM_) (u7_ t u):=by
 intro pins s σ H D I h;refine wpAny_execs_cons (thn (h1 pins s σ H {D with nx:=u D} I h) fun f s1 q=> ?_);cases f with
 |next=>
  obtain⟨σ',H',I',q⟩:=q;exact h2 pins s1 σ' H' D I' q
 |ret v=>exact q
 |brk=>exact q
 |cont=>exact q
theorem af_ (h1:PS X st t):PSs X [st] t:=by
 intro pins s σ H D I h;refine wpAny_execs_cons (thn (h1 pins s σ H D I h) fun f s1 q=> ?_);cases f with
 |next=>exact CB q
 |ret v=>exact q
 |brk=>exact q
 |cont=>exact q
theorem Inv.quiet {pins:List (Addr×Obj)}{σ:St}{H:Hp}{s:Shared} (I:Inv X pins σ H s):interactive X.env=false:=by simp [interactive,I.ok.kind]
noncomputable def rG_ (te:TE):TS:=fun D σ H=>te σ H fun _ H1=>D.nx σ H1
theorem aG_ (he:PE X e te) (hs:swapsWith e none pos.line X.env=pure false:=by rfl):PS X (.Expr e pos) (rG_ te):=by
 intro pins s σ H D I h;exact wpAny_Expr_any (thn (he pins s σ H _ I h) fun v s1 ⟨x,H1,I1,r1,q1⟩=>⟨σ,H1,I1,q1⟩) I.quiet hs
noncomputable def u8_ (te:TE):TS:=fun D σ H=>te σ H D.rt
theorem aq_ (he:PE X e te):PS X (.Return (some e) pos) (u8_ te):=by
 intro pins s σ H D I h;exact wpAny_Return_some (thn (he pins s σ H _ I h) fun v s1 ⟨x,H1,I1,r1,q1⟩=>⟨x,σ,H1,I1,r1,q1⟩)
noncomputable def uO_ (c:TT) (t u:TS):TS:=fun D σ H=>c σ H fun b H1=>if b=true then t D σ H1 else u D σ H1
theorem b2_ {c:Expr}{a b:List Stmt}{tc:TT} (hc:PT X c tc) (ha:PSs X a t) (hb:PSs X b u):PS X (.If c a b pos) (uO_ tc t u):=by
 intro pins s σ H D I h;refine wpAny_If (thn (hc pins s σ H _ I h) fun d s1 ⟨H1,I1,q1⟩=> ?_);cases d with
 |true=>exact ha pins s1 σ H1 D I1 q1
 |false=>exact hb pins s1 σ H1 D I1 q1
noncomputable def rE_:TS:=fun _ _ _=>False
theorem nX_:PS X st rE_:=fun _ _ _ _ _ _ h=>h.elim
end
noncomputable abbrev TG:=V->St->Hp->(St->Hp->Prop)->Prop
noncomputable abbrev TGs:=List V->St->Hp->(St->Hp->Prop)->Prop
noncomputable def PG (X:Cx) (target:Expr) (t:TG):Prop:=
 ∀(pins:List (Addr×Obj)) (s:Shared) (σ:St) (H:Hp) (v:V) (u:Value) (Q:St->Hp->Prop),Inv X pins σ H s->aV_ v u->t v σ H Q->
  wpAny (model X.prog X.w) X.A (assign target X.env u) (fun _ s'=>∃σ' H',Inv X pins σ' H' s'/\Q σ' H') X.xe s
noncomputable def PGs (X:Cx) (ts:List Expr) (t:TGs):Prop:=
 ∀(pins:List (Addr×Obj)) (s:Shared) (σ:St) (H:Hp) (vs:List V) (us:List Value) (Q:St->Hp->Prop),Inv X pins σ H s->aR_ vs us->t vs σ H Q->
  wpAny (model X.prog X.w) X.A (assignInOrder ((assignEach ts X.env).map (·.2)) us) (fun _ s'=>∃σ' H',Inv X pins σ' H' s'/\Q σ' H') X.xe s
noncomputable abbrev uL_:=V->V->V->Hp->(Hp->Prop)->Prop
noncomputable def u0_ (X:Cx) (t:uL_):Prop:=
 ∀(pins:List (Addr×Obj)) (s:Shared) (σ:St) (H:Hp) (o i v:V) (ov iv u:Value) (Q:Hp->Prop),Inv X pins σ H s->aV_ o ov->aV_ i iv->aV_ v u->t o i v H Q->
  wpAny (model X.prog X.w) X.A (setItem ov iv u) (fun _ s'=>∃H',Inv X pins σ H' s'/\Q H') X.xe s
noncomputable abbrev TIp:=V->V->Hp->VK->Prop
noncomputable def PIp (X:Cx) (op:Operator) (t:TIp):Prop:=
 ∀(pins:List (Addr×Obj)) (s:Shared) (σ:St) (H:Hp) (x y:V) (v u:Value) (Q:VK),Inv X pins σ H s->aV_ x v->aV_ y u->t x y H Q->
  wpAny (model X.prog X.w) X.A (inplaceOp op v u) (EP X pins σ Q) X.xe s
section
variable {X:Cx}{pos:Pos}
noncomputable def dX_ (i:Nat):TG:=fun v σ H Q=>Q (σ.set i (some v)) H
theorem am_ {i:Nat}{x:Str} (hN:X.N.Nodup) (hi:X.N[i]? =some x) (hx:Loc X.env.scope x) (hf:X.fn x=true\/X.env.scope.names.lookup x=some .local:=by first|exact .inl rfl|exact .inr rfl|assumption):PG X (.Name x pos) (dX_ i):=by
 intro pins s σ H v u Q I r h;exact wpAny_assign_Name (dI_ I hN hi hx r (fun s' I'=>⟨_,H,I',h⟩) hf)
noncomputable def td_:TGs:=fun vs σ H Q=>vs=[]/\Q σ H
noncomputable def iV_ (t:TG) (u:TGs):TGs:=fun vs σ H Q=>∃v r,vs=v::r/\t v σ H fun σ' H'=>u r σ' H' Q
theorem bE_:PGs X [] td_:=by
 intro pins s σ H vs us Q I r h;obtain⟨e,h⟩:=h;subst e;cases r;exact assignInOrder_nil ⟨σ,H,I,h⟩
theorem av_ {e:Expr}{es:List Expr}{t:TG}{u:TGs} (h1:PG X e t) (h2:PGs X es u)
  (hs:(assignEach (e::es) X.env).map (·.2)=assign e X.env::(assignEach es X.env).map (·.2):=by rfl):PGs X (e::es) (iV_ t u):=by
 intro pins s σ H vs us Q I r h;obtain⟨v,vr,e1,h⟩:=h;subst e1;cases r with
 |cons r rr=>
  rw [hs];refine assignInOrder_cons (thn (h1 pins s σ H _ _ _ I r h) fun _ s1 ⟨σ1,H1,I1,q1⟩=> ?_);exact h2 pins s1 σ1 H1 _ _ Q I1 rr q1
noncomputable def sG_ (K:W.Frag) (n:Nat) (t:TGs):TG:=fun v σ H Q=>∃a xs,v= .ref a/\SqT K H a xs/\xs.length=n/\t xs σ H Q
theorem cr_ {es:List Expr}{k:Nat}{t:TGs}{n:Nat} (hc:X.calm=true) (h:PGs X es t)
  (hn:(assignEach es X.env).length=n:=by rfl) (hst:(assignEach es X.env).findIdx? (·.1)=none:=by rfl):PG X (.Tuple es k pos) (sG_ X.K n t):=by
 intro pins s σ H v u Q I r hw;obtain⟨a,xs,e1,hq,hl,hw⟩:=hw;subst e1;cases r;obtain⟨its,rv,ht,hz⟩:=I.tuple hq;refine assign_Tuple_tuple (I.ok.hd hc) ht (by simp [hn,<-hl,rv.length]) hst fun h' hx=> ?_;have I1:Inv X pins σ H {s with heap:=h'}:=I.kept (t':=s.toks) fun b o e=>hx b o (AO (AN e)) e;exact h pins _ σ H xs _ Q I1 (by simpa using rv) hw
noncomputable def s5_ (te:TE) (g:TG):TS:=fun D σ H=>te σ H fun x H1=>g x σ H1 D.nx
theorem o6_ {tg e:Expr}{te:TE}{g:TG} (he:PE X e te) (hg:PG X tg g) (hs:swapsWithSole [tg] e pos.line X.env=pure false:=by rfl) (hw:swappedStores [tg] e X.env=pure none:=by rfl)
  (h1:(assignEach [tg] X.env).map (·.2)=[assign tg X.env]:=by rfl):PS X (.Assign [tg] e pos) (s5_ te g):=by
 intro pins s σ H D I h;refine wpAny_Assign_stores (thn (he pins s σ H _ I h) fun v s1 ⟨x,H1,I1,r1,q1⟩=> ?_) hs hw;rw [h1];exact thn (hg pins s1 σ H1 x v _ I1 r1 q1) fun _ s2 q=>q
theorem ar_ {i:Nat}{x:Str}{e:Expr}{te:TE}{pos':Pos} (hN:X.N.Nodup) (hi:X.N[i]? =some x) (hx:Loc X.env.scope x) (he:PE X e te) (hs:swapsWith e (some (.Name x pos')) pos.line X.env=pure false:=by rfl) (hf:X.fn x=true\/X.env.scope.names.lookup x=some .local:=by first|exact .inl rfl|exact .inr rfl|assumption):
  PS X (.Assign [.Name x pos'] e pos) (s5_ te (dX_ i)):=by
 intro pins s σ H D I h;refine wpAny_Assign_Name (thn (he pins s σ H _ I h) fun v s1 ⟨y,H1,I1,r1,q1⟩=> ?_) hs;exact dI_ I1 hN hi hx r1 (fun s2 I2=>⟨_,H1,I2,q1⟩) hf
noncomputable def ve_ (i:Nat) (te:TE) (ti:TIp):TS:=fun D σ H=>∃x,σ[i]? =some (some x)/\te σ H fun y H1=>ti x y H1 fun z H2=>D.nx (σ.set i (some z)) H2
theorem r5_ {i:Nat}{x:Str}{e:Expr}{te:TE}{op:Operator}{ti:TIp}{pos':Pos} (hN:X.N.Nodup) (hi:X.N[i]? =some x) (hx:Loc X.env.scope x) (he:PE X e te) (ho:PIp X op ti) (hf:X.fn x=true\/X.env.scope.names.lookup x=some .local:=by first|exact .inl rfl|exact .inr rfl|assumption):
  PS X (.AugAssign (.Name x pos') op e pos) (ve_ i te ti):=by
 intro pins s σ H D I h;obtain⟨v,e1,h⟩:=h;obtain⟨m,hn,hl⟩:=I.loc;have vis:Vis X.env.scope x:=by rcases hx with k|k;exact .inl k;exact .inr (.inl k)
 obtain⟨u,r,l⟩:=hl i x v hi e1 vis;refine wpAny_AugAssign_Name ?_;have go:wpAny (model X.prog X.w) X.A (eval e X.env) (fun w s₂=>wpAny (model X.prog X.w) X.A (inplaceOp op u w) (fun r s₃=>wpAny (model X.prog X.w) X.A (storeName X.env x r) (fun _=>SP X pins D .next) X.xe s₃) X.xe s₂) X.xe s:=by
  refine thn (he pins s σ H _ I h) fun w s1 ⟨y,H1,I1,r1,q1⟩=> ?_;refine thn (ho pins s1 σ H1 v y u w _ I1 r r1 q1) fun z s2 ⟨zv,H2,I2,r2,q2⟩=> ?_;exact dI_ I2 hN hi hx r2 (fun s3 I3=>⟨_,H2,I3,q2⟩) hf
 rcases l with⟨hk,hm⟩|⟨hk,c,hc,hcell⟩
 .exact wpAny_loadName_local I.ok.kind hk hn hm go
 .rcases hk with hk|hk
  .exact wpAny_loadName_cell I.ok.kind hk hc hcell go
  .rcases hx with k|k
   .have:X.env.scope.names.lookup x=some .free:=hk;rw [k] at this;cases this
   .have:X.env.scope.names.lookup x=some .free:=hk;rw [k] at this;cases this
noncomputable def tt_ (to ti te:TE) (tget:V->V->Hp->VK->Prop) (tip:TIp) (tset:uL_):TS:=fun D σ H=>to σ H fun o H1=>ti σ H1 fun i H2=>tget o i H2 fun x H3=>te σ H3 fun y H4=>tip x y H4 fun z H5=>tset o i z H5 fun H6=>D.nx σ H6
noncomputable def u1_ (X:Cx) (t:V->V->Hp->VK->Prop):Prop:=
 ∀(pins:List (Addr×Obj)) (s:Shared) (σ:St) (H:Hp) (o i:V) (ov iv:Value) (Q:VK),Inv X pins σ H s->aV_ o ov->aV_ i iv->t o i H Q->
  wpAny (model X.prog X.w) X.A (getItem ov iv) (EP X pins σ Q) X.xe s
theorem gb_ {o i e:Expr}{to ti te:TE}{tget:V->V->Hp->VK->Prop}{tip:TIp}{tset:uL_}{op:Operator}{tpos:Pos} (ho:PE X o to) (hi:PE X i ti) (hg:u1_ X tget) (he:PE X e te) (hp:PIp X op tip) (hs:u0_ X tset)
  (ha:∀ov iv new,augStore i ov iv new=(do holding [new,ov,iv] (setItem ov iv new);release [new,ov,iv] [];pure .next):=by intros;rfl):PS X (.AugAssign (.Subscript o i tpos) op e pos) (tt_ to ti te tget tip tset):=by
 intro pins s σ H D I h;refine wpAny_AugAssign_SubscriptAny (thn (ho pins s σ H _ I h) fun ov s1 ⟨x1,H1,I1,r1,q1⟩=> ?_) ha;refine thn (hi pins s1 σ H1 _ I1 q1) fun iv s2 ⟨x2,H2,I2,r2,q2⟩=> ?_;refine thn (hg pins s2 σ H2 x1 x2 ov iv _ I2 r1 r2 q2) fun old s3 ⟨x3,H3,I3,r3,q3⟩=> ?_;refine thn (he pins s3 σ H3 _ I3 q3) fun v s4 ⟨x4,H4,I4,r4,q4⟩=> ?_;refine thn (hp pins s4 σ H4 x3 x4 old v _ I4 r3 r4 q4) fun new s5 ⟨x5,H5,I5,r5,q5⟩=> ?_;exact thn (hs pins s5 σ H5 x1 x2 x5 ov iv new _ I5 r1 r2 r5 q5) fun _ s6 ⟨H6,I6,q6⟩=>⟨σ,H6,I6,q6⟩
noncomputable def ipI (f:Int->Int->Int):TIp:=fun x y H Q=>∃i j,x= .int i/\y= .int j/\Q (.int (f i j)) H
theorem j9_:PIp X .Add (ipI fun i j=>i+j):=by
 intro pins s σ H x y v u Q I r1 r2 h;obtain⟨i,j,e1,e2,q⟩:=h;subst e1;subst e2;obtain⟨t,rfl⟩:=r1;obtain⟨t',rfl⟩:=r2;exact iadd_int ⟨.int _,H,I.tok _,⟨_,rfl⟩,q⟩
theorem sD_:PIp X .Sub (ipI fun i j=>i-j):=by
 intro pins s σ H x y v u Q I r1 r2 h;obtain⟨i,j,e1,e2,q⟩:=h;subst e1;subst e2;obtain⟨t,rfl⟩:=r1;obtain⟨t',rfl⟩:=r2;exact isub_int ⟨.int _,H,I.tok _,⟨_,rfl⟩,q⟩
end
section
variable {X:Cx}{pos:Pos}
noncomputable def oU_ (c:TT) (tb:TS):TS:=fun D σ H=>∃Wq:Nat->St->Hp->Prop,(∃m,Wq m σ H)/\∀m σ H,Wq m σ H->
 c σ H fun b H1=>if b=true then∃N:St->Hp->Prop,(∀σ' H',N σ' H'->∃m',m'<m/\Wq m' σ' H')/\tb {D with nx:=N,ct:=N,bk:=D.nx} σ H1 else D.nx σ H1
theorem jC_ {c:Expr}{body:List Stmt}{tc:TT}{tb:TS} (hp:PassesOwn (model X.prog X.w) X.A X.env X.xe) (hc:PT X c tc) (hb:PSs X body tb):PS X (.While c body [] pos) (oU_ tc tb):=by
 intro pins s σ H D I h;obtain⟨Wq,⟨m0,w0⟩,turn⟩:=h;refine wpAny_While (codeAny_whileLoop (fun n s'=>∃σ' H',Inv X pins σ' H' s'/\Wq n σ' H') ?_ m0 ⟨σ,H,I,w0⟩);rintro n s1 ⟨σ1,H1,I1,w1⟩;refine C9 hp (thn (hc pins s1 σ1 H1 _ I1 (turn n σ1 H1 w1)) fun b s2 ⟨H2,I2,q2⟩=> ?_);cases b with
 |true=>
  obtain⟨N,hN,q2⟩:=q2;rw [A6 rfl];refine C9 hp (thn (hb pins s2 σ1 H2 _ I2 q2) fun f s3 q3=> ?_);cases f with
  |next=>
   obtain⟨σ3,H3,I3,n3⟩:=q3;obtain⟨m',hm,w3⟩:=hN σ3 H3 n3;exact⟨m',hm,σ3,H3,I3,w3⟩
  |cont=>
   obtain⟨σ3,H3,I3,n3⟩:=q3;obtain⟨m',hm,w3⟩:=hN σ3 H3 n3;exact⟨m',hm,σ3,H3,I3,w3⟩
  |brk=>exact q3
  |ret v=>exact q3
 |false=>
  rw [A5 AZ];exact CB ⟨σ1,H2,I2,q2⟩
end
structure It where
 go:Nat->Hp->Prop
 yld:Nat->Hp->V->Hp->Prop
 stop:Nat->Hp->Prop
noncomputable def pw_ (X:Cx) (pins:List (Addr×Obj)) (H:Hp) (b:Addr):Prop:=
 H b=none/\b≠X.env.locals/\b∉X.fs/\(b∈X.ex\/X.s₀.heap.objs.size<=b)/\(∀x c,X.env.cells.lookup x=some c->c≠b)/\∀p∈X.pn++pins,p.1≠b
theorem Inv.fpOk {X:Cx}{pins:List (Addr×Obj)}{σ:St}{H H':Hp}{s:Shared}{b:Addr} (I:Inv X pins σ H s) (hb:s.heap.objs.size<=b) (hn:H' b=none):pw_ X pins H' b:=by
 refine⟨hn,CG (AY I.lt hb),I.nofs hb, .inr (BO I.sz hb),fun x c e z=> ?_,fun p hp z=> ?_⟩
 .obtain⟨v,q⟩:=I.cell x c e;exact absurd (AY q.lt (by rw [z];exact hb)) (Bw _)
 .exact absurd (AY (AN (I.pin p hp).1) (by rw [z];exact hb)) (Bw _)
structure Turn (P:Program) (w:World) (K:W.Frag) (tg:Expr) (J:It) (fp:List Addr) (it:Addr) (tn:Nat->Heap->Prop):Prop where
 mem:it∈fp
 obj:∀i h,tn i h->∀b∈fp,∃o,h.get? b=some o/\∀v,o.data≠ .cell v
 keep:∀i h h',tn i h->(∀b∈fp,∀o,h.get? b=some o->h'.get? b=some o)->tn i h'
 item:∀(X:Cx),X.prog=P->X.w=w->X.K=K->X.calm=true->∀(i:Nat) (pins:List (Addr×Obj)) (s:Shared) (σ:St) (H:Hp) (E:Value->Shared->Prop),Inv X pins σ H s->(∀b∈fp,pw_ X pins H b)->tn i s.heap->J.go i H->
  wpAny (model P w) X.A (pyNext (.ref it)) (fun r s1=>∃u,r=some u/\
   wpAny (model P w) X.A (letOwnedTupleGo tg (.ref it) u) (fun _ s2=>∃x H',Inv X pins σ H' s2/\aV_ x u/\J.yld i H x H'/\tn (i+1) s2.heap/\∀b∈fp,H' b=none) E s1) E s
 done:∀(X:Cx),X.prog=P->X.w=w->X.K=K->X.calm=true->∀(i:Nat) (pins:List (Addr×Obj)) (s:Shared) (σ:St) (H:Hp) (E:Value->Shared->Prop),Inv X pins σ H s->(∀b∈fp,pw_ X pins H b)->tn i s.heap->J.stop i H->
  wpAny (model P w) X.A (pyNext (.ref it)) (fun r s1=>r=none/\Inv X pins σ H s1) E s
 self:∀(A:Around) (i:Nat) (s:Shared) (Q:Value->Shared->Prop) (E:Value->Shared->Prop),tn i s.heap->Q (.ref it) s->wpAny (model P w) A (pyIter (.ref it)) Q E s
noncomputable abbrev TI:=St->Hp->(It->Hp->Prop)->Prop
noncomputable def PIE (X:Cx) (pins:List (Addr×Obj)) (σ:St) (tg:Expr) (R:It->Hp->Prop) (itv:Value) (s2:Shared):Prop:=
 ∃(it:Addr) (fp:List Addr) (tn:Nat->Heap->Prop) (J:It) (H':Hp),itv= .ref it/\Inv X pins σ H' s2/\Turn X.prog X.w X.K tg J fp it tn/\tn 0 s2.heap/\(∀b∈fp,pw_ X pins H' b)/\R J H'
noncomputable def PI (X:Cx) (tg bS_:Expr) (wi:TI):Prop:=
 ∀(pins:List (Addr×Obj)) (s:Shared) (σ:St) (H:Hp) (R:It->Hp->Prop),Inv X pins σ H s->wi σ H R->
  wpAny (model X.prog X.w) X.A (eval bS_ X.env) (fun v s1=>wpAny (model X.prog X.w) X.A (pyIter v) (PIE X pins σ tg R) X.xe s1) X.xe s
theorem go_of {M : Model} {A : Around} {E : Value -> Shared -> Prop} {s : Shared} {tg : Expr} {it : Addr} {u : Value} {o : Obj} {n : String} {vs : Array Value} {Q : Unit -> Shared -> Prop} (ho : s.heap.get? it = some o) (hc : o.cls = .type n) (hd : o.data = .fields vs)
    (hn : ["enumerate", "zip", "dict_itemiterator", "dict_reverseitemiterator", "odict_iterator", "itertools.zip_longest", "itertools.pairwise"].contains n = false) (hQ : Q () s) : wpAny M A (letOwnedTupleGo tg (.ref it) u) Q E s := by
  unfold letOwnedTupleGo;cases tg <;> first
    | exact A3 hQ
    | (cases u <;> first
        | exact A3 hQ
        | (refine A0 (wpAny_load ho ?_)
           rw [hc, hd];show wpAny M A (if (["enumerate", "zip", "dict_itemiterator", "dict_reverseitemiterator", "odict_iterator", "itertools.zip_longest", "itertools.pairwise"].contains n && vs[0]? == some (rawInt _)) = true then _ else _) Q E s;rw [A5 (by intro h; rw [hn, Bool.false_and] at h; cases h)];exact A3 hQ))
noncomputable def Itl (K:W.Frag) (a:Addr):It:=
 ⟨fun i H=>∃xs x,SqL K H a xs/\xs[i]? =some x,fun i H x H'=>H'=H/\∀xs,SqL K H a xs->xs[i]? =some x,fun i H=>∃xs,SqL K H a xs/\xs.length<=i⟩
noncomputable def Itt (K:W.Frag) (a:Addr):It:=
 ⟨fun i H=>∃xs x,SqT K H a xs/\xs[i]? =some x,fun i H x H'=>H'=H/\∀xs,SqT K H a xs->xs[i]? =some x,fun i H=>∃xs,SqT K H a xs/\xs.length<=i⟩
noncomputable def Itr (lo:Int) (n:Nat):It:=⟨fun i _=>i<n,fun i H x H'=>H'=H/\x= .int (lo+i),fun i _=>n<=i⟩
theorem kZ_ {P:Program}{w:World}{K:W.Frag}{tg:Expr} (a it:Addr):Turn P w K tg (Itl K a) [it] it (fun i h=>h.IsListIter it a i) where
 mem:=by simp
 obj:=fun i h st b hb=>by
  have e:b=it:=by simpa using hb
  subst e;obtain⟨o,e,c,d⟩:=st;exact⟨o,e,fun v z=>by rw [d] at z;cases z⟩
 keep:=fun i h h' st k=>st.at fun o e=>k it (by simp) o e
 item:=by
  intro X hP hw hK hc i pins s σ H E I hf st hg;subst hP hw hK;obtain⟨xs,x,hq,hx⟩:=hg;obtain⟨its,rv,p,hz⟩:=I.list hq;obtain⟨u,hu,ru⟩:=rv.get hx;obtain⟨f0,f1,f2,f3,f4,f5⟩:=hf it (by simp);refine wpAny_pyNext_list_item st p.isList (x:=u) (by simpa using hu) fun h' st' sb=> ?_;have I1:Inv X pins σ H {s with heap:=h'}:=I.turned (t':=s.toks) (fun b o hb e=>(sb.2 b hb).trans e) f0 f1 f3 f4 f5;obtain⟨o,e,c,d⟩:=id st';exact⟨u,rfl,go_of (s:={s with heap:=h'}) e c d (by decide) ⟨x,H,I1,ru,⟨rfl,fun ys hy=>by rw [I.list_inj hy hq];exact hx⟩,st',fun b hb=>(hf b hb).1⟩⟩
 done:=by
  intro X hP hw hK hc i pins s σ H E I hf st hg;subst hP hw hK;obtain⟨xs,hq,hx⟩:=hg;obtain⟨its,rv,p,hz⟩:=I.list hq;obtain⟨f0,f1,f2,f3,f4,f5⟩:=hf it (by simp);have hl:=rv.length;exact wpAny_pyNext_list_end (I.ok.hd hc) st p.isList (by simp;lia) fun h' eb=>⟨rfl,I.turned (t':=s.toks) (fun b o hb e=>eb b o hb e) f0 f1 f3 f4 f5⟩
 self:=fun _ _ _ _ _ st h=>wpAny_pyIter_listiter st h
theorem kt_ {P:Program}{w:World}{K:W.Frag}{tg:Expr} (a it:Addr):Turn P w K tg (Itt K a) [it] it (fun i h=>h.IsTupleIter it a i) where
 mem:=by simp
 obj:=fun i h st b hb=>by
  have e:b=it:=by simpa using hb
  subst e;obtain⟨o,e,c,d⟩:=st;exact⟨o,e,fun v z=>by rw [d] at z;cases z⟩
 keep:=fun i h h' st k=>st.at fun o e=>k it (by simp) o e
 item:=by
  intro X hP hw hK hc i pins s σ H E I hf st hg;subst hP hw hK;obtain⟨xs,x,hq,hx⟩:=hg;obtain⟨its,rv,p,hz⟩:=I.tuple hq;obtain⟨u,hu,ru⟩:=rv.get hx;obtain⟨f0,f1,f2,f3,f4,f5⟩:=hf it (by simp);refine wpAny_pyNext_tuple_item st (show s.heap.IsTuple a its.toArray from p) (x:=u) (by simpa using hu) fun h' st' sb=> ?_;have I1:Inv X pins σ H {s with heap:=h'}:=I.turned (t':=s.toks) (fun b o hb e=>(sb.2 b hb).trans e) f0 f1 f3 f4 f5;obtain⟨o,e,c,d⟩:=id st';exact⟨u,rfl,go_of (s:={s with heap:=h'}) e c d (by decide) ⟨x,H,I1,ru,⟨rfl,fun ys hy=>by rw [I.tuple_inj hy hq];exact hx⟩,st',fun b hb=>(hf b hb).1⟩⟩
 done:=by
  intro X hP hw hK hc i pins s σ H E I hf st hg;subst hP hw hK;obtain⟨xs,hq,hx⟩:=hg;obtain⟨its,rv,p,hz⟩:=I.tuple hq;obtain⟨f0,f1,f2,f3,f4,f5⟩:=hf it (by simp);have hl:=rv.length;exact wpAny_pyNext_tuple_end (I.ok.hd hc) st (show s.heap.IsTuple a its.toArray from p) (by simp;lia) fun h' eb=>⟨rfl,I.turned (t':=s.toks) (fun b o hb e=>eb b o hb e) f0 f1 f3 f4 f5⟩
 self:=fun _ _ _ _ _ st h=>wpAny_pyIter_tupleiter st h
theorem ku_ {P:Program}{w:World}{K:W.Frag}{tg:Expr} (it:Addr) (lo:Int) (n:Nat):Turn P w K tg (Itr lo n) [it] it (fun i h=>IsRangeIter h it (lo+(i:Nat)*1) ((n:Int)-(i:Nat)) 1) where
 mem:=by simp
 obj:=fun i h st b hb=>by
  have e:b=it:=by simpa using hb
  subst e;exact⟨_,st,fun v z=>by
   have z':Data.fields _=Data.cell v:=z;cases z'⟩
 keep:=fun i h h' st k=>k it (by simp) _ st
 item:=by
  intro X hP hw hK hc i pins s σ H E I hf st hg;subst hP hw hK;obtain⟨f0,f1,f2,f3,f4,f5⟩:=hf it (by simp);have Wq:=Walks.range (prog:=X.prog) (w:=X.w) (I.ok.hd hc) it lo 1 n;refine Wq.item i s _ _ hg st fun v h' tk hv st' kk=> ?_;obtain⟨t,rfl⟩:=hv;have I1:Inv X pins σ H {s with heap:=h',toks:=tk}:=I.turned (fun b o hb e=>kk b o (by simpa using hb) e) f0 f1 f3 f4 f5;refine⟨_,rfl,go_of (s:={s with heap:=h',toks:=tk}) (n:="range_iterator") st' rfl rfl (by decide) ⟨.int (lo+i),H,I1,⟨t, ?_⟩,⟨rfl,rfl⟩,st',fun b hb=>(hf b hb).1⟩⟩;rw [Int.mul_one]
 done:=by
  intro X hP hw hK hc i pins s σ H E I hf st hg;subst hP hw hK;obtain⟨f0,f1,f2,f3,f4,f5⟩:=hf it (by simp);exact wpAny_pyNext_range_end (I.ok.hd hc) st (by have:n<=i:=hg;lia) fun h' eb=>⟨rfl,I.turned (t':=s.toks) (fun b o hb e=>eb b o hb e) f0 f1 f3 f4 f5⟩
 self:=fun _ _ _ _ _ st h=>wpAny_pyIter_rangeiter st h
end L2
namespace L2
open PySem PySem.Spec PyProof.Rows
section
variable {X:Cx}{tg:Expr}
noncomputable def t8_ (K:W.Frag) (tl:TE):TI:=fun σ H R=>tl σ H fun x H1=>∃a,x= .ref a/\(∃xs,SqL K H1 a xs)/\R (Itl K a) H1
noncomputable def vB_ (K:W.Frag) (tl:TE):TI:=fun σ H R=>tl σ H fun x H1=>∃a,x= .ref a/\(∃xs,SqT K H1 a xs)/\R (Itt K a) H1
theorem a4_ {l:Expr}{tl:TE} (hl:PE X l tl):PI X tg l (t8_ X.K tl):=by
 intro pins s σ H R I h;refine thn (hl pins s σ H _ I h) fun v s1 ⟨x,H1,I1,r1,q1⟩=> ?_;obtain⟨a,e,⟨xs,hq⟩,q⟩:=q1;subst e;cases r1;obtain⟨its,rv,p,hz⟩:=I1.list hq;refine wpAny_pyIter_list p.isList ?_;refine⟨s1.heap.objs.size,[s1.heap.objs.size],_,_,H1,rfl,I1.kept (t':=s1.toks) fun b o e=>A9 _ e,kZ_ a _,⟨_,AL _ rfl,rfl,rfl⟩,fun b hb=> ?_,q⟩;have e:b=s1.heap.objs.size:=by simpa using hb
 subst e;exact I1.fpOk (A8 _) (I1.hok.fresh (A8 _))
theorem r7_ {l:Expr}{tl:TE} (hl:PE X l tl):PI X tg l (vB_ X.K tl):=by
 intro pins s σ H R I h;refine thn (hl pins s σ H _ I h) fun v s1 ⟨x,H1,I1,r1,q1⟩=> ?_;obtain⟨a,e,⟨xs,hq⟩,q⟩:=q1;subst e;cases r1;obtain⟨its,rv,p,hz⟩:=I1.tuple hq;refine wpAny_pyIter_tuple (show s1.heap.IsTuple a its.toArray from p) ?_;refine⟨s1.heap.objs.size,[s1.heap.objs.size],_,_,H1,rfl,I1.kept (t':=s1.toks) fun b o e=>A9 _ e,kt_ a _,⟨_,AL _ rfl,rfl,rfl⟩,fun b hb=> ?_,q⟩;have e:b=s1.heap.objs.size:=by simpa using hb
 subst e;exact I1.fpOk (A8 _) (I1.hok.fresh (A8 _))
theorem jz_ {pins:List (Addr×Obj)}{σ:St}{H:Hp}{s:Shared}{R:It->Hp->Prop}{E:Value->Shared->Prop}{lo hi:Int}{t u v:Tok}{tk:Nat} (I:Inv X pins σ H s) (h1: -(2^62)<=lo) (h2:lo<2^62) (h3: -(2^62)<=hi) (h4:hi<2^62)
  (q:R (Itr lo (hi-lo).toNat) H):wpAny (model X.prog X.w) X.A (pyIter (.ref s.heap.objs.size)) (PIE X pins σ tg R) E {s with heap:=s.heap.push {cls:= .type "range",data:= .fields #[.int lo t, .int hi u, .int 1 v]},toks:=tk}:=by
 refine wpAny_pyIter_range (IsRange.new ..) (small_one h1 h2 h3 h4) ?_;have I1:Inv X pins σ H {s with heap:=s.heap.push {cls:= .type "range",data:= .fields #[.int lo t, .int hi u, .int 1 v]},toks:=tk}:=I.kept fun b o e=>A9 _ e;refine⟨(s.heap.push {cls:= .type "range",data:= .fields #[.int lo t, .int hi u, .int 1 v]}).objs.size,[(s.heap.push {cls:= .type "range",data:= .fields #[.int lo t, .int hi u, .int 1 v]}).objs.size],_,_,H,rfl,
  I1.kept (t':=tk) fun b o e=>A9 _ e,ku_ _ lo (hi-lo).toNat, ?_,fun b hb=> ?_,q⟩
 .have e1:lo+((0:Nat):Int)*1=lo:=by simp
  have e2:(((hi-lo).toNat:Nat):Int)-((0:Nat):Int)=Builtin.Range.rangeSize lo hi 1:=by rw [rangeSize_one];split<;>lia
  show IsRangeIter _ _ (lo+((0:Nat):Int)*1) ((((hi-lo).toNat:Nat):Int)-((0:Nat):Int)) 1;rw [e1,e2];exact AL _ rfl
 .have e:b=(s.heap.push {cls:= .type "range",data:= .fields #[.int lo t, .int hi u, .int 1 v]}).objs.size:=by simpa using hb
  subst e;exact I1.fpOk (A8 _) (I1.hok.fresh (A8 _))
noncomputable def t7_ (ta:TA):TI:=fun σ H R=>ta σ H fun vs H1=>∃j:Int,vs=[.int j]/\-(2^62)<=j/\j<2^62/\R (Itr 0 j.toNat) H1
noncomputable def t6_ (ta:TA):TI:=fun σ H R=>ta σ H fun vs H1=>∃i j:Int,vs=[.int i, .int j]/\(-(2^62)<=i/\i<2^62/\-(2^62)<=j/\j<2^62)/\R (Itr i (j-i).toNat) H1
theorem b3_ {a:Expr}{ta:TA}{p pos:Pos} (hg:Gl X "range") (hm:X.mg "range"=none) (ha:PA X [a] ta) (hs:starEach [a] X.env=[(false,eval a X.env)]:=by rfl):PI X tg (.Call (.Name "range" p) [a] [] pos) (t7_ ta):=by
 intro pins s σ H R I h;refine Call_ (dm_ I hg hm boot_range (BS (thn (ha pos pins s σ H _ I h) fun us s1 ⟨vs,H1,I1,r1,q1⟩=> ?_) hs rfl));obtain⟨j,e,q1,q2,q⟩:=q1;subst e;cases r1 with
 |cons r rr=>
  cases rr;obtain⟨t,rfl⟩:=r;exact call_range_1 (jz_ I1 (by lia) (by lia) q1 q2 (by simpa using q))
theorem cq_ {a b:Expr}{ta:TA}{p pos:Pos} (hg:Gl X "range") (hm:X.mg "range"=none) (ha:PA X [a,b] ta) (hs:starEach [a,b] X.env=[(false,eval a X.env),(false,eval b X.env)]:=by rfl) (hs2:starEach [b] X.env=[(false,eval b X.env)]:=by rfl):
  PI X tg (.Call (.Name "range" p) [a,b] [] pos) (t6_ ta):=by
 intro pins s σ H R I h;refine Call_ (dm_ I hg hm boot_range (BS (thn (ha pos pins s σ H _ I h) fun us s1 ⟨vs,H1,I1,r1,q1⟩=> ?_) (by rw [hs,hs2]) (by rw [hs2];rfl)));obtain⟨i,j,e,⟨q1,q2,q3,q4⟩,q⟩:=q1;subst e;cases r1 with
 |cons r rr=>
  cases rr with
  |cons r' rr=>
   cases rr;obtain⟨t,rfl⟩:=r;obtain⟨t',rfl⟩:=r';exact call_range_2 (jz_ I1 q1 q2 q3 q4 q)
noncomputable def vc_ (wi:TI) (g:TG) (tb:TS):TS:=fun D σ H=>wi σ H fun J H1=>∃Wq:Nat->Nat->St->Hp->Prop,(∃m,Wq 0 m σ H1)/\∀i m σ H,Wq i m σ H->
 (J.stop i H/\D.nx σ H)\/(J.go i H/\∃N:St->Hp->Prop,(∀σ' H',N σ' H'->∃m',m'<m/\Wq (i+1) m' σ' H')/\∀x H',J.yld i H x H'->g x σ H' fun σ2 H2=>tb {D with nx:=N,ct:=N,bk:=D.nx} σ2 H2)
noncomputable def hk_ (fp:List Addr) (h:Heap):List (Addr×Obj):=fp.filterMap fun b=>(h.get? b).map fun o=>(b,o)
theorem c8_ {fp:List Addr}{h:Heap}{b:Addr}{o:Obj} (hb:b∈fp) (e:h.get? b=some o):(b,o)∈hk_ fp h:=Cz.mpr ⟨b,hb,by rw [e];rfl⟩
theorem ma_ {fp:List Addr}{h:Heap}{p:Addr×Obj} (hp:p∈hk_ fp h):p.1∈fp/\h.get? p.1=some p.2:=by
 obtain⟨b,hb,e⟩:=Cz.mp hp;cases q:h.get? b with
 |none=>rw [q] at e;cases e
 |some o=>
  rw [q] at e;have e':(b,o)=p:=Af e;subst e';exact⟨hb,q⟩
theorem Inv.pinned {pins:List (Addr×Obj)}{σ:St}{H:Hp}{s:Shared}{fp:List Addr} (I:Inv X pins σ H s) (hf:∀b∈fp,pw_ X pins H b) (ho:∀b∈fp,∃o,s.heap.get? b=some o/\∀v,o.data≠ .cell v):Inv X (pins++hk_ fp s.heap) σ H s:=
 I.pins_of fun p hp=>(B7.mp hp).elim (fun z=>I.pin p (Ah _ z)) fun z=>by
  obtain⟨hb,e⟩:=ma_ z;obtain⟨f0,f1,f2,_⟩:=hf p.1 hb;obtain⟨o,e',d⟩:=ho p.1 hb;rw [e] at e';cases e';exact⟨e,f0,f1,f2,d⟩
theorem Inv.unpinned {pins pl:List (Addr×Obj)}{σ:St}{H:Hp}{s:Shared} (I:Inv X (pins++pl) σ H s):Inv X pins σ H s:=I.pins_of fun p hp=>I.pin p (Ah _ (Bu _ hp))
theorem aQ_ {bS_:Expr}{body:List Stmt}{wi:TI}{g:TG}{tb:TS}{pos:Pos} (hp:PassesOwn (model X.prog X.w) X.A X.env X.xe) (hc:X.calm=true) (hi:PI X tg bS_ wi) (hg:PG X tg g) (hb:PSs X body tb)
  (hs:∀x,foldedSetIterable bS_ X.env x=pure x:=by intro _;rfl):PS X (.For tg bS_ body [] pos) (vc_ wi g tb):=by
 intro pins s σ H D I h;refine wpAny_For (thn (hi pins s σ H _ I h) fun v s1 h1=>thn h1 fun itv s2 h2=> ?_) hs;obtain⟨it,fp,tn,J,H2,e,I2,T,st2,f2,Wq,⟨m0,w0⟩,turn⟩:=h2;subst e;have stat:∀{H':Hp},(∀b∈fp,H' b=none)->∀b∈fp,pw_ X pins H' b:=fun hn b hb=>⟨hn b hb,(f2 b hb).2⟩;refine codeAny_forLoop_any (fun n s'=>∃i σ' H',Inv X pins σ' H' s'/\tn i s'.heap/\(∀b∈fp,H' b=none)/\Wq i n σ' H') ?_ m0 ⟨0,σ,H2,I2,st2,fun b hb=>(f2 b hb).1,w0⟩;rintro n s3 ⟨i,σ3,H3,I3,st3,fr3,w3⟩;rcases turn i n σ3 H3 w3 with⟨stop,qn⟩|⟨go,N,hN,step⟩
 .refine C9 hp (thn (T.done X rfl rfl rfl hc i pins s3 σ3 H3 X.xe I3 (stat fr3) st3 stop) fun r s4 ⟨hr,I4⟩=> ?_);subst hr;exact CB ⟨σ3,H3,I4,qn⟩
 .refine C9 hp (thn (T.item X rfl rfl rfl hc i pins s3 σ3 H3 X.xe I3 (stat fr3) st3 go) fun r s4 ⟨u,hr,h4⟩=> ?_);subst hr;refine C9 hp (thn h4 fun _ s5 ⟨x,H5,I5,r5,y5,st5,fr5⟩=> ?_);have I5':=I5.pinned (stat fr5) (T.obj _ _ st5);refine C9 hp (thn (hg _ s5 σ3 H5 x u _ I5' r5 (step x H5 y5)) fun _ s6 ⟨σ6,H6,I6,q6⟩=> ?_);refine C9 hp (thn (hb _ s6 σ6 H6 _ I6 q6) fun f s7 q7=> ?_);have again:∀{σ7:St}{H7:Hp},Inv X (pins++hk_ fp s5.heap) σ7 H7 s7->N σ7 H7->∃m,m<n/\∃i σ' H',Inv X pins σ' H' s7/\tn i s7.heap/\(∀b∈fp,H' b=none)/\Wq i m σ' H':=fun{σ7 H7} I7 n7=>by
   obtain⟨m',hm,w7⟩:=hN σ7 H7 n7;refine⟨m',hm,i+1,σ7,H7,I7.unpinned,T.keep _ _ _ st5 fun b hb o e=>(I7.pin (b,o) (Ah _ (Ah _ (c8_ hb e)))).1,fun b hb=> ?_,w7⟩;obtain⟨o,e,d⟩:=T.obj _ _ st5 b hb;exact(I7.pin (b,o) (Ah _ (Ah _ (c8_ hb e)))).2.1
  cases f with
  |next=>obtain⟨σ7,H7,I7,n7⟩:=q7;exact again I7 n7
  |cont=>obtain⟨σ7,H7,I7,n7⟩:=q7;exact again I7 n7
  |brk=>obtain⟨σ7,H7,I7,q7⟩:=q7;exact⟨σ7,H7,I7.unpinned,q7⟩
  |ret v=>obtain⟨x7,σ7,H7,I7,r7,q7⟩:=q7;exact⟨x7,σ7,H7,I7.unpinned,r7,q7⟩
end
theorem bB_ {K:W.Frag}{a:Addr}{xs:List V}{g:TG}{tb:TS}{D:Ends}{σ:St}{H:Hp} (Pv:Nat->St->Hp->Prop) (h0:Pv 0 σ H) (hl:∀i σ H,i<=xs.length->Pv i σ H->SqL K H a xs)
  (hs:∀i x σ H,xs[i]? =some x->Pv i σ H->g x σ H fun σ2 H2=>tb {D with nx:=Pv (i+1),ct:=Pv (i+1),bk:=D.nx} σ2 H2) (hd:∀σ H,Pv xs.length σ H->D.nx σ H):
  ∃Wq:Nat->Nat->St->Hp->Prop,(∃m,Wq 0 m σ H)/\∀i m σ H,Wq i m σ H->
   ((Itl K a).stop i H/\D.nx σ H)\/((Itl K a).go i H/\∃N:St->Hp->Prop,(∀σ' H',N σ' H'->∃m',m'<m/\Wq (i+1) m' σ' H')/\∀x H',(Itl K a).yld i H x H'->g x σ H' fun σ2 H2=>tb {D with nx:=N,ct:=N,bk:=D.nx} σ2 H2):=by
 refine⟨fun i m σ H=>m=xs.length-i/\i<=xs.length/\Pv i σ H,⟨xs.length,by simp,AS _,h0⟩, ?_⟩;rintro i m σ H ⟨rfl,hi,p⟩;have q:=hl i σ H hi p;by_cases hlt:i<xs.length
 .refine .inr ⟨⟨xs,xs[i],q,by simp [hlt]⟩,Pv (i+1),fun σ' H' p'=>⟨xs.length-(i+1),by lia,rfl,hlt,p'⟩,fun x H' y=> ?_⟩;obtain⟨e,y⟩:=y;subst e;exact hs i x σ _ (y xs q) p
 .have e:i=xs.length:=by lia
  subst e;exact .inl ⟨⟨xs,q,A8 _⟩,hd σ H p⟩
theorem qS_ {K:W.Frag}{a:Addr}{xs:List V}{g:TG}{tb:TS}{D:Ends}{σ:St}{H:Hp} (Pv:Nat->St->Hp->Prop) (h0:Pv 0 σ H) (hl:∀i σ H,i<=xs.length->Pv i σ H->SqT K H a xs)
  (hs:∀i x σ H,xs[i]? =some x->Pv i σ H->g x σ H fun σ2 H2=>tb {D with nx:=Pv (i+1),ct:=Pv (i+1),bk:=D.nx} σ2 H2) (hd:∀σ H,Pv xs.length σ H->D.nx σ H):
  ∃Wq:Nat->Nat->St->Hp->Prop,(∃m,Wq 0 m σ H)/\∀i m σ H,Wq i m σ H->
   ((Itt K a).stop i H/\D.nx σ H)\/((Itt K a).go i H/\∃N:St->Hp->Prop,(∀σ' H',N σ' H'->∃m',m'<m/\Wq (i+1) m' σ' H')/\∀x H',(Itt K a).yld i H x H'->g x σ H' fun σ2 H2=>tb {D with nx:=N,ct:=N,bk:=D.nx} σ2 H2):=by
 refine⟨fun i m σ H=>m=xs.length-i/\i<=xs.length/\Pv i σ H,⟨xs.length,by simp,AS _,h0⟩, ?_⟩;rintro i m σ H ⟨rfl,hi,p⟩;have q:=hl i σ H hi p;by_cases hlt:i<xs.length
 .refine .inr ⟨⟨xs,xs[i],q,by simp [hlt]⟩,Pv (i+1),fun σ' H' p'=>⟨xs.length-(i+1),by lia,rfl,hlt,p'⟩,fun x H' y=> ?_⟩;obtain⟨e,y⟩:=y;subst e;exact hs i x σ _ (y xs q) p
 .have e:i=xs.length:=by lia
  subst e;exact .inl ⟨⟨xs,q,A8 _⟩,hd σ H p⟩
theorem bA_ {lo:Int}{n:Nat}{g:TG}{tb:TS}{D:Ends}{σ:St}{H:Hp} (Pv:Nat->St->Hp->Prop) (h0:Pv 0 σ H)
  (hs:∀i σ H,i<n->Pv i σ H->g (.int (lo+i)) σ H fun σ2 H2=>tb {D with nx:=Pv (i+1),ct:=Pv (i+1),bk:=D.nx} σ2 H2) (hd:∀σ H,Pv n σ H->D.nx σ H):
  ∃Wq:Nat->Nat->St->Hp->Prop,(∃m,Wq 0 m σ H)/\∀i m σ H,Wq i m σ H->
   ((Itr lo n).stop i H/\D.nx σ H)\/((Itr lo n).go i H/\∃N:St->Hp->Prop,(∀σ' H',N σ' H'->∃m',m'<m/\Wq (i+1) m' σ' H')/\∀x H',(Itr lo n).yld i H x H'->g x σ H' fun σ2 H2=>tb {D with nx:=N,ct:=N,bk:=D.nx} σ2 H2):=by
 refine⟨fun i m σ H=>m=n-i/\i<=n/\Pv i σ H,⟨n,by simp,AS _,h0⟩, ?_⟩;rintro i m σ H ⟨rfl,hi,p⟩;by_cases hlt:i<n
 .refine .inr ⟨hlt,Pv (i+1),fun σ' H' p'=>⟨n-(i+1),by lia,rfl,hlt,p'⟩,fun x H' y=> ?_⟩;obtain⟨e,y⟩:=y;subst e y;exact hs i σ _ hlt p
 .have e:i=n:=by lia
  subst e;exact .inl ⟨A8 _,hd σ H p⟩
theorem jc_ {c:TT}{tb:TS}{D:Ends}{σ:St}{H:Hp} (Pv:St->Hp->Prop) (μ:St->Hp->Nat) (h0:Pv σ H)
  (hs:∀σ H,Pv σ H->c σ H fun b H1=>if b=true then tb {D with nx:=fun σ' H'=>Pv σ' H'/\μ σ' H'<μ σ H,ct:=fun σ' H'=>Pv σ' H'/\μ σ' H'<μ σ H,bk:=D.nx} σ H1 else D.nx σ H1)
  (mono:∀σ H Q Q',(∀b H1,Q b H1->Q' b H1)->c σ H Q->c σ H Q'):oU_ c tb D σ H:=by
 refine⟨fun m σ H=>m=μ σ H/\Pv σ H,⟨_,rfl,h0⟩, ?_⟩;rintro m σ H ⟨rfl,p⟩;refine mono σ H _ _ (fun b H1 q=> ?_) (hs σ H p);cases b with
 |true=>exact⟨_,fun σ' H' ⟨p',l⟩=>⟨_,l,rfl,p'⟩,q⟩
 |false=>exact q
end L2
namespace L2
open PySem PySem.Spec PyProof.Rows
noncomputable abbrev R2:=V->V->Hp->VK->Prop
noncomputable def OpR (X:Cx) (f:Value->Value->Sem Value) (r:R2):Prop:=
 ∀(pins:List (Addr×Obj)) (s:Shared) (σ:St) (H:Hp) (x y:V) (v u:Value) (Q:VK),Inv X pins σ H s->aV_ x v->aV_ y u->r x y H Q->
  wpAny (model X.prog X.w) X.A (f v u) (EP X pins σ Q) X.xe s
noncomputable def UnR (X:Cx) (f:Value->Sem Value) (r:V->Hp->VK->Prop):Prop:=
 ∀(pins:List (Addr×Obj)) (s:Shared) (σ:St) (H:Hp) (x:V) (v:Value) (Q:VK),Inv X pins σ H s->aV_ x v->r x H Q->
  wpAny (model X.prog X.w) X.A (f v) (EP X pins σ Q) X.xe s
noncomputable def cx_ (X:Cx) (f:Value) (r:List V->Hp->VK->Prop):Prop:=
 ∀(pins:List (Addr×Obj)) (s:Shared) (σ:St) (H:Hp) (xs:List V) (us:List Value) (Q:VK),Inv X pins σ H s->aR_ xs us->r xs H Q->
  wpAny (model X.prog X.w) X.A (call f us) (EP X pins σ Q) X.xe s
noncomputable def vG_ (X:Cx) (r:V->Hp->(Bool->Hp->Prop)->Prop):Prop:=
 ∀(pins:List (Addr×Obj)) (s:Shared) (σ:St) (H:Hp) (x:V) (v:Value) (Q:Bool->Hp->Prop),Inv X pins σ H s->aV_ x v->r x H Q->
  wpAny (model X.prog X.w) X.A (truthy v) (TP X pins σ Q) X.xe s
noncomputable def tOp (r:R2) (ta tb:TE):TE:=fun σ H Q=>ta σ H fun x H1=>tb σ H1 fun y H2=>r x y H2 Q
noncomputable def tUn (r:V->Hp->VK->Prop) (ta:TE):TE:=fun σ H Q=>ta σ H fun x H1=>r x H1 Q
noncomputable def rI (C:Int->Int->Prop) (g:Int->Int->V):R2:=fun x y H Q=>∃i j,x= .int i/\y= .int j/\C i j/\Q (g i j) H
noncomputable def rI0 (g:Int->Int->V):R2:=fun x y H Q=>∃i j,x= .int i/\y= .int j/\Q (g i j) H
noncomputable def rU (g:Int->V):V->Hp->VK->Prop:=fun x H Q=>∃i,x= .int i/\Q (g i) H
section
variable {X:Cx}{a b c:Expr}{ta tb tc:TE}{pos:Pos}
theorem uk_ (ha:PE X a ta) (hb:PE X b tb) {pins:List (Addr×Obj)}{s:Shared}{σ:St}{H:Hp}{R:V->V->Hp->Prop} (I:Inv X pins σ H s)
  (h:ta σ H fun x H1=>tb σ H1 fun y H2=>R x y H2) {Q:Value->Shared->Prop}{f:Value->Value->Sem Value}
  (hf:∀v u s2 x y H2,Inv X pins σ H2 s2->aV_ x v->aV_ y u->R x y H2->wpAny (model X.prog X.w) X.A (f v u) Q X.xe s2):
  wpAny (model X.prog X.w) X.A (eval a X.env) (fun v s₁=>wpAny (model X.prog X.w) X.A (eval b X.env) (fun u s₂=>wpAny (model X.prog X.w) X.A (f v u) Q X.xe s₂) X.xe s₁) X.xe s:=by
 refine thn (ha pins s σ H _ I h) fun v s1 ⟨x,H1,I1,r1,q1⟩=> ?_;refine thn (hb pins s1 σ H1 _ I1 q1) fun u s2 ⟨y,H2,I2,r2,q2⟩=> ?_;exact hf v u s2 x y H2 I2 r1 r2 q2
theorem aj_ {op:Operator}{r:R2} (ho:OpR X (binaryOp op) r) (ha:PE X a ta) (hb:PE X b tb):PE X (.BinOp a op b pos) (tOp r ta tb):=by
 intro pins s σ H Q I h;exact wpAny_BinOp (uk_ ha hb I h fun v u s2 x y H2 I2 rx ry q=>ho pins s2 σ H2 x y v u Q I2 rx ry q)
theorem iC_ {op:UnaryOp}{r:V->Hp->VK->Prop} (ho:UnR X (unaryOp op) r) (ha:PE X a ta):PE X (.UnaryOp op a pos) (tUn r ta):=by
 intro pins s σ H Q I h;exact UnaryOp_ (thn (ha pins s σ H _ I h) fun v s1 ⟨x,H1,I1,r1,q1⟩=>ho pins s1 σ H1 x v Q I1 r1 q1)
theorem opI {f:Value->Value->Sem Value}{C:Int->Int->Prop}{g:Int->Int->Int}
  (rule:∀(i j:Int) (t u:Tok) (s:Shared) (Q:Value->Shared->Prop) (E:Value->Shared->Prop),C i j->Q (.int (g i j) s.toks) {s with toks:=s.toks+1}->wpAny (model X.prog X.w) X.A (f (.int i t) (.int j u)) Q E s):
  OpR X f (rI C fun i j=> .int (g i j)):=by
 intro pins s σ H x y v u Q I rx ry h;obtain⟨i,j,rfl,rfl,hc,q⟩:=h;obtain⟨t,rfl⟩:=rx;obtain⟨t',rfl⟩:=ry;exact rule i j t t' s _ _ hc ⟨.int (g i j),H,I.tok _,⟨_,rfl⟩,q⟩
theorem uU_ {f:Value->Value->Sem Value}{g:Int->Int->Int}
  (rule:∀(i j:Int) (t u:Tok) (s:Shared) (Q:Value->Shared->Prop) (E:Value->Shared->Prop),Q (.int (g i j) s.toks) {s with toks:=s.toks+1}->wpAny (model X.prog X.w) X.A (f (.int i t) (.int j u)) Q E s):
  OpR X f (rI0 fun i j=> .int (g i j)):=by
 intro pins s σ H x y v u Q I rx ry h;obtain⟨i,j,rfl,rfl,q⟩:=h;obtain⟨t,rfl⟩:=rx;obtain⟨t',rfl⟩:=ry;exact rule i j t t' s _ _ ⟨.int (g i j),H,I.tok _,⟨_,rfl⟩,q⟩
theorem s8_ {f:Value->Value->Sem Value}{g:Int->Int->Bool}
  (rule:∀(i j:Int) (t u:Tok) (s:Shared) (Q:Value->Shared->Prop) (E:Value->Shared->Prop),Q (.bool (g i j)) s->wpAny (model X.prog X.w) X.A (f (.int i t) (.int j u)) Q E s):
  OpR X f (rI0 fun i j=> .bl (g i j)):=by
 intro pins s σ H x y v u Q I rx ry h;obtain⟨i,j,rfl,rfl,q⟩:=h;obtain⟨t,rfl⟩:=rx;obtain⟨t',rfl⟩:=ry;exact rule i j t t' s _ _ ⟨.bl (g i j),H,I,rfl,q⟩
noncomputable def vJ_ (i j:Int):Prop:=0<j/\j<1073741824
noncomputable def vI_ (i j:Int):Prop:=0<=j/\j<=1000000/\i.natAbs<2^64
noncomputable def uN_ (i j:Int):Prop:=(-(2^64)<i/\i<2^64)\/(-(2^64)<j/\j<2^64)
theorem uN_.ok {i j:Int} (h:uN_ i j):IntMulOk i j:=by
 rcases h with⟨h1,h2⟩|⟨h1,h2⟩
 .exact .of_left (intBits_le_64 h1 h2)
 .exact .of_right (intBits_le_64 h1 h2)
theorem aA_:OpR X (binaryOp .Add) (rI0 fun i j=> .int (i+j)):=uU_ fun _ _ _ _ _ _ _ q=>add_int q
theorem aF_:OpR X (binaryOp .Sub) (rI0 fun i j=> .int (i-j)):=uU_ fun _ _ _ _ _ _ _ q=>sub_int q
theorem bn_:OpR X (binaryOp .Mult) (rI uN_ fun i j=> .int (i*j)):=opI fun _ _ _ _ _ _ _ hc q=>mul_int q hc.ok
theorem qp_:OpR X (binaryOp .FloorDiv) (rI vJ_ fun i j=> .int (i/j)):=opI fun i j _ _ _ _ _ hc q=>by
 have h1:(0:Int)<j:=hc.1;have h2:j<1073741824:=hc.2;exact floordiv_int (by lia) (by rw [Int.fdiv_eq_ediv_of_nonneg i (by lia)];exact q) (.inl (PyProof.noPylong_small (by lia)))
theorem cX_:OpR X (binaryOp .Mod) (rI (fun _ j=>0<j) fun i j=> .int (i%j)):=opI fun i j _ _ _ _ _ hc q=>by
 have h1:(0:Int)<j:=hc;exact mod_int' (by lia) (by rw [Int.fmod_eq_emod_of_nonneg i (by lia)];exact q)
theorem lZ_:OpR X (binaryOp .Pow) (rI vI_ fun i j=> .int (i^j.toNat)):=opI fun _ _ _ _ _ _ _ hc q=>pow_int_small hc.1 hc.2.1 hc.2.2 q
theorem unI {f:Value->Sem Value}{g:Int->Int}
  (rule:∀(i:Int) (t:Tok) (s:Shared) (Q:Value->Shared->Prop) (E:Value->Shared->Prop),Q (.int (g i) s.toks) {s with toks:=s.toks+1}->wpAny (model X.prog X.w) X.A (f (.int i t)) Q E s):
  UnR X f (rU fun i=> .int (g i)):=by
 intro pins s σ H x v Q I rx h;obtain⟨i,rfl,q⟩:=h;obtain⟨t,rfl⟩:=rx;exact rule i t s _ _ ⟨.int (g i),H,I.tok _,⟨_,rfl⟩,q⟩
theorem eC_:UnR X (unaryOp .USub) (rU fun i=> .int (-i)):=unI fun _ _ _ _ _ q=>neg_int q
end
noncomputable def vp_:V->V->Bool
 | .non, .non=>true| .non, .int _=>true| .int _, .non=>true| .non, .bl _=>true| .bl _, .non=>true| .non, .str _=>true| .str _, .non=>true
 | .int _, .int _=>true| .bl _, .bl _=>true| .str _, .str _=>true| .byt _, .byt _=>true
 | .int _, .str _=>true| .str _, .int _=>true| .bl _, .str _=>true| .str _, .bl _=>true
 |_,_=>false
noncomputable def rEq:R2:=fun x y H Q=>vp_ x y=true/\Q (.bl (decide (x=y))) H
theorem q3_ {i j:Int}:decide (V.int i=V.int j)=(i==j):=by
 rw [Co];simp
theorem sS_ {i j:Bool}:decide (V.bl i=V.bl j)=(i==j):=by
 rw [Co];simp
theorem q2_ {i j:Str}:decide (V.str i=V.str j)=(i==j):=by
 rw [Co];simp
theorem q4_ {i j:Array UInt8}:decide (V.byt i=V.byt j)=(i.toList==j.toList):=by
 rw [Co];cases i;cases j;simp
section
variable {X:Cx}{a b c:Expr}{ta tb tc:TE}{pos:Pos}
theorem bT_ {pins:List (Addr×Obj)}{σ:St}{H:Hp}{s:Shared}{Q:VK}{k k':Bool} (I:Inv X pins σ H s) (q:Q (.bl k) H) (e:k=k'):EP X pins σ Q (.bool k') s:=by
 subst e;exact⟨.bl k,H,I,rfl,q⟩
theorem fk_:OpR X (compareOp .Eq) rEq:=by
 intro pins s σ H x y v u Q I rx ry h;obtain⟨hs,q⟩:=h;cases x with
 |non=>
  cases rx;cases y with
  |non=>cases ry;exact PySem.EqNone.eq_none_none (bT_ I q (by simp))
  |bl j=>cases ry;exact PySem.EqNone.eq_none_bool (bT_ I q (by simp))
  |int j=>obtain⟨t',rfl⟩:=ry;exact PySem.EqNone.eq_none_int (bT_ I q (by simp))
  |str j=>obtain⟨t',rfl⟩:=ry;exact PySem.EqNone.eq_none_str (bT_ I q (by simp))
  |_=>exact absurd (show false=true from hs) AZ
 |bl i=>
  cases rx;cases y with
  |non=>cases ry;exact PySem.EqNone.eq_bool_none (bT_ I q (by simp))
  |bl j=>cases ry;exact eq_bool (bT_ I q sS_)
  |str j=>obtain⟨t',rfl⟩:=ry;exact PySem.EqMixed.eq_bool_str (bT_ I q (by simp))
  |_=>exact absurd (show false=true from hs) AZ
 |int i=>
  obtain⟨t,rfl⟩:=rx;cases y with
  |non=>cases ry;exact PySem.EqNone.eq_int_none (bT_ I q (by simp))
  |int j=>obtain⟨t',rfl⟩:=ry;exact eq_int (bT_ I q q3_)
  |str j=>obtain⟨t',rfl⟩:=ry;exact PySem.EqMixed.eq_int_str (bT_ I q (by simp))
  |_=>exact absurd (show false=true from hs) AZ
 |str i=>
  obtain⟨t,rfl⟩:=rx;cases y with
  |non=>cases ry;exact PySem.EqNone.eq_str_none (bT_ I q (by simp))
  |bl j=>cases ry;exact PySem.EqMixed.eq_str_bool (bT_ I q (by simp))
  |int j=>obtain⟨t',rfl⟩:=ry;exact PySem.EqMixed.eq_str_int (bT_ I q (by simp))
  |str j=>obtain⟨t',rfl⟩:=ry;exact eq_str (bT_ I q q2_)
  |_=>exact absurd (show false=true from hs) AZ
 |byt i=>
  obtain⟨t,rfl⟩:=rx;cases y with
  |byt j=>obtain⟨t',rfl⟩:=ry;exact W.eq_bytes (bT_ I q q4_)
  |_=>exact absurd (show false=true from hs) AZ
 |_=>cases y<;>exact absurd (show false=true from hs) AZ
theorem qo_:OpR X (compareOp .Lt) (rI0 fun i j=> .bl (decide (i<j))):=s8_ fun _ _ _ _ _ _ _ q=>lt_int q
theorem n6_:OpR X (compareOp .LtE) (rI0 fun i j=> .bl (decide (i<=j))):=s8_ fun _ _ _ _ _ _ _ q=>le_int q
theorem n7_:OpR X (compareOp .Gt) (rI0 fun i j=> .bl (decide (j<i))):=s8_ fun _ _ _ _ _ _ _ q=>gt_int q
theorem l1_:OpR X (compareOp .GtE) (rI0 fun i j=> .bl (decide (j<=i))):=s8_ fun _ _ _ _ _ _ _ q=>ge_int q
theorem se_:OpR X (compareOp .Is) (fun x y H Q=>y= .non/\Q (.bl (decide (x= .non))) H):=by
 intro pins s σ H x y v u Q I rx ry h;obtain⟨rfl,q⟩:=h;cases ry;refine is_none_gen (bT_ I q ?_);cases x<;>first
  |(cases rx;rfl)
  |(obtain⟨t,rfl⟩:=rx;rfl)
theorem aK_ (b:Expr) {op:CmpOp} (h:op≠ .In:=by decide) (h2:op≠ .NotIn:=by decide):behindInMarks op b=false:=by
 have e1:(op==CmpOp.In)=false:=by cases op<;>first|rfl|exact absurd rfl h
 have e2:(op==CmpOp.NotIn)=false:=by cases op<;>first|rfl|exact absurd rfl h2
 cases b<;>simp [behindInMarks,e1,e2]
theorem gf_ {op:CmpOp}{r:R2} (ho:OpR X (compareOp op) r) (ha:PE X a ta) (hb:PE X b tb) (hm:behindInMarks op b=false):PE X (.Compare a [op] [b] pos) (tOp r ta tb):=by
 intro pins s σ H Q I h;exact wpAny_Compare1 (uk_ ha hb I h fun v u s2 x y H2 I2 rx ry q=>ho pins s2 σ H2 x y v u Q I2 rx ry q) hm
noncomputable def tm_ (t:TE):TT:=fun σ H Q=>t σ H fun x H'=>∃k,x= .bl k/\Q k H'
theorem aD_ {op:CmpOp}{r:R2} (ho:OpR X (compareOp op) r) (ha:PE X a ta) (hb:PE X b tb) (hm:behindInMarks op b=false):PT X (.Compare a [op] [b] pos) (tm_ (tOp r ta tb)):=by
 intro pins s σ H Q I h;refine wpAny_isTrue_Compare1 (thn (ha pins s σ H _ I h) fun v s1 ⟨x,H1,I1,r1,q1⟩=>thn (hb pins s1 σ H1 _ I1 q1) fun u s2 ⟨y,H2,I2,r2,q2⟩=>
  thn (ho pins s2 σ H2 x y v u _ I2 r1 r2 q2) fun c s3 ⟨z,H3,I3,r3,k,e,q3⟩=> ?_) hm
 subst e;cases r3;exact Bj ⟨H3,I3,q3⟩
noncomputable def uZ_ (K:W.Frag) (x:V) (H:Hp) (k:Bool):Prop:=
 match x with
 | .non=>k=false
 | .bl b=>k=b
 | .int i=>k=(i !=0)
 | .str y=>y.length<=sizeLine/\k=((y.length:Int) !=0)
 | .byt y=>y.size<=sizeLine/\k=((y.size:Int) !=0)
 | .ref p=>(∃xs,SqL K H p xs/\k= !xs.isEmpty)\/(∃xs,SqT K H p xs/\k= !xs.isEmpty)\/∃kvs,H p=some (.dK kvs)/\k= !kvs.isEmpty
 |_=>False
theorem kO_ {κ:Type}{kvs:List (κ×V)}{vs:List (κ×Value)} (r:KV kvs vs):(!vs.isEmpty)= !kvs.isEmpty:=by
 cases r<;>rfl
theorem fE_ {xs:List V}{its:List Value} (r:aR_ xs its):(!its.toArray.isEmpty)= !xs.isEmpty:=by
 cases r<;>simp
theorem fz_:(sizeLine:Nat)<2^63:=by rw [At];decide
theorem rA_:vG_ X (fun x H Q=>∃k,uZ_ X.K x H k/\Q k H):=by
 intro pins s σ H x v Q I rx h;obtain⟨k,e,q⟩:=h;have hl:=fz_;have hs:sizeLine=16777216:=At;cases x with
 |non=>
  cases rx;have e':k=false:=e;subst e';exact truthy_none ⟨H,I,q⟩
 |bl b=>
  cases rx;have e':k=b:=e;subst e';exact Bj ⟨H,I,q⟩
 |int i=>
  obtain⟨t,rfl⟩:=rx;have e':k=(i !=0):=e;subst e';exact PySem.P.truthy_int ⟨H,I,q⟩
 |str y=>
  obtain⟨t,rfl⟩:=rx;obtain⟨hy,e'⟩:y.length<=sizeLine/\k=((y.length:Int) !=0):=e;subst e';exact PySem.P.truthy_str (by lia) ⟨H,I.tok _,q⟩
 |byt y=>
  obtain⟨t,rfl⟩:=rx;obtain⟨hy,e'⟩:y.size<=sizeLine/\k=((y.size:Int) !=0):=e;subst e';exact W.truthy_bytes (by lia) ⟨H,I.tok _,q⟩
 |ref p=>
  cases rx;have e':(∃xs,SqL X.K H p xs/\k= !xs.isEmpty)\/(∃xs,SqT X.K H p xs/\k= !xs.isEmpty)\/∃kvs,H p=some (.dK kvs)/\k= !kvs.isEmpty:=e;rcases e' with⟨xs,hx,e'⟩|⟨xs,hx,e'⟩|⟨kvs,hx,e'⟩
  .subst e';obtain⟨its,r,pl,hz⟩:=I.list hx;have hlen:=r.length;exact wpAny_truthy_list pl.isList (by simp only [AD];lia) ⟨H,I.tok _,by rw [fE_ r];exact q⟩
  .subst e';obtain⟨its,r,pl,hz⟩:=I.tuple hx;have hlen:=r.length;exact truthy_tuple pl (by simp only [AD];lia) ⟨H,I.tok _,by rw [fE_ r];exact q⟩
  .subst e';obtain⟨hz,hS,vs,r,m⟩:kvs.length<=sizeLine/\(p==sysModules)=false/\∃vs,KV kvs vs/\s.heap.DictOf (aZ_ X.prog X.w) p vs:=I.hok p _ hx;have hlen:kvs.length=vs.length:=Bq r;exact wpAny_truthy_dict hS m (by lia) ⟨H,I.tok _,by rw [kO_ r];exact q⟩
 |_=>exact(show False from e).elim
theorem eu_ (ha:PE X a ta) (he:∀whole,isTrue a X.env whole=(do let v<-whole;standAt a.pos;holding [v] (truthy v))):
  PT X a (fun σ H Q=>ta σ H fun x H'=>∃k,uZ_ X.K x H' k/\Q k H'):=by
 intro pins s σ H Q I h;exact isTrue_plain (thn (ha pins s σ H _ I h) fun v s1 ⟨x,H1,I1,r1,q1⟩=>rA_ pins s1 σ H1 x v Q I1 r1 q1) (he _)
theorem fe_ {x:V}{us:List Value} (r:aR_ [x] us):∃u,us=[u]/\aV_ x u:=by
 cases r with
 |cons r1 r2=>cases r2;exact⟨_,rfl,r1⟩
theorem nn_ {x y:V}{us:List Value} (r:aR_ [x,y] us):∃u w',us=[u,w']/\aV_ x u/\aV_ y w':=by
 cases r with
 |cons r1 r2=>
  cases r2 with
  |cons r3 r4=>cases r4;exact⟨_,_,rfl,r1,r3⟩
theorem gW_:cx_ X (.builtin "abs") (fun xs H Q=>∃i,xs=[.int i]/\Q (.int (if i<0 then -i else i)) H):=by
 intro pins s σ H xs us Q I r h;obtain⟨i,rfl,q⟩:=h;obtain⟨u,rfl,t,rfl⟩:=fe_ r;exact call_abs_int fun u tk=>⟨.int (if i<0 then -i else i),H,I.tok _,⟨_,rfl⟩,q⟩
theorem m4_ (hc:X.calm=true):cx_ X (.builtin "max") (fun xs H Q=>∃i j,xs=[.int i, .int j]/\Q (.int (if j>i then j else i)) H):=by
 intro pins s σ H xs us Q I r h;obtain⟨i,j,rfl,q⟩:=h;obtain⟨u,w',rfl,⟨t,rfl⟩,⟨t',rfl⟩⟩:=nn_ r;refine max_two_ints (I.ok.hd hc) fun h' tk k=>⟨_,H,I.kept k, ?_,q⟩;by_cases hj:j>i
 .rw [A6 hj,A6 hj];exact⟨_,rfl⟩
 .rw [A5 hj,A5 hj];exact⟨_,rfl⟩
theorem m2_ (hc:X.calm=true):cx_ X (.builtin "min") (fun xs H Q=>∃i j,xs=[.int i, .int j]/\Q (.int (if j<i then j else i)) H):=by
 intro pins s σ H xs us Q I r h;obtain⟨i,j,rfl,q⟩:=h;obtain⟨u,w',rfl,⟨t,rfl⟩,⟨t',rfl⟩⟩:=nn_ r;refine min_two_ints (I.ok.hd hc) fun h' tk k=>⟨_,H,I.kept k, ?_,q⟩;by_cases hj:j<i
 .rw [A6 hj,A6 hj];exact⟨_,rfl⟩
 .rw [A5 hj,A5 hj];exact⟨_,rfl⟩
end
end L2
namespace L2
open PySem PySem.Spec PyProof.Rows
structure ObjM (h:Heap) (x dx C:Addr) (mA:Str->Option Value):Prop where
 obj:h.get? x=some (W.instObj C dx)
 ns:h.Ns1 dx mA
 ne:dx≠x
theorem mn_ {h:Heap}{dx:Addr}{mA:Str->Option Value} (n:h.Ns1 dx mA):∃od,h.get? dx=some od/\∀name,W.lookIn name od=some (mA name):=by
 obtain⟨o,es,ep,ho,hd,hk,_,hm⟩:=n;refine⟨o,ho,fun name=> ?_⟩;have e:=hm name;unfold nsFind findBy at e;rw [<-Array.find?_toList] at e;unfold W.lookIn;rw [hd];dsimp only;split
 .rename_i y q;rw [q] at e;exact Bg some e
 .rename_i q;rw [q] at e;have a:es.toList.any (·.refKey)=false:=by
   rw [List.any_eq_false];intro y hy;obtain⟨z,t,hkey⟩:=hk y (Array.mem_toList_iff.mp hy);simp [DictEntry.refKey,hkey]
  have a':¬es.toList.any (·.refKey)=true:=by rw [a];exact AZ
  rw [A5 a'];exact Bg some e
theorem ObjM.look {h:Heap}{x dx C:Addr}{mA:Str->Option Value} (I:ObjM h x dx C mA):∃od,W.InstAt h x (W.instObj C dx) C (some od)/\∀name,W.lookIn name od=some (mA name):=
 let ⟨od,ho,hl⟩:=mn_ I.ns
 ⟨od,⟨I.obj,rfl,rfl,ho⟩,hl⟩
section
variable {prog:Program}{w:World}{A:Around}{E:Value->Shared->Prop}{s:Shared}{K:W.Frag}{x dx C f:Addr}{mA:Str->Option Value}{name:Str}{v:Value}
end
theorem i9_.some_of {v:V}{o:Option Value} (r:i9_ (some v) o):∃u,o=some u/\aV_ v u:=by
 cases o with
 |none=>exact(show False from r).elim
 |some u=>exact⟨u,rfl,r⟩
section
variable {P:Program}{w:World}{H H':Hp}{h h':Heap}{a C dx:Addr}{fs fs':List (Str×V)}
theorem qO_ (hok:HOk P w H h) (e:H a=some (.ins C dx fs)):∃mA,ObjM h a dx C mA/\(∀f,i9_ (fs.lookup f) (mA f))/\PySem.Within mA (fs.map (·.1))/\fs.length<=1000/\H dx=some (.own a):=by
 obtain⟨d,z,ne,ob,mA,n,r,q⟩:=(show aH_ P w H h a (.ins C dx fs) from hok a _ e);exact⟨mA,⟨ob,n,ne⟩,r,q,z,d⟩
end
structure Cls (K:W.Frag) (C:Addr):Prop where
 pg:W.plainGet K C Str.empty=true
 hd:W.hasDictIn K C=true
 po:W.plainOver K C=true
 sa:W.findIn K (.ref C) "__setattr__"=some (some (.builtin "object.__setattr__"))
theorem Cls.get {K:W.Frag}{C:Addr} (c:Cls K C) (f:Str):W.plainGet K C f=true:=c.pg
section
variable {X:Cx}{pins:List (Addr×Obj)}{σ:St}{H:Hp}{s:Shared}{a C dx:Addr}{fs:List (Str×V)}{f:Str}{v:V}{A:Around}{E:Value->Shared->Prop}
end
section
variable {X:Cx}{o e value:Expr}{f:Str}{pos pos' tpos:Pos}{ta tv:TE}
end
section
variable {X:Cx}{pins:List (Addr×Obj)}{σ:St}{H:Hp}{s:Shared}{A:Around}{E:Value->Shared->Prop}{Q:Value->Shared->Prop}{c:Value}{b:Bool}
inductive TyOf (K:W.Frag) (H:Hp):V->Value->Prop where
 |non:TyOf K H .non (.type "NoneType")
 |bl (x:Bool):TyOf K H (.bl x) (.type "bool")
 |int (i:Int):TyOf K H (.int i) (.type "int")
 |str (x:Str):TyOf K H (.str x) (.type "str")
 |flt (x:UInt64):TyOf K H (.flt x) (.type "float")
 |lst {a:Addr}{xs:List V} (e:H a=some (.lst xs)):TyOf K H (.ref a) (.type "list")
 |frz {a:Addr}{o:Obj}{xs:List V} (e:H a=some (.frz o (.lst xs))):TyOf K H (.ref a) (.type "list")
 |tup {a:Addr}{xs:List V} (e:H a=some (.tup xs)):TyOf K H (.ref a) (.type "tuple")
 |dK {a:Addr}{kvs:List (Key×V)} (e:H a=some (.dK kvs)):TyOf K H (.ref a) (.type "dict")
 |dT {a:Addr}{kvs:List (List Key×V)} (e:H a=some (.dT kvs)):TyOf K H (.ref a) (.type "dict")
 |ins {a C dx:Addr}{fs:List (Str×V)} (e:H a=some (.ins C dx fs)) (cl:Cls K C) (ha:W.findIn K (.ref C) "__class__"=some (some (.builtin "object.__class__")))
   (hn:W.specialIn K (.builtin "object.__class__") "__get__"=some (some (.builtin "getset_descriptor.__get__"))) (htk:W.takesIn K (.builtin "object.__class__")=some true)
   (hm:W.mroIn K C (.type "object")=some true):TyOf K H (.ref a) (.ref C)
theorem mD_ {x:V}{u t:Value} (I:Inv X pins σ H s) (rx:aV_ x u) (ty:TyOf X.K H x t) (e:W.kitOne X.K t c=some b) (h:∀tk,Q (.bool b) {s with toks:=tk}):
  wpAny (model X.prog X.w) A (call (.builtin "isinstance") [u,c]) Q E s:=by
 cases ty with
 |non=>cases (show u=Value.none from rx);exact BN W.kitx_none I.kIn True.intro e (fun z=>nomatch z) h
 |bl y=>cases (show u=Value.bool y from rx);exact BN W.kitx_bool I.kIn True.intro e (fun z=>nomatch z) h
 |int i=>obtain⟨t,q⟩:=(show∃t,u=Value.int i t from rx);cases q;exact BN W.kitx_int I.kIn True.intro e (fun z=>nomatch z) h
 |str y=>obtain⟨t,q⟩:=(show∃t,u=Value.str y t from rx);cases q;exact BN W.kitx_str I.kIn True.intro e (fun z=>nomatch z) h
 |flt y=>obtain⟨t,q⟩:=(show∃t,u=Value.float y t from rx);cases q;exact BN W.kitx_float I.kIn True.intro e (fun z=>nomatch z) h
 | @lst a xs ea=>
  cases (show u=Value.ref a from rx);obtain⟨_,_,n,_,h1⟩:=(show aH_ X.prog X.w H s.heap a (.lst xs) from I.hok a _ ea);exact BN W.kitx_list I.kIn ⟨_,h1,rfl⟩ e (fun z=>nomatch z) h
 | @frz a ob xs ea=>
  cases (show u=Value.ref a from rx);obtain⟨_,_,_,n,_,h1⟩:=(show aH_ X.prog X.w H s.heap a (.frz ob (.lst xs)) from I.hok a _ ea);exact BN W.kitx_list I.kIn ⟨_,h1,rfl⟩ e (fun z=>nomatch z) h
 | @tup a xs ea=>
  cases (show u=Value.ref a from rx);obtain⟨_,_,_,p⟩:=(show aH_ X.prog X.w H s.heap a (.tup xs) from I.hok a _ ea);obtain⟨o,h1,h2,_⟩:=p;exact BN W.kitx_tuple I.kIn ⟨o,h1,h2⟩ e (fun z=>nomatch z) h
 | @dK a kvs ea=>
  cases (show u=Value.ref a from rx);obtain⟨_,_,vs,_,p⟩:=(show aH_ X.prog X.w H s.heap a (.dK kvs) from I.hok a _ ea);obtain⟨o,es,ep,h1,h2,_⟩:=p;exact BN W.kitx_dict I.kIn ⟨o,h1,h2.1⟩ e (fun z=>nomatch z) h
 | @dT a kvs ea=>
  cases (show u=Value.ref a from rx);obtain⟨_,_,xs,_,o,es,ep,h1,h2,_⟩:=(show aH_ X.prog X.w H s.heap a (.dT kvs) from I.hok a _ ea);exact BN W.kitx_dict I.kIn ⟨o,h1,h2.1⟩ e (fun z=>nomatch z) h
 | @ins a C dx fs ea cl ha hn htk hm=>
  cases (show u=Value.ref a from rx);obtain⟨mA,O,_⟩:=qO_ I.hok ea;obtain⟨od,J,_⟩:=O.look;exact BN (W.kitx_own (cl.get _) cl.hd ha hn htk hm) I.kIn J e (fun z=>nomatch z) h
end
end L2
namespace L2
open PySem PySem.Spec PyProof.Rows
structure Room (k:Nat) (A:Around):Prop where
 hd:A.handled=none
 dp:A.depth+3*k+5<recursionLimit
 un:A.units+16*k+200<cLine
theorem Room.mono {j k:Nat}{A:Around} (r:Room k A) (h:j<=k):Room j A:=⟨r.hd,by have:=r.dp;lia,by have:=r.un;lia⟩
theorem Room.deeper {k:Nat}{A:Around} (r:Room (k+1) A) (env:Env):Room k (A.deeper env):=
 ⟨r.hd,by have:=r.dp;show A.depth+1+3*k+5<_;lia,by have:=r.un;show A.units+3+16*k+200<_;lia⟩
theorem Room.depth {k:Nat}{A:Around} (r:Room k A):A.depth<recursionLimit:=by have:=r.dp;lia
theorem Room.units {k:Nat}{A:Around} (r:Room k A):A.units+64<cLine:=by have:=r.un;lia
noncomputable def nw_:TA:=fun _ H Q=>Q [] H
noncomputable def db_ (ta:TE) (tr:TA):TA:=fun σ H Q=>ta σ H fun x H1=>tr σ H1 fun xs H2=>Q (x::xs) H2
section
variable {X:Cx}{e:Expr}{es:List Expr}{te:TE}{t:TA}{pos:Pos}
theorem ab_:PA X [] nw_:=fun _ _ _ _ H Q I h=>Calls.spliced_nil ⟨[],H,I, .nil,h⟩
theorem aa_ (ha:PE X e te) (hr:PA X es t) (hs:starEach (e::es) X.env=(false,eval e X.env)::starEach es X.env:=by rfl):PA X (e::es) (db_ te t):=by
 intro pos pins s σ H Q I h;rw [hs];show wpAny _ _ (spliced ((false,eval e X.env)::backTo pos (starEach es X.env))) _ _ s;refine Ca (thn (ha pins s σ H _ I h) fun u s1 ⟨x,H1,I1,r1,q1⟩=> ?_);exact thn (hr pos pins s1 σ H1 _ I1 q1) fun us s2 ⟨xs,H2,I2,r2,q2⟩=>⟨x::xs,H2,I2, .cons r1 r2,q2⟩
noncomputable def u6_ (t:TA):TE:=fun σ H Q=>t σ H fun xs H1=>xs.length<=sizeLine/\∀p,H1 p=none->Q (.ref p) (upd H1 p (.tup xs))
noncomputable def vb_ (t:TA):TE:=fun σ H Q=>t σ H fun xs H1=>xs.length<=sizeLine/\∀p,H1 p=none->Q (.ref p) (upd H1 p (.lst xs))
theorem lN_ {x1} (h:PA X es t):PE X (.Tuple es x1 pos) (u6_ t):=by
 intro pins s σ H Q I hq;refine wpAny_Tuple_spliced (thn (h pos pins s σ H _ I hq) fun us s1 ⟨xs,H1,I1,r,z,q⟩=>⟨by rw [<-r.length];exact z, ?_⟩);have hf:H1 s1.heap.objs.size=none:=I1.hok.fresh (A8 _);refine⟨.ref s1.heap.objs.size,upd H1 s1.heap.objs.size (.tup xs),I1.laid (t':=s1.toks) (fun b u e=>A9 _ e) (A8 _) ?_,rfl,q _ hf⟩;exact⟨z,us,r,⟨_,AL _ rfl,rfl,_,rfl⟩⟩
theorem ej_ (h:PA X es t):PE X (.List es pos) (vb_ t):=by
 intro pins s σ H Q I hq;refine wpAny_List_spliced (thn (h pos pins s σ H _ I hq) fun us s1 ⟨xs,H1,I1,r,z,q⟩=>⟨by rw [<-r.length];exact z, ?_⟩);have hf:H1 s1.heap.objs.size=none:=I1.hok.fresh (A8 _);refine⟨.ref s1.heap.objs.size,upd H1 s1.heap.objs.size (.lst xs),I1.laid (t':=s1.toks) (fun b u e=>A9 _ e) (A8 _) ?_,rfl,q _ hf⟩;exact⟨z,us,0,r,AL _ rfl⟩
end
noncomputable abbrev Sp:=List V->Hp->VK->XK->Prop
noncomputable abbrev CXT:=List Env->Hp->Shared->XK->Value->Shared->Prop
structure Env0 (P:Program) (w:World) (K:W.Frag) (mg:Str->Option Value) (base:Heap) (A:Around) (outer:List Env) (s:Shared) (H:Hp):Prop where
 frames:A.frames=some outer
 mod:Mod K mg base
 bs:∀b o,base.get? b=some o->s.heap.get? b=some o/\H b=none
 bsz:base.objs.size<=s.heap.objs.size
 funs:s.heap.FunFrames base outer
 frf:∀b∈frs outer,H b=none
 hok:HOk P w H s.heap
 bare:AllBare s.gens
noncomputable def CE (outer:List Env) (P:Program) (w:World) (H:Hp) (s:Shared) (Q:VK) (u:Value) (s':Shared):Prop:=
 ∃v H',s'.os=s.os/\AllBare s'.gens/\Un (frs outer) [] H H' s.heap s'.heap/\HOk P w H' s'.heap/\aV_ v u/\Q v H'
noncomputable def CR (CX:CXT) (outer:List Env) (P:Program) (w:World) (H:Hp) (s:Shared) (Q:VK) (E:XK) (r:Result) (s':Shared):Prop:=
 match r with
 | .ok (.ret u)=>CE outer P w H s Q u s'
 | .ok _=>False
 | .error e=>CX outer H s E e s'
structure FnOk (P:Program) (w:World) (K:W.Frag) (mg:Str->Option Value) (base:Heap) (CX:CXT) (k:Nat) (f:Addr) (fd:FuncData) (ps:List Str) (sp:Sp):Prop where
 len:∀vs H Q E,sp vs H Q E->vs.length=ps.length
 run:∀(A:Around) (outer:List Env) (s:Shared) (H:Hp) (args:Args) (us:List Value) (vs:List V) (Q:VK) (E:XK),Room k A->Env0 P w K mg base A outer s H->BindsTo s fd args (ps.zip us)->aR_ vs us->sp vs H Q E->
  codeAny (model P w) A (.call (.ref f) args) (CR CX outer P w H s Q E) s
theorem FnOk.imp {P:Program}{w:World}{K:W.Frag}{mg:Str->Option Value}{base:Heap}{CX:CXT}{k:Nat}{f:Addr}{fd:FuncData}{ps:List Str}{sp sp':Sp} (F:FnOk P w K mg base CX k f fd ps sp)
  (h:∀vs H Q E,sp' vs H Q E->sp vs H Q E):FnOk P w K mg base CX k f fd ps sp':=
 ⟨fun vs H Q E q=>F.len vs H Q E (h _ _ _ _ q),fun A outer s H args us vs Q E hr he hb hv hs=>F.run A outer s H args us vs Q E hr he hb hv (h _ _ _ _ hs)⟩
section
variable {X:Cx}{pins:List (Addr×Obj)}{σ:St}{H:Hp}{s s':Shared}
theorem Inv.env0 (I:Inv X pins σ H s):Env0 X.prog X.w X.K X.mg X.base X.A X.stack s H:=
 ⟨I.ok.frames,I.ok.mod,I.bs,BO I.ok.bsz I.sz,I.stack,I.stkFree,I.hok,I.bare⟩
theorem Inv.after {Q:VK}{u:Value} (I:Inv X pins σ H s) (h:CE X.stack X.prog X.w H s Q u s'):EP X pins σ Q u s':=by
 obtain⟨v,H',os,bare,un,hok,r,q⟩:=h;obtain⟨hh,g,d,t,os'⟩:=s';obtain rfl:os'=s.os:=os;exact⟨v,H',I.call (h':=hh) (g':=g) (d':=d) (t':=t) (ch:=[]) un hok bare (fun b z=>absurd z (by simp)),r,q⟩
end
noncomputable def pR_ (sp:Sp) (dvs:List V) (E:XK) (t:TA):TE:=fun σ H Q=>t σ H fun vs H1=>sp (vs++dvs) H1 Q E
noncomputable def ic_ (K:W.Frag) (fd:FuncData) (ps:List Str) (ds:List Value):Prop:=
 ∀(s:Shared) (us:List Value),K.In s.heap->(us++ds).length=ps.length->BindsTo s fd ⟨us,[]⟩ (ps.zip (us++ds))
theorem ic_.all {K:W.Frag}{fd:FuncData}{ps:List Str} (h:∀us:List Value,us.length=ps.length->bindArgs fd ⟨us,[]⟩=pure (ps.zip us)):ic_ K fd ps []:=fun s us _ hl=>by
 rw [Bs] at hl⊢;exact .of_eq (h us hl)
noncomputable def fc_ (CX:CXT) (X:Cx) (E:XK):Prop:=∀(pins:List (Addr×Obj)) (σ:St) (H:Hp) (s:Shared) (e:Value) (s':Shared),Inv X pins σ H s->CX X.stack H s E e s'->X.xe e s'
section
variable {X:Cx}{CX:CXT}{k:Nat}{f C:Addr}{fd:FuncData}{ps:List Str}{sp:Sp}{dvs:List V}{ds:List Value}{E:XK}{x m:Str}{p pos apos:Pos}{e o:Expr}{es:List Expr}{ta:TE}{t:TA}
theorem o2_ {pins:List (Addr×Obj)}{σ:St}{H:Hp}{s:Shared}{Q:VK}{us:List Value}{vs:List V} (F:FnOk X.prog X.w X.K X.mg X.base CX k f fd ps sp) (hr:Room k X.A) (hb:ic_ X.K fd ps ds) (hd:aR_ dvs ds) (hx:fc_ CX X E)
  (I:Inv X pins σ H s) (r:aR_ vs us) (h:sp (vs++dvs) H Q E):wpAny (model X.prog X.w) X.A (call (.ref f) us) (EP X pins σ Q) X.xe s:=by
 have r2:aR_ (vs++dvs) (us++ds):=r.append hd;have hl:(us++ds).length=ps.length:=by rw [<-r2.length];exact F.len _ _ _ _ h
 refine wpAny_call (Ce (F.run X.A X.stack s H ⟨us,[]⟩ (us++ds) (vs++dvs) Q E hr I.env0 (hb s us I.kIn hl) r2 h) fun r s' hq=> ?_);cases r with
 |error e=>exact hx pins σ H s e s' I hq
 |ok fl=>
  cases fl with
  |ret u=>exact I.after hq
  |next=>exact False.elim hq
  |brk=>exact False.elim hq
  |cont=>exact False.elim hq
theorem ah_ (F:FnOk X.prog X.w X.K X.mg X.base CX k f fd ps sp) (hr:Room k X.A) (hg:Gl X x) (hm:X.mg x=some (.ref f)) (hk:W.keepIn X.K (.ref f)=true) (hb:ic_ X.K fd ps ds) (hd:aR_ dvs ds) (hx:fc_ CX X E)
  (ha:PA X (e::es) t) (hdb:(x==("__debug__":Str))=false:=by decide) (he:starEach (e::es) X.env=(false,eval e X.env)::starEach es X.env:=by rfl) (hpl:(backTo pos (starEach es X.env)).any (·.1)=false:=by rfl):
  PE X (.Call (.Name x p) (e::es) [] pos) (pR_ sp dvs E t):=by
 intro pins s σ H Q I h;refine BU (eb_ I hg hm ?_ hdb);refine W.callWith_K (h₀:=X.base) I.ok.mod.kin hk (thn (ha pos pins s σ H _ I h) fun us s1 ⟨vs,H1,I1,r,q⟩=>⟨I1.kIn, ?_⟩) he hpl;exact o2_ F hr hb hd hx I1 r q
theorem n3_ (F:FnOk X.prog X.w X.K X.mg X.base CX k f fd ps sp) (hr:Room k X.A) (hg:Gl X x) (hm:X.mg x=some (.ref f)) (hk:W.keepIn X.K (.ref f)=true) (hb:ic_ X.K fd ps ds) (hd:aR_ dvs ds) (hx:fc_ CX X E)
  (hdb:(x==("__debug__":Str))=false:=by decide):PE X (.Call (.Name x p) [] [] pos) (pR_ sp dvs E nw_):=by
 intro pins s σ H Q I h;refine BU (eb_ I hg hm ?_ hdb);exact W.callWith_K0 I.kIn hk (o2_ (us:=[]) F hr hb hd hx I .nil h)
end
section
variable {X:Cx}{CX:CXT}{k:Nat}{f C:Addr}{fd:FuncData}{ps ks:List Str}{sp:Sp}{E:XK}{x m:Str}{p pos apos kpos:Pos}{e o:Expr}{es:List Expr}{kws:List Keyword}{te ta:TE}{t tk:TA}{nm:Option Str}
variable {g:List Value->List Value->List Value}{gV:List V->List V->List V}
end
structure FnScope (N P:List Str) (sc:Scope):Prop where
 kind:sc.kind= .function
 co:sc.isCoroutine=false
 gen:sc.isGenerator=false
 nd:N.Nodup
 pre:N.take P.length=P
 par:∀x∈P,sc.names.lookup x=some .local\/sc.names.lookup x=some .cell
 nofree:∀y∈sc.names,y.2≠ .free
theorem h4_ {kindOf:Str->Option NameKind}{x:Str}:∀{binds:List (Str×Value)}{m:Str->Option Value},(∀v,(x,v)∉binds)->bindL kindOf binds m x=m x
 |[],_,_=>rfl
 |(n,v)::r,m,h=>by
  unfold bindL;rw [h4_ fun w hw=>h w (AM _ hw)];split
  .have:x≠n:=by rintro rfl;exact h v AI
   simp [this]
  .rfl
theorem h6_ {kindOf:Str->Option NameKind}{x:Str}:∀{binds:List (Str×Value)}{m:Str->Option Value},(∀v,(x,v)∉binds)->bindC kindOf binds m x=m x
 |[],_,_=>rfl
 |(n,v)::r,m,h=>by
  unfold bindC;rw [h6_ fun w hw=>h w (AM _ hw)];split
  .rfl
  .have:x≠n:=by rintro rfl;exact h v AI
   simp [this]
theorem h5_ {kindOf:Str->Option NameKind}{x:Str}{v:Value}:∀{P:List Str}{vs:List Value}{i:Nat}{m:Str->Option Value},P.Nodup->P[i]? =some x->vs[i]? =some v->kindOf x=some .local->
  bindL kindOf (P.zip vs) m x=some v
 |[],_,_,_,_,h,_,_=>by simp at h
 |_::_,[],_,_,_,_,h,_=>by simp at h
 |p::P,w::vs,0,m,nd,h1,h2,hk=>by
  simp at h1 h2;subst h1;subst h2;show bindL kindOf ((p,w)::P.zip vs) m p=_;unfold bindL;rw [h4_ fun v hv=>(BY.mp nd).1 (List.of_mem_zip hv).1,A6 hk];simp
 |p::P,w::vs,i+1,m,nd,h1,h2,hk=>by
  show bindL kindOf ((p,w)::P.zip vs) m x=_;unfold bindL;exact h5_ (i:=i) (BY.mp nd).2 (by simpa using h1) (by simpa using h2) hk
theorem h7_ {kindOf:Str->Option NameKind}{x:Str}{v:Value}:∀{P:List Str}{vs:List Value}{i:Nat}{m:Str->Option Value},P.Nodup->P[i]? =some x->vs[i]? =some v->kindOf x≠some .local->
  bindC kindOf (P.zip vs) m x=some v
 |[],_,_,_,_,h,_,_=>by simp at h
 |_::_,[],_,_,_,_,h,_=>by simp at h
 |p::P,w::vs,0,m,nd,h1,h2,hk=>by
  simp at h1 h2;subst h1;subst h2;show bindC kindOf ((p,w)::P.zip vs) m p=_;unfold bindC;rw [h6_ fun v hv=>(BY.mp nd).1 (List.of_mem_zip hv).1,A5 hk];simp
 |p::P,w::vs,i+1,m,nd,h1,h2,hk=>by
  show bindC kindOf ((p,w)::P.zip vs) m x=_;unfold bindC;exact h7_ (i:=i) (BY.mp nd).2 (by simpa using h1) (by simpa using h2) hk
noncomputable def start (N:List Str) (vs:List V):St:=vs.map some++List.replicate (N.length-vs.length) none
noncomputable def kU_ (CX:CXT) (P:Program) (w:World) (K:W.Frag) (mg:Str->Option Value) (base:Heap) (N:List Str) (qual:Str) (scope:Scope) (f:Addr) (cd:Value) (A:Around) (outer:List Env) (s:Shared) (H:Hp) (E:XK):Cx where
 prog:=P
 w:=w
 K:=K
 mg:=mg
 base:=base
 A:=A.deeper (envOfC qual scope s.heap.objs.size f cd)
 N:=N
 s₀:=s
 H₀:=H
 env:=envOfC qual scope s.heap.objs.size f cd
 outer:=outer
 stack:=envOfC qual scope s.heap.objs.size f cd::outer
 ex:=[]
 calm:=true
 fn:=fun _=>true
 pn:=[]
 xe:=fun e s'=>wpAny (model P w) (A.deeper (envOfC qual scope s.heap.objs.size f cd)) (leaving (envOfC qual scope s.heap.objs.size f cd) e) (fun _ s''=>CX outer H s E e s'') (fun e' s''=>CX outer H s E e' s'') s'
theorem km_ {sc:Scope}{n:Nat}{x:Str} (h:sc.names.lookup x=some .cell):∃c,(cellsFrom n sc.names []).lookup x=some c:=by
 have q:=W.cellsFrom_some sc.names n [] (.inl h);exact Option.isSome_iff_exists.mp q
theorem mF_ {CX:CXT}{P:Program}{w:World}{K:W.Frag}{mg:Str->Option Value}{base:Heap}{N ps:List Str}{qual:Str}{scope:Scope}{f:Addr}{cd:Value}{A:Around}{outer:List Env}{s s1:Shared}{H:Hp}{E:XK}{us:List Value}{vs:List V}
  (S:FnScope N ps scope) (hd:A.handled=none) (e0:Env0 P w K mg base A outer s H) (hl:vs.length=ps.length) (r:aR_ vs us)
  (x:InCallC s s.heap.objs.size (bindL (envOfC qual scope s.heap.objs.size f cd).kindOf (ps.zip us) fun _=>none) (cellsFrom (s.heap.objs.size+1) scope.names []) (bindC (envOfC qual scope s.heap.objs.size f cd).kindOf (ps.zip us) fun _=>none) s1):
  Inv (kU_ CX P w K mg base N qual scope f cd A outer s H E) [] (start N vs) H s1:=by
 have hpl:ps.length<=N.length:=by have:=Bg List.length S.pre;rw [Am] at this;lia
 obtain⟨h1,tk,rfl,hk⟩:=x.done;have noA:∀b:Addr,b∉(kU_ CX P w K mg base N qual scope f cd A outer s H E).ex:=fun b z=>absurd (show b∈([]:List Addr) from z) (by simp);refine⟨⟨e0.mod,S.kind,rfl,rfl,A8 _,fun y z c h1 h2=> ?_,fun y hy=> ?_,fun y c _ h=> ?_,fun _=>hd,Around.frames_deeper e0.frames, .inr ⟨rfl,rfl⟩,fun b z=>absurd z (noA b),e0.bs,e0.bsz,fun b _ _=>noA b,fun b z=>absurd z (noA b),e0.funs,e0.frf⟩,
  rfl,e0.bare,Un.kept hk,⟨_,x.toInCall.ns,fun i y v h1 h2 h3=> ?_⟩,fun y c h=>⟨_,x.cell y c h⟩,e0.hok.fresh (A8 _),fun y c h=> ?_,fun p hp=>absurd (show p∈([]:List (Addr×Obj)) from hp) (by simp),e0.hok.kept hk, ?_⟩
 .exact name_of_addr x.apart (Bh h1) (Bh h2)
 .have hy:scope.names.lookup y=some .cell\/scope.names.lookup y=some .free:=hy;rcases hy with hy|hy
  .exact km_ hy
  .exact absurd rfl (S.nofree _ (Bh hy))
 .exact AW (x.above y c (Bh h))
 .have hi:i<vs.length:=by
   unfold start at h2;by_cases hi:i<vs.length
   .exact hi
   .rw [BF (by simpa using hi)] at h2;rw [List.getElem?_replicate] at h2;split at h2<;>cases h2
  have ha:vs[i]? =some v:=by
   unfold start at h2;rw [BJ (by simpa using hi),A7] at h2;cases e:vs[i]? with
   |none=>rw [e] at h2;cases h2
   |some a=>rw [e] at h2;cases h2;rfl
  obtain⟨u,hu,rv⟩:=r.get ha;have hp:ps[i]? =some y:=by
   rw [<-S.pre,List.getElem?_take_of_lt (by lia)];exact h1
  have ndP:ps.Nodup:=by rw [<-S.pre];exact S.nd.sublist (List.take_sublist _ _)
  refine⟨u,rv, ?_⟩;rcases S.par y (Aq hp) with k|k
  .exact .inl ⟨k,h5_ ndP hp hu k⟩
  .obtain⟨c,e⟩:=km_ (n:=s.heap.objs.size+1) k;refine .inr ⟨.inl k,c,e, ?_⟩;have q:=x.cell y c e;rw [h7_ ndP hp hu (by show scope.names.lookup y≠_;rw [k];decide)] at q;exact q
 .exact e0.hok.fresh (AW (x.above y c (Bh h)))
 .unfold start;show _=N.length;rw [AF,A2,B6];lia
theorem sJ_ {CX:CXT}{P:Program}{w:World}{K:W.Frag}{mg:Str->Option Value}{base:Heap}{k:Nat}{f:Addr}{name qual:Str}{params:Arguments}{body:List Stmt}{scope:Scope}{dV kV doc pm cdv ct oc:Value}{an od:Option Addr}
  {osl:Array (Option Value)}{N ps:List Str}{sp:Sp} (lk:K.lookup f=some ⟨oc,od, .func (W.fnOf name qual params body scope dV kV doc pm an cdv ct),osl⟩) (hcd:W.codeIn K cdv qual=true) (S:FnScope N ps scope)
  (len:∀vs H Q E,sp vs H Q E->vs.length=ps.length)
  (hbody:∀(A:Around) (outer:List Env) (s:Shared) (H:Hp) (vs:List V) (Q:VK) (E:XK),Room k (A.deeper (envOfC qual scope s.heap.objs.size f cdv))->sp vs H Q E->
   ∃t,PSs (kU_ CX P w K mg base N qual scope f cdv A outer s H E) body t/\t {nx:=fun _ H'=>Q .non H',rt:=Q} (start N vs) H):
  FnOk P w K mg base CX (k+1) f (W.fnOf name qual params body scope dV kV doc pm an cdv ct) ps sp:=by
 refine⟨len,fun A outer s H args us vs Q E hr e0 hb r hsp=> ?_⟩;have hl:=len _ _ _ _ hsp;have KX:K.In s.heap:=e0.mod.kin.keeps fun b o e=>(e0.bs b o e).1;have lim:s.heap.NoLimit:=e0.mod.nolimit.keeps fun b o e=>(e0.bs b o e).1;have hkind:∀y∈ps.zip us,scope.names.lookup y.1=some .local\/(scope.names.lookup y.1=some .cell/\((cellsFrom (s.heap.objs.size+1) scope.names []).lookup y.1).isSome=true):=fun⟨n,v⟩ hy=>by
  rcases S.par n (List.of_mem_zip hy).1 with q|q
  .exact .inl q
  .exact .inr ⟨q,W.cellsFrom_some _ _ _ (.inl q)⟩
 refine codeAny_call_function hr.depth (KX _ _ lk) rfl S.co S.gen rfl (W.codeRec_of KX hcd) (hb _ _ _ _ ?_);refine wpAny_newFunctionEnv_cells S.kind hkind fun env he s1 x=> ?_;subst he;refine⟨lim.keeps x.toInCall.keep,codeAny_func ?_⟩;obtain⟨t,ht,hq⟩:=hbody A outer s H vs Q E (hr.deeper _) hsp;have I:Inv (kU_ CX P w K mg base N qual scope f cdv A outer s H E) [] (start N vs) H s1:=mF_ S hr.hd e0 hl r x;refine BC (ht [] s1 (start N vs) H _ I hq) (fun fl s' hs=> ?_) fun e s' hs=>hs;have fin:∀{σ':St}{H':Hp}{v:V}{u:Value},Inv (kU_ CX P w K mg base N qual scope f cdv A outer s H E) [] σ' H' s'->aV_ v u->Q v H'->CE outer P w H s Q u s':=
  fun{σ' H' v u} J rv q=>⟨v,H',J.os,J.bare,J.base,J.hok,rv,q⟩
 cases fl with
 |ret u=>
  obtain⟨v,σ',H',J,rv,q⟩:=hs;exact fin J rv q
 |next=>
  obtain⟨σ',H',J,q⟩:=hs;exact fin (v:=V.non) (u:=Value.none) J rfl q
 |brk=>
  obtain⟨_,_,_,q⟩:=hs;exact False.elim q
 |cont=>
  obtain⟨_,_,_,q⟩:=hs;exact False.elim q
end L2
namespace L2
open PySem PySem.Spec PyProof.Rows
section
variable {X:Cx}{x:Str}{p pos:Pos}{e:Expr}{es:List Expr}{t:TA}{id T:String}{r:List V->Hp->VK->Prop}
noncomputable def tCB (r:List V->Hp->VK->Prop) (t:TA):TE:=fun σ H Q=>t σ H fun vs H1=>r vs H1 Q
theorem aC_ (hc:cx_ X (.builtin id) r) (hg:Gl X x) (hm:X.mg x=none) (hv:bootBuiltins x=some (.builtin id)) (ha:PA X (e::es) t) (hn:x≠"__name__":=by decide) (hdb:(x==("__debug__":Str))=false:=by decide)
  (he:starEach (e::es) X.env=(false,eval e X.env)::starEach es X.env:=by rfl) (hpl:(backTo pos (starEach es X.env)).any (·.1)=false:=by rfl):PE X (.Call (.Name x p) (e::es) [] pos) (tCB r t):=by
 intro pins s σ H Q I h;refine BU (dm_ I hg hm hv ?_ hn hdb);exact Cb (thn (ha pos pins s σ H _ I h) fun us s1 ⟨vs,H1,I1,r1,q1⟩=>hc pins s1 σ H1 vs us Q I1 r1 q1) he hpl
theorem cs_ (hc:cx_ X (.type T) r) (hg:Gl X x) (hm:X.mg x=none) (hv:bootBuiltins x=some (.type T)) (ha:PA X (e::es) t) (hn:x≠"__name__":=by decide) (hdb:(x==("__debug__":Str))=false:=by decide)
  (he:starEach (e::es) X.env=(false,eval e X.env)::starEach es X.env:=by rfl) (hpl:(backTo pos (starEach es X.env)).any (·.1)=false:=by rfl):PE X (.Call (.Name x p) (e::es) [] pos) (tCB r t):=by
 intro pins s σ H Q I h;refine BU (dm_ I hg hm hv ?_ hn hdb);exact BS (thn (ha pos pins s σ H _ I h) fun us s1 ⟨vs,H1,I1,r1,q1⟩=>hc pins s1 σ H1 vs us Q I1 r1 q1) he hpl
end
end L2
namespace HT
open PySem PyProof.Rows
section
open PySem.SeqAt
open PySem.AutoSeq1 (wpAny_loadPart')
open PySem.MeetsSeq PySem.MeetsSeq2 PySem.MeetsSeq3
end
section
variable {prog:Program}{w:World}{A:Around}{E:Value->Shared->Prop}{s:Shared}
theorem cat_tup {t b:Addr}{vs ws:List Value}{Q:Value->Shared->Prop} (ht:IsTup s.heap t vs.toArray) (hb:IsTup s.heap b ws.toArray) (hv:vs≠[])
  (h1:ws=[]->Q (.ref t) s) (h2:ws≠[]->Q (.ref s.heap.objs.size) {s with heap:=s.heap.push {cls:= .type "tuple",data:= .seq (vs++ws).toArray}})
  (hsz:vs.length+ws.length<=sizeLine):wpAny (model prog w) A (binaryOp .Add (.ref t) (.ref b)) Q E s:=by
 obtain⟨⟨cls,dd,data,sl⟩,ho,hc,n,hd⟩:=id ht;obtain⟨⟨cls2,dd2,data2,sl2⟩,ho2,hc2,n2,hd2⟩:=id hb;simp only at hc hd hc2 hd2;subst hc hd hc2 hd2;have e:vs.toArray++ws.toArray=(vs++ws).toArray:=by simp
 by_cases hw:ws=[]
 .exact concat_meets ⟨_,ho,rfl⟩ ⟨_,ho2,rfl⟩ noFill_tuple_add seq_tuple_add PySem.F.slot_tuple_add PySem.F.entry_tuple_add (PySem.F.args_tuple_add_2 _ _)
   (tuple_addW1 t b vs.toArray ws.toArray n n2 dd dd2 sl sl2 (by simpa using hv) (by simp [hw])) ⟨ho,ho2,h1 hw⟩
 .refine concat_meets ⟨_,ho,rfl⟩ ⟨_,ho2,rfl⟩ noFill_tuple_add seq_tuple_add PySem.F.slot_tuple_add PySem.F.entry_tuple_add (PySem.F.args_tuple_add_2 _ _)
   (tuple_addW2 t b vs.toArray ws.toArray n n2 dd dd2 sl sl2 (by simpa using hv) (by simpa using hw) (by rw [AD,AD];exact hsz)) ⟨ho,ho2, ?_⟩
  rw [e];exact h2 hw
noncomputable def sIx (n d:Nat):Option Int->Nat
 |none=>d
 |some v=>if v<0 then(v+(n:Int)).toNat else min v.toNat n
theorem sIx_none (n d:Nat):sIx n d none=d:=rfl
theorem sIx_nat (n d k:Nat):sIx n d (some (k:Int))=min k n:=by
 show(if(k:Int)<0 then((k:Int)+(n:Int)).toNat else min (k:Int).toNat n)=min k n;rw [A5 (by lia),Ab]
theorem r0_ (n d:Nat) (hd:d<=n) (o:Option Int):sIx n d o<=n:=by
 cases o with
 |none=>exact hd
 |some v=>
  show(if v<0 then(v+(n:Int)).toNat else min v.toNat n)<=n;by_cases hv:v<0
  .rw [A6 hv];lia
  .rw [A5 hv];exact Nat.min_le_right _ _
theorem m1_ (v:Int) (n d:Nat):(if v<0 then max (v+(n:Int)) 0 else min v (n:Int))=((sIx n d (some v):Nat):Int):=by
 show(if v<0 then max (v+(n:Int)) 0 else min v (n:Int))=(((if v<0 then(v+(n:Int)).toNat else min v.toNat n):Nat):Int);by_cases hv:v<0
 .simp only [A6 hv];lia
 .simp only [A5 hv];lia
theorem kS_ (lo hi:Option Int) (n:Nat):Builtin.Slice.sliceAdjust lo hi 1 (n:Int)=(((sIx n 0 lo:Nat):Int),((sIx n n hi:Nat):Int)):=by
 have h1:¬((1:Int)<0):=by lia
 unfold Builtin.Slice.sliceAdjust;simp only [h1,Ak];refine Prod.ext ?_ ?_
 .cases lo with
  |none=>rfl
  |some v=>exact m1_ v n 0
 .cases hi with
  |none=>rfl
  |some v=>exact m1_ v n n
theorem kG_ (i j:Nat):Builtin.Slice.slicePlaces (i:Int) (j:Int) 1=j-i:=by
 unfold Builtin.Slice.slicePlaces;have h1:(1:Int)>0:=by lia
 simp only [h1,Bx,Int.ediv_one];split<;>lia
theorem fr_ {v:Value}{o:Option Int}{Q:Option Int->Shared->Prop} (p:IsPart v o) (h:Q o s):wpAny (model prog w) A (Builtin.Slice.slicePartIndex v) Q E s:=by
 cases p with
 |none=>exact slicePart_none h
 |int i t=>exact slicePart_int h
theorem cL_ {sl:Addr}{vl vu:Value}{lo hi:Option Int}{n:Nat}{Q:Int×Int×Nat->Shared->Prop} (hs:s.heap.IsSliceOf sl vl vu .none) (pl:IsPart vl lo) (pu:IsPart vu hi)
  (h:Q (((sIx n 0 lo:Nat):Int),1,sIx n n hi-sIx n 0 lo) s):wpAny (model prog w) A (Builtin.Slice.sliceApplied (.ref sl) (pure (n:Int))) Q E s:=by
 obtain⟨os,hos,hcs,hds⟩:=id hs;unfold Builtin.Slice.sliceApplied Builtin.Slice.sliceFields;refine A0 (A0 (wpAny_field hos hds (x:=vl) rfl (A0 (wpAny_field hos hds (x:=vu) rfl (A0 (wpAny_field hos hds (x:= .none) rfl (A3 ?_)))))));refine A0 (slicePart_none ?_);show wpAny _ _ (if((1:Int)==0)=true then _ else _) _ _ s;rw [A5 (by decide)];refine A0 (fr_ pl (A0 (fr_ pu (A0 (A3 ?_)))));show wpAny _ _ (match Builtin.Slice.sliceAdjust lo hi 1 (n:Int) with|(lo,hi)=>pure (lo,(1:Int),Builtin.Slice.slicePlaces lo hi 1)) _ _ s;rw [kS_ lo hi n];show wpAny _ _ (pure (((sIx n 0 lo:Nat):Int),(1:Int),Builtin.Slice.slicePlaces ((sIx n 0 lo:Nat):Int) ((sIx n n hi:Nat):Int) 1)) _ _ s;rw [kG_];exact A3 h
theorem nZ_ (xs:Array Value) (i k:Nat):((List.range k).filterMap fun(m:Nat)=>xs[((i:Int)+(m:Int)*1).toNat]?).toArray=((xs.toList.drop i).take k).toArray:=by
 have e:(fun(m:Nat)=>xs[((i:Int)+(m:Int)*1).toNat]?)=fun m=>xs[i+m]? :=by
  funext m
  have:((i:Int)+(m:Int)*1).toNat=i+m:=by lia
  rw [this]
 rw [e];have:=pick_run xs i k;rw [List.filterMap_map] at this;have e2:((fun x=>xs[x]?)∘fun x=>i+x)=fun m=>xs[i+m]? :=rfl;rw [e2] at this;rw [this]
theorem getItem_tuple_cut {t sl:Addr}{items:Array Value}{vl vu:Value}{lo hi:Option Int}{Q:Value->Shared->Prop} (ht:IsTup s.heap t items) (hs:s.heap.IsSliceOf sl vl vu .none) (pl:IsPart vl lo) (pu:IsPart vu hi)
  (hw:¬(sIx items.size 0 lo=0/\sIx items.size items.size hi=items.size))
  (h:Q (.ref s.heap.objs.size) {s with heap:=s.heap.push {cls:= .type "tuple",data:= .seq ((items.toList.drop (sIx items.size 0 lo)).take (sIx items.size items.size hi-sIx items.size 0 lo)).toArray}})
  (hsz:items.size<=sizeLine):wpAny (model prog w) A (getItem (.ref t) (.ref sl)) Q E s:=by
 have htake:sizeOk (.seq ((items.toList.drop (sIx items.size 0 lo)).take (sIx items.size items.size hi-sIx items.size 0 lo)).toArray):=by
  show((items.toList.drop (sIx items.size 0 lo)).take (sIx items.size items.size hi-sIx items.size 0 lo)).toArray.size<=sizeLine;rw [AD,Am,Bc,B3];lia
 have hj:sIx items.size items.size hi<=items.size:=r0_ _ _ (A8 _) hi;obtain⟨os,hos,hcs,hds⟩:=id hs;have hTs:s.TypeIs (.ref sl) "slice":=⟨os,hos,hcs⟩;unfold getItem;try with_reducible refine Aw ?_
 first|refine A0 (A3 ?_)|skip
 refine A0 (wpAny_sequenceKey ht.typeIs (by decide) ?_);refine A0 (BH (name:=Str.ofString "__getitem__") ht.typeIs BD
  (Ar BD ht.typeIs entry_tuple_getitem ?_ (args_tuple_getitem _ _)))
 show wpAny _ _ (Builtin.Tuple.tupleItemsOf (.ref t)>>=_) _ _ s;refine A0 (tupleItemsOf_ ht ?_);refine A0 (D6 hTs ?_);rw [A6 (by decide)];refine A0 (cL_ hs pl pu ?_);have hno:¬((((sIx items.size 0 lo:Nat):Int)==0&&(1:Int)==1&&(sIx items.size items.size hi-sIx items.size 0 lo)==items.size)=true):=by
  intro q;rw [AC,AC] at q;have q1:((sIx items.size 0 lo:Nat):Int)=0:=eq_of_beq q.1.1;have q2:sIx items.size items.size hi-sIx items.size 0 lo=items.size:=eq_of_beq q.2;exact hw ⟨by lia,by lia⟩
 show wpAny _ _ (if(((sIx items.size 0 lo:Nat):Int)==0&&(1:Int)==1&&(sIx items.size items.size hi-sIx items.size 0 lo)==items.size)=true then _ else _) _ _ s;rw [A5 hno,nZ_];first
  |exact A0 (m:=Builtin.Tuple.tupleExact _) (Av (A3 ⟨_,rfl,A3 h⟩) htake)
  |exact A0 (m:=Builtin.Tuple.tupleExact _) (Av (A0 (A3 (A3 ⟨_,rfl,A3 h⟩))) htake)
  |exact A0 (A0 (m:=Builtin.Tuple.tupleExact _) (Av (A3 (A3 ⟨_,rfl,A3 h⟩)) htake))
  |exact A0 (A0 (m:=Builtin.Tuple.tupleExact _) (Av (A3 ⟨_,rfl,A3 h⟩) htake))
end
end HT
namespace L2
open PySem PySem.Spec PyProof.Rows
noncomputable abbrev TO:=St->Hp->(Option Int->Hp->Prop)->Prop
noncomputable def PO (X:Cx) (e:Option Expr) (t:TO):Prop:=
 ∀(pins:List (Addr×Obj)) (s:Shared) (σ:St) (H:Hp) (Q:Option Int->Hp->Prop),Inv X pins σ H s->t σ H Q->
  wpAny (model X.prog X.w) X.A (evalPart e X.env) (fun u s'=>∃o H',Inv X pins σ H' s'/\IsPart u o/\Q o H') X.xe s
noncomputable def pO_:TO:=fun _ H Q=>Q none H
noncomputable def to_ (t:TE):TO:=fun σ H Q=>t σ H fun x H1=>∃i,x= .int i/\Q (some i) H1
theorem fF_ {ns:List Int}:∀{us:List Value},aR_ (ns.map V.int) us->IntsAre us ns:=by
 induction ns with
 |nil=>intro us r;rw [Ct] at r;cases r;exact .nil
 |cons n ns ih=>
  intro us r;rw [AJ] at r;cases r with
  |cons r1 r2=>
   obtain⟨t,e⟩:=r1;subst e;exact .cons n t (ih r2)
section
variable {X:Cx}{e:Expr}{te:TE}{lo hi:Option Expr}{tl th:TO}{pos p2:Pos}
theorem ck_:PO X none pO_:=by
 intro pins s σ H Q I h;rw [evalPart_none];exact A3 ⟨none,H,I, .none,h⟩
theorem bR_ (h:PE X e te):PO X (some e) (to_ te):=by
 intro pins s σ H Q I hw;rw [evalPart_some];refine thn (h pins s σ H _ I hw) fun u s1 ⟨x,H1,I1,r1,q1⟩=> ?_;obtain⟨i,rfl,q⟩:=q1;obtain⟨t,rfl⟩:=r1;exact⟨some i,H1,I1, .int i t,q⟩
noncomputable def SlR (X:Cx) (r:V->Option Int->Option Int->Hp->VK->Prop):Prop:=
 ∀(pins:List (Addr×Obj)) (s:Shared) (σ:St) (H:Hp) (x:V) (v vl vu:Value) (lo hi:Option Int) (sl:Addr) (Q:VK),Inv X pins σ H s->aV_ x v->s.heap.IsSliceOf sl vl vu .none->IsPart vl lo->IsPart vu hi->r x lo hi H Q->
  ∃T id,typeLookup (.type T) "__getitem__"=pure (some (.builtin id))/\s.TypeIs v T/\wpAny (model X.prog X.w) X.A (getItem v (.ref sl)) (EP X pins σ Q) X.xe s
noncomputable def tSl (r:V->Option Int->Option Int->Hp->VK->Prop) (te:TE) (tl th:TO):TE:=fun σ H Q=>te σ H fun x H1=>tl σ H1 fun l H2=>th σ H2 fun u H3=>r x l u H3 Q
theorem br_ {r:V->Option Int->Option Int->Hp->VK->Prop} (hr:SlR X r) (he:PE X e te) (hl:PO X lo tl) (hu:PO X hi th):PE X (.Subscript e (.Slice lo hi none p2) pos) (tSl r te tl th):=by
 intro pins s σ H Q I h;refine Subscript_ (thn (he pins s σ H _ I h) fun v s1 ⟨x,H1,I1,r1,q1⟩=> ?_);refine wpAny_Slice (thn (hl pins s1 σ H1 _ I1 q1) fun vl s2 ⟨l,H2,I2,pl,q2⟩=>thn (hu pins s2 σ H2 _ I2 q2) fun vu s3 ⟨u,H3,I3,pu,q3⟩=> ?_);rw [evalPart_none];refine A3 ?_;have I4:Inv X pins σ H3 {s3 with heap:=s3.heap.push {cls:= .type "slice",data:= .fields #[vl,vu, .none]}}:=I3.kept (t':=s3.toks) fun b ob q=>A9 _ q;obtain⟨T,id,hT,ht,hg⟩:=hr pins {s3 with heap:=s3.heap.push {cls:= .type "slice",data:= .fields #[vl,vu, .none]}} σ H3 x v vl vu l u s3.heap.objs.size Q I4 r1 (Heap.IsSliceOf.new ..) pl pu q3;show wpAny (model X.prog X.w) X.A (subscriptTail e (.Slice lo hi none p2) v (.ref s3.heap.objs.size)) (EP X pins σ Q) X.xe {s3 with heap:=s3.heap.push {cls:= .type "slice",data:= .fields #[vl,vu, .none]}};exact tail_any (ops:=[.ref s3.heap.objs.size,v]) ht hT hg (by with_unfolding_all rfl)
noncomputable def fP_ (xs:List V) (lo hi:Option Int):List V:=(xs.drop (HT.sIx xs.length 0 lo)).take (HT.sIx xs.length xs.length hi-HT.sIx xs.length 0 lo)
theorem e8_ (xs:List V) (lo hi:Option Int):(fP_ xs lo hi).length<=xs.length:=by
 unfold fP_;rw [Am,Bc];lia
noncomputable def vq_ (K:W.Frag):V->Option Int->Option Int->Hp->VK->Prop:=fun x lo hi H Q=>∃a xs,x= .ref a/\SqT K H a xs/\
 ¬(HT.sIx xs.length 0 lo=0/\HT.sIx xs.length xs.length hi=xs.length)/\∀p,H p=none->Q (.ref p) (upd H p (.tup (fP_ xs lo hi)))
theorem rW_:SlR X (vq_ X.K):=by
 intro pins s σ H x v vl vu lo hi sl Q I rx hs pl pu h;obtain⟨a,xs,rfl,hx,hw,q⟩:=h;cases rx;obtain⟨its,r,ht,hz⟩:=I.tuple hx;have hlen:its.toArray.size=xs.length:=by rw [AD];exact r.length.symm
 refine⟨"tuple",_,BD.lookup,ht.typeIs, ?_⟩;refine HT.getItem_tuple_cut ht hs pl pu (by rw [hlen];exact hw) ?_ (by rw [hlen];exact hz);rw [hlen];refine⟨.ref s.heap.objs.size,_,I.laid (t':=s.toks) (o:= .tup (fP_ xs lo hi)) (fun b ob q=>A9 _ q) (A8 _) ?_,rfl,q _ (I.hok.fresh (A8 _))⟩;exact⟨BO (e8_ xs lo hi) hz,_,(r.drop (HT.sIx xs.length 0 lo)).take (HT.sIx xs.length xs.length hi-HT.sIx xs.length 0 lo),IsTup.new _ _⟩
noncomputable def tX_ (K:W.Frag):R2:=fun x y H Q=>∃a b xs ys,x= .ref a/\y= .ref b/\SqT K H a xs/\SqT K H b ys/\xs≠[]/\xs.length+ys.length<=sizeLine/\
 (ys=[]->Q (.ref a) H)/\(ys≠[]->∀p,H p=none->Q (.ref p) (upd H p (.tup (xs++ys))))
theorem aR_.nil_iff {xs:List V}{us:List Value} (r:aR_ xs us):us=[]↔xs=[]:=by
 cases r with
 |nil=>simp
 |cons _ _=>simp
theorem qq_:OpR X (binaryOp .Add) (tX_ X.K):=by
 intro pins s σ H x y v u Q I rx ry h;obtain⟨a,b,xs,ys,rfl,rfl,ha,hb,hx,hz,q1,q2⟩:=h;cases rx;cases ry;obtain⟨its,r1,p1,_⟩:=I.tuple ha;obtain⟨its2,r2,p2,_⟩:=I.tuple hb;refine HT.cat_tup p1 p2 (fun z=>hx (r1.nil_iff.mp z)) (fun z=>⟨.ref a,H,I,rfl,q1 (r2.nil_iff.mp z)⟩) (fun z=> ?_) (by rw [<-r1.length,<-r2.length];exact hz);refine⟨.ref s.heap.objs.size,_,I.laid (t':=s.toks) (o:= .tup (xs++ys)) (fun b ob q=>A9 _ q) (A8 _) ?_,rfl,q2 (fun w=>z (r2.nil_iff.mpr w)) _ (I.hok.fresh (A8 _))⟩;exact⟨by rw [AF];exact hz,_,r1.append r2,IsTup.new _ _⟩
end
end L2
namespace L2
open PySem PySem.Spec PyProof.Rows
noncomputable def ixN (n:Nat) (i:Int):Option Nat:=if 0<=i then(if i<n then some i.toNat else none) else if -(n:Int)<=i then some (i+n).toNat else none
noncomputable def atI {α:Type} (xs:List α) (i:Int):Option α:=(ixN xs.length i).bind fun j=>xs[j]?
theorem mA_ {n:Nat}{i:Int}{j:Nat} (h:ixN n i=some j):seqIndex? i n=some j/\j<n/\-(n:Int)<=i/\i<n:=by
 unfold ixN at h;by_cases h0:0<=i
 .rw [A6 h0] at h;by_cases h1:i<n
  .rw [A6 h1] at h;have e:i.toNat=j:=Af h;exact⟨by rw [seqIndex_of h0 h1,e],by lia,by lia,h1⟩
  .rw [A5 h1] at h;cases h
 .rw [A5 h0] at h;by_cases h1: -(n:Int)<=i
  .rw [A6 h1] at h;have e:(i+n).toNat=j:=Af h;exact⟨by rw [seqIndex_neg (by lia) h1,e],by lia,h1,by lia⟩
  .rw [A5 h1] at h;cases h
theorem m7_ {α:Type}{xs:List α}{i:Int}{v:α} (h:atI xs i=some v):∃j,seqIndex? i xs.length=some j/\xs[j]? =some v/\j<xs.length/\-(xs.length:Int)<=i/\i<xs.length:=by
 unfold atI at h;cases e:ixN xs.length i with
 |none=>rw [e] at h;cases h
 |some j=>
  rw [e] at h;obtain⟨h1,h2,h3,h4⟩:=mA_ e;exact⟨j,h1,h,h2,h3,h4⟩
theorem fa_ {α:Type}{xs:List α}{j:Nat}{v:α} (h:xs[j]? =some v):atI xs (j:Int)=some v:=by
 have hj:j<xs.length:=(AH.mp h).1;have e:ixN xs.length (j:Int)=some j:=by
  unfold ixN;rw [A6 (by lia),A6 (by lia)];simp
 unfold atI;rw [e];exact h
theorem oQ_ {α:Type} (xs:List α) (v:α):atI (xs++[v]) (-1)=some v:=by
 have hl:(xs++[v]).length=xs.length+1:=by simp
 have e:ixN (xs++[v]).length (-1)=some xs.length:=by
  unfold ixN;rw [hl,A5 (by decide),A6 (by lia)];congr 1
  lia
 unfold atI;rw [e];show(xs++[v])[xs.length]? =some v;simp
noncomputable def rf_ (b:Expr):Prop:=∀o i,subscripted b false o i=operate [o,i] (getItem o i)
noncomputable def IxR (X:Cx) (r:R2):Prop:=
 ∀(value slice:Expr) (pins:List (Addr×Obj)) (s:Shared) (σ:St) (H:Hp) (x y:V) (v u:Value) (Q:VK),Inv X pins σ H s->aV_ x v->aV_ y u->r x y H Q->
  subscripted slice false v u=operate [v,u] (getItem v u)->wpAny (model X.prog X.w) X.A (subscriptTail value slice v u) (EP X pins σ Q) X.xe s
noncomputable def MtR (X:Cx) (id:String) (r:V->List V->Hp->VK->Prop):Prop:=
 ∀(pins:List (Addr×Obj)) (s:Shared) (σ:St) (H:Hp) (x:V) (xs:List V) (v:Value) (us:List Value) (Q:VK),Inv X pins σ H s->aV_ x v->aR_ xs us->r x xs H Q->
  wpAny (model X.prog X.w) X.A (call (.builtin id) (v::us)) (EP X pins σ Q) X.xe s
section
variable {X:Cx}{a b:Expr}{ta tb:TE}{pos:Pos}
theorem aw_ {r:R2} (hr:IxR X r) (ha:PE X a ta) (hb:PE X b tb) (hs:rf_ b):PE X (.Subscript a b pos) (tOp r ta tb):=by
 intro pins s σ H Q I h;exact Subscript_ (uk_ ha hb I h fun v u s2 x y H2 I2 rx ry q=>hr a b pins s2 σ H2 x y v u Q I2 rx ry q (hs _ _))
noncomputable def uR_ (K:W.Frag):R2:=fun x y H Q=>∃p xs i v,x= .ref p/\y= .int i/\SqL K H p xs/\atI xs i=some v/\Q v H
noncomputable def vv_ (K:W.Frag):R2:=fun x y H Q=>∃p xs i v,x= .ref p/\y= .int i/\SqT K H p xs/\atI xs i=some v/\Q v H
theorem c0_:IxR X (uR_ X.K):=by
 intro value slice pins s σ H x y v u Q I rx ry h hs;obtain⟨p,xs,i,z,rfl,rfl,hq,he,q⟩:=h;cases rx;obtain⟨t,rfl⟩:=ry;obtain⟨its,r,pl,hz⟩:=I.list hq;obtain⟨j,h1,h2,h3,h4,h5⟩:=m7_ he;obtain⟨w,ew,rw'⟩:=r.get h2;have hl:=r.length;have hn:=fz_;have fin:EP X pins σ Q w s:=⟨z,H,I,rw',q⟩;by_cases h0:0<=i
 .have hj:i.toNat=j:=by
   rw [seqIndex_of h0 h5] at h1;exact Af h1
  exact item_listR pl.isList h0 (by lia) (by rw [hj];simpa using ew) fin hs
 .have hj:(i+(its.toArray.size:Int)).toNat=j:=by
   rw [seqIndex_neg (by lia) h4] at h1;rw [AD,<-hl];exact Af h1
  exact subscriptTail_builtinR (x:=w) pl.isList.typeIs slot_list_getitem.lookup
   (wpAny_getItem_list_neg (Q:=fun r s'=>r=w/\EP X pins σ Q r s') pl.isList (by lia) (by rw [AD]<;>lia) (by lia) (by rw [hj];simpa using ew) ⟨rfl,fin⟩) hs
theorem bP_:IxR X (vv_ X.K):=by
 intro value slice pins s σ H x y v u Q I rx ry h hs;obtain⟨p,xs,i,z,rfl,rfl,hq,he,q⟩:=h;cases rx;obtain⟨t,rfl⟩:=ry;obtain⟨its,r,pl,hz⟩:=I.tuple hq;obtain⟨j,h1,h2,h3,h4,h5⟩:=m7_ he;obtain⟨w,ew,rw'⟩:=r.get h2;have hl:=r.length;have hn:=fz_;have fin:EP X pins σ Q w s:=⟨z,H,I,rw',q⟩;exact subscriptTail_builtinR (x:=w) pl.typeIs slot_tuple_getitem.lookup
  (getItem_tuple (j:=j) (Q:=fun r s'=>r=w/\EP X pins σ Q r s') pl (by lia) (by lia) (by rw [AD,<-hl];exact h1) (by simpa using ew) ⟨rfl,fin⟩) hs
theorem kI_ (its:List Value) (n j:Nat) (u:Value):Obj.mapSeq (·.setIfInBounds j u) {cls:= .type "list",data:= .seq its.toArray n}={cls:= .type "list",data:= .seq (its.set j u).toArray n}:=by
 simp [Obj.mapSeq]
theorem Inv.lst {pins:List (Addr×Obj)}{σ:St}{H:Hp}{s:Shared}{p:Addr}{xs:List V} (I:Inv X pins σ H s) (h:H p=some (.lst xs)):
  ∃(its:List Value) (n:Nat),aR_ xs its/\s.heap.get? p=some {cls:= .type "list",data:= .seq its.toArray n}/\xs.length<=sizeLine:=by
 obtain⟨z,its,n,r,e⟩:=I.hok p _ h;exact⟨its,n,r,e,z⟩
theorem Inv.lstUpd {pins:List (Addr×Obj)}{σ:St}{H:Hp}{s:Shared}{p:Addr}{xs ys:List V}{its its':List Value}{n n':Nat}{f:Obj->Obj} (I:Inv X pins σ H s) (h:H p=some (.lst xs))
  (ho:s.heap.get? p=some {cls:= .type "list",data:= .seq its.toArray n}) (hf:f {cls:= .type "list",data:= .seq its.toArray n}={cls:= .type "list",data:= .seq its'.toArray n'}) (r:aR_ ys its') (hz:ys.length<=sizeLine) (t:Nat):
  Inv X pins σ (upd H p (.lst ys)) {s with heap:=s.heap.update p f,toks:=t}:=by
 have e:(s.heap.update p f).get? p=some {cls:= .type "list",data:= .seq its'.toArray n'}:=by
  rw [CI f ho (by rw [hf]<;>rfl),hf]
 refine I.write (x:=p) (e:=p) (by rw [h];trivial) (.inl rfl) (fun b u hb q=>(Heap.get?_update_other _ _ (Cs hb)).trans q) ⟨_,e⟩ ?_;exact⟨hz,its',n',r,e⟩
noncomputable def tU_:V->V->V->Hp->(Hp->Prop)->Prop:=fun o i v H Q=>∃p xs k j,o= .ref p/\i= .int k/\H p=some (.lst xs)/\ixN xs.length k=some j/\Q (upd H p (.lst (xs.set j v)))
theorem eq_:u0_ X tU_:=by
 intro pins s σ H o i v ov iv u Q I ro ri rv h;obtain⟨p,xs,k,j,rfl,rfl,hp,hj,q⟩:=h;cases ro;obtain⟨t,rfl⟩:=ri;obtain⟨its,n,r,ho,hz⟩:=I.lst hp;obtain⟨h1,h2,h3,h4⟩:=mA_ hj;have hl:=r.length;have hn:=fz_;have I':Inv X pins σ (upd H p (.lst (xs.set j v))) {s with heap:=s.heap.update p (Obj.mapSeq (·.setIfInBounds j u))}:=
  I.lstUpd hp ho (kI_ its n j u) (r.set rv j) (by rw [BZ];exact hz) s.toks
 by_cases h0:0<=k
 .have hk:k.toNat=j:=by
   rw [seqIndex_of h0 h4] at h1;exact Af h1
  exact W.ki_setAt ho h0 (by lia) (by rw [AD,<-hl];exact h4) (by rw [hk];exact⟨_,I',q⟩)
 .have hk:(k+(its.toArray.size:Int)).toNat=j:=by
   rw [seqIndex_neg (by lia) h3] at h1;rw [AD,<-hl];exact Af h1
  exact W.ki_setBack ho (by lia) (by rw [AD,<-hl];exact h3) (by lia) (by rw [hk];exact⟨_,I',q⟩)
theorem ha_ (lo hi:Option Int) (n:Nat):(sliceBounds lo hi none n).1=((HT.sIx n 0 lo:Nat):Int)/\(sliceBounds lo hi none n).2.1=((HT.sIx n n hi:Nat):Int)/\(sliceBounds lo hi none n).2.2=1:=by
 refine⟨?_, ?_,rfl⟩
 .cases lo with
  |none=>simp [sliceBounds,HT.sIx]
  |some i=>
   simp only [sliceBounds,HT.sIx,Option.getD_none,show(1:Int)>0 by decide,Bx];by_cases h:i<0
   .simp only [h,Bx]<;>lia
   .simp only [h,Ak]<;>lia
 .cases hi with
  |none=>simp [sliceBounds,HT.sIx]
  |some i=>
   simp only [sliceBounds,HT.sIx,Option.getD_none,show(1:Int)>0 by decide,Bx];by_cases h:i<0
   .simp only [h,Bx]<;>lia
   .simp only [h,Ak]<;>lia
theorem fZ_ (its:List Value) (lo hi:Option Int):slicePick its.toArray lo hi none=((its.drop (HT.sIx its.length 0 lo)).take (HT.sIx its.length its.length hi-HT.sIx its.length 0 lo)).toArray:=by
 obtain⟨h1,h2,h3⟩:=ha_ lo hi its.toArray.size;unfold slicePick;rw [h1,h2,h3];simp only [sliceRange_one,pick_run,AD]<;>rfl
noncomputable def vr_ (K:W.Frag):V->Option Int->Option Int->Hp->VK->Prop:=fun x lo hi H Q=>∃a xs,x= .ref a/\SqL K H a xs/\∀p,H p=none->Q (.ref p) (upd H p (.lst (fP_ xs lo hi)))
theorem cy_:SlR X (vr_ X.K):=by
 intro pins s σ H x v vl vu lo hi sl Q I rx hs pl pu h;obtain⟨a,xs,rfl,hx,q⟩:=h;cases rx;obtain⟨its,r,ht,hz⟩:=I.list hx;have hlen:=r.length;refine⟨"list",_,slot_list_getitem.lookup,ht.isList.typeIs, ?_⟩;refine wpAny_getItem_list_slice ht.isList hs pl pu .none (by simp) ?_ (by rw [AD]<;>lia)
 rw [fZ_,<-hlen];refine⟨.ref s.heap.objs.size,_,I.laid (t':=s.toks) (o:= .lst (fP_ xs lo hi)) (fun b ob q=>A9 _ q) (A8 _) ?_,rfl,q _ (I.hok.fresh (A8 _))⟩;exact⟨BO (e8_ xs lo hi) hz,_,0,(r.drop (HT.sIx xs.length 0 lo)).take (HT.sIx xs.length xs.length hi-HT.sIx xs.length 0 lo),AL _ rfl⟩
theorem a7_:cx_ X (.builtin "len") (fun xs H Q=>∃p ys,xs=[.ref p]/\(SqL X.K H p ys\/SqT X.K H p ys)/\Q (.int ys.length) H):=by
 intro pins s σ H xs us Q I r h;obtain⟨p,ys,rfl,hq,q⟩:=h;obtain⟨u,rfl,rx⟩:=fe_ r;cases rx;have hn:=fz_;rcases hq with hq|hq
 .obtain⟨its,r',pl,hz⟩:=I.list hq;have hlen:=r'.length;exact Calls.call_len_list pl.isList (by simp only [AD]<;>lia) ⟨.int ys.length,H,I.tok _,⟨s.toks+1,by rw [AD,hlen]⟩,q⟩
 .obtain⟨its,r',pl,hz⟩:=I.tuple hq;have hlen:=r'.length;exact len_tuple pl (by simp only [AD]<;>lia) ⟨.int ys.length,H,I.tok _,⟨s.toks+1,by rw [AD,hlen]⟩,q⟩
theorem eo_:cx_ X (.type "list") (fun xs H Q=>∃p ys,xs=[.ref p]/\(SqL X.K H p ys\/SqT X.K H p ys)/\∀l,H l=none->Q (.ref l) (upd H l (.lst ys))):=by
 intro pins s σ H xs us Q I r h;obtain⟨p,ys,rfl,hq,q⟩:=h;obtain⟨u,rfl,rx⟩:=fe_ r;cases rx;have fin:∀(its:List Value),aR_ ys its->ys.length<=sizeLine->∀(h':Heap) (c':Nat),(∀b o',s.heap.get? b=some o'->h'.get? b=some o')->
   h'.get? s.heap.objs.size=some {cls:= .type "list",dict:=none,data:= .seq its.toArray c',slots:= #[]}->EP X pins σ Q (.ref s.heap.objs.size) {s with heap:=h'}:=fun its r' hz h' c' kp e=>
  ⟨.ref s.heap.objs.size,_,I.laid (t':=s.toks) kp (A8 _) (show aH_ X.prog X.w _ h' _ (.lst ys) from⟨hz,its,c',r',e⟩),rfl,q _ (I.hok.fresh (A8 _))⟩
 rcases hq with hq|hq
 .obtain⟨its,r',pl,hz⟩:=I.list hq;have hlen:=r'.length;obtain⟨o,ho,hc,n,hd⟩:=pl.isList;exact call_list_seq p (.inl rfl) ho hc hd (fun h' c' kp e=>fin its r' hz h' c' kp e) (by simp only [AD]<;>lia)
 .obtain⟨its,r',pl,hz⟩:=I.tuple hq;have hlen:=r'.length;obtain⟨o,ho,hc,n,hd⟩:=pl;exact call_list_seq p (.inr rfl) ho hc hd (fun h' c' kp e=>fin its r' hz h' c' kp e) (by simp only [AD]<;>lia)
theorem gV_:cx_ X (.type "tuple") (fun xs H Q=>∃p ys,xs=[.ref p]/\((SqL X.K H p ys/\∀l,H l=none->Q (.ref l) (upd H l (.tup ys)))\/(SqT X.K H p ys/\Q (.ref p) H))):=by
 intro pins s σ H xs us Q I r h;obtain⟨p,ys,rfl,h⟩:=h;obtain⟨u,rfl,rx⟩:=fe_ r;cases rx;rcases h with⟨hq,q⟩|⟨hq,q⟩
 .obtain⟨its,r',pl,hz⟩:=I.list hq;have hlen:=r'.length;refine call_tuple_list pl.isList (fun h' kp=> ?_) (by simp only [AD]<;>lia)
  have I1:Inv X pins σ H {s with heap:=h'}:=I.kept (t':=s.toks) kp;have I2:Inv X pins σ (upd H h'.objs.size (.tup ys)) {s with heap:=h'.push {cls:= .type "tuple",data:= .seq its.toArray}}:=
   I1.laid (t':=s.toks) (fun b o e=>A9 _ e) (A8 _) (show aH_ X.prog X.w _ _ _ (.tup ys) from⟨hz,its,r',IsTup.new _ _⟩)
  exact⟨.ref h'.objs.size,_,I2,rfl,q _ (I1.hok.fresh (A8 _))⟩
 .obtain⟨its,r',pl,hz⟩:=I.tuple hq;exact call_tuple_same pl ⟨.ref p,H,I,rfl,q⟩
noncomputable def tyV (K:W.Frag) (T:String) (x:V) (H:Hp):Prop:=match x with
 | .str _=>T="str"
 | .int _=>T="int"
 | .ref p=>(T="list"/\∃xs,SqL K H p xs)\/(T="tuple"/\∃o,K.lookup p=some o/\o.cls= .type "tuple"/\o.dict=none)\/
   (T="dict"/\((∃kvs,H p=some (.dK kvs))\/∃kvs,H p=some (.dT kvs)))\/(T="set"/\∃S n,H p=some (.set S n))
 |_=>False
theorem oS_ {pins:List (Addr×Obj)}{σ:St}{H:Hp}{s:Shared}{T:String}{x:V}{v:Value} (I:Inv X pins σ H s) (r:aV_ x v) (ty:tyV X.K T x H):
  s.TypeIs v T/\∀a,v= .ref a->∃ob,s.heap.get? a=some ob/\ob.dict=none:=by
 cases x with
 |str z=>
  obtain⟨t,rfl⟩:=r;cases (show T="str" from ty);exact⟨typeIs_str s z t,fun _ e=>nomatch e⟩
 |int i=>
  obtain⟨t,rfl⟩:=r;cases (show T="int" from ty);exact⟨typeIs_int s i t,fun _ e=>nomatch e⟩
 |ref p=>
  cases r;rcases ty with⟨rfl,xs,hq⟩|⟨rfl,o,hk,hc,hd⟩|⟨rfl,hk⟩|⟨rfl,S,n,hk⟩
  .obtain⟨its,_,pl,_⟩:=I.list hq;refine⟨pl.isList.typeIs,fun a e=> ?_⟩;cases e;obtain⟨o,n,e,c,hd,_⟩:=pl;exact⟨o,e,hd⟩
  .refine⟨⟨o,I.kIn p o hk,hc⟩,fun a e=> ?_⟩;cases e;exact⟨o,I.kIn _ o hk,hd⟩
  .have z:∃o,s.heap.get? p=some o/\o.ExactDict:=by
    rcases hk with⟨kvs,hk⟩|⟨kvs,hk⟩
    .obtain⟨_,_,_,_,o,_,_,e,ex,_⟩:=I.hok p _ hk;exact⟨o,e,ex⟩
    .obtain⟨_,_,_,_,o,_,_,e,ex,_⟩:=I.hok p _ hk;exact⟨o,e,ex⟩
   obtain⟨o,e,ex⟩:=z;refine⟨⟨o,e,ex.1⟩,fun a e2=> ?_⟩;cases e2;exact⟨o,e,ex.2.1⟩
  .obtain⟨o,_,_,_,e,ex,_⟩:=I.hok p _ hk;refine⟨⟨o,e,ex.1⟩,fun a e2=> ?_⟩;cases e2;exact⟨o,e,ex.2.1⟩
 |_=>exact False.elim ty
noncomputable def vd_ (K:W.Frag) (T:String) (r:V->List V->Hp->VK->Prop) (to:TE):TE:=fun σ H Q=>to σ H fun x H1=>tyV K T x H1/\r x [] H1 Q
noncomputable def tBM (K:W.Frag) (T:String) (r:V->List V->Hp->VK->Prop) (to:TE) (t:TA):TE:=fun σ H Q=>to σ H fun x H1=>tyV K T x H1/\t σ H1 fun xs H2=>r x xs H2 Q
variable {o e:Expr}{es:List Expr}{to:TE}{t:TA}{name:Str}{apos cpos:Pos}{T id:String}{r:V->List V->Hp->VK->Prop}
theorem sb_ (pa:PlainAttrs T) (slot:Slot T name id) (hty:typeOf (.builtin id)=pure (.type "method_descriptor")) (hm:MtR X id r) (ho:PE X o to)
  (hbase:attributeBase o name X.env (eval o X.env)=eval o X.env:=by rfl) (hline:(apos.endLine==cpos.line)=true:=by rfl):PE X (.Call (.Attribute o name apos) [] [] cpos) (vd_ X.K T r to):=by
 intro pins s σ H Q I h;refine wpAny_Call_method0_late hbase hline (thn (ho pins s σ H _ I h) fun v s1 ⟨x,H1,I1,r1,ty,q1⟩=> ?_);obtain⟨h1,h2⟩:=oS_ I1 r1 ty;exact⟨T,id,pa,slot,hty,h1,h2,Ck rfl (PySem.evalArgs_none (hm pins s1 σ H1 x [] v [] Q I1 r1 .nil q1))⟩
theorem fj_ (pa:PlainAttrs T) (slot:Slot T name id) (hty:typeOf (.builtin id)=pure (.type "method_descriptor")) (hm:MtR X id r) (ho:PE X o to) (ha:PA X (e::es) t)
  (hbase:attributeBase o name X.env (eval o X.env)=eval o X.env:=by rfl)
  (hfew:((backTo cpos (starEach (e::es) X.env)).all (fun x=> !x.1)&&(backToKw cpos (keywordEach [] X.env)).all (fun x=>x.1.isSome)
   &&decide ((e::es).length+([]:List Keyword).length+(if([]:List Keyword).isEmpty then 0 else 1)<30))=true:=by rfl)
  (hline:(apos.endLine==cpos.line)=true:=by rfl) (hs:starEach (e::es) X.env=(false,eval e X.env)::starEach es X.env:=by rfl) (hplain:(backTo cpos (starEach es X.env)).any (·.1)=false:=by rfl):
  PE X (.Call (.Attribute o name apos) (e::es) [] cpos) (tBM X.K T r to t):=by
 intro pins s σ H Q I h;refine wpAny_Call_method_late hbase hfew hline rfl (thn (ho pins s σ H _ I h) fun v s1 ⟨x,H1,I1,r1,ty,q1⟩=> ?_);obtain⟨h1,h2⟩:=oS_ I1 r1 ty;refine⟨T,id,pa,slot,hty,h1,h2, ?_⟩;have hA:=ha cpos pins s1 σ H1 _ I1 q1;rw [hs] at hA⊢;refine Ck (by show(false||(backTo cpos (starEach es X.env)).any (·.1))=false;rw [hplain]<;>rfl) (Calls.evalArgs_plain ?_)
 exact thn hA fun us s2 ⟨vs,H2,I2,r2,q2⟩=>hm pins s2 σ H2 x vs v us Q I2 r1 r2 q2
end
end L2
namespace L2
open PySem PySem.Spec PyProof.Rows
noncomputable def MtM (X:Cx) (id:String) (r:V->List V->Hp->VK->Prop):Prop:=
 ∀(pins:List (Addr×Obj)) (s:Shared) (σ:St) (H:Hp) (x:V) (xs:List V) (v:Value) (us:List Value) (Q:VK),Inv X pins σ H s->aV_ x v->aR_ xs us->r x xs H Q->
  wpAny (model X.prog X.w) X.A (call (.builtin id) (v::us)) (EP X pins σ Q) X.xe s
theorem aR_.one:∀{x:V}{us:List Value},aR_ [x] us->∃u,us=[u]/\aV_ x u
 |_,_, .cons r .nil=>⟨_,rfl,r⟩
theorem aR_.zero:∀{us:List Value},aR_ [] us->us=[]
 |_, .nil=>rfl
theorem aR_.dropLast {xs:List V}{us:List Value} (h:aR_ xs us):aR_ xs.dropLast us.dropLast:=by
 induction h with
 |nil=>exact .nil
 |cons r t ih=>
  cases t with
  |nil=>exact .nil
  |cons q t'=>exact .cons r ih
theorem aR_.rep {xs:List V}{us:List Value} (h:aR_ xs us):∀k:Nat,aR_ (List.replicate k xs).flatten (List.replicate k us).flatten
 |0=> .nil
 |k+1=>by
  rw [Ap,Ap,C6,C6];exact aR_.append h (aR_.rep h k)
theorem kP_ {α:Type} (l:List α):l.eraseIdx (l.length-1)=l.dropLast:=by
 induction l with
 |nil=>rfl
 |cons a r ih=>
  cases r with
  |nil=>rfl
  |cons b r=>
   have e:(a::b::r).length-1=((b::r).length-1)+1:=by
    have h1:(a::b::r).length=r.length+2:=rfl;have h2:(b::r).length=r.length+1:=rfl;lia
   rw [e,List.eraseIdx_cons_succ,ih];all_goals rfl
theorem hQ_ (its:List Value):∀(k:Nat) (acc:List Value),
  List.foldl (fun x1 x2=>x1++x2) acc.toArray (List.replicate k its.toArray)=(acc++(List.replicate k its).flatten).toArray
 |0,acc=>by simp
 |k+1,acc=>by
  have e:acc.toArray++its.toArray=(acc++its).toArray:=by simp
  have e2:(acc++its)++(List.replicate k its).flatten=acc++(List.replicate (k+1) its).flatten:=by
   rw [Ap,C6,BB]
  rw [<-e2,<-hQ_ its k (acc++its),<-e,Ap,Bf]
section
variable {X:Cx}{pins:List (Addr×Obj)}{σ:St}{H:Hp}{s:Shared}{l b:Addr}{xs ys zs:List V}
theorem Inv.lset {its its':List Value}{n:Nat}{f:Array Value->Array Value}{t':Nat} (I:Inv X pins σ H s) (hH:H l=some (.lst xs))
  (e:s.heap.get? l=some {cls:= .type "list",data:= .seq its.toArray n}) (hf:f its.toArray=its'.toArray) (hv:aR_ ys its') (hz:ys.length<=sizeLine):
  Inv X pins σ (upd H l (.lst ys)) {s with heap:=s.heap.update l (Obj.mapSeq f),toks:=t'}:=by
 have q:=PySem.IsL.update e f;rw [hf] at q;refine I.write (x:=l) (e:=l) (by rw [hH];exact trivial) (.inl rfl) (fun b' u hb hu=>(Heap.get?_update_other s.heap (Obj.mapSeq f) (Cs hb)).trans hu) ⟨_,q⟩ ?_;exact⟨hz,its',_,hv,q⟩
theorem Inv.lnew {its:List Value}{t':Nat} (I:Inv X pins σ H s) (hv:aR_ ys its) (hz:ys.length<=sizeLine):
  Inv X pins σ (upd H s.heap.objs.size (.lst ys)) {s with heap:=s.heap.push {cls:= .type "list",data:= .seq its.toArray},toks:=t'}:=
 I.laid (fun _ _ q=>A9 _ q) (A8 _) ⟨hz,its,0,hv,AL _ rfl⟩
theorem Inv.fresh (I:Inv X pins σ H s):H s.heap.objs.size=none:=I.hok.fresh (A8 _)
theorem Inv.lstM (I:Inv X pins σ H s) (hH:H l=some (.lst xs)):xs.length<=sizeLine/\∃(its:List Value) (n:Nat),aR_ xs its/\xs.length=its.length/\s.heap.get? l=some {cls:= .type "list",data:= .seq its.toArray n}:=by
 obtain⟨z,its,n,r,e⟩:=I.hok l _ hH;exact⟨z,its,n,r,r.length,e⟩
theorem jN_ {n:Nat} (h:n<=sizeLine):Builtin.List.listTooLong n=false:=by
 unfold Builtin.List.listTooLong;exact Ao (by lia)
end
section
variable {X:Cx}
noncomputable def f7_:V->List V->Hp->VK->Prop:=fun x vs H Q=>∃l xs y,x= .ref l/\vs=[y]/\H l=some (.lst xs)/\xs.length<sizeLine/\Q .non (upd H l (.lst (xs++[y])))
theorem bN_:MtM X "list.append" f7_:=by
 intro pins s σ H x vs v us Q I rx rv h;obtain⟨l,xs,y,rfl,rfl,hH,hz,q⟩:=h;cases rx;obtain⟨u,rfl,ru⟩:=rv.one;obtain⟨z,its,n,r,hl,e⟩:=I.lstM hH;refine D8 F.slot_list_append ⟨_,e,rfl⟩ F.entry_list_append (F.args_list_append_2 _ _) (PySem.list_append l its.toArray n u (by rw [AD];lia)) ⟨e, ?_⟩;refine⟨.non,_,I.lset (its':=its++[u]) hH e (by simp) (r.append (.cons ru .nil)) ?_,rfl,q⟩;rw [AF,B0];lia
noncomputable def p6_:V->List V->Hp->VK->Prop:=fun x vs H Q=>∃l b xs zs,x= .ref l/\vs=[.ref b]/\H l=some (.lst xs)/\H b=some (.lst zs)/\xs.length+zs.length<=sizeLine/\Q .non (upd H l (.lst (xs++zs)))
theorem hv_:MtM X "list.extend" p6_:=by
 intro pins s σ H x vs v us Q I rx rv h;obtain⟨l,b,xs,zs,rfl,rfl,hH,hB,hz,q⟩:=h;cases rx;obtain⟨u,rfl,ru⟩:=rv.one;cases ru;obtain⟨z,its,n,r,hl,e⟩:=I.lstM hH;obtain⟨z2,its2,n2,r2,hl2,e2⟩:=I.lstM hB;have hsz:its.toArray.size+its2.toArray.size<=sizeLine:=by rw [AD,AD];lia
 have hlong:¬(!its.toArray.isEmpty&&Builtin.List.listTooLong (its.toArray.size+its2.toArray.size))=true:=by
  rw [jN_ hsz,D3];exact AZ
 refine D8 F.slot_list_extend ⟨_,e,rfl⟩ F.entry_list_extend (F.args_list_extend_2 _ _)
  (AutoSeq1.list_extend_list_list_0 l its.toArray n b its2.toArray n2 hlong (by rw [AD];lia) (by lia)) ⟨e,e2, ?_⟩
 refine⟨.non,_,I.lset (its':=its++its2) hH e (by simp) (r.append r2) ?_,rfl,q⟩;rw [AF];lia
noncomputable def vu_:V->List V->Hp->VK->Prop:=fun x vs H Q=>∃l xs y,x= .ref l/\vs=[]/\H l=some (.lst xs)/\xs[xs.length-1]? =some y/\Q y (upd H l (.lst xs.dropLast))
theorem sl_:MtM X "list.pop" vu_:=by
 intro pins s σ H x vs v us Q I rx rv h;obtain⟨l,xs,y,rfl,rfl,hH,hy,q⟩:=h;cases rx;have hus:=rv.zero;subst hus;obtain⟨z,its,n,r,hl,e⟩:=I.lstM hH;obtain⟨u,hu,ru⟩:=r.get hy;have hy':its.toArray[its.toArray.size-1]? =some u:=by
  show its.toArray[its.length-1]? =some u;rw [<-Bp,<-hl];exact hu
 refine D8 F.slot_list_pop ⟨_,e,rfl⟩ F.entry_list_pop (F.args_list_pop_1 _) (MeetsSeq.list_pop_last l its.toArray n u hy' (by rw [AD];lia)) ⟨e, ?_⟩;refine⟨y,_,I.lset (its':=its.dropLast) hH e ?_ r.dropLast ?_,ru,q⟩
 .show its.toArray.eraseIdxIfInBounds (its.toArray.size-1)=its.dropLast.toArray;rw [AD,List.eraseIdxIfInBounds_toArray,kP_]
 .rw [List.length_dropLast];lia
noncomputable def vx_:R2:=fun x y H Q=>∃l b xs zs,x= .ref l/\y= .ref b/\H l=some (.lst xs)/\H b=some (.lst zs)/\xs.length+zs.length<=sizeLine/\∀p,H p=none->Q (.ref p) (upd H p (.lst (xs++zs)))
theorem hn_:OpR X (binaryOp .Add) vx_:=by
 intro pins s σ H x y v u Q I rx ry h;obtain⟨l,b,xs,zs,rfl,rfl,hH,hB,hz,q⟩:=h;cases rx;cases ry;obtain⟨z,its,n,r,hl,e⟩:=I.lstM hH;obtain⟨z2,its2,n2,r2,hl2,e2⟩:=I.lstM hB;refine PySem.P.add_list e e2 ?_ (by rw [AD,AD];lia);have ea:its.toArray++its2.toArray=(its++its2).toArray:=by simp
 rw [ea];exact⟨.ref _,_,I.lnew (t':=s.toks) (r.append r2) (by rw [AF];lia),rfl,q _ I.fresh⟩
noncomputable def vt_:R2:=fun x y H Q=>∃l k xs,x= .ref l/\y= .int k/\H l=some (.lst xs)/\-(2^63)<=k/\k<2^63/\xs.length*k.toNat<=sizeLine/\
 ∀p,H p=none->Q (.ref p) (upd H p (.lst (List.replicate k.toNat xs).flatten))
theorem qI_ {α:Type} (xs:List α) (k:Nat):(List.replicate k xs).flatten.length=k*xs.length:=by
 induction k with
 |zero=>simp
 |succ k ih=>rw [Ap,C6,AF,ih,Nat.succ_mul,Nat.add_comm]
theorem hm_:OpR X (binaryOp .Mult) vt_:=by
 intro pins s σ H x y v u Q I rx ry h;obtain⟨l,k,xs,rfl,rfl,hH,h1,h2,hz,q⟩:=h;cases rx;obtain⟨t,rfl⟩:=ry;obtain⟨z,its,n,r,hl,e⟩:=I.lstM hH;have hlen:its.toArray.size*k.toNat<=sizeLine:=by rw [AD,<-hl];exact hz
 have hcap:¬its.toArray.size*k.toNat>(2^63-1)/8:=by
  have:(sizeLine:Nat)<=(2^63-1)/8:=by decide
  lia
 have hfit:¬(!Builtin.List.listFitsIndex k)=true:=by
  rw [fitsIndex_both h1 h2];exact AZ
 have hlong:¬Builtin.List.listTooLong (its.toArray.size*k.toNat)=true:=by
  rw [jN_ hlen];exact AZ
 have hnew:List.foldl (fun x1 x2=>x1++x2) #[] (List.replicate (if its.toArray.isEmpty=true then 0 else k.toNat) its.toArray)=(List.replicate k.toNat its).flatten.toArray:=by
  have f0:∀m:Nat,List.foldl (fun x1 x2=>x1++x2) #[] (List.replicate m its.toArray)=(List.replicate m its).flatten.toArray:=fun m=>by
   have:=hQ_ its m [];rw [List.nil_append] at this;exact this
  rw [f0];cases its with
  |nil=>simp
  |cons a r'=>rw [A5 (by simp)]
 refine wpAny_binaryOp_repeat_ref (T:="list") (U:="int") (by decide) ⟨_,e,rfl⟩ (fun s'=>typeIs_int s' k t) noFill_list_mul F.fills_int_mul F.slot_int_rmul repeat_list F.slot_int_index.lookup
  (D8 F.slot_int_rmul (typeIs_int s k t) F.entry_int_rmul (F.args_int_rmul_2 _ _) (int___rmul___int_list k t l its.toArray n)
   ⟨e,rfl,⟨_,e,rfl⟩,D8 F.slot_list_mul ⟨_,e,rfl⟩ F.entry_list_mul (F.args_list_mul_2 _ _) (AutoListH.list___mul___list_int_3 l its.toArray n k t hfit hcap hlong) ⟨e, ?_⟩⟩)
 rw [hnew];exact⟨.ref _,_,I.lnew (t':=s.toks) (r.rep k.toNat) (by rw [qI_,Nat.mul_comm];exact hz),rfl,q _ I.fresh⟩
end
section
variable {prog:Program}{w:World}{A:Around}{E:Value->Shared->Prop}{s:Shared}
end
section
variable {X:Cx}
end
end L2
namespace Att
open PySem PySem.W PySem.Calls PyProof.Rows
theorem e3_ {P:Params}{h:Heap}:∀(ns:List Int) (vs:List Value),WellAll P h vs (ns.map WData.int)->IntsAre vs ns:=by
 intro ns;induction ns with
 |nil=>
  intro vs w;rw [Ct] at w;cases w;exact .nil
 |cons n ns ih=>
  intro vs w;rw [AJ] at w;cases w with
  |cons a b=>
   cases a;exact .cons _ _ (ih _ b)
theorem lr_ {l:OpenLaw}{n:Nat} (hn:l.most=some n) {P:Params}{h:Heap}{args:List WData}{vals:List Value}
  (hpre:l.row.toRowW.claim.pre args=true) (hwl:WellAll P h vals args):
  ∃a vs ns,vals=[Value.ref a]/\args=[WData.list (ns.map WData.int)]/\h.get? a=some {cls:= .type "list",data:= .seq vs.toArray}/\IntsAre vs ns/\ns.length<=n:=by
 have hsh:WShape.hasAll [] args [.list .int]=true:=(pre_splitW hpre).1;have hc:l.pre.holds [] {args:=args}=true:=(pre_splitW hpre).2;obtain⟨d,r,rfl,h1,h2⟩:=hasAllW_cons hsh;obtain rfl:=hasAllW_nil h2;obtain⟨xs,rfl,h3⟩:=hasW_list h1;obtain⟨ns,rfl⟩:=items_int h3;have hlen:ns.length<=n:=by
  unfold OpenLaw.pre at hc;have h4:(WTm.not (.lt (.lit (.int (n:Int))) (.len (.arg 0)))).holds [] {args:=[.list (ns.map .int)]}=true:=by
   have h4:=(holds_andW hc).1;rw [hn] at h4;exact h4
  have h5:=condW_of h4 (w_not (w_lt w_lit (w_len_list (w_arg rfl))));rw [A2] at h5;refine Nat.le_of_not_lt fun q=> ?_;have q':(n:Int)<((ns.length:Nat):Int):=by lia
  first
   |(rw [B5 q'] at h5;exact absurd h5 (by decide))
   |(simp at h5;lia)
 cases hwl with
 |cons w1 w2=>
  cases w2;cases w1 with
  |list ho hall=>exact⟨_,_,ns,rfl,rfl,ho,e3_ ns _ hall,hlen⟩
theorem lK_ (l:OpenLaw) (args:List WData):l.row.toRowW.claim.post args (.bool true) args=true:=
 postW_of (r:=l.row.toRowW) (X:=(true==true))
  (show WShape.has [] (.bool true) .bool=true by first|rfl|decide|simp [WShape.has,WShape.arms,WShape.armsAll])
  (show(WTm.eq .res (.lit (.bool true))).value [] {args:=args,res:=some (.bool true),after:=args}=some (.bool (true==true)) from w_eq_bool (w_res rfl) w_lit) rfl
theorem attach_call {l:OpenLaw}{n:Nat}{q:Program}{loose:List Str}{XP:(Str->Option Value)->Heap->Prop}{YP:World->Heap->Prop}{d:DefRec}
  (hn:l.most=some n) (hdf:d.params.defaults=[])
  (call:∀(w:World) (s₀ s₁:Shared) (mg mb:Str->Option Value) (fa:Addr) (o:Obj) (pm cd doc:Value) (a:Addr) (vs:List Value) (ns:List Int),
   Ground q loose [] XP w s₀ mg mb s₁.heap->YP w s₁.heap->
   s₁.heap.get? fa=some o->o.data= .func (docDef d.name d.params d.body d.scope pm cd doc)->s₁.heap.CodeRec cd d.name->mg d.name=some (.ref fa)->
   s₁.heap.get? a=some {cls:= .type "list",data:= .seq vs.toArray}->IntsAre vs ns->ns.length<=n->s₁.gens= #[]->
   codeAny (model l.prog w) callerA (.call (.ref fa) ⟨[.ref a],[]⟩) (fun r s'=>r= .ok (.ret (.bool true))/\OldK s₁.heap s'.heap/\s'.os=s₁.os/\AllBare s'.gens) s₁):
  WalkO q loose XP YP l.row.toRowW d [] (fun f vs=>PySem.call f vs):=by
 intro w s₀ s₁ mg mb G Y fa o pm cd doc dV kV ho hd hcd hD hmg hg args vals as hpre hlay hrd hwl hlo;obtain rfl:dV= .none:=Dflts.none hD hdf;obtain rfl:kV= .none:=Dflts.noKw hD;obtain⟨a,vs,ns,rfl,rfl,hobj,hints,hlen⟩:=lr_ hn hpre hwl;refine enter_call (Ce (call w s₀ s₁ mg mb fa o pm cd doc a vs ns G Y ho (fd_plain hd) hcd hmg hobj hints hlen hg) fun r s' hq=> ?_);obtain⟨rfl,h2,h3,h4⟩:=hq;exact⟨.inl ⟨.bool true, .bool true,[],rfl,fun _=>rfl, .bool true,lK_ l _,fun _=>⟨List.Pairwise.nil,fun _ hm=>(nomatch hm)⟩⟩,h2,h3,h4⟩
section
variable {prog:Program}{w:World}{A:Around}{E:Value->Shared->Prop}{s:Shared}{K:Frag}
noncomputable def uW_ (h:Heap) (L d:Addr):List (Addr×Obj):=(List.range h.objs.size).filterMap fun a=>if a=L\/a=d then none else(h.get? a).map fun o=>(a,o)
end
end Att
namespace L2
open PySem PySem.Spec PyProof.Rows
theorem g5_:∀{vs:List Value}{ns:List Int},IntsAre vs ns->aR_ (ns.map V.int) vs
 |_,_, .nil=> .nil
 |_,_, .cons n t h=> .cons ⟨t,rfl⟩ (g5_ h)
noncomputable def uM_ (H:Hp):Prop:=∀b,H b=none\/∃o xs,H b=some (.frz o (.lst xs))
theorem om_ {P:Program}{w:World}{K:W.Frag}{mg mb:Str->Option Value}{CX:CXT}{k:Nat}{fa a:Addr}{fd:FuncData}{x:Str}{sp:Sp}{s₁:Shared}{vs:List Value}{ns:List Int}
  (KX:K.In s₁.heap) (hns:s₁.heap.Ns mainGlobals mg) (hb:s₁.heap.Ns builtinsNs mb) (hbb:∀x:Str,x≠"__name__"->mb x=bootBuiltins x) (hlim:s₁.heap.NoLimit) (hg:s₁.gens= #[])
  (ha:s₁.heap.get? a=some {cls:= .type "list",data:= .seq vs.toArray}) (hi:IntsAre vs ns) (hl:ns.length<=sizeLine) (hr:Room k callerA)
  (F:∀base:Heap,K.In base->base.Ns mainGlobals mg->FnOk P w K mg base CX k fa fd [x] sp) (hbind:∀(s:Shared) (u:Value),BindsTo s fd ⟨[u],[]⟩ [(x,u)])
  (hsp:∀H:Hp,uM_ H->SqL K H a (ns.map V.int)->sp [.ref a] H (fun v _=>v= .bl true) fun _ _ _=>False)
  (hCX:∀H e s',CX [] H s₁ (fun _ _ _=>False) e s'->False):
  codeAny (model P w) callerA (.call (.ref fa) ⟨[.ref a],[]⟩) (fun r s'=>r= .ok (.ret (.bool true))/\OldK s₁.heap s'.heap/\s'.os=s₁.os/\AllBare s'.gens) s₁:=by
 have rv:=g5_ hi;have lenV:=hi.length;have core:∀H:Hp,uM_ H->SqL K H a (ns.map V.int)->HOk P w H s₁.heap->(∀b,H b≠none->b=a)->(H a≠none->K.lookup a=none)->
   codeAny (model P w) callerA (.call (.ref fa) ⟨[.ref a],[]⟩) (fun r s'=>r= .ok (.ret (.bool true))/\OldK s₁.heap s'.heap/\s'.os=s₁.os/\AllBare s'.gens) s₁:=by
  intro H hO hS hok hA hK;have base_of:∀{b:Addr}{o:Obj},s₁.heap.get? b=some o->H b=none->(ox_ s₁.heap H).get? b=some o:=fun e n=>ow_ e n;have noA:∀{b:Addr}{o:Obj}{es:Array DictEntry}{ep:Nat},s₁.heap.get? b=some o->o.data= .dict es ep->H b=none:=fun{b o es ep} e d=>by
   cases q:H b with
   |none=>rfl
   |some u=>
    have e':b=a:=hA b (by rw [q];simp);subst e';rw [ha] at e;cases e;have d':Data.seq vs.toArray _=Data.dict es ep:=d;cases d'
  have nsK:∀{b:Addr}{m:Str->Option Value},s₁.heap.Ns b m->(ox_ s₁.heap H).Ns b m:=fun{b m} ⟨o,es,ep,e,d,r⟩=>⟨o,es,ep,base_of e (noA e d),d,r⟩;have hKb:K.In (ox_ s₁.heap H):=fun b o e=>base_of (KX b o e) (by
   cases q:H b with
   |none=>rfl
   |some u=>
    have e':b=a:=hA b (by rw [q];simp);subst e';rw [hK (by rw [q];simp)] at e;cases e)
  have hM:Mod K mg (ox_ s₁.heap H):=⟨hKb,nsK hns,⟨mb,nsK hb,hbb⟩,let ⟨mc,h1,h2⟩:=hlim;⟨mc,nsK h1,h2⟩⟩;have e0:Env0 P w K mg (ox_ s₁.heap H) callerA [] s₁ H:=⟨rfl,hM,fun b o e=>qv_ e,Nat.le_of_eq (mK_ _ _),trivial,fun b hb=>absurd (show b∈([]:List Addr) from hb) (by simp),hok, .of_eq hg⟩;refine Ce ((F _ hKb (nsK hns)).run callerA [] s₁ H ⟨[.ref a],[]⟩ [.ref a] [.ref a] _ _ hr e0 (hbind s₁ (.ref a)) (.cons rfl .nil) (hsp H hO hS)) fun r s' h=> ?_;cases r with
  |error e=>exact(hCX H e s' h).elim
  |ok fl=>
   cases fl with
   |next=>exact False.elim h
   |brk=>exact False.elim h
   |cont=>exact False.elim h
   |ret u=>
    obtain⟨v,H',os,bare,un,hok',r',q⟩:=h;have q':v= .bl true:=q;subst q';obtain rfl:u=Value.bool true:=r';refine⟨rfl,OldK.of_keep fun b o e=> ?_,os,bare⟩;cases q:H b with
    |none=>exact un.keep b o e q (by intro z;exact absurd (show b∈([]:List Addr) from z) (by simp)) (by simp)
    |some u=>
     rcases hO b with z|⟨ob,xs,z⟩
     .rw [q] at z;cases z
     .have z2:=un.frzs b ob _ z;obtain⟨e1,_⟩:=hok b _ z;obtain⟨e2,_⟩:=hok' b _ z2;rw [e] at e1;cases e1;exact e2
 cases hk:K.lookup a with
 |some o=>
  have e:=KX a o hk;rw [ha] at e;cases e;refine core (fun _=>none) (fun _=> .inl rfl) (.inr ⟨_,vs.toArray,_,hk,rfl,rfl,rfl,by rw [AD,lenV];exact hl,by simpa using rv⟩) (fun b u z=>by have z':(none:Option HO)=some u:=z;cases z') (fun b z=>absurd rfl z) fun z=>absurd rfl z
 |none=>
  refine core (fun b=>if b=a then some (.frz {cls:= .type "list",data:= .seq vs.toArray} (.lst (ns.map V.int))) else none) (fun b=> ?_) (.inl (.inr ⟨{cls:= .type "list",data:= .seq vs.toArray},A6 rfl⟩)) (fun b u z=> ?_) (fun b z=> ?_) fun _=>hk
  .by_cases hb:b=a
   .exact .inr ⟨_,_,A6 hb⟩
   .exact .inl (A5 hb)
  .by_cases hb:b=a
   .have z':=(A6 hb).symm.trans z;cases z';subst hb;exact⟨ha,by rw [A2];exact hl,vs,_,rv,ha⟩
   .have z':=(A5 hb).symm.trans z;cases z'
  .by_cases hb:b=a
   .exact hb
   .exact absurd (A5 hb) z
end L2
namespace L2
open PySem PySem.Spec PyProof.Rows
theorem pE_ {l:W.OpenLaw}{n k:Nat}{q:Program}{loose:List Str}{XP:(Str->Option Value)->Heap->Prop}{YP:World->Heap->Prop}{d:DefRec}{K:Params->W.Frag}{CX:World->CXT}{sp:World->Sp}{x:Str}
  (hn:l.most=some n) (hn2:n<=sizeLine) (hdf:d.params.defaults=[]) (hr:Room k callerA)
  (hY:∀(w:World) (h:Heap),YP w h->(K w.params).In h)
  (F:∀(w:World) (mg:Str->Option Value) (fa:Addr) (h:Heap),(K w.params).In h->h.Ns mainGlobals mg->mg d.name=some (.ref fa)->
   ∃fd:FuncData,(∀(s:Shared) (u:Value),BindsTo s fd ⟨[u],[]⟩ [(x,u)])/\
    ∀base:Heap,(K w.params).In base->base.Ns mainGlobals mg->FnOk l.prog w (K w.params) mg base (CX w) k fa fd [x] (sp w))
  (hsp:∀(w:World) (H:Hp) (a:Addr) (ns:List Int),ns.length<=n->uM_ H->SqL (K w.params) H a (ns.map V.int)->sp w [.ref a] H (fun v _=>v= .bl true) fun _ _ _=>False)
  (hCX:∀(w:World) (H:Hp) (s:Shared) (e:Value) (s':Shared),CX w [] H s (fun _ _ _=>False) e s'->False):
  W.WalkO q loose XP YP l.row.toRowW d [] (fun f vs=>PySem.call f vs):=by
 refine Att.attach_call hn hdf fun w s₀ s₁ mg mb fa o pm cd doc a vs ns G Y ho hd hcd hmg hobj hints hlen hg=> ?_;have KX:=hY w _ Y;obtain⟨fd,hb,hF⟩:=F w mg fa _ KX G.T.g hmg;exact om_ KX G.T.g G.T.b G.T.builtins G.T.nolimit hg hobj hints (BO hlen hn2) hr hF hb (fun H hO hS=>hsp w H a ns hlen hO hS) fun H e s'=>hCX w H s₁ e s'
end L2
namespace L2
open PySem PySem.Spec PyProof.Rows
noncomputable def cm_ (s:Stmt):Arguments:=match s with
 | .FunctionDef _ a _ _ _ _ _ _ _ _=>a
 |_=>{posonlyargs:=[],args:=[],vararg:=none,kwonlyargs:=[],kw_defaults:=[],kwarg:=none,defaults:=[]}
noncomputable def a0_ (s:Stmt):List Stmt:=match s with
 | .FunctionDef _ _ b _ _ _ _ _ _ _=>b
 |_=>[]
noncomputable def ag_ (s:Stmt):Scope:=match s with
 | .FunctionDef _ _ _ _ _ _ sc _ _ _=>sc
 |_=>{kind:= .function,names:=[],isGenerator:=false,isCoroutine:=false}
noncomputable abbrev CX0:CXT:=fun _ _ _ _ _ _=>False
noncomputable abbrev E0:XK:=fun _ _ _=>False
theorem as_ {X:Cx}:fc_ CX0 X E0:=fun _ _ _ _ _ _ _ h=>h.elim
structure Fun (K:W.Frag) (x qual:Str) (st:Stmt) (f:Addr) (fd:FuncData):Prop where
 ex:∃(oc:Value) (od:Option Addr) (kV doc pm:Value) (an:Option Addr) (cdv ct:Value) (osl:Array (Option Value)),
  fd=W.fnOf x qual (cm_ st) (a0_ st) (ag_ st) .none kV doc pm an cdv ct/\K.lookup f=some ⟨oc,od, .func fd,osl⟩/\W.codeIn K cdv qual=true
 kp:W.keepIn K (.ref f)=true
section
variable {P:Program}{w:World}{K:W.Frag}{mg:Str->Option Value}{base:Heap}
theorem Fun.ok {x qual:Str}{st:Stmt}{f:Addr}{fd:FuncData}{N ps:List Str}{k:Nat}{sp:Sp} (F:Fun K x qual st f fd) (S:FnScope N ps (ag_ st)) (len:∀vs H Q E,sp vs H Q E->vs.length=ps.length)
  (hbody:∀(cdv:Value) (A:Around) (outer:List Env) (s:Shared) (H:Hp) (vs:List V) (Q:VK) (E:XK),Room k (A.deeper (envOfC qual (ag_ st) s.heap.objs.size f cdv))->sp vs H Q E->
   ∃t,PSs (kU_ CX0 P w K mg base N qual (ag_ st) f cdv A outer s H E).nox (a0_ st) t/\t {nx:=fun _ H'=>Q .non H',rt:=Q} (start N vs) H):FnOk P w K mg base CX0 (k+1) f fd ps sp:=by
 obtain⟨oc,od,kV,doc,pm,an,cdv,ct,osl,rfl,lk,hcd⟩:=F.ex;refine sJ_ lk hcd S len fun A outer s H vs Q E hr hsp=> ?_;obtain⟨t,h,q⟩:=hbody cdv A outer s H vs Q E hr hsp;exact⟨t,h.nox,q⟩
theorem Fun.binds {x qual:Str}{st:Stmt}{f:Addr}{fd:FuncData}{ps:List Str} (F:Fun K x qual st f fd)
  (h:∀(kV doc pm:Value) (an:Option Addr) (cdv ct:Value) (us:List Value),us.length=ps.length->bindArgs (W.fnOf x qual (cm_ st) (a0_ st) (ag_ st) .none kV doc pm an cdv ct) ⟨us,[]⟩=pure (ps.zip us)):ic_ K fd ps []:=by
 obtain⟨oc,od,kV,doc,pm,an,cdv,ct,osl,rfl,lk,hcd⟩:=F.ex;exact .all (h kV doc pm an cdv ct)
theorem sI_ {x qual:Str}{st:Stmt}{f:Addr}{oc:Value}{od an:Option Addr}{osl:Array (Option Value)}{kV doc pm cdv ct:Value} (l:K.lookup f=some ⟨oc,od, .func (W.fnOf x qual (cm_ st) (a0_ st) (ag_ st) .none kV doc pm an cdv ct),osl⟩)
  (c:W.codeIn K cdv qual=true) (k:W.keepIn K (.ref f)=true):Fun K x qual st f (W.fnOf x qual (cm_ st) (a0_ st) (ag_ st) .none kV doc pm an cdv ct):=⟨⟨oc,od,kV,doc,pm,an,cdv,ct,osl,rfl,l,c⟩,k⟩
end
theorem ou_ {A:Around}{k:Nat} (hr:Room k A):A.units+1<cLine:=Nat.lt_of_le_of_lt (Nat.add_le_add_left (by decide:1<=64) _) hr.units
theorem al_ {n:Nat} (h:n<=1000):n<sizeLine:=Nat.lt_of_le_of_lt h (by decide)
section
variable {X:Cx}
theorem pv (i:Nat) {x:Str}{pos:Pos} (hN:X.N[i]? =some x:=by rfl) (hv:Vis X.env.scope x:=by first|exact Or.inl rfl|exact Or.inr (Or.inl rfl)|exact Or.inr (Or.inr rfl)) (hd:(x==("__debug__":Str))=false:=by decide)
  (hcd:(x==("__classdict__":Str))=false:=by decide):PE X (.Name x pos) (s4_ i):=r9_ hN hv hd hcd
end
theorem fm_ {A B:Prop} (h:B):if false=true then A else B:=by
 rw [A5 AZ];exact h
theorem j4_ {A B:Prop} (h:A):if true=true then A else B:=by
 rw [A6 rfl];exact h
noncomputable def ak_ (H H':Hp):Prop:=∀b o,H b=some o->H' b=some o
theorem ak_.refl (H:Hp):ak_ H H:=fun _ _ h=>h
theorem ak_.trans {H H1 H2:Hp} (a:ak_ H H1) (b:ak_ H1 H2):ak_ H H2:=fun c o h=>b c o (a c o h)
theorem ak_.free {H H':Hp} (e:ak_ H H') {l:Addr} (h:H' l=Option.none):H l=Option.none:=by
 cases q:H l with
 |none=>rfl
 |some o=>
  rw [e l o q] at h;cases h
theorem ak_.seq {K:W.Frag}{H H':Hp}{a:Addr}{xs:List V} (e:ak_ H H') (h:SqL K H a xs):SqL K H' a xs:=by
 rcases h with(h|⟨o,h⟩)|h
 .exact .inl (.inl (e _ _ h))
 .exact .inl (.inr ⟨o,e _ _ h⟩)
 .exact .inr h
end L2
set_option maxHeartbeats 4000000
namespace L2
open PySem PySem.Spec PyProof.Rows
section
variable {κ:Type} [DecidableEq κ]
noncomputable def c4_ (kvs:List (κ×V)) (k:κ):Option V:=(kvs.find? fun kv=>decide (kv.1=k)).map (·.2)
noncomputable def dh_ (kvs:List (κ×V)) (k:κ) (v:V):List (κ×V):=
 if(kvs.any fun kv=>decide (kv.1=k))=true then kvs.map (fun kv=>if kv.1=k then(kv.1,v) else kv) else kvs++[(k,v)]
theorem a1_ {p:κ×V}{r:List (κ×V)}{k:κ} (e:p.1=k):c4_ (p::r) k=some p.2:=by simp [c4_,BP,e]
theorem bb_ {p:κ×V}{r:List (κ×V)}{k:κ} (e:¬p.1=k):c4_ (p::r) k=c4_ r k:=by simp [c4_,BP,e]
theorem b9_ (k:κ):∀kvs:List (κ×V),(kvs.any fun kv=>decide (kv.1=k))=(c4_ kvs k).isSome
 |[]=>rfl
 |p::r=>by
  rw [List.any_cons];by_cases e:p.1=k
  .simp only [a1_ e,B5 e,Bool.true_or,Option.isSome_some]
  .rw [bb_ e,Ao e,Bool.false_or];exact b9_ k r
theorem je_ (k j:κ) (y:V):∀kvs:List (κ×V),c4_ (kvs.map fun kv=>if kv.1=k then(kv.1,y) else kv) j=(c4_ kvs j).map fun x=>if j=k then y else x
 |[]=>rfl
 |p::r=>by
  have ih:=je_ k j y r;rw [AJ];by_cases h:p.1=k
  .rw [A6 h];by_cases e:p.1=j
   .rw [a1_ (p:=(p.1,y)) e,a1_ e,Be,A6 (e.symm.trans h)]
   .rw [bb_ (p:=(p.1,y)) e,bb_ e,ih]
  .rw [A5 h];by_cases e:p.1=j
   .rw [a1_ (p:=p) e,a1_ e,Be,A5 (fun z=>h (e.trans z))]
   .rw [bb_ (p:=p) e,bb_ e,ih]
theorem g6_ (k j:κ) (y:V):∀kvs:List (κ×V),c4_ kvs k=none->c4_ (kvs++[(k,y)]) j=if j=k then some y else c4_ kvs j
 |[],_=>by
  by_cases e:k=j
  .rw [A6 e.symm];exact a1_ (p:=(k,y)) e
  .rw [A5 (fun z=>e z.symm)];exact bb_ (p:=(k,y)) e
 |p::r,hn=>by
  rw [CH];have hk:¬p.1=k:=fun z=>by rw [a1_ z] at hn;cases hn
  rw [bb_ hk] at hn;have ih:=g6_ k j y r hn;by_cases e:p.1=j
  .rw [a1_ e,a1_ e,A5 (fun z=>hk (e.trans z))]
  .rw [bb_ e,bb_ e,ih]
theorem fR_ (kvs:List (κ×V)) (k j:κ) (y:V):c4_ (dh_ kvs k y) j=if j=k then some y else c4_ kvs j:=by
 unfold dh_;by_cases a:(kvs.any fun kv=>decide (kv.1=k))=true
 .rw [A6 a,je_];rw [b9_] at a;by_cases e:j=k
  .obtain⟨x,hx⟩:=Option.isSome_iff_exists.mp a;rw [A6 e,e,hx,Be,A6 rfl]
  .rw [A5 e];cases c4_ kvs j with
   |none=>rfl
   |some x=>rw [Be,A5 e]
 .rw [A5 a];refine g6_ k j y kvs ?_;rw [b9_] at a;cases q:c4_ kvs k with
  |none=>rfl
  |some x=>rw [q] at a;exact(a rfl).elim
theorem dC_ (kvs:List (κ×V)) (k:κ) (v:V):(dh_ kvs k v).length<=kvs.length+1:=by
 unfold dh_;split
 .rw [A2];lia
 .rw [AF,An,List.length_nil];lia
theorem jA_ {kvs:List (κ×V)}{k:κ} (v:V) (h:c4_ kvs k=none):dh_ kvs k v=kvs++[(k,v)]:=by
 unfold dh_;rw [b9_,h];exact A5 (by decide)
theorem i9_.isSome_eq {o:Option V}{u:Option Value} (r:i9_ o u):o.isSome=u.isSome:=by
 cases o with
 |none=>cases u with
  |none=>rfl
  |some _=>exact(show False from r).elim
 |some _=>cases u with
  |none=>exact(show False from r).elim
  |some _=>rfl
theorem i9_.getD {o:Option V}{u:Option Value}{d:V}{d':Value} (r:i9_ o u) (rd:aV_ d d'):aV_ (o.getD d) (u.getD d'):=by
 cases o with
 |none=>cases u with
  |none=>exact rd
  |some _=>exact(show False from r).elim
 |some _=>cases u with
  |none=>exact(show False from r).elim
  |some _=>exact r
theorem KV.val {kvs:List (κ×V)}{vs:List (κ×Value)} (r:KV kvs vs) (k:κ):i9_ (c4_ kvs k) (valueAt vs k):=by
 unfold KV at r;induction r with
 |nil=>exact True.intro
 | @cons p q ps qs h t ih=>
  obtain⟨h1,h2⟩:=h;by_cases e:p.1=k
  .have e':q.1=k:=h1.symm.trans e;have b:valueAt (q::qs) k=some q.2:=by simp [valueAt,BP,e']
   rw [a1_ e,b];exact h2
  .have e':¬q.1=k:=fun z=>e (h1.trans z);have b:valueAt (q::qs) k=valueAt qs k:=by simp [valueAt,BP,e']
   rw [bb_ e,b];exact ih
theorem KV.any {kvs:List (κ×V)}{vs:List (κ×Value)} (r:KV kvs vs) (k:κ):(kvs.any fun kv=>decide (kv.1=k))=vs.any fun kv=>decide (kv.1=k):=by
 unfold KV at r;induction r with
 |nil=>rfl
 |cons h t ih=>rw [List.any_cons,List.any_cons,ih,h.1]
theorem KV.repl {kvs:List (κ×V)}{vs:List (κ×Value)} (r:KV kvs vs) (k:κ) {y:V}{u:Value} (ry:aV_ y u):
  KV (kvs.map fun kv=>if kv.1=k then(kv.1,y) else kv) (vs.map fun kv=>if kv.1=k then(kv.1,u) else kv):=by
 unfold KV at r⊢;induction r with
 |nil=>exact .nil
 | @cons p q ps qs h t ih=>
  rw [AJ,AJ];refine .cons ?_ ih;obtain⟨h1,h2⟩:=h;by_cases e:p.1=k
  .rw [A6 e,A6 (h1.symm.trans e)];exact⟨h1,ry⟩
  .rw [A5 e,A5 (fun z=>e (h1.trans z))];exact⟨h1,h2⟩
theorem KV.put {kvs:List (κ×V)}{vs:List (κ×Value)} (r:KV kvs vs) (k:κ) {y:V}{u:Value} (ry:aV_ y u):KV (dh_ kvs k y) (stored vs k u):=by
 unfold dh_ stored;rw [r.any k];by_cases e:(vs.any fun kv=>decide (kv.1=k))=true
 .rw [A6 e,A6 e];exact r.repl k ry
 .rw [A5 e,A5 e];exact Paired.snoc r ⟨rfl,ry⟩
theorem KV.length {kvs:List (κ×V)}{vs:List (κ×Value)} (r:KV kvs vs):kvs.length=vs.length:=Bq r
end
theorem oq_ {P:Program}{w:World}{k:Key}{u:Value} (r:aV_ (kV k) u):(aZ_ P w).is k u=true:=by
 cases k with
 |inl i=>obtain⟨t,e⟩:=(show∃t,u=Value.int i t from r);subst e;exact iN_ P w i t
 |inr x=>obtain⟨t,e⟩:=(show∃t,u=Value.str x t from r);subst e;exact iM_ P w x t
theorem hM_ {P:Program}{w:World}:∀{ks:List Key}{us:List Value},aR_ (ks.map kV) us->ItemsAre (aZ_ P w) ks us
 |[],_,r=>by rw [Ct] at r;cases r;exact .nil
 |k::ks,_,r=>by
  rw [AJ] at r;cases r with
  |cons h t=>exact .cons (oq_ h) (hM_ t)
noncomputable abbrev KT (H:Hp):List (List Key×V)->List (List Key×Addr×Value)->Prop:=Paired fun p q=>p.1=q.1/\H q.2.1=some (.tup (p.1.map kV))/\aV_ p.2 q.2.2
theorem KT.val {H:Hp}{kvs:List (List Key×V)}{xs:List (List Key×Addr×Value)} (r:KT H kvs xs) (k:List Key):i9_ (c4_ kvs k) ((atKey xs k).map (·.2)):=by
 induction r with
 |nil=>exact True.intro
 | @cons p q ps qs h t ih=>
  obtain⟨h1,_,h2⟩:=h;by_cases e:p.1=k
  .have e':q.1=k:=h1.symm.trans e;have b:atKey (q::qs) k=some q.2:=by simp [atKey,BP,e']
   rw [a1_ e,b];exact h2
  .have e':¬q.1=k:=fun z=>e (h1.trans z);have b:atKey (q::qs) k=atKey qs k:=by simp [atKey,BP,e']
   rw [bb_ e,b];exact ih
theorem KT.repl {H:Hp}{kvs:List (List Key×V)}{xs:List (List Key×Addr×Value)} (r:KT H kvs xs) (k:List Key) {y:V}{u:Value} (ry:aV_ y u):
  KT H (kvs.map fun kv=>if kv.1=k then(kv.1,y) else kv) (xs.map (putAt k u)):=by
 induction r with
 |nil=>exact .nil
 | @cons p q ps qs h t ih=>
  rw [AJ,AJ];refine .cons ?_ ih;obtain⟨h1,h2,h3⟩:=h;unfold putAt;by_cases e:p.1=k
  .rw [A6 e,A6 (h1.symm.trans e)];exact⟨h1,h2,ry⟩
  .rw [A5 e,A5 (fun z=>e (h1.trans z))];exact⟨h1,h2,h3⟩
theorem KT.put {H:Hp}{kvs:List (List Key×V)}{xs:List (List Key×Addr×Value)} (r:KT H kvs xs) (k:List Key) {b:Addr}{y:V}{u:Value} (hb:H b=some (.tup (k.map kV))) (ry:aV_ y u):
  KT H (dh_ kvs k y) (storedH xs k b u):=by
 have e:(kvs.any fun kv=>decide (kv.1=k))=(atKey xs k).isSome:=by
  rw [b9_,(r.val k).isSome_eq,Option.isSome_map]
 unfold dh_ storedH;rw [e];by_cases q:(atKey xs k).isSome=true
 .rw [A6 q,A6 q];exact r.repl k ry
 .rw [A5 q,A5 q];exact Paired.snoc r ⟨rfl,hb,ry⟩
theorem KT.keeps {H H':Hp}{kvs:List (List Key×V)}{xs:List (List Key×Addr×Value)} (r:KT H kvs xs) (ht:∀b ys,H b=some (.tup ys)->H' b=some (.tup ys)):KT H' kvs xs:=
 Paired.mapP r fun _ _ z=>⟨z.1,ht _ _ z.2.1,z.2.2⟩
section
variable {P:Program}{w:World}{H:Hp}{h:Heap}{a:Addr}
theorem nS_ {u:HO} (ok:HOk P w H h) (e:Rd H a u):aH_ P w H h a u:=e.ok ok
theorem mU_ {kvs:List (Key×V)} (ok:HOk P w H h) (e:Rd H a (.dK kvs)):kvs.length<=sizeLine/\(a==sysModules)=false/\∃vs,KV kvs vs/\h.DictOf (aZ_ P w) a vs:=
 show aH_ P w H h a (.dK kvs) from nS_ ok e
theorem uf_ {kvs:List (Key×V)} (ok:HOk P w H h) (e:H a=some (.dK kvs)):kvs.length<=sizeLine/\(a==sysModules)=false/\∃vs,KV kvs vs/\h.DictOf (aZ_ P w) a vs:=mU_ ok (.inl e)
theorem hK_ {ks:List Key} (ok:HOk P w H h) (e:H a=some (.tup (ks.map kV))):(tupleKind (aZ_ P w)).is h ks a:=by
 obtain⟨_,its,r,o,h1,h2,n,h3⟩:=(show aH_ P w H h a (.tup (ks.map kV)) from ok a _ e);exact⟨o,its.toArray,n,h1,h2,h3,by simpa using hM_ r⟩
theorem mS_ {kvs:List (List Key×V)} (ok:HOk P w H h) (e:Rd H a (.dT kvs)):kvs.length<=sizeLine/\(a==sysModules)=false/\
  ∃xs,KT H kvs xs/\h.DictOfH (tupleKind (aZ_ P w)) a xs:=by
 obtain⟨z,y,xs,r,o,es,ep,h1,h2,h3,h4,h5⟩:=(show aH_ P w H h a (.dT kvs) from nS_ ok e);refine⟨z,y,xs,r,o,es,ep,h1,h2,h3,h4,fun x hx=> ?_,h5⟩;have all:∀{l:List (List Key×V)}{m:List (List Key×Addr×Value)},KT H l m->∀x∈m,(tupleKind (aZ_ P w)).is h x.1 x.2.1:=by
  intro l m q;induction q with
  |nil=>intro x hx;exact nomatch hx
  | @cons p q ps qs hq t ih=>
   intro x hx;rcases AK.mp hx with e|hx
   .subst e;exact hK_ ok (by rw [<-hq.1];exact hq.2.1)
   .exact ih x hx
 exact all r x hx
theorem sP_ {kvs:List (List Key×V)} (ok:HOk P w H h) (e:H a=some (.dT kvs)):kvs.length<=sizeLine/\(a==sysModules)=false/\
  ∃xs,KT H kvs xs/\h.DictOfH (tupleKind (aZ_ P w)) a xs:=mS_ ok (.inl e)
end
noncomputable def px_ (H:Hp) (a:Addr) (y:V) (r:Option V):Prop:=
 (∃kvs k,Rd H a (.dK kvs)/\y=kV k/\r=c4_ kvs k)\/∃kvs k b,Rd H a (.dT kvs)/\y= .ref b/\H b=some (.tup (k.map kV))/\r=c4_ kvs k
noncomputable def s1_ (H:Hp) (a:Addr) (y v:V) (H':Hp):Prop:=
 (∃kvs k,H a=some (.dK kvs)/\y=kV k/\kvs.length<sizeLine/\H'=upd H a (.dK (dh_ kvs k v)))\/
 ∃kvs k b,H a=some (.dT kvs)/\y= .ref b/\H b=some (.tup (k.map kV))/\kvs.length<sizeLine/\H'=upd H a (.dT (dh_ kvs k v))
theorem px_.t {H:Hp}{a b:Addr}{kvs:List (List Key×V)}{k:List Key} (e:H a=some (.dT kvs)) (eb:H b=some (.tup (k.map kV))):px_ H a (.ref b) (c4_ kvs k):= .inr ⟨kvs,k,b, .inl e,rfl,eb,rfl⟩
theorem s1_.t {H:Hp}{a b:Addr}{kvs:List (List Key×V)}{k:List Key}{v:V} (e:H a=some (.dT kvs)) (eb:H b=some (.tup (k.map kV))) (hl:kvs.length<sizeLine):
  s1_ H a (.ref b) v (upd H a (.dT (dh_ kvs k v))):= .inr ⟨kvs,k,b,e,rfl,eb,hl,rfl⟩
section
variable {X:Cx}{pins:List (Addr×Obj)}{σ:St}{H:Hp}{s:Shared}{a:Addr}{y v:V}{u r:Value}{o:Option V}{A:Around}{E:Value->Shared->Prop}
theorem Inv.big (I:Inv X pins σ H s):sysModules<s.heap.objs.size:=by
 have h:mainGlobals<s.heap.objs.size:=(I.mod.glob.keeps I.bk).lt;exact Nat.lt_trans (by decide) h
theorem mW_ {Q:Value->Shared->Prop} (hu:A.units+1<cLine) (I:Inv X pins σ H s) (g:px_ H a y (some v)) (ry:aV_ y u) (h:∀w' s',Inv X pins σ H s'->aV_ v w'->Q w' s'):
  wpAny (model X.prog X.w) A (getItem (.ref a) u) Q E s:=by
 rcases g with⟨kvs,k,e,ey,l⟩|⟨kvs,k,b,e,ey,eb,l⟩
 .subst ey;obtain⟨z,hd,vs,rel,dd⟩:=mU_ I.hok e;obtain⟨w',hw,rw'⟩:=i9_.some_of (v:=v) (o:=valueAt vs k) (by rw [l];exact rel.val k);exact wpAny_getItem_of (oq_ ry) dd.mapOf hw (h w' _ (I.tok _) rw')
 .subst ey;cases (show u=Value.ref b from ry);obtain⟨z,hd,xs,rel,dd⟩:=mS_ I.hok e;obtain⟨w',hw,rw'⟩:=i9_.some_of (v:=v) (o:=(atKey xs k).map (·.2)) (by rw [l];exact rel.val k);obtain⟨p,hp,hp2⟩:=A4.mp hw;refine wpAny_getItem_heap (tupleKind_room_in1 hu) (hK_ I.hok eb) dd hp ?_;rw [hp2];exact h w' _ (I.tok _) rw'
theorem eg_ {h':Heap}{t':Nat}{ob:HO} (I:Inv X pins σ H s) (mu:Mut (H a)) (hs:Heap.SameBut a s.heap h') (he:∃q,h'.get? a=some q) (new:aH_ X.prog X.w (upd H a ob) h' a ob):
  Inv X pins σ (upd H a ob) {s with heap:=h',toks:=t'}:=
 I.write (x:=a) (e:=a) mu (.inl rfl) (fun b q hb z=>(hs.2 b hb).trans z) he new
theorem sQ_ {P:Program}{w:World}{H':Hp}{h':Heap}{kvs:List (Key×V)}{vs:List (Key×Value)} (z:kvs.length<=sizeLine) (hd:(a==sysModules)=false) (rel:KV kvs vs) (dd:h'.DictOf (aZ_ P w) a vs):
  aH_ P w H' h' a (.dK kvs):=⟨z,hd,vs,rel,dd⟩
theorem mV_ {H':Hp}{Q:Unit->Shared->Prop} (hu:A.units+1<cLine) (I:Inv X pins σ H s) (g:s1_ H a y v H') (ry:aV_ y u) (rv:aV_ v r) (h:∀s',Inv X pins σ H' s'->Q () s'):
  wpAny (model X.prog X.w) A (setItem (.ref a) u r) Q E s:=by
 rcases g with⟨kvs,k,e,ey,l,eH⟩|⟨kvs,k,b,e,ey,eb,l,eH⟩
 .subst ey eH;obtain⟨z,hd,vs,rel,dd⟩:=uf_ I.hok e;have hz:vs.length<=sizeLine:=by rw [<-rel.length];exact z
  have hl:(dh_ kvs k v).length<=sizeLine:=by have:=dC_ kvs k v;lia
  refine wpAny_setItem_pairs (hsz:=hz) (oq_ ry) dd fun h' dd' hs=>h _ ?_;have he:∃q,h'.get? a=some q:=let ⟨q,_,_,hq,_⟩:=dd';⟨q,hq⟩;exact eg_ I (by rw [e];exact True.intro) hs he (sQ_ hl hd (rel.put k rv) dd')
 .subst ey eH;cases (show u=Value.ref b from ry);obtain⟨z,hd,xs,rel,dd⟩:=sP_ I.hok e;have hz:xs.length<=sizeLine:=by rw [<-Bq rel];exact z
  have hl:(dh_ kvs k v).length<=sizeLine:=by have:=dC_ kvs k v;lia
  refine wpAny_setItem_heap (hsz:=hz) (tupleKind_room_in1 hu) (hK_ I.hok eb) dd fun h' dd' hs=>h _ ?_;obtain⟨q,es,ep,hq,h2,h3,h4,_,h5⟩:=dd';refine eg_ I (by rw [e];exact True.intro) hs ⟨q,hq⟩ ⟨hl,hd,_,(rel.put k eb rv).keeps fun c ys ec=> ?_,q,es,ep,hq,h2,h3,h4,h5⟩;rw [ao_ (oe_ ec e (fun z=>nomatch z))];exact ec
end
section
variable {X:Cx}{pins:List (Addr×Obj)}{σ:St}{H:Hp}{s:Shared}{a:Addr}{kvs:List (Key×V)}{k:Key}{u:Value}{A:Around}{E:Value->Shared->Prop}
end
noncomputable def tg_ (i:Expr):Prop:=∀ov iv,subscripted i false ov iv=operate [ov,iv] (getItem ov iv)
theorem in_ {prog:Program}{w:World}{A:Around}{E:Value->Shared->Prop}{s:Shared}{env:Env}{value slice:Expr}{pos:Pos}{T id:String}{Q:Value->Shared->Prop}
  (hl:typeLookup (.type T) "__getitem__"=pure (some (.builtin id))) (hs:tg_ slice)
  (h:wpAny (model prog w) A (eval value env) (fun o s₁=>wpAny (model prog w) A (eval slice env) (fun i s₂=>s₂.TypeIs o T/\wpAny (model prog w) A (getItem o i) Q E s₂) E s₁) E s):
  wpAny (model prog w) A (eval (.Subscript value slice pos) env) Q E s:=by
 refine Subscript_ (BC h (fun o s₁ h₁=>BC h₁ (fun i s₂ h₂=> ?_) fun _ _ x=>x) fun _ _ x=>x);obtain⟨hT,h₂⟩:=h₂;unfold subscriptTail;refine A0 ?_;rw [getitemInPython_of_ne hT.not_modules];refine A0 (C8 hT hl ?_);have fin:wpAny (model prog w) A (subscripted slice false o i) (fun r s₃=>wpAny (model prog w) A (letTemporaryGo value o r>>=fun _=>pure r) Q E s₃) E s₂:=by
  rw [hs o i];exact wpAny_operating (BC h₂ (fun r s₃ h₃=>A0 (wpAny_letTemporaryGo (A3 h₃))) fun _ _ x=>x)
 first
  |exact A3 (A0 fin)
  |exact A0 (A3 (A0 fin))
  |exact A0 fin
theorem i2_ {X:Cx}{pins:List (Addr×Obj)}{σ:St}{H:Hp}{s:Shared}{a:Addr}{y:V}{o:Option V} (I:Inv X pins σ H s) (g:px_ H a y o):s.TypeIs (.ref a) "dict":=by
 rcases g with⟨kvs,k,e,_,_⟩|⟨kvs,k,b,e,_,_,_⟩
 .obtain⟨_,_,vs,_,dd⟩:=mU_ I.hok e;exact dd.typeIs
 .obtain⟨_,_,xs,_,dd⟩:=mS_ I.hok e;exact dd.typeIs
noncomputable def ts_ (td ty:TE):TE:=fun σ H Q=>td σ H fun x H1=>ty σ H1 fun y H2=>∃a v,x= .ref a/\px_ H2 a y (some v)/\Q v H2
noncomputable def tS_ (td ty tv:TE):TS:=fun D σ H=>tv σ H fun v H1=>td σ H1 fun x H2=>ty σ H2 fun y H3=>∃a H4,x= .ref a/\s1_ H3 a y v H4/\D.nx σ H4
section
variable {X:Cx}{o i e value:Expr}{pos pos' tpos:Pos}{td ty tv:TE}
theorem ql_ (hu:X.A.units+1<cLine) (ho:PE X o td) (hi:PE X i ty) (hs:tg_ i):PE X (.Subscript o i pos) (ts_ td ty):=by
 intro pins s σ H Q I h;refine in_ PySem.F.slot_dict_getitem.lookup hs (thn (ho pins s σ H _ I h) fun u s1 ⟨x,H1,I1,rx,q1⟩=>thn (hi pins s1 σ H1 _ I1 q1) fun iv s2 ⟨y,H2,I2,ry,a,v,ex,g,q2⟩=> ?_);subst ex;obtain rfl:u=Value.ref a:=rx;exact⟨i2_ I2 g,mW_ hu I2 g ry fun w' s3 I3 rw'=>⟨v,H2,I3,rw',q2⟩⟩
theorem qd_ (hu:X.A.units+1<cLine) (ho:PE X o td) (hi:PE X i ty) (hv:PE X value tv) (hs:swapsWith value (some (.Subscript o i pos')) pos.line X.env=pure false):
  PS X (.Assign [.Subscript o i pos'] value pos) (tS_ td ty tv):=by
 intro pins s σ H D I h;refine wpAny_Assign_Subscript (thn (hv pins s σ H _ I h) fun r s1 ⟨v,H1,I1,rv,q1⟩=>thn (ho pins s1 σ H1 _ I1 q1) fun u s2 ⟨x,H2,I2,rx,q2⟩=>thn (hi pins s2 σ H2 _ I2 q2) fun iv s3 ⟨y,H3,I3,ry,a,H4,ex,g,q3⟩=> ?_) hs;subst ex;obtain rfl:u=Value.ref a:=rx;exact mV_ hu I3 g ry rv fun s4 I4=>⟨σ,H4,I4,q3⟩
end
theorem ki_ {P:Program}{w:World}{H:Hp} (h:Heap) (hb:sysModules<h.objs.size):aH_ P w H (h.push {cls:= .type "dict",data:= .dict #[]}) h.objs.size (.dT []):=
 ⟨AS _,Cp.mpr (Cs (AO hb)),[], .nil,_, #[],0,AL _ rfl,⟨rfl,rfl,rfl⟩,rfl,rfl,List.nodup_nil⟩
noncomputable def rI_:TE:=fun _ H Q=>∀p,H p=none->Q (.ref p) (upd H p (.dT []))
section
variable {X:Cx}{pos:Pos}
theorem n0_:PE X (.Dict [] [] pos) rI_:=fun pins s σ H Q I h=>
 wpAny_Dict_empty ⟨.ref s.heap.objs.size,_,I.laid (a:=s.heap.objs.size) (o:= .dT []) (t':=s.toks) (fun _ _ q=>A9 _ q) (A8 _) (ki_ s.heap I.big),rfl,h _ (I.hok.fresh (A8 _))⟩
end
structure M2 (X:Cx) (o:Expr) (m:Str) (apos:Pos) (e f:Expr) (cpos:Pos):Prop where
 base:attributeBase o m X.env (eval o X.env)=eval o X.env
 few:((backTo cpos (starEach [e,f] X.env)).all (fun x=> !x.1)&&(backToKw cpos (keywordEach [] X.env)).all (fun x=>x.1.isSome)
  &&decide (([e,f]:List Expr).length+([]:List Keyword).length+(if([]:List Keyword).isEmpty then 0 else 1)<30))=true
 line:(apos.endLine==cpos.line)=true
 trees:backTo cpos (starEach [e,f] X.env)=[(false,eval e X.env),(false,eval f X.env)]
noncomputable def IsD (H:Hp) (a:Addr):Prop:=(∃kvs,Rd H a (.dK kvs))\/∃kvs,Rd H a (.dT kvs)
theorem pi_ {X:Cx}{pins:List (Addr×Obj)}{σ:St}{H:Hp}{s:Shared}{a:Addr} (I:Inv X pins σ H s) (d:IsD H a):
  s.TypeIs (.ref a) "dict"/\(∀b,Value.ref a= .ref b->∃ob,s.heap.get? b=some ob/\ob.dict=none)/\(a==sysModules)=false:=by
 rcases d with⟨kvs,e⟩|⟨kvs,e⟩
 .obtain⟨_,hd,vs,_,dd⟩:=mU_ I.hok e;refine⟨dd.typeIs,fun b q=> ?_,hd⟩;cases q;obtain⟨ob,_,_,h1,h2,_⟩:=dd;exact⟨ob,h1,h2.2.1⟩
 .obtain⟨_,hd,xs,_,dd⟩:=mS_ I.hok e;refine⟨dd.typeIs,fun b q=> ?_,hd⟩;cases q;obtain⟨ob,_,_,h1,h2,_⟩:=dd;exact⟨ob,h1,h2.2.1⟩
section
variable {X:Cx}{pins:List (Addr×Obj)}{σ:St}{H:Hp}{s:Shared}{a:Addr}{y d:V}{u r:Value}{o:Option V}{A:Around}{E:Value->Shared->Prop}
theorem sT_ {Q:Value->Shared->Prop} (hu:A.units+1<cLine) (I:Inv X pins σ H s) (g:px_ H a y o) (ry:aV_ y u) (rd:aV_ d r) (h:∀w' s',Inv X pins σ H s'->aV_ (o.getD d) w'->Q w' s'):
  wpAny (model X.prog X.w) A (call (.builtin "dict.get") [.ref a,u,r]) Q E s:=by
 rcases g with⟨kvs,k,e,ey,l⟩|⟨kvs,k,b,e,ey,eb,l⟩
 .subst ey;obtain⟨z,hd,vs,rel,dd⟩:=mU_ I.hok e;refine call_meetsIn PySem.F.slot_dict_get dd.typeIs PySem.F.entry_dict_get (PySem.F.args_dict_get_3 _ _ _) (meets_dict_get_default (aZ_ X.prog X.w) a (oq_ ry) hd r) ⟨_,dd.mapOf,h _ _ (I.tok _) ?_⟩;rw [l];exact(rel.val k).getD rd
 .subst ey;cases (show u=Value.ref b from ry);obtain⟨z,hd,xs,rel,dd⟩:=mS_ I.hok e;refine call_meetsIn PySem.F.slot_dict_get dd.typeIs PySem.F.entry_dict_get (PySem.F.args_dict_get_3 _ _ _) (meetsH_dict_get_default (tupleKind (aZ_ X.prog X.w)) a b hd r) ⟨tupleKind_room_in1 hu,k,xs,hK_ I.hok eb,dd,h _ _ (I.tok _) ?_⟩;rw [l];exact(rel.val k).getD rd
end
noncomputable def rK_ (td ty tx:TE):TE:=fun σ H Q=>td σ H fun x H1=>∃a,x= .ref a/\IsD H1 a/\ty σ H1 fun y H2=>tx σ H2 fun z H3=>∃o,px_ H3 a y o/\Q (o.getD z) H3
section
variable {X:Cx}{o e f:Expr}{apos cpos:Pos}{td ty tx:TE}
theorem n2_ (hu:X.A.units+1<cLine) (ho:PE X o td) (he:PE X e ty) (hf:PE X f tx) (m:M2 X o "get" apos e f cpos):PE X (.Call (.Attribute o "get" apos) [e,f] [] cpos) (rK_ td ty tx):=by
 intro pins s σ H Q I h;refine wpAny_Call_method m.base m.few m.line PySem.F.plainAttrs_dict PySem.F.slot_dict_get PySem.F.type_dict_get (thn (ho pins s σ H _ I h) fun u s1 ⟨x,H1,I1,rx,a,ex,d,q1⟩=> ?_);subst ex;obtain rfl:u=Value.ref a:=rx;obtain⟨t1,t2,_⟩:=pi_ I1 d;refine⟨t1,t2, ?_⟩;rw [m.trees];refine Ck rfl (Calls.evalArgs_plain (Ca (thn (he pins s1 σ H1 _ I1 q1) fun iv s2 ⟨y,H2,I2,ry,q2⟩=>
  Ca (thn (hf pins s2 σ H2 _ I2 q2) fun fv s3 ⟨z,H3,I3,rz,ov,g,q3⟩=>Calls.spliced_nil ?_))))
 exact sT_ hu I3 g ry rz fun w' s4 I4 rw'=>⟨_,H3,I4,rw',q3⟩
end
section
variable {X:Cx}{pins:List (Addr×Obj)}{σ:St}{H:Hp}{s:Shared}{a:Addr}{kvs:List (Key×V)}{A:Around}{E:Value->Shared->Prop}
end
section
variable {X:Cx}{pins:List (Addr×Obj)}{σ:St}{H:Hp}{s:Shared}{a:Addr}{y:V}{u:Value}{A:Around}{E:Value->Shared->Prop}
end
end L2
namespace L2
open PySem PySem.Spec PyProof.Rows
section
variable {X:Cx}{pos:Pos}{a b c d:Expr}{ta tb tc td:TE}
theorem ko_:cx_ X (.builtin "isinstance") (fun xs H Q=>∃x n t b,xs=[x, .ty n]/\TyOf X.K H x t/\W.kitOne X.K t (.type n)=some b/\Q (.bl b) H):=by
 intro pins s σ H xs us Q I r h;obtain⟨x,n,t,b,rfl,ty,e,q⟩:=h;obtain⟨u,w',rfl,ru,rw'⟩:=nn_ r;obtain rfl:w'=Value.type n:=rw';exact mD_ I ru ty e fun tk=>⟨.bl b,H,I.tok tk,rfl,q⟩
end
section
open PySem.W
variable {K:Frag}
theorem jX_ {t:String}:kitOne K (.type t) (.type t)=some true:=by
 unfold kitOne;rw [A6 (by simp)]
theorem fB_ {t c:String}{b:Bool} (h1:(Value.type t==Value.type c)=false) (h2:kitMeta c=true) (h3:(fastBuiltinMro t).map (·.contains (Value.type c))=some b):kitOne K (.type t) (.type c)=some b:=by
 unfold kitOne;rw [A5 (by rw [h1];decide)];unfold kitCls;show(if kitMeta c=true then subIn K (.type t) (.type c) else none)=some b;rw [A6 h2];exact h3
theorem hI_:kitOne K (.type "int") (.type "bool")=some false:=fB_ (by ac_nf) (by ac_nf) (by ac_nf)
theorem hJ_:kitOne K (.type "bool") (.type "int")=some true:=fB_ (by ac_nf) (by ac_nf) (by ac_nf)
end
theorem iS_ {c A B:Prop} [Decidable c] (h1:c->A) (h2:¬c->B):if decide c=true then A else B:=by
 by_cases h:c
 .rw [A6 (B5 h)];exact h1 h
 .rw [A5 (by rw [Ao h];decide)];exact h2 h
theorem ne_ {A B:Prop}{i j:Int} (h1:i=j->A) (h2:i≠j->B):if decide (V.int i=V.int j)=true then A else B:=iS_ (fun h=>h1 (V.int.inj h)) fun h=>h2 fun e=>h (Bg V.int e)
theorem ak_.put {H H1:Hp}{l:Addr}{o:HO} (s:ak_ H H1) (n:H l=none):ak_ H (upd H1 l o):=fun b u e=>by
 rw [ao_ (ap_ e n)];exact s b u e
theorem ak_.new {H:Hp}{l:Addr}{o:HO} (n:H l=none):ak_ H (upd H l o):=(ak_.refl H).put n
end L2
namespace L2
open PySem PySem.Spec PyProof.Rows
theorem mZ_ {prog:Program}{w:World}{A:Around}{R:Result->Shared->Prop}{s:Shared}{elt target bS_:Expr}{ifs:List Expr}{scope:Scope}{pos:Pos}{it acc:Value}{env:Env} (I:Nat->Shared->Prop)
  (turn:∀n s,I n s->wpAny (model prog w) A (pyNext it) (fun r s₁=>match r with
   |none=>R (.ok .next) s₁
   |some v=>wpAny (model prog w) A (letOwnedTupleGo target it v) (fun _ s₁'=>wpAny (model prog w) A (assign target env v) (fun _ s₂=>
     wpAny (model prog w) A (forIn ifs true fun c r=>if r=true then do let ok<-isTrue c env (eval c env);pure (ForInStep.yield ok) else pure (ForInStep.yield r)) (fun ok s₃=>
      if ok=true then wpAny (model prog w) A (eval elt env) (fun x s₄=>
       wpAny (model prog w) A (call (.builtin "list.append") [acc,x]) (fun _ s₅=>∃m,m<n/\I m s₅) (notedBy (model prog w) A env fun e s'=>R (.error e) s') s₄) (notedBy (model prog w) A env fun e s'=>R (.error e) s') s₃
      else∃m,m<n/\I m s₃) (notedBy (model prog w) A env fun e s'=>R (.error e) s') s₂) (notedBy (model prog w) A env fun e s'=>R (.error e) s') s₁') (notedBy (model prog w) A env fun e s'=>R (.error e) s') s₁) (notedBy (model prog w) A env fun e s'=>R (.error e) s') s)
  (n:Nat) (h:I n s):
  codeAny (model prog w) A (.compLoop (.ListComp elt [⟨target,bS_,ifs,0⟩] scope pos) 0 it acc env) R s:=by
 refine codeAny_loop rfl I (fun n s hI=> ?_) n h;show wpAny _ A ((compTurn (.ListComp elt [⟨target,bS_,ifs,0⟩] scope pos) 0 it acc env).onRaise (fun x=>do noteFrame x env;theTreesLotGoes x)) _ _ s;refine wpAny_noted ?_;rw [compTurn_list];refine A0 (wpAny_standAt (A0 (BC (turn n s hI) (fun r s₁ h₁=> ?_) fun _ _ h'=>h')));cases r with
 |none=>exact A3 h₁
 |some v=>
  refine A0 (BC h₁ (fun _ s₁' h₁'=>A0 (BC h₁' (fun _ s₂ h₂=>A0 (BC h₂ (fun ok s₃ h₃=> ?_) fun _ _ h'=>h')) fun _ _ h'=>h')) fun _ _ h'=>h');cases ok with
  |false=>exact A3 ⟨rfl,h₃⟩
  |true=>
   exact A0 (A0 (BC h₃ (fun x s₄ h₄=>A0 (BC h₄ (fun _ s₅ h₅=>A3 (A3 ⟨rfl,h₅⟩)) fun _ _ h'=>h')) fun _ _ h'=>h'))
noncomputable def i5_ (env:Env):List (Str×NameKind)->List (Str×Addr)->List (Str×Addr)
 |[],cs=>cs
 |(n,k)::r,cs=>i5_ env r (if k= .free then(n,(env.cells.lookup n).getD 0)::cs else cs)
theorem gT_ {env:Env}:∀(ns:List (Str×NameKind)) (cs:List (Str×Addr)),(∀y∈ns,y.2= .free->∃c,env.cells.lookup y.1=some c)->
  (forIn ns cs fun(x:Str×NameKind) (r:List (Str×Addr))=>(if(x.2== .free)=true then do let c<-cellOf env x.1;pure (ForInStep.yield ((x.1,c)::r)) else pure (ForInStep.yield r):Sem (ForInStep (List (Str×Addr)))))=(pure (i5_ env ns cs):Sem _)
 |[],cs,_=>rfl
 |(n,k)::r,cs,h=>by
  have hr:=fun y hy=>h y (AM _ hy);by_cases hk:k= .free
  .obtain⟨c,hc⟩:=h (n,k) AI hk;subst hk;rw [List.forIn_cons];have e:cellOf env n=pure c:=by unfold cellOf;rw [hc]
   simp only [beq_self_eq_true,Bx,e,pure_bind];rw [gT_ r _ hr];show _=pure (i5_ env r (if NameKind.free=NameKind.free then(n,(env.cells.lookup n).getD 0)::cs else cs));rw [A6 rfl,show env.cells.lookup n=some c from hc];rfl
  .have hb:(k==NameKind.free)=false:=by simpa using hk
   rw [List.forIn_cons];simp only [hb,AE,Ak,pure_bind];rw [gT_ r _ hr];show _=pure (i5_ env r (if k=NameKind.free then(n,(env.cells.lookup n).getD 0)::cs else cs));rw [A5 hk]
theorem kR_ {env:Env}{scope:Scope} (h:∀y∈scope.names,y.2= .free->∃c,env.cells.lookup y.1=some c):closureFor scope env=pure (i5_ env scope.names []):=by
 unfold closureFor;have e:=gT_ scope.names [] h;simp only [bind_pure] at e⊢;exact e
theorem e9_ {env:Env}{x:Str}{c:Addr}:∀(ns:List (Str×NameKind)) (cs:List (Str×Addr)),(∀y∈ns,y.2= .free->∃c,env.cells.lookup y.1=some c)->(∀x c,cs.lookup x=some c->env.cells.lookup x=some c)->
  (i5_ env ns cs).lookup x=some c->env.cells.lookup x=some c
 |[],cs,_,hc,e=>hc x c e
 |(n,k)::r,cs,h,hc,e=>by
  unfold i5_ at e;refine e9_ r _ (fun y hy=>h y (AM _ hy)) (fun x' c' e'=> ?_) e;by_cases hk:k= .free
  .rw [A6 hk] at e';obtain⟨c0,h0⟩:=h (n,k) AI hk;rw [h0] at e';rw [Bz] at e';by_cases q:x'==n
   .rw [q] at e';cases e';rw [CC.mp q];exact h0
   .have q':(x'==n)=false:=by simpa using q
    rw [q'] at e';exact hc x' c' e'
  .rw [A5 hk] at e';exact hc x' c' e'
theorem hZ_ {env:Env}{x:Str}:∀(ns:List (Str×NameKind)) (cs:List (Str×Addr)),(∃c,cs.lookup x=some c)->∃c,(i5_ env ns cs).lookup x=some c
 |[],cs,h=>h
 |(n,k)::r,cs,h=>by
  unfold i5_;refine hZ_ r _ ?_;by_cases hk:k= .free
  .rw [A6 hk,Bz];by_cases q:x==n
   .rw [q];exact⟨_,rfl⟩
   .have q':(x==n)=false:=by simpa using q
    rw [q'];exact h
  .rw [A5 hk];exact h
theorem gU_ {env:Env}{x:Str}:∀(ns:List (Str×NameKind)) (cs:List (Str×Addr)),(x,NameKind.free)∈ns->∃c,(i5_ env ns cs).lookup x=some c
 |(n,k)::r,cs,h=>by
  unfold i5_;rcases AK.mp h with e|e
  .cases e;rw [A6 rfl];exact hZ_ r _ ⟨_,by rw [Bz,beq_self_eq_true]⟩
  .exact gU_ r _ e
noncomputable def Cx.comp (X:Cx) (scope:Scope) (C:Addr) (N:List Str) (s₀:Shared) (H₀:Hp) (ex:List Addr) (E:Value->Shared->Prop):Cx where
 prog:=X.prog
 w:=X.w
 K:=X.K
 mg:=X.mg
 base:=X.base
 A:=X.A
 N:=N
 s₀:=s₀
 H₀:=H₀
 env:=compEnvC scope (i5_ X.env scope.names []) C X.env
 outer:=X.stack
 stack:=X.stack
 ex:=ex
 fn:=fun _=>false
 calm:=X.calm
 pn:=[]
 xe:=E
noncomputable def rg_ (X:Cx) (ifs:List Expr) (t:TT):Prop:=
 ∀(pins:List (Addr×Obj)) (s:Shared) (σ:St) (H:Hp) (Q:Bool->Hp->Prop),Inv X pins σ H s->t σ H Q->
  wpAny (model X.prog X.w) X.A (forIn ifs true fun c r=>if r=true then do let ok<-isTrue c X.env (eval c X.env);pure (ForInStep.yield ok) else pure (ForInStep.yield r)) (TP X pins σ Q) X.xe s
noncomputable def s3_:TT:=fun _ H Q=>Q true H
theorem bX_ {X:Cx}:rg_ X [] s3_:=fun _ _ _ H _ I h=>wpAny_tests_nil ⟨H,I,h⟩
theorem nY_ {X:Cx}{c:Expr}{t:TT} (h:PT X c t):rg_ X [c] t:=fun pins s σ H Q I q=>wpAny_tests_one (h pins s σ H Q I q)
noncomputable def ng_ (own:Nat) (js:List Nat) (σ:St):St:=List.replicate own none++js.map fun j=>(σ[j]?).getD none
noncomputable def rk_ (J:It) (own:Nat) (js:List Nat) (g:TG) (ti:TT) (te:TE) (σ:St) (H1:Hp) (acc:Addr) (Q:VK):Prop:=
 ∃Wq:Nat->Nat->Hp->Prop,(∃m,Wq 0 m (upd H1 acc (.lst [])))/\∀i m H2,Wq i m H2->
  (J.stop i H2/\Q (.ref acc) H2)\/(J.go i H2/\∀x H3,J.yld i H2 x H3->g x (ng_ own js σ) H3 fun σ4 H4=>ti σ4 H4 fun b H5=>
   if b=true then te σ4 H5 fun y H6=>f7_ (.ref acc) [y] H6 fun _ H7=>∃m',m'<m/\Wq (i+1) m' H7 else∃m',m'<m/\Wq (i+1) m' H5)
noncomputable def lc_ (own:Nat) (js:List Nat) (wi:TI) (g:TG) (ti:TT) (te:TE):TE:=fun σ H Q=>wi σ H fun J H1=>∀acc,H1 acc=none->rk_ J own js g ti te σ H1 acc Q
end L2
namespace L2
open PySem PySem.Spec PyProof.Rows
theorem pK_ {α:Type}{t:Sem α}{Q Q':α->Shared->Prop}{M:Model}{A:Around}{E:Value->Shared->Prop}{s:Shared} (h:wpAny M A t Q (fun _ _=>False) s) (hQ:∀a s,Q a s->Q' a s):wpAny M A t Q' E s:=BC h hQ fun _ _ f=>f.elim
theorem cW_ {scope:Scope}{env:Env}{x:Str}:∀{names:List (Str×NameKind)},((names.map fun(n,k)=>if(k==NameKind.free&&env.scope.kind== .function&&env.kindOf n==some .cell) then(n,NameKind.cell) else(n,k)).lookup x=some .cell\/
  (names.map fun(n,k)=>if(k==NameKind.free&&env.scope.kind== .function&&env.kindOf n==some .cell) then(n,NameKind.cell) else(n,k)).lookup x=some .free)->(∀y∈names,y.2≠ .cell)->(x,NameKind.free)∈names
 |[],h,_=>by simp at h
 |(n,k)::r,h,hc=>by
  have hr:∀y∈r,y.2≠ .cell:=fun y hy=>hc y (AM _ hy);have h0:k≠ .cell:=hc (n,k) AI;rw [AJ,Bz] at h;by_cases hb:(k==NameKind.free&&env.scope.kind== .function&&env.kindOf n==some .cell)=true
  .rw [A6 hb] at h;dsimp only at h;by_cases q:x==n
   .have hk:k= .free:=by simp only [AC,CC] at hb;exact hb.1.1
    rw [CC.mp q,hk];exact AI
   .have q':(x==n)=false:=by simpa using q
    rw [q'] at h;exact AM _ (cW_ (scope:=scope) h hr)
  .rw [A5 hb] at h;dsimp only at h;by_cases q:x==n
   .rw [q] at h;dsimp only at h;have hk:k= .free:=by
     rcases h with h|h
     .exact absurd (Af h) h0
     .exact Af h
    rw [CC.mp q,hk];exact AI
   .have q':(x==n)=false:=by simpa using q
    rw [q'] at h;exact AM _ (cW_ (scope:=scope) h hr)
noncomputable def rh_ (own:Nat) (g:TG):Prop:=∀v σ H (Q:St->Hp->Prop),g v σ H Q->g v σ H fun σ' H'=>Q σ' H'/\σ'.length=σ.length/\∀i,own<=i->σ'[i]? =σ[i]?
theorem bs_ {i own:Nat} (h:i<own):rh_ own (dX_ i):=fun v σ H Q q=>⟨q,BZ ..,fun j hj=>by rw [Bv (by lia)]⟩
theorem i6_ (own:Nat) (js:List Nat) (σ:St):(ng_ own js σ).length=own+js.length:=by simp [ng_]
theorem h0_ {own:Nat}{js:List Nat}{σ:St}{i:Nat}{v:V} (h:(ng_ own js σ)[i]? =some (some v)):own<=i/\∃j,js[i-own]? =some j/\σ[j]? =some (some v):=by
 unfold ng_ at h;by_cases hi:i<own
 .rw [BJ (by simpa using hi),List.getElem?_replicate,A6 hi] at h;cases h
 .rw [BF (by simpa using hi),B6,A7] at h;refine⟨by lia, ?_⟩;cases e:js[i-own]? with
  |none=>rw [e] at h;cases h
  |some j=>
   rw [e] at h;refine⟨j,rfl, ?_⟩;have h':(σ[j]?).getD none=some v:=Af h;cases e2:σ[j]? with
   |none=>rw [e2] at h';cases h'
   |some o=>rw [e2] at h';exact Bg some h'
theorem hX_ {X:Cx}{elt tg bS_:Expr}{ifs:List Expr}{scope:Scope}{pos ps:Pos}{N:List Str}{own:Nat}{js:List Nat}{wi:TI}{g:TG}{ti:TT}{te:TE} (hc:X.calm=true)
  (hcell:∀y∈scope.names,y.2≠ .cell) (hkind:scope.kind= .function) (hnames:∀y∈scope.names,y.2= .local->scope.names.lookup y.1=some .local)
  (hfree:∀y∈scope.names,y.2= .free->X.env.kindOf y.1=some .cell\/X.env.kindOf y.1=some .free) (hlen:N.length=own+js.length)
  (hcap:∀(i j:Nat) (x:Str),js[i]? =some j->N[own+i]? =some x->X.N[j]? =some x/\(x,NameKind.free)∈scope.names/\(X.env.kindOf x=some .cell\/X.env.kindOf x=some .free)/\((relabel scope X.env).names.lookup x=some .cell\/(relabel scope X.env).names.lookup x=some .free))
  (hi:PI X tg bS_ wi) (hg:∀C s₀ H₀ ex,PG (X.comp scope C N s₀ H₀ ex fun _ _=>False) tg g) (ho:rh_ own g) (ht:∀C s₀ H₀ ex,rg_ (X.comp scope C N s₀ H₀ ex fun _ _=>False) ifs ti) (he:∀C s₀ H₀ ex,PE (X.comp scope C N s₀ H₀ ex fun _ _=>False) elt te)
  {pins:List (Addr×Obj)}{s:Shared}{σ:St}{H:Hp}{Q:VK}{use:Option (Value->Sem Unit)}{RQ:Value->Shared->Prop} (I:Inv X pins σ H s) (h:lc_ own js wi g ti te σ H Q)
  (fin:∀(acc C:Addr) (H3:Hp) (s4:Shared) (m:Str->Option Value),Inv X pins σ H3 s4->s4.heap.Ns C m->H3 C=none->C≠X.env.locals->C∉X.fs->X.s₀.heap.objs.size<=C->(∀x c,X.env.cells.lookup x=some c->c≠C)->(∀p∈X.pn++pins,p.1≠C)->
   Q (.ref acc) H3->compPost (model X.prog X.w) X.A X.xe use RQ (.ref acc) C (.ok .next) s4)
  (hs:∀x,foldedSetIterable bS_ X.env x=pure x:=by intro _;rfl):
  wpAny (model X.prog X.w) X.A (comprehension (.ListComp elt [⟨tg,bS_,ifs,0⟩] scope pos) scope X.env ps (newList []) false (eval bS_ X.env) use) RQ X.xe s:=by
 have hcl:∀y∈scope.names,y.2= .free->∃c,X.env.cells.lookup y.1=some c:=fun y hy hf=>I.ok.has y.1 (hfree y hy hf);refine wpAny_comprehension_free (use:=use) rfl hs (kR_ hcl) hkind hnames (thn (hi pins s σ H _ I h) fun v s1 h1=>thn h1 fun itv s2 h2=> ?_);obtain⟨it,fp,tn,J,H2,e,I2,T,st2,f2,q⟩:=h2;subst e;have nf:H2 s2.heap.objs.size=none:=I2.hok.fresh (A8 _);obtain⟨Wq,⟨m0,w0⟩,turn⟩:=q s2.heap.objs.size nf;refine Av (wpAny_newFunctionEnv hcell (by intro y hy;simp at hy) (fun h₁ hns₁ hsb₁=> ?_) hkind);dsimp only at hns₁ hsb₁⊢;generalize hP2:s2.heap.push {cls:= .type "list",dict:=none,data:= .seq ([]:List Value).toArray}=P2 at hns₁ hsb₁⊢;have hC:P2.objs.size=s2.heap.objs.size+1:=by rw [<-hP2,BR]
 have hC1:s2.heap.objs.size<P2.objs.size:=by rw [hC];exact Ba _
 have kp:∀b o,s2.heap.get? b=some o->h₁.get? b=some o:=fun b o e=>hsb₁.extBut b o (AO (Nat.lt_trans (AN e) hC1)) (A9 _ (hP2▸A9 _ e));have hacc:h₁.get? s2.heap.objs.size=some {cls:= .type "list",dict:=none,data:= .seq ([]:List Value).toArray}:=hsb₁.extBut _ _ (AO hC1) (A9 _ (hP2▸AL _ rfl));have lkc:∀x c,(i5_ X.env scope.names []).lookup x=some c->X.env.cells.lookup x=some c:=fun x c e=>e9_ scope.names [] hcl (fun _ _ z=>by simp at z) e;have cne:∀x c,(i5_ X.env scope.names []).lookup x=some c->c<s2.heap.objs.size/\H2 c=none:=fun x c e=>by
  obtain⟨v,o,ho,hd⟩:=I2.cell x c (lkc x c e);exact⟨AN ho,I2.freeC x c (lkc x c e)⟩
 have fpl:∀b∈fp,b<s2.heap.objs.size:=fun b hb=>by
  obtain⟨o,e,_⟩:=T.obj 0 _ st2 b hb;exact AN e
 have hX:(X.comp scope P2.objs.size N s2 H2 fp fun _ _=>False).Ok:={
  mod:=I.ok.mod
  kind:=hkind
  glob:=I.ok.glob
  blt:=I.ok.blt
  above:=AW hC1
  inj:=fun x y c a b=>I.ok.inj x y c (lkc x c a) (lkc y c b)
  has:=fun x hx=>gU_ scope.names [] (cW_ (scope:=scope) (env:=X.env) hx hcell)
  cab:=fun x c a _=>by cases (show false=true from a)
  hd:=I.ok.hd
  frames:=I.ok.frames
  stk:= .inl rfl
  exf:=fun b hb=>⟨AO (Nat.lt_trans (fpl b hb) hC1),fun x c a=>(f2 b hb).2.2.2.2.1 x c (lkc x c a)⟩
  bs:=I2.bs
  bsz:=BO I.ok.bsz I2.sz
  noex:=fun b o e hb=>by
   rcases(f2 b hb).2.2.2.1 with z|z
   .exact I.ok.noex b o e z
   .exact absurd (AY (AY (AN e) I.ok.bsz) z) (Bw _)
  exfs:=fun b hb z=>by
   rcases AK.mp (I2.stkSub b z) with z|z
   .exact(f2 b hb).2.1 z
   .exact(f2 b hb).2.2.1 z
  funs:=I2.stack
  frf:=I2.stkFree}
 have I3:∀tk,Inv (X.comp scope P2.objs.size N s2 H2 fp fun _ _=>False) [] (ng_ own js σ) (upd H2 s2.heap.objs.size (.lst [])) {s2 with heap:=h₁,toks:=tk}:=fun tk=>{
  ok:=hX
  os:=rfl
  bare:=I2.bare
  base:=Un.laid kp (A8 _) nf
  loc:=⟨_,hns₁,fun i x v a b c=>by
   obtain⟨hio,j,hj,hv⟩:=h0_ b;obtain⟨h3,h4,h5,h6⟩:=hcap (i-own) j x hj (by rw [show own+(i-own)=i by lia];exact a);obtain⟨m,hn,hl⟩:=I2.loc;obtain⟨u,ru,lk⟩:=hl j x v h3 hv (.inr h5);refine⟨u,ru, .inr ⟨h6, ?_⟩⟩;rcases lk with⟨z,_⟩|⟨_,c0,z1,z2⟩
   .rcases h5 with h5|h5<;>(rw [h5] at z;cases z)
   .obtain⟨c1,hc1⟩:=gU_ (env:=X.env) scope.names [] h4;have:=lkc x c1 hc1;rw [z1] at this;cases this;obtain⟨o,ho,hd⟩:=z2;exact⟨c0,hc1,o,kp _ _ ho,hd⟩⟩
  cell:=fun x c a=>by
   obtain⟨v,o,ho,hd⟩:=I2.cell x c (lkc x c a);exact⟨v,o,kp _ _ ho,hd⟩
  free:=by
   show upd H2 _ _ P2.objs.size=none;rw [ao_ (CG hC1)];exact I2.hok.fresh (AW hC1)
  freeC:=fun x c a=>by
   rw [ao_ (AO (cne x c a).1)];exact(cne x c a).2
  pin:=fun p hp=>absurd (show p∈([]:List (Addr×Obj)) from hp) (by simp)
  hok:=I2.hok.laid kp (A8 _) ⟨AS _,[],0, .nil,hacc⟩
  len:=by rw [i6_];exact hlen.symm}
 have fr0:∀b∈fp,upd H2 s2.heap.objs.size (.lst []) b=none:=fun b hb=>by
  rw [ao_ (AO (fpl b hb))];exact(f2 b hb).1
 have st3:tn 0 h₁:=T.keep 0 _ _ st2 fun b _ o e=>kp b o e;have stat:∀{H':Hp},(∀b∈fp,H' b=none)->∀b∈fp,pw_ (X.comp scope P2.objs.size N s2 H2 fp fun _ _=>False) [] H' b:=fun hn b hb=>
  ⟨hn b hb,(hX.exf b hb).1,hX.exfs b hb, .inl hb,fun x c a=>(hX.exf b hb).2 x c a,fun p hp=>absurd (show p∈([]:List (Addr×Obj)) from hp) (by simp)⟩
 have loop:∀s₃:Shared,s₃={s2 with heap:=h₁,toks:=s2.toks+([]:List (Str×Value)).length}->
   codeAny (model X.prog X.w) X.A (.compLoop (.ListComp elt [⟨tg,bS_,ifs,0⟩] scope pos) 0 (.ref it) (.ref s2.heap.objs.size) (compEnvC scope (i5_ X.env scope.names []) P2.objs.size X.env))
    (compPost (model X.prog X.w) X.A X.xe use RQ (.ref s2.heap.objs.size) P2.objs.size) s₃:=by
  rintro s₃ rfl;refine mZ_ (fun n s'=>∃i H',Inv (X.comp scope P2.objs.size N s2 H2 fp fun _ _=>False) [] (ng_ own js σ) H' s'/\tn i s'.heap/\(∀b∈fp,H' b=none)/\Wq i n H') ?_ m0 ⟨0,_,I3 _,st3,fr0,w0⟩;rintro n s3 ⟨i,H3,J3,t3,fr3,w3⟩;rcases turn i n H3 w3 with⟨stop,qd⟩|⟨go,step⟩
  .refine pK_ (T.done (X.comp scope P2.objs.size N s2 H2 fp fun _ _=>False) rfl rfl rfl hc i [] s3 _ H3 _ J3 (stat fr3) t3 stop) fun r s4 ⟨hr,J4⟩=> ?_;subst hr;obtain⟨m,hn,_⟩:=J4.loc;have B:Un (frs X.stack) fp H2 H3 s2.heap s4.heap:=J4.base;have I5:Inv X pins σ H3 s4:=I2.call' J4.os B J4.hok J4.bare fun b hb=>by
    obtain⟨a1,a2,a3,a4,a5,a6⟩:=f2 b hb;exact⟨a4,a2,a5,a6⟩
   have hp:=I2.fpOk (H':=H3) (b:=P2.objs.size) (AW hC1) J4.free;obtain⟨a1,a2,a3,a4,a5,a6⟩:=hp;exact fin s2.heap.objs.size P2.objs.size H3 s4 m I5 hn a1 a2 a3 (BO I2.sz (AW hC1)) a5 a6 qd
  .refine pK_ (T.item (X.comp scope P2.objs.size N s2 H2 fp fun _ _=>False) rfl rfl rfl hc i [] s3 _ H3 _ J3 (stat fr3) t3 go) fun r s4 ⟨u,hr,h4⟩=> ?_;subst hr;refine pK_ h4 fun _ s5 ⟨x,H5,J5,r5,y5,t5,fr5⟩=> ?_;have J5':=J5.pinned (stat fr5) (T.obj _ _ t5);refine pK_ (hg _ _ _ _ _ s5 _ H5 x u _ J5' r5 (ho _ _ _ _ (step x H5 y5))) fun _ s6 ⟨σ6,H6,J6,q6,hl6,ho6⟩=> ?_;have again:∀{s7:Shared}{H7:Hp},Inv (X.comp scope P2.objs.size N s2 H2 fp fun _ _=>False) ([]++hk_ fp s5.heap) σ6 H7 s7->(∃m',m'<n/\Wq (i+1) m' H7)->
     ∃m,m<n/\∃i H',Inv (X.comp scope P2.objs.size N s2 H2 fp fun _ _=>False) [] (ng_ own js σ) H' s7/\tn i s7.heap/\(∀b∈fp,H' b=none)/\Wq i m H':=fun{s7 H7} J7 z=>by
    obtain⟨m',hm,w7⟩:=z;refine⟨m',hm,i+1,H7,J7.unpinned.weak (by rw [hl6]) (fun k v z=> ?_),T.keep _ _ _ t5 fun b hb o e=>(J7.pin (b,o) (Ah _ (Ah _ (c8_ hb e)))).1,fun b hb=> ?_,w7⟩
    .rw [ho6 k (h0_ z).1];exact z
    .obtain⟨o,e,d⟩:=T.obj _ _ t5 b hb;exact(J7.pin (b,o) (Ah _ (Ah _ (c8_ hb e)))).2.1
   refine pK_ (ht _ _ _ _ _ s6 σ6 H6 _ J6 q6) fun ok s7 ⟨H7,J7,q7⟩=> ?_;cases ok with
   |false=>exact again J7 q7
   |true=>
    refine pK_ (he _ _ _ _ _ s7 σ6 H7 _ J7 q7) fun y s8 ⟨yv,H8,J8,r8,q8⟩=> ?_;exact pK_ (bN_ _ s8 σ6 H8 (.ref s2.heap.objs.size) [yv] (.ref s2.heap.objs.size) [y] _ J8 rfl (.cons r8 .nil) q8) fun _ s9 ⟨_,H9,J9,_,q9⟩=>again J9 q9
 exact codeAny_compStart_list (loop _ rfl) (T.self X.A 0 _ _ _ st3 (loop _ rfl))
theorem qm_ {X:Cx}{elt tg bS_:Expr}{ifs:List Expr}{scope:Scope}{pos:Pos}{N:List Str}{own:Nat}{js:List Nat}{wi:TI}{g:TG}{ti:TT}{te:TE} (hc:X.calm=true)
  (hcell:∀y∈scope.names,y.2≠ .cell) (hkind:scope.kind= .function) (hnames:∀y∈scope.names,y.2= .local->scope.names.lookup y.1=some .local)
  (hfree:∀y∈scope.names,y.2= .free->X.env.kindOf y.1=some .cell\/X.env.kindOf y.1=some .free) (hlen:N.length=own+js.length)
  (hcap:∀(i j:Nat) (x:Str),js[i]? =some j->N[own+i]? =some x->X.N[j]? =some x/\(x,NameKind.free)∈scope.names/\(X.env.kindOf x=some .cell\/X.env.kindOf x=some .free)/\((relabel scope X.env).names.lookup x=some .cell\/(relabel scope X.env).names.lookup x=some .free))
  (hi:PI X tg bS_ wi) (hg:∀C s₀ H₀ ex,PG (X.comp scope C N s₀ H₀ ex fun _ _=>False) tg g) (ho:rh_ own g) (ht:∀C s₀ H₀ ex,rg_ (X.comp scope C N s₀ H₀ ex fun _ _=>False) ifs ti) (he:∀C s₀ H₀ ex,PE (X.comp scope C N s₀ H₀ ex fun _ _=>False) elt te)
  (hs:∀x,foldedSetIterable bS_ X.env x=pure x:=by intro _;rfl):PE X (.ListComp elt [⟨tg,bS_,ifs,0⟩] scope pos) (lc_ own js wi g ti te):=by
 intro pins s σ H Q I h;rw [eval_ListComp];refine hX_ hc hcell hkind hnames hfree hlen hcap hi hg ho ht he I h (use:=none) (fun acc C H3 s4 m I5 hn c1 c2 c3 c4 c5 c6 q=> ?_) hs;refine⟨m,hn,fun h' sb=>⟨.ref acc,H3, ?_,rfl,q⟩⟩;exact I5.turned (t':=s4.toks) (it:=C) (fun b o hb e=>(sb.2 b hb).trans e) c1 c2 (.inr c4) c5 c6
theorem qb_ {X:Cx}{i:Nat}{y:Str}{py spos:Pos}{elt tg bS_:Expr}{ifs:List Expr}{scope:Scope}{pos:Pos}{N:List Str}{own:Nat}{js:List Nat}{wi:TI}{g:TG}{ti:TT}{te:TE} (hN:X.N.Nodup) (hi':X.N[i]? =some y) (hy:Loc X.env.scope y) (hf:X.fn y=true\/X.env.scope.names.lookup y=some .local)
  (hc:X.calm=true)
  (hcell:∀y∈scope.names,y.2≠ .cell) (hkind:scope.kind= .function) (hnames:∀y∈scope.names,y.2= .local->scope.names.lookup y.1=some .local)
  (hfree:∀y∈scope.names,y.2= .free->X.env.kindOf y.1=some .cell\/X.env.kindOf y.1=some .free) (hlen:N.length=own+js.length)
  (hcap:∀(i j:Nat) (x:Str),js[i]? =some j->N[own+i]? =some x->X.N[j]? =some x/\(x,NameKind.free)∈scope.names/\(X.env.kindOf x=some .cell\/X.env.kindOf x=some .free)/\((relabel scope X.env).names.lookup x=some .cell\/(relabel scope X.env).names.lookup x=some .free))
  (hi:PI X tg bS_ wi) (hg:∀C s₀ H₀ ex,PG (X.comp scope C N s₀ H₀ ex fun _ _=>False) tg g) (ho:rh_ own g) (ht:∀C s₀ H₀ ex,rg_ (X.comp scope C N s₀ H₀ ex fun _ _=>False) ifs ti) (he:∀C s₀ H₀ ex,PE (X.comp scope C N s₀ H₀ ex fun _ _=>False) elt te)
  (hsw:swapsWith (.ListComp elt [⟨tg,bS_,ifs,0⟩] scope pos) (some (.Name y py)) spos.line X.env=pure true:=by rfl)
  (hs:∀x,foldedSetIterable bS_ X.env x=pure x:=by intro _;rfl):PS X (.Assign [.Name y py] (.ListComp elt [⟨tg,bS_,ifs,0⟩] scope pos) spos) (s5_ (lc_ own js wi g ti te) (dX_ i)):=by
 intro pins s σ H D I h;rw [exec_Assign_Name_used _ _ _ _ hsw];refine A0 (wpAny_standAt (A0 ?_));show wpAny _ X.A (do let _<-comprehension (.ListComp elt [⟨tg,bS_,ifs,0⟩] scope pos) scope X.env _ (newList []) false (eval bS_ X.env) (some (assign (.Name y py) X.env))) _ _ s;refine A0 (BC (hX_ hc hcell hkind hnames hfree hlen hcap hi hg ho ht he I h (use:=some (assign (.Name y py) X.env)) (RQ:=fun _ s'=>SP X pins D .next s') (fun acc C H3 s4 m I5 hn c1 c2 c3 c4 c5 c6 q=> ?_) hs) (fun _ s' hq=>A3 (A3 hq)) fun _ _ e=>e);show wpAny _ X.A (assign (.Name y py) X.env (.ref acc)) _ _ _;obtain⟨o,es,ep,ho',hd,hr⟩:=hn;have I6:Inv X (pins++[(C,o)]) σ H3 s4:=I5.pins_of fun p hp=>by
  rcases B7.mp hp with z|z
  .exact I5.pin p (Ah _ z)
  .rw [AU.mp z];exact⟨ho',c1,c2,c3,fun v z=>by rw [hd] at z;cases z⟩
 refine wpAny_assign_Name (dI_ I6 hN hi' hy (v:= .ref acc) rfl (fun s' I7=> ?_) hf);have hp:=I7.pin (C,o) (Ah _ (Ah _ (by simp)));refine⟨m,⟨o,es,ep,hp.1,hd,hr⟩,fun h' sb=>⟨_,H3, ?_,q⟩⟩;exact I7.unpinned.turned (t':=s'.toks) (it:=C) (fun b o hb e=>(sb.2 b hb).trans e) c1 c2 (.inr c4) c5 c6
end L2
namespace L2
open PySem PySem.Spec PyProof.Rows
noncomputable def kk_ (XN:List Str) (sc scope:Scope) (own:Nat) (js:List Nat) (N:List Str):Bool:=
 (scope.names.all fun y=>decide (y.2≠ .cell)&&(decide (y.2≠ .local)||decide (scope.names.lookup y.1=some .local))&&(decide (y.2≠ .free)||decide (sc.names.lookup y.1=some .cell)||decide (sc.names.lookup y.1=some .free)))&&
  decide (scope.kind= .function)&&decide (N.length=own+js.length)&&
  (List.range js.length).all fun i=>match js[i]?,N[own+i]? with
   |some j,some x=>decide (XN[j]? =some x)&&decide (scope.names.lookup x=some .free)&&(decide (sc.names.lookup x=some .cell)||decide (sc.names.lookup x=some .free))
   |_,_=>false
theorem bk_ {env:Env}:∀{names:List (Str×NameKind)}{x:Str},names.lookup x=some .free->
  (names.map fun(n,k)=>if(k==NameKind.free&&env.scope.kind== .function&&env.kindOf n==some .cell) then(n,NameKind.cell) else(n,k)).lookup x=some .cell\/
  (names.map fun(n,k)=>if(k==NameKind.free&&env.scope.kind== .function&&env.kindOf n==some .cell) then(n,NameKind.cell) else(n,k)).lookup x=some .free
 |[],_,h=>by simp at h
 |(n,k)::r,x,h=>by
  have ih:= @bk_ env r x;rw [AJ,Bz];rw [Bz] at h;by_cases hc:(k==NameKind.free&&env.scope.kind== .function&&env.kindOf n==some .cell)=true
  .rw [A6 hc];dsimp only;cases hx:x==n with
   |true=>exact .inl rfl
   |false=>
    rw [hx] at h;exact ih h
  .rw [A5 hc];dsimp only;cases hx:x==n with
   |true=>
    rw [hx] at h;exact .inr h
   |false=>
    rw [hx] at h;exact ih h
structure CompOk (XN:List Str) (sc scope:Scope) (own:Nat) (js:List Nat) (N:List Str):Prop where
 cell:∀y∈scope.names,y.2≠ .cell
 names:∀y∈scope.names,y.2= .local->scope.names.lookup y.1=some .local
 free:∀y∈scope.names,y.2= .free->sc.names.lookup y.1=some .cell\/sc.names.lookup y.1=some .free
 kind:scope.kind= .function
 len:N.length=own+js.length
 cap:∀(i j:Nat) (x:Str),js[i]? =some j->N[own+i]? =some x->XN[j]? =some x/\scope.names.lookup x=some .free/\(sc.names.lookup x=some .cell\/sc.names.lookup x=some .free)
theorem hY_ {XN:List Str}{sc scope:Scope}{own:Nat}{js:List Nat}{N:List Str} (h:kk_ XN sc scope own js N=true):CompOk XN sc scope own js N:=by
 unfold kk_ at h;rw [AC,AC,AC] at h;obtain⟨⟨⟨h1,h2⟩,h3⟩,h4⟩:=h;rw [AV] at h1 h4;refine⟨fun y hy=> ?_,fun y hy e=> ?_,fun y hy e=> ?_,Ax h2,Ax h3,fun i j x a b=> ?_⟩
 .have:=h1 y hy;rw [AC,AC] at this;exact Ax this.1.1
 .have:=h1 y hy;rw [AC,AC,C3] at this;rcases this.1.2 with z|z
  .exact absurd e (Ax z)
  .exact Ax z
 .have:=h1 y hy;rw [AC,AC,C3,C3,C3] at this;rcases this.2 with(z|z)|z
  .exact absurd e (Ax z)
  .exact .inl (Ax z)
  .exact .inr (Ax z)
 .have hi:i<js.length:=(AH.mp a).1;have:=h4 i (As.mpr hi);rw [a,b] at this;dsimp only at this;rw [AC,AC,C3] at this;exact⟨Ax this.1.1,Ax this.1.2,this.2.imp Ax Ax⟩
section
variable {X:Cx}{XN:List Str}{sc scope:Scope}{elt tg bS_:Expr}{ifs:List Expr}{pos:Pos}{N:List Str}{own:Nat}{js:List Nat}{wi:TI}{g:TG}{ti:TT}{te:TE}
theorem cG_ (hc:X.calm=true) (ok:kk_ XN sc scope own js N=true) (hsc:X.env.scope=sc) (hXN:X.N=XN) (hi:PI X tg bS_ wi) (hg:∀C s₀ H₀ ex,PG (X.comp scope C N s₀ H₀ ex fun _ _=>False) tg g) (ho:rh_ own g)
  (ht:∀C s₀ H₀ ex,rg_ (X.comp scope C N s₀ H₀ ex fun _ _=>False) ifs ti) (he:∀C s₀ H₀ ex,PE (X.comp scope C N s₀ H₀ ex fun _ _=>False) elt te)
  (hs:∀x,foldedSetIterable bS_ X.env x=pure x:=by intro _;rfl):PE X (.ListComp elt [⟨tg,bS_,ifs,0⟩] scope pos) (lc_ own js wi g ti te):=by
 obtain⟨h1,h2,h3,h4,h5,h6⟩:=hY_ ok;subst hsc hXN;refine qm_ hc h1 h4 h2 h3 h5 (fun i j x a b=> ?_) hi hg ho ht he hs;obtain⟨z1,z2,z3⟩:=h6 i j x a b;exact⟨z1,Bh z2,z3,bk_ z2⟩
theorem ga_ {i:Nat}{y:Str}{py spos:Pos} (hN:X.N.Nodup) (hi':X.N[i]? =some y) (hy:Loc X.env.scope y) (hf:X.fn y=true\/X.env.scope.names.lookup y=some .local) (hc:X.calm=true) (ok:kk_ XN sc scope own js N=true) (hsc:X.env.scope=sc) (hXN:X.N=XN) (hi:PI X tg bS_ wi)
  (hg:∀C s₀ H₀ ex,PG (X.comp scope C N s₀ H₀ ex fun _ _=>False) tg g) (ho:rh_ own g)
  (ht:∀C s₀ H₀ ex,rg_ (X.comp scope C N s₀ H₀ ex fun _ _=>False) ifs ti) (he:∀C s₀ H₀ ex,PE (X.comp scope C N s₀ H₀ ex fun _ _=>False) elt te)
  (hsw:swapsWith (.ListComp elt [⟨tg,bS_,ifs,0⟩] scope pos) (some (.Name y py)) spos.line X.env=pure true:=by rfl)
  (hs:∀x,foldedSetIterable bS_ X.env x=pure x:=by intro _;rfl):PS X (.Assign [.Name y py] (.ListComp elt [⟨tg,bS_,ifs,0⟩] scope pos) spos) (s5_ (lc_ own js wi g ti te) (dX_ i)):=by
 obtain⟨h1,h2,h3,h4,h5,h6⟩:=hY_ ok;subst hsc hXN;refine qb_ hN hi' hy hf hc h1 h4 h2 h3 h5 (fun i j x a b=> ?_) hi hg ho ht he hsw hs;obtain⟨z1,z2,z3⟩:=h6 i j x a b;exact⟨z1,Bh z2,z3,bk_ z2⟩
end
theorem c9_ {lo:Int}{n:Nat}{own:Nat}{js:List Nat}{g:TG}{ti:TT}{te:TE}{σ:St}{H1:Hp}{acc:Addr}{Q:VK} (Pv:Nat->Hp->Prop) (h0:Pv 0 (upd H1 acc (.lst [])))
  (hs:∀i H2,i<n->Pv i H2->g (.int (lo+i)) (ng_ own js σ) H2 fun σ4 H4=>ti σ4 H4 fun b H5=>if b=true then te σ4 H5 fun y H6=>f7_ (.ref acc) [y] H6 fun _ H7=>Pv (i+1) H7 else Pv (i+1) H5) (hd:∀H2,Pv n H2->Q (.ref acc) H2)
  (mono:∀σ H (R R':St->Hp->Prop) x,(∀σ' H',R σ' H'->R' σ' H')->g x σ H R->g x σ H R') (monoT:∀σ H (R R':Bool->Hp->Prop),(∀b H',R b H'->R' b H')->ti σ H R->ti σ H R') (monoE:∀σ H (R R':VK),(∀v H',R v H'->R' v H')->te σ H R->te σ H R'):
  rk_ (Itr lo n) own js g ti te σ H1 acc Q:=by
 refine⟨fun i m H2=>m=n-i/\i<=n/\Pv i H2,⟨n,by simp,AS _,h0⟩, ?_⟩;rintro i m H2 ⟨rfl,hi,p⟩;by_cases hlt:i<n
 .refine .inr ⟨hlt,fun x H3 y=> ?_⟩;obtain⟨e1,e2⟩:=y;subst e1 e2;refine mono _ _ _ _ _ (fun σ4 H4 q=>monoT _ _ _ _ (fun b H5 q=> ?_) q) (hs i _ hlt p);cases b with
  |true=>
   refine monoE _ _ _ _ (fun v H6 q=> ?_) q;obtain⟨l,xs,y,a1,a2,a3,a4,a5⟩:=q;exact⟨l,xs,y,a1,a2,a3,a4,n-(i+1),by lia,rfl,hlt,a5⟩
  |false=>exact⟨n-(i+1),by lia,rfl,hlt,q⟩
 .have e:i=n:=by lia
  subst e;exact .inl ⟨A8 _,hd H2 p⟩
theorem cw_ {K:W.Frag}{a:Addr}{xs:List V}{own:Nat}{js:List Nat}{g:TG}{ti:TT}{te:TE}{σ:St}{H1:Hp}{acc:Addr}{Q:VK} (Pv:Nat->Hp->Prop) (h0:Pv 0 (upd H1 acc (.lst []))) (hl:∀i H2,i<=xs.length->Pv i H2->SqL K H2 a xs)
  (hs:∀i x H2,xs[i]? =some x->Pv i H2->g x (ng_ own js σ) H2 fun σ4 H4=>ti σ4 H4 fun b H5=>if b=true then te σ4 H5 fun y H6=>f7_ (.ref acc) [y] H6 fun _ H7=>Pv (i+1) H7 else Pv (i+1) H5) (hd:∀H2,Pv xs.length H2->Q (.ref acc) H2)
  (mono:∀σ H (R R':St->Hp->Prop) x,(∀σ' H',R σ' H'->R' σ' H')->g x σ H R->g x σ H R') (monoT:∀σ H (R R':Bool->Hp->Prop),(∀b H',R b H'->R' b H')->ti σ H R->ti σ H R') (monoE:∀σ H (R R':VK),(∀v H',R v H'->R' v H')->te σ H R->te σ H R'):
  rk_ (Itl K a) own js g ti te σ H1 acc Q:=by
 refine⟨fun i m H2=>m=xs.length-i/\i<=xs.length/\Pv i H2,⟨xs.length,by simp,AS _,h0⟩, ?_⟩;rintro i m H2 ⟨rfl,hi,p⟩;have q:=hl i H2 hi p;by_cases hlt:i<xs.length
 .refine .inr ⟨⟨xs,xs[i],q,by simp [hlt]⟩,fun x H3 y=> ?_⟩;obtain⟨e1,y⟩:=y;subst e1;refine mono _ _ _ _ _ (fun σ4 H4 q=>monoT _ _ _ _ (fun b H5 q=> ?_) q) (hs i x _ (y xs q) p);cases b with
  |true=>
   refine monoE _ _ _ _ (fun v H6 q=> ?_) q;obtain⟨l,xs,y,a1,a2,a3,a4,a5⟩:=q;exact⟨l,xs,y,a1,a2,a3,a4,_,by lia,rfl,hlt,a5⟩
  |false=>exact⟨_,by lia,rfl,hlt,q⟩
 .have e:i=xs.length:=by lia
  subst e;exact .inl ⟨⟨xs,q,A8 _⟩,hd H2 p⟩
theorem bu_ {i:Nat}:∀(σ:St) (H:Hp) (R R':St->Hp->Prop) (x:V),(∀σ' H',R σ' H'->R' σ' H')->dX_ i x σ H R->dX_ i x σ H R':=fun _ _ _ _ _ k h=>k _ _ h
theorem ni_ {A B:St->Hp->Prop}{i:Nat}{x:V}{σ:St}{H:Hp} (h:A (σ.set i (some x)) H):dX_ i x σ H fun σ4 H4=>s3_ σ4 H4 fun b H5=>if b=true then A σ4 H5 else B σ4 H5:=by
 show if true=true then A (σ.set i (some x)) H else B (σ.set i (some x)) H
 rw [A6 rfl];exact h
theorem gI_ {n i:Nat} (h:i<n):ixN n (i:Int)=some i:=by
 unfold ixN;rw [A6 (by lia),A6 (by lia),Ab]
theorem bY_:∀(σ:St) (H:Hp) (R R':Bool->Hp->Prop),(∀b H',R b H'->R' b H')->s3_ σ H R->s3_ σ H R':=fun _ _ _ _ k h=>k _ _ h
end L2
namespace L2
open PySem PySem.Spec PyProof.Rows
section
variable {X:Cx}{K:W.Frag}
theorem or_ (h:X.K=K):IxR X (uR_ K):=h▸c0_
end
end L2
namespace L2
open PySem PySem.Spec PyProof.Rows
inductive EqR (K:W.Frag) (H:Hp):Nat->V->V->Bool->Prop where
 |int (d:Nat) (i j:Int):EqR K H d (.int i) (.int j) (decide (i=j))
 |lists {d:Nat}{a b:Addr}{xs ys:List V} (es:Nat->Bool) (h1:SqL K H a xs) (h2:SqL K H b ys) (hl:xs.length=ys.length) (he:∀(j:Nat) x y,xs[j]? =some x->ys[j]? =some y->EqR K H d x y (es j)):EqR K H (d+1) (.ref a) (.ref b) ((List.range xs.length).all es)
 |lens {d:Nat}{a b:Addr}{xs ys:List V} (h1:SqL K H a xs) (h2:SqL K H b ys) (hl:xs.length≠ys.length):EqR K H (d+1) (.ref a) (.ref b) false
 |tuples {d:Nat}{a b:Addr}{xs ys:List V} (es:Nat->Bool) (h1:SqT K H a xs) (h2:SqT K H b ys) (he:∀(j:Nat) x y,xs[j]? =some x->ys[j]? =some y->EqR K H d x y (es j)):EqR K H (d+1) (.ref a) (.ref b) ((List.range (min xs.length ys.length)).all es&&xs.length==ys.length)
section
variable {X:Cx}{pins:List (Addr×Obj)}{σ:St}{H:Hp}{s:Shared}
theorem EqR.same (I:Inv X pins σ H s) {d:Nat}{x y:V}{e:Bool} (h:EqR X.K H d x y e):x=y->e=true:=by
 induction h with
 |int d i j=>intro q;cases q;simp
 |lists es h1 h2 hl he ih=>
  intro q;cases q;have z:=I.list_inj h1 h2;subst z;rw [AV];intro j hj;rw [As] at hj;have hx:=A1 hj;exact ih j _ _ hx hx rfl
 |lens h1 h2 hl=>
  intro q;cases q;exact absurd (Bg List.length (I.list_inj h1 h2)) hl
 | @tuples d a b xs ys es h1 h2 he ih=>
  intro q;cases q;have z:=I.tuple_inj h1 h2;subst z;rw [AC];refine⟨?_,by simp⟩;rw [AV];intro j hj;rw [As,Nat.min_self] at hj;have hx:=A1 hj;exact ih j _ _ hx hx rfl
theorem aI_ (A:Around):A.in1.units=A.units+1:=rfl
theorem EqR.at_ (I:Inv X pins σ H s) {d:Nat}{x y:V}{e:Bool} (h:EqR X.K H d x y e):∀{A:Around}{u v:Value},A.units+d<cLine->aV_ x u->aV_ y v->SeqAt.RcAt A s u v e/\SeqAt.RcNeAt A s u v (!e)/\SeqAt.EqAt A s u v e:=by
 induction h with
 |int d i j=>
  intro A u v hu ru rv;obtain⟨t,rfl⟩:=ru;obtain⟨t',rfl⟩:=rv;have e:decide (i=j)=(i==j):=by rw [Bool.beq_eq_decide_eq]
  rw [e];exact⟨SeqAt.RcAt.int_int i t j t',SeqAt.RcNeAt.int_int i t j t',SeqAt.EqAt.int_int i t j t'⟩
 | @lists d a b xs ys es h1 h2 hl he ih=>
  intro A u v hu ru rv;obtain rfl:u=Value.ref a:=ru;obtain rfl:v=Value.ref b:=rv;obtain⟨is,r1,p1,z1⟩:=I.list h1;obtain⟨js,r2,p2,z2⟩:=I.list h2;have l1:=r1.length;have l2:=r2.length;have ln:xs.length=is.toArray.size:=by simpa using l1
  have sz:is.toArray.size=js.toArray.size:=by simp only [AD];lia
  have it:∀j (q1:j<is.toArray.size) (q2:j<js.toArray.size),SeqAt.EqAt A.in1 s is.toArray[j] js.toArray[j] (es j):=fun j q1 q2=>by
   simp only [AD] at q1 q2;have hx:xs[j]? =some xs[j]:=A1 (by lia);have hy:ys[j]? =some ys[j]:=A1 (by lia);obtain⟨u1,e1,ru1⟩:=r1.get hx;obtain⟨u2,e2,ru2⟩:=r2.get hy;have g1:is.toArray[j]=u1:=by
    rw [A1 q1] at e1;simpa using Option.some.inj e1
   have g2:js.toArray[j]=u2:=by
    rw [A1 q2] at e2;simpa using Option.some.inj e2
   rw [g1,g2];exact(ih j _ _ hx hy (by rw [aI_];lia) ru1 ru2).2.2
  rw [ln];have R:=SeqAt.RcAt.lists (A:=A) p1.isList p2.isList sz (by lia) it;refine⟨R,SeqAt.RcNeAt.lists p1.isList p2.isList sz (by lia) it, ?_⟩;by_cases q:a=b
  .subst q;have:=(EqR.lists es h1 h2 hl he).same I rfl;rw [ln] at this;rw [this];exact SeqAt.EqAt.same _
  .exact SeqAt.EqAt.of_refs q R
 | @lens d a b xs ys h1 h2 hl=>
  intro A u v hu ru rv;obtain rfl:u=Value.ref a:=ru;obtain rfl:v=Value.ref b:=rv;obtain⟨is,r1,p1,z1⟩:=I.list h1;obtain⟨js,r2,p2,z2⟩:=I.list h2;have l1:=r1.length;have l2:=r2.length;have sz:(is.toArray.size !=js.toArray.size)=true:=by
   simp only [AD,bne_iff_ne,ne_eq];lia
  have R:=SeqAt.RcAt.lists_lengths (A:=A) p1.isList p2.isList sz (by lia);refine⟨R,SeqAt.RcNeAt.lists_lengths p1.isList p2.isList sz (by lia), ?_⟩;by_cases q:a=b
  .subst q;exact absurd (Bg List.length (I.list_inj h1 h2)) hl
  .exact SeqAt.EqAt.of_refs q R
 | @tuples d a b xs ys es h1 h2 he ih=>
  intro A u v hu ru rv;obtain rfl:u=Value.ref a:=ru;obtain rfl:v=Value.ref b:=rv;obtain⟨is,r1,p1,z1⟩:=I.tuple h1;obtain⟨js,r2,p2,z2⟩:=I.tuple h2;have l1:=r1.length;have l2:=r2.length;have ln:xs.length=is.toArray.size:=by simpa using l1
  have ln2:ys.length=js.toArray.size:=by simpa using l2
  have it:∀j (q1:j<is.toArray.size) (q2:j<js.toArray.size),SeqAt.EqAt A.in1 s is.toArray[j] js.toArray[j] (es j):=fun j q1 q2=>by
   simp only [AD] at q1 q2;have hx:xs[j]? =some xs[j]:=A1 (by lia);have hy:ys[j]? =some ys[j]:=A1 (by lia);obtain⟨u1,e1,ru1⟩:=r1.get hx;obtain⟨u2,e2,ru2⟩:=r2.get hy;have g1:is.toArray[j]=u1:=by
    rw [A1 q1] at e1;simpa using Option.some.inj e1
   have g2:js.toArray[j]=u2:=by
    rw [A1 q2] at e2;simpa using Option.some.inj e2
   rw [g1,g2];exact(ih j _ _ hx hy (by rw [aI_];lia) ru1 ru2).2.2
  rw [ln,ln2];have R:=SeqAt.RcAt.tuples (A:=A) (show s.heap.IsTuple a is.toArray from p1) (show s.heap.IsTuple b js.toArray from p2) (by lia) it;refine⟨R,SeqAt.RcNeAt.tuples (show s.heap.IsTuple a is.toArray from p1) (show s.heap.IsTuple b js.toArray from p2) (by lia) it, ?_⟩;by_cases q:a=b
  .subst q;have:=(EqR.tuples es h1 h2 he).same I rfl;rw [ln,ln2] at this;rw [this];exact SeqAt.EqAt.same _
  .exact SeqAt.EqAt.of_refs q R
noncomputable def vw_ (K:W.Frag) (neg:Bool):R2:=fun x y H Q=>∃d e,EqR K H d x y e/\d<=8/\Q (.bl (if neg then !e else e)) H
theorem l0_ {k:Nat} (hr:Room k X.A):OpR X (compareOp .NotEq) (vw_ X.K true):=by
 intro pins s σ H x y v u Q I rx ry h;obtain⟨d,e,r,hd,q⟩:=h;have hu:=hr.un;exact(r.at_ I (A:=X.A) (by lia) rx ry).2.1 X.prog X.w X.xe _ ⟨.bl (!e),H,I,rfl,q⟩
theorem kn_ (hc:X.calm=true):cx_ X (.builtin "sum") (fun xs H Q=>∃(p:Addr) (ns:List Int),xs=[.ref p]/\SqL X.K H p (ns.map V.int)/\Q (.int ns.sum) H):=by
 intro pins s σ H xs us Q I r h;obtain⟨p,ns,rfl,hq,q⟩:=h;obtain⟨u,rfl,rx⟩:=fe_ r;cases rx;obtain⟨its,r',pl,hz⟩:=I.list hq;have hi:IntsAre its ns:=fF_ r';obtain⟨ys,e⟩:=hi.allInts.items;have hl:=pl.isList;rw [e] at hl;refine sum_intListG (I.ok.hd hc) hl fun h' tk t' hk=>⟨.int ns.sum,H,I.kept hk,⟨t', ?_⟩,q⟩;have n1:=hi.numsOf;rw [show its=its.toArray.toList from rfl,e,nums_intItems] at n1;rw [preSum_eq,C0 (by simp),n1]
end
end L2
namespace L2
open PySem PySem.Spec PyProof.Rows
section
variable {prog:Program}{w:World}{A:Around}{E:Value->Shared->Prop}{s:Shared}
end
section
variable {X:Cx}{e:Expr}{te:TE}{p1 p2 p3 pos:Pos}
end
end L2
namespace L2
open PySem PySem.Spec PyProof.Rows
noncomputable def Ite (K:W.Frag) (a:Addr):It:=
 ⟨fun i H=>∃xs x,SqL K H a xs/\xs[i]? =some x,fun i H v H'=>∃x p,(∀xs,SqL K H a xs->xs[i]? =some x)/\v= .ref p/\H p=none/\H'=upd H p (.tup [.int i,x]),fun i H=>∃xs,SqL K H a xs/\xs.length<=i⟩
theorem k0_ {P:Program}{w:World}{K:W.Frag}{elts:List Expr}{k:Nat}{pos:Pos} (a e it:Addr) (hne:e≠it):
  Turn P w K (.Tuple elts k pos) (Ite K a) [e,it] e (fun i h=>(∃old,IsEnum h e it (i:Nat) old)/\h.IsListIter it a i) where
 mem:=by simp
 obj:=fun i h st b hb=>by
  obtain⟨⟨old,h1⟩,o,h2,h3,h4⟩:=st;rcases AK.mp hb with z|z
  .subst z;exact⟨_,h1,fun v y=>by cases y⟩
  .rw [AU.mp z];exact⟨o,h2,fun v y=>by rw [h4] at y;cases y⟩
 keep:=fun i h h' st kk=>⟨st.1.imp fun old z=>kk e (by simp) _ z,st.2.at fun o z=>kk it (by simp) o z⟩
 item:=by
  intro X hP hw hK hc i pins s σ H E I hf st hg;subst hP hw hK;obtain⟨xs,x,hq,hx⟩:=hg;obtain⟨its,rv,p,hz⟩:=I.list hq;obtain⟨u,hu,ru⟩:=rv.get hx;obtain⟨⟨old,he⟩,hit⟩:=st;have nf:H s.heap.objs.size=none:=I.hok.fresh (A8 _);have ltE:e<s.heap.objs.size:=AN he;refine wpAny_pyNext_enum_item he hit p.isList (x:=u) (by simpa using hu) hne fun h' ho hit' hT hsz hk=>⟨.ref s.heap.objs.size,rfl, ?_⟩;refine wpAny_letOwnedTupleGo_enum ho fun h2 he2 sb=> ?_;have k2:∀b o,b≠e->b≠it->s.heap.get? b=some o->h2.get? b=some o:=fun b o n1 n2 z=>(sb.2 b n1).trans (hk b o n1 n2 z);have hT2:h2.get? s.heap.objs.size=some {cls:= .type "tuple",data:= .seq #[.int i s.toks,u]}:=(sb.2 _ (CG ltE)).trans hT;have hch:∀b,b∉[e,it]->b≠e/\b≠it:=fun b z=>⟨fun y=>z (by simp [y]),fun y=>z (by simp [y])⟩;refine⟨.ref s.heap.objs.size,upd H s.heap.objs.size (.tup [.int i,x]), ?_,rfl,⟨x,_,fun ys hy=>by rw [I.list_inj hy hq];exact hx,rfl,nf,rfl⟩,⟨⟨u,by simpa using he2⟩,hit'.at fun o z=>(sb.2 it hne.symm).trans z⟩,fun b hb=> ?_⟩
  .refine I.step (s:=s) (h':=h2) (g':=s.gens) (d':=s.drawn) (t':=s.toks+1) (ch:=[e,it]) (fun b hb=> ?_) (fun b o _ _ c z _=>k2 b o (hch b c).1 (hch b c).2 z) (fun b o _ _ c z _=>⟨o.slots,k2 b o (hch b c).1 (hch b c).2 z⟩)
    (fun b o c z n=> ?_) (fun b o c z=>⟨o,k2 b o (hch b c).1 (hch b c).2 z⟩) (fun b ys z=> ?_) (fun b o v z=> ?_) (fun b ps z=>⟨#[], ?_⟩) (fun m hm=> ?_) (fun b v z=> ?_) I.bare
   .obtain⟨a1,a2,a3,a4,a5,a6⟩:=hf b hb;exact⟨a4,a2,a5,a6⟩
   .rw [ao_ (AO (AN z))];exact n
   .rw [ao_ (ap_ z nf)];exact z
   .rw [ao_ (ap_ z nf)];exact z
   .rw [ao_ (ap_ z nf),z];simp
   .obtain⟨o,es,ep,ho',r⟩:=hm;exact⟨o,es,ep,k2 _ o (fun y=>(hf e (by simp)).2.1 y.symm) (fun y=>(hf it (by simp)).2.1 y.symm) ho',r⟩
   .by_cases hb:b=s.heap.objs.size
    .subst hb;rw [ae_] at z;cases z;exact⟨by show 2<=sizeLine;decide,[.int i s.toks,u], .cons ⟨_,rfl⟩ (.cons ru .nil),⟨_,hT2,rfl,_,rfl⟩⟩
    .rw [ao_ hb] at z;refine(I.hok b v z).stay (fun c o hc y=>k2 c o ?_ ?_ y) (fun c y=> ?_) fun c ys y=> ?_
     .rcases hc with q|q
      .rw [q];exact fun y=>by rw [y,(hf e (by simp)).1] at z;cases z
      .exact fun y=>by rw [y,(hf e (by simp)).1] at q;cases q
     .rcases hc with q|q
      .rw [q];exact fun y=>by rw [y,(hf it (by simp)).1] at z;cases z
      .exact fun y=>by rw [y,(hf it (by simp)).1] at q;cases q
     .rw [ao_ (ap_ y nf)];exact y
     .rw [ao_ (ap_ y nf)];exact y
  .obtain⟨o,z,_⟩:=(show∃o,s.heap.get? b=some o/\True from by
    rcases AK.mp hb with q|q
    .rw [q];exact⟨_,he,trivial⟩
    .rw [AU.mp q];obtain⟨o,y,_⟩:=hit;exact⟨o,y,trivial⟩)
   rw [ao_ (AO (AN z))];exact(hf b hb).1
 done:=by
  intro X hP hw hK hc i pins s σ H E I hf st hg;subst hP hw hK;obtain⟨xs,hq,hx⟩:=hg;obtain⟨its,rv,p,hz⟩:=I.list hq;obtain⟨⟨old,he⟩,hit⟩:=st;have hl:=rv.length;obtain⟨f0,f1,f2,f3,f4,f5⟩:=hf it (by simp);exact wpAny_pyNext_enum_end (I.ok.hd hc) he hit p.isList (by simp;lia) fun h' eb=>⟨rfl,I.turned (t':=s.toks) (fun b o hb z=>eb b o hb z) f0 f1 f3 f4 f5⟩
 self:=fun _ _ _ _ _ st h=>let ⟨⟨_,z⟩,_⟩:=st;wpAny_pyIter_enum z h
section
variable {X:Cx}{elts:List Expr}{k:Nat}{tpos p pos:Pos}{e:Expr}{te:TE}
noncomputable def t9_ (K:W.Frag) (tl:TE):TI:=fun σ H R=>tl σ H fun x H1=>∃a,x= .ref a/\(∃xs,SqL K H1 a xs)/\R (Ite K a) H1
theorem eO_ (hg:Gl X "enumerate") (hm:X.mg "enumerate"=none) (hl:PE X e te) (he:starEach [e] X.env=[(false,eval e X.env)]:=by rfl):PI X (.Tuple elts k tpos) (.Call (.Name "enumerate" p) [e] [] pos) (t9_ X.K te):=by
 intro pins s σ H R I h;refine BU (dm_ I hg hm boot_enumerate ?_);refine BS (thn ((aa_ hl ab_ he) _ pins s σ H (fun vs H1=>match vs with|[x]=>(∃a,x= .ref a/\(∃xs,SqL X.K H1 a xs)/\R (Ite X.K a) H1)|_=>False) I h) fun us s1 ⟨vs,H1,I1,r1,q1⟩=> ?_) he (by rfl)
 match vs,q1,r1 with
 |[x],q1,r1=>
 obtain⟨a,rfl,⟨xs,hq⟩,q⟩:=q1;obtain⟨u,rfl,ru⟩:=fe_ r1;obtain rfl:u=Value.ref a:=ru;obtain⟨its,rv,pl,hz⟩:=I1.list hq;refine call_enumerate_list pl.isList fun h' hen hit hsz hk=> ?_;refine wpAny_pyIter_enum hen ?_;refine⟨_,[_,_],_,_,H1,rfl,I1.kept (t':=s1.toks) hk,k0_ a _ _ (CG (Ba _)),⟨⟨_,by simpa using hen⟩,hit⟩,fun b hb=> ?_,q⟩;have fr:∀b,s1.heap.objs.size<=b->pw_ X pins H1 b:=fun b z=>I1.fpOk z (I1.hok.fresh z);rcases AK.mp hb with z|z
 .rw [z];exact fr _ (Cf _)
 .rw [AU.mp z];exact fr _ (A8 _)
end
theorem dY_ {K:W.Frag}{a:Addr}{xs:List V}{g:TG}{tb:TS}{D:Ends}{σ:St}{H:Hp} (Pv:Nat->St->Hp->Prop) (h0:Pv 0 σ H) (hl:∀i σ H,i<=xs.length->Pv i σ H->SqL K H a xs)
  (hs:∀i x σ H p,xs[i]? =some x->Pv i σ H->H p=none->g (.ref p) σ (upd H p (.tup [.int i,x])) fun σ2 H2=>tb {D with nx:=Pv (i+1),ct:=Pv (i+1),bk:=D.nx} σ2 H2) (hd:∀σ H,Pv xs.length σ H->D.nx σ H):
  ∃Wq:Nat->Nat->St->Hp->Prop,(∃m,Wq 0 m σ H)/\∀i m σ H,Wq i m σ H->
   ((Ite K a).stop i H/\D.nx σ H)\/((Ite K a).go i H/\∃N:St->Hp->Prop,(∀σ' H',N σ' H'->∃m',m'<m/\Wq (i+1) m' σ' H')/\∀x H',(Ite K a).yld i H x H'->g x σ H' fun σ2 H2=>tb {D with nx:=N,ct:=N,bk:=D.nx} σ2 H2):=by
 refine⟨fun i m σ H=>m=xs.length-i/\i<=xs.length/\Pv i σ H,⟨xs.length,by simp,AS _,h0⟩, ?_⟩;rintro i m σ H ⟨rfl,hi,p⟩;have q:=hl i σ H hi p;by_cases hlt:i<xs.length
 .refine .inr ⟨⟨xs,xs[i],q,by simp [hlt]⟩,Pv (i+1),fun σ' H' p'=>⟨xs.length-(i+1),by lia,rfl,hlt,p'⟩,fun x H' y=> ?_⟩;obtain⟨z,pp,e1,e2,e3,e4⟩:=y;subst e2 e4;exact hs i z σ H pp (e1 xs q) p e3
 .have e:i=xs.length:=by lia
  subst e;exact .inl ⟨⟨xs,q,A8 _⟩,hd σ H p⟩
noncomputable def tW_ (K:W.Frag):V->V->Hp->VK->Prop:=fun o i H Q=>∃(p:Addr) (xs:List V) (j:Nat) (k:Int) (v:V),o= .ref p/\i= .int k/\k=j/\SqL K H p xs/\xs[j]? =some v/\Q v H
theorem ex_ {X:Cx}:u1_ X (tW_ X.K):=by
 intro pins s σ H o i ov iv Q I r1 r2 h;obtain⟨p,xs,j,k,v,rfl,rfl,e,hq,hx,q⟩:=h;cases r1;obtain⟨t,rfl⟩:=r2;obtain⟨its,r,pl,hz⟩:=I.list hq;obtain⟨w,ew,rw'⟩:=r.get hx;have hl:=r.length;have hn:=fz_;have hj:j<xs.length:=(AH.mp hx).1;exact wpAny_getItem_list pl.isList (by lia) (by lia) (by rw [e,Ab];simpa using ew) ⟨v,H,I,rw',q⟩
end L2
namespace L2
open PySem PySem.Spec PyProof.Rows
section
variable {X:Cx}{e:Expr}{te:TE}{st:Expr}{ts:TO}{pos p2:Pos}
end
section
variable {X:Cx}{st:Stmt}{t:TS}
noncomputable def va_ (t:TS):TS:=fun D σ H=>∃I:St->Hp->Prop,t {D with nx:=I} σ H/\∀σ' H',I σ' H'->D.nx σ' H'
theorem o5_ (h:PS X st t):PS X st (va_ t):=fun pins s σ H D Iv ⟨J,h1,h2⟩=>
 thn (h pins s σ H _ Iv h1) fun f s' hf=>by
  cases f with
  |next=>obtain⟨σ',H',a,b⟩:=hf;exact⟨σ',H',a,h2 _ _ b⟩
  |brk=>exact hf
  |cont=>exact hf
  |ret u=>exact hf
end
end L2
namespace L2
open PySem PySem.Spec PyProof.Rows
inductive D where
 |i (n:Int)|l (xs:List D)|t (xs:List D)
mutual
noncomputable def Is (H:Hp):D->V->Prop
 | .i n,v=>v= .int n
 | .l xs,v=>∃a vs,v= .ref a/\H a=some (.lst vs)/\Iss H xs vs
 | .t xs,v=>∃a vs,v= .ref a/\H a=some (.tup vs)/\Iss H xs vs
noncomputable def Iss (H:Hp):List D->List V->Prop
 |[],vs=>vs=[]
 |x::xs,vs=>∃u us,vs=u::us/\Is H x u/\Iss H xs us
end
theorem kT_ {H:Hp}{n:Int}:Is H (.i n) (.int n):=by unfold Is;rfl
theorem cu_ {H:Hp}{a:Addr}{xs:List D}{vs:List V} (h:H a=some (.lst vs)) (k:Iss H xs vs):Is H (.l xs) (.ref a):=by unfold Is;exact⟨a,vs,rfl,h,k⟩
theorem g1_ {H:Hp}{a:Addr}{xs:List D}{vs:List V} (h:H a=some (.tup vs)) (k:Iss H xs vs):Is H (.t xs) (.ref a):=by unfold Is;exact⟨a,vs,rfl,h,k⟩
theorem cn_ {H:Hp}{n:Int}{v:V} (h:Is H (.i n) v):v= .int n:=by unfold Is at h;exact h
theorem cI_ {H:Hp}{xs:List D}{v:V} (h:Is H (.l xs) v):∃a vs,v= .ref a/\H a=some (.lst vs)/\Iss H xs vs:=by unfold Is at h;exact h
theorem gq_ {H:Hp}{xs:List D}{v:V} (h:Is H (.t xs) v):∃a vs,v= .ref a/\H a=some (.tup vs)/\Iss H xs vs:=by unfold Is at h;exact h
theorem an_ {H:Hp}:Iss H [] []:=by unfold Iss;rfl
theorem ai_ {H:Hp}{x:D}{xs:List D}{u:V}{us:List V} (h:Is H x u) (k:Iss H xs us):Iss H (x::xs) (u::us):=by unfold Iss;exact⟨u,us,rfl,h,k⟩
theorem az_ {H:Hp}{x:D}{xs:List D}{vs:List V} (h:Iss H (x::xs) vs):∃u us,vs=u::us/\Is H x u/\Iss H xs us:=by unfold Iss at h;exact h
theorem bf_ {H:Hp}{vs:List V} (h:Iss H [] vs):vs=[]:=by unfold Iss at h;exact h
mutual
theorem Is.mono {H H':Hp} (s:ak_ H H'):∀{d:D}{v:V},Is H d v->Is H' d v
 | .i _,_,h=>by rw [cn_ h];exact kT_
 | .l xs,_,h=>by
  obtain⟨a,vs,e,q,r⟩:=cI_ h;rw [e];exact cu_ (s _ _ q) (Iss.mono s r)
 | .t xs,_,h=>by
  obtain⟨a,vs,e,q,r⟩:=gq_ h;rw [e];exact g1_ (s _ _ q) (Iss.mono s r)
theorem Iss.mono {H H':Hp} (s:ak_ H H'):∀{xs:List D}{vs:List V},Iss H xs vs->Iss H' xs vs
 |[],_,h=>by rw [bf_ h];exact an_
 |x::xs,_,h=>by
  obtain⟨u,us,e,q,r⟩:=az_ h;rw [e];exact ai_ (Is.mono s q) (Iss.mono s r)
end
theorem Iss.length {H:Hp}:∀{xs:List D}{vs:List V},Iss H xs vs->vs.length=xs.length
 |[],_,h=>by rw [bf_ h];rfl
 |x::xs,_,h=>by
  obtain⟨u,us,rfl,_,r⟩:=az_ h;rw [An,An,r.length]
theorem Iss.get {H:Hp}:∀{xs:List D}{vs:List V}{j:Nat}{x:D},Iss H xs vs->xs[j]? =some x->∃v,vs[j]? =some v/\Is H x v
 |[],_,_,_,_,e=>by simp at e
 |x::xs,_,0,_,h,e=>by
  obtain⟨u,us,rfl,q,_⟩:=az_ h;simp at e;subst e;exact⟨u,rfl,q⟩
 |x::xs,_,j+1,_,h,e=>by
  obtain⟨u,us,rfl,_,r⟩:=az_ h;obtain⟨v,e',k⟩:=r.get (j:=j) (by simpa using e);exact⟨v,by simpa using e',k⟩
theorem Iss.of_get {H:Hp}{xs:List D}{vs:List V}{j:Nat}{v:V} (h:Iss H xs vs) (e:vs[j]? =some v):∃x,xs[j]? =some x/\Is H x v:=by
 have hj:j<vs.length:=(AH.mp e).1;have hj':j<xs.length:=by rw [<-h.length];exact hj
 obtain⟨u,e1,k⟩:=h.get (A1 hj');rw [e] at e1;cases e1;exact⟨_,A1 hj',k⟩
theorem Iss.append {H:Hp}:∀{xs ys:List D}{vs ws:List V},Iss H xs vs->Iss H ys ws->Iss H (xs++ys) (vs++ws)
 |[],_,_,_,h,k=>by rw [bf_ h];exact k
 |x::xs,_,_,_,h,k=>by
  obtain⟨u,us,rfl,q,r⟩:=az_ h;exact ai_ q (r.append k)
theorem Iss.take {H:Hp}:∀{xs:List D}{vs:List V} (n:Nat),Iss H xs vs->Iss H (xs.take n) (vs.take n)
 |[],_,n,h=>by rw [bf_ h];simp;exact an_
 |x::xs,_,0,h=>by simp;exact an_
 |x::xs,_,n+1,h=>by
  obtain⟨u,us,rfl,q,r⟩:=az_ h;exact ai_ q (r.take n)
theorem Iss.drop {H:Hp}:∀{xs:List D}{vs:List V} (n:Nat),Iss H xs vs->Iss H (xs.drop n) (vs.drop n)
 |[],_,n,h=>by rw [bf_ h];simp;exact an_
 |x::xs,_,0,h=>h
 |x::xs,_,n+1,h=>by
  obtain⟨u,us,rfl,q,r⟩:=az_ h;exact r.drop n
theorem Iss.rep {H:Hp}{x:D}{v:V} (h:Is H x v):∀n:Nat,Iss H (List.replicate n x) (List.replicate n v)
 |0=>an_
 |n+1=>by rw [Ap,Ap];exact ai_ h (Iss.rep h n)
mutual
noncomputable def Kin:D->D->Prop
 | .i _, .i _=>True
 | .l xs, .l ys=>if_ xs ys
 | .t xs, .t ys=>if_ xs ys
 |_,_=>False
noncomputable def if_:List D->List D->Prop
 |x::xs,y::ys=>Kin x y/\if_ xs ys
 |_,_=>True
end
mutual
noncomputable def eqD:D->D->Bool
 | .i a, .i b=>decide (a=b)
 | .l xs, .l ys=>kh_ xs ys
 | .t xs, .t ys=>kh_ xs ys
 |_,_=>false
noncomputable def kh_:List D->List D->Bool
 |[],[]=>true
 |x::xs,y::ys=>eqD x y&&kh_ xs ys
 |_,_=>false
end
mutual
noncomputable def dep:D->Nat
 | .i _=>0
 | .l xs=>i3_ xs+1
 | .t xs=>i3_ xs+1
noncomputable def i3_:List D->Nat
 |[]=>0
 |x::xs=>max (dep x) (i3_ xs)
end
mutual
theorem iX_:∀{a b:D},eqD a b=true↔a=b
 | .i a, .i b=>by simp [eqD]
 | .i _, .l _=>by simp [eqD]
 | .i _, .t _=>by simp [eqD]
 | .l _, .i _=>by simp [eqD]
 | .l xs, .l ys=>by simp [eqD,ey_ (xs:=xs) (ys:=ys)]
 | .l _, .t _=>by simp [eqD]
 | .t _, .i _=>by simp [eqD]
 | .t _, .l _=>by simp [eqD]
 | .t xs, .t ys=>by simp [eqD,ey_ (xs:=xs) (ys:=ys)]
theorem ey_:∀{xs ys:List D},kh_ xs ys=true↔xs=ys
 |[],[]=>by simp [kh_]
 |[],_::_=>by simp [kh_]
 |_::_,[]=>by simp [kh_]
 |x::xs,y::ys=>by simp [kh_,iX_ (a:=x) (b:=y),ey_ (xs:=xs) (ys:=ys)]
end
theorem oD_ {a:D}:eqD a a=true:=iX_.mpr rfl
theorem gP_:∀{xs ys:List D},xs.length=ys.length->kh_ xs ys=(List.range xs.length).all fun j=>eqD (xs.getD j (.i 0)) (ys.getD j (.i 0))
 |[],[],_=>by simp [kh_]
 |x::xs,y::ys,h=>by
  have ih:=gP_ (xs:=xs) (ys:=ys) (by simpa using h);rw [kh_,ih,An,List.range_succ_eq_map];simp [List.all_map,Function.comp_def]
theorem kg_ {xs ys:List D} (h:xs.length≠ys.length):kh_ xs ys=false:=by
 cases e:kh_ xs ys with
 |false=>rfl
 |true=>exact absurd (Bg List.length (ey_.mp e)) h
mutual
theorem Is.eqr {K:W.Frag}{H:Hp}:∀{d e:D}{v w:V}{n:Nat},dep d<=n->Kin d e->Is H d v->Is H e w->EqR K H n v w (eqD d e)
 | .i a, .i b,_,_,n,_,_,h,k=>by
  rw [cn_ h,cn_ k,eqD];exact EqR.int n a b
 | .l xs, .l ys,_,_,0,hn,_,_,_=>absurd hn (by unfold dep;lia)
 | .l xs, .l ys,_,_,n+1,hn,hk,h,k=>by
  obtain⟨a,vs,rfl,ha,ra⟩:=cI_ h;obtain⟨b,ws,rfl,hb,rb⟩:=cI_ k;have hn':i3_ xs<=n:=by unfold dep at hn;lia
  have hk':if_ xs ys:=by unfold Kin at hk;exact hk
  have l1:=ra.length;have l2:=rb.length;rw [eqD];by_cases hl:xs.length=ys.length
  .rw [gP_ hl,<-l1];exact EqR.lists _ (SqL.of ha) (SqL.of hb) (by lia) fun j x y hx hy=>Iss.eqr hn' hk' ra rb hx hy
  .rw [kg_ hl];exact EqR.lens (SqL.of ha) (SqL.of hb) (by lia)
 | .t xs, .t ys,_,_,0,hn,_,_,_=>absurd hn (by unfold dep;lia)
 | .t xs, .t ys,_,_,n+1,hn,hk,h,k=>by
  obtain⟨a,vs,rfl,ha,ra⟩:=gq_ h;obtain⟨b,ws,rfl,hb,rb⟩:=gq_ k;have hn':i3_ xs<=n:=by unfold dep at hn;lia
  have hk':if_ xs ys:=by unfold Kin at hk;exact hk
  have l1:=ra.length;have l2:=rb.length;rw [eqD];have q:=EqR.tuples (d:=n) (fun j=>eqD (xs.getD j (.i 0)) (ys.getD j (.i 0))) (SqT.of (K:=K) ha) (SqT.of (K:=K) hb) fun j x y hx hy=>Iss.eqr hn' hk' ra rb hx hy;by_cases hl:xs.length=ys.length
  .rw [gP_ hl];rw [l1,l2,<-hl,Nat.min_self] at q;simpa using q
  .rw [kg_ hl];have z:(vs.length==ws.length)=false:=by rw [l1,l2];simpa using hl
   rw [z,D3] at q;exact q
 | .i _, .l _,_,_,_,_,hk,_,_=>by unfold Kin at hk;exact hk.elim
 | .i _, .t _,_,_,_,_,hk,_,_=>by unfold Kin at hk;exact hk.elim
 | .l _, .i _,_,_,_,_,hk,_,_=>by unfold Kin at hk;exact hk.elim
 | .l _, .t _,_,_,_,_,hk,_,_=>by unfold Kin at hk;exact hk.elim
 | .t _, .i _,_,_,_,_,hk,_,_=>by unfold Kin at hk;exact hk.elim
 | .t _, .l _,_,_,_,_,hk,_,_=>by unfold Kin at hk;exact hk.elim
theorem Iss.eqr {K:W.Frag}{H:Hp}:∀{xs ys:List D}{vs ws:List V}{n:Nat},i3_ xs<=n->if_ xs ys->Iss H xs vs->Iss H ys ws->∀{j:Nat}{x y:V},vs[j]? =some x->ws[j]? =some y->
  EqR K H n x y (eqD (xs.getD j (.i 0)) (ys.getD j (.i 0)))
 |[],_,_,_,_,_,_,h,_,_,_,_,e,_=>by rw [bf_ h] at e;simp at e
 |_::_,[],_,_,_,_,_,_,k,_,_,_,_,e=>by rw [bf_ k] at e;simp at e
 |x::xs,y::ys,_,_,n,hn,hk,h,k,0,u,w,e1,e2=>by
  obtain⟨u',us,rfl,q,_⟩:=az_ h;obtain⟨w',ws,rfl,q',_⟩:=az_ k;simp at e1 e2;subst e1 e2;have hk':Kin x y/\if_ xs ys:=by unfold if_ at hk;exact hk
  have hd:dep x<=n:=by unfold i3_ at hn;lia
  exact Is.eqr (d:=x) (e:=y) hd hk'.1 q q'
 |x::xs,y::ys,_,_,n,hn,hk,h,k,j+1,u,w,e1,e2=>by
  obtain⟨u',us,rfl,_,r⟩:=az_ h;obtain⟨w',ws,rfl,_,r'⟩:=az_ k;have hk':Kin x y/\if_ xs ys:=by unfold if_ at hk;exact hk
  have hd:i3_ xs<=n:=by unfold i3_ at hn;lia
  have:=Iss.eqr (K:=K) hd hk'.2 r r' (j:=j) (by simpa using e1) (by simpa using e2);simpa using this
end
noncomputable abbrev Pt:=Int×Int
noncomputable def pt (p:Pt):D:= .t [.i p.1, .i p.2]
noncomputable def pts (ps:List Pt):D:= .l (ps.map pt)
theorem r1_ {p q:Pt} (h:pt p=pt q):p=q:=by
 unfold pt at h;injection h with h;injection h with h1 h2;injection h2 with h2 _;injection h1 with h1;injection h2 with h2;exact Prod.ext h1 h2
theorem sL_ {p q:Pt}:eqD (pt p) (pt q)=decide (p=q):=by
 rw [Co,iX_,decide_eq_true_iff];exact⟨r1_,fun h=>by rw [h]⟩
theorem sw_ {p q:Pt}:Kin (pt p) (pt q):=by simp [pt,Kin,if_]
theorem sR_ {p:Pt}:dep (pt p)=1:=by simp [pt,dep,i3_]
theorem sK_ {K:W.Frag}{H:Hp}{p q:Pt}{v w:V} (h:Is H (pt p) v) (k:Is H (pt q) w):EqR K H 1 v w (decide (p=q)):=by
 rw [<-sL_];exact h.eqr (by rw [sR_];lia) sw_ k
theorem ob_ {H:Hp}{p:Pt}{v:V} (h:Is H (pt p) v):∃a,v= .ref a/\H a=some (.tup [.int p.1, .int p.2]):=by
 obtain⟨a,vs,e,q,r⟩:=gq_ h;obtain⟨u,us,rfl,h1,r⟩:=az_ r;obtain⟨u',us',rfl,h2,r⟩:=az_ r;rw [bf_ r,cn_ h1,cn_ h2] at q;exact⟨a,e,q⟩
theorem iT_ {H:Hp}{p:Pt}{a:Addr} (h:H a=some (.tup [.int p.1, .int p.2])):Is H (pt p) (.ref a):=g1_ h (ai_ kT_ (ai_ kT_ an_))
theorem hs_ {H:Hp}{ps:List Pt}{v:V} (h:Is H (pts ps) v):∃a vs,v= .ref a/\H a=some (.lst vs)/\Iss H (ps.map pt) vs:=cI_ h
noncomputable def hid (H:Hp) (a:Addr):Hp:=fun b=>if b=a then none else H b
theorem dn_ {H:Hp}{a b:Addr} (h:b≠a):hid H a b=H b:=by unfold hid;rw [A5 h]
theorem ov_ {H:Hp}{a:Addr}:hid H a a=none:=by unfold hid;rw [A6 rfl]
theorem kc_ {H:Hp}{a:Addr}:ak_ (hid H a) H:=fun b o e=>by
 unfold hid at e;split at e
 .cases e
 .exact e
theorem bz_ {H H':Hp}{a:Addr} (s:ak_ H H'):ak_ (hid H a) (hid H' a):=fun b o e=>by
 unfold hid at e⊢;split at e
 .cases e
 .rename_i h;rw [A5 h];exact s b o e
theorem qP_ {H:Hp}{a:Addr}{o:HO}:hid (upd H a o) a=hid H a:=by
 funext b
 unfold hid;split
 .rfl
 .rename_i h;exact ao_ h
noncomputable def g2_ (H:Hp) (a:Addr) (xs:List D):Prop:=∃vs,H a=some (.lst vs)/\Iss (hid H a) xs vs
theorem g2_.start {H:Hp}{a:Addr}:g2_ (upd H a (.lst [])) a []:=⟨[],ae_,an_⟩
theorem g2_.mono {H H':Hp}{a:Addr}{xs:List D} (s:ak_ H H') (g:g2_ H a xs):g2_ H' a xs:=let ⟨vs,e,h⟩:=g;⟨vs,s _ _ e,h.mono (bz_ s)⟩
theorem g2_.is {H:Hp}{a:Addr}{xs:List D} (g:g2_ H a xs):Is H (.l xs) (.ref a):=let ⟨_,e,h⟩:=g;cu_ e (h.mono kc_)
theorem dW_ {H:Hp}{a:Addr}{xs:List D}{x:D}{vs:List V}{v:V} (h:Iss (hid H a) xs vs) (k:Is (hid H a) x v):g2_ (upd H a (.lst (vs++[v]))) a (xs++[x]):=
 ⟨_,ae_,by rw [qP_];exact h.append (ai_ k an_)⟩
end L2
namespace L2
open PySem PySem.Spec PyProof.Rows
section
variable {X:Cx}{es:List Expr}{t:TA}{pos:Pos}
noncomputable def New (H:Hp) (o:HO) (Q:VK):Prop:=∀p H2,H p=none->ak_ H H2->H2 p=some o->Q (.ref p) H2
theorem New.at {H:Hp}{o:HO}{Q:VK} (q:New H o Q) {p:Addr} (np:H p=none):Q (.ref p) (upd H p o):=q p _ np (ak_.new np) ae_
noncomputable def kx_ (t:TA):TE:=fun σ H Q=>t σ H fun xs H1=>xs.length<=sizeLine/\New H1 (.tup xs) Q
noncomputable def rF_ (t:TA):TE:=fun σ H Q=>t σ H fun xs H1=>xs.length<=sizeLine/\New H1 (.lst xs) Q
theorem ay_ {x1} (h:PA X es t):PE X (.Tuple es x1 pos) (kx_ t):=by
 intro pins s σ H Q I hq;refine wpAny_Tuple_spliced (thn (h pos pins s σ H _ I hq) fun us s1 ⟨xs,H1,I1,r,z,q⟩=>⟨by rw [<-r.length];exact z, ?_⟩);refine⟨.ref s1.heap.objs.size,upd H1 s1.heap.objs.size (.tup xs),I1.laid (t':=s1.toks) (fun b u e=>A9 _ e) (A8 _) ?_,rfl,q.at (I1.hok.fresh (A8 _))⟩;exact⟨z,us,r,⟨_,AL _ rfl,rfl,_,rfl⟩⟩
theorem aE_ (h:PA X es t):PE X (.List es pos) (rF_ t):=by
 intro pins s σ H Q I hq;refine wpAny_List_spliced (thn (h pos pins s σ H _ I hq) fun us s1 ⟨xs,H1,I1,r,z,q⟩=>⟨by rw [<-r.length];exact z, ?_⟩);refine⟨.ref s1.heap.objs.size,upd H1 s1.heap.objs.size (.lst xs),I1.laid (t':=s1.toks) (fun b u e=>A9 _ e) (A8 _) ?_,rfl,q.at (I1.hok.fresh (A8 _))⟩;exact⟨z,us,0,r,AL _ rfl⟩
theorem OpR.imp {f:Value->Value->Sem Value}{r r':R2} (h:OpR X f r) (k:∀x y H Q,r' x y H Q->r x y H Q):OpR X f r':=fun pins s σ H x y v u Q I rx ry q=>h pins s σ H x y v u Q I rx ry (k _ _ _ _ q)
theorem cx_.imp {f:Value}{r r':List V->Hp->VK->Prop} (h:cx_ X f r) (k:∀xs H Q,r' xs H Q->r xs H Q):cx_ X f r':=fun pins s σ H xs us Q I rs q=>h pins s σ H xs us Q I rs (k _ _ _ q)
theorem cl_:OpR X (binaryOp .Add) (fun x y H Q=>∃xs zs,Is H (.l xs) x/\Is H (.l zs) y/\xs.length+zs.length<=sizeLine/\∀p H2,H p=none->ak_ H H2->Is H2 (.l (xs++zs)) (.ref p)->Q (.ref p) H2):=
 hn_.imp fun x y H Q ⟨xs,zs,hx,hz,hl,q⟩=>by
  obtain⟨a,vs,rfl,ha,ra⟩:=cI_ hx;obtain⟨b,ws,rfl,hb,rb⟩:=cI_ hz;exact⟨a,b,vs,ws,rfl,rfl,ha,hb,by rw [ra.length,rb.length];exact hl,fun p np=>q p _ np (ak_.new np) (cu_ ae_ ((ra.append rb).mono (ak_.new np)))⟩
theorem lA_ {α:Type}{x:α}:∀n:Nat,(List.replicate n [x]).flatten=List.replicate n x
 |0=>rfl
 |n+1=>by rw [Ap,C6,lA_ n,Ap];rfl
theorem iF_:OpR X (binaryOp .Mult) (fun x y H Q=>∃d n,Is H (.l [d]) x/\y= .int n/\-(2^63)<=n/\n<2^63/\n.toNat<=sizeLine/\∀p H2,H p=none->ak_ H H2->Is H2 (.l (List.replicate n.toNat d)) (.ref p)->Q (.ref p) H2):=
 hm_.imp fun x y H Q ⟨d,n,hx,ey,h1,h2,hl,q⟩=>by
  obtain⟨a,vs,rfl,ha,ra⟩:=cI_ hx;obtain⟨u,us,rfl,hu,ru⟩:=az_ ra;rw [bf_ ru] at ha;refine⟨a,n,_,rfl,ey,ha,h1,h2,by rw [B0,Nat.one_mul];exact hl,fun p np=>q p _ np (ak_.new np) ?_⟩;rw [lA_];exact cu_ ae_ ((Iss.rep hu _).mono (ak_.new np))
theorem bI_:cx_ X (.type "tuple") (fun vs H Q=>∃v xs,vs=[v]/\Is H (.l xs) v/\∀p H2,H p=none->ak_ H H2->Is H2 (.t xs) (.ref p)->Q (.ref p) H2):=
 gV_.imp fun vs H Q ⟨v,xs,ev,hx,q⟩=>by
  subst ev;obtain⟨a,ws,rfl,ha,ra⟩:=cI_ hx;exact⟨a,ws,rfl, .inl ⟨SqL.of ha,fun p np=>q p _ np (ak_.new np) (g1_ ae_ (ra.mono (ak_.new np)))⟩⟩
theorem sC_ {α:Type}{xs:List α}{i:Int}{j:Nat}{x:α} (e:i=j) (h:xs[j]? =some x):atI xs i=some x:=by rw [e];exact fa_ h
theorem Iss.atI {H:Hp}{xs:List D}{vs:List V}{i:Int}{x:D} (h:Iss H xs vs) (e:L2.atI xs i=some x):∃u,L2.atI vs i=some u/\Is H x u:=by
 unfold L2.atI at e⊢;rw [h.length];cases q:ixN xs.length i with
 |none=>rw [q] at e;cases e
 |some j=>
  rw [q] at e;obtain⟨u,e1,k⟩:=h.get (j:=j) e;exact⟨u,e1,k⟩
theorem b0_:IxR X (fun x y H Q=>∃xs i d,Is H (.l xs) x/\y= .int i/\atI xs i=some d/\∀u,Is H d u->Q u H):=by
 intro value slice pins s σ H x y v u Q I rx ry h hs;obtain⟨xs,i,d,hx,ey,e,q⟩:=h;obtain⟨a,vs,rfl,ha,ra⟩:=cI_ hx;obtain⟨z,ez,hz⟩:=ra.atI e;exact c0_ value slice pins s σ H (.ref a) y v u Q I rx ry ⟨a,vs,i,z,rfl,ey,SqL.of ha,ez,q z hz⟩ hs
theorem au_:IxR X (fun x y H Q=>∃xs i d,Is H (.t xs) x/\y= .int i/\atI xs i=some d/\∀u,Is H d u->Q u H):=by
 intro value slice pins s σ H x y v u Q I rx ry h hs;obtain⟨xs,i,d,hx,ey,e,q⟩:=h;obtain⟨a,vs,rfl,ha,ra⟩:=gq_ hx;obtain⟨z,ez,hz⟩:=ra.atI e;exact bP_ value slice pins s σ H (.ref a) y v u Q I rx ry ⟨a,vs,i,z,rfl,ey,SqT.of ha,ez,q z hz⟩ hs
theorem h3_:cx_ X (.builtin "len") (fun vs H Q=>∃v xs,vs=[v]/\(Is H (.l xs) v\/Is H (.t xs) v)/\Q (.int xs.length) H):=
 a7_.imp fun vs H Q ⟨v,xs,ev,hx,q⟩=>by
  subst ev;rcases hx with hx|hx
  .obtain⟨a,ws,rfl,ha,ra⟩:=cI_ hx;exact⟨a,ws,rfl, .inl (SqL.of ha),by rw [ra.length];exact q⟩
  .obtain⟨a,ws,rfl,ha,ra⟩:=gq_ hx;exact⟨a,ws,rfl, .inr (SqT.of ha),by rw [ra.length];exact q⟩
end
end L2
namespace L2
open PySem PySem.Spec PyProof.Rows
section
variable {P:Program}{w:World}{H:Hp}{h:Heap}{a:Addr}{o:HO}
theorem aH_.obj (x:aH_ P w H h a o):∃ob,h.get? a=some ob:=by
 cases o with
 |lst xs=>obtain⟨_,_,_,_,e⟩:=x;exact⟨_,e⟩
 |tup xs=>obtain⟨_,_,_,_,e,_⟩:=x;exact⟨_,e⟩
 |dK kvs=>obtain⟨_,_,_,_,_,_,_,e,_⟩:=x;exact⟨_,e⟩
 |dT kvs=>obtain⟨_,_,_,_,_,_,_,e,_⟩:=x;exact⟨_,e⟩
 |set S n=>obtain⟨_,_,_,_,e,_⟩:=x;exact⟨_,e⟩
 |ins C dx fs=>obtain⟨_,_,_,e,_⟩:=x;exact⟨_,e⟩
 |own y=>exact x
 |xd fs=>obtain⟨_,⟨_,_,_,e,_⟩,_⟩:=x;exact⟨_,e⟩
 |rng lo hi=>obtain⟨_,_,_,e⟩:=x;exact⟨_,e⟩
 |frz ob u=>exact⟨_,x.1⟩
 |tbl ps=>exact⟨_,x⟩
 |met f y=>exact⟨_,x⟩
 |ext φ=>exact x.2.1
end
noncomputable def CX1 (P:Program) (w:World):CXT:=fun outer H s E e s'=>
 ∃(a C:Addr) (H':Hp) (B:Heap) (a0:Value),e= .ref a/\E (.ref C) none H'/\s'.os=s.os/\AllBare s'.gens/\Un (frs outer) [] H H' s.heap s'.heap/\HOk P w H' B/\H' a=none/\
  Heap.FlyingW B outer a (.ref C) a0 s'.heap/\(∀b o,s.heap.get? b=some o->H b=none->b∉frs outer->B.get? b=some o)/\(∀b o,s.heap.get? b=some o->b∉frs outer->∃o',B.get? b=some o')
noncomputable def nb_ (X:Cx) (E:XK):Prop:=∀(pins:List (Addr×Obj)) (σ:St) (H:Hp) (s:Shared) (h':Heap) (e C:Addr) (args:List Value),Inv X pins σ H s->Heap.MadeExcOf s.heap h' e (.ref C) args->E (.ref C) none H->X.xe (.ref e) {s with heap:=h'}
theorem lU_ {X:Cx}{P:Program}{w:World}:fc_ (CX1 P w) X E0:=fun _ _ _ _ _ _ _ ⟨_,_,_,_,_,_,z,_⟩=>z.elim
section
variable {X:Cx}{pins:List (Addr×Obj)}{σ:St}{H H':Hp}{s s':Shared}{B h':Heap}{l:List Env}
theorem kY_ (u:Un (frs l) [] H H' s.heap s'.heap) (fl:s'.heap.FunFrames B l) (kB:∀b o,s.heap.get? b=some o->H b=none->b∉frs l->B.get? b=some o) (tB:∀b o,s.heap.get? b=some o->b∉frs l->∃o',B.get? b=some o')
  (st:B.StaysIn h') (up:s'.heap.UpToSlots h'):Un (frs l) [] H H' s.heap h' where
 keep:=fun b o e n hb _=>st b o (kB b o e n hb)
 slot:=fun b o e n hb hx=>by
  obtain⟨sl,e1⟩:=u.slot b o e n hb hx;obtain⟨_,o',e2,d⟩:=fl.mem hb;rw [e1] at e2;cases e2;obtain⟨sl',e3⟩:=up b _ e1 d;exact⟨sl',e3⟩
 free:=u.free
 there:=fun b o e hx=>by
  by_cases hb:b∈frs l
  .obtain⟨_,o',e2,d⟩:=fl.mem hb;obtain⟨sl',e3⟩:=up b _ e2 d;exact⟨_,e3⟩
  .obtain⟨o',e2⟩:=tB b o e hb;exact⟨o',st b o' e2⟩
 tups:=u.tups
 frzs:=u.frzs
 tbls:=u.tbls
theorem Inv.nstk (I:Inv X pins σ H s) {b:Addr}{o:Obj} (e:X.s₀.heap.get? b=some o) (hb:b∉X.fs):b∉frs X.stack:=fun z=>by
 rcases AK.mp (I.stkSub b z) with q|q
 .exact absurd q (AO (AY (AN e) I.ok.above))
 .exact hb q
theorem pm_ {env:Env}{b:Addr} (he:env∈l) (hf:env.frame=some b):b∈frs l:=Cz.mpr ⟨env,he,hf⟩
theorem Inv.hidden (I:Inv X pins σ H s):HOk X.prog X.w H (W.hideAll s.heap (frs X.stack)):=fun a o e=>by
 refine(I.hok a o e).stay (fun b u hb q=>W.hideAll_get _ q fun z=> ?_) (fun _ q=>q) fun _ _ q=>q;have n:=I.stkFree b z;rcases hb with rfl|hb
 .rw [n] at e;cases e
 .rw [n] at hb;cases hb
structure Fnc (X:Cx):Prop where
 ex:X.ex=[]
 stk:X.stack=X.env::X.outer
 fr:X.env.frame=some X.env.locals
theorem CX1.mk {E:XK}{e C:Addr}{a0:Value} (F:Fnc X) (I:Inv X pins σ H s) (os:s'.os=s.os) (bare:AllBare s'.gens) (u:Un (frs X.stack) [] H H' s.heap s'.heap) (hB:HOk X.prog X.w H' B) (hE:E (.ref C) none H') (hn:H' e=none)
  (fl:Heap.FlyingW B X.outer e (.ref C) a0 s'.heap) (kB:∀b o,s.heap.get? b=some o->H b=none->b∉frs X.stack->B.get? b=some o) (tB:∀b o,s.heap.get? b=some o->b∉frs X.stack->∃o',B.get? b=some o'):
  CX1 X.prog X.w X.outer X.H₀ X.s₀ E (.ref e) s':=by
 have J:Inv X pins σ H' s':=I.call' (ch:=[]) os u (hB.kept fl.1) bare fun _ z=>absurd z (by simp);have ub:Un X.fs X.ex X.H₀ H' X.s₀.heap s'.heap:=J.base;have nx:∀b:Addr,b∉X.ex:=fun b=>by rw [F.ex];simp
 rw [F.ex] at ub;refine⟨e,C,H',B,a0,rfl,hE,J.os,J.bare,ub,hB,hn,fl,fun b o q n hb=> ?_,fun b o q hb=> ?_⟩
 .exact kB b o (I.base.keep b o q n hb (nx b)) (I.base.free b o q n (nx b)) (I.nstk q hb)
 .obtain⟨o',q'⟩:=I.base.there b o q (nx b);exact tB b o' q' (I.nstk q hb)
theorem lB_ {CX:CXT}{E:XK} (F:Fnc X) (hcx:CX=CX1 X.prog X.w) (hxe:X.xe=fun e s'=>wpAny (model X.prog X.w) X.A (leaving X.env e) (fun _ s''=>CX X.outer X.H₀ X.s₀ E e s'') (fun e' s''=>CX X.outer X.H₀ X.s₀ E e' s'') s'):nb_ X E:=by
 intro pins σ H s h' e C args I hx hE;subst hcx;rw [hxe];have fb:=I.stack;have hl:s.heap.FunFrames (W.hideAll s.heap (frs X.stack)) (X.env::X.outer):=by
  rw [F.stk] at fb⊢;exact W.funFrames_hide fb fun env he b hb=>pm_ he hb
 refine wpAny_leaves_madeW (base:=W.hideAll s.heap (frs X.stack)) (by rw [I.ok.frames,F.stk]) F.fr (fun b o q=>W.of_hideAll _ q) hl hx fun h'' t fl _ _ up=> ?_;have kB:∀b o,s.heap.get? b=some o->b∉frs X.stack->(W.hideAll s.heap (frs X.stack)).get? b=some o:=fun b o q n=>W.hideAll_get _ q n;have hn:H e=none:=by
  cases q:H e with
  |none=>rfl
  |some o=>
   obtain⟨ob,z⟩:=(I.hok e o q).obj;rw [hx.new] at z;cases z
 have u0:Un (frs X.stack) [] H H s.heap h':=Un.kept hx.keeps;have fl':h'.FunFrames (W.hideAll s.heap (frs X.stack)) X.stack:=by
  rw [F.stk];rw [F.stk] at hl;exact hl.of_keeps fun b o q _=>⟨o,hx.keeps b o q,rfl⟩
 have u:Un (frs X.stack) [] H H s.heap h'':=kY_ (s':={s with heap:=h'}) u0 fl' (fun b o q _ n=>kB b o q n) (fun b o q n=>⟨o,kB b o q n⟩) fl.1 up;exact CX1.mk (s':={s with heap:=h''}) F I rfl I.bare u I.hidden hE hn fl (fun b o q _ n=>kB b o q n) (fun b o q n=>⟨o,kB b o q n⟩)
theorem lT_ {CX:CXT}{E:XK} (F:Fnc X) (hcx:CX=CX1 X.prog X.w) (hxe:X.xe=fun e s'=>wpAny (model X.prog X.w) X.A (leaving X.env e) (fun _ s''=>CX X.outer X.H₀ X.s₀ E e s'') (fun e' s''=>CX X.outer X.H₀ X.s₀ E e' s'') s'):fc_ (CX1 X.prog X.w) X E:=by
 intro pins σ H s e s' I hc;subst hcx;rw [hxe];obtain⟨a,C,H',B,a0,rfl,hE,os,bare,u,hB,hn,fl,kB,tB⟩:=hc;refine wpAny_leaves_onW (by rw [I.ok.frames,F.stk]) F.fr (by rw [<-F.stk];exact fl) fun h'' fl'' up=> ?_;exact CX1.mk (s':={s' with heap:=h''}) F I os bare (kY_ u fl.2.2.1 kB tB fl''.1 up) hB hE hn fl'' kB tB
end
theorem Fun.okx {P:Program}{w:World}{K:W.Frag}{mg:Str->Option Value}{base:Heap}{x qual:Str}{st:Stmt}{f:Addr}{fd:FuncData}{N ps:List Str}{k:Nat}{sp:Sp} (F:Fun K x qual st f fd) (S:FnScope N ps (ag_ st)) (len:∀vs H Q E,sp vs H Q E->vs.length=ps.length)
  (hbody:∀(cdv:Value) (A:Around) (outer:List Env) (s:Shared) (H:Hp) (vs:List V) (Q:VK) (E:XK),Room k (A.deeper (envOfC qual (ag_ st) s.heap.objs.size f cdv))->sp vs H Q E->
   nb_ (kU_ (CX1 P w) P w K mg base N qual (ag_ st) f cdv A outer s H E) E->fc_ (CX1 P w) (kU_ (CX1 P w) P w K mg base N qual (ag_ st) f cdv A outer s H E) E->
   ∃t,PSs (kU_ (CX1 P w) P w K mg base N qual (ag_ st) f cdv A outer s H E) (a0_ st) t/\t {nx:=fun _ H'=>Q .non H',rt:=Q} (start N vs) H):FnOk P w K mg base (CX1 P w) (k+1) f fd ps sp:=by
 obtain⟨oc,od,kV,doc,pm,an,cdv,ct,osl,rfl,lk,hcd⟩:=F.ex;refine sJ_ lk hcd S len fun A outer s H vs Q E hr hsp=> ?_;have Fn:Fnc (kU_ (CX1 P w) P w K mg base N qual (ag_ st) f cdv A outer s H E):=⟨rfl,rfl,rfl⟩;exact hbody cdv A outer s H vs Q E hr hsp (lB_ Fn rfl rfl) (lT_ Fn rfl rfl)
theorem Fun.oky {P:Program}{w:World}{K:W.Frag}{mg:Str->Option Value}{base:Heap}{x qual:Str}{st:Stmt}{f:Addr}{fd:FuncData}{N ps:List Str}{k:Nat}{sp:Sp} (F:Fun K x qual st f fd) (S:FnScope N ps (ag_ st)) (len:∀vs H Q E,sp vs H Q E->vs.length=ps.length)
  (hbody:∀(cdv:Value) (A:Around) (outer:List Env) (s:Shared) (H:Hp) (vs:List V) (Q:VK) (E:XK),Room k (A.deeper (envOfC qual (ag_ st) s.heap.objs.size f cdv))->sp vs H Q E->
   Fnc (kU_ CX0 P w K mg base N qual (ag_ st) f cdv A outer s H E).nox->
   ∃t,PSs (kU_ CX0 P w K mg base N qual (ag_ st) f cdv A outer s H E).nox (a0_ st) t/\t {nx:=fun _ H'=>Q .non H',rt:=Q} (start N vs) H):FnOk P w K mg base CX0 (k+1) f fd ps sp:=
 F.ok S len fun cdv A outer s H vs Q E hr hsp=>hbody cdv A outer s H vs Q E hr hsp ⟨rfl,rfl,rfl⟩
section
variable {X:Cx}{pos np cpos:Pos}{x:Str}{C:Addr}{E:XK}{e:Expr}{es:List Expr}{t:TA}
noncomputable abbrev bmV:List Value:=[.type "ValueError", .type "Exception", .type "BaseException", .type "object"]
theorem qT_ {K:W.Frag}{h:Heap}{bmB:List Value}{newId:String} (Y:K.In h) (q:W.excIn K C bmB newId=true):
  ∃bm N nm qn bs hdct sn sub ab col dd k0 k1 k2 k3 k5 mN,h.get? C=some (excClassObj nm qn C N bs bm hdct sn sub ab col dd k0 k1 k2 k3 k5 newId)/\h.Ns N mN/\mN "__init__"=none/\OwnTail h bmB bm:=by
 unfold W.excIn at q;split at q
 case h_2=>cases q
 rename_i dd cd sl ho;split at q
 case h_2=>cases q
 rename_i C' bm k0 k1 k2 k3 n k5 hm hs;rw [AC,AC,AC,AC,AC,CC,CC,CC,Bool.not_eq_true'] at q;obtain⟨⟨⟨⟨⟨e1,e2⟩,e3⟩,e4⟩,e5⟩,e6⟩:=q;subst e1 e2;rcases cd with⟨nm,bs,mro,ns,qn,hd,sn,sub,ab,col,del⟩;dsimp only at hm e3 e5 e6;subst hm e3;have hsl:sl= #[k0,k1,k2,k3,some (.builtin n),k5]:=by
  rcases sl with⟨l⟩;have hs':l=_:=hs;rw [hs']
 subst hsl;exact⟨bm,ns,nm,qn,bs,hd,sn,sub,ab,col,dd,k0,k1,k2,k3,k5,_,Y _ _ ho, .of_isNs (W.isNs_of_in Y e5),W.nsMap_none_of_in Y e5 e6,W.tail_of_in Y e4⟩
noncomputable def oV_ (C:Addr) (E:XK) (t:TA):TS:=fun _ σ H=>t σ H fun vs H1=>vs.length<=sizeLine/\E (.ref C) none H1
theorem nW_ (hR:nb_ X E) (hg:Gl X x) (hm:X.mg x=some (.ref C)) (hC:W.excIn X.K C bmV "ValueError.__new__"=true) (hc:X.calm=true) (ha:PA X (e::es) t) (hdb:(x==("__debug__":Str))=false:=by decide)
  (he:starEach (e::es) X.env=(false,eval e X.env)::starEach es X.env:=by rfl) (hpl:(backTo cpos (starEach es X.env)).any (·.1)=false:=by rfl):
  PS X (.Raise (some (.Call (.Name x np) (e::es) [] cpos)) none pos) (oV_ C E t):=by
 intro pins s σ H D I h;have hcl:=I.ok.mod.kin;obtain⟨bm',N',nm',qn',bs',hdct',sn',sub',ab',col',dd',k0',k1',k2',k3',k5',mN',hCb,hNb,hnib,TLb⟩:=qT_ hcl hC;refine wpAny_Raise_call_subT (q:=qn') (N:=N') (bs:=bs') (bm:=bm') (hdct:=hdct') (sn:=sn') (sub:=sub') (ab:=ab') (col:=col') (dd:=dd') (k0:=k0') (k1:=k1') (k2:=k2') (k3:=k3') (k5:=k5') (nm:=nm') (mN:=mN') PySem.F.excBase_ValueError
  (TLb.hasType (by ac_nf)) (I.ok.hd hc) (by rw [he];show(false||(backTo cpos (starEach es X.env)).any (·.1))=false;rw [hpl];rfl) hnib (eb_ I hg hm ⟨rfl, ?_⟩ hdb)
 have h2:=ha cpos pins s σ H _ I h;rw [he] at h2⊢;refine Calls.evalArgs_plain (thn h2 fun us s1 ⟨vs,H1,I1,r,hz,hE⟩=>⟨rfl,by rw [<-r.length];exact hz,I1.bk _ _ hCb,hNb.keeps I1.bk,TLb.keeps I1.bk,fun h' e' hx=> ?_⟩);exact hR pins σ H1 s1 h' e' C us I1 hx hE
end
theorem PS.quiet {X:Cx}{st:Stmt}{t:TS} (h:PS X.nox st t):PS X st t:=fun pins s σ H D I hw=>BC (h pins s σ H D (I.wish _) hw) (fun _ _ q=>q.unwish) fun _ _ z=>False.elim z
section
variable {X:Cx}{pos:Pos}{e v:Expr}{es:List Expr}{te:TE}
noncomputable abbrev TJ:=Str->St->Hp->VK->Prop
noncomputable def PJ (X:Cx) (es:List Expr) (t:TJ):Prop:=∀(out:Str) (pins:List (Addr×Obj)) (s:Shared) (σ:St) (H:Hp) (Q:VK),Inv X pins σ H s->t out σ H Q->wpAny (model X.prog X.w) X.A (joinParts out (evalEach es X.env)) (EP X pins σ Q) X.xe s
noncomputable def tJn:TJ:=fun out _ H Q=>out.length<=sizeLine/\Q (.str out) H
noncomputable def tJc (te:TE) (tr:TJ):TJ:=fun out σ H Q=>te σ H fun x H1=>∃y,x= .str y/\(out++y).length<=sizeLine/\tr (out++y) σ H1 Q
theorem r6_:PJ X [] tJn:=fun out pins s σ H Q I h=>joinParts_nil ⟨.str out,H,I.tok _,⟨_,rfl⟩,h.2⟩ h.1
theorem gd_ {tr:TJ} (he:PE X e te) (hr:PJ X es tr):PJ X (e::es) (tJc te tr):=by
 intro out pins s σ H Q I h;show wpAny _ _ (joinParts out (eval e X.env::evalEach es X.env)) _ _ _;refine joinParts_cons (thn (he pins s σ H _ I h) fun u s1 ⟨x,H1,I1,r1,y,ex,hz,q1⟩=> ?_);subst ex;obtain⟨tk,rfl⟩:=r1;exact⟨hz,hr (out++y) pins s1 σ H1 Q I1 q1⟩
theorem qk_ {v2:Expr}{t:TJ} (h:PJ X (e::v2::es) t):PE X (.JoinedStr (e::v2::es) pos) (fun σ H Q=>t Str.empty σ H Q):=fun pins s σ H Q I hq=>JoinedStr_many (h Str.empty pins s σ H Q I hq)
theorem lR_ (hv:PE X v te):PE X (.FormattedValue v (-1) none pos) (fun σ H Q=>te σ H fun x H1=>∃i,x= .int i/\i.natAbs.log2<1920/\Q (.str (toString i)) H1):=by
 intro pins s σ H Q I h;refine FormattedValue_plain (thn (hv pins s σ H _ I h) fun u s1 ⟨x,H1,I1,r1,i,ex,hz,q1⟩=> ?_);subst ex;obtain⟨tk,rfl⟩:=r1;exact formatField_int_small hz ⟨.str _,H1,I1.tok _,⟨_,rfl⟩,q1⟩
end
section
variable {X:Cx}{CX:CXT}{ps:List Str}{sp:Sp}{E:XK}{x:Str}{p pos:Pos}{e:Expr}{es:List Expr}{t:TA}{i:Nat}
end
end L2
namespace L2
open PySem PySem.Calls PyProof.Rows PySem.W Builtin Builtin.ObjectAttr Builtin.Getset_descriptor
structure XC (K:Frag) (C:Addr):Prop where
 cl:(clsIn K C).isSome=true
 ga:findIn K (.ref C) "__getattribute__"=some (some (.builtin "BaseException.__getattribute__"))
 gt:findIn K (.ref C) "__getattr__"=some none
 ca:findIn K (.ref C) "__class__"=some (some (.builtin "object.__class__"))
 gn:specialIn K (.builtin "object.__class__") "__get__"=some (some (.builtin "getset_descriptor.__get__"))
 tk:takesIn K (.builtin "object.__class__")=some true
 ob:mroIn K C (.type "object")=some true
 be:mroIn K C (.type "BaseException")=some true
section
variable {prog:Program}{w:World}{A:Around}{E:Value->Shared->Prop}{K:Frag}{x C:Addr}{h:Heap}{g:Array GenState}{d:Drawn}{t:Nat}{os:OsState}
theorem ih_ {M:Model}{o:Obj} (e:h.get? x=some o) (c:o.cls= .ref C):Looks M h (typeOf (.ref x)) (.ref C):=c▸(Looks.ld e).andThen .now
theorem rv_ {R:Result->Shared->Prop}{tp:Value} (Y:K.In h) (F:XC K C) (LT:∀M:Model,Looks M h (typeOf (.ref x)) (.ref C)) (q:R (.ok (.ret (.ref C))) ⟨h,g,d,t,os⟩):
  codeAny (model prog w) A (.call (.builtin "getset_descriptor.__get__") ⟨[.builtin "object.__class__", .ref x,tp],[]⟩) R ⟨h,g,d,t,os⟩:=by
 have L0:=LT (model prog w);have L1:=looks_mroIn (M:=model prog w) Y F.ob;refine codeAny_call_builtin KF.slot_gs.plain KF.entry_gs (KF.slot_gs.check _ _ _ _ _ _ _ _ KF.type_class (KF.args_gs _ _ _) ?_);unfold Builtin.«getset_descriptor.__get__» descrGet;rw [dga_obj];refine A0 (A3 ?_);unfold descrGetter descrCheckInstance descrNameAndClass isInstance;simp only [KF.owner_class]
 repeat lk
 refine⟨Code.quiet_builtin _ (by ac_nf),Bl KF.entry_class ?_⟩;unfold Builtin.«object.__class__» shownTypeOf
 repeat lk
 exact q
theorem py_ {M:Model} (Y:K.In h) (F:XC K C):Looks M h (find (.ref x) (.ref C) "__class__") (.bind (.builtin "getset_descriptor.__get__") (.builtin "object.__class__")):=by
 have L1:=looks_findIn (M:=M) Y F.ca;have L2:Looks M h (getOf (some (.builtin "object.__class__"))) (some (.builtin "getset_descriptor.__get__")):=looks_specialIn Y F.gn;have L3:=looks_takesIn (M:=M) Y F.tk;exact L1.andThen (L2.andThen ((show Looks M h (dataDescriptor? (some (.builtin "object.__class__")) (some (.builtin "getset_descriptor.__get__"))) (some (.builtin "getset_descriptor.__get__", .builtin "object.__class__")) from L3.andThen .now).andThen (Looks.tag .now)))
theorem nj_ {tk:Tok}{Q:Fin->Shared->Prop} (Y:K.In h) (F:XC K C) (LT:∀M:Model,Looks M h (typeOf (.ref x)) (.ref C)) (q:Q (.done (.ret (.ref C))) ⟨h,g,d,t,os⟩):
  wpAny (model prog w) A (Builtin.«object.__getattribute__» ⟨[.ref x, .str "__class__" tk],[]⟩) Q E ⟨h,g,d,t,os⟩:=by
 have L0:=LT (model prog w);have L1:=py_ (x:=x) (M:=model prog w) Y F;refine A0 (A3 (A0 (A3 (A0 (L0.at (A0 (L1.at ?_)))))));show wpAny _ _ (holding [.builtin "object.__class__"] (call (.builtin "getset_descriptor.__get__") [.builtin "object.__class__", .ref x, .ref C])>>=ret) _ _ _;exact A0 (Aw (wpAny_call (rv_ Y F LT (A3 q))))
theorem nk_ {nameV:Value}{M:Model}{Q:Unit->Shared->Prop} (Y:K.In h) (F:XC K C) (LT:∀M:Model,Looks M h (typeOf (.ref x)) (.ref C)) (q:Q () ⟨h,g,d,t,os⟩):
  wpAny M A (checkBuiltinCall "BaseException.__getattribute__" ⟨[.ref x,nameV],[]⟩) Q E ⟨h,g,d,t,os⟩:=by
 have e1:builtinKind "BaseException.__getattribute__"=some .slot:=by ac_nf
 have e2:splitId "BaseException.__getattribute__"=some ("BaseException","__getattribute__"):=by ac_nf
 have ha:=PySem.F.args_bexc_ga (.ref x) nameV;have L0:=LT M;have L1:=looks_mroIn (M:=M) Y F.be;simp only [checkBuiltinCall,e1,e2];refine A0 ?_;unfold isInstance
 repeat (first|lk|wp_step)
 exact q
theorem pz_ {Q:Option Value->Shared->Prop} (Y:K.In h) (F:XC K C) (LT:∀M:Model,Looks M h (typeOf (.ref x)) (.ref C)) (q:Q (some (.ref C)) ⟨h,g,d,t+1,os⟩):wpAny (model prog w) A (getAttr? (.ref x) "__class__") Q E ⟨h,g,d,t,os⟩:=by
 have L0:=LT (model prog w);have L1:=looks_findIn (M:=model prog w) Y F.ga;have L2:=looks_findIn (M:=model prog w) Y F.gt;have e2:(Value.builtin "BaseException.__getattribute__"==Value.builtin "object.__getattribute__")=false:=by ac_nf
 have e1:(onTheHeap (Value.ref C)&&Value.builtin "BaseException.__getattribute__"==Value.builtin "object.__getattribute__")=false:=by rw [e2];rfl
 have f3:=PySem.F.excAttr_ValueError.ga.bind (.ref x);unfold getAttr? getAttrBy? getAttrBy;refine A0 (wpAny_mkText (A0 (CF (Aw (A0 (L0.at (A0 (L1.at ?_))))))));dsimp only;rw [e1];simp only [AE,Ak]
 repeat (any_goals (first|assumption|with_reducible refine L2.at ?_|wp_step))
 refine codeAny_call_builtin PySem.F.excAttr_ValueError.ga.plain PySem.F.entry_bexc_ga (nk_ Y F LT (nj_ Y F LT ?_))
 repeat (any_goals (first|assumption|lk|wp_step))
theorem on_ (F:XC K C):KitX K (.ref x) (.ref C) (fun h=>∃o,h.get? x=some o/\o.cls= .ref C) where
 ty:=fun _ _ _ ⟨_,e,c⟩=>ih_ e c
 it:=fun _ _ Y _=>by
  have z:=F.cl;unfold clsIn at z;split at z
  .rename_i ho;intro A' Q' E' s' k q;unfold isType loadHead;exact A0 (wpAny_loadPart (k _ _ (Y _ _ ho)) (A3 q))
  .cases z
 ne:=fun h tp dd its n sl Y htp=>by
  have z:=F.cl;unfold clsIn at z;split at z
  .rename_i ho;refine Bool.eq_false_iff.mpr fun q=> ?_;have e:C=tp:=Value.ref.inj (CC.mp q);subst e;have y:=(Y _ _ ho).symm.trans htp;cases y
  .cases z
 ca:=fun{_ _ _ _ _ s} Y ⟨_,e,c⟩ k=>by
  obtain⟨hh,g,d,t,os⟩:=s;exact pz_ Y F (fun M=>ih_ e c) k
end
noncomputable def nf_ (C a:Addr):HO:= .ext fun h=>∃o,h.get? a=some o/\o.cls= .ref C
theorem qU_ {P:Program}{w:World}{H:Hp}{h:Heap}{a C:Addr} (e:∃o,h.get? a=some o/\o.cls= .ref C):aH_ P w H h a (nf_ C a):=
 ⟨e,e.elim fun o q=>⟨o,q.1⟩,fun _ _ ⟨o,q,c⟩ k=>⟨o,k o q,c⟩⟩
noncomputable def ug_:V->Option Value
 | .ty n=>some (.type n)
 | .ref c=>some (.ref c)
 |_=>none
theorem oL_ {v:V}{c u:Value} (e:ug_ v=some c) (r:aV_ v u):u=c:=by
 cases v<;>first|(cases e;exact r)|cases e
section
variable {X:Cx}
theorem oM_:cx_ X (.builtin "isinstance") (fun xs H Q=>∃a C v c b,xs=[.ref a,v]/\H a=some (nf_ C a)/\XC X.K C/\ug_ v=some c/\kitOne X.K (.ref C) c=some b/\Q (.bl b) H):=by
 intro pins s σ H xs us Q I r h;obtain⟨a,C,v,c,b,rfl,ha,F,ev,e,q⟩:=h;obtain⟨u,w',rfl,ru,rw'⟩:=nn_ r;obtain rfl:u=Value.ref a:=ru;obtain rfl:=oL_ ev rw';exact kia_one (on_ F) I.kIn (I.hok a _ ha).1 e (fun z=>nomatch z) fun tk=>⟨.bl b,H,I.tok tk,rfl,q⟩
theorem m5_ {K:Frag} (hK:X.K=K):cx_ X (.builtin "isinstance") (fun xs H Q=>∃a C v c b,xs=[.ref a,v]/\H a=some (nf_ C a)/\XC K C/\ug_ v=some c/\kitOne K (.ref C) c=some b/\Q (.bl b) H):=hK▸oM_
end
end L2
namespace L2
open PySem PySem.Spec PyProof.Rows PySem.W
noncomputable abbrev Cx.inTry (X:Cx) (pn:List (Addr×Obj)) (z:Value->Shared->Prop):Cx:={X with pn:=pn,xe:=z}
noncomputable abbrev Cx.inSuite (X:Cx) (e:Addr):Cx:={X with A:=X.A.mark (some (.ref e)),calm:=false,xe:=fun _ _=>False}
section
variable {X:Cx}{pins pn:List (Addr×Obj)}{σ:St}{H H':Hp}{s s':Shared}{z:Value->Shared->Prop}{e:Addr}
theorem Inv.toTry (I:Inv X pins σ H s):Inv (X.inTry (X.pn++pins) z) [] σ H s:=
 ⟨⟨I.ok.mod,I.ok.kind,I.ok.glob,I.ok.blt,I.ok.above,I.ok.inj,I.ok.has,I.ok.cab,I.ok.hd,I.ok.frames,I.ok.stk,I.ok.exf,I.ok.bs,I.ok.bsz,I.ok.noex,I.ok.exfs,I.ok.funs,I.ok.frf⟩,
  I.os,I.bare,I.base,I.loc,I.cell,I.free,I.freeC,fun p hp=>I.pin p (by rw [Bs] at hp;exact hp),I.hok,I.len⟩
theorem Inv.unTry {pins':List (Addr×Obj)} (I:Inv (X.inTry (X.pn++pins) z) pins' σ H s):Inv X pins σ H s:=
 ⟨⟨I.ok.mod,I.ok.kind,I.ok.glob,I.ok.blt,I.ok.above,I.ok.inj,I.ok.has,I.ok.cab,I.ok.hd,I.ok.frames,I.ok.stk,I.ok.exf,I.ok.bs,I.ok.bsz,I.ok.noex,I.ok.exfs,I.ok.funs,I.ok.frf⟩,
  I.os,I.bare,I.base,I.loc,I.cell,I.free,I.freeC,fun p hp=>I.pin p (Bu _ hp),I.hok,I.len⟩
theorem Inv.toSuite (I:Inv X pins σ H s):Inv (X.inSuite e) pins σ H s:=
 ⟨⟨I.ok.mod,I.ok.kind,I.ok.glob,I.ok.blt,I.ok.above,I.ok.inj,I.ok.has,I.ok.cab,fun q=>absurd q AZ,I.ok.frames,I.ok.stk,I.ok.exf,I.ok.bs,I.ok.bsz,I.ok.noex,I.ok.exfs,I.ok.funs,I.ok.frf⟩,
  I.os,I.bare,I.base,I.loc,I.cell,I.free,I.freeC,I.pin,I.hok,I.len⟩
theorem Inv.unSuite (hd:X.calm=true->X.A.handled=none) (I:Inv (X.inSuite e) pins σ H s):Inv X pins σ H s:=
 ⟨⟨I.ok.mod,I.ok.kind,I.ok.glob,I.ok.blt,I.ok.above,I.ok.inj,I.ok.has,I.ok.cab,hd,I.ok.frames,I.ok.stk,I.ok.exf,I.ok.bs,I.ok.bsz,I.ok.noex,I.ok.exfs,I.ok.funs,I.ok.frf⟩,
  I.os,I.bare,I.base,I.loc,I.cell,I.free,I.freeC,I.pin,I.hok,I.len⟩
theorem Inv.hold {C:Addr} (I:Inv X pins σ H s) (hn:H e=none) (hL:e≠X.env.locals) (hnew:X.s₀.heap.get? e=none/\(∀x c,X.env.cells.lookup x=some c->c≠e)/\(∀p∈X.pn++pins,p.1≠e)) (ho:∃o,s.heap.get? e=some o/\o.cls= .ref C):
  Inv X pins σ (upd H e (nf_ C e)) s:=by
 obtain⟨n0,nc,np⟩:=hnew;have ne0:∀{b:Addr}{o:Obj},X.s₀.heap.get? b=some o->b≠e:=fun{b o} q z=>by rw [z,n0] at q;cases q
 have neh:∀{b:Addr}{o:HO},H b=some o->b≠e:=fun q=>ap_ q hn;refine⟨I.ok,I.os,I.bare,⟨I.base.keep,I.base.slot,fun b o q n hx=> ?_,I.base.there,fun b xs q=> ?_,fun b o u q=> ?_,fun b ps q=> ?_⟩,I.loc,I.cell, ?_,fun x c q=> ?_,fun p hp=> ?_,fun b o q=> ?_,I.len⟩
 .rw [ao_ (ne0 q)];exact I.base.free b o q n hx
 .have z:=I.base.tups b xs q;rw [ao_ (neh z)];exact z
 .have z:=I.base.frzs b o u q;rw [ao_ (neh z)];exact z
 .obtain⟨more,z⟩:=I.base.tbls b ps q;exact⟨more,by rw [ao_ (neh z)];exact z⟩
 .rw [ao_ (Cs hL)];exact I.free
 .rw [ao_ (nc x c q)];exact I.freeC x c q
 .obtain⟨a1,a2,a3⟩:=I.pin p hp;exact⟨a1,by rw [ao_ (np p hp)];exact a2,a3⟩
 .by_cases hb:b=e
  .subst hb;rw [ae_] at q;cases q;exact qU_ ho
  .rw [ao_ hb] at q;exact(I.hok b o q).stay (fun _ _ _ q=>q) (fun c q=>by rw [ao_ (neh q)];exact q) fun c xs q=>by rw [ao_ (neh q)];exact q
end
end L2
namespace L2
open PySem PySem.Spec PyProof.Rows
noncomputable def Itd (hi:Int) (n:Nat):It:=⟨fun i _=>i<n,fun i H x H'=>H'=H/\x= .int (hi-i),fun i _=>n<=i⟩
theorem k1_ {P:Program}{w:World}{K:W.Frag}{tg:Expr} (it:Addr) (hi:Int) (n:Nat):Turn P w K tg (Itd hi n) [it] it (fun i h=>IsRangeIter h it (hi+(i:Nat)*(-1)) ((n:Int)-(i:Nat)) (-1)) where
 mem:=by simp
 obj:=fun i h st b hb=>by
  obtain rfl:b=it:=by simpa using hb
  exact⟨_,st,fun v z=>by cases (show Data.fields _=Data.cell v from z)⟩
 keep:=fun i h h' st k=>k it (by simp) _ st
 item:=by
  intro X hP hw hK hc i pins s σ H E I hf st hg;subst hP hw hK;obtain⟨f0,f1,f2,f3,f4,f5⟩:=hf it (by simp);refine(Walks.range (prog:=X.prog) (w:=X.w) (I.ok.hd hc) it hi (-1) n).item i s _ _ hg st fun v h' tk hv st' kk=> ?_;obtain⟨t,rfl⟩:=hv;have I1:Inv X pins σ H {s with heap:=h',toks:=tk}:=I.turned (fun b o hb e=>kk b o (by simpa using hb) e) f0 f1 f3 f4 f5;refine⟨_,rfl,go_of (s:={s with heap:=h',toks:=tk}) (n:="range_iterator") st' rfl rfl (by decide) ⟨.int (hi-i),H,I1,⟨t, ?_⟩,⟨rfl,rfl⟩,st',fun b hb=>(hf b hb).1⟩⟩;rw [show hi+(i:Int)*(-1)=hi-i by lia]
 done:=by
  intro X hP hw hK hc i pins s σ H E I hf st hg;subst hP hw hK;obtain⟨f0,f1,f2,f3,f4,f5⟩:=hf it (by simp);exact wpAny_pyNext_range_end (I.ok.hd hc) st (by have:n<=i:=hg;lia) fun h' eb=>⟨rfl,I.turned (t':=s.toks) (fun b o hb e=>eb b o hb e) f0 f1 f3 f4 f5⟩
 self:=fun _ _ _ _ _ st h=>wpAny_pyIter_rangeiter st h
theorem dg_ (a b:Int):Builtin.Range.rangeSize a b (-1)=if a>b then a-b else 0:=by
 unfold Builtin.Range.rangeSize;rw [A5 (by decide)];split
 .rw [show -(-1:Int)=1 by decide,Int.ediv_one];lia
 .rfl
theorem kB_ {a b:Int} (ha: -(2^62)<=a) (ha':a<2^62) (hb: -(2^62)<=b) (hb':b<2^62):Builtin.Range.small a b (-1)=true:=by
 unfold Builtin.Range.small;rw [dg_];simp only [Builtin.Range.rangeFitsLong,AC,C3,AT,CC,show((-1:Int)>0)=False by simp,Ak];split<;>lia
section
variable {X:Cx}{tg:Expr}
theorem qZ_ {pins:List (Addr×Obj)}{σ:St}{H:Hp}{s:Shared}{R:It->Hp->Prop}{E:Value->Shared->Prop}{hi lo:Int}{t u v:Tok}{tk:Nat} (I:Inv X pins σ H s) (h1: -(2^62)<=hi) (h2:hi<2^62) (h3: -(2^62)<=lo) (h4:lo<2^62)
  (q:R (Itd hi (hi-lo).toNat) H):wpAny (model X.prog X.w) X.A (pyIter (.ref s.heap.objs.size)) (PIE X pins σ tg R) E {s with heap:=s.heap.push {cls:= .type "range",data:= .fields #[.int hi t, .int lo u, .int (-1) v]},toks:=tk}:=by
 refine wpAny_pyIter_range (IsRange.new ..) (kB_ h1 h2 h3 h4) ?_;generalize hg:s.heap.push {cls:= .type "range",data:= .fields #[.int hi t, .int lo u, .int (-1) v]}=g;have I1:Inv X pins σ H {s with heap:=g,toks:=tk}:=I.kept fun b o e=>by rw [<-hg];exact A9 _ e
 refine⟨g.objs.size,[g.objs.size],_,_,H,rfl,I1.kept (t':=tk) fun b o e=>A9 _ e,k1_ _ hi (hi-lo).toNat, ?_,fun b hb=> ?_,q⟩
 .have e1:hi+((0:Nat):Int)*(-1)=hi:=by simp
  have e2:(((hi-lo).toNat:Nat):Int)-((0:Nat):Int)=Builtin.Range.rangeSize hi lo (-1):=by rw [dg_];split<;>lia
  show IsRangeIter _ _ (hi+((0:Nat):Int)*(-1)) ((((hi-lo).toNat:Nat):Int)-((0:Nat):Int)) (-1);rw [e1,e2];exact AL _ rfl
 .obtain rfl:b=g.objs.size:=by simpa using hb
  exact I1.fpOk (A8 _) (I1.hok.fresh (A8 _))
noncomputable def ua_ (ta:TA):TI:=fun σ H R=>ta σ H fun vs H1=>∃i j:Int,vs=[.int i, .int j, .int (-1)]/\(-(2^62)<=i/\i<2^62/\-(2^62)<=j/\j<2^62)/\R (Itd i (i-j).toNat) H1
theorem qe_ {a b c:Expr}{ta:TA}{p pos:Pos} (hg:Gl X "range") (hm:X.mg "range"=none) (ha:PA X [a,b,c] ta) (hs:starEach [a,b,c] X.env=(false,eval a X.env)::starEach [b,c] X.env:=by rfl) (hs2:(backTo pos (starEach [b,c] X.env)).any (·.1)=false:=by rfl):
  PI X tg (.Call (.Name "range" p) [a,b,c] [] pos) (ua_ ta):=by
 intro pins s σ H R I h;refine Call_ (dm_ I hg hm boot_range (BS (thn (ha pos pins s σ H _ I h) fun us s1 ⟨vs,H1,I1,r1,q1⟩=> ?_) hs hs2));obtain⟨i,j,e,⟨q1,q2,q3,q4⟩,q⟩:=q1;subst e;cases r1 with
 |cons r rr=>
  cases rr with
  |cons r' rr=>
   cases rr with
   |cons r2 rr=>
    cases rr;obtain⟨t,rfl⟩:=r;obtain⟨t',rfl⟩:=r';obtain⟨t2,rfl⟩:=r2;exact call_range_3 (by decide) (qZ_ I1 q1 q2 q3 q4 q) (.inl (PyProof.noPylong_small (by decide)))
end
theorem oB_ {hi:Int}{n:Nat}{g:TG}{tb:TS}{D:Ends}{σ:St}{H:Hp} (Pv:Nat->St->Hp->Prop) (h0:Pv 0 σ H)
  (hs:∀i σ H,i<n->Pv i σ H->g (.int (hi-i)) σ H fun σ2 H2=>tb {D with nx:=Pv (i+1),ct:=Pv (i+1),bk:=D.nx} σ2 H2) (hd:∀σ H,Pv n σ H->D.nx σ H):
  ∃Wq:Nat->Nat->St->Hp->Prop,(∃m,Wq 0 m σ H)/\∀i m σ H,Wq i m σ H->
   ((Itd hi n).stop i H/\D.nx σ H)\/((Itd hi n).go i H/\∃N:St->Hp->Prop,(∀σ' H',N σ' H'->∃m',m'<m/\Wq (i+1) m' σ' H')/\∀x H',(Itd hi n).yld i H x H'->g x σ H' fun σ2 H2=>tb {D with nx:=N,ct:=N,bk:=D.nx} σ2 H2):=by
 refine⟨fun i m σ H=>m=n-i/\i<=n/\Pv i σ H,⟨n,by simp,AS _,h0⟩, ?_⟩;rintro i m σ H ⟨rfl,hi',p⟩;by_cases hlt:i<n
 .refine .inr ⟨hlt,Pv (i+1),fun σ' H' p'=>⟨n-(i+1),by lia,rfl,hlt,p'⟩,fun x H' y=> ?_⟩;obtain⟨e,y⟩:=y;subst e y;exact hs i σ _ hlt p
 .obtain rfl:i=n:=by lia
  exact .inl ⟨A8 _,hd σ H p⟩
end L2
namespace L2
open PySem PySem.Spec PyProof.Rows
noncomputable def b8_ (H:Hp) (v:V):Prop:=(∃i,v= .int i)\/(∃b,v= .bl b)\/v= .non\/(∃x,v= .str x)\/(∃a xs,v= .ref a/\H a=some (.lst xs))\/(∃a xs,v= .ref a/\H a=some (.tup xs))
noncomputable def isI (v:V):Bool:=match v with
 | .int _=>true
 |_=>false
noncomputable def Within (lo hi:Int) (v:V):Prop:=∃i,v= .int i/\lo<=i/\i<=hi
theorem b8_.mono {H H':Hp}{v:V} (s:ak_ H H') (h:b8_ H v):b8_ H' v:=by
 rcases h with h|h|h|h|⟨a,xs,e,h⟩|⟨a,xs,e,h⟩
 .exact .inl h
 .exact .inr (.inl h)
 .exact .inr (.inr (.inl h))
 .exact .inr (.inr (.inr (.inl h)))
 .exact .inr (.inr (.inr (.inr (.inl ⟨a,xs,e,s _ _ h⟩))))
 .exact .inr (.inr (.inr (.inr (.inr ⟨a,xs,e,s _ _ h⟩))))
theorem ks_ {lo hi:Int}{v:V} (h:Within lo hi v):isI v=true:=by obtain⟨i,rfl,_⟩:=h;rfl
theorem hG_ {K:W.Frag}:W.kitOne K (.type "NoneType") (.type "int")=some false:=fB_ (by ac_nf) (by ac_nf) (by ac_nf)
theorem iR_ {K:W.Frag}:W.kitOne K (.type "str") (.type "int")=some false:=fB_ (by ac_nf) (by ac_nf) (by ac_nf)
theorem hH_ {K:W.Frag}:W.kitOne K (.type "list") (.type "int")=some false:=fB_ (by ac_nf) (by ac_nf) (by ac_nf)
theorem gF_ {K:W.Frag}:W.kitOne K (.type "tuple") (.type "int")=some false:=fB_ (by ac_nf) (by ac_nf) (by ac_nf)
noncomputable def nD_:Sp:=fun vs H Q _=>∃v,vs=[v]/\b8_ H v/\Q (.bl (isI v)) H
noncomputable def tL_ (c:Addr):Sp:=fun vs H Q E=>∃v,vs=[v]/\b8_ H v/\(Within 1 5 v->Q .non H)/\(¬Within 1 5 v->E (.ref c) none H)
theorem uJ_ {ps:List Pt}{i:Int}{j:Nat}{p:Pt} (e:i=j) (h:ps[j]? =some p):atI (ps.map pt) i=some (pt p):=sC_ e (by rw [A7,h];rfl)
end L2
namespace L2
open PySem PySem.Spec PyProof.Rows
section
variable {X:Cx}{pins:List (Addr×Obj)}{σ:St}{H:Hp}{s:Shared}{h':Heap}{ch:List Addr}{t':Nat}
end
section
variable {X:Cx}{elts:List Expr}{k:Nat}{tpos p pos:Pos}{e f:Expr}{te tf:TE}
end
theorem lX_ {K:W.Frag}:rh_ 2 (sG_ K 2 (iV_ (dX_ 0) (iV_ (dX_ 1) td_))):=by
 intro v σ H Q ⟨a,xs,e,hq,hl,x,r,ex,y,r2,er,en,q⟩;refine⟨a,xs,e,hq,hl,x,r,ex,y,r2,er,en,q, ?_,fun i hi=> ?_⟩
 .rw [BZ,BZ]
 .rw [Bv (by lia),Bv (by lia)]
theorem mf_ {K:W.Frag}:∀(σ:St) (H:Hp) (R R':St->Hp->Prop) (x:V),(∀σ' H',R σ' H'->R' σ' H')->sG_ K 2 (iV_ (dX_ 0) (iV_ (dX_ 1) td_)) x σ H R->sG_ K 2 (iV_ (dX_ 0) (iV_ (dX_ 1) td_)) x σ H R':=
 fun σ H R R' v k ⟨a,xs,e,hq,hl,x,r,ex,y,r2,er,en,q⟩=>⟨a,xs,e,hq,hl,x,r,ex,y,r2,er,en,k _ _ q⟩
theorem qg_ {X:Cx}{es:List Expr}{k:Nat}{pos:Pos}{t:TGs}{n:Nat}{K:W.Frag} (hK:X.K=K) (hc:X.calm=true) (h:PGs X es t)
  (hn:(assignEach es X.env).length=n:=by rfl) (hst:(assignEach es X.env).findIdx? (·.1)=none:=by rfl):PG X (.Tuple es k pos) (sG_ K n t):=hK▸cr_ hc h hn hst
end L2
namespace PySem.SeqAt
open AutoSeq1 (wpAny_loadPart')
open MeetsSeq MeetsSeq2 MeetsSeq3 SeqRoads2
noncomputable def LtAt (A:Around) (s:Shared) (y x:Value) (b:Bool):Prop:=
 ∀(prog:Program) (w:World) (E:Value->Shared->Prop) (Q:Value->Shared->Prop),Q (.bool b) s->wpAny (model prog w) A (richCompare .Lt y x) Q E s
noncomputable def lex (e f:Nat->Bool) (m n:Nat):Nat->Nat->Bool
 |0,_=>decide (m<n)
 |k+1,i=>if e i=true then lex e f m n k (i+1) else f i
theorem mk_ (l b:Addr) (items items2:Array Value) (n n2:Nat) (dd dd2:Option Addr) (sl sl2:Array (Option Value)) (e f:Nat->Bool) (k:Nat):
  ∀i:Nat,min items.size items2.size-i=k->Meets (Builtin.«list.__eq__.loop» ⟨[.ref l, .ref b,rawInt i,rawInt 0],[]⟩)
   (fun A R s=>s.heap.get? l=some {cls:= .type "list",dict:=dd,data:= .seq items n,slots:=sl}/\s.heap.get? b=some {cls:= .type "list",dict:=dd2,data:= .seq items2 n2,slots:=sl2}/\
    (∀j (h1:j<items.size) (h2:j<items2.size),EqAt A.in1 s items[j] items2[j] (e j))/\(∀j (h1:j<items.size) (h2:j<items2.size),e j=false->LtAt A.in1 s items[j] items2[j] (f j))/\
    R (.ok (.ret (.bool (lex e f items.size items2.size k i)))) s):=by
 induction k with
 |zero=>
  intro i hk prog w A R s h;obtain⟨hp,g,d,tk,os⟩:=s;obtain⟨hl,hb,he,hf,h⟩:=h
  wp_walk using wpAny_loadPart' hl,CA hb
  rcases(by lia:items.size<=i\/(i<items.size/\items2.size<=i)) with q|⟨q1,q2⟩
  .have hi1:items[((i:Nat):Int).toNat]? =none:=by simp;lia
   rw [hi1]
   wp_walk using wpAny_loadPart' hl,CA hb
   exact h
  .have hi1:items[((i:Nat):Int).toNat]? =some items[i]:=by simp [q1]
   have hi2:items2[((i:Nat):Int).toNat]? =none:=by simp;lia
   rw [hi1,hi2]
   wp_walk using wpAny_loadPart' hl,CA hb
   exact h
 |succ k ih=>
  intro i hk prog w A R s h;obtain⟨hp,g,d,tk,os⟩:=s;obtain⟨hl,hb,he,hf,h⟩:=h
  wp_walk using wpAny_loadPart' hl,CA hb
  have hlt:i<items.size:=by lia
  have hlt2:i<items2.size:=by lia
  have hi1:items[((i:Nat):Int).toNat]? =some items[i]:=by simp [hlt]
  have hi2:items2[((i:Nat):Int).toNat]? =some items2[i]:=by simp [hlt2]
  have hc:((i:Int)+1)=((i+1:Nat):Int):=by push_cast;rfl
  unfold lex at h;rw [hi1,hi2];refine A0 (he i hlt hlt2 prog w _ _ ?_);cases hb':e i with
  |true=>
   rw [hb',A6 rfl] at h
   wp_walk
   rw [hc];exact⟨Cv plain_eq_loop _,Bl entry_eq_loop (by
    rw [Bi plain_eq_loop _];exact ih (i+1) (by lia) prog w A R _ ⟨hl,hb,he,hf,h⟩)⟩
  |false=>
   rw [hb',A5 (by simp)] at h
   wp_walk using wpAny_loadPart' hl,CA hb
   rw [hi1,hi2];refine A0 (hf i hlt hlt2 hb' prog w _ _ ?_)
   wp_walk
   exact h
theorem hA_ (l b:Addr) (items items2:Array Value) (n n2:Nat) (dd dd2:Option Addr) (sl sl2:Array (Option Value)) (e f:Nat->Bool):
  Meets (Builtin.«list.__lt__» ⟨[.ref l, .ref b],[]⟩)
   (fun A R s=>s.heap.get? l=some {cls:= .type "list",dict:=dd,data:= .seq items n,slots:=sl}/\s.heap.get? b=some {cls:= .type "list",dict:=dd2,data:= .seq items2 n2,slots:=sl2}/\
    (∀j (h1:j<items.size) (h2:j<items2.size),EqAt A.in1 s items[j] items2[j] (e j))/\(∀j (h1:j<items.size) (h2:j<items2.size),e j=false->LtAt A.in1 s items[j] items2[j] (f j))/\
    R (.ok (.ret (.bool (lex e f items.size items2.size (min items.size items2.size) 0)))) s):=by
 intro prog w A R s h;obtain⟨hp,g,d,tk,os⟩:=s;obtain⟨hl,hb,he,hf,h⟩:=h;have f3:=AutoSeq1.sub_list_list
 wp_walk using wpAny_loadPart' hl,CA hb
 exact⟨Cv plain_eq_loop _,Bl entry_eq_loop (by
  rw [Bi plain_eq_loop _];exact mk_ l b items items2 n n2 dd dd2 sl sl2 e f _ 0 rfl prog w A R _ ⟨hl,hb,he,hf,by simpa using h⟩)⟩
theorem kv_ (l b:Addr) (items items2:Array Value) (n n2:Nat) (dd dd2:Option Addr) (sl sl2:Array (Option Value)) (e f:Nat->Bool):
  Meets (Builtin.«tuple.__lt__» ⟨[.ref l, .ref b],[]⟩)
   (fun A R s=>s.heap.get? l=some {cls:= .type "tuple",dict:=dd,data:= .seq items n,slots:=sl}/\s.heap.get? b=some {cls:= .type "tuple",dict:=dd2,data:= .seq items2 n2,slots:=sl2}/\
    (∀j (h1:j<items.size) (h2:j<items2.size),EqAt A.in1 s items[j] items2[j] (e j))/\(∀j (h1:j<items.size) (h2:j<items2.size),e j=false->LtAt A.in1 s items[j] items2[j] (f j))/\
    R (.ok (.ret (.bool (lex e f items.size items2.size (min items.size items2.size) 0)))) s):=
 .of_wp fun prog w A R s h=>by
  obtain⟨hp,g,d,tk,os⟩:=s;obtain⟨hl,hb,he,hf,h⟩:=h;have f2:=AutoSeq1.sub_tuple_tuple;have hZ:(items.toList.zip items2.toList).length=min items.size items2.size:=by simp
  wp_walk using wpAny_loadPart' hl,CA hb,Br _ (fun cM_ b s'=>b.1=none/\s'=⟨hp,g,d,tk,os⟩/\∃i,cM_=(items.toList.zip items2.toList).drop i/\i<=min items.size items2.size/\
   R (.ok (.ret (.bool (lex e f items.size items2.size (min items.size items2.size-i) i)))) ⟨hp,g,d,tk,os⟩) _
  case turn=>
   rintro⟨y,x⟩ cM_ b s' ⟨hb',rfl,i,hz,hile,hR⟩;have hlt:i<(items.toList.zip items2.toList).length:=by
    rcases BI i (items.toList.zip items2.toList).length with h'|h'
    .exact h'
    .rw [C1 h'] at hz;cases hz
   have hm:i<min items.size items2.size:=hZ▸hlt;have h1:i<items.size:=AY hm (Nat.min_le_left _ _);have h2:i<items2.size:=AY hm (Nat.min_le_right _ _);rw [Ai hlt] at hz;injection hz with hyx hrest;have hy:y=items[i]:=by have:=Bg Prod.fst hyx;simpa using this
   have hx:x=items2[i]:=by have:=Bg Prod.snd hyx;simpa using this
   subst hy hx;rw [show min items.size items2.size-i=(min items.size items2.size-(i+1))+1 by lia,lex] at hR;refine A0 (he i h1 h2 prog w _ _ ?_);cases hy:e i with
   |true=>
    rw [hy,A6 rfl] at hR
    wp_walk
    exact⟨rfl,rfl,i+1,hrest,by lia,hR⟩
   |false=>
    rw [hy,A5 (by simp)] at hR;rw [A6 (show(!false)=true from rfl)];refine A0 (CM ?_);refine A0 (hf i h1 h2 hy prog w _ _ ?_)
    wp_walk
    exact⟨_,rfl,hR⟩
  case fin=>
   rintro⟨b1,b2⟩ s' ⟨hb',rfl,i,hz,hile,hR⟩;simp only at hb';subst hb';have hi:i=min items.size items2.size:=by
    rcases BI i (items.toList.zip items2.toList).length with h'|h'
    .rw [Ai h'] at hz;cases hz
    .lia
   subst hi;rw [Nat.sub_self] at hR
   wp_walk
   exact⟨_,rfl,hR⟩
  case h=>
   exact⟨rfl,rfl,0,rfl,AS _,by simpa using h⟩
section
variable {A:Around}{s:Shared}
theorem LtAt.int_int (i:Int) (t:Tok) (j:Int) (u:Tok):LtAt A s (.int i t) (.int j u) (decide (i<j)):=fun prog w E Q h=>wpAny_lt_int h
theorem LtAt.lists {l b:Addr}{items items2:Array Value}{e f:Nat->Bool} (hl:s.heap.IsList l items) (hb:s.heap.IsList b items2) (hu:A.units<cLine)
  (he:∀j (h1:j<items.size) (h2:j<items2.size),EqAt A.in1 s items[j] items2[j] (e j)) (hf:∀j (h1:j<items.size) (h2:j<items2.size),e j=false->LtAt A.in1 s items[j] items2[j] (f j)):
  LtAt A s (.ref l) (.ref b) (lex e f items.size items2.size (min items.size items2.size) 0):=fun prog w E Q h=>by
 obtain⟨⟨cls,dd,data,sl⟩,ho,hc,n,hd⟩:=id hl;obtain⟨⟨cls2,dd2,data2,sl2⟩,ho2,hc2,n2,hd2⟩:=id hb;simp only at hc hd hc2 hd2;subst hc hd hc2 hd2;exact richCompare_meets_room (op:= .Lt) ⟨_,ho,rfl⟩ ⟨_,ho2,rfl⟩ F.slot_list_lt F.entry_list_lt (F.args_list_lt_2 _ _) (hA_ l b items items2 n n2 dd dd2 sl sl2 e f)
  ⟨ho,ho2,he,hf,show Value.bool (lex e f items.size items2.size (min items.size items2.size) 0)≠Value.notImplemented/\Q (.bool (lex e f items.size items2.size (min items.size items2.size) 0)) s from⟨(fun x=>nomatch x),h⟩⟩ hu
theorem LtAt.tuples {l b:Addr}{items items2:Array Value}{e f:Nat->Bool} (hl:s.heap.IsTuple l items) (hb:s.heap.IsTuple b items2) (hu:A.units<cLine)
  (he:∀j (h1:j<items.size) (h2:j<items2.size),EqAt A.in1 s items[j] items2[j] (e j)) (hf:∀j (h1:j<items.size) (h2:j<items2.size),e j=false->LtAt A.in1 s items[j] items2[j] (f j)):
  LtAt A s (.ref l) (.ref b) (lex e f items.size items2.size (min items.size items2.size) 0):=fun prog w E Q h=>by
 obtain⟨⟨cls,dd,data,sl⟩,ho,hc,n,hd⟩:=id hl;obtain⟨⟨cls2,dd2,data2,sl2⟩,ho2,hc2,n2,hd2⟩:=id hb;simp only at hc hd hc2 hd2;subst hc hd hc2 hd2;exact richCompare_meets_room (op:= .Lt) ⟨_,ho,rfl⟩ ⟨_,ho2,rfl⟩ F.slot_tuple_lt F.entry_tuple_lt (F.args_tuple_lt_2 _ _) (kv_ l b items items2 n n2 dd dd2 sl sl2 e f)
  ⟨ho,ho2,he,hf,show Value.bool (lex e f items.size items2.size (min items.size items2.size) 0)≠Value.notImplemented/\Q (.bool (lex e f items.size items2.size (min items.size items2.size) 0)) s from⟨(fun x=>nomatch x),h⟩⟩ hu
theorem key_lists {prog:Program}{w:World}{E:Value->Shared->Prop}{l b:Addr}{items items2:Array Value}{e f:Nat->Bool}{Q:Bool->Shared->Prop} (hl:s.heap.IsList l items) (hb:s.heap.IsList b items2) (hu:A.units<cLine)
  (he:∀j (h1:j<items.size) (h2:j<items2.size),EqAt A.in1 s items[j] items2[j] (e j)) (hf:∀j (h1:j<items.size) (h2:j<items2.size),e j=false->LtAt A.in1 s items[j] items2[j] (f j))
  (h:Q (lex e f items.size items2.size (min items.size items2.size) 0) s):wpAny (model prog w) A (PyProof.Rows.keyLt' PyProof.Rows.oneType' (.ref l) (.ref b)) Q E s:=by
 rw [PyProof.Rows.keyLt'_oneType,PyProof.Rows.oneLt'_eq];simp only [Bx];refine A0 (wpAny_cRoomFor hu ?_);obtain⟨⟨cls,dd,data,sl⟩,ho,hc,n,hd⟩:=id hl;obtain⟨⟨cls2,dd2,data2,sl2⟩,ho2,hc2,n2,hd2⟩:=id hb;simp only at hc hd hc2 hd2;subst hc hd hc2 hd2;refine A0 (wpAny_callSpecialIfBound?_slot (T:="list") ⟨_,ho,rfl⟩ F.slot_list_lt (D8 F.slot_list_lt ⟨_,ho,rfl⟩ F.entry_list_lt (F.args_list_lt_2 _ _) (hA_ l b items items2 n n2 dd dd2 sl sl2 e f) ⟨ho,ho2,he,hf, ?_⟩));exact Bj h
end
end PySem.SeqAt
namespace L2
open PySem PySem.Spec PyProof.Rows
inductive LtR (K:W.Frag) (H:Hp):Nat->V->V->Bool->Prop where
 |int (d:Nat) (i j:Int):LtR K H d (.int i) (.int j) (decide (i<j))
 |lists {d:Nat}{a b:Addr}{xs ys:List V} (es fs:Nat->Bool) (h1:SqL K H a xs) (h2:SqL K H b ys) (he:∀(j:Nat) x y,xs[j]? =some x->ys[j]? =some y->EqR K H d x y (es j)) (hf:∀(j:Nat) x y,xs[j]? =some x->ys[j]? =some y->es j=false->LtR K H d x y (fs j)):
  LtR K H (d+1) (.ref a) (.ref b) (SeqAt.lex es fs xs.length ys.length (min xs.length ys.length) 0)
 |tuples {d:Nat}{a b:Addr}{xs ys:List V} (es fs:Nat->Bool) (h1:SqT K H a xs) (h2:SqT K H b ys) (he:∀(j:Nat) x y,xs[j]? =some x->ys[j]? =some y->EqR K H d x y (es j)) (hf:∀(j:Nat) x y,xs[j]? =some x->ys[j]? =some y->es j=false->LtR K H d x y (fs j)):
  LtR K H (d+1) (.ref a) (.ref b) (SeqAt.lex es fs xs.length ys.length (min xs.length ys.length) 0)
section
variable {X:Cx}{pins:List (Addr×Obj)}{σ:St}{H:Hp}{s:Shared}
theorem cN_ {xs:List V}{is:List Value}{j:Nat} (r:aR_ xs is) (q:j<is.toArray.size):∃x,xs[j]? =some x/\aV_ x is.toArray[j]:=by
 have l:=r.length;have q':j<is.length:=by simpa using q
 have hx:xs[j]? =some xs[j]:=A1 (by lia);obtain⟨u,e,ru⟩:=r.get hx;refine⟨_,hx, ?_⟩;have g:is.toArray[j]=u:=by
  rw [A1 q'] at e;simpa using Option.some.inj e
 rw [g];exact ru
theorem LtR.at_ (I:Inv X pins σ H s) {d:Nat}{x y:V}{b:Bool} (h:LtR X.K H d x y b):∀{A:Around}{u v:Value},A.units+d<cLine->aV_ x u->aV_ y v->SeqAt.LtAt A s u v b:=by
 induction h with
 |int d i j=>
  intro A u v hu ru rv;obtain⟨t,rfl⟩:=ru;obtain⟨t',rfl⟩:=rv;exact SeqAt.LtAt.int_int i t j t'
 | @lists d a b xs ys es fs h1 h2 he hf ih=>
  intro A u v hu ru rv;obtain rfl:u=Value.ref a:=ru;obtain rfl:v=Value.ref b:=rv;obtain⟨is,r1,p1,z1⟩:=I.list h1;obtain⟨js,r2,p2,z2⟩:=I.list h2;have l1:xs.length=is.toArray.size:=by have:=r1.length;simpa using this
  have l2:ys.length=js.toArray.size:=by have:=r2.length;simpa using this
  rw [l1,l2];refine SeqAt.LtAt.lists p1.isList p2.isList (by lia) (fun j q1 q2=> ?_) (fun j q1 q2 z=> ?_)
  .obtain⟨x,hx,rx⟩:=cN_ r1 q1;obtain⟨y,hy,ry⟩:=cN_ r2 q2;exact((he j _ _ hx hy).at_ I (by rw [aI_];lia) rx ry).2.2
  .obtain⟨x,hx,rx⟩:=cN_ r1 q1;obtain⟨y,hy,ry⟩:=cN_ r2 q2;exact ih j _ _ hx hy z (by rw [aI_];lia) rx ry
 | @tuples d a b xs ys es fs h1 h2 he hf ih=>
  intro A u v hu ru rv;obtain rfl:u=Value.ref a:=ru;obtain rfl:v=Value.ref b:=rv;obtain⟨is,r1,p1,z1⟩:=I.tuple h1;obtain⟨js,r2,p2,z2⟩:=I.tuple h2;have l1:xs.length=is.toArray.size:=by have:=r1.length;simpa using this
  have l2:ys.length=js.toArray.size:=by have:=r2.length;simpa using this
  rw [l1,l2];refine SeqAt.LtAt.tuples (show s.heap.IsTuple a is.toArray from p1) (show s.heap.IsTuple b js.toArray from p2) (by lia) (fun j q1 q2=> ?_) (fun j q1 q2 z=> ?_)
  .obtain⟨x,hx,rx⟩:=cN_ r1 q1;obtain⟨y,hy,ry⟩:=cN_ r2 q2;exact((he j _ _ hx hy).at_ I (by rw [aI_];lia) rx ry).2.2
  .obtain⟨x,hx,rx⟩:=cN_ r1 q1;obtain⟨y,hy,ry⟩:=cN_ r2 q2;exact ih j _ _ hx hy z (by rw [aI_];lia) rx ry
theorem LtR.key (I:Inv X pins σ H s) {d:Nat}{a b:Addr}{xs ys:List V}{es fs:Nat->Bool} (h1:SqL X.K H a xs) (h2:SqL X.K H b ys) (he:∀(j:Nat) x y,xs[j]? =some x->ys[j]? =some y->EqR X.K H d x y (es j)) (hf:∀(j:Nat) x y,xs[j]? =some x->ys[j]? =some y->es j=false->LtR X.K H d x y (fs j))
  {A:Around} (hu:A.units+(d+1)<cLine) {prog:Program}{w:World}{E:Value->Shared->Prop}{Q:Bool->Shared->Prop} (q:Q (SeqAt.lex es fs xs.length ys.length (min xs.length ys.length) 0) s):
  wpAny (model prog w) A (keyLt' oneType' (.ref a) (.ref b)) Q E s:=by
 obtain⟨is,r1,p1,z1⟩:=I.list h1;obtain⟨js,r2,p2,z2⟩:=I.list h2;have l1:xs.length=is.toArray.size:=by have:=r1.length;simpa using this
 have l2:ys.length=js.toArray.size:=by have:=r2.length;simpa using this
 rw [l1,l2] at q;refine SeqAt.key_lists p1.isList p2.isList (by lia) (fun j q1 q2=> ?_) (fun j q1 q2 z=> ?_) q
 .obtain⟨x,hx,rx⟩:=cN_ r1 q1;obtain⟨y,hy,ry⟩:=cN_ r2 q2;exact((he j _ _ hx hy).at_ I (by rw [aI_];lia) rx ry).2.2
 .obtain⟨x,hx,rx⟩:=cN_ r1 q1;obtain⟨y,hy,ry⟩:=cN_ r2 q2;exact(hf j _ _ hx hy z).at_ I (by rw [aI_];lia) rx ry
end
end L2
namespace L2
open PySem PySem.Spec PyProof.Rows
noncomputable def sm_ (ns:List Int):Int:=ns.getD (argBest (fun i j=>decide (ns.getD i 0<ns.getD j 0)) (ns.length-1)) 0
section
variable {X:Cx}
theorem jM_ {ys:Array (Int×Tok)}{ns:List Int} (h:ys.toList.map (·.1)=ns) (i:Nat):numAt ys i=ns.getD i 0:=by
 subst h;unfold numAt;rw [List.getD,A7,Bp]
theorem m3_ (hc:X.calm=true):cx_ X (.builtin "min") (fun xs H Q=>∃(p:Addr) (ns:List Int),xs=[.ref p]/\SqL X.K H p (ns.map V.int)/\0<ns.length/\Q (.int (sm_ ns)) H):=by
 intro pins s σ H xs us Q I r h;obtain⟨p,ns,rfl,hq,h0,q⟩:=h;obtain⟨u,rfl,rx⟩:=fe_ r;cases rx;obtain⟨its,r',pl,hz⟩:=I.list hq;have hi:IntsAre its ns:=fF_ r';obtain⟨ys,e⟩:=hi.allInts.items;have n1:=hi.numsOf;rw [show its=its.toArray.toList from rfl,e,nums_intItems] at n1;have hsz:ys.size=ns.length:=by rw [<-n1];simp
 have hl:=pl.isList;rw [e] at hl;refine min_intList (I.ok.hd hc) hl (by lia) fun v h' tk hv hk=> ?_;obtain⟨t,rfl⟩:=intItems_at hv;refine⟨.int (sm_ ns),H,I.kept hk,⟨t, ?_⟩,q⟩;unfold sm_;rw [jM_ n1,hsz];simp only [jM_ n1]
end
end L2
namespace L2
open PySem PySem.Spec PyProof.Rows
section
variable {X:Cx}{a b:Expr}{ta:TA}{p1 p2 p3 pos:Pos}
end
end L2
namespace L2
open PySem PySem.Spec PyProof.Rows
noncomputable def tI (xs:List Int):D:= .t (xs.map .i)
theorem dU_ {H:Hp}:∀{xs:List Int}{vs:List V},Iss H (xs.map .i) vs->vs=xs.map V.int
 |[],vs,h=>h
 |x::xs,vs,h=>by
  obtain⟨u,us,rfl,h1,h2⟩:=h;rw [cn_ h1,dU_ h2];rfl
theorem dV_ {H:Hp}:∀(xs:List Int),Iss H (xs.map .i) (xs.map V.int)
 |[]=>rfl
 |x::xs=>⟨_,_,rfl,kT_,dV_ xs⟩
theorem eT_ {H:Hp}{xs:List Int}{v:V} (h:Is H (tI xs) v):∃a,v= .ref a/\H a=some (.tup (xs.map V.int)):=by
 obtain⟨a,vs,rfl,ha,hi⟩:=gq_ h;rw [dU_ hi] at ha;exact⟨a,rfl,ha⟩
theorem e2_ {H:Hp}{xs:List Int}{a:Addr} (h:H a=some (.tup (xs.map V.int))):Is H (tI xs) (.ref a):=g1_ h (dV_ xs)
end L2
namespace L2
open PySem PySem.Spec PyProof.Rows PySem.W
section
variable {n:Nat}
noncomputable def Ord (n:Nat) (p:Array Nat):Prop:=p.Perm (List.range n).toArray
theorem Ord.size {p:Array Nat} (h:Ord n p):p.size=n:=by
 have:=(D4.mp h).length_eq;simpa using this
theorem Ord.lt {p:Array Nat} (h:Ord n p) {i:Nat} (hi:i∈p.toList):i<n:=by
 have:=(D4.mp h).mem_iff.mp hi;simpa using this
theorem Ord.bubble {p:Array Nat} (h:Ord n p) (i j:Nat):Ord n (PyProof.Rows.bubble p i j):=(bubble_perm p i j).trans h
theorem Ord.kas {p:Array Nat} (h:Ord n p) (i j:Nat):Ord n (kas_rev p i j):=(mirror_perm p i j _).trans h
theorem Ord.getD {p:Array Nat} (h:Ord n p) (hn:0<n) (i:Nat):p.getD i 0<n:=by
 by_cases hi:i<p.size
 .have e:p.getD i 0=p[i]:=by simp [Array.getD,hi]
  rw [e];exact h.lt (by simp)
 .have e:p.getD i 0=0:=by simp [Array.getD,hi]
  rw [e];exact hn
noncomputable def bi_ (n:Nat) {α:Type} (R:α->Prop):KasT α->Prop
 | .ret a=>R a
 | .ask i j k=>i<n/\j<n/\∀b,bi_ n R (k b)
theorem bi_.bind {α β:Type}{R:α->Prop}{R':β->Prop}{f:α->KasT β} (hf:∀a,R a->bi_ n R' (f a)):∀{t:KasT α},bi_ n R t->bi_ n R' (t.bind f)
 | .ret a,h=>hf a h
 | .ask i j k,h=>⟨h.1,h.2.1,fun b=>bi_.bind hf (h.2.2 b)⟩
variable (hn:0<n)
include hn
theorem mj_ {p:Array Nat} (h:Ord n p):∀f m,bi_ n (fun _=>True) (kas_asc p f m)
 |0,m=>trivial
 |f+1,m=>⟨h.getD hn _,h.getD hn _,fun b=>by
  cases b with
  |true=>exact trivial
  |false=>exact mj_ h f (m+1)⟩
theorem gw_:∀(f:Nat) (p:Array Nat) (m q:Nat),Ord n p->bi_ n (fun r=>Ord n r.1) (kas_desc f p m q)
 |0,p,m,q,h=>h
 |f+1,p,m,q,h=>⟨h.getD hn _,h.getD hn _,fun b=>by
  cases b with
  |true=>
   show bi_ n _ (if q>0 then kas_desc f (kas_rev p (m-(q+1)) m) (m+1) 0 else kas_desc f p (m+1) 0);by_cases hq:q>0
   .rw [A6 hq];exact gw_ f _ _ _ (h.kas _ _)
   .rw [A5 hq];exact gw_ f _ _ _ h
  |false=>
   refine(show bi_ n _ (KasT.ask (p.getD (m-1) 0) (p.getD m 0) fun d=>if d=true then KasT.ret (p,m,q) else kas_desc f p (m+1) (q+1)) from⟨h.getD hn _,h.getD hn _,fun b=> ?_⟩);cases b with
   |true=>exact h
   |false=>exact gw_ f _ _ _ h⟩
theorem mg_ {p:Array Nat} (h:Ord n p) (m k:Nat):bi_ n (fun r=>Ord n r.2) (kas_tail3 m k p):=by
 unfold kas_tail3;refine bi_.bind (fun a _=> ?_) (mj_ hn (h.kas 0 m) _ _);exact h.kas 0 m
theorem mh_ {p:Array Nat} (h:Ord n p) (m k:Nat):bi_ n (fun r=>Ord n r.2) (kas_descPart m k p):=by
 refine(gw_ hn _ _ _ _ h).bind fun r hr=> ?_;by_cases hq:r.2.2>0
 .rw [A6 hq];exact mg_ hn (hr.kas _ _) _ _
 .rw [A5 hq];exact mg_ hn hr _ _
theorem ok_ {p:Array Nat} (h:Ord n p) (k:Nat):bi_ n (fun r=>Ord n r.2) (kas_count k p):=by
 refine(mj_ hn h _ _).bind fun m _=> ?_;by_cases h1:(m==k)=true
 .rw [A6 h1];exact h
 .rw [A5 h1];by_cases h2:m>1
  .rw [A6 h2];refine⟨h.getD hn _,h.getD hn _,fun b=> ?_⟩;cases b with
   |true=>exact h
   |false=>exact mh_ hn (h.kas _ _) _ _
  .rw [A5 h2];exact mh_ hn h _ _
theorem gu_ {p:Array Nat} (h:Ord n p) (k:Nat):∀f l r,bi_ n (fun _=>True) (kas_place p k f l r)
 |0,l,r=>trivial
 |f+1,l,r=>by
  unfold kas_place;by_cases h1:l>=r
  .rw [A6 h1];exact trivial
  .rw [A5 h1];refine⟨h.getD hn _,h.getD hn _,fun b=> ?_⟩;cases b with
   |true=>exact gu_ h k f _ _
   |false=>exact gu_ h k f _ _
theorem pe_:∀(f:Nat) (p:Array Nat) (k:Nat),Ord n p->bi_ n (Ord n) (kas_bin f p k)
 |0,p,k,h=>h
 |f+1,p,k,h=>(gu_ hn h k _ _ _).bind fun l _=>pe_ f _ _ (h.bubble _ _)
theorem qE_:bi_ n (Ord n) (kas_sort n):=by
 refine(ok_ hn (show Ord n (List.range n).toArray from Array.Perm.refl _) n).bind fun r hr=> ?_;by_cases h:r.1<n
 .rw [A6 h];exact pe_ hn _ _ _ hr
 .rw [A5 h];exact hr
end
section
variable {prog:Program}{w:World}{A:Around}{E:Value->Shared->Prop}{s:Shared}
noncomputable def fS_ (vs:List Value) (i:Nat):Keyed:=(vs.getD i .none,vs.getD i .none)
noncomputable abbrev aN_ (h:Heap) (a:Addr) (vs:List Value):Heap:=((h.update a (Obj.mapSeq fun _=>(#[]:Array Value))).push (seqObj "tuple" vs.toArray 0)).push (seqObj "list" #[] 0)
theorem ik_ (vs:List Value):(List.toArray (List.range vs.length)).map (fS_ vs)=vs.toArray.zip vs.toArray:=by
 refine Array.ext (by simp) fun i h1 h2=> ?_;have hi:i<vs.length:=by simpa using h1
 simp [fS_,hi]
noncomputable abbrev dJ_ (h:Heap) (vs:List Value):Heap:=aN_ (((h.push (seqObj "list" #[] 0)).update h.objs.size (Obj.mapSeq (· ++vs.toArray))).push (seqObj "list" vs.toArray 0)) (h.objs.size+1) vs
theorem g8_ {h:Heap}{vs:List Value}{b:Addr}{o:Obj} (hb:h.get? b=some o):(dJ_ h vs).get? b=some o:=by
 have hlt:b<h.objs.size:=AN hb;have sz:(((h.push (seqObj "list" #[] 0)).update h.objs.size (Obj.mapSeq (· ++vs.toArray))).push (seqObj "list" vs.toArray 0)).objs.size=h.objs.size+2:=by rw [Bk,B1,Bk]
 have n0:b≠h.objs.size:=AO hlt;have n1:b≠h.objs.size+1:=AO (Ag hlt);have n2:b≠h.objs.size+2:=AO (Ag (Ag hlt));have n3:b≠h.objs.size+2+1:=AO (Ag (Ag (Ag hlt)));rw [B2 _ _ _ (by rw [Bk,B1,sz];exact n3),B2 _ _ _ (by rw [B1,sz];exact n2),D5 _ _ _ _ n1,
  B2 _ _ _ (by rw [B1,Bk];exact n1),D5 _ _ _ _ n0,B2 _ _ _ n0]
 exact hb
end
section
variable {prog:Program}{w:World}{A:Around}{E:Value->Shared->Prop}{s:Shared}
theorem jr_ {a:Addr}{vs:List Value}{n:Nat}{P:PySem.Fin->Shared->Prop} (ho:s.heap.get? a=some (seqObj "list" vs.toArray n)) (h2:vs.length<2)
  (h:P (.done (.ret .none)) {s with heap:=sortedHeap s.heap a vs vs.toArray}):wpAny (model prog w) A (Builtin.«list.sort» ⟨[.ref a],[]⟩) P E s:=by
 rw [list_sort_plain];have ha:a<s.heap.objs.size:=AN ho;refine A0 (listItems_at ho rfl ?_);refine A0 (CP ho rfl ?_ (by rw [AD,At];lia) (AS _));obtain⟨e1,ho1⟩:∃e1,(s.heap.update a (Obj.mapSeq fun _=>(#[]:Array Value))).get? a=some (seqObj "list" #[] e1):=⟨_,CN ho (fun _=> #[])⟩;refine A0 (seqEpoch_at ho1 rfl ?_);refine A0 (wpAny_newTuple ?_ (by show vs.length<=_;rw [At];lia));refine A0 (Cu ?_ (AS _));refine Aw ?_;have ho6:(aN_ s.heap a vs).get? a=some (seqObj "list" #[] e1):=by
  rw [B2 _ _ _ (by rw [Bk,B1];exact AO (Ag ha)),B2 _ _ _ (by rw [B1];exact AO ha)];exact ho1
 show wpAny (model prog w) A _ P E {s with heap:=aN_ s.heap a vs};dsimp only;have hn2:vs.toArray.size<2:=by rw [AD];lia
 rw [A6 hn2,A6 hn2];refine A0 (A3 ?_);rw [StateT.run_pure];refine A0 (A3 ?_);dsimp only;have eo:(vs.toArray.zip vs.toArray).map (·.2)=vs.toArray:=by
  refine Array.ext (by simp) fun i h1 h2=> ?_;simp
 refine A0 (seqEpoch_at ho6 rfl ?_);rw [eo];refine A0 (CP ho6 rfl ?_ (AS _) (by rw [AD,At];lia));simp only [CW,AE,Ak];exact A3 h
theorem kA_ {l:Addr}{vs:List Value}{Q:Value->Shared->Prop} (hl:s.heap.IsList l vs.toArray) (h2:vs.length<2)
  (h:Q (.ref (s.heap.objs.size+1)) {s with heap:=sortedAll s.heap vs vs.toArray}):wpAny (model prog w) A (call (.builtin "sorted") [.ref l]) Q E s:=by
 refine Calls.call_function_entry kind_sorted plain_sorted entry_sorted (args_sorted1 _) ?_;unfold Builtin.«sorted»;refine A0 (m:=checkCount "sorted" 1 1 _) (A3 ?_);refine A0 (collect_list hl ?_ (by rw [At];lia));refine A0 (Cu ?_ (by rw [At];lia));have hsz:((s.heap.push (seqObj "list" #[] 0)).update s.heap.objs.size (Obj.mapSeq (· ++vs.toArray))).objs.size=s.heap.objs.size+1:=by
  rw [B1,Bk]
 have hoL:(((s.heap.push (seqObj "list" #[] 0)).update s.heap.objs.size (Obj.mapSeq (· ++vs.toArray))).push (seqObj "list" vs.toArray 0)).get? (s.heap.objs.size+1)=some (seqObj "list" vs.toArray 0):=by
  rw [<-hsz];exact AL _ rfl
 show wpAny _ _ _ _ _ {s with heap:=((s.heap.push (seqObj "list" #[] 0)).update s.heap.objs.size (Obj.mapSeq (· ++vs.toArray))).push (seqObj "list" vs.toArray 0)};rw [hsz];refine A0 (Aw (Ar slot_list_sort ⟨_,hoL,rfl⟩ entry_list_sort (jr_ (s:={s with heap:=((s.heap.push (seqObj "list" #[] 0)).update s.heap.objs.size (Obj.mapSeq (· ++vs.toArray))).push (seqObj "list" vs.toArray 0)}) hoL h2 ⟨_,rfl, ?_⟩) (args_list_sort _)));exact A3 ⟨_,rfl,h⟩
end
section
variable {X:Cx}
theorem eB_ {rs:List V}{its:List Value} (r:aR_ rs its):∀(l:List Nat),(∀i∈l,i<rs.length)->aR_ (l.map fun i=>rs.getD i .non) (l.map fun i=>its.getD i .none)
 |[],_=> .nil
 |i::l,h=>by
  have hi:i<rs.length:=h i (by simp);have e:rs[i]? =some rs[i]:=A1 hi;obtain⟨u,hu,ru⟩:=r.get e;rw [AJ,AJ];refine .cons ?_ (eB_ r l fun j hj=>h j (by simp [hj]));rw [List.getD,List.getD,e,hu];exact ru
end
noncomputable def kK_ (fin:Bool):List Int->List Int->Bool
 |x::xs,y::ys=>if x=y then kK_ fin xs ys else decide (x<y)
 |_,_=>fin
noncomputable def ltI (xs ys:List Int):Bool:=kK_ (decide (xs.length<ys.length)) xs ys
section
variable {prog:Program}{w:World}{A:Around}{E:Value->Shared->Prop}{s:Shared}
theorem jU_ {fin:Bool}{Q:Bool->Shared->Prop}:∀{xs ys:List Int}{is js:List Value} (i:Nat),aR_ (xs.map V.int) is->aR_ (ys.map V.int) js->Q (kK_ fin xs ys) s->KatLex prog w A true fin Q (is.zip js) i s
 |[],ys,is,js,i,h1,h2,q=>by
  cases h1;rw [List.zip_nil_left];exact kat_nil (by cases ys<;>exact q)
 |x::xs,[],is,js,i,h1,h2,q=>by
  cases h2;rw [List.zip_nil_right];exact kat_nil q
 |x::xs,y::ys,is,js,i,h1,h2,q=>by
  cases h1 with
  |cons r1 h1=>
  cases h2 with
  |cons r2 h2=>
  obtain⟨t,rfl⟩:=r1;obtain⟨t',rfl⟩:=r2;rw [List.zip_cons_cons];refine kat_cons ?_;refine wpAny_eqBool_int ?_;unfold kK_ at q;by_cases e:x=y
  .rw [A6 e] at q;rw [show(x==y)=true by simp [e]];exact kat_yes (jU_ (i+1) h1 h2 q)
  .rw [A5 e] at q;rw [show(x==y)=false by simp [e]];refine kat_no ?_;cases hb:(true&&i==0) with
   |true=>exact oneLt_int q
   |false=>exact kat_one _ _ (SeqAt.LtAt.int_int x t y t' prog w _ _ q)
end
theorem oj_ (xss:List (List Int)):(List.range xss.length).map (fun i=>xss.getD i [])=xss:=by
 refine List.ext_getElem (by simp) fun i h1 h2=> ?_;simp [List.getD,h2]
theorem j8_ {H:Hp}{xss:List (List Int)}{rs:List V} (h:Iss H (xss.map tI) rs):∀(l:List Nat),(∀i∈l,i<xss.length)->Iss H ((l.map fun i=>xss.getD i []).map tI) (l.map fun i=>rs.getD i .non)
 |[],_=>rfl
 |i::l,hl=>by
  have hi:i<xss.length:=hl i (by simp);have hr:i<rs.length:=by rw [h.length,A2];exact hi
  refine⟨_,_,rfl, ?_,j8_ h l fun j hj=>hl j (by simp [hj])⟩;obtain⟨d,hd,h1⟩:=h.of_get (A1 hr);rw [A7,A1 hi] at hd;cases hd;show Is H (tI (xss.getD i [])) (rs.getD i .non);rw [AG,AG,A1 hi,A1 hr];exact h1
section
variable {X:Cx}{pins:List (Addr×Obj)}{σ:St}{H:Hp}{s:Shared}
theorem j2_ (I:Inv X pins σ H s):∀{xss:List (List Int)}{rs:List V}{its:List Value},Iss H (xss.map tI) rs->aR_ rs its->(∀xs∈xss,xs≠[])->∃fs:List Value,KatTups s.heap its fs/\fs.length=its.length/\∀f∈fs,∃z t,f=Value.int z t
 |[],rs,its,h,r,_=>by
  obtain rfl:rs=[]:=h;cases r;exact⟨[],KatTups.nil,rfl,fun _ h=>nomatch h⟩
 |xs::xss,rs,its,h,r,hne=>by
  obtain⟨u,us,rfl,h1,h2⟩:=h;cases r with
  |cons r1 r2=>
  rename_i v its;obtain⟨fs,k1,k2,k3⟩:=j2_ I h2 r2 fun ys hy=>hne ys (by simp [hy]);obtain⟨a,rfl,ha⟩:=eT_ h1;obtain rfl:v=Value.ref a:=r1;obtain⟨is,q1,q2,q3⟩:=I.tuple (SqT.of (K:=X.K) ha);obtain⟨o,ho,hc,n,hd⟩:=(show s.heap.IsTuple a is.toArray from q2)
  match xs,hne xs (by simp) with
  |x::xs',_=>
  cases q1 with
  |cons q0 q1=>
  obtain⟨t,rfl⟩:=q0;refine⟨.int x t::fs,KatTups.cons ho hc hd (by simp) k1,by simp [k2],fun f hf=> ?_⟩;rcases AK.mp hf with rfl|hf
  .exact⟨_,_,rfl⟩
  .exact k3 f hf
theorem oo_ (I:Inv X pins σ H s) {a b:Addr}{xs ys:List Int} (h1:SqT X.K H a (xs.map V.int)) (h2:SqT X.K H b (ys.map V.int)) {A:Around}{prog:Program}{w:World}{E:Value->Shared->Prop}{Q:Bool->Shared->Prop} (q:Q (ltI xs ys) s):
  wpAny (model prog w) A (keyLt' (tuples' true) (.ref a) (.ref b)) Q E s:=by
 obtain⟨is,r1,p1,z1⟩:=I.tuple h1;obtain⟨js,r2,p2,z2⟩:=I.tuple h2;obtain⟨o1,ho1,hc1,n1,hd1⟩:=(show s.heap.IsTuple a is.toArray from p1);obtain⟨o2,ho2,hc2,n2,hd2⟩:=(show s.heap.IsTuple b js.toArray from p2);refine kat_lt ho1 hd1 ho2 hd2 ?_;have l1:is.toArray.size=xs.length:=by have:=r1.length;simp at this⊢;lia
 have l2:js.toArray.size=ys.length:=by have:=r2.length;simp at this⊢;lia
 rw [l1,l2];exact jU_ 0 r1 r2 q
end
end L2
namespace L2
open PySem PySem.Spec PyProof.Rows
noncomputable def ot_ (v:Value) (k:Int):Bool:=match v with
 | .int i _=>decide (i=k)
 |_=>false
noncomputable def gQ_:List DictEntry->List (Int×Int)->Bool
 |[],[]=>true
 |e::es,p::kvs=>ot_ e.key p.1&&decide (e.hash=hashInt p.1)&&ot_ e.val p.2&&gQ_ es kvs
 |_,_=>false
noncomputable def si_ (o:Obj) (kvs:List (Int×Int)):Bool:=match o.cls,o.dict,o.data with
 | .type c,none, .dict es _=>c=="dict"&&o.slots.isEmpty&&gQ_ es.toList kvs
 |_,_,_=>false
noncomputable def fO_ (K:W.Frag) (a:Addr) (kvs:List (Int×Int)):Bool:=match K.lookup a with
 |some o=>si_ o kvs
 |none=>false
theorem kb_ {v:Value}{k:Int} (h:ot_ v k=true):∃t,v= .int k t:=by
 unfold ot_ at h;split at h
 .rename_i i t;exact⟨t,by rw [Ax h]⟩
 .cases h
theorem fN_ {e:DictEntry}{es:List DictEntry}{p:Int×Int}{kvs:List (Int×Int)} (h:gQ_ (e::es) (p::kvs)=true):(∃t,e.key= .int p.1 t)/\e.hash=hashInt p.1/\(∃t,e.val= .int p.2 t)/\gQ_ es kvs=true:=by
 unfold gQ_ at h;rw [AC,AC,AC] at h;exact⟨kb_ h.1.1.1,Ax h.1.1.2,kb_ h.1.2,h.2⟩
theorem fL_:∀{es:List DictEntry}{kvs:List (Int×Int)},gQ_ es kvs=true->∀e∈es,∃k,Value.isInt k e.key=true/\e.hash=hashInt k
 |[],_,_,e,he=>nomatch he
 |e::es,[],h,_,_=>by unfold gQ_ at h;cases h
 |e::es,p::kvs,h,e',he=>by
  obtain⟨⟨t,h1⟩,h2,_,h4⟩:=fN_ h;rcases AK.mp he with rfl|he
  .exact⟨p.1,by rw [h1];simp [Value.isInt],h2⟩
  .exact fL_ h4 e' he
theorem fM_ {k v:Int}:∀{es:List DictEntry}{kvs:List (Int×Int)},gQ_ es kvs=true->kvs.lookup k=some v->∃t,(es.find? fun e=>Value.isInt k e.key).map (·.val)=some (.int v t)
 |_,[],_,hv=>nomatch hv
 |[],p::kvs,h,_=>by unfold gQ_ at h;cases h
 |e::es,p::kvs,h,hv=>by
  obtain⟨⟨t,h1⟩,h2,⟨u,h3⟩,h4⟩:=fN_ h;rw [Bz] at hv;rw [BP];by_cases q:k=p.1
  .have b:(k==p.1)=true:=by simp [q]
   rw [b] at hv;have hv':p.2=v:=Af hv;have i:Value.isInt k e.key=true:=by rw [h1,q];simp [Value.isInt]
   rw [i];exact⟨u,by rw [<-hv',<-h3];rfl⟩
  .have b:(k==p.1)=false:=by simp [q]
   rw [b] at hv;have i:Value.isInt k e.key=false:=by rw [h1];simp [Value.isInt];exact fun z=>q z.symm
   rw [i];exact fM_ h4 hv
noncomputable def rJ_ (K:W.Frag) (td ty:TE):TE:=fun σ H Q=>td σ H fun x H1=>ty σ H1 fun y H2=>∃a kvs k v,x= .ref a/\fO_ K a kvs=true/\y= .int k/\kvs.lookup k=some v/\Q (.int v) H2
theorem jG_ {X:Cx}{o i:Expr}{pos:Pos}{td ty:TE} (ho:PE X o td) (hi:PE X i ty) (hs:tg_ i):PE X (.Subscript o i pos) (rJ_ X.K td ty):=by
 intro pins s σ H Q I h;refine in_ PySem.F.slot_dict_getitem.lookup hs (thn (ho pins s σ H _ I h) fun u s1 ⟨x,H1,I1,rx,q1⟩=>thn (hi pins s1 σ H1 _ I1 q1) fun iv s2 ⟨y,H2,I2,ry,a,kvs,k,v,ex,hd,ey,hv,q2⟩=> ?_);subst ex ey;obtain rfl:u=Value.ref a:=rx;obtain⟨t,rfl⟩:=ry;unfold fO_ at hd;split at hd
 .rename_i ob hob;have hg:=I2.kIn a ob hob;unfold si_ at hd;split at hd
  .rename_i c es ep hc hdi hda;rw [AC,AC] at hd;obtain⟨⟨d1,d2⟩,d3⟩:=hd;have hc':ob.cls= .type "dict":=by rw [hc,eq_of_beq d1]
   obtain⟨t',ht⟩:=fM_ d3 hv;have mp:s2.heap.MapOf (intKind X.prog X.w) a (findBy Value.isInt es):=⟨ob,es,ep,hg,⟨hc',hdi,Array.isEmpty_iff.mp d2⟩,hda,fun e he=>fL_ d3 e (by simpa using he),fun _=>rfl⟩;refine⟨⟨ob,hg,hc'⟩,wpAny_getItem_of (knd:=intKind X.prog X.w) (k:=k) (by simp [intKind,Value.isInt]) mp (v:= .int v t') ?_ ⟨.int v,H2,I2.tok _,⟨_,rfl⟩,q2⟩⟩;show findBy Value.isInt es k=_;unfold findBy;obtain⟨l⟩:=es;simpa using ht
  .cases hd
 .cases hd
end L2
namespace L2
open PySem PySem.Spec PyProof.Rows
noncomputable def uK_ (K:W.Frag) (H:Hp) (n:Nat) (xs:List V) (x:V) (es:Nat->Bool):Prop:=n<=8/\(∀(j:Nat) z,xs[j]? =some z->(∃a,z= .ref a)/\EqR K H n z x (es j))/\∀(i j:Nat) z,xs[i]? =some z->xs[j]? =some z->es i=es j
section
variable {X:Cx}{pins:List (Addr×Obj)}{σ:St}{H:Hp}{s:Shared}
open Classical in
noncomputable def hV_ (its:List Value) (es:Nat->Bool) (u:Value):Bool:=decide (∃j:Nat,its[j]? =some u/\es j=true)
end
section
variable {X:Cx}
end
end L2
namespace L2
open PySem PySem.Spec PyProof.Rows PySem.W
noncomputable def Ask (K:W.Frag) (H:Hp) (x y:V) (b:Bool):Prop:=∃(a1 a2:Addr) (xs ys:List V) (d:Nat) (es fs:Nat->Bool),x= .ref a1/\y= .ref a2/\SqL K H a1 xs/\SqL K H a2 ys/\d<=4/\
 (∀(j:Nat) x y,xs[j]? =some x->ys[j]? =some y->EqR K H d x y (es j))/\(∀(j:Nat) x y,xs[j]? =some x->ys[j]? =some y->es j=false->LtR K H d x y (fs j))/\b=SeqAt.lex es fs xs.length ys.length (min xs.length ys.length) 0
section
variable {X:Cx}
end
noncomputable def rr_ (p q:Pt):Bool:=decide (p.1<q.1)||(decide (p.1=q.1)&&decide (p.2<q.2))
noncomputable def hx_:List Pt->List Pt->Bool
 |_,[]=>false
 |[],_::_=>true
 |x::xs,y::ys=>if x=y then hx_ xs ys else rr_ x y
section
variable {K:W.Frag}{H:Hp}
theorem sp_ {p q:Pt}{v w:V} (h:Is H (pt p) v) (k:Is H (pt q) w):LtR K H 1 v w (rr_ p q):=by
 obtain⟨a,rfl,ha⟩:=ob_ h;obtain⟨b,rfl,hb⟩:=ob_ k;have e:=LtR.tuples (K:=K) (H:=H) (d:=0) (a:=a) (b:=b) (fun j=>if j=0 then decide (p.1=q.1) else decide (p.2=q.2)) (fun j=>if j=0 then decide (p.1<q.1) else decide (p.2<q.2)) (SqT.of ha) (SqT.of hb) (fun j x y hx hy=> ?_) (fun j x y hx hy _=> ?_)
 .have e2:SeqAt.lex (fun j=>if j=0 then decide (p.1=q.1) else decide (p.2=q.2)) (fun j=>if j=0 then decide (p.1<q.1) else decide (p.2<q.2)) 2 2 2 0=rr_ p q:=by
   unfold rr_;by_cases e0:p.1=q.1
   .have n0:¬p.1<q.1:=by lia
    by_cases e1:p.2=q.2
    .have n1:¬p.2<q.2:=by lia
     simp [SeqAt.lex,e0,e1]
    .simp [SeqAt.lex,e0,e1]
   .simp [SeqAt.lex,e0]
  exact e2▸e
 .match j,hx,hy with
  |0,hx,hy=>cases hx;cases hy;exact EqR.int 0 _ _
  |1,hx,hy=>cases hx;cases hy;exact EqR.int 0 _ _
  |j+2,hx,_=>simp at hx
 .match j,hx,hy with
  |0,hx,hy=>cases hx;cases hy;exact LtR.int 0 _ _
  |1,hx,hy=>cases hx;cases hy;exact LtR.int 0 _ _
  |j+2,hx,_=>simp at hx
theorem mr_ (p q:List Pt):∀(k i:Nat),min p.length q.length-i=k->i<=min p.length q.length->SeqAt.lex (fun j=>decide (p.getD j (0,0)=q.getD j (0,0))) (fun j=>rr_ (p.getD j (0,0)) (q.getD j (0,0))) p.length q.length k i=hx_ (p.drop i) (q.drop i)
 |0,i,hk,hi=>by
  rw [SeqAt.lex];rcases(by lia:q.length=i\/(p.length=i/\i<q.length)) with e|⟨e,e2⟩
  .rw [C1 (l:=q) (by lia)];have:¬p.length<q.length:=by lia
   cases p.drop i<;>simp [hx_,this]
  .rw [C1 (l:=p) (by lia),Ai e2];have:p.length<q.length:=by lia
   simp [hx_,this]
 |k+1,i,hk,hi=>by
  have h1:i<p.length:=by lia
  have h2:i<q.length:=by lia
  have g1:p.getD i (0,0)=p[i]:=by simp [List.getD,h1]
  have g2:q.getD i (0,0)=q[i]:=by simp [List.getD,h2]
  rw [SeqAt.lex,Ai h1,Ai h2,hx_,g1,g2];by_cases e:p[i]=q[i]
  .rw [A6 (B5 e),A6 e];exact mr_ p q k (i+1) (by lia) (by lia)
  .rw [A5 (by simpa using e),A5 e]
theorem lE_ {p q:List Pt}{vs ws:List V} (h:Iss H (p.map pt) vs) (k:Iss H (q.map pt) ws):
  (∀(j:Nat) x y,vs[j]? =some x->ws[j]? =some y->EqR K H 1 x y (decide (p.getD j (0,0)=q.getD j (0,0))))/\(∀(j:Nat) x y,vs[j]? =some x->ws[j]? =some y->decide (p.getD j (0,0)=q.getD j (0,0))=false->LtR K H 1 x y (rr_ (p.getD j (0,0)) (q.getD j (0,0)))):=by
 have go:∀(j:Nat) x y,vs[j]? =some x->ws[j]? =some y->Is H (pt (p.getD j (0,0))) x/\Is H (pt (q.getD j (0,0))) y:=fun j x y hx hy=>by
  obtain⟨d,hd,h1⟩:=h.of_get hx;obtain⟨e,he,h2⟩:=k.of_get hy;rw [A7] at hd he;obtain⟨d',hd',rfl⟩:=A4.mp hd;obtain⟨e',he',rfl⟩:=A4.mp he;rw [List.getD,hd',List.getD,he'];exact⟨h1,h2⟩
 exact⟨fun j x y hx hy=>sK_ (go j x y hx hy).1 (go j x y hx hy).2,fun j x y hx hy _=>sp_ (go j x y hx hy).1 (go j x y hx hy).2⟩
theorem q7_ {p q:List Pt}{v w:V} (h:Is H (pts p) v) (k:Is H (pts q) w):Ask K H v w (hx_ p q):=by
 obtain⟨a,vs,rfl,ha,h⟩:=hs_ h;obtain⟨b,ws,rfl,hb,k⟩:=hs_ k;obtain⟨e1,e2⟩:=lE_ (K:=K) h k;refine⟨a,b,vs,ws,1,_,_,rfl,rfl,SqL.of ha,SqL.of hb,by decide,e1,e2, ?_⟩;rw [h.length,k.length,A2,A2,mr_ p q _ 0 (Nat.sub_zero _) (AS _),D0,D0]
end
end L2
set_option hygiene false
local macro_rules | `(tactic| walk_at "bare") => `(tactic| (unfold wpS; wp_delta; wp_delta; wp_delta; refine (show wpS _ _ _ _ _ _ _ from ?_)))
local macro_rules | `(tactic| walk_at "tw") => `(tactic| first
 |with_reducible refine AQ (kw_ (by assumption) ?_)
 |with_reducible refine AQ (nt_ (by assumption) (by assumption) (by assumption) ?_)
 |with_reducible refine AQ (k8_ (by assumption) (by assumption) (by assumption) ?_)
 |with_reducible refine AQ (rY_ ?_)
 |rw [A6 (by assumption)]
 |rw [A5 (by assumption)]
 |exact Ae (by assumption)
 |dsimp only)
local macro_rules | `(tactic| walk_at "tw_all") => `(tactic| (
 repeat' (first|(rw [AB] at hs;obtain⟨_,_,hs⟩:=hs)|split at hs)
 all_goals
  cases hs;simp only [Be,Option.map_none,fy_,fx_,Array.map_push,Array.map_append,Array.map_extract,CD,Bx,AE,Ak] at hR
  repeat walk_at "tw"))
local macro_rules | `(tactic| walk_at "tw_hi") => `(tactic| (
 repeat' (first|(rw [AB] at hs;obtain⟨_,_,hs⟩:=hs)|split at hs)
 all_goals
  cases hs<;>(simp only [Be,Option.map_none,fH_,e4_,Array.map_push,Array.map_append,Array.map_extract,Array.map_reverse,CD,Bx,AE,Ak] at hR;repeat walk_at "tw")))
local macro_rules | `(tactic| walk_at "tw_asc") => `(tactic| (
 refine AQ (ba_ (γ:=Nat) (step:=uj_ c _ l) (fun m=>(none,m)) (fun _=>sst kd item _ pd g) (fun x m r hs R hR=> ?_) hz ?_)
 .obtain⟨q,hq1,rfl⟩:=A4.mp hs;refine AQ (eE_ hc hq1 ?_);cases q<;>exact Ae hR))
local macro_rules | `(tactic| walk_at "tw_down") => `(tactic| (
 refine AQ (wpS_lift (CM ⟨rfl, ?_⟩));obtain⟨t,h1,h2⟩:=AB.mp h;refine AQ (ba_ (γ:=Array Nat×Nat×Nat) (step:=q6_ c l) (fun t=>(none,t.2.1,t.2.2)) (fun t=>sst kd item t.1 pd g) (fun x t r hs R hR=> ?_) h1 ?_)
 .unfold q6_ at hs;obtain⟨q,hq1,hs⟩:=AB.mp hs;refine AQ (eE_ hc hq1 ?_);cases q with
  |true=>
   dsimp only;rw [A6 rfl] at hs⊢;split at hs
   .rename_i z;rw [A6 z];cases hs;exact AQ (dE_ (Ae hR))
   .rename_i z;rw [A5 z];cases hs;exact Ae hR
  |false=>
   dsimp only;rw [A5 (by simp)] at hs⊢;obtain⟨r,hr1,hs⟩:=AB.mp hs;refine AQ (eE_ hc hr1 ?_);cases r<;>(cases hs;exact Ae hR)
 .dsimp only;split at h2
  .rename_i z;rw [A6 z];refine AQ (dE_ ?_);refine AQ (dE_ ?_);obtain⟨k2,h3,h4⟩:=A4.mp h2;cases h4;have hz:=h3
   walk_at "tw_asc"
   exact Ae hq
  .rename_i z;rw [A5 z];refine AQ (dE_ ?_);obtain⟨k2,h3,h4⟩:=A4.mp h2;cases h4;have hz:=h3
   walk_at "tw_asc"
   exact Ae hq))
local macro_rules | `(tactic| walk_at "tw_push") => `(tactic| (
 unfold p5_ at hs;refine AQ (wpS_get ?_);try dsimp only at hs⊢
 split at hs
 .rename_i u hu;rw [hu];try dsimp only
  obtain⟨t',ht,hs⟩:=AB.mp hs;cases hs;refine AQ (ba_ (γ:=Ts) (step:=tT_ c _) (fun _=>(none,())) (fun t=>sst kd item t.1 t.2.1 t.2.2) (fun x t r hs R hR=> ?_) (a:=0) ht ?_)
  .unfold tT_ at hs;refine AQ (wpS_get ?_);try dsimp only
   split at hs
   .rename_i v hv;rw [hv];try dsimp only
    split at hs
    .rename_i z;rw [A6 z];cases hs;exact Ae hR
    .rename_i z;rw [A5 z];obtain⟨t',hm,hs⟩:=AB.mp hs;cases hs;exact AQ (ji_ hc hm (Ae hR))
   .rename_i hv;rw [hv];cases hs;exact Ae hR
  .try dsimp only
   exact AQ (D7 (AQ (D7 (Ae hR))))
 .rename_i hu;rw [hu];cases hs;exact AQ (D7 (Ae hR))))
set_option hygiene true
namespace L2
open PySem PyProof.Rows
noncomputable def qR_:Bool->Keyed->Array Keyed->Nat->Nat->Nat->StateT SortSt Sem (Option Nat):=sortPriv%PySem.Builtin.gallop
noncomputable def oh_:Array Keyed->Array Keyed->StateT SortSt Sem (Array Keyed):=sortPriv%PySem.Builtin.mergeLo
noncomputable def oi_:Array Keyed->Array Keyed->StateT SortSt Sem (Array Keyed):=sortPriv%PySem.Builtin.mergeHi
noncomputable def f0_:Nat->StateT SortSt Sem Unit:=sortPriv%PySem.Builtin.setMinGallop
noncomputable def bS_ {γ:Type} (step:γ->Option (Bool×γ)):Nat->γ->Option γ
 |0,g=>some g
 |f+1,g=>(step g).bind fun r=>if r.1=true then some r.2 else bS_ step f r.2
section
variable {M:Model}{A:Around}{E:Value->Shared->Prop}{s:Shared}{σ:Type}
theorem ba_ {β γ:Type}{step:γ->Option (Bool×γ)} (φ:γ->β) (τ:γ->σ) {f:Nat->β->StateT σ Sem (ForInStep β)}{Q:β->σ->Prop}
  (hs:∀x g r,step g=some r->∀R:ForInStep β->σ->Prop,R (if r.1=true then .done (φ r.2) else .yield (φ r.2)) (τ r.2)->wpS M A E s (f x (φ g)) R (τ g))
  {a b:Nat}{g g':γ} (h:bS_ step (b-a) g=some g') (hq:Q (φ g') (τ g')):wpS M A E s (forIn [a:b] (φ g) f) Q (τ g):=by
 rw [Std.Legacy.Range.forIn_eq_forIn_range'];have hsz:([a:b]:Std.Legacy.Range).size=b-a:=by simp [Std.Legacy.Range.size]
 show wpS M A E s (forIn (List.range' a ([a:b]:Std.Legacy.Range).size 1) (φ g) f) Q (τ g);rw [hsz];have go:∀(k:Nat) (l:List Nat) (g:γ),l.length=k->bS_ step k g=some g'->wpS M A E s (forIn l (φ g) f) Q (τ g):=by
  intro k;induction k with
  |zero=>
   intro l g hl h;cases l with
   |nil=>rw [List.forIn_nil];cases h;exact Ae hq
   |cons _ _=>simp at hl
  |succ k ih=>
   intro l g hl h;cases l with
   |nil=>simp at hl
   |cons x l=>
    rw [List.forIn_cons];unfold bS_ at h;obtain⟨r,hr,h⟩:=AB.mp h;refine AQ (hs x g r hr _ ?_);by_cases hd:r.1=true
    .rw [A6 hd] at h⊢;cases h;exact Ae hq
    .rw [A5 hd] at h⊢;exact ih l r.2 (by simpa using hl) h
 exact go _ _ g (by simp) h
end
section
variable {prog:Program}{w:World}{A:Around}{E:Value->Shared->Prop}{s:Shared}{item:Nat->Keyed}{c:Nat->Nat->Option Bool}{kd:SortKind}
noncomputable def kr_ (kd:SortKind) (prog:Program) (w:World) (A:Around) (s:Shared) (item:Nat->Keyed) (c:Nat->Nat->Option Bool):Prop:=
 ∀i j b,c i j=some b->∀Q:Bool->Shared->Prop,Q b s->wpAny (model prog w) A (keyLt' kd (item i).1 (item j).1) Q (fun _ _=>False) s
theorem fV_ (hc:kr_ kd prog w A s item c) {st:SortSt} (hk:kindOf st=kd) {i j:Nat}{b:Bool} (h:c i j=some b) {Q:Option Bool->SortSt->Prop} (hq:Q (some b) st):wpS (model prog w) A E s (lt' (item i) (item j)) Q st:=by
 rw [lt'_eq];refine AQ (wpS_get ?_);rw [hk];refine AQ (wpS_lift (CF (BC (hc i j b h _ ⟨rfl,Ae hq⟩) (fun _ _ h=>h) fun _ _ hF=>hF.elim)))
theorem bK_ {st:SortSt}{arr:Array Nat}{i x:Nat} (h:arr[i]? =some x) {Q:Keyed->SortSt->Prop} (hq:Q (item x) st):wpS (model prog w) A E s (elem' (arr.map item) i) Q st:=by
 rw [elem'_eq,Array.getElem?_map,h];exact Ae hq
noncomputable def oz_ (c:Nat->Nat->Option Bool) (left:Bool) (key:Nat) (arr:Array Nat) (i:Nat):Option Bool:=arr[i]?.bind fun x=>if left=true then c x key else(c key x).map (!·)
noncomputable def gUp (b:Nat->Option Bool) (m:Nat) (g:Nat×Nat):Option (Bool×Nat×Nat):=if g.2>=m then some (true,g) else(b g.2).map fun y=>if y=true then(false,g.2,2*g.2+1) else(true,g)
noncomputable def gDn (b:Nat->Option Bool) (m:Nat) (g:Nat×Nat):Option (Bool×Nat×Nat):=if g.2>=m then some (true,g) else(b g.2).map fun y=>if y=true then(true,g) else(false,g.2,2*g.2+1)
noncomputable def sH_ (b:Nat->Option Bool) (g:Nat×Nat):Option (Bool×Nat×Nat):=
 if g.1>=g.2 then some (true,g) else(b (g.1+(g.2-g.1)/2)).map fun y=>if y=true then(false,g.1+(g.2-g.1)/2+1,g.2) else(false,g.1,g.1+(g.2-g.1)/2)
noncomputable def gal (c:Nat->Nat->Option Bool) (left:Bool) (key:Nat) (arr:Array Nat) (base n hint:Nat):Option Nat:=
 (oz_ c left key arr (base+hint)).bind fun right=>
  (if right=true then(bS_ (gUp (fun o=>oz_ c left key arr (base+(hint+o))) (n-hint)) n (0,1)).map fun g=>(hint+g.1+1,hint+min g.2 (n-hint))
   else(bS_ (gDn (fun o=>oz_ c left key arr (base+(hint-o))) (hint+1)) n (0,1)).map fun g=>(hint+1-min g.2 (hint+1),hint-g.1)).bind fun lh=>
   (bS_ (sH_ fun i=>oz_ c left key arr (base+i)) n lh).map (·.2)
theorem dF_ (hc:kr_ kd prog w A s item c) {st:SortSt} (hk:kindOf st=kd) {left:Bool}{key:Nat}{arr:Array Nat}{i:Nat}{b:Bool} (h:oz_ c left key arr i=some b) {Q:Option Bool->SortSt->Prop} (hq:Q (some b) st):
  wpS (model prog w) A E s (do
   let x<-elem' (arr.map item) i
   if left=true then lt' x (item key) else do
    let y<-lt' (item key) x
    pure (y.map (!·))) Q st:=by
 obtain⟨x,hx,h⟩:=AB.mp h;refine AQ (bK_ hx ?_);by_cases hl:left=true
 .rw [A6 hl] at h⊢;exact fV_ hc hk h hq
 .rw [A5 hl] at h⊢;obtain⟨y,hy,rfl⟩:=A4.mp h;exact AQ (fV_ hc hk hy (Ae hq))
theorem fW_ (hc:kr_ kd prog w A s item c) {st:SortSt} (hk:kindOf st=kd) {left:Bool}{key:Nat}{arr:Array Nat}{base n hint k:Nat} (h:gal c left key arr base n hint=some k) {Q:Option Nat->SortSt->Prop} (hq:Q (some k) st):
  wpS (model prog w) A E s (qR_ left (item key) (arr.map item) base n hint) Q st:=by
 walk_at "bare"
 dsimp only;obtain⟨right,hr,h⟩:=AB.mp h;obtain⟨lh,h1,h2⟩:=AB.mp h;obtain⟨lh2,h3,rfl⟩:=A4.mp h2;refine AQ (dF_ hc hk hr ?_);dsimp only;by_cases e:right=true
 .rw [A6 e] at h1⊢;obtain⟨g0,h0,rfl⟩:=A4.mp h1;refine AQ (ba_ (γ:=Nat×Nat) (step:=gUp (fun o=>oz_ c left key arr (base+(hint+o))) (n-hint)) (fun g=>(none,g.1,g.2)) (fun _=>st) (fun x g r hs R hR=> ?_) (a:=0) (b:=n) (g:=(0,1)) (g':=g0) h0 ?_)
  .unfold gUp at hs;dsimp only;by_cases e:g.2>=n-hint
   .rw [A6 e] at hs⊢;cases hs;exact Ae hR
   .rw [A5 e] at hs⊢;obtain⟨y,hy,rfl⟩:=A4.mp hs;refine AQ (dF_ hc hk hy ?_);cases y<;>exact Ae hR
  .dsimp only;refine AQ (ba_ (γ:=Nat×Nat) (step:=sH_ fun i=>oz_ c left key arr (base+i)) (fun g=>(none,g.1,g.2)) (fun _=>st) (fun x g r hs R hR=> ?_) (a:=0) (b:=n) (g:=(hint+g0.1+1,hint+min g0.2 (n-hint))) (g':=lh2) h3 (Ae hq));unfold sH_ at hs;dsimp only;by_cases e:g.1>=g.2
   .rw [A6 e] at hs⊢;cases hs;exact Ae hR
   .rw [A5 e] at hs⊢;obtain⟨y,hy,rfl⟩:=A4.mp hs;refine AQ (dF_ hc hk hy ?_);cases y<;>exact Ae hR
 .rw [A5 e] at h1⊢;obtain⟨g0,h0,rfl⟩:=A4.mp h1;refine AQ (ba_ (γ:=Nat×Nat) (step:=gDn (fun o=>oz_ c left key arr (base+(hint-o))) (hint+1)) (fun g=>(none,g.1,g.2)) (fun _=>st) (fun x g r hs R hR=> ?_) (a:=0) (b:=n) (g:=(0,1)) (g':=g0) h0 ?_)
  .unfold gDn at hs;dsimp only;by_cases e:g.2>=hint+1
   .rw [A6 e] at hs⊢;cases hs;exact Ae hR
   .rw [A5 e] at hs⊢;obtain⟨y,hy,rfl⟩:=A4.mp hs;refine AQ (dF_ hc hk hy ?_);cases y<;>exact Ae hR
  .dsimp only;refine AQ (ba_ (γ:=Nat×Nat) (step:=sH_ fun i=>oz_ c left key arr (base+i)) (fun g=>(none,g.1,g.2)) (fun _=>st) (fun x g r hs R hR=> ?_) (a:=0) (b:=n) (g:=(hint+1-min g0.2 (hint+1),hint-g0.1)) (g':=lh2) h3 (Ae hq));unfold sH_ at hs;dsimp only;by_cases e:g.1>=g.2
   .rw [A6 e] at hs⊢;cases hs;exact Ae hR
   .rw [A5 e] at hs⊢;obtain⟨y,hy,rfl⟩:=A4.mp hs;refine AQ (dF_ hc hk hy ?_);cases y<;>exact Ae hR
noncomputable def mp_ (a b out:Array Nat) (ia ib:Nat):Array Nat:=out++a.extract ia a.size++b.extract ib b.size
noncomputable def mo_ (a b out:Array Nat) (ia ib:Nat):Array Nat:=out++b.extract ib b.size++a.extract ia a.size
noncomputable abbrev G1:=Option (Array Nat)×Array Nat×Nat×Nat×Nat×Nat
noncomputable abbrev G3:=(Option (Array Nat)×Array Nat×Nat×Nat×Nat×Nat×Nat)×Nat
noncomputable abbrev G0:=(Option (Array Nat)×Array Nat×Nat×Nat×Nat)×Nat
noncomputable def mLo (c:Nat->Nat->Option Bool) (a b:Array Nat) (sg:Nat):Option (Array Nat×Nat):=
 b[0]?.bind fun y=>
  if(1==b.size)=true then some (mp_ a b #[y] 0 1,sg)
  else if(0+1==a.size)=true then some (mo_ a b #[y] 0 1,sg)
  else none
noncomputable abbrev stG (st:SortSt) (g:Nat):SortSt:=SortSt.mk' (kindOf st) (arrOf st) (pendingOf st) g (failedOf st)
theorem fy_ (a b out:Array Nat) (ia ib:Nat):(mp_ a b out ia ib).map item=out.map item++(a.map item).extract ia (a.map item).size++(b.map item).extract ib (b.map item).size:=by
 unfold mp_;simp
theorem fx_ (a b out:Array Nat) (ia ib:Nat):(mo_ a b out ia ib).map item=out.map item++(b.map item).extract ib (b.map item).size++(a.map item).extract ia (a.map item).size:=by
 unfold mo_;simp
theorem rZ_ {st:SortSt}{g:Nat}{Q:PUnit->SortSt->Prop} (h:Q ⟨⟩ (stG st g)):wpS (model prog w) A E s (f0_ g) Q st:=by
 walk_at "bare"
 exact D7 h
theorem kw_ {st:SortSt}{arr:Array Nat}{i x:Nat} (h:arr[i]? =some x) {Q:Keyed->SortSt->Prop} (hq:Q (item x) st):wpS (model prog w) A E s ((sortPriv%PySem.Builtin.elem) (arr.map item) i) Q st:=bK_ h hq
theorem nt_ (hc:kr_ kd prog w A s item c) {st:SortSt} (hk:kindOf st=kd) {i j:Nat}{b:Bool} (h:c i j=some b) {Q:Option Bool->SortSt->Prop} (hq:Q (some b) st):wpS (model prog w) A E s ((sortPriv%PySem.Builtin.lt) (item i) (item j)) Q st:=fV_ hc hk h hq
theorem k8_ (hc:kr_ kd prog w A s item c) {st:SortSt} (hk:kindOf st=kd) {left:Bool}{key:Nat}{arr:Array Nat}{base n hint k:Nat} (h:gal c left key arr base n hint=some k) {Q:Option Nat->SortSt->Prop} (hq:Q (some k) st):
  wpS (model prog w) A E s ((sortPriv%PySem.Builtin.gallop) left (item key) (arr.map item) base n hint) Q st:=fW_ hc hk h hq
theorem rY_ {st:SortSt}{g:Nat}{Q:PUnit->SortSt->Prop} (h:Q ⟨⟩ (stG st g)):wpS (model prog w) A E s ((sortPriv%PySem.Builtin.setMinGallop) g) Q st:=rZ_ h
set_option maxHeartbeats 4000000 in
theorem nr_ (hc:kr_ kd prog w A s item c) {st:SortSt} (hk:kindOf st=kd) {a b out:Array Nat}{g:Nat} (h:mLo c a b (gallopOf st)=some (out,g)) {Q:Array Keyed->SortSt->Prop} (hq:Q (out.map item) (stG st g)):
  wpS (model prog w) A E s (oh_ (a.map item) (b.map item)) Q st:=by
 obtain⟨κ,ar,pd,g0,fl⟩:=st
 walk_at "bare"
 refine AQ (wpS_lift (CM ⟨rfl, ?_⟩));unfold mLo at h;obtain⟨y,hy,h⟩:=AB.mp h;refine AQ (bK_ hy ?_);by_cases e1:(1==b.size)=true
 .rw [A6 e1] at h;cases h;rw [A6 (by simpa using e1)];refine Ae ?_;rw [fy_] at hq;simpa using hq
 rw [A5 e1] at h;by_cases e2:(0+1==a.size)=true
 .rw [A6 e2] at h;cases h;rw [A5 (by simpa using e1),A6 (by simpa using e2)];refine Ae ?_;rw [fx_] at hq;simpa using hq
 rw [A5 e2] at h;cases h
end
end L2
namespace L2
open PySem PyProof.Rows
section
variable {prog:Program}{w:World}{A:Around}{E:Value->Shared->Prop}{s:Shared}{item:Nat->Keyed}{c:Nat->Nat->Option Bool}{kd:SortKind}
noncomputable def hP_ (a b out:Array Nat) (na nb:Nat):Array Nat:=a.extract 0 na++b.extract 0 nb++out.reverse
noncomputable def gL_ (a b out:Array Nat) (na nb:Nat):Array Nat:=b.extract 0 nb++a.extract 0 na++out.reverse
noncomputable abbrev H1:=Option (Array Nat)×Nat×Nat×Array Nat×Nat×Nat
noncomputable abbrev H3:=(Option (Array Nat)×Nat×Nat×Array Nat×Nat×Nat×Nat)×Nat
noncomputable abbrev H0:=(Option (Array Nat)×Nat×Nat×Array Nat×Nat)×Nat
noncomputable def hi1 (c:Nat->Nat->Option Bool) (a b:Array Nat) (mg:Nat) (g:H1):Option (Bool×H1):=
 b[g.2.2.1-1]?.bind fun y=>a[g.2.1-1]?.bind fun x=>(c y x).bind fun q=>
  if q=true then
   if(g.2.1-1==0)=true then some (true,some (hP_ a b (g.2.2.2.1.push x) (g.2.1-1) g.2.2.1),g.2.1-1,g.2.2.1,g.2.2.2.1.push x,g.2.2.2.2.1+1,0)
   else if g.2.2.2.2.1+1>=mg then some (true,none,g.2.1-1,g.2.2.1,g.2.2.2.1.push x,g.2.2.2.2.1+1,0)
   else some (false,none,g.2.1-1,g.2.2.1,g.2.2.2.1.push x,g.2.2.2.2.1+1,0)
  else
   if(g.2.2.1-1==1)=true then some (true,some (gL_ a b (g.2.2.2.1.push y) g.2.1 (g.2.2.1-1)),g.2.1,g.2.2.1-1,g.2.2.2.1.push y,0,g.2.2.2.2.2+1)
   else if g.2.2.2.2.2+1>=mg then some (true,none,g.2.1,g.2.2.1-1,g.2.2.2.1.push y,0,g.2.2.2.2.2+1)
   else some (false,none,g.2.1,g.2.2.1-1,g.2.2.2.1.push y,0,g.2.2.2.2.2+1)
noncomputable def uc_ (c:Nat->Nat->Option Bool) (a b out:Array Nat) (na nb mg bc:Nat):Option (Bool×H3):=
 b[nb-1]?.bind fun y=>(gal c false y a 0 na (na-1)).bind fun at1=>
  if na-at1>0 then
   if(at1==0)=true then some (true,(some (hP_ a b (out++(a.extract at1 na).reverse) at1 nb),at1,nb,out++(a.extract at1 na).reverse,mg,na-at1,bc),mg)
   else none
  else none
noncomputable def hi3 (c:Nat->Nat->Option Bool) (a b:Array Nat) (g:H3):Option (Bool×H3):=
 if g.1.2.2.2.2.1>1 then uc_ c a b g.1.2.2.2.1 g.1.2.1 g.1.2.2.1 (g.1.2.2.2.2.1-1) g.1.2.2.2.2.2.2
 else uc_ c a b g.1.2.2.2.1 g.1.2.1 g.1.2.2.1 g.1.2.2.2.2.1 g.1.2.2.2.2.2.2
noncomputable def hi0 (c:Nat->Nat->Option Bool) (a b:Array Nat) (g:H0):Option (Bool×H0):=
 (bS_ (hi1 c a b g.1.2.2.2.2) (a.size+b.size) (none,g.1.2.1,g.1.2.2.1,g.1.2.2.2.1,0,0)).bind fun t=>
  match t.1 with
  |some r=>some (true,(some r,t.2.1,t.2.2.1,t.2.2.2.1,g.1.2.2.2.2),g.2)
  |none=>(bS_ (hi3 c a b) (a.size+b.size) ((none,t.2.1,t.2.2.1,t.2.2.2.1,g.1.2.2.2.2+1,t.2.2.2.2.1,t.2.2.2.2.2),g.2)).map fun u=>
   match u.1.1 with
   |some r=>(true,(some r,u.1.2.1,u.1.2.2.1,u.1.2.2.2.1,u.1.2.2.2.2.1),u.2)
   |none=>(false,(none,u.1.2.1,u.1.2.2.1,u.1.2.2.2.1,u.1.2.2.2.2.1+1),u.1.2.2.2.2.1+1)
noncomputable def mHi (c:Nat->Nat->Option Bool) (a b:Array Nat) (sg:Nat):Option (Array Nat×Nat):=
 a[a.size-1]?.bind fun x=>
  if(a.size-1==0)=true then some (hP_ a b #[x] (a.size-1) b.size,sg)
  else if(b.size==1)=true then some (gL_ a b #[x] (a.size-1) b.size,sg)
  else(bS_ (hi0 c a b) (a.size+b.size) ((none,a.size-1,b.size, #[x],sg),sg)).bind fun t=>t.1.1.map fun r=>(r,t.2)
theorem fH_ (a b out:Array Nat) (na nb:Nat):(hP_ a b out na nb).map item=(a.map item).extract 0 na++(b.map item).extract 0 nb++(out.map item).reverse:=by
 unfold hP_;simp
theorem e4_ (a b out:Array Nat) (na nb:Nat):(gL_ a b out na nb).map item=(b.map item).extract 0 nb++(a.map item).extract 0 na++(out.map item).reverse:=by
 unfold gL_;simp
set_option maxHeartbeats 4000000 in
theorem ns_ (hc:kr_ kd prog w A s item c) {st:SortSt} (hk:kindOf st=kd) {a b out:Array Nat}{g:Nat} (h:mHi c a b (gallopOf st)=some (out,g)) {Q:Array Keyed->SortSt->Prop} (hq:Q (out.map item) (stG st g)):
  wpS (model prog w) A E s (oi_ (a.map item) (b.map item)) Q st:=by
 obtain⟨κ,ar,pd,g0,fl⟩:=st
 walk_at "bare"
 dsimp only;refine AQ (wpS_lift (CM ⟨rfl, ?_⟩));unfold mHi at h;obtain⟨y,hy,h⟩:=AB.mp h;simp only [CD];refine AQ (bK_ hy ?_);have ey:(#[item y]:Array Keyed)=(#[y]:Array Nat).map item:=by simp
 simp only [ey];by_cases e1:(a.size-1==0)=true
 .rw [A6 e1] at h⊢;cases h;rw [fH_] at hq;exact Ae hq
 rw [A5 e1] at h⊢;by_cases e2:(b.size==1)=true
 .rw [A6 e2] at h⊢;cases h;rw [e4_] at hq;exact Ae hq
 rw [A5 e2] at h⊢;refine AQ (wpS_get ?_);obtain⟨t,h0,h⟩:=AB.mp h;obtain⟨r,hr,h⟩:=A4.mp h;cases h;refine AQ (ba_ (γ:=H0) (step:=hi0 c a b) (fun g=>(g.1.1.map (·.map item),g.1.2.1,g.1.2.2.1,g.1.2.2.2.1.map item,g.1.2.2.2.2)) (fun g=>SortSt.mk' κ ar pd g.2 fl) (fun x g r hs R hR=> ?_) (a:=0) (b:=a.size+b.size) (g:=((none,a.size-1,b.size, #[y],g0),g0)) (g':=t) h0 ?_)
 .unfold hi0 at hs;obtain⟨t1,h1,hs⟩:=AB.mp hs;dsimp only;refine AQ (ba_ (γ:=H1) (step:=hi1 c a b g.1.2.2.2.2) (fun g=>(g.1.map (·.map item),g.2.1,g.2.2.1,g.2.2.2.1.map item,g.2.2.2.2.1,g.2.2.2.2.2)) (fun _=>SortSt.mk' κ ar pd g.2 fl) (fun x u r hs R hR=> ?_) (a:=0) (b:=a.size+b.size) (g:=(none,g.1.2.1,g.1.2.2.1,g.1.2.2.2.1,0,0)) (g':=t1) h1 ?_)
  .unfold hi1 at hs;dsimp only;have hk2:kindOf (SortSt.mk' κ ar pd g.2 fl)=kd:=hk
   walk_at "tw_hi"
  .dsimp only;cases e:t1.1 with
   |some r=>
    rw [e] at hs;cases hs;exact Ae hR
   |none=>
    rw [e] at hs;obtain⟨t3,h3,hs⟩:=A4.mp hs;simp only [Option.map_none];refine AQ (wpS_lift (CM ⟨rfl, ?_⟩));refine AQ (ba_ (γ:=H3) (step:=hi3 c a b) (fun g=>(g.1.1.map (·.map item),g.1.2.1,g.1.2.2.1,g.1.2.2.2.1.map item,g.1.2.2.2.2.1,g.1.2.2.2.2.2.1,g.1.2.2.2.2.2.2)) (fun g=>SortSt.mk' κ ar pd g.2 fl) (fun x u r hs R hR=> ?_) (a:=0) (b:=a.size+b.size) (g:=((none,t1.2.1,t1.2.2.1,t1.2.2.2.1,g.1.2.2.2.2+1,t1.2.2.2.2.1,t1.2.2.2.2.2),g.2)) (g':=t3) h3 ?_)
    .have hk2:∀g,kindOf (SortSt.mk' κ ar pd g fl)=kd:=fun _=>hk;unfold hi3 uc_ at hs;dsimp only;by_cases m:u.1.2.2.2.2.1>1
     .rw [A6 m] at hs⊢;have hk3:=hk2 (u.1.2.2.2.2.1-1)
      walk_at "tw_hi"
     .rw [A5 m] at hs⊢;have hk3:=hk2 u.1.2.2.2.2.1
      walk_at "tw_hi"
    .dsimp only;cases e:t3.1.1 with
     |some r=>
      rw [e] at hs;cases hs;exact Ae hR
     |none=>
      rw [e] at hs;cases hs;simp only [Option.map_none];exact AQ (rZ_ (Ae hR))
 .dsimp only;rw [hr];exact Ae hq
end
end L2
namespace L2
open PySem PyProof.Rows
noncomputable def mB_ {γ:Type} (step:Nat->γ->Option (Bool×γ)):Nat->Nat->γ->Option γ
 |0,_,g=>some g
 |f+1,i,g=>(step i g).bind fun r=>if r.1=true then some r.2 else mB_ step f (i+1) r.2
section
variable {M:Model}{A:Around}{E:Value->Shared->Prop}{s:Shared}{σ:Type}
theorem kV_ {β γ:Type}{step:Nat->γ->Option (Bool×γ)} (φ:γ->β) (τ:γ->σ) {f:Nat->β->StateT σ Sem (ForInStep β)}{Q:β->σ->Prop}
  (hs:∀x g r,step x g=some r->∀R:ForInStep β->σ->Prop,R (if r.1=true then .done (φ r.2) else .yield (φ r.2)) (τ r.2)->wpS M A E s (f x (φ g)) R (τ g))
  {a b:Nat}{g g':γ} (h:mB_ step (b-a) a g=some g') (hq:Q (φ g') (τ g')):wpS M A E s (forIn [a:b] (φ g) f) Q (τ g):=by
 rw [Std.Legacy.Range.forIn_eq_forIn_range'];have hsz:([a:b]:Std.Legacy.Range).size=b-a:=by simp [Std.Legacy.Range.size]
 show wpS M A E s (forIn (List.range' a ([a:b]:Std.Legacy.Range).size 1) (φ g) f) Q (τ g);rw [hsz];have go:∀(k i:Nat) (g:γ),mB_ step k i g=some g'->wpS M A E s (forIn (List.range' i k 1) (φ g) f) Q (τ g):=by
  intro k;induction k with
  |zero=>
   intro i g h;cases h;rw [List.range'_zero,List.forIn_nil];exact Ae hq
  |succ k ih=>
   intro i g h;rw [List.range'_succ,List.forIn_cons];unfold mB_ at h;obtain⟨r,hr,h⟩:=AB.mp h;refine AQ (hs i g r hr _ ?_);by_cases hd:r.1=true
   .rw [A6 hd] at h⊢;cases h;exact Ae hq
   .rw [A5 hd] at h⊢;exact ih (i+1) r.2 h
 exact go _ a g h
end
section
variable {prog:Program}{w:World}{A:Around}{E:Value->Shared->Prop}{s:Shared}{item:Nat->Keyed}{c:Nat->Nat->Option Bool}{kd:SortKind}{pd:Array (Nat×Nat×Nat)}{g:Nat}
noncomputable abbrev sst (kd:SortKind) (item:Nat->Keyed) (p:Array Nat) (pd:Array (Nat×Nat×Nat)) (g:Nat):SortSt:=SortSt.mk' kd (p.map item) pd g none
noncomputable def cAt (c:Nat->Nat->Option Bool) (p:Array Nat) (i j:Nat):Option Bool:=p[i]?.bind fun x=>p[j]?.bind fun y=>c x y
theorem eE_ (hc:kr_ kd prog w A s item c) {p:Array Nat}{i j:Nat}{b:Bool} (h:cAt c p i j=some b) {Q:Option Bool->SortSt->Prop} (hq:Q (some b) (sst kd item p pd g)):wpS (model prog w) A E s (ltAt' i j) Q (sst kd item p pd g):=by
 obtain⟨x,hx,h⟩:=AB.mp h;obtain⟨y,hy,h⟩:=AB.mp h;rw [ltAt'_eq];refine AQ (wpS_get ?_);dsimp only;exact AQ (bK_ hx (AQ (bK_ hy (fV_ hc rfl h hq))))
noncomputable def rev (p:Array Nat) (i j:Nat):Array Nat:=mirror p i j ((j-i)/2)
theorem dE_ {p:Array Nat}{i j:Nat}{Q:Unit->SortSt->Prop} (h:Q () (sst kd item (rev p i j) pd g)):wpS (model prog w) A E s (reverseSlice' i j) Q (sst kd item p pd g):=by
 rw [reverseSlice'_eq];refine D7 ?_;have e1:mirror (p.map item) i j ((j-i)/2)=(rev p i j).map item:=W.kas_swaps_map item (fun k=>i+k) (fun k=>j-1-k) _ p;show Q () (SortSt.mk' kd (mirror (p.map item) i j ((j-i)/2)) pd g none);rw [e1];exact h
theorem k7_ {p:Array Nat}{k l:Nat}{Q:Unit->SortSt->Prop} (h:Q () (sst kd item (bubble p k (k-l)) pd g)):wpS (model prog w) A E s (moveDown' k l) Q (sst kd item p pd g):=by
 rw [moveDown'_eq];refine D7 ?_;have e1:bubble (p.map item) k (k-l)=(bubble p k (k-l)).map item:=W.kas_swaps_map item (fun i=>k-i) (fun i=>k-i-1) _ p;show Q () (SortSt.mk' kd (bubble (p.map item) k (k-l)) pd g none);rw [e1];exact h
noncomputable def uj_ (c:Nat->Nat->Option Bool) (p:Array Nat) (l:Nat) (m:Nat):Option (Bool×Nat):=(cAt c p (l+m) (l+m-1)).map fun q=>if q=true then(true,m) else(false,m+1)
noncomputable def q6_ (c:Nat->Nat->Option Bool) (l:Nat) (t:Array Nat×Nat×Nat):Option (Bool×Array Nat×Nat×Nat):=
 (cAt c t.1 (l+t.2.1) (l+t.2.1-1)).bind fun q=>
  if q=true then if t.2.2>0 then some (false,rev t.1 (l+t.2.1-(t.2.2+1)) (l+t.2.1),t.2.1+1,0) else some (false,t.1,t.2.1+1,0)
  else(cAt c t.1 (l+t.2.1-1) (l+t.2.1)).bind fun r=>if r=true then some (true,t.1,t.2.1,t.2.2) else some (false,t.1,t.2.1+1,t.2.2+1)
noncomputable def oN_ (c:Nat->Nat->Option Bool) (l n:Nat) (p:Array Nat) (m:Nat):Option (Nat×Array Nat):=(bS_ (uj_ c (rev p l (l+m)) l) (n-m) m).map fun k=>(k,rev p l (l+m))
noncomputable def oO_ (c:Nat->Nat->Option Bool) (l n:Nat) (p:Array Nat) (m:Nat):Option (Nat×Array Nat):=
 (bS_ (q6_ c l) (n-(m+1)) (p,m+1,0)).bind fun t=>if t.2.2>0 then oN_ c l n (rev t.1 (l+t.2.1-(t.2.2+1)) (l+t.2.1)) t.2.1 else oN_ c l n t.1 t.2.1
noncomputable def ui_ (c:Nat->Nat->Option Bool) (l n:Nat) (p:Array Nat):Option (Nat×Array Nat):=
 (bS_ (uj_ c p l) (n-1) 1).bind fun m=>if(m==n)=true then some (m,p) else if m>1 then(cAt c p l (l+m-1)).bind fun q=>if q=true then some (m,p) else oO_ c l n (rev p l (l+m)) m else oO_ c l n p m
set_option maxHeartbeats 2000000 in
theorem nq_ (hc:kr_ kd prog w A s item c) {l n k:Nat}{p p':Array Nat} (h:ui_ c l n p=some (k,p')) {Q:Option Nat->SortSt->Prop} (hq:Q (some k) (sst kd item p' pd g)):wpS (model prog w) A E s (countRun' l n) Q (sst kd item p pd g):=by
 walk_at "bare"
 dsimp only;unfold ui_ at h;obtain⟨m,h0,h⟩:=AB.mp h;have hz:=h0
 walk_at "tw_asc"
 dsimp only;by_cases e1:(m==n)=true
 .rw [A6 e1] at h⊢;cases h;exact Ae hq
 rw [A5 e1] at h⊢;by_cases e2:m>1
 .rw [A6 e2] at h⊢;obtain⟨q,hq1,h⟩:=AB.mp h;refine AQ (eE_ hc hq1 ?_);dsimp only;by_cases e3:q=true
  .rw [A6 e3] at h⊢;cases h;exact Ae hq
  rw [A5 e3] at h⊢;refine AQ (dE_ ?_);unfold oO_ oN_ at h
  walk_at "tw_down"
 .rw [A5 e2] at h⊢;unfold oO_ oN_ at h
  walk_at "tw_down"
noncomputable def bPl (c:Nat->Nat->Option Bool) (p:Array Nat) (l k:Nat) (t:Nat×Nat):Option (Bool×Nat×Nat):=
 if t.1>=t.2 then some (true,t.1,t.2) else(cAt c p (l+k) (l+(t.1+t.2)/2)).bind fun q=>if q=true then some (false,t.1,(t.1+t.2)/2) else some (false,(t.1+t.2)/2+1,t.2)
noncomputable def uY_ (c:Nat->Nat->Option Bool) (l k:Nat) (p:Array Nat):Option (Bool×Array Nat):=(bS_ (bPl c p l k) k (0,k)).map fun t=>(false,bubble p (l+k) (l+k-(l+t.1)))
noncomputable def sW_ (c:Nat->Nat->Option Bool) (l n ok:Nat) (p:Array Nat):Option (Array Nat):=mB_ (uY_ c l) (n-max ok 1) (max ok 1) p
theorem nu_ (hc:kr_ kd prog w A s item c) {l n ok:Nat}{p p':Array Nat} (h:sW_ c l n ok p=some p') {Q:Bool->SortSt->Prop} (hq:Q true (sst kd item p' pd g)):wpS (model prog w) A E s (binarySort' l n ok) Q (sst kd item p pd g):=by
 walk_at "bare"
 dsimp only;refine AQ (kV_ (γ:=Array Nat) (step:=uY_ c l) (fun _=>(none,())) (fun p=>sst kd item p pd g) (fun k p r hs R hR=> ?_) h (Ae hq));obtain⟨t,ht,rfl⟩:=A4.mp hs;refine AQ (ba_ (γ:=Nat×Nat) (step:=bPl c p l k) (fun t=>(none,t.1,t.2)) (fun _=>sst kd item p pd g) (fun x t r hs R hR=> ?_) (a:=0) (b:=k) ht ?_)
 .unfold bPl at hs;dsimp only;by_cases e:t.1>=t.2
  .rw [A6 e] at hs⊢;cases hs;exact Ae hR
  .rw [A5 e] at hs⊢;obtain⟨q,hq1,hs⟩:=AB.mp hs;refine AQ (eE_ hc hq1 ?_);cases q<;>(cases hs;exact Ae hR)
 .exact AQ (k7_ (Ae hR))
end
end L2
namespace L2
open PySem PyProof.Rows
section
variable {prog:Program}{w:World}{A:Around}{E:Value->Shared->Prop}{s:Shared}{item:Nat->Keyed}{c:Nat->Nat->Option Bool}{kd:SortKind}
noncomputable abbrev Pd:=Array (Nat×Nat×Nat)
noncomputable def lay (p:Array Nat) (o:Nat) (xs:Array Nat):Array Nat:=xs.toList.zipIdx.foldl (fun a x=>a.setIfInBounds (o+x.2) x.1) p
theorem mu_ (p:Array Nat) (o:Nat) (xs:Array Nat):(xs.map item).toList.zipIdx.foldl (fun a x=>a.setIfInBounds (o+x.2) x.1) (p.map item)=(lay p o xs).map item:=by
 have go:∀(l:List Nat) (k:Nat) (p:Array Nat),((l.map item).zipIdx k).foldl (fun a x=>a.setIfInBounds (o+x.2) x.1) (p.map item)=((l.zipIdx k).foldl (fun a x=>a.setIfInBounds (o+x.2) x.1) p).map item:=by
  intro l;induction l with
  |nil=>intro k p;rfl
  |cons x l ih=>
   intro k p;rw [AJ,List.zipIdx_cons,List.zipIdx_cons,Bf,Bf];rw [show(p.map item).setIfInBounds (o+k) (item x)=(p.setIfInBounds (o+k) x).map item from(Array.map_setIfInBounds ..).symm];exact ih _ _
 rw [Array.toList_map];exact go _ 0 p
noncomputable abbrev Ts:=Array Nat×Pd×Nat
noncomputable def mAt (c:Nat->Nat->Option Bool) (i:Nat) (t:Ts):Option Ts:=
 t.2.1[i]?.bind fun u=>t.2.1[i+1]?.bind fun v=>t.1[v.1]?.bind fun y=>(gal c false y t.1 u.1 u.2.1 0).bind fun k=>
  if(u.2.1-k==0)=true then some (t.1,(t.2.1.setIfInBounds i (u.1,u.2.1+v.2.1,u.2.2)).eraseIdxIfInBounds (i+1),t.2.2)
  else t.1[u.1+k+(u.2.1-k)-1]?.bind fun x=>(gal c true x t.1 v.1 v.2.1 (v.2.1-1)).bind fun nb=>
   if(nb==0)=true then some (t.1,(t.2.1.setIfInBounds i (u.1,u.2.1+v.2.1,u.2.2)).eraseIdxIfInBounds (i+1),t.2.2)
   else if u.2.1-k<=nb then(mLo c (t.1.extract (u.1+k) v.1) (t.1.extract v.1 (v.1+nb)) t.2.2).bind fun r=>some (lay t.1 (u.1+k) r.1,(t.2.1.setIfInBounds i (u.1,u.2.1+v.2.1,u.2.2)).eraseIdxIfInBounds (i+1),r.2)
   else(mHi c (t.1.extract (u.1+k) v.1) (t.1.extract v.1 (v.1+nb)) t.2.2).bind fun r=>some (lay t.1 (u.1+k) r.1,(t.2.1.setIfInBounds i (u.1,u.2.1+v.2.1,u.2.2)).eraseIdxIfInBounds (i+1),r.2)
theorem pA_ {M:Model}{σ:Type}{x:σ}{Q:PUnit->σ->Prop}{st:σ} (h:Q ⟨⟩ x):wpS M A E s (set x:StateT σ Sem PUnit) Q st:=by
 unfold wpS;show wpAny M A (pure ((),x)) _ E s;exact A3 ⟨rfl,h⟩
set_option maxHeartbeats 2000000 in
theorem ji_ (hc:kr_ kd prog w A s item c) {i:Nat}{t t':Ts} (h:mAt c i t=some t') {Q:Bool->SortSt->Prop} (hq:Q true (sst kd item t'.1 t'.2.1 t'.2.2)):wpS (model prog w) A E s (mergeAt' i) Q (sst kd item t.1 t.2.1 t.2.2):=by
 walk_at "bare"
 dsimp only;refine AQ (wpS_get ?_);unfold mAt at h;obtain⟨⟨sa,na,pw⟩,hu,h⟩:=AB.mp h;obtain⟨⟨sb,nb,pw2⟩,hv,h⟩:=AB.mp h;obtain⟨y,hy,h⟩:=AB.mp h;obtain⟨k,hk,h⟩:=AB.mp h;dsimp only at*
 rw [hu,hv];dsimp only;refine AQ (pA_ ?_);refine AQ (bK_ hy ?_);refine AQ (fW_ hc rfl hk ?_);dsimp only;by_cases e1:(na-k==0)=true
 .rw [A6 e1] at h⊢;cases h;exact Ae hq
 rw [A5 e1] at h⊢;obtain⟨x,hx,h⟩:=AB.mp h;obtain⟨nb2,hk2,h⟩:=AB.mp h;refine AQ (bK_ hx ?_);refine AQ (fW_ hc rfl hk2 ?_);dsimp only;by_cases e2:(nb2==0)=true
 .rw [A6 e2] at h⊢;cases h;exact Ae hq
 rw [A5 e2] at h⊢;have x1:(t.1.map item).extract (sa+k) sb=(t.1.extract (sa+k) sb).map item:=by simp
 have x2:(t.1.map item).extract sb (sb+nb2)=(t.1.extract sb (sb+nb2)).map item:=by simp
 rw [x1,x2];by_cases e3:na-k<=nb2
 .rw [A6 e3] at h⊢;obtain⟨r,hr,h⟩:=AB.mp h;cases h;refine AQ (nr_ hc rfl hr ?_);refine AQ (D7 ?_);refine AQ (wpS_get (Ae ?_));dsimp only;rw [mu_];exact hq
 .rw [A5 e3] at h⊢;obtain⟨r,hr,h⟩:=AB.mp h;cases h;refine AQ (ns_ hc rfl hr ?_);refine AQ (D7 ?_);refine AQ (wpS_get (Ae ?_));dsimp only;rw [mu_];exact hq
end
end L2
namespace L2
open PySem PyProof.Rows
section
variable {prog:Program}{w:World}{A:Around}{E:Value->Shared->Prop}{s:Shared}{item:Nat->Keyed}{c:Nat->Nat->Option Bool}{kd:SortKind}
noncomputable def tT_ (c:Nat->Nat->Option Bool) (pw:Nat) (t:Ts):Option (Bool×Ts):=
 match(if t.2.1.size>1 then t.2.1[t.2.1.size-2]? else none) with
 |some u=>if u.2.2<=pw then some (true,t) else(mAt c (t.2.1.size-2) t).bind fun t'=>some (false,t')
 |none=>some (true,t)
noncomputable def p5_ (c:Nat->Nat->Option Bool) (size lo n:Nat) (t:Ts):Option (Bool×Nat×Ts):=
 match t.2.1.back? with
 |some u=>(bS_ (tT_ c (power' size (2*u.1+u.2.1) (2*u.1+u.2.1+u.2.1+n) size)) size t).bind fun t'=>
  some (false,lo+n,t'.1,(t'.2.1.modify (t'.2.1.size-1) fun x=>(x.1,x.2.1,power' size (2*u.1+u.2.1) (2*u.1+u.2.1+u.2.1+n) size)).push (lo,n,0),t'.2.2)
 |none=>some (false,lo+n,t.1,t.2.1.push (lo,n,0),t.2.2)
noncomputable def tP_ (c:Nat->Nat->Option Bool) (size:Nat) (g:Nat×Ts):Option (Bool×Nat×Ts):=
 if g.1>=size then some (true,g) else(ui_ c g.1 (size-g.1) g.2.1).bind fun r=>
  if r.1<minRun' size size 0 then(sW_ c g.1 (min (size-g.1) (minRun' size size 0)) r.1 r.2).bind fun p2=>p5_ c size g.1 (min (size-g.1) (minRun' size size 0)) (p2,g.2.2)
  else p5_ c size g.1 r.1 (r.2,g.2.2)
noncomputable def tR_ (c:Nat->Nat->Option Bool) (t:Ts):Option (Bool×Ts):=
 if t.2.1.size<=1 then some (true,t)
 else(mAt c (if Option.any (fun x=>decide (x<t.2.1[t.2.1.size-2+1]?.elim 0 fun x=>x.2.1)) (if t.2.1.size-2>0 then Option.map (fun x=>x.2.1) t.2.1[t.2.1.size-2-1]? else none)=true then t.2.1.size-2-1 else t.2.1.size-2) t).bind fun t'=>some (false,t')
noncomputable def nL_ (c:Nat->Nat->Option Bool) (n:Nat):Option (Array Nat):=
 (bS_ (tP_ c n) n (0,List.toArray (List.range n), #[],7)).bind fun g=>(bS_ (tR_ c) n g.2).map (·.1)
set_option maxHeartbeats 2000000 in
theorem k6_ (hc:kr_ kd prog w A s item c) {n:Nat}{p:Array Nat} (h:nL_ c n=some p) {Q:Unit->SortSt->Prop} (hq:∀pd g,Q () (sst kd item p pd g)):wpS (model prog w) A E s sortRuns' Q (sst kd item (List.toArray (List.range n)) #[] 7):=by
 rw [sortRuns'_eq];try dsimp only
 refine AQ (wpS_get ?_);have hz:(arrOf (sst kd item (List.toArray (List.range n)) #[] 7)).size=n:=by
  show((List.toArray (List.range n)).map item).size=n;simp
 rw [hz];unfold nL_ at h;obtain⟨g,h1,h⟩:=AB.mp h;obtain⟨t,h2,rfl⟩:=A4.mp h;refine AQ (ba_ (γ:=Nat×Ts) (step:=tP_ c n) (fun g=>(none,g.1)) (fun g=>sst kd item g.2.1 g.2.2.1 g.2.2.2) (fun x g r hs R hR=> ?_) (a:=0) (b:=n) (g:=(0,List.toArray (List.range n), #[],7)) h1 ?_)
 .unfold tP_ at hs;try dsimp only
  by_cases e1:g.1>=n
  .rw [A6 e1] at hs⊢;cases hs;exact Ae hR
  rw [A5 e1] at hs⊢;obtain⟨k,hk,hs⟩:=AB.mp hs;refine AQ (nq_ hc hk ?_);try dsimp only
  by_cases e2:k.1<minRun' n n 0
  .rw [A6 e2] at hs⊢;obtain⟨p2,hp,hs⟩:=AB.mp hs;refine AQ (wpS_lift (CM ⟨rfl, ?_⟩));refine AQ (nu_ hc hp ?_);simp only [BG,AE,Ak]
   walk_at "tw_push"
  .rw [A5 e2] at hs⊢
   walk_at "tw_push"
 .try dsimp only
  refine AQ (ba_ (γ:=Ts) (step:=tR_ c) (fun _=>(none,())) (fun t=>sst kd item t.1 t.2.1 t.2.2) (fun x t r hs R hR=> ?_) (a:=0) (b:=n) (g:=g.2) h2 (Ae (hq _ _)));unfold tR_ at hs;refine AQ (wpS_get ?_);try dsimp only
  by_cases e1:t.2.1.size<=1
  .rw [A6 e1] at hs⊢;cases hs;exact Ae hR
  rw [A5 e1] at hs⊢;obtain⟨t',hm,hs⟩:=AB.mp hs;cases hs;exact AQ (ji_ hc hm (Ae hR))
end
end L2
namespace L2
open PySem PySem.Spec PyProof.Rows PySem.W
section
variable {prog:Program}{w:World}{A:Around}{E:Value->Shared->Prop}{s:Shared}
theorem ll_ {kd:SortKind}{a:Addr}{vs:List Value}{n:Nat}{c:Nat->Nat->Option Bool}{p:Array Nat}{P:PySem.Fin->Shared->Prop} (ho:s.heap.get? a=some (seqObj "list" vs.toArray n)) (h2:2<=vs.length) (hL:vs.length<=1000) (hp:p.size<=1000)
  (hkd:∀(R:SortKind->Shared->Prop),R kd {s with heap:=aN_ s.heap a vs}->wpAny (model prog w) A (keyKind' vs.toArray) R E {s with heap:=aN_ s.heap a vs}) (hc:kr_ kd prog w A {s with heap:=aN_ s.heap a vs} (fS_ vs) c) (hs:nL_ c vs.length=some p)
  (h:P (.done (.ret .none)) {s with heap:=sortedHeap s.heap a vs (p.map fun i=>vs.getD i .none)}):wpAny (model prog w) A (Builtin.«list.sort» ⟨[.ref a],[]⟩) P E s:=by
 rw [list_sort_plain];have ha:a<s.heap.objs.size:=AN ho;refine A0 (listItems_at ho rfl ?_);refine A0 (CP ho rfl ?_ (by rw [AD,At];lia) (AS _));obtain⟨e1,ho1⟩:∃e1,(s.heap.update a (Obj.mapSeq fun _=>(#[]:Array Value))).get? a=some (seqObj "list" #[] e1):=⟨_,CN ho (fun _=> #[])⟩;refine A0 (seqEpoch_at ho1 rfl ?_);refine A0 (wpAny_newTuple ?_ (by show vs.length<=_;rw [At];lia));refine A0 (Cu ?_ (AS _));refine Aw ?_;have ho6:(aN_ s.heap a vs).get? a=some (seqObj "list" #[] e1):=by
  rw [B2 _ _ _ (by rw [Bk,B1];exact AO (Ag ha)),B2 _ _ _ (by rw [B1];exact AO ha)];exact ho1
 show wpAny (model prog w) A _ P E {s with heap:=aN_ s.heap a vs};dsimp only;have hn2:¬vs.toArray.size<2:=by rw [AD];lia
 rw [A5 hn2,A5 hn2];refine A0 (hkd _ ?_);have run:=k6_ (E:=E) hc hs (Q:=fun _ st'=>arrOf st'=p.map (fS_ vs)/\failedOf st'=none) fun pd g=>⟨rfl,rfl⟩;have est:sst kd (fS_ vs) (List.toArray (List.range vs.length)) #[] 7=SortSt.mk' kd (vs.toArray.zip vs.toArray) #[] 7 none:=by
  show SortSt.mk' kd ((List.toArray (List.range vs.length)).map (fS_ vs)) #[] 7 none=_;rw [ik_]
 rw [est] at run;refine A0 (BC run ?_ fun _ _ e=>e);rintro⟨⟨⟩,st'⟩ s' ⟨rfl,har,hf⟩;dsimp only at har hf⊢;have eo:(arrOf st').map (·.2)=p.map fun i=>vs.getD i .none:=by
  rw [har,Array.map_map];rfl
 rw [eo];refine A0 (seqEpoch_at ho6 rfl ?_);refine A0 (CP ho6 rfl ?_ (AS _) (by rw [CD,At];lia));rw [hf];simp only [CW,AE,Ak];exact A3 h
theorem iq_ {kd:SortKind}{l:Addr}{vs:List Value}{c:Nat->Nat->Option Bool}{p:Array Nat}{Q:Value->Shared->Prop} (hl:s.heap.IsList l vs.toArray) (h2:2<=vs.length) (hL:vs.length<=1000) (hp:p.size<=1000)
  (hkd:∀(R:SortKind->Shared->Prop) (E:Value->Shared->Prop),R kd {s with heap:=dJ_ s.heap vs}->wpAny (model prog w) A.in1.in1 (keyKind' vs.toArray) R E {s with heap:=dJ_ s.heap vs}) (hc:kr_ kd prog w A.in1.in1 {s with heap:=dJ_ s.heap vs} (fS_ vs) c) (hs:nL_ c vs.length=some p)
  (h:Q (.ref (s.heap.objs.size+1)) {s with heap:=sortedAll s.heap vs (p.map fun i=>vs.getD i .none)}):wpAny (model prog w) A (call (.builtin "sorted") [.ref l]) Q E s:=by
 refine Calls.call_function_entry kind_sorted plain_sorted entry_sorted (args_sorted1 _) ?_;unfold Builtin.«sorted»;refine A0 (m:=checkCount "sorted" 1 1 _) (A3 ?_);refine A0 (collect_list hl ?_ (by rw [At];lia));refine A0 (Cu ?_ (by rw [At];lia));have hsz:((s.heap.push (seqObj "list" #[] 0)).update s.heap.objs.size (Obj.mapSeq (· ++vs.toArray))).objs.size=s.heap.objs.size+1:=by
  rw [B1,Bk]
 have hoL:(((s.heap.push (seqObj "list" #[] 0)).update s.heap.objs.size (Obj.mapSeq (· ++vs.toArray))).push (seqObj "list" vs.toArray 0)).get? (s.heap.objs.size+1)=some (seqObj "list" vs.toArray 0):=by
  rw [<-hsz];exact AL _ rfl
 show wpAny _ _ _ _ _ {s with heap:=((s.heap.push (seqObj "list" #[] 0)).update s.heap.objs.size (Obj.mapSeq (· ++vs.toArray))).push (seqObj "list" vs.toArray 0)};rw [hsz];refine A0 (Aw (Ar slot_list_sort ⟨_,hoL,rfl⟩ entry_list_sort (ll_ (s:={s with heap:=((s.heap.push (seqObj "list" #[] 0)).update s.heap.objs.size (Obj.mapSeq (· ++vs.toArray))).push (seqObj "list" vs.toArray 0)}) hoL h2 hL hp (fun R=>hkd R _) hc hs ⟨_,rfl, ?_⟩) (args_list_sort _)));exact A3 ⟨_,rfl,h⟩
end
noncomputable def lC_ (K:W.Frag):List V->Hp->VK->Prop:=fun vs H Q=>∃(l:Addr) (rs:List V) (c:Nat->Nat->Option Bool) (p:Array Nat),vs=[.ref l]/\SqL K H l rs/\2<=rs.length/\rs.length<=1000/\p.size<=1000/\(∀r∈rs,∃a ys,r= .ref a/\SqL K H a ys)/\
 (∀i j b,c i j=some b->∃x y,rs[i]? =some x/\rs[j]? =some y/\Ask K H x y b)/\nL_ c rs.length=some p/\(∀i∈p.toList,i<rs.length)/\∀q,H q=none->Q (.ref q) (upd H q (.lst (p.toList.map fun i=>rs.getD i .non)))
section
variable {X:Cx}
theorem h1_ {k:Nat} (hr:Room k X.A):cx_ X (.builtin "sorted") (lC_ X.K):=by
 intro pins s σ H xs us Q I r h;obtain⟨l,rs,c,p,rfl,hq,h2,hL,hps,hty,hask,hs,hpl,q⟩:=h;obtain⟨u,rfl,rx⟩:=fe_ r;cases rx;obtain⟨its,r',pl,hz⟩:=I.list hq;have ln:=r'.length;have hu:=hr.un;have I2:Inv X pins σ H {s with heap:=dJ_ s.heap its}:=I.kept (t':=s.toks) fun b o e=>g8_ e;refine iq_ (kd:=oneType') (vs:=its) (c:=c) (p:=p) pl.isList (by lia) (by lia) hps (fun R E hR=>kas_kind (T:= .type "list") (by lia) (fun v hv=> ?_) rfl rfl hR) (fun i j b hb Q' hq'=> ?_) (by rw [<-ln];exact hs) ?_
 .obtain⟨i,hi,rfl⟩:=Bd.mp hv;have hi':i<rs.length:=by lia
  obtain⟨a,ys,e1,hy⟩:=hty rs[i] (Bn hi');obtain⟨u,hu1,ru⟩:=r'.get (A1 hi');rw [A1 hi] at hu1;rw [e1] at ru;obtain rfl:u=Value.ref a:=ru;rw [Af hu1];obtain⟨js,r2,p2,z2⟩:=I2.list hy;obtain⟨o,ho,hc,_⟩:=p2.isList;exact hc▸(Looks.ld ho).andThen .now
 .obtain⟨x,y,hx,hy,a1,a2,xs,ys,d,es,fs,rfl,rfl,h1,h2,hd,he,hf,rfl⟩:=hask i j b hb;obtain⟨u,hu1,ru⟩:=r'.get hx;obtain⟨v,hv1,rv⟩:=r'.get hy;obtain rfl:u=Value.ref a1:=ru;obtain rfl:v=Value.ref a2:=rv;have g1:(fS_ its i).1= .ref a1:=by show its.getD i .none=_;rw [List.getD,hu1];rfl
  have g2:(fS_ its j).1= .ref a2:=by show its.getD j .none=_;rw [List.getD,hv1];rfl
  rw [g1,g2];exact LtR.key I2 h1 h2 he hf (by rw [aI_,aI_];lia) hq'
 .obtain⟨e,he⟩:=sortedAll_at s.heap its (p.map fun i=>its.getD i .none);have en:(p.map fun i=>its.getD i .none)=List.toArray (p.toList.map fun i=>its.getD i .none):=by
   apply Array.toList_inj.mp;simp
  rw [en] at he⊢;refine⟨.ref (s.heap.objs.size+1),_,I.laid (t':=s.toks) (fun _ _=>sortedAll_old) (Cf _) (show aH_ X.prog X.w _ _ _ (.lst (p.toList.map fun i=>rs.getD i .non)) from⟨?_,_,e,eB_ r' p.toList hpl,he⟩),rfl,q _ (I.hok.fresh (Cf _))⟩;rw [A2,B3,At];lia
end
section
variable {X:Cx}
noncomputable def nT_ (K:W.Frag):List V->Hp->VK->Prop:=fun vs H Q=>(∃(l:Addr) (rs:List V),vs=[.ref l]/\SqL K H l rs/\rs.length<2/\∀q,H q=none->Q (.ref q) (upd H q (.lst rs)))\/lC_ K vs H Q
theorem en_ {k:Nat} (hr:Room k X.A):cx_ X (.builtin "sorted") (nT_ X.K):=by
 intro pins s σ H xs us Q I r h;rcases h with h|h
 .obtain⟨l,rs,rfl,hq,h2,q⟩:=h;obtain⟨u,rfl,rx⟩:=fe_ r;cases rx;obtain⟨its,r',pl,hz⟩:=I.list hq;have ln:=r'.length;refine kA_ (vs:=its) pl.isList (by lia) ?_;obtain⟨e,he⟩:=sortedAll_at s.heap its its.toArray;exact⟨.ref (s.heap.objs.size+1),_,I.laid (t':=s.toks) (fun _ _=>sortedAll_old) (Cf _) (show aH_ X.prog X.w _ _ _ (.lst rs) from⟨hz,its,e,r',he⟩),rfl,q _ (I.hok.fresh (Cf _))⟩
 .exact h1_ hr pins s σ H xs us Q I r h
end
end L2
namespace L2
open PySem PySem.Spec PyProof.Rows PySem.W
noncomputable def cP_ (c:Nat->Nat->Bool) {α:Type}:KasT α->α
 | .ret a=>a
 | .ask i j k=>cP_ c (k (c i j))
theorem ct_ {c:Nat->Nat->Bool}{α β:Type}{f:α->KasT β}:∀(t:KasT α),cP_ c (t.bind f)=cP_ c (f (cP_ c t))
 | .ret _=>rfl
 | .ask i j k=>ct_ (k (c i j))
structure Ordr (c:Nat->Nat->Bool):Prop where
 asym:∀a b,c a b=true->c b a=false
 tr:∀a b d,c b a=false->c d b=false->c d a=false
section
variable {c:Nat->Nat->Bool}
noncomputable abbrev at0 (p:Array Nat) (i:Nat):Nat:=p.getD i 0
noncomputable def Up (c:Nat->Nat->Bool) (p:Array Nat) (m:Nat):Prop:=∀i j,i<j->j<m->c (at0 p j) (at0 p i)=false
noncomputable def Dn (c:Nat->Nat->Bool) (p:Array Nat) (m:Nat):Prop:=∀i j,i<j->j<m->c (at0 p i) (at0 p j)=false
theorem Up.more (O:Ordr c) {p:Array Nat}{m:Nat} (h:Up c p m) (hm:0<m) (e:c (at0 p m) (at0 p (m-1))=false):Up c p (m+1):=by
 intro i j hij hj;by_cases hjm:j<m
 .exact h i j hij hjm
 .obtain rfl:j=m:=by lia
  by_cases hi:i=j-1
  .subst hi;exact e
  .exact O.tr _ _ _ (h i (j-1) (by lia) (by lia)) e
theorem Dn.more (O:Ordr c) {p:Array Nat}{m:Nat} (h:Dn c p m) (hm:0<m) (e:c (at0 p (m-1)) (at0 p m)=false):Dn c p (m+1):=by
 intro i j hij hj;by_cases hjm:j<m
 .exact h i j hij hjm
 .obtain rfl:j=m:=by lia
  by_cases hi:i=j-1
  .subst hi;exact e
  .exact O.tr _ _ _ e (h i (j-1) (by lia) (by lia))
theorem gE_ (O:Ordr c) {p:Array Nat}:∀(f m:Nat),0<m->Up c p m->m<=cP_ c (kas_asc p f m)/\cP_ c (kas_asc p f m)<=m+f/\Up c p (cP_ c (kas_asc p f m))/\(cP_ c (kas_asc p f m)<m+f->c (at0 p (cP_ c (kas_asc p f m))) (at0 p (cP_ c (kas_asc p f m)-1))=true)
 |0,m,hm,h=>⟨A8 _,A8 _,h,fun z=>absurd z (Bw _)⟩
 |f+1,m,hm,h=>by
  unfold kas_asc cP_;cases e:c (p.getD m 0) (p.getD (m-1) 0) with
  |true=>
   dsimp only;rw [A6 rfl];exact⟨A8 _,by show m<=_;lia,h,fun _=>e⟩
  |false=>
   dsimp only;rw [A5 (by decide)];obtain⟨h1,h2,h3,h4⟩:=gE_ O f (m+1) (by lia) (h.more O hm e);exact⟨by lia,by lia,h3,fun z=>h4 (by lia)⟩
theorem df_ {p:Array Nat}{i j:Nat} (hj:j<=p.size) (k:Nat):at0 (kas_rev p i j) k=if i<=k/\k<j then at0 p (i+j-1-k) else at0 p k:=by
 have h:=getElem?_mirror_all (xs:=p) (i:=i) hj k;have e:∀q:Array Nat,∀k,at0 q k=(q[k]?).getD 0:=fun q k=>by simp [at0,Array.getD];split<;>simp [*]
 rw [e,e,e];unfold kas_rev;rw [h];split<;>rfl
theorem cF_ (p:Array Nat) (i j:Nat):(kas_rev p i j).size=p.size:=mirror_size _ _ _ _
theorem Dn.rev_all {p:Array Nat}{m:Nat} (h:Dn c p m) (hm:m<=p.size):Up c (kas_rev p 0 m) m:=by
 intro i j hij hj;rw [df_ hm,df_ hm,A6 ⟨by lia,hj⟩,A6 ⟨by lia,by lia⟩];exact h _ _ (by lia) (by lia)
theorem Up.rev_all {p:Array Nat}{m:Nat} (h:Up c p m) (hm:m<=p.size):Dn c (kas_rev p 0 m) m:=by
 intro i j hij hj;rw [df_ hm,df_ hm,A6 ⟨by lia,by lia⟩,A6 ⟨by lia,hj⟩];exact h _ _ (by lia) (by lia)
theorem Dn.rev_blk {p:Array Nat}{m q:Nat} (h:Dn c p m) (hm:m<=p.size) (hq:q+1<=m) (hb:∀i j,m-(q+1)<=i->i<m->m-(q+1)<=j->j<m->c (at0 p i) (at0 p j)=false):Dn c (kas_rev p (m-(q+1)) m) m:=by
 intro i j hij hj;rw [df_ hm,df_ hm];by_cases h1:m-(q+1)<=i
 .rw [A6 ⟨h1,by lia⟩,A6 ⟨by lia,hj⟩];exact hb _ _ (by lia) (by lia) (by lia) (by lia)
 .rw [A5 (by lia)];by_cases h2:m-(q+1)<=j
  .rw [A6 ⟨h2,hj⟩];exact h _ _ (by lia) (by lia)
  .rw [A5 (by lia)];exact h _ _ hij hj
noncomputable def Blk (c:Nat->Nat->Bool) (p:Array Nat) (m q:Nat):Prop:=q+1<=m/\∀i j,m-(q+1)<=i->i<m->m-(q+1)<=j->j<m->c (at0 p i) (at0 p j)=false
theorem dS_ (O:Ordr c):∀(f:Nat) (p:Array Nat) (m q:Nat),m+f<=p.size->0<m->Dn c p m->Blk c p m q->∀r,r=cP_ c (kas_desc f p m q)->r.1.size=p.size/\m<=r.2.1/\r.2.1<=m+f/\Dn c r.1 r.2.1/\Blk c r.1 r.2.1 r.2.2
 |0,p,m,q,_,_,hd,hb,r,e=>by
  subst e;exact⟨rfl,A8 _,A8 _,hd,hb⟩
 |f+1,p,m,q,hs,hm,hd,hb,r,e=>by
  unfold kas_desc cP_ at e;cases e1:c (p.getD m 0) (p.getD (m-1) 0) with
  |true=>
   rw [e1] at e;dsimp only at e;rw [A6 rfl] at e;have e2:=O.asym _ _ e1;by_cases hq:q>0
   .rw [A6 hq] at e;have hd2:=hd.rev_blk (by lia) hb.1 hb.2;have at_m:at0 (kas_rev p (m-(q+1)) m) m=at0 p m:=by rw [df_ (by lia),A5 (by lia)]
    have at_m1:at0 (kas_rev p (m-(q+1)) m) (m-1)=at0 p (m-(q+1)+m-1-(m-1)):=by rw [df_ (by lia),A6 ⟨by have:=hb.1;lia,by lia⟩]
    have e3:c (at0 (kas_rev p (m-(q+1)) m) (m-1)) (at0 (kas_rev p (m-(q+1)) m) m)=false:=by
     rw [at_m,at_m1];have b1:=hb.1;exact O.tr _ _ _ e2 (hb.2 _ (m-1) (by lia) (by lia) (by lia) (by lia))
    have hd3:=hd2.more O hm e3;have hb3:Blk c (kas_rev p (m-(q+1)) m) (m+1) 0:=⟨by lia,fun i j h1 h2 h3 h4=>by
     obtain rfl:i=m:=by lia
     obtain rfl:j=i:=by lia
     cases h:c (at0 (kas_rev p (j-(q+1)) j) j) (at0 (kas_rev p (j-(q+1)) j) j) with
     |false=>rfl
     |true=>have:=O.asym _ _ h;rw [h] at this;cases this⟩
    obtain⟨r1,r2,r3,r4,r5⟩:=dS_ O f _ (m+1) 0 (by rw [cF_];lia) (by lia) hd3 hb3 r e;exact⟨by rw [r1,cF_],by lia,by lia,r4,r5⟩
   .rw [A5 hq] at e;have hd3:=hd.more O hm e2;have hb3:Blk c p (m+1) 0:=⟨by lia,fun i j h1 h2 h3 h4=>by
     obtain rfl:i=m:=by lia
     obtain rfl:j=i:=by lia
     cases h:c (at0 p j) (at0 p j) with
     |false=>rfl
     |true=>have:=O.asym _ _ h;rw [h] at this;cases this⟩
    obtain⟨r1,r2,r3,r4,r5⟩:=dS_ O f _ (m+1) 0 (by lia) (by lia) hd3 hb3 r e;exact⟨r1,by lia,by lia,r4,r5⟩
  |false=>
   rw [e1] at e;dsimp only at e;rw [A5 (by decide)] at e;unfold cP_ at e;cases e2:c (p.getD (m-1) 0) (p.getD m 0) with
   |true=>
    rw [e2] at e;dsimp only at e;rw [A6 rfl] at e;subst e;exact⟨rfl,A8 _,by show m<=_;lia,hd,hb⟩
   |false=>
    rw [e2] at e;dsimp only at e;rw [A5 (by decide)] at e;have hd3:=hd.more O hm e2;have b1:=hb.1;have hb3:Blk c p (m+1) (q+1):=⟨by lia,fun i j h1 h2 h3 h4=>by
     by_cases hi:i=m
     .by_cases hj:j=m
      .subst hi;subst hj;cases h:c (at0 p j) (at0 p j) with
       |false=>rfl
       |true=>have:=O.asym _ _ h;rw [h] at this;cases this
      .subst hi;exact O.tr _ _ _ (hb.2 _ _ (by lia) (by lia) (by lia) (by lia)) e1
     .by_cases hj:j=m
      .subst hj;exact O.tr _ _ _ e2 (hb.2 _ _ (by lia) (by lia) (by lia) (by lia))
      .exact hb.2 _ _ (by lia) (by lia) (by lia) (by lia)⟩
    obtain⟨r1,r2,r3,r4,r5⟩:=dS_ O f _ (m+1) (q+1) (by lia) (by lia) hd3 hb3 r e;exact⟨r1,by lia,by lia,r4,r5⟩
theorem hE_ (O:Ordr c) {p:Array Nat}{m n:Nat} (hn:n<=p.size) (hm:m<=n) (h0:0<m) (hd:Dn c p m):∀r,r=cP_ c (kas_tail3 m n p)->r.2.size=p.size/\0<r.1/\r.1<=n/\Up c r.2 r.1:=by
 intro r e;unfold kas_tail3 at e;rw [ct_] at e;subst e;obtain⟨h1,h2,h3,_⟩:=gE_ O (n-m) m h0 (hd.rev_all (by lia));exact⟨cF_ _ _ _,by show 0<cP_ c _;lia,by show cP_ c _<=n;lia,h3⟩
theorem hF_ (O:Ordr c) {p:Array Nat}{m n:Nat} (hn:n<=p.size) (hm:m<n) (h0:0<m) (hd:Dn c p m) (e:c (at0 p m) (at0 p (m-1))=true):∀r,r=cP_ c (kas_descPart m n p)->r.2.size=p.size/\0<r.1/\r.1<=n/\Up c r.2 r.1:=by
 intro r er;unfold kas_descPart at er;rw [ct_] at er;have hd1:=hd.more O h0 (O.asym _ _ e);have hb1:Blk c p (m+1) 0:=⟨by lia,fun i j h1 h2 h3 h4=>by
  obtain rfl:i=m:=by lia
  obtain rfl:j=i:=by lia
  cases h:c (at0 p j) (at0 p j) with
  |false=>rfl
  |true=>have:=O.asym _ _ h;rw [h] at this;cases this⟩
 obtain⟨r1,r2,r3,r4,r5⟩:=dS_ O (n-(m+1)) p (m+1) 0 (by lia) (by lia) hd1 hb1 _ rfl;generalize cP_ c (kas_desc (n-(m+1)) p (m+1) 0)=d at*
 split at er
 .obtain⟨t1,t2,t3,t4⟩:=hE_ O (p:=kas_rev d.1 (d.2.1-(d.2.2+1)) d.2.1) (m:=d.2.1) (n:=n) (by rw [cF_];lia) (by lia) (by lia) (r4.rev_blk (by lia) r5.1 r5.2) r er;exact⟨by rw [t1,cF_,r1],t2,t3,t4⟩
 .obtain⟨t1,t2,t3,t4⟩:=hE_ O (p:=d.1) (m:=d.2.1) (n:=n) (by lia) (by lia) (by lia) r4 r er;exact⟨by rw [t1,r1],t2,t3,t4⟩
theorem kL_ (O:Ordr c) {p:Array Nat}{n:Nat} (hn:n<=p.size) (h0:0<n):∀r,r=cP_ c (kas_count n p)->r.2.size=p.size/\0<r.1/\r.1<=n/\Up c r.2 r.1:=by
 intro r er;unfold kas_count at er;rw [ct_] at er;obtain⟨h1,h2,h3,h4⟩:=gE_ O (p:=p) (n-1) 1 (by decide) (fun i j a b=>absurd b (by lia));generalize cP_ c (kas_asc p (n-1) 1)=m at*
 by_cases hm:m=n
 .subst hm;rw [A6 (by simp)] at er;subst er;exact⟨rfl,h0,A8 _,h3⟩
 .rw [A5 (by simp [hm])] at er;have st:=h4 (by lia);by_cases h5:m>1
  .rw [A6 h5] at er;unfold cP_ at er;cases e1:c (p.getD 0 0) (p.getD (m-1) 0) with
   |true=>
    rw [e1] at er;dsimp only at er;rw [A6 rfl] at er;subst er;exact⟨rfl,by show 0<m;lia,by show m<=n;lia,h3⟩
   |false=>
    rw [e1] at er;dsimp only at er;rw [A5 (by decide)] at er;have hd:=h3.rev_all (by lia:m<=p.size);obtain⟨t1,t2,t3,t4⟩:=hF_ O (p:=kas_rev p 0 m) (m:=m) (n:=n) (by rw [cF_];exact hn) (by lia) (by lia) hd (by
     rw [df_ (by lia),df_ (by lia),A5 (by lia),A6 ⟨by lia,by lia⟩,show 0+m-1-(m-1)=0 by lia];cases h:c (at0 p m) (at0 p 0) with
     |true=>rfl
     |false=>have:=O.tr _ _ _ e1 h;rw [st] at this;cases this) r er
    exact⟨by rw [t1,cF_],t2,t3,t4⟩
  .rw [A5 h5] at er;obtain rfl:m=1:=by lia
   exact hF_ O hn (by lia) (by decide) (fun i j a b=>absurd b (by lia)) st r er
theorem ec_ (O:Ordr c) {p:Array Nat}{k:Nat} (hu:Up c p k):∀(f l r:Nat),r-l<=f->l<=r->r<=k->(∀i,i<l->c (at0 p k) (at0 p i)=false)->(∀i,r<=i->i<k->c (at0 p k) (at0 p i)=true)->
  cP_ c (kas_place p k f l r)<=k/\(∀i,i<cP_ c (kas_place p k f l r)->c (at0 p k) (at0 p i)=false)/\(∀i,cP_ c (kas_place p k f l r)<=i->i<k->c (at0 p k) (at0 p i)=true)
 |0,l,r,hf,hl,hr,h1,h2=>by
  obtain rfl:l=r:=by lia
  exact⟨hr,h1,h2⟩
 |f+1,l,r,hf,hl,hr,h1,h2=>by
  unfold kas_place;by_cases h:l>=r
  .rw [A6 h];obtain rfl:l=r:=by lia
   exact⟨hr,h1,h2⟩
  .rw [A5 h];unfold cP_;cases e:c (p.getD k 0) (p.getD ((l+r)/2) 0) with
   |true=>
    dsimp only;rw [A6 rfl];refine ec_ O hu f l ((l+r)/2) (by lia) (by lia) (by lia) h1 fun i a b=> ?_;by_cases hi:i=(l+r)/2
    .subst hi;exact e
    .cases q:c (at0 p k) (at0 p i) with
     |true=>rfl
     |false=>have:=O.tr _ _ _ (hu ((l+r)/2) i (by lia) b) q;rw [e] at this;cases this
   |false=>
    dsimp only;rw [A5 (by decide)];refine ec_ O hu f ((l+r)/2+1) r (by lia) (by lia) hr (fun i a=> ?_) h2;by_cases hi:i=(l+r)/2
    .subst hi;exact e
    .exact O.tr _ _ _ (hu i ((l+r)/2) (by lia) (by lia)) e
theorem ps_ {p:Array Nat}{k d:Nat} (hk:k<p.size) (hd:d<=k) (i:Nat):at0 (bubble p k d) i=if i=k-d then at0 p k else if k-d<i/\i<=k then at0 p (i-1) else at0 p i:=by
 have h:=getElem?_bubble hk d hd i;have e:∀q:Array Nat,∀k,at0 q k=(q[k]?).getD 0:=fun q k=>by simp [at0,Array.getD];split<;>simp [*]
 rw [e,e,e,e,h];split
 .rfl
 .split<;>rfl
theorem jW_ (O:Ordr c):∀(f:Nat) (p:Array Nat) (k:Nat),0<k->k+f<=p.size->Up c p k->Up c (cP_ c (kas_bin f p k)) (k+f)
 |0,p,k,_,_,h=>h
 |f+1,p,k,h0,hs,hu=>by
  unfold kas_bin;rw [ct_];obtain⟨a1,a2,a3⟩:=ec_ O hu k 0 k (by lia) (by lia) (A8 _) (fun i z=>absurd z (by lia)) (fun i z1 z2=>absurd z2 (by lia));generalize cP_ c (kas_place p k k 0 k)=l at*
  have hu2:Up c (bubble p k (k-l)) (k+1):=by
   intro i j hij hj;rw [ps_ (by lia) (by lia),ps_ (by lia) (by lia),show k-(k-l)=l by lia];by_cases j1:j=l
   .rw [A6 j1,A5 (by lia),A5 (by lia)];exact a2 i (by lia)
   .rw [A5 j1];by_cases j2:l<j/\j<=k
    .rw [A6 j2];by_cases i1:i=l
     .rw [A6 i1];exact O.asym _ _ (a3 (j-1) (by lia) (by lia))
     .rw [A5 i1];by_cases i2:l<i/\i<=k
      .rw [A6 i2];exact hu _ _ (by lia) (by lia)
      .rw [A5 i2];exact hu _ _ (by lia) (by lia)
    .rw [A5 j2,A5 (by lia),A5 (by lia)];exact hu _ _ hij (by lia)
  have:=jW_ O f (bubble p k (k-l)) (k+1) (by lia) (by rw [bubble_size];lia) hu2;rw [show k+(f+1)=k+1+f by lia];exact this
theorem mw_ (O:Ordr c) {n:Nat} (h0:0<n):Up c (cP_ c (kas_sort n)) n:=by
 unfold kas_sort;rw [ct_];obtain⟨r1,r2,r3,r4⟩:=kL_ O (p:=List.toArray (List.range n)) (n:=n) (by simp) h0 _ rfl;generalize cP_ c (kas_count n (List.toArray (List.range n)))=r at*
 have sz:r.2.size=n:=by rw [r1];simp
 by_cases h:r.1<n
 .rw [A6 h];have em:max r.1 1=r.1:=by lia
  rw [em];have:=jW_ O (n-r.1) r.2 r.1 r2 (by lia) r4;rw [show r.1+(n-r.1)=n by lia] at this;exact this
 .rw [A5 h];have:r.1=n:=by lia
  rw [this] at r4;exact r4
end
end L2
namespace L2
open PySem PySem.Spec PyProof.Rows PySem.W
theorem bi_.wpc {n:Nat}{c:Nat->Nat->Bool}{α:Type}{R:α->Prop}{cmp:Nat->Nat->(Bool->Shared->Prop)->Shared->Prop}{Q:α->Shared->Prop}{s:Shared} (hc:∀i j,i<n->j<n->∀C:Bool->Shared->Prop,C (c i j) s->cmp i j C s):∀{t:KasT α},(R (cP_ c t)->Q (cP_ c t) s)->bi_ n R t->t.kasWp cmp Q s
 | .ret a,hq,h=>hq h
 | .ask i j k,hq,h=>hc i j h.1 h.2.1 _ (bi_.wpc hc (t:=k (c i j)) hq (h.2.2 (c i j)))
theorem mt_:∀{xs ys zs:List Int},xs.length=ys.length->ys.length=zs.length->kK_ false ys xs=false->kK_ false zs ys=false->kK_ false zs xs=false
 |[],[],[],_,_,_,_=>rfl
 |x::xs,y::ys,z::zs,h1,h2,a,b=>by
  unfold kK_ at a b⊢;by_cases e1:y=x
  .rw [A6 e1] at a;by_cases e2:z=y
   .rw [A6 e2] at b;rw [A6 (e2.trans e1)];exact mt_ (by simpa using h1) (by simpa using h2) a b
   .rw [A5 e2] at b;have:=of_decide_eq_false b;rw [A5 (by lia)];exact Ao (by lia)
  .rw [A5 e1] at a;have a:=of_decide_eq_false a;by_cases e2:z=y
   .rw [A5 (by lia)];exact Ao (by lia)
   .rw [A5 e2] at b;have:=of_decide_eq_false b;rw [A5 (by lia)];exact Ao (by lia)
theorem hD_:∀{xs ys:List Int},xs.length=ys.length->kK_ false xs ys=true->kK_ false ys xs=false
 |[],[],_,h=>nomatch h
 |x::xs,y::ys,hl,h=>by
  unfold kK_ at h⊢;by_cases e:x=y
  .rw [A6 e] at h;rw [A6 e.symm];exact hD_ (by simpa using hl) h
  .rw [A5 e] at h;have:=Ax h;rw [A5 (by lia)];exact Ao (by lia)
theorem jQ_ {xs ys:List Int} (h:xs.length=ys.length):ltI xs ys=kK_ false xs ys:=by
 unfold ltI;rw [Ao (by lia)]
noncomputable def rs_ (xss:List (List Int)) (i:Nat):List Int:=xss.getD i (xss.headD [])
noncomputable def ro_ (xss:List (List Int)) (i j:Nat):Bool:=ltI (rs_ xss i) (rs_ xss j)
theorem mz_ {xss:List (List Int)}{i:Nat} (h:i<xss.length):rs_ xss i=xss.getD i []:=by
 unfold rs_;rw [AG,AG,A1 h];rfl
theorem lY_ {xss:List (List Int)}{i j:Nat} (hi:i<xss.length) (hj:j<xss.length):ro_ xss i j=ltI (xss.getD i []) (xss.getD j []):=by
 unfold ro_;rw [mz_ hi,mz_ hj]
theorem op_ {xss:List (List Int)}{m:Nat} (h0:0<xss.length) (h:∀xs∈xss,xs.length=m) (i:Nat):(rs_ xss i).length=m:=by
 unfold rs_;rw [AG];cases e:xss[i]? with
 |some x=>exact h x (Aq e)
 |none=>
  cases xss with
  |nil=>cases h0
  |cons x xs=>exact h x (by simp)
theorem qn_ {xss:List (List Int)}{m:Nat} (h0:0<xss.length) (h:∀xs∈xss,xs.length=m):Ordr (ro_ xss):=by
 have k:=op_ h0 h;refine⟨fun a b e=> ?_,fun a b d e1 e2=> ?_⟩
 .unfold ro_ at e⊢;rw [jQ_ (by rw [k,k])] at e⊢;exact hD_ (by rw [k,k]) e
 .unfold ro_ at e1 e2⊢;rw [jQ_ (by rw [k,k])] at e1 e2⊢;exact mt_ (by rw [k,k]) (by rw [k,k]) e1 e2
section
variable {prog:Program}{w:World}{A:Around}{E:Value->Shared->Prop}{s:Shared}
theorem ln_ {c:Nat->Nat->Bool}{kd:SortKind}{a:Addr}{vs:List Value}{n:Nat}{P:PySem.Fin->Shared->Prop} (ho:s.heap.get? a=some (seqObj "list" vs.toArray n)) (h2:2<=vs.length) (h64:vs.length<64)
  (hkd:∀(R:SortKind->Shared->Prop),R kd {s with heap:=aN_ s.heap a vs}->wpAny (model prog w) A (keyKind' vs.toArray) R E {s with heap:=aN_ s.heap a vs})
  (hc:∀i j,i<vs.length->j<vs.length->∀C:Bool->Shared->Prop,C (c i j) {s with heap:=aN_ s.heap a vs}->wpAny (model prog w) A (keyLt' kd (vs.getD i .none) (vs.getD j .none)) C (fun _ _=>False) {s with heap:=aN_ s.heap a vs})
  (h:∀p,Ord vs.length p->p=cP_ c (kas_sort vs.length)->P (.done (.ret .none)) {s with heap:=sortedHeap s.heap a vs (p.map fun i=>vs.getD i .none)}):wpAny (model prog w) A (Builtin.«list.sort» ⟨[.ref a],[]⟩) P E s:=by
 rw [list_sort_plain];have ha:a<s.heap.objs.size:=AN ho;refine A0 (listItems_at ho rfl ?_);refine A0 (CP ho rfl ?_ (by rw [AD,At];lia) (AS _));obtain⟨e1,ho1⟩:∃e1,(s.heap.update a (Obj.mapSeq fun _=>(#[]:Array Value))).get? a=some (seqObj "list" #[] e1):=⟨_,CN ho (fun _=> #[])⟩;refine A0 (seqEpoch_at ho1 rfl ?_);refine A0 (wpAny_newTuple ?_ (by show vs.length<=_;rw [At];lia));refine A0 (Cu ?_ (AS _));refine Aw ?_;have ho6:(aN_ s.heap a vs).get? a=some (seqObj "list" #[] e1):=by
  rw [B2 _ _ _ (by rw [Bk,B1];exact AO (Ag ha)),B2 _ _ _ (by rw [B1];exact AO ha)];exact ho1
 show wpAny (model prog w) A _ P E {s with heap:=aN_ s.heap a vs};dsimp only;have hn2:¬vs.toArray.size<2:=by rw [AD];lia
 rw [A5 hn2,A5 hn2];refine A0 (hkd _ ?_);have est:kas_st kd (pairsOf vs) (List.toArray (List.range vs.length))=SortSt.mk' kd (vs.toArray.zip vs.toArray) #[] 7 none:=by
  have e:=kas_range (pairsOf vs);rw [pairsOf_size] at e;show SortSt.mk' kd ((List.toArray (List.range vs.length)).map (kas_item (pairsOf vs))) #[] 7 none=SortSt.mk' kd (pairsOf vs) #[] 7 none;rw [e]
 have ask:(kas_sort vs.length).kasWp (kas_cmp prog w A kd (pairsOf vs)) (fun p s'=>s'={s with heap:=aN_ s.heap a vs}/\Ord vs.length p/\p=cP_ c (kas_sort vs.length)) {s with heap:=aN_ s.heap a vs}:=by
  refine bi_.wpc (c:=c) (fun i j hi hj C hC=> ?_) (fun hp=>⟨rfl,hp,rfl⟩) (qE_ (by lia));rw [<-kas_ask_eq];exact hc i j hi hj C hC
 have run:=kas_runs (E:=E) (Q:=fun _ st' s'=>∃p,s'={s with heap:=aN_ s.heap a vs}/\(Ord vs.length p/\p=cP_ c (kas_sort vs.length))/\arrOf st'=p.map (kas_item (pairsOf vs))/\failedOf st'=none) h2 h64 (fun p' st' s' _ a2 a3 a4=>⟨p',a4.1,a4.2,a2,a3⟩) ask;rw [est] at run;refine A0 (BC run ?_ fun _ _ e=>e);rintro⟨⟨⟩,st'⟩ s' ⟨p,rfl,⟨hp,hpc⟩,har,hf⟩;dsimp only at har hf⊢;have eo:(arrOf st').map (·.2)=p.map fun i=>vs.getD i .none:=by
  rw [har,Array.map_map];refine Array.map_congr_left fun i _=> ?_;show(kas_item (pairsOf vs) i).2=_;rw [kas_item_eq]
 rw [eo];refine A0 (seqEpoch_at ho6 rfl ?_);refine A0 (CP ho6 rfl ?_ (AS _) (by rw [CD,At,hp.size];lia));rw [hf];simp only [CW,AE,Ak];exact A3 (h p hp hpc)
end
section
variable {X:Cx}{pins:List (Addr×Obj)}{σ:St}{H:Hp}{s:Shared}
end
end L2
namespace L2
open PySem PySem.Spec PyProof.Rows
section
variable {X:Cx}{K:W.Frag}
end
end L2
namespace HT
open PySem PySem.Spec PyProof.Rows
section
variable {prog:Program}{w:World}{A:Around}{E:Value->Shared->Prop}{s:Shared}
theorem getItem_tuple_all {t sl:Addr}{items:Array Value}{vl vu:Value}{lo hi:Option Int}{Q:Value->Shared->Prop} (ht:IsTup s.heap t items) (hs:s.heap.IsSliceOf sl vl vu .none) (pl:IsPart vl lo) (pu:IsPart vu hi)
  (hw:sIx items.size 0 lo=0/\sIx items.size items.size hi=items.size) (h:Q (.ref t) s):wpAny (model prog w) A (getItem (.ref t) (.ref sl)) Q E s:=by
 obtain⟨os,hos,hcs,hds⟩:=id hs;have hTs:s.TypeIs (.ref sl) "slice":=⟨os,hos,hcs⟩;unfold getItem;try with_reducible refine Aw ?_
 first|refine A0 (A3 ?_)|skip
 refine A0 (wpAny_sequenceKey ht.typeIs (by decide) ?_);refine A0 (BH (name:=Str.ofString "__getitem__") ht.typeIs BD
  (Ar BD ht.typeIs entry_tuple_getitem ?_ (args_tuple_getitem _ _)))
 show wpAny _ _ (Builtin.Tuple.tupleItemsOf (.ref t)>>=_) _ _ s;refine A0 (tupleItemsOf_ ht ?_);refine A0 (D6 hTs ?_);rw [A6 (by decide)];refine A0 (cL_ hs pl pu ?_);have hyes:(((sIx items.size 0 lo:Nat):Int)==0&&(1:Int)==1&&(sIx items.size items.size hi-sIx items.size 0 lo)==items.size)=true:=by
  rw [hw.1,hw.2];simp
 show wpAny _ _ (if(((sIx items.size 0 lo:Nat):Int)==0&&(1:Int)==1&&(sIx items.size items.size hi-sIx items.size 0 lo)==items.size)=true then _ else _) _ _ s;rw [A6 hyes];unfold Builtin.Tuple.tupleIsExact;refine A0 (A0 (D6 ht.typeIs (A3 ?_)));rw [A6 (by decide)];refine A0 (CM ?_);exact A3 ⟨_,rfl,A3 h⟩
end
end HT
namespace L2
open PySem PySem.Spec PyProof.Rows
section
variable {X:Cx}
noncomputable def vs_ (K:W.Frag):V->Option Int->Option Int->Hp->VK->Prop:=fun x lo hi H Q=>∃a xs,x= .ref a/\SqT K H a xs/\
 ((HT.sIx xs.length 0 lo=0/\HT.sIx xs.length xs.length hi=xs.length)->Q (.ref a) H)/\(¬(HT.sIx xs.length 0 lo=0/\HT.sIx xs.length xs.length hi=xs.length)->∀p,H p=none->Q (.ref p) (upd H p (.tup (fP_ xs lo hi))))
theorem p2_:SlR X (vs_ X.K):=by
 intro pins s σ H x v vl vu lo hi sl Q I rx hs pl pu h;obtain⟨a,xs,rfl,hx,q1,q2⟩:=h;by_cases hw:HT.sIx xs.length 0 lo=0/\HT.sIx xs.length xs.length hi=xs.length
 .cases rx;obtain⟨its,r,ht,hz⟩:=I.tuple hx;have hlen:its.toArray.size=xs.length:=by rw [AD];exact r.length.symm
  refine⟨"tuple",_,BD.lookup,ht.typeIs, ?_⟩;exact HT.getItem_tuple_all ht hs pl pu (by rw [hlen];exact hw) ⟨.ref a,H,I,rfl,q1 hw⟩
 .exact rW_ pins s σ H _ v vl vu lo hi sl Q I rx hs pl pu ⟨a,xs,rfl,hx,hw,q2 hw⟩
end
end L2
namespace L2
open PySem PySem.Spec PyProof.Rows PySem.W
section
variable {c:Nat->Nat->Bool}
end
section
variable {X:Cx}{pins:List (Addr×Obj)}{σ:St}{H:Hp}{s:Shared}
noncomputable def bvs (bs:List Bool):Array Value:=(bs.map Value.bool).toArray
noncomputable def EqT (K:W.Frag) (H:Hp) (n:Nat) (x y:V) (e:Bool):Prop:=∀(X:Cx) (pins:List (Addr×Obj)) (σ:St) (s:Shared),X.K=K->Inv X pins σ H s->∀(A:Around) (u v:Value),A.units+n<cLine->aV_ x u->aV_ y v->SeqAt.EqAt A s u v e
theorem EqR.told {K:W.Frag}{n:Nat}{x y:V}{e:Bool} (h:EqR K H n x y e):EqT K H n x y e:=fun X pins σ s hk I A u v hu ru rv=>by
 subst hk;exact(h.at_ I (A:=A) hu ru rv).2.2
noncomputable def re_ (K:W.Frag) (H:Hp) (n:Nat) (xs:List V) (x:V) (es:Nat->Bool):Prop:=n<=8/\(∀(j:Nat) z,xs[j]? =some z->(∃a,z= .ref a)/\EqT K H n z x (es j))/\∀(i j:Nat) z,xs[i]? =some z->xs[j]? =some z->es i=es j
open Classical in
theorem hU_ {n:Nat}{xs:List V}{x:V}{es:Nat->Bool}{its:List Value} (t:re_ X.K H n xs x es) (r:aR_ xs its) {j:Nat}{u:Value} (hu:its[j]? =some u):hV_ its es u=es j:=by
 have same:∀i:Nat,its[i]? =some u->es i=es j:=fun i hi=>by
  have li:=(AH.mp hi).1;have lj:=(AH.mp hu).1;have ln:=r.length;have xi:xs[i]? =some xs[i]:=A1 (by lia);have xj:xs[j]? =some xs[j]:=A1 (by lia);obtain⟨u1,e1,r1⟩:=r.get xi;obtain⟨u2,e2,r2⟩:=r.get xj;rw [hi] at e1;rw [hu] at e2;cases e1;cases e2;obtain⟨⟨a,ea⟩,_⟩:=t.2.1 i _ xi;obtain⟨⟨b,eb⟩,_⟩:=t.2.1 j _ xj;rw [ea] at r1 xi;rw [eb] at r2 xj;obtain rfl:u=Value.ref a:=r1;have:Value.ref a=Value.ref b:=r2;cases this;exact t.2.2 i j _ xi xj
 unfold hV_;cases h:es j with
 |true=>exact B5 ⟨j,hu,h⟩
 |false=>exact Ao fun⟨i,hi,e⟩=>by rw [same i hi,h] at e;cases e
noncomputable def p7_ (K:W.Frag):V->List V->Hp->VK->Prop:=fun o vs H Q=>∃(p:Addr) (xs:List V) (x:V) (n:Nat) (es:Nat->Bool),o= .ref p/\vs=[x]/\SqL K H p xs/\re_ K H n xs x es/\Q (.int (((List.range xs.length).countP es:Nat):Int)) H
theorem me_ {k:Nat} (hr:Room k X.A):MtM X "list.count" (p7_ X.K):=by
 intro pins s σ H o vs v us Q I ro rv h;obtain⟨p,xs,x,n,es,rfl,rfl,hq,t,q⟩:=h;cases ro;obtain⟨u,rfl,ru⟩:=aR_.one rv;have hu:=hr.un;have t8:=t.1;obtain⟨its,r,pl,hz⟩:=I.list hq;have ln:=r.length;obtain⟨⟨cls,dd,data,sl⟩,ho,hc,m,hd⟩:=pl.isList;simp only at hc hd;subst hc hd;have ec:its.toArray.toList.countP (hV_ its es)=(List.range xs.length).countP es:=by
  have e1:its=(List.range its.length).map fun i=>its.getD i .none:=by
   refine List.ext_getElem (by simp) fun i h1 h2=> ?_;simp [h1]
  have e2:its.countP (hV_ its es)=((List.range its.length).map fun i=>its.getD i .none).countP (hV_ its es):=by rw [<-e1]
  show its.countP (hV_ its es)=_;rw [e2,List.countP_map,ln];refine List.countP_congr fun i hi=> ?_;have hi':i<its.length:=by simpa using hi
  have:hV_ its es (its.getD i .none)=es i:=hU_ t r (by rw [AG,A1 hi'];rfl);simp only [Function.comp_apply,this]
 refine D8 F.slot_list_count ⟨_,ho,rfl⟩ F.entry_list_count (F.args_list_count_2 _ _) (SeqAt.list_countAt p its.toArray m dd sl u (hV_ its es)) ⟨ho,fun y hy=> ?_, ?_⟩
 .obtain⟨j,hj,e⟩:=Bd.mp (by simpa using hy);have ej:its[j]? =some y:=by rw [A1 hj,e]
  have xj:xs[j]? =some xs[j]:=A1 (by lia);obtain⟨u2,e2,r2⟩:=r.get xj;rw [ej] at e2;cases e2;rw [hU_ t r ej];exact(t.2.1 j _ xj).2 X pins σ s rfl I _ _ _ (by rw [aI_];lia) r2 ru
 rw [ec];exact⟨.int _,H,I.tok _,⟨_,rfl⟩,q⟩
end
end L2
namespace L2
open PySem PySem.SetTable
noncomputable def b7_ (m:Nat) (p:Probe):Probe:=advance {mask:=m,place:= #[],dummies:= #[],finger:=0,led:=true,moves:=0,plain:=true} p
noncomputable def pAt (m:Nat) (h:Int):Nat->Probe
 |0=>probeStart {mask:=m,place:= #[],dummies:= #[],finger:=0,led:=true,moves:=0,plain:=true} h
 |n+1=>b7_ m (pAt m h n)
noncomputable def sl (m:Nat) (h:Int) (n:Nat):Nat:=(pAt m h n).j
theorem sZ_ (t:SetTable) (p:Probe):advance t p=b7_ t.mask p:=rfl
theorem eP_ {m:Nat}{p:Probe} (h:p.dummy=none):(b7_ m p).dummy=none:=by
 unfold b7_ advance;split<;>exact h
theorem eQ_ (m:Nat) (h:Int):∀n,(pAt m h n).dummy=none
 |0=>rfl
 |n+1=>eP_ (eQ_ m h n)
noncomputable def Ris (xs:Array Nat):Prop:=∀i j,i<j->j<xs.size->xs.getD i 0<xs.getD j 0
theorem kd_ {xs:Array Nat}{i:Nat} (h:i<xs.size) (a b:Nat):xs.getD i a=xs.getD i b:=by simp [Array.getD,h]
theorem gX_ {xs:Array Nat}{j:Nat} (r:Ris xs):∀(f lo hi:Nat),hi-lo<=f->lo<=hi->hi<=xs.size->(∀i,i<lo->xs.getD i 0<j)->(∀i,hi<=i->i<xs.size->j<=xs.getD i 0)->
  lo<=below.go xs j f lo hi/\below.go xs j f lo hi<=hi/\(∀i,i<below.go xs j f lo hi->xs.getD i 0<j)/\(∀i,below.go xs j f lo hi<=i->i<xs.size->j<=xs.getD i 0)
 |0,lo,hi,hf,hl,hh,h1,h2=>by
  unfold below.go;have:lo=hi:=by lia
  subst this;exact⟨A8 _,A8 _,h1,h2⟩
 |f+1,lo,hi,hf,hl,hh,h1,h2=>by
  unfold below.go;by_cases c:lo<hi
  .rw [A6 c];dsimp only;have hm:(lo+hi)/2<xs.size:=by lia
   by_cases c2:xs.getD ((lo+hi)/2) j<j
   .rw [A6 c2];rw [kd_ hm j 0] at c2;obtain⟨a,b,c,d⟩:=gX_ r f ((lo+hi)/2+1) hi (by lia) (by lia) hh (fun i hi'=>by
     by_cases e:i=(lo+hi)/2
     .rw [e];exact c2
     .exact Nat.lt_trans (r i _ (by lia) hm) c2) h2
    exact⟨by lia,b,c,d⟩
   .rw [A5 c2];rw [kd_ hm j 0] at c2;obtain⟨a,b,c,d⟩:=gX_ r f lo ((lo+hi)/2) (by lia) (by lia) (by lia) h1 (fun i h3 h4=>by
     by_cases e:i=(lo+hi)/2
     .rw [e];lia
     .have:=r ((lo+hi)/2) i (by lia) h4;lia)
    exact⟨a,by lia,c,d⟩
  .rw [A5 c];have:lo=hi:=by lia
   subst this;exact⟨A8 _,A8 _,h1,h2⟩
theorem d1_ {xs:Array Nat} (r:Ris xs) (j:Nat):below xs j<=xs.size/\(∀i,i<below xs j->xs.getD i 0<j)/\(∀i,below xs j<=i->i<xs.size->j<=xs.getD i 0):=by
 obtain⟨_,b,c,d⟩:=gX_ (j:=j) r xs.size 0 xs.size (by lia) (AS _) (A8 _) (fun i h=>absurd h (by lia)) (fun i h1 h2=>by lia);exact⟨b,c,d⟩
noncomputable def In (xs:Array Nat) (j:Nat):Prop:=∃i,i<xs.size/\xs.getD i 0=j
theorem kp_ {xs:Array Nat} (r:Ris xs) {i:Nat} (hi:i<xs.size):below xs (xs.getD i 0)=i:=by
 obtain⟨a,b,c⟩:=d1_ r (xs.getD i 0);by_cases h:below xs (xs.getD i 0)<i
 .have:=c _ (A8 _) (by lia);have:=r _ _ h hi;lia
 .by_cases h2:i<below xs (xs.getD i 0)
  .have:=b i h2;lia
  .lia
theorem g9_ {t:SetTable} (r:Ris t.place) {i:Nat} (hi:i<t.place.size):t.slot (t.place.getD i 0)= .live i:=by
 unfold slot;dsimp only;rw [kp_ r hi,A6];simp [Array.getD,hi]
theorem mL_ (j:Nat):has #[] j=false:=by unfold has;simp
theorem kC_ {t:SetTable} (r:Ris t.place) (hd:t.dummies= #[]) {j:Nat} (h:¬In t.place j):t.slot j= .empty:=by
 unfold slot;dsimp only;have e:(t.place[below t.place j]? ==some j)=false:=by
  cases q:t.place[below t.place j]? with
  |none=>rfl
  |some x=>
   obtain⟨hl,e⟩:=Bo.mp q;have:x≠j:=fun z=>h ⟨_,hl,by simp [Array.getD,hl,e,z]⟩;simpa using this
 rw [e,hd,mL_];rfl
theorem pk_ (xs:Array Nat) (j:Nat):In xs j\/¬In xs j:=Classical.em _
theorem probe_go {t : SetTable} (r : Ris t.place) (hd : t.dummies = #[]) (hashAt : Nat -> Int) (h : Int) : ∀ (f n0 : Nat), (∃ n1, n0 <= n1 /\ n1 < n0 + f /\ ¬ In t.place (sl t.mask h n1)) ->
    ∃ n, n0 <= n /\ (∀ k, n0 <= k -> k < n -> ∃ i, i < t.place.size /\ t.place.getD i 0 = sl t.mask h k /\ (hashAt i == h) = false) /\
      ((¬ In t.place (sl t.mask h n) /\ probe.go t hashAt h f (pAt t.mask h n0) = some (.empty (sl t.mask h n) none)) \/
       ∃ i, i < t.place.size /\ t.place.getD i 0 = sl t.mask h n /\ (hashAt i == h) = true /\ probe.go t hashAt h f (pAt t.mask h n0) = some (.candidate (sl t.mask h n) i (pAt t.mask h (n + 1))))
  | 0, n0, ⟨n1, h1, h2, _⟩ => absurd h2 (by lia)
  | f + 1, n0, ⟨n1, h1, h2, h3⟩ => by
    unfold probe.go;rcases pk_ t.place (sl t.mask h n0) with c | c
    . obtain ⟨i, hi, e⟩ := c
      have sl' : t.slot (pAt t.mask h n0).j = .live i := by
        show t.slot (sl t.mask h n0) = _;rw [<- e]; exact g9_ r hi
      rw [sl'];dsimp only;cases q : (hashAt i == h) with
      | true =>
        refine ⟨n0, A8 _, fun k h1 h2 => absurd h2 (by lia), .inr ⟨i, hi, e, q, ?_⟩⟩;rw [A6 rfl];rfl
      | false =>
        have ne : n0 ≠ n1 := by rintro rfl; exact h3 ⟨i, hi, e⟩
        obtain ⟨n, a, b, c⟩ := probe_go r hd hashAt h f (n0 + 1) ⟨n1, by lia, by lia, h3⟩;refine ⟨n, by lia, fun k k1 k2 => ?_, ?_⟩
        . by_cases ek : k = n0
          . subst ek; exact ⟨i, hi, e, q⟩
          . exact b k (by lia) k2
        . rw [A5 (by simp), sZ_]
          exact c
    . have sl' : t.slot (pAt t.mask h n0).j = .empty := kC_ r hd c
      rw [sl'];refine ⟨n0, A8 _, fun k h1 h2 => absurd h2 (by lia), .inl ⟨c, ?_⟩⟩;dsimp only;rw [eQ_];rfl
noncomputable def pg_ (m:Nat) (q:Nat×Nat):Nat×Nat:=leap m q.1 q.2
noncomputable def fi_ (m:Nat) (q:Nat×Nat):Probe:={j:=q.1,more:=runEnd m q.1-q.1,i:=q.1,perturb:=q.2,dummy:=none}
noncomputable def bw_ (m:Nat) (q:Nat×Nat):Nat->Nat×Nat
 |0=>q
 |n+1=>pg_ m (bw_ m q n)
theorem lv_ (m i:Nat):runEnd m i-i<=9:=by unfold runEnd;split<;>lia
noncomputable def dA_ (m:Nat) (p:Probe):Nat->Probe
 |0=>p
 |n+1=>b7_ m (dA_ m p n)
theorem eW_ (m:Nat) (p:Probe) (a:Nat):∀b,dA_ m p (a+b)=dA_ m (dA_ m p a) b
 |0=>rfl
 |b+1=>by show b7_ m (dA_ m p (a+b))=_;rw [eW_ m p a b];rfl
theorem dQ_ (m:Nat) (h:Int) (a:Nat):∀b,pAt m h (a+b)=dA_ m (pAt m h a) b
 |0=>rfl
 |b+1=>by show b7_ m (pAt m h (a+b))=_;rw [dQ_ m h a b];rfl
theorem f6_ (m:Nat):∀(k:Nat) (p:Probe),p.more=k->p.dummy=none->dA_ m p (k+1)=fi_ m (pg_ m (p.i,p.perturb))
 |0,p,hm,hd=>by
  show b7_ m p=_;unfold b7_ advance;rw [A5 (by lia)];obtain⟨j,mo,i,pe,du⟩:=p;dsimp only at hm hd;subst hm hd;rfl
 |k+1,p,hm,hd=>by
  have e:dA_ m p (k+1+1)=dA_ m (b7_ m p) (k+1):=by rw [show k+1+1=1+(k+1) by lia,eW_];rfl
  have en:b7_ m p={p with j:=p.j+1,more:=p.more-1}:=by
   unfold b7_ advance;rw [A6 (by lia)]
  rw [e,f6_ m k (b7_ m p) (by rw [en];show p.more-1=k;lia) (eP_ hd),en]
theorem far (m:Nat):∀(L:Nat) (p:Probe),p.more<=9->p.dummy=none->∃n,n<=10*(L+1)/\dA_ m p n=fi_ m (bw_ m (p.i,p.perturb) (L+1))
 |0,p,h9,hd=>⟨p.more+1,by lia,f6_ m p.more p rfl hd⟩
 |L+1,p,h9,hd=>by
  obtain⟨n,hn,e⟩:=far m L p h9 hd;have:=lv_ m (bw_ m (p.i,p.perturb) (L+1)).1;refine⟨n+(runEnd m (bw_ m (p.i,p.perturb) (L+1)).1-(bw_ m (p.i,p.perturb) (L+1)).1+1),by lia, ?_⟩;rw [eW_,e];exact f6_ m _ (fi_ m (bw_ m (p.i,p.perturb) (L+1))) rfl rfl
noncomputable def Tm (m i:Nat):Nat:=(i*5+1)%(m+1)
noncomputable def Tn (m i:Nat):Nat->Nat
 |0=>i
 |n+1=>Tm m (Tn m i n)
theorem ia_ (m i a:Nat):∀b,Tn m i (a+b)=Tn m (Tn m i a) b
 |0=>rfl
 |b+1=>by show Tm m (Tn m i (a+b))=_;rw [ia_ m i a b];rfl
theorem dT_ (m:Nat) (q:Nat×Nat) (a:Nat):∀b,bw_ m q (a+b)=bw_ m (bw_ m q a) b
 |0=>rfl
 |b+1=>by show pg_ m (bw_ m q (a+b))=_;rw [dT_ m q a b];rfl
theorem ee_ (m:Nat) (q:Nat×Nat):∀n,(bw_ m q n).2=q.2/32^n
 |0=>by simp [bw_]
 |n+1=>by
  show(bw_ m q n).2/32=_;rw [ee_ m q n,Nat.div_div_eq_div_mul,Nat.pow_succ]
theorem ed_ (m:Nat) (i:Nat):∀n,bw_ m (i,0) n=(Tn m i n,0)
 |0=>rfl
 |n+1=>by
  show pg_ m (bw_ m (i,0) n)=_;rw [ed_ m i n];unfold pg_ leap;simp [Tn,Tm]
noncomputable def Msk (m:Nat):Prop:=m=7\/m=31\/m=127
noncomputable def orb (m:Nat):Nat->Nat->List Nat
 |0,_=>[]
 |n+1,i=>i::orb m n (Tm m i)
theorem o9_ (m:Nat):∀(n i e:Nat),e∈orb m n i->∃k,k<n/\Tn m i k=e
 |0,_,_,h=>by simp [orb] at h
 |n+1,i,e,h=>by
  rcases AK.mp h with h|h
  .exact⟨0,by lia,h.symm⟩
  .obtain⟨k,hk,e⟩:=o9_ m n (Tm m i) e h;exact⟨k+1,by lia,by rw [show k+1=1+k by lia,ia_];exact e⟩
theorem vz_:(List.range 8).all (fun e=>(orb 7 8 0).contains e)=true:=by ac_nf
theorem t2_:(List.range 32).all (fun e=>(orb 31 32 0).contains e)=true:=by ac_nf
theorem sd_:(List.range 128).all (fun e=>(orb 127 128 0).contains e)=true:=by ac_nf
theorem vy_:Tn 7 0 8=0:=by ac_nf
theorem tY_:Tn 31 0 32=0:=by ac_nf
theorem r8_:Tn 127 0 128=0:=by ac_nf
theorem t1_ {m:Nat} (hm:Msk m):(∀e,e<=m->∃k,k<=m/\Tn m 0 k=e)/\Tn m 0 (m+1)=0:=by
 have go:∀n,(List.range (n+1)).all (fun e=>(orb n (n+1) 0).contains e)=true->∀e,e<=n->∃k,k<=n/\Tn n 0 k=e:=fun n h e he=>by
  have:=AV.mp h e (by simp;lia);obtain⟨k,hk,e⟩:=o9_ n (n+1) 0 e (by simpa using this);exact⟨k,by lia,e⟩
 rcases hm with rfl|rfl|rfl
 .exact⟨go 7 vz_,vy_⟩
 .exact⟨go 31 t2_,tY_⟩
 .exact⟨go 127 sd_,r8_⟩
theorem pr_ {m:Nat} (hm:Msk m) {i e:Nat} (hi:i<=m) (he:e<=m):∃k,k<=m/\Tn m i k=e:=by
 obtain⟨o,p⟩:=t1_ hm;obtain⟨a,ha,rfl⟩:=o i hi;obtain⟨b,hb,rfl⟩:=o e he;by_cases c:a<=b
 .exact⟨b-a,by lia,by rw [<-ia_];congr 1;lia⟩
 .refine⟨m+1-a+b,by lia, ?_⟩;rw [<-ia_,show a+(m+1-a+b)=m+1+b by lia,ia_,p]
theorem m6_ (h:Int):bits h<2^64:=by unfold bits;lia
theorem t4_ {m:Nat} (hm:Msk m) {p:Probe} (h9:p.more<=9) (hd:p.dummy=none) (hp:p.perturb<2^64) {e:Nat} (he:e<=m):∃n,n<10*turns m/\(dA_ m p n).j=e:=by
 have z:∀L,13<=L->(bw_ m (p.i,p.perturb) L).2=0:=fun L hL=>by
  rw [ee_];apply Nat.div_eq_of_lt;have h1:(32:Nat)^13<=32^L:=Bt (by decide) hL;have h2:(2:Nat)^64<32^13:=by decide
  show p.perturb<_;lia
 have j13:(bw_ m (p.i,p.perturb) 13).1<=m:=by
  show(leap m _ _).1<=m;unfold leap;have:=Cy ((bw_ m (p.i,p.perturb) 12).1*5+1+(bw_ m (p.i,p.perturb) 12).2/32) (show 0<m+1 by lia);dsimp only;lia
 obtain⟨k,hk,ek⟩:=pr_ hm j13 he;obtain⟨n,hn,en⟩:=far m (12+k) p h9 hd;refine⟨n,by unfold turns;lia, ?_⟩;rw [en,show 12+k+1=13+k by lia,dT_];have e13:bw_ m (p.i,p.perturb) 13=((bw_ m (p.i,p.perturb) 13).1,0):=Prod.ext rfl (z 13 (A8 _));rw [e13,ed_];exact ek
theorem lV_ (m:Nat) (h:Int):∀n,(pAt m h n).more<=9/\(pAt m h n).perturb<2^64
 |0=>⟨lv_ m _,m6_ h⟩
 |n+1=>by
  obtain⟨a,b⟩:=lV_ m h n;show(b7_ m (pAt m h n)).more<=9/\(b7_ m (pAt m h n)).perturb<2^64;unfold b7_ advance;split
  .exact⟨by show(pAt m h n).more-1<=9;lia,b⟩
  .unfold leap;dsimp only;exact⟨lv_ _ _,by lia⟩
theorem uV_ {m:Nat} (hm:Msk m) (h:Int) (n0:Nat) {e:Nat} (he:e<=m):∃n1,n0<=n1/\n1<n0+10*turns m/\sl m h n1=e:=by
 obtain⟨n,hn,e⟩:=t4_ hm (lV_ m h n0).1 (eQ_ m h n0) (lV_ m h n0).2 he;exact⟨n0+n,by lia,by lia,by unfold sl;rw [dQ_];exact e⟩
theorem fu_:∀(k N:Nat) (f:Nat->Nat),(∀j,j<N->∃i,i<k/\f i=j)->N<=k
 |0,N,f,h=>by
  rcases Nat.eq_zero_or_pos N with e|e
  .lia
  .obtain⟨i,hi,_⟩:=h 0 e;lia
 |k+1,N,f,h=>by
  by_cases c:f k<N
  .have:=fu_ k (N-1) (fun i=>if f k<f i then f i-1 else f i) fun j hj=>by
    by_cases e:j<f k
    .obtain⟨i,hi,ei⟩:=h j (by lia);refine⟨i, ?_, ?_⟩
     .by_cases z:i=k
      .subst z;lia
      .lia
     .rw [A5 (by lia)];exact ei
    .obtain⟨i,hi,ei⟩:=h (j+1) (by lia);refine⟨i, ?_, ?_⟩
     .by_cases z:i=k
      .subst z;lia
      .lia
     .rw [A6 (by lia)];lia
   lia
  .have:=fu_ k N f fun j hj=>by
    obtain⟨i,hi,ei⟩:=h j hj;refine⟨i, ?_,ei⟩;by_cases z:i=k
    .subst z;lia
    .lia
   lia
noncomputable def hAt (es:Array (Int×Value)) (i:Nat):Int:=(es[i]?.map (·.1)).getD 0
structure Tb (t:SetTable) (es:Array (Int×Value)):Prop where
 mask:Msk t.mask
 dum:t.dummies= #[]
 size:t.place.size=es.size
 ris:Ris t.place
 bnd:∀i,i<t.place.size->t.place.getD i 0<=t.mask
 reach:∀i,i<es.size->∃n,sl t.mask (hAt es i) n=t.place.getD i 0/\∀k,k<n->In t.place (sl t.mask (hAt es i) k)
theorem Tb.free {t:SetTable}{es:Array (Int×Value)} (b:Tb t es) (h:es.size<=t.mask):∃e,e<=t.mask/\¬In t.place e:=by
 refine Classical.byContradiction fun z=> ?_;have:=fu_ t.place.size (t.mask+1) (fun i=>t.place.getD i 0) fun j hj=>by
  rcases pk_ t.place j with c|c
  .exact c
  .exact absurd ⟨j,by lia,c⟩ z
 have:=b.size;lia
theorem Tb.probe {t : SetTable} {es : Array (Int × Value)} (b : Tb t es) (hs : es.size <= t.mask) (hashAt : Nat -> Int) (h : Int) (n0 : Nat) :
    ∃ n, n0 <= n /\ (∀ k, n0 <= k -> k < n -> ∃ i, i < t.place.size /\ t.place.getD i 0 = sl t.mask h k /\ (hashAt i == h) = false) /\
      ((¬ In t.place (sl t.mask h n) /\ t.probe hashAt h (pAt t.mask h n0) = some (.empty (sl t.mask h n) none)) \/
       ∃ i, i < t.place.size /\ t.place.getD i 0 = sl t.mask h n /\ (hashAt i == h) = true /\ t.probe hashAt h (pAt t.mask h n0) = some (.candidate (sl t.mask h n) i (pAt t.mask h (n + 1)))) := by
  obtain ⟨e, he, hn⟩ := b.free hs;obtain ⟨n1, h1, h2, h3⟩ := uV_ b.mask h n0 he;exact probe_go b.ris b.dum hashAt h _ n0 ⟨n1, h1, h2, by rw [h3]; exact hn⟩
theorem em_ {α:Type}{xs:Array α}{p:Nat} (hp:p<=xs.size) (x:α) (i:Nat):(insertAt xs p x)[i]? =if i<p then xs[i]? else if i=p then some x else xs[i-1]? :=by
 unfold insertAt;have s1:(xs.extract 0 p).size=p:=by simp;lia
 have s2:((xs.extract 0 p).push x).size=p+1:=by simp;lia
 by_cases h1:i<p
 .rw [A6 h1,Array.getElem?_append_left (by rw [s2];lia),Array.getElem?_push,A5 (by rw [s1];lia)];simp [Array.getElem?_extract];lia
 .rw [A5 h1];by_cases h2:i=p
  .rw [A6 h2,Array.getElem?_append_left (by rw [s2];lia),Array.getElem?_push,A6 (by rw [s1];exact h2)]
  .rw [A5 h2,Array.getElem?_append_right (by rw [s2];lia),s2];simp only [Array.getElem?_extract];by_cases h3:i-(p+1)<xs.size-p
   .rw [A6 (by lia)];congr 1
    lia
   .rw [A5 (by lia)];symm;rw [Array.getElem?_eq_none_iff];lia
theorem by_ {α:Type}{xs:Array α}{p:Nat} (hp:p<=xs.size) (x:α):(insertAt xs p x).size=xs.size+1:=by
 unfold insertAt;simp;lia
theorem gN_ (xs:Array Nat) (i:Nat):xs.getD i 0=(xs[i]?).getD 0:=by
 by_cases h:i<xs.size<;>simp [Array.getD,h]
theorem cf_ {xs:Array Nat}{p:Nat} (hp:p<=xs.size) (x i:Nat):(insertAt xs p x).getD i 0=if i<p then xs.getD i 0 else if i=p then x else xs.getD (i-1) 0:=by
 rw [gN_,em_ hp,gN_,gN_];split
 .rfl
 .split<;>rfl
theorem sE_ {xs:Array Nat}{p:Nat} (hp:p<=xs.size) (x j:Nat):In (insertAt xs p x) j↔In xs j\/j=x:=by
 constructor
 .rintro⟨i,hi,e⟩;rw [by_ hp] at hi;rw [cf_ hp] at e;by_cases h1:i<p
  .rw [A6 h1] at e;exact .inl ⟨i,by lia,e⟩
  .rw [A5 h1] at e;by_cases h2:i=p
   .rw [A6 h2] at e;exact .inr e.symm
   .rw [A5 h2] at e;exact .inl ⟨i-1,by lia,e⟩
 .rintro(⟨i,hi,e⟩|rfl)
  .by_cases h1:i<p
   .exact⟨i,by rw [by_ hp];lia,by rw [cf_ hp,A6 h1];exact e⟩
   .exact⟨i+1,by rw [by_ hp];lia,by rw [cf_ hp,A5 (by lia),A5 (by lia)];exact e⟩
  .exact⟨p,by rw [by_ hp];lia,by rw [cf_ hp,A5 (Bw _),A6 rfl]⟩
theorem qN_ {xs:Array Nat} (r:Ris xs) {j:Nat} (h:¬In xs j):Ris (insertAt xs (below xs j) j):=by
 obtain⟨a,b,c⟩:=d1_ r j;have c':∀i,below xs j<=i->i<xs.size->j<xs.getD i 0:=fun i h1 h2=>by
  have:=c i h1 h2;have:xs.getD i 0≠j:=fun z=>h ⟨i,h2,z⟩;lia
 intro i k hik hk;rw [by_ a] at hk;rw [cf_ a,cf_ a];by_cases h1:k<below xs j
 .rw [A6 h1,A6 (by lia)];exact r i k hik (by lia)
 .rw [A5 h1];by_cases h2:k=below xs j
  .rw [A6 h2,A6 (by lia)];exact b i (by lia)
  .rw [A5 h2];by_cases h3:i<below xs j
   .rw [A6 h3];exact Nat.lt_trans (b i h3) (c' (k-1) (by lia) (by lia))
   .rw [A5 h3];by_cases h4:i=below xs j
    .rw [A6 h4];exact c' (k-1) (by lia) (by lia)
    .rw [A5 h4];exact r (i-1) (k-1) (by lia) (by lia)
theorem o3_ (t:SetTable) (hd:t.dummies= #[]) (j:Nat):t.put j=({t with place:=insertAt t.place (below t.place j) j},below t.place j):=by
 unfold put;dsimp only;rw [hd,mL_];obtain⟨a,b,c,d,e,f,g⟩:=t;dsimp only at hd;subst hd;rfl
theorem Tb.add {t:SetTable}{es:Array (Int×Value)} (b:Tb t es) (h:Int) (x:Value) (n:Nat) (hn:¬In t.place (sl t.mask h n)) (hm:sl t.mask h n<=t.mask) (hk:∀k,k<n->In t.place (sl t.mask h k)):
  Tb (t.put (sl t.mask h n)).1 (insertAt es (t.put (sl t.mask h n)).2 (h,x)):=by
 rw [o3_ t b.dum];obtain⟨a1,a2,a3⟩:=d1_ b.ris (sl t.mask h n);have a1':below t.place (sl t.mask h n)<=es.size:=by rw [<-b.size];exact a1
 refine⟨b.mask,b.dum, ?_,qN_ b.ris hn, ?_, ?_⟩
 .rw [by_ a1,by_ a1',b.size]
 .intro i hi;dsimp only at hi⊢;rw [by_ a1] at hi;rw [cf_ a1];split
  .exact b.bnd i (by lia)
  .split
   .exact hm
   .exact b.bnd (i-1) (by lia)
 .intro i hi;dsimp only at hi⊢;rw [by_ a1'] at hi;have sub:∀j,In t.place j->In (insertAt t.place (below t.place (sl t.mask h n)) (sl t.mask h n)) j:=fun j hj=>(sE_ a1 _ j).mpr (.inl hj);have eh:hAt (insertAt es (below t.place (sl t.mask h n)) (h,x)) i=if i<below t.place (sl t.mask h n) then hAt es i else if i=below t.place (sl t.mask h n) then h else hAt es (i-1):=by
   unfold hAt;rw [em_ a1'];split
   .rfl
   .split<;>rfl
  rw [cf_ a1,eh];by_cases h1:i<below t.place (sl t.mask h n)
  .rw [A6 h1,A6 h1];obtain⟨m,e,q⟩:=b.reach i (by lia);exact⟨m,e,fun k hk=>sub _ (q k hk)⟩
  .rw [A5 h1,A5 h1];by_cases h2:i=below t.place (sl t.mask h n)
   .rw [A6 h2,A6 h2];exact⟨n,rfl,fun k hk'=>sub _ (hk k hk')⟩
   .rw [A5 h2,A5 h2];obtain⟨m,e,q⟩:=b.reach (i-1) (by lia);exact⟨m,e,fun k hk=>sub _ (q k hk)⟩
theorem iz_ {m i:Nat} (h:i<=m):i+(runEnd m i-i)<=m:=by unfold runEnd;split<;>lia
theorem lW_ (m:Nat) (h:Int):∀n,(pAt m h n).j+(pAt m h n).more<=m
 |0=>by
  have:=Cy (bits h) (show 0<m+1 by lia);exact iz_ (m:=m) (i:=bits h%(m+1)) (by lia)
 |n+1=>by
  have a:=lW_ m h n;show(b7_ m (pAt m h n)).j+(b7_ m (pAt m h n)).more<=m;unfold b7_ advance;split
  .show(pAt m h n).j+1+((pAt m h n).more-1)<=m;lia
  .unfold leap;dsimp only;have:=Cy ((pAt m h n).i*5+1+(pAt m h n).perturb/32) (show 0<m+1 by lia);exact iz_ (by lia)
theorem rX_ (m:Nat) (h:Int) (n:Nat):sl m h n<=m:=by
 have:=lW_ m h n;unfold sl;lia
noncomputable abbrev Own:=Array (Option Nat)
noncomputable def Occ (o:Own) (j:Nat):Prop:=∃k,o[j]? =some (some k)
theorem jx_ (m:Nat) (q:Nat×Nat):∀k,k<=runEnd m q.1-q.1->(dA_ m (fi_ m q) k).j=q.1+k/\(dA_ m (fi_ m q) k).more=runEnd m q.1-q.1-k
 |0,_=>⟨rfl,rfl⟩
 |k+1,h=>by
  obtain⟨a,b⟩:=jx_ m q k (by lia);show(b7_ m (dA_ m (fi_ m q) k)).j=_/\(b7_ m (dA_ m (fi_ m q) k)).more=_;unfold b7_ advance;rw [A6 (by lia)];dsimp only;rw [a,b];exact⟨by lia,by lia⟩
theorem fJ_ {p:Nat->Bool}:∀(n:Nat),((List.range n).find? p=none/\∀i,i<n->p i=false)\/∃k,k<n/\(List.range n).find? p=some k/\p k=true/\∀i,i<k->p i=false
 |0=> .inl ⟨rfl,fun i h=>absurd h (by lia)⟩
 |n+1=>by
  rw [B4,List.find?_append];rcases fJ_ (p:=p) n with⟨a,b⟩|⟨k,h1,h2,h3,h4⟩
  .rw [a];cases c:p n with
   |true=>exact .inr ⟨n,by lia,by simp [c],c,b⟩
   |false=>
    refine .inl ⟨by simp [c],fun i hi=> ?_⟩;by_cases e:i=n
    .rw [e];exact c
    .exact b i (by lia)
  .rw [h2];exact .inr ⟨k,by lia,rfl,h3,h4⟩
theorem mM_ {m:Nat}{o:Own} (hs:o.size=m+1) (h:Int):∀(f:Nat) (q:Nat×Nat) (n:Nat),q.1<=m->pAt m h n=fi_ m q->(∀k,k<n->Occ o (sl m h k))->(∃L,L<f/\¬Occ o (bw_ m q L).1)->
  ∃n',layClean.free m o f q.1 q.2=some (sl m h n')/\¬Occ o (sl m h n')/\∀k,k<n'->Occ o (sl m h k)
 |0,q,n,hq,hp,ho,⟨L,hL,_⟩=>absurd hL (by lia)
 |f+1,q,n,hq,hp,ho,⟨L,hL,hf⟩=>by
  unfold layClean.free;have run:∀k,k<runEnd m q.1+1-q.1->sl m h (n+k)=q.1+k:=fun k hk=>by
   unfold sl;rw [dQ_,hp];exact(jx_ m q k (by lia)).1
  have rb:=iz_ hq;have rl:q.1<=runEnd m q.1:=by unfold runEnd;split<;>lia
  have no:∀j,j<=m->(((o.getD j (some 0)).isNone=false->Occ o j)/\((o.getD j (some 0)).isNone=true->¬Occ o j)):=fun j hj=>by
   have hj':j<o.size:=by lia
   have e:o[j]? =some (o.getD j (some 0)):=by simp [Array.getD,hj']
   constructor
   .intro z;cases c:o.getD j (some 0) with
    |none=>rw [c] at z;cases z
    |some k=>exact⟨k,by rw [e,c]⟩
   .rintro z ⟨k,hk⟩;rw [e] at hk;rw [Af hk] at z;cases z
  rcases fJ_ (p:=fun k=>(o.getD (q.1+k) (some 0)).isNone) (runEnd m q.1+1-q.1) with⟨a,b⟩|⟨k,h1,h2,h3,h4⟩
  .rw [a];dsimp only;have all:∀k,k<n+(runEnd m q.1-q.1+1)->Occ o (sl m h k):=fun k hk=>by
    by_cases c:k<n
    .exact ho k c
    .have e:k=n+(k-n):=by lia
     rw [e,run (k-n) (by lia)];exact(no _ (by lia)).1 (b (k-n) (by lia))
   have hj:(pg_ m q).1<=m:=by
    show(leap m _ _).1<=m;unfold leap;have:=Cy (q.1*5+1+q.2/32) (show 0<m+1 by lia);dsimp only;lia
   have hp':pAt m h (n+(runEnd m q.1-q.1+1))=fi_ m (pg_ m q):=by
    rw [dQ_,hp];exact f6_ m _ (fi_ m q) rfl rfl
   have hL0:L≠0:=by
    rintro rfl;apply hf;have:=(no q.1 hq).1 (b 0 (by unfold runEnd;split<;>lia))
    exact this
   obtain⟨L',rfl⟩:∃L',L=L'+1:=⟨L-1,by lia⟩;exact mM_ hs h f (pg_ m q) _ hj hp' all ⟨L',by lia,by
    rw [show L'+1=1+L' by lia,dT_] at hf;exact hf⟩
  .rw [h2];dsimp only;refine⟨n+k,by rw [run k h1], ?_,fun k' hk'=> ?_⟩
   .rw [run k h1];exact(no _ (by lia)).2 h3
   .by_cases c:k'<n
    .exact ho k' c
    .have e:k'=n+(k'-n):=by lia
     rw [e,run (k'-n) (by lia)];exact(no _ (by lia)).1 (h4 (k'-n) (by lia))
theorem sn_ {m:Nat} (hm:Msk m) (q:Nat×Nat) (hp:q.2<2^64) {e:Nat} (he:e<=m):∃L,L<turns m/\(bw_ m q L).1=e:=by
 have z:(bw_ m q 13).2=0:=by
  rw [ee_];apply Nat.div_eq_of_lt;have h2:(2:Nat)^64<32^13:=by decide
  lia
 have j13:(bw_ m q 13).1<=m:=by
  show(leap m _ _).1<=m;unfold leap;have:=Cy ((bw_ m q 12).1*5+1+(bw_ m q 12).2/32) (show 0<m+1 by lia);dsimp only;lia
 obtain⟨k,hk,ek⟩:=pr_ hm j13 he;refine⟨13+k,by unfold turns;lia, ?_⟩;rw [dT_];have e13:bw_ m q 13=((bw_ m q 13).1,0):=Prod.ext rfl z;rw [e13,ed_];exact ek
structure Lay (m:Nat) (hs:List Int) (o:Own) (ss:Nat->Nat):Prop where
 size:o.size=m+1
 at_:∀i,i<hs.length->ss i<=m/\o[ss i]? =some (some i)
 of_:∀j k,o[j]? =some (some k)->k<hs.length/\ss k=j
 reach:∀(i:Nat) h,hs[i]? =some h->∃n,sl m h n=ss i/\∀k,k<n->Occ o (sl m h k)
theorem Lay.step {m:Nat} (hm:Msk m) {hs:List Int}{o:Own}{ss:Nat->Nat} (l:Lay m hs o ss) (h:Int) (hl:hs.length<=m):
  ∃j,layClean.free m o (turns m) (bits h%(m+1)) (bits h)=some j/\∃ss',Lay m (hs++[h]) (o.setIfInBounds j (some hs.length)) ss':=by
 obtain⟨e,he,hne⟩:∃e,e<=m/\¬Occ o e:=by
  refine Classical.byContradiction fun z=> ?_;have:=fu_ hs.length (m+1) ss fun j hj=>by
   rcases Classical.em (Occ o j) with⟨k,hk⟩|c
   .exact⟨k,(l.of_ j k hk).1,(l.of_ j k hk).2⟩
   .exact absurd ⟨j,by lia,c⟩ z
  lia
 obtain⟨L,hL,eL⟩:=sn_ hm (bits h%(m+1),bits h) (m6_ h) he;have i0:=Cy (bits h) (show 0<m+1 by lia);obtain⟨n,e1,e2,e3⟩:=mM_ l.size h (turns m) (bits h%(m+1),bits h) 0 (by lia) rfl (fun k hk=>absurd hk (by lia)) ⟨L,hL,by rw [eL];exact hne⟩;have jm:=rX_ m h n;have js:sl m h n<o.size:=by rw [l.size];lia
 refine⟨sl m h n,e1,fun i=>if i=hs.length then sl m h n else ss i, ?_⟩;have set_:∀j,(o.setIfInBounds (sl m h n) (some hs.length))[j]? =if j=sl m h n then some (some hs.length) else o[j]? :=fun j=>by
  rw [Array.getElem?_setIfInBounds];by_cases c:sl m h n=j
  .rw [A6 c,A6 c.symm];simp [<-c,js]
  .rw [A5 c,A5 fun z=>c z.symm]
 have sub:∀j,Occ o j->Occ (o.setIfInBounds (sl m h n) (some hs.length)) j:=fun j ⟨k,hk⟩=>by
  refine⟨k, ?_⟩;rw [set_,A5]
  .exact hk
  .rintro rfl;exact e2 ⟨k,hk⟩
 refine⟨by rw [Array.size_setIfInBounds];exact l.size,fun i hi=> ?_,fun j k hk=> ?_,fun i h' hh'=> ?_⟩
 .rw [AF,B0] at hi;by_cases c:i=hs.length
  .rw [A6 c,set_,A6 rfl,c];exact⟨jm,rfl⟩
  .rw [A5 c,set_];obtain⟨a,b⟩:=l.at_ i (by lia);refine⟨a, ?_⟩;rw [A5]
   .exact b
   .intro z;rw [z] at b;exact e2 ⟨i,b⟩
 .rw [set_] at hk;rw [AF,B0];by_cases c:j=sl m h n
  .rw [A6 c] at hk;cases hk;exact⟨by lia,by rw [A6 rfl];exact c.symm⟩
  .rw [A5 c] at hk;obtain⟨a,b⟩:=l.of_ j k hk;exact⟨by lia,by rw [A5 (by lia)];exact b⟩
 .by_cases c:i<hs.length
  .rw [BJ c] at hh';obtain⟨n',a,b⟩:=l.reach i h' hh';rw [A5 (by lia)];exact⟨n',a,fun k hk=>sub _ (b k hk)⟩
  .have hlt:=(AH.mp hh').1;rw [AF,B0] at hlt;obtain rfl:i=hs.length:=by lia
   rw [BF (A8 _),Nat.sub_self] at hh';cases hh';rw [A6 rfl];exact⟨n,rfl,fun k hk=>sub _ (e3 k hk)⟩
noncomputable def e0_ (m:Nat) (acc:Option (Own×Nat)) (h:Int):Option (Own×Nat):=do
 let (owner,k)<-acc
 let j<-layClean.free m owner (turns m) (bits h%(m+1)) (bits h)
 pure (owner.setIfInBounds j (some k),k+1)
theorem jV_ {m:Nat} (hm:Msk m):∀(more hs:List Int) (o:Own) (ss:Nat->Nat),Lay m hs o ss->hs.length+more.length<=m+1->
  ∃o' ss',more.foldl (e0_ m) (some (o,hs.length))=some (o',(hs++more).length)/\Lay m (hs++more) o' ss'
 |[],hs,o,ss,l,_=>⟨o,ss,by simp,by simpa using l⟩
 |h::more,hs,o,ss,l,hl=>by
  rw [An] at hl;obtain⟨j,e,ss',l'⟩:=l.step hm h (by lia);obtain⟨o',ss2,e2,l2⟩:=jV_ hm more (hs++[h]) _ ss' l' (by rw [AF,B0];lia);rw [BB,List.singleton_append] at e2 l2;refine⟨o',ss2, ?_,l2⟩;rw [Bf];have es:e0_ m (some (o,hs.length)) h=some (o.setIfInBounds j (some hs.length),(hs++[h]).length):=by
   unfold e0_;simp only [Option.bind_eq_bind,Option.bind_some,e];simp
  rw [es];exact e2
theorem mv_ {m:Nat} (hm:Msk m) (hs:Array Int) (hl:hs.size<=m+1):∃o ss,layClean m hs=some o/\Lay m hs.toList o ss:=by
 have l0:Lay m [] (Array.replicate (m+1) none) (fun _=>0):=⟨by simp,fun i hi=>absurd hi (by simp),fun j k hk=>(by
  rw [Array.getElem?_replicate] at hk;split at hk<;>cases hk),fun i h e=>by simp at e⟩
 obtain⟨o,ss,e,l⟩:=jV_ hm hs.toList [] _ _ l0 (by simpa using hl);refine⟨o,ss, ?_,by simpa using l⟩;unfold layClean;have:hs.foldl (init:=some (Array.replicate (m+1) none,0)) (e0_ m)=some (o,([]++hs.toList).length):=by
  rw [<-Array.foldl_toList];exact e
 have e2:(hs.foldl (init:=some (Array.replicate (m+1) none,0)) fun acc h=>do
  let (owner,k)<-acc
  let j<-layClean.free m owner (turns m) (bits h%(m+1)) (bits h)
  pure (owner.setIfInBounds j (some k),k+1))=hs.foldl (init:=some (Array.replicate (m+1) none,0)) (e0_ m):=rfl
 rw [e2,this];rfl
noncomputable def bv_ (m:Nat) (o:Own):List (Nat×Nat):=(List.range (m+1)).filterMap fun j=>(o.getD j none).map (j, ·)
theorem gB_ {m:Nat}{o:Own} (hs:o.size=m+1) (j k:Nat):(j,k)∈bv_ m o↔o[j]? =some (some k):=by
 unfold bv_;rw [Cz];constructor
 .rintro⟨a,ha,e⟩;obtain⟨k',e1,e2⟩:=A4.mp e;cases e2;have hj:j<o.size:=by rw [hs];simpa using ha
  have e:o[j]? =some (o.getD j none):=by simp [Array.getD,hj]
  rw [e,e1]
 .intro e;obtain⟨hj,e2⟩:=Bo.mp e;refine⟨j,by simpa [hs] using hj, ?_⟩;have:o.getD j none=some k:=by simp [Array.getD,hj,e2]
  rw [this];rfl
theorem qH_ (m:Nat) (o:Own):(bv_ m o).Pairwise fun a b=>a.1<b.1:=by
 unfold bv_;rw [List.pairwise_filterMap];refine List.Pairwise.imp ?_ (List.pairwise_lt_range (n:=m+1));intro a b hab x hx y hy;obtain⟨_,_,e1⟩:=A4.mp hx;obtain⟨_,_,e2⟩:=A4.mp hy;rw [<-e1,<-e2];exact hab
structure Laid (m:Nat) (hs:Array Int) (pl od:Array Nat):Prop where
 ps:pl.size=hs.size
 os:od.size=hs.size
 ris:Ris pl
 bnd:∀i,i<pl.size->pl.getD i 0<=m
 lt:∀i,i<hs.size->od.getD i 0<hs.size
 inj:∀i j,i<hs.size->j<hs.size->od.getD i 0=od.getD j 0->i=j
 sur:∀k,k<hs.size->∃i,i<hs.size/\od.getD i 0=k
 reach:∀i,i<hs.size->∃n,sl m (hs.getD (od.getD i 0) 0) n=pl.getD i 0/\∀k,k<n->In pl (sl m (hs.getD (od.getD i 0) 0) k)
theorem qK_ {m:Nat} (hm:Msk m) (fg mv:Nat) (led plain:Bool) (hs:Array Int) (hl:hs.size<=m+1):
  ∃pl od,laid m fg mv led plain hs=some ({mask:=m,place:=pl,dummies:= #[],finger:=fg,led:=led,moves:=mv,plain:=plain},od)/\Laid m hs pl od:=by
 obtain⟨o,ss,e,l⟩:=mv_ hm hs hl;have ln:hs.toList.length=hs.size:=B3;refine⟨((bv_ m o).map (·.1)).toArray,((bv_ m o).map (·.2)).toArray, ?_, ?_⟩
 .unfold laid;rw [e];rfl
 have at_:∀i (h:i<(bv_ m o).length),((bv_ m o).map (·.1)).toArray.getD i 0=(bv_ m o)[i].1/\((bv_ m o).map (·.2)).toArray.getD i 0=(bv_ m o)[i].2/\o[(bv_ m o)[i].1]? =some (some (bv_ m o)[i].2):=fun i h=>by
  refine⟨by simp [Array.getD,h],by simp [Array.getD,h],(gB_ l.size _ _).mp ?_⟩;exact Bn h
 have ris:Ris ((bv_ m o).map (·.1)).toArray:=fun i j hij hj=>by
  have hj':j<(bv_ m o).length:=by simpa using hj
  rw [(at_ i (by lia)).1,(at_ j hj').1];exact CK.mp (qH_ m o) i j (by lia) hj' hij
 have sur:∀k,k<hs.size->∃i,∃h:i<(bv_ m o).length,(bv_ m o)[i].2=k/\(bv_ m o)[i].1=ss k:=fun k hk=>by
  have:=(gB_ l.size (ss k) k).mpr (l.at_ k (by rw [ln];exact hk)).2;obtain⟨i,hi,e⟩:=Bd.mp this;exact⟨i,hi,by rw [e],by rw [e]⟩
 have size:(bv_ m o).length=hs.size:=by
  have h1:=fu_ (bv_ m o).length hs.size (fun i=>((bv_ m o).map (·.2)).toArray.getD i 0) fun k hk=>by
   obtain⟨i,hi,e,_⟩:=sur k hk;exact⟨i,hi,by rw [(at_ i hi).2.1,e]⟩
  have h2:=fu_ hs.size (bv_ m o).length (fun k=>below ((bv_ m o).map (·.1)).toArray (ss k)) fun i hi=>by
   obtain⟨a1,a2,a3⟩:=at_ i hi;obtain⟨b1,b2⟩:=l.of_ _ _ a3;refine⟨(bv_ m o)[i].2,by lia, ?_⟩;rw [b2,<-a1];exact kp_ ris (by simpa using hi)
  lia
 have inOcc:∀j,Occ o j->In ((bv_ m o).map (·.1)).toArray j:=fun j ⟨k,hk⟩=>by
  obtain⟨i,hi,e⟩:=Bd.mp ((gB_ l.size j k).mpr hk);exact⟨i,by simpa using hi,by rw [(at_ i hi).1,e]⟩
 refine⟨by simpa using size,by simpa using size,ris,fun i hi=> ?_,fun i hi=> ?_,fun i j hi hj e=> ?_,fun k hk=> ?_,fun i hi=> ?_⟩
 .have hi':i<(bv_ m o).length:=by simpa using hi
  obtain⟨a1,a2,a3⟩:=at_ i hi';rw [a1];have:=(Bo.mp a3).1;have:=l.size;lia
 .obtain⟨a1,a2,a3⟩:=at_ i (by lia);rw [a2];have:=(l.of_ _ _ a3).1;lia
 .obtain⟨a1,a2,a3⟩:=at_ i (by lia);obtain⟨b1,b2,b3⟩:=at_ j (by lia);rw [a2,b2] at e;have e1:=(l.of_ _ _ a3).2;have e2:=(l.of_ _ _ b3).2;rw [e,e2] at e1;by_cases c:i<j
  .have:=ris i j c (by simp;lia);lia
  .by_cases c2:j<i
   .have:=ris j i c2 (by simp;lia);lia
   .lia
 .obtain⟨i,hi,e,_⟩:=sur k hk;exact⟨i,by lia,by rw [(at_ i hi).2.1,e]⟩
 .obtain⟨a1,a2,a3⟩:=at_ i (by lia);obtain⟨b1,b2⟩:=l.of_ _ _ a3;have hk:(bv_ m o)[i].2<hs.size:=by lia
  have eh:hs.toList[(bv_ m o)[i].2]? =some (hs.getD (bv_ m o)[i].2 0):=by simp [Array.getD,hk]
  obtain⟨n,e,q⟩:=l.reach _ _ eh;rw [a1,a2];exact⟨n,by rw [e,b2],fun k hk=>inOcc _ (q k hk)⟩
theorem pn_ {α β:Type}{f:α->Option β}{g:α->β}:∀(l:List α),(∀a∈l,f a=some (g a))->l.filterMap f=l.map g
 |[],_=>rfl
 |a::l,h=>by
  rw [List.filterMap_cons_some (h a (by simp)),AJ,pn_ l fun b hb=>h b (by simp [hb])]
theorem rd_:sizeAbove 20=32:=by decide
theorem rc_:sizeAbove 76=128:=by decide
theorem Tb.again {t:SetTable}{es:Array (Int×Value)} (hm:(t.mask=7/\es.size=5)\/(t.mask=31/\es.size=19)):
  ∃pl od,t.relaid (es.map (·.1)) (grown es.size)=some ({mask:=sizeAbove (grown es.size)-1,place:=pl,dummies:= #[],finger:=t.finger,led:=t.led,moves:=t.movedTo (sizeAbove (grown es.size)-1),plain:=t.plain},od)/\
   Tb {mask:=sizeAbove (grown es.size)-1,place:=pl,dummies:= #[],finger:=t.finger,led:=t.led,moves:=t.movedTo (sizeAbove (grown es.size)-1),plain:=t.plain} (od.filterMap (es[·]?))/\
   (od.filterMap (es[·]?)).size=es.size/\(∀i,i<es.size->∃k,k<es.size/\(od.filterMap (es[·]?))[i]? =es[k]? /\k=od.getD i 0)/\
   (∀i j,i<es.size->j<es.size->od.getD i 0=od.getD j 0->i=j)/\(∀k,k<es.size->∃i,i<es.size/\od.getD i 0=k)/\
   es.size*5<(sizeAbove (grown es.size)-1)*3/\sizeAbove (grown es.size)<=sizeLine:=by
 have hM:Msk (sizeAbove (grown es.size)-1)/\es.size<=sizeAbove (grown es.size)-1+1/\es.size*5<(sizeAbove (grown es.size)-1)*3/\sizeAbove (grown es.size)<=sizeLine:=by
  rcases hm with⟨_,e⟩|⟨_,e⟩
  .rw [e,show grown 5=20 from rfl,rd_];exact⟨.inr (.inl rfl),by decide,by decide,by decide⟩
  .rw [e,show grown 19=76 from rfl,rc_];exact⟨.inr (.inr rfl),by decide,by decide,by decide⟩
 have sz:(es.map (·.1)).size=es.size:=CD;obtain⟨pl,od,e,L⟩:=qK_ hM.1 t.finger (t.movedTo (sizeAbove (grown es.size)-1)) t.led t.plain (es.map (·.1)) (by rw [sz];exact hM.2.1);have odlt:∀i,i<es.size->od.getD i 0<es.size:=fun i hi=>by have:=L.lt i (by rw [sz];exact hi);rw [sz] at this;exact this
 have ods:od.size=es.size:=by rw [L.os,sz]
 have fm:od.filterMap (es[·]?)=od.map fun k=>es.getD k (0, .none):=by
  apply Array.toList_inj.mp;rw [Array.toList_filterMap,Array.toList_map];refine pn_ _ fun k hk=> ?_;obtain⟨i,hi,ei⟩:=Bd.mp hk;have hi':i<od.size:=by simpa using hi
  have:k<es.size:=by
   have:=odlt i (by lia);simp only [Array.getD,hi',dite_true] at this;simp only [Array.getElem_toList] at ei;rw [<-ei];exact this
  simp [Array.getD,this]
 have fs:(od.filterMap (es[·]?)).size=es.size:=by rw [fm,CD,ods]
 have fat:∀i,i<es.size->(od.filterMap (es[·]?))[i]? =es[od.getD i 0]? :=fun i hi=>by
  have h2:=odlt i hi;have hi':i<od.size:=by lia
  rw [fm,Array.getElem?_map];have e1:od[i]? =some (od.getD i 0):=by simp [Array.getD,hi']
  rw [e1];simp only [Be];generalize od.getD i 0=k at h2⊢;simp [Array.getD,h2]
 refine⟨pl,od,e,⟨hM.1,rfl,by rw [fs];show pl.size=_;rw [L.ps,sz],L.ris,L.bnd,fun i hi=> ?_⟩,fs,fun i hi=>⟨od.getD i 0,odlt i hi,fat i hi,rfl⟩,fun i j hi hj=>L.inj i j (by rw [sz];exact hi) (by rw [sz];exact hj),fun k hk=> ?_,hM.2.2⟩
 .rw [fs] at hi;obtain⟨n,e1,e2⟩:=L.reach i (by rw [sz];exact hi);have eh:(es.map (·.1)).getD (od.getD i 0) 0=hAt (od.filterMap (es[·]?)) i:=by
   unfold hAt;rw [fat i hi];have h2:=odlt i hi;generalize od.getD i 0=k at h2⊢;simp [Array.getD,h2]
  rw [eh] at e1 e2;exact⟨n,e1,e2⟩
 .obtain⟨i,hi,ei⟩:=L.sur k (by rw [sz];exact hk);exact⟨i,by rw [sz] at hi;exact hi,ei⟩
end L2
namespace L2
open PySem PySem.SetTable PySem.Spec PyProof.Rows
section
variable {prog:Program}{w:World}{A:Around}{E:Value->Shared->Prop}{s:Shared}
theorem j3_ {k:List Int}{vs:List Value} (h:ItemsAre (intKind prog w) k vs):∀v∈vs,∃n t,v= .int n t:=by
 induction h with
 |nil=>intro v hv;simp at hv
 | @cons k v' ks vs h1 _ ih=>
  intro v hv;rcases AK.mp hv with rfl|hv
  .cases v with
   |int n t=>exact⟨n,t,rfl⟩
   |_=>exact absurd h1 (by simp [intKind,Value.isInt])
  .exact ih v hv
theorem eU_ {k:List Int}{x:Addr}{Q:Bool->Shared->Prop} (hx:IsTupleKey (intKind prog w) s.heap k x) (h:Q false s):
  wpAny (model prog w) A (ofAClassStatement 8 (.ref x)) Q E s:=by
 have hT:=hx.typeIs;obtain⟨o,items,n,ho,hc,hd,hi⟩:=hx;unfold ofAClassStatement;refine A0 (D6 hT ?_);show wpAny _ _ ((if("tuple"=="tuple")=true then pure true else isSubtype (.type "tuple") (.type "tuple"))>>=_) _ _ s;refine A0 (A3 ?_);simp only [BG,AE,Ak];refine A0 (wpAny_seqItems ho hd ?_);refine A0 ?_;show wpAny _ _ (forIn items _ _) _ _ s;rw [<-CT];refine Br _ (fun cM_ r s'=>r.1=none/\s'=s/\∀v∈cM_,∃n t,v=Value.int n t) _ ?_ ?_ _ _ ⟨rfl,rfl,j3_ hi⟩
 .rintro v cM_ r s' ⟨hr,rfl,hall⟩;obtain⟨n,t,rfl⟩:=hall v AI;refine A0 (wpAny_of_eq (show ofAClassStatement 7 (.int n t)=pure false from by unfold ofAClassStatement;rfl) (A3 ?_));simp only [AE,Ak];exact⟨trivial,trivial,fun u hu'=>hall u (AM _ hu')⟩
 .rintro⟨r1,r2⟩ s' ⟨hr,rfl,_⟩;simp only at hr;subst hr;exact A3 h
theorem nI_ {k:List Int}{x:Addr}{Q:Bool->Shared->Prop} (hx:IsTupleKey (intKind prog w) s.heap k x) (ys:List Value)
  (hy:∀y∈ys,∃b j,y= .ref b/\IsTupleKey (intKind prog w) s.heap j b) (h:Q false s):
  wpAny (model prog w) A (searchCouldBeSeen (.ref x) ys) Q E s:=by
 unfold searchCouldBeSeen;refine A0 ?_;refine Br _ (fun cM_ r s'=>r.1=none/\s'=s/\∀v∈cM_,∃b j,v=Value.ref b/\IsTupleKey (intKind prog w) s.heap j b) _ ?_ ?_ _ _ ⟨rfl,rfl,hy⟩
 .rintro v cM_ r s' ⟨hr,rfl,hall⟩;obtain⟨b,j,rfl,hj⟩:=hall v AI;have hall':∀u∈cM_,∃b j,u=Value.ref b/\IsTupleKey (intKind prog w) s'.heap j b:=fun u hu'=>hall u (AM _ hu');dsimp only;split
  .exact A3 ⟨rfl,rfl,hall'⟩
  .refine A0 (wpAny_eqIsQuiet_tuple hx ?_);simp only [BG,AE,Ak];refine A0 (wpAny_eqIsQuiet_tuple hj ?_);simp only [BG,AE,Ak];refine A0 (eU_ hx ?_);simp only [AE,Ak];refine A0 (eU_ hj ?_);simp only [AE,Ak];exact A3 ⟨rfl,rfl,hall'⟩
 .rintro⟨r1,r2⟩ s' ⟨hr,rfl,_⟩;simp only at hr;subst hr;exact A3 h
structure Ent (prog:Program) (w:World) (h:Heap) (es:Array (Int×Value)):Prop where
 ent:∀i,i<es.size->∃k b,es[i]? =some (tupleKeyHash (intKind prog w) k, .ref b)/\IsTupleKey (intKind prog w) h k b
 dis:∀(i j:Nat) (k:List Int) (b c:Addr) (g g':Int),es[i]? =some (g,Value.ref b)->es[j]? =some (g',Value.ref c)->IsTupleKey (intKind prog w) h k b->IsTupleKey (intKind prog w) h k c->i=j
noncomputable def ri_ (prog:Program) (w:World) (h:Heap) (es:Array (Int×Value)) (k:List Int):Prop:=∃(i:Nat) (b:Addr),es[i]? =some (tupleKeyHash (intKind prog w) k, .ref b)/\IsTupleKey (intKind prog w) h k b
theorem lq_ (a:Addr) (x:Value) (h:Int) (adding:Bool) (fuel:Nat) (stand:Option Probe):setSearchFrom a x h adding (fuel+1) stand=(do
  let (es,_,t)<-setState a
  if t.gaveWay then unsupported "set:on-a-table-that-gave-way"
  let some met:=t.probe (hAt es) h (stand.getD (t.probeStart h))|unsupported "internal:set-table-without-an-empty-slot"
  match met with
  | .empty j dummy=>
   match dummy with
   |none=>return .free j false
   |some d=>
    if adding&&t.slot d != .dummy then rule "set.search.the-dummy-was-taken";return<-setSearchFrom a x h adding fuel none
    return .free d true
  | .candidate j i next=>
   if !t.led then
    if<-searchCouldBeSeen x ((es.filter (·.1==h)).toList.map (·.2)) then unsupported "set:the-search-would-show-the-table"
   let some (_,y):=es[i]? |unsupported "internal:set-entry"
   let equal<-holding [y] (eqBool y x)
   let (es',_,t')<-setState a
   if adding&&equal then return .there none
   let some same:=t'.sameMemory t.moves t.mask|unsupported "set.changed-during-lookup:is-the-new-block-at-the-old-address"
   let still<-match(if same then t'.slot j else .empty) with
    | .live i'=>match es'[i']? with
     |some (_,y')=>do pure (if<-isSame y' y then some i' else none)
     |none=>pure none
    |_=>pure none
   match still with
   |none=>rule "set.search.anew";setSearchFrom a x h adding fuel none
   |some i'=>if equal then return .there (some i') else setSearchFrom a x h adding fuel (some next)):=rfl
theorem j0_ {h:Heap}{es:Array (Int×Value)} (e:Ent prog w h es) {i:Nat} (hi:i<es.size) {k:List Int}{b:Addr}{g:Int} (he:es[i]? =some (g, .ref b)) (hk:IsTupleKey (intKind prog w) h k b):
  g=tupleKeyHash (intKind prog w) k:=by
 obtain⟨k',b',e',hk'⟩:=e.ent i hi;rw [e'] at he;simp only [Az,BV,Bm] at he;obtain⟨rfl,rfl⟩:=he;rw [hk.inj hk']
theorem do_ {α:Type}{xs:Array α}{i:Nat}{a:α} (h:xs[i]? =some a):i<xs.size:=by
 rcases BI i xs.size with c|c
 .exact c
 .rw [BX c] at h;exact nomatch h
theorem dr_ {es:Array (Int×Value)}{t:SetTable} (b:Tb t es) (hs:es.size<=t.mask):t.fits es.size=true:=by
 have h1:t.fill<=t.mask:=by
  unfold SetTable.fill;rw [b.dum,b.size];exact hs
 unfold SetTable.fits;rw [b.size,B5 h1];simp
theorem fs_ {a:Addr}{o:Obj}{es:Array (Int×Value)}{ep:Nat}{t:SetTable} (ho:s.heap.get? a=some o) (hd:o.data= .set es ep t) (b:Tb t es) (hs:es.size<=t.mask)
  (hu:A.units<cLine) (en:Ent prog w s.heap es) {k:List Int}{x:Addr} (hx:IsTupleKey (intKind prog w) s.heap k x) {Q:SetFound->Shared->Prop}
  (hT:ri_ prog w s.heap es k->Q (.there none) s)
  (hF:∀n,¬In t.place (sl t.mask (tupleKeyHash (intKind prog w) k) n)->(∀j,j<n->In t.place (sl t.mask (tupleKeyHash (intKind prog w) k) j))->¬ri_ prog w s.heap es k->
   Q (.free (sl t.mask (tupleKeyHash (intKind prog w) k) n) false) s):
  ∀(fuel n0:Nat) (stand:Option Probe),(∃N,n0<=N/\N<n0+fuel/\¬In t.place (sl t.mask (tupleKeyHash (intKind prog w) k) N))->
   (∀j,j<n0->∃i,i<t.place.size/\t.place.getD i 0=sl t.mask (tupleKeyHash (intKind prog w) k) j/\∀g c,es[i]? =some (g,Value.ref c)->¬IsTupleKey (intKind prog w) s.heap k c)->
   stand.getD (t.probeStart (tupleKeyHash (intKind prog w) k))=pAt t.mask (tupleKeyHash (intKind prog w) k) n0->
   wpAny (model prog w) A (setSearchFrom a (.ref x) (tupleKeyHash (intKind prog w) k) true fuel stand) Q E s
 |0,n0,_,⟨N,h1,h2,_⟩,_,_=>absurd h2 (by lia)
 |fuel+1,n0,stand,⟨N,h1,h2,h3⟩,hp,hst=>by
  have hf:t.fits es.size=true:=dr_ b hs;have hw:t.gaveWay=false:=by
   unfold SetTable.gaveWay;rcases b.mask with e|e|e<;>rw [e]<;>rfl
  rw [lq_];refine A0 (BE ho hd hf ?_);dsimp only;rw [hw,hst];simp only [AE,Ak];obtain⟨n,hn,hq,hr⟩:=b.probe hs (hAt es) (tupleKeyHash (intKind prog w) k) n0;have hp':∀j,j<n->∃i,i<t.place.size/\t.place.getD i 0=sl t.mask (tupleKeyHash (intKind prog w) k) j/\∀g c,es[i]? =some (g,Value.ref c)->¬IsTupleKey (intKind prog w) s.heap k c:=by
   intro j hj;rcases BI j n0 with c|c
   .exact hp j c
   .obtain⟨i,hi,ei,eh⟩:=hq j c hj;refine⟨i,hi,ei,fun g c e hk=> ?_⟩;have:=j0_ en (by rw [<-b.size];exact hi) e hk;unfold hAt at eh;rw [e] at eh;simp [this] at eh
  rcases hr with⟨r1,r2⟩|⟨i,hi,ei,eh,r2⟩
  .rw [r2];refine A3 (hF n r1 (fun j hj=> ?_) fun⟨i,c,e,hk⟩=> ?_)
   .obtain⟨i,hi,ei,_⟩:=hp' j hj;exact⟨i,hi,ei⟩
   .have hil:=do_ e;obtain⟨m,em,hm⟩:=b.reach i hil;have eha:hAt es i=tupleKeyHash (intKind prog w) k:=by unfold hAt;rw [e];rfl
    rw [eha] at em hm;have hmn:m<n:=by
     rcases BI m n with c|c
     .exact c
     .exfalso;rcases BI n m with d|d
      .exact r1 (hm n d)
      .have:m=n:=by lia
       subst this;exact r1 ⟨i,by rw [b.size];exact hil,em.symm⟩
    obtain⟨i',hi',ei',hno⟩:=hp' m hmn;have:i'=i:=by
     rcases Nat.lt_trichotomy i' i with c|c|c
     .have:=b.ris i' i c (by rw [b.size];exact hil);lia
     .exact c
     .have:=b.ris i i' c hi';lia
    subst this;exact hno _ _ e hk
  .rw [r2];dsimp only;have hil:i<es.size:=by rw [<-b.size];exact hi
   obtain⟨k',y,ey,hy⟩:=en.ent i hil;have hSeen:∀y∈(es.filter (fun e=>e.1==tupleKeyHash (intKind prog w) k)).toList.map (·.2),∃b j,y=Value.ref b/\IsTupleKey (intKind prog w) s.heap j b:=by
    intro y hy;obtain⟨e,he,rfl⟩:=Ac.mp hy;have he':e∈es:=by
     have:=Array.mem_toList_iff.mp he;exact(Array.mem_filter.mp this).1
    obtain⟨i,hi,ei⟩:=Array.mem_iff_getElem.mp he';obtain⟨k',y,ey,hy'⟩:=en.ent i hi;rw [Aj hi,ei] at ey;simp only [Az] at ey;subst ey;exact⟨y,k',rfl,hy'⟩
   have goal2:wpAny (model prog w) A (do
     let some (_,y):=es[i]? |unsupported "internal:set-entry"
     let equal<-holding [y] (eqBool y (.ref x))
     let (es',_,t')<-setState a
     if true&&equal then return SetFound.there none
     let some same:=t'.sameMemory t.moves t.mask|unsupported "set.changed-during-lookup:is-the-new-block-at-the-old-address"
     let still<-match(if same then t'.slot (sl t.mask (tupleKeyHash (intKind prog w) k) n) else .empty) with
      | .live i'=>match es'[i']? with
       |some (_,y')=>do pure (if<-isSame y' y then some i' else none)
       |none=>pure none
      |_=>pure none
     match still with
     |none=>rule "set.search.anew";setSearchFrom a (.ref x) (tupleKeyHash (intKind prog w) k) true fuel none
     |some i'=>if equal then return SetFound.there (some i') else setSearchFrom a (.ref x) (tupleKeyHash (intKind prog w) k) true fuel (some (pAt t.mask (tupleKeyHash (intKind prog w) k) (n+1)))) Q E s:=by
    rw [ey];dsimp only;refine A0 (Aw (wpAny_eqBool_tuple hu hy hx ?_));refine A0 (BE ho hd hf ?_);dsimp only;by_cases hkk:k'=k
    .subst hkk;rw [B5 rfl];simp only [Bool.true_and,Bx];exact A3 (hT ⟨i,y,ey,hy⟩)
    .rw [Ao hkk];simp only [D3,AE,Ak];have hsm:t.sameMemory t.moves t.mask=some true:=by unfold SetTable.sameMemory;simp
     rw [hsm];dsimp only;rw [A6 rfl,<-ei,g9_ b.ris hi];dsimp only;rw [ey];dsimp only;refine A0 ?_;refine wpAny_isSame_ref_self ?_;simp only [Bx];refine fs_ ho hd b hs hu en hx hT hF fuel (n+1) _ ⟨N, ?_,by lia,h3⟩ ?_ rfl
     .have:n≠N:=fun e=>h3 (by rw [<-e];exact⟨i,hi,ei⟩);have:¬N<n:=fun c=>by
       obtain⟨i',hi',ei',_⟩:=hp' N c;exact h3 ⟨i',hi',ei'⟩
      lia
     .intro j hj;rcases BI j n with c|c
      .exact hp' j c
      .have:j=n:=by lia
       subst this;refine⟨i,hi,ei,fun g c e hk=>hkk ?_⟩;rw [ey] at e;simp only [Az,BV,Bm] at e;obtain⟨_,rfl⟩:=e;exact hy.inj hk
   cases hl:t.led with
   |true=>simpa only [BG,AE,Ak] using goal2
   |false=>
    simp only [D2,Bx];refine A0 (nI_ hx _ hSeen ?_);simp only [AE,Ak];exact goal2
noncomputable def nh_ (h:Heap) (S:Addr) (led:Bool) (es:Array (Int×Value)):Prop:=
 ∃ep t,h.get? S=some {cls:= .type "set",dict:=none,data:= .set es ep t}/\Tb t es/\t.led=led/\t.plain=true/\es.size*5<t.mask*3
theorem ib_ {h:Heap}{a:Addr}{es:Array (Int×Value)}{ep:Nat}{t:SetTable} (ho:h.get? a=some {cls:= .type "set",dict:=none,data:= .set es ep t}) (es':Array (Int×Value)) (t':SetTable):
  (h.update a (Obj.putSet es' t')).get? a=some {cls:= .type "set",dict:=none,data:= .set es' (ep+1) t'}:=by
 have:=CI (Obj.putSet es' t') ho (by rw [putSet_of es' t' rfl];rfl);rw [putSet_of es' t' rfl] at this;exact this
theorem pf_ {h h':Heap}{S:Addr}{o o':Obj}{es es':Array (Int×Value)}{ep ep':Nat}{t t':SetTable} (q:Heap.SameBut S h h') (e:h.get? S=some o) (hd:o.data= .set es ep t)
  (e':h'.get? S=some o') (hd':o'.data= .set es' ep' t') (k:List Int) (x:Addr):
  IsTupleKey (intKind prog w) h k x↔IsTupleKey (intKind prog w) h' k x:=by
 constructor
 .rintro⟨o,items,n,ho,hc,hdd,hi⟩;refine⟨o,items,n,(q.2 x fun z=> ?_).trans ho,hc,hdd,hi⟩;subst z;rw [ho,Az] at e;subst e;rw [hd] at hdd;exact nomatch hdd
 .rintro⟨o,items,n,ho,hc,hdd,hi⟩;refine⟨o,items,n,(q.2 x fun z=> ?_).symm.trans ho,hc,hdd,hi⟩;subst z;rw [ho,Az] at e';subst e';rw [hd'] at hdd;exact nomatch hdd
theorem i7_ {k:List Int}{x:Addr}{Q:Bool->Shared->Prop} (hx:IsTupleKey (intKind prog w) s.heap k x) (h:Q true s):
  wpAny (model prog w) A (hashByValue 8 (.ref x)) Q E s:=by
 have hT:=hx.typeIs;obtain⟨o,items,n,ho,hc,hd,hi⟩:=hx;unfold hashByValue;refine A0 (C8 hT Cj.lookup ?_);dsimp only;refine A0 (wpAny_seqItems ho hd ?_);refine A0 ?_;show wpAny _ _ (forIn items _ _) _ _ s;rw [<-CT];refine Br _ (fun cM_ r s'=>r.1=none/\s'=s/\∀v∈cM_,∃n t,v=Value.int n t) _ ?_ ?_ _ _ ⟨rfl,rfl,j3_ hi⟩
 .rintro v cM_ r s' ⟨hr,rfl,hall⟩;obtain⟨n,t,rfl⟩:=hall v AI;refine A0 (wpAny_of_eq (show hashByValue 7 (.int n t)=pure true from by unfold hashByValue;rfl) (A3 ?_));simp only [BG,AE,Ak];exact⟨trivial,trivial,fun u hu'=>hall u (AM _ hu')⟩
 .rintro⟨r1,r2⟩ s' ⟨hr,rfl,_⟩;simp only at hr;subst hr;exact A3 h
theorem Ent.perm {h h':Heap}{es es':Array (Int×Value)} (en:Ent prog w h es) (hk:∀k x,IsTupleKey (intKind prog w) h k x↔IsTupleKey (intKind prog w) h' k x) (f:Nat->Nat)
  (hf:∀i,i<es'.size->f i<es.size/\es'[i]? =es[f i]?) (hj:∀i j,i<es'.size->j<es'.size->f i=f j->i=j):Ent prog w h' es':=by
 refine⟨fun i hi=> ?_,fun i j k b c g g' e1 e2 k1 k2=> ?_⟩
 .obtain⟨k,b,e,q⟩:=en.ent (f i) (hf i hi).1;exact⟨k,b,by rw [(hf i hi).2];exact e,(hk _ _).mp q⟩
 .have l1:=do_ e1;have l2:=do_ e2;rw [(hf i l1).2] at e1;rw [(hf j l2).2] at e2;exact hj i j l1 l2 (en.dis _ _ k b c g g' e1 e2 ((hk _ _).mpr k1) ((hk _ _).mpr k2))
theorem Ent.insert {h h':Heap}{es:Array (Int×Value)} (en:Ent prog w h es) (hk:∀k x,IsTupleKey (intKind prog w) h k x↔IsTupleKey (intKind prog w) h' k x) {p:Nat} (hp:p<=es.size) {k:List Int}{x:Addr}
  (hx:IsTupleKey (intKind prog w) h k x) (hno:¬ri_ prog w h es k):Ent prog w h' (insertAt es p (tupleKeyHash (intKind prog w) k, .ref x)):=by
 have old:∀(i:Nat) (k':List Int) (b:Addr) (g:Int),es[i]? =some (g,Value.ref b)->IsTupleKey (intKind prog w) h k' b->k'≠k:=by
  rintro i k' b g e q rfl;exact hno ⟨i,b,by rw [e,j0_ en (do_ e) e q],q⟩
 refine⟨fun i hi=> ?_,fun i j k' b c g g' e1 e2 k1 k2=> ?_⟩
 .rw [by_ hp] at hi;rw [em_ hp];by_cases c1:i<p
  .rw [A6 c1];obtain⟨k',b,e,q⟩:=en.ent i (by lia);exact⟨k',b,e,(hk _ _).mp q⟩
  .rw [A5 c1];by_cases c2:i=p
   .rw [A6 c2];exact⟨k,x,rfl,(hk _ _).mp hx⟩
   .rw [A5 c2];obtain⟨k',b,e,q⟩:=en.ent (i-1) (by lia);exact⟨k',b,e,(hk _ _).mp q⟩
 .rw [em_ hp] at e1 e2;have k1':=(hk _ _).mpr k1;have k2':=(hk _ _).mpr k2;have new:∀(b:Addr) (g:Int),some (tupleKeyHash (intKind prog w) k,Value.ref x)=some (g,Value.ref b)->IsTupleKey (intKind prog w) h k' b->k'=k:=by
   intro b g e q;simp only [Az,BV,Bm] at e;obtain⟨_,rfl⟩:=e;exact q.inj hx
  by_cases a1:i<p
  .rw [A6 a1] at e1;by_cases b1:j<p
   .rw [A6 b1] at e2;exact en.dis _ _ _ _ _ _ _ e1 e2 k1' k2'
   .rw [A5 b1] at e2;by_cases b2:j=p
    .rw [A6 b2] at e2;exact absurd (new _ _ e2 k2') (old _ _ _ _ e1 k1')
    .rw [A5 b2] at e2;have:=en.dis _ _ _ _ _ _ _ e1 e2 k1' k2';lia
  .rw [A5 a1] at e1;by_cases a2:i=p
   .rw [A6 a2] at e1;by_cases b1:j<p
    .rw [A6 b1] at e2;exact absurd (new _ _ e1 k1') (old _ _ _ _ e2 k2')
    .rw [A5 b1] at e2;by_cases b2:j=p
     .lia
     .rw [A5 b2] at e2;exact absurd (new _ _ e1 k1') (old _ _ _ _ e2 k2')
   .rw [A5 a2] at e1;by_cases b1:j<p
    .rw [A6 b1] at e2;have:=en.dis _ _ _ _ _ _ _ e1 e2 k1' k2';lia
    .rw [A5 b1] at e2;by_cases b2:j=p
     .rw [A6 b2] at e2;exact absurd (new _ _ e2 k2') (old _ _ _ _ e1 k1')
     .rw [A5 b2] at e2;have:=en.dis _ _ _ _ _ _ _ e1 e2 k1' k2';lia
theorem mG_ {es:Array (Int×Value)}{p:Nat} (hp:p<=es.size) (x v:Int×Value):(∃i:Nat,(insertAt es p x)[i]? =some v)↔(∃i:Nat,es[i]? =some v)\/v=x:=by
 constructor
 .rintro⟨i,e⟩;rw [em_ hp] at e;split at e
  .exact .inl ⟨_,e⟩
  .split at e
   .rw [Az] at e;exact .inr e.symm
   .exact .inl ⟨_,e⟩
 .rintro(⟨i,e⟩|rfl)
  .by_cases c:i<p
   .exact⟨i,by rw [em_ hp,A6 c];exact e⟩
   .exact⟨i+1,by rw [em_ hp,A5 (by lia),A5 (by lia)];exact e⟩
  .exact⟨p,by rw [em_ hp,A5 (by lia),A6 rfl]⟩
theorem nR_ (a:Addr) (wanted:Nat):setRelay a wanted=(do
  let (es,_,t)<-setState a
  if SetTable.sizeAbove wanted>sizeLine then unsupported "set:memory"
  let (es,t)<-(do
   let some (t,order):=t.relaid (es.map (·.1)) wanted|unsupported "internal:set-table-without-room"
   let es':=order.filterMap (es[·]?)
   if es'.size !=es.size then unsupported "internal:set-table-lost-an-element"
   pure (es',t):Sem (Array (Int×Value)×SetTable))
  storeSet a es t):=rfl
theorem rb_ {S:Addr}{led:Bool}{es:Array (Int×Value)} (hS:nh_ s.heap S led es) (en:Ent prog w s.heap es) {k:List Int}{x:Addr} (hx:IsTupleKey (intKind prog w) s.heap k x)
  (hu:A.units<cLine) (h64:es.size<64) {Q:Bool->Shared->Prop}
  (h:∀b h' es',Heap.SameBut S s.heap h'->nh_ h' S led es'->Ent prog w h' es'->
   (ri_ prog w s.heap es k/\es'=es\/¬ri_ prog w s.heap es k/\es'.size=es.size+1/\∀v,(∃i:Nat,es'[i]? =some v)↔(∃i:Nat,es[i]? =some v)\/v=(tupleKeyHash (intKind prog w) k, .ref x))->Q b {s with heap:=h'}):
  wpAny (model prog w) A (setAddHashed S (.ref x) (tupleKeyHash (intKind prog w) k)) Q E s:=by
 have hS0:=hS;obtain⟨ep,t,ho,b,hl,hp,hr⟩:=hS;have hs:es.size<=t.mask:=by lia
 have hf:=dr_ b hs;unfold setAddHashed setAddHashedIn;refine Aw (A0 (BE ho rfl hf ?_));dsimp only;have hsc:byScan (.ref x) es=false:=by unfold byScan;simp [Value.scannable]
 rw [hsc];simp only [AE,Ak];unfold setSearch;obtain⟨e,he,hn⟩:=b.free hs;obtain⟨n1,h1,h2,h3⟩:=uV_ b.mask (tupleKeyHash (intKind prog w) k) 0 he;have ht:10*turns t.mask<100000:=by
  unfold turns;rcases b.mask with e|e|e<;>rw [e]<;>decide
 refine A0 (fs_ ho rfl b hs hu en hx (fun hk=> ?_) (fun n ha hb hno=> ?_) 100000 0 none ⟨n1,h1,by lia,by rw [h3];exact hn⟩ (fun j hj=>absurd hj (by lia)) rfl)
 .exact A3 (h false s.heap es (Heap.SameBut.refl _ _) hS0 en (.inl ⟨hk,rfl⟩))
 .dsimp only;refine A0 (BE ho rfl hf ?_);dsimp only;have T1:=b.add (tupleKeyHash (intKind prog w) k) (.ref x) n ha (rX_ _ _ _) hb;have hpl:below t.place (sl t.mask (tupleKeyHash (intKind prog w) k) n)<=es.size:=by rw [<-b.size];exact(d1_ b.ris _).1
  have put:=o3_ t b.dum (sl t.mask (tupleKeyHash (intKind prog w) k) n);rw [put] at T1⊢;dsimp only at T1⊢;rw [A6 hp];refine A0 (i7_ hx ?_);simp only [Bx];generalize hpp:below t.place (sl t.mask (tupleKeyHash (intKind prog w) k) n)=p at T1 hpl⊢;generalize htt:({t with place:=insertAt t.place p (sl t.mask (tupleKeyHash (intKind prog w) k) n)}:SetTable)=t1 at T1⊢;have tm:t1.mask=t.mask:=by rw [<-htt]
  have tl:t1.led=led:=by rw [<-htt];exact hl
  have tp:t1.plain=true:=by rw [<-htt];exact hp
  have z1:(insertAt es p (tupleKeyHash (intKind prog w) k,Value.ref x)).size=es.size+1:=by_ hpl _;have hsl:sizeLine>=4096:=by rw [At];decide
  refine A0 (wpAny_storeSet_of ho rfl ?_ (by rw [z1];lia));have ho1:=(ib_ ho (insertAt es p (tupleKeyHash (intKind prog w) k,Value.ref x)) t1);have sb1:=B9 s.heap S (Obj.putSet (insertAt es p (tupleKeyHash (intKind prog w) k,Value.ref x)) t1);generalize s.heap.update S (Obj.putSet (insertAt es p (tupleKeyHash (intKind prog w) k,Value.ref x)) t1)=h1 at ho1 sb1⊢;have s1:t1.place.size=es.size+1:=by rw [T1.size,z1]
  have fl:t1.fill=es.size+1:=by unfold SetTable.fill;rw [T1.dum,s1];rfl
  have hk1:∀k x,IsTupleKey (intKind prog w) s.heap k x↔IsTupleKey (intKind prog w) h1 k x:=fun k x=>pf_ sb1 ho rfl ho1 rfl k x;have en1:=en.insert hk1 hpl hx hno;by_cases full:t1.tooFull=true
  .rw [full];simp only [D2,Bool.and_self,Bx];have fe:(es.size+1)*5>=t.mask*3:=by
    unfold SetTable.tooFull at full;rw [fl,tm] at full;simpa using full
   have hm:(t1.mask=7/\(insertAt es p (tupleKeyHash (intKind prog w) k,Value.ref x)).size=5)\/(t1.mask=31/\(insertAt es p (tupleKeyHash (intKind prog w) k,Value.ref x)).size=19):=by
    rw [z1,tm];rcases b.mask with e|e|e<;>lia
   obtain⟨pl,od,r1,r2,r3,r4,r5,r6,r7,r8⟩:=Tb.again hm;rw [<-z1,nR_];have hf1:t1.fits (insertAt es p (tupleKeyHash (intKind prog w) k,Value.ref x)).size=true:=dr_ T1 (by rcases hm with⟨e1,e2⟩|⟨e1,e2⟩<;>lia)
   refine A0 ?_;refine A0 (BE (s:={s with heap:=h1}) ho1 rfl hf1 ?_);dsimp only;rw [A5 (by lia)];rw [r1];dsimp only;rw [show((od.filterMap ((insertAt es p (tupleKeyHash (intKind prog w) k,Value.ref x))[·]?)).size !=(insertAt es p (tupleKeyHash (intKind prog w) k,Value.ref x)).size)=false from by rw [r3];simp];simp only [AE,Ak];refine A0 (A3 ?_);refine wpAny_storeSet_of (s:={s with heap:=h1}) ho1 rfl ?_ (by rw [r3,z1];lia);have ho2:=(ib_ ho1 (od.filterMap ((insertAt es p (tupleKeyHash (intKind prog w) k,Value.ref x))[·]?)) {mask:=sizeAbove (grown (insertAt es p (tupleKeyHash (intKind prog w) k,Value.ref x)).size)-1,place:=pl,dummies:= #[],finger:=t1.finger,led:=t1.led,moves:=t1.movedTo (sizeAbove (grown (insertAt es p (tupleKeyHash (intKind prog w) k,Value.ref x)).size)-1),plain:=t1.plain});have sb2:=B9 h1 S (Obj.putSet (od.filterMap ((insertAt es p (tupleKeyHash (intKind prog w) k,Value.ref x))[·]?)) {mask:=sizeAbove (grown (insertAt es p (tupleKeyHash (intKind prog w) k,Value.ref x)).size)-1,place:=pl,dummies:= #[],finger:=t1.finger,led:=t1.led,moves:=t1.movedTo (sizeAbove (grown (insertAt es p (tupleKeyHash (intKind prog w) k,Value.ref x)).size)-1),plain:=t1.plain});dsimp only at ho2 sb2⊢;generalize h1.update S _=h2 at ho2 sb2⊢;have hk2:∀k x,IsTupleKey (intKind prog w) h1 k x↔IsTupleKey (intKind prog w) h2 k x:=fun k x=>pf_ sb2 ho1 rfl ho2 rfl k x;refine A3 (h true h2 _ (sb1.trans sb2) ⟨_,_,ho2,r2,tl,tp,by rw [r3];exact r7⟩ (en1.perm hk2 (fun i=>od.getD i 0) (fun i hi=> ?_) fun i j hi hj e=>r5 i j (by rw [<-r3];exact hi) (by rw [<-r3];exact hj) e) (.inr ⟨hno,by rw [r3,z1],fun v=> ?_⟩))
   .rw [r3] at hi;obtain⟨q,q1,q2,q3⟩:=r4 i hi;rw [<-q3];exact⟨q1,q2⟩
   .rw [<-mG_ hpl];constructor
    .rintro⟨i,e⟩;obtain⟨q,q1,q2,q3⟩:=r4 i (by rw [<-r3];exact do_ e);exact⟨q,by rw [<-q2];exact e⟩
    .rintro⟨i,e⟩;obtain⟨i',hi',e'⟩:=r6 i (do_ e);obtain⟨q,q1,q2,q3⟩:=r4 i' hi';exact⟨i',by rw [q2,q3,e'];exact e⟩
  .rw [show t1.tooFull=false from by simpa using full];simp only [D2,D3,AE,Ak];have fe:(es.size+1)*5<t1.mask*3:=by
    unfold SetTable.tooFull at full;rw [fl] at full;simpa using full
   exact A3 (h true h1 _ sb1 ⟨_,_,ho1,T1,tl,tp,by rw [z1];exact fe⟩ en1 (.inr ⟨hno,z1,fun v=>mG_ hpl _ _⟩))
end
end L2
namespace L2
open PySem PySem.SetTable PySem.Spec PyProof.Rows
section
variable {prog:Program}{w:World}{A:Around}{E:Value->Shared->Prop}{s:Shared}
theorem Ent.mv {h h':Heap}{es:Array (Int×Value)} (en:Ent prog w h es) (hk:∀(i:Nat) (k:List Int) (g:Int) (x:Addr),es[i]? =some (g,Value.ref x)->IsTupleKey (intKind prog w) h k x->IsTupleKey (intKind prog w) h' k x):Ent prog w h' es:=by
 refine⟨fun i hi=> ?_,fun i j k b c g g' e1 e2 k1 k2=> ?_⟩
 .obtain⟨k,b,e,q⟩:=en.ent i hi;exact⟨k,b,e,hk i k _ b e q⟩
 .obtain⟨k',b',e1',q1⟩:=en.ent i (do_ e1);obtain⟨k'',b'',e2',q2⟩:=en.ent j (do_ e2);rw [e1] at e1';rw [e2] at e2';simp only [Az,BV,Bm] at e1' e2';obtain⟨rfl,rfl⟩:=e1';obtain⟨rfl,rfl⟩:=e2';have:=k1.inj (hk i k' _ b e1 q1);subst this;have:=k2.inj (hk j k'' _ c e2 q2);subst this;exact en.dis i j _ _ _ _ _ e1 e2 q1 q2
structure Made (prog:Program) (w:World) (kk:Nat->List Int) (ad:Nat->Addr) (i:Nat) (es:Array (Int×Value)):Prop where
 size:es.size<=i
 from_:∀(p:Nat) (v:Int×Value),es[p]? =some v->∃j,j<i/\v=(tupleKeyHash (intKind prog w) (kk j),Value.ref (ad j))
 all:∀j,j<i->∃(p j':Nat),j'<i/\kk j'=kk j/\es[p]? =some (tupleKeyHash (intKind prog w) (kk j'),Value.ref (ad j'))
theorem Made.step {kk:Nat->List Int}{ad:Nat->Addr}{i:Nat}{es es':Array (Int×Value)}{h:Heap} (m:Made prog w kk ad i es) (en:Ent prog w h es) (hkk:∀j,j<=i->IsTupleKey (intKind prog w) h (kk j) (ad j))
  (c:ri_ prog w h es (kk i)/\es'=es\/¬ri_ prog w h es (kk i)/\es'.size=es.size+1/\∀v,(∃p:Nat,es'[p]? =some v)↔(∃p:Nat,es[p]? =some v)\/v=(tupleKeyHash (intKind prog w) (kk i), .ref (ad i))):
  Made prog w kk ad (i+1) es':=by
 rcases c with⟨⟨p,b,e,q⟩,rfl⟩|⟨_,z,mem⟩
 .refine⟨Nat.le_succ_of_le m.size,fun p v e=> ?_,fun j hj=> ?_⟩
  .obtain⟨j,hj,ev⟩:=m.from_ p v e;exact⟨j,by lia,ev⟩
  .by_cases c:j<i
   .obtain⟨p,j',hj',ek,ev⟩:=m.all j c;exact⟨p,j',by lia,ek,ev⟩
   .have:j=i:=by lia
    subst this;obtain⟨j',hj',ev⟩:=m.from_ p _ e;simp only [BV,Bm] at ev;obtain⟨_,rfl⟩:=ev;have:=q.inj (hkk j' (by lia));exact⟨p,j',by lia,this.symm,by rw [e,this]⟩
 .refine⟨by rw [z];have:=m.size;lia,fun p v e=> ?_,fun j hj=> ?_⟩
  .rcases(mem v).mp ⟨p,e⟩ with⟨p',e'⟩|e'
   .obtain⟨j,hj,ev⟩:=m.from_ p' v e';exact⟨j,by lia,ev⟩
   .exact⟨i,by lia,e'⟩
  .by_cases c:j<i
   .obtain⟨p,j',hj',ek,ev⟩:=m.all j c;obtain⟨p',e'⟩:=(mem _).mpr (.inl ⟨p,ev⟩);exact⟨p',j',by lia,ek,e'⟩
   .have:j=i:=by lia
    subst this;obtain⟨p',e'⟩:=(mem _).mpr (.inr rfl);exact⟨p',j,by lia,rfl,e'⟩
theorem nh_.mv {h h':Heap}{S:Addr}{led:Bool}{es:Array (Int×Value)} (a:nh_ h S led es) (e:∀o,h.get? S=some o->h'.get? S=some o):nh_ h' S led es:=by
 obtain⟨ep,t,ho,r⟩:=a;exact⟨ep,t,e _ ho,r⟩
theorem hL_ {h h':Heap}{k:List Int}{x:Addr} (q:IsTupleKey (intKind prog w) h k x) (e:∀o,h.get? x=some o->h'.get? x=some o):IsTupleKey (intKind prog w) h' k x:=by
 obtain⟨o,items,n,ho,r⟩:=q;exact⟨o,items,n,e _ ho,r⟩
theorem no_ {R:Result->Shared->Prop}{I:Addr}{fp wr:List Addr}{G:Array GenState->Array GenState->Prop}{n:Nat}{P:Nat->Value->Prop}{St:Nat->Shared->Prop}
  (Wq:WalksS prog w A.in1 I fp wr G n P St) (S:Addr) (hSf:S∉fp) (hu:A.in1.units<cLine) (led:Bool)
  (kk:Nat->List Int) (ad:Nat->Addr) (hval:∀i v,P i v->v= .ref (ad i)) (hwr:∀i,i<n->ad i∉wr) (hb:n<64):
  ∀(k i:Nat) (s:Shared) (es:Array (Int×Value)),n-i=k->i<=n->St i s->nh_ s.heap S led es->Ent prog w s.heap es->Made prog w kk ad i es->(∀j,j<n->IsTupleKey (intKind prog w) s.heap (kk j) (ad j))->
   (∀s' es',Moved (S::wr) G s s'->nh_ s'.heap S led es'->Ent prog w s'.heap es'->Made prog w kk ad n es'->R (.ok (.ret .none)) s')->
   codeAny (model prog w) A (.builtin "set.update.loop" ⟨[.ref S, .ref I],[]⟩) R s:=by
 have hSw:S∉wr:=fun h=>hSf (Wq.sub _ h);have hsub:∀b∈wr,b∈S::wr:=fun b hb=>AM _ hb;intro k;induction k with
 |zero=>
  intro i s es hk hi hst hS en mk hkk hR;have hin:i=n:=by lia
  subst hin;refine Bl F.entry_set_update_loop ?_;rw [Bi F.plain_set_update_loop _];show wpAny _ A.in1 (pyNext (.ref I)>>=_) _ _ s;refine A0 (Wq.done s _ _ hst fun s' hm=> ?_);show wpAny _ A.in1 (ret Value.none) _ _ s';refine A3 (hR s' es (hm.mono hsub) (hS.mv fun o e=>hm.heap S o hSw e) (en.mv fun p k g x e q=>hL_ q fun o e'=> ?_) mk);obtain⟨j,hj,ev⟩:=mk.from_ p _ e;simp only [BV,Bm] at ev;obtain⟨_,rfl⟩:=ev;exact hm.heap _ o (hwr j hj) e'
 |succ k ih=>
  intro i s es hk hi hst hS en mk hkk hR;have hlt:i<n:=by lia
  refine Bl F.entry_set_update_loop ?_;rw [Bi F.plain_set_update_loop _];show wpAny _ A.in1 (pyNext (.ref I)>>=_) _ _ s;refine A0 (Wq.item i s _ _ hlt hst fun v s' hP hst' hm=> ?_);obtain rfl:=hval i v hP;have hS':nh_ s'.heap S led es:=hS.mv fun o e=>hm.heap S o hSw e;have hkk':∀j,j<n->IsTupleKey (intKind prog w) s'.heap (kk j) (ad j):=fun j hj=>hL_ (hkk j hj) fun o e=>hm.heap _ o (hwr j hj) e;have en':Ent prog w s'.heap es:=en.mv fun p k g x e q=>hL_ q fun o e'=>by
   obtain⟨j,hj,ev⟩:=mk.from_ p _ e;simp only [BV,Bm] at ev;obtain⟨_,rfl⟩:=ev;exact hm.heap _ o (hwr j (by lia)) e'
  show wpAny _ A.in1 (holding [Value.ref (ad i)] (setAdd S (.ref (ad i)))>>=_) _ _ s';refine A0 (Aw ?_);unfold setAdd;refine Aw ?_;refine A0 (wpAny_pyHash_tuple hu (hkk' i hlt) ?_);refine rb_ (s:={s' with toks:=s'.toks+((kk i).length+1)}) hS' en' (hkk' i hlt) hu (by have:=mk.size;lia) fun b h' es' hsb hS2 en2 c=> ?_;have hkS:∀j,j<n->ad j≠S:=by
   intro j hj e;obtain⟨o,items,m,ho,_,hd,_⟩:=hkk' j hj;obtain⟨ep,t,ho',_⟩:=hS';rw [e,ho',Az] at ho;subst ho;exact nomatch hd
  refine A3 ⟨Cv F.plain_set_update_loop _,ih (i+1) _ es' (by lia) hlt (Wq.frame _ s' _ _ hst' (Nat.le_add_right _ _) fun b hb o e=> ?_) hS2 en2 (mk.step en' (fun j hj=>hkk' j (by lia)) c) (fun j hj=>hL_ (hkk' j hj) fun o e=> ?_) fun s'' es'' hm'' hS'' en'' mk''=> ?_⟩
  .rw [hsb.2 b (fun h:b=S=>hSf (by rw [<-h];exact hb))];exact e
  .show h'.get? _=_;rw [hsb.2 _ (hkS j hj)];exact e
  .refine hR s'' es'' (Moved.trans Wq.gtrans ((hm.mono hsub).then_heap (Nat.le_add_right _ _) fun b o hb e=> ?_) hm'') hS'' en'' mk'';rw [hsb.2 b (fun h:b=S=>hb (by rw [h];exact AI))];exact e
theorem qz_ (a:Value) {Q₁:Value->Shared->Prop}
  (h:Q₁ (.ref s.heap.objs.size) {s with heap:=s.heap.push {cls:= .type "set",dict:=none,data:= .set #[] 0 (.fresh 0 0 (!w.params.followText "set-order"))}}):
  codeAny (model prog w) A (.call (.builtin "set.__new__") ⟨[.type "set",a],[]⟩) (wants Q₁ E) s:=by
 refine codeAny_of_tree ?_;show wpAny _ A.in1 (do checkBuiltinCall "set.__new__" ⟨[.type "set",a],[]⟩;again (.builtin "set.__new__" ⟨[.type "set",a],[]⟩)) _ _ s;refine A0 (wpAny_of_eq (F.newCall_set_1 a) (A3 ⟨Cv F.plain_set_new _,Bl F.entry_set_new ?_⟩));rw [Bi F.plain_set_new _];unfold Builtin.«set.__new__» Builtin.Frozenset.newClass;have hsub:=sub_set_self;obtain⟨hp,g,d,tk,os⟩:=s;dsimp only
 wp_walk
 refine Cr (A3 ?_);dsimp only;simp only [newObj];refine A0 (wpAny_alloc (A3 ?_));exact A3 h
theorem oA_ (led:Bool):Tb (.fresh 0 0 led) #[]:=
 ⟨.inl rfl,rfl,rfl,fun i j _ h=>absurd h (by show¬j<0;lia),fun i h=>absurd h (by show¬i<0;lia),fun i h=>absurd h (by show¬i<0;lia)⟩
set_option maxHeartbeats 3200000 in
theorem h2_ {l:Addr}{items:Array Value}{kk:Nat->List Int}{ad:Nat->Addr}{Q:Value->Shared->Prop}
  (hh:A.handled=none) (hu:A.units+8<cLine) (hl:s.heap.IsList l items) (hn:items.size<64)
  (hk:∀i,i<items.size->items[i]? =some (.ref (ad i))/\IsTupleKey (intKind prog w) s.heap (kk i) (ad i))
  (h:∀(h':Heap) (tk:Nat) (es:Array (Int×Value)),nh_ h' s.heap.objs.size (!w.params.followText "set-order") es->Ent prog w h' es->Made prog w kk ad items.size es->
   (∀b o,b<s.heap.objs.size->s.heap.get? b=some o->h'.get? b=some o)->Q (.ref s.heap.objs.size) {s with heap:=h',toks:=tk}):
  wpAny (model prog w) A (call (.type "set") [.ref l]) Q E s:=by
 obtain⟨c,tl,hmro⟩:=CS.mro;have hmade:=CS.made;have hsub:=CS.sub;refine wpAny_call (codeAny_of_tree ?_);show wpAny _ _ (callAny (.type "set") _) _ _ _;refine A3 ⟨Code.quiet_builtin _ (by ac_nf),Bl F.entry_type_call ?_⟩;rw [Around.under_plain (weight_type_call_type "set" [.ref l] []) rfl];have h1:=CS.notType;have h2:=CS.canCreate;have hct:=F.typeCall_set_1 (.ref l)
 repeat (any_goals (first|assumption|wp_step))
 refine Ce (qz_ (.ref l) (E:=E) (Q₁:=fun obj s₁=>obj= .ref s.heap.objs.size/\s₁={s with heap:=s.heap.push {cls:= .type "set",dict:=none,data:= .set #[] 0 (.fresh 0 0 (!w.params.followText "set-order"))}}) ⟨rfl,rfl⟩) fun r s₁ hr=> ?_;generalize (!w.params.followText "set-order")=led at h hr;cases r with
 |error e=>exact hr
 |ok fl=>
  cases fl with
  |ret obj=>
   obtain⟨rfl,rfl⟩:=hr;have hS:(s.heap.push {cls:= .type "set",dict:=none,data:= .set #[] 0 (.fresh 0 0 led)}).get? s.heap.objs.size=some {cls:= .type "set",dict:=none,data:= .set #[] 0 (.fresh 0 0 led)}:=AL _ rfl;have hT:Shared.TypeIs {s with heap:=s.heap.push {cls:= .type "set",dict:=none,data:= .set #[] 0 (.fresh 0 0 led)}} (.ref s.heap.objs.size) "set":=⟨_,hS,rfl⟩;have hli:=CS.init.lookup;have hbi:=CS.init.bind (.ref s.heap.objs.size)
   repeat (any_goals (first|assumption|wp_step))
   refine Ce (codeAny_call_builtin (R:=wants (fun r s₂=>r= .none/\∃h' tk es,s₂={s with heap:=h',toks:=tk}/\
     nh_ h' s.heap.objs.size led es/\Ent prog w h' es/\Made prog w kk ad items.size es/\
     (∀b o,b<s.heap.objs.size->s.heap.get? b=some o->h'.get? b=some o)) E) CS.init.plain F.entry_set_init (check_set_init_1 hT ?_)) fun r₂ s₂ hr₂=> ?_
   .obtain⟨ol,hol,hcl,nl,hdl⟩:=hl;obtain⟨ocls,odict,odata,oslots⟩:=ol;simp only at hcl hdl;subst hcl;subst hdl;have hol':(s.heap.push {cls:= .type "set",dict:=none,data:= .set #[] 0 (.fresh 0 0 led)}).get? l=some {cls:= .type "list",dict:=odict,data:= .seq items nl,slots:=oslots}:=A9 _ hol;have hsls:=F.sub_list_set;have hslf:=F.sub_list_frozenset;have hne:(Value.type "list"==Value.type "dict")=false:=by decide
    have hl1:(s.heap.push {cls:= .type "set",dict:=none,data:= .set #[] 0 (.fresh 0 0 led)}).IsList l items:=⟨_,hol',rfl,nl,rfl⟩;unfold Builtin.«set.__init__» noKeywords Builtin.Frozenset.updateFrom;generalize hPI:pyIter=PI
    wp_walk
    subst hPI;refine wpAny_pyIter_list hl1 ?_;refine A0 (wpAny_runValue ?_);have hlS:l<s.heap.objs.size:=AN hol;have hh3:A.in1.in1.in1.handled=none:=by simp [hh]
    have hneI:l≠(s.heap.push {cls:= .type "set",dict:=none,data:= .set #[] 0 (.fresh 0 0 led)}).objs.size:=by
     rw [BR];exact AO (Ag hlS)
    have hSf:s.heap.objs.size∉[(s.heap.push {cls:= .type "set",dict:=none,data:= .set #[] 0 (.fresh 0 0 led)}).objs.size,l]:=by
     rw [BR];simp only [AK,AU,Bb,Cw,not_or];exact⟨AO (Ba _),CG hlS⟩
    refine no_ ((Walks.list hh3 _ l hneI items).toS) s.heap.objs.size
     hSf ?hu led kk ad ?hval ?hwr hn (items.size-0) 0 _ #[] (by lia) (AS _)
     ⟨⟨_,AL _ rfl,rfl,rfl⟩,(hl1.push _)⟩ ?hS0 ?hE0 ?hM0 ?hkk ?hR
    case hu=>show A.units+3<cLine;lia
    case hval=>
     intro i v hv;have hi:i<items.size:=do_ hv;rw [(hk i hi).1,Az] at hv;exact hv.symm
    case hwr=>
     intro i hi;obtain⟨o,_,_,ho,_⟩:=(hk i hi).2;have:=AN ho;rw [BR];simp only [AK,Bb,Cw];exact AO (Ag this)
    case hS0=>exact⟨_,_,A9 _ hS,oA_ led,rfl,rfl,by show 0*5<7*3;decide⟩
    case hE0=>exact⟨fun i hi=>absurd hi (by show¬i<0;lia),fun i j k b c g g' e=>by simp at e⟩
    case hM0=>exact⟨A8 0,fun p v e=>by simp at e,fun j hj=>absurd hj (by lia)⟩
    case hkk=>exact fun j hj=>hL_ (hk j hj).2 fun o e=>A9 _ (A9 _ e)
    case hR=>
     intro s' es' hm hS' en' mk';obtain⟨h',g',d',tk',os'⟩:=s';have eg:g'=s.gens:=hm.gens;have ed:d'=s.drawn:=hm.drawn;have eo:os'=s.os:=hm.os;subst eg;subst ed;subst eo;show wpAny _ _ _ _ _ _;refine A3 ?_;show wpAny _ _ (ret Value.none) _ _ _;refine A3 ⟨rfl,h',tk',es',rfl,hS',en',mk',fun b o hb e=> ?_⟩;have hb1:b≠s.heap.objs.size:=AO hb;have hb2:b≠(s.heap.push {cls:= .type "set",dict:=none,data:= .set #[] 0 (.fresh 0 0 led)}).objs.size:=by
      rw [BR];exact AO (Ag hb)
     exact hm.heap b o (by simp only [AK,AU,Bb,Cw,not_or];exact⟨hb1,hb2⟩) (A9 _ (A9 _ e))
   .cases r₂ with
    |error e=>exact hr₂
    |ok fl₂=>
     cases fl₂ with
     |ret r=>
      obtain⟨rfl,h',tk,es,rfl,hS',en',mk',hk'⟩:=hr₂
      repeat (any_goals (first|assumption|wp_step))
      exact h _ _ _ hS' en' mk' hk'
     |_=>exact hr₂.elim
  |_=>exact hr.elim
end
end L2
namespace L2
open PySem PySem.SetTable PySem.Spec PyProof.Rows
theorem e6_:entryFor table "set.__iter__"=some Builtin.«frozenset.__iter__»:=
 entryFor_alias (id':="frozenset.__iter__") (by kernel_rfl) rfl (by ac_nf) (by kernel_rfl)
theorem dd_:Slot "set_iterator" "__iter__" "set_iterator.__iter__":=
 .of (owner:="set_iterator") (n:="__iter__") (by rw [typeLookup_type,builtinLookup_eq_fast];kernel_rfl) (by ac_nf) (by ac_nf) (by ac_nf)
  (by first|exact .inl (by ac_nf)|exact .inr (by ac_nf)) (by rw [isSubtype_type];kernel_rfl)
theorem e5_:entryFor table "set_iterator.__iter__"=some Builtin.«dict_keyiterator.__iter__»:=
 entryFor_alias (id':="dict_keyiterator.__iter__") (by kernel_rfl) rfl (by ac_nf) (by kernel_rfl)
theorem fp_ (a:Value):argsOk "set_iterator.__iter__" ⟨[a],[]⟩:=by unfold argsOk;kernel_rfl
theorem aW_:Slot "set_iterator" "__next__" "set_iterator.__next__":=
 .of (owner:="set_iterator") (n:="__next__") (by rw [typeLookup_type,builtinLookup_eq_fast];kernel_rfl) (by ac_nf) (by ac_nf) (by ac_nf)
  (by first|exact .inl (by ac_nf)|exact .inr (by ac_nf)) (by rw [isSubtype_type];kernel_rfl)
theorem c3_:entryFor table "set_iterator.__next__"=some Builtin.«set_iterator.__next__»:=entryFor_of_tree (by kernel_rfl)
theorem dp_ (a:Value):argsOk "set_iterator.__next__" ⟨[a],[]⟩:=by unfold argsOk;kernel_rfl
theorem mP_ {α:Type}:∀(l:List α) (i:Nat) (h:i<l.length),([l[i]]++l.eraseIdx i).Perm l
 |[],i,h=>absurd h (by simp)
 |a::l,0,h=>by simp
 |a::l,i+1,h=>by
  have hi:i<l.length:=by simpa using h
  have:=mP_ l i hi;simp only [List.getElem_cons_succ,List.eraseIdx_cons_succ,List.singleton_append] at this⊢;exact(List.Perm.swap a l[i] _).trans (this.cons a)
theorem lM_ {α:Type} (next:Nat->Nat):∀(f k:Nat) (left:List α) (out:Array α),left.length=f->(pickOrder.go next f k left out).toList.Perm (out.toList++left)
 |0,k,left,out,e=>by
  have:left=[]:=List.length_eq_zero_iff.mp e;subst this;unfold pickOrder.go;simp
 |f+1,k,left,out,e=>by
  have hp:next k%left.length<left.length:=Cy _ (by lia);unfold pickOrder.go;rw [A1 hp];dsimp only;refine(lM_ next f (k+1) _ _ (by rw [List.length_eraseIdx_of_lt hp];lia)).trans ?_;rw [Array.toList_push,BB];refine List.Perm.append_left _ ?_;exact mP_ left _ hp
theorem lL_ {α:Type} (next:Nat->Nat) (xs:Array α):(pickOrder next xs).toList.Perm xs.toList:=by
 unfold pickOrder;simpa using lM_ next xs.size 0 xs.toList #[] (by simp)
noncomputable def nl_ (w:World) (a:Addr) (ep:Nat) (es:Array (Int×Value)):Array (Int×Value):=if w.params.followText "set-order" then pickOrder (w.params.setOrder a ep) es else es
theorem kW_ (w:World) (a:Addr) (ep:Nat) (es:Array (Int×Value)):(nl_ w a ep es).toList.Perm es.toList:=by
 unfold nl_;split
 .exact lL_ _ _
 .exact List.Perm.refl _
theorem ii_ (w:World) (a:Addr) (ep:Nat) (es:Array (Int×Value)):(nl_ w a ep es).size=es.size:=by
 have:=(kW_ w a ep es).length_eq;simpa using this
noncomputable def fd_ (w:World) (t:SetTable) (i:Nat):Nat:=if w.params.followText "set-order" then 0 else if i=0 then 0 else t.place.getD (i-1) 0+1
theorem h8_ {xs:Array Nat} (r:Ris xs) {j p:Nat} (hp:p<=xs.size) (h1:∀i,i<p->xs.getD i 0<j) (h2:∀i,p<=i->i<xs.size->j<=xs.getD i 0):below xs j=p:=by
 obtain⟨a1,a2,a3⟩:=d1_ r j;rcases Nat.lt_trichotomy (below xs j) p with c|c|c
 .have:=h1 _ c;have:=a3 _ (A8 _) (by lia);lia
 .exact c
 .have:=a2 _ c;have:=h2 p (A8 _) (by lia);lia
theorem oP_ {t:SetTable} (r:Ris t.place) {i:Nat} (hi:i<=t.place.size):below t.place (if i=0 then 0 else t.place.getD (i-1) 0+1)=i:=by
 by_cases z:i=0
 .subst z;exact h8_ r (AS _) (fun i h=>absurd h (by lia)) fun i _ _=>AS _
 .rw [A5 z];refine h8_ r hi (fun j hj=> ?_) fun j h1 h2=> ?_
  .rcases BI j (i-1) with c|c
   .have:=r j (i-1) c (by lia);lia
   .have:j=i-1:=by lia
    subst this;lia
  .have:=r (i-1) j (by lia) h2;lia
section
variable {prog:Program}{w:World}{A:Around}{E:Value->Shared->Prop}{s:Shared}
theorem qy_ (a:Addr) (slot given epochThen:Nat):setNext a slot given epochThen=(do
  let (es,epoch,t)<-setState a
  if<-setsByText then
   if epoch !=epochThen then unsupported "set_iterator.__next__:elements-changed"
   return ((<-setWalk a)[given]?).map fun e=>(e.2,slot)
  if !t.plain&&es.size>1 then unsupported "set_iterator.__next__:the-table-is-plain-no-more"
  (do if !t.led&& !es.isEmpty then unsupported "set:maker-not-led":Sem Unit)
  let i:=SetTable.below t.place slot
  return match es[i]?,t.place[i]? with
   |some (_,x),some j=>some (x,j+1)
   |_,_=>none):=rfl
theorem jt_ {S:Addr}{es:Array (Int×Value)}{ep:Nat}{t:SetTable}{i:Nat}{Q:Option (Value×Nat)->Shared->Prop}
  (ho:s.heap.get? S=some {cls:= .type "set",dict:=none,data:= .set es ep t}) (b:Tb t es) (hs:es.size<=t.mask) (hl:t.led= !w.params.followText "set-order") (hp:t.plain=true) (hi:i<=es.size)
  (h:Q (((nl_ w S ep es)[i]?).map fun e=>(e.2,fd_ w t (i+1))) s):wpAny (model prog w) A (setNext S (fd_ w t i) i ep) Q E s:=by
 have hf:=dr_ b hs;rw [qy_];refine A0 (BE ho rfl hf ?_);dsimp only;unfold setsByText;refine A0 (A0 (Cr (A3 ?_)));show wpAny _ _ (if(w.params.followText "set-order")=true then _ else _) _ _ s;unfold nl_ fd_ at h;unfold fd_;cases ht:w.params.followText "set-order" with
 |true=>
  rw [ht] at h;simp only [Bx] at h⊢;simp only [CW,AE,Ak];unfold setWalk;refine A0 (A0 (BE ho rfl hf ?_));dsimp only;unfold setsByText;refine A0 (A0 (Cr (A3 ?_)));show wpAny _ _ (if(w.params.followText "set-order")=true then _ else _) _ _ s;rw [ht];simp only [Bx];refine A0 (Cr (A3 ?_));exact A3 h
 |false=>
  rw [ht] at h hl;simp only [AE,Ak] at h⊢;rw [hp,hl];simp only [BG,D2,Bool.false_and,AE,Ak];refine A0 (A3 ?_);rw [oP_ b.ris (by rw [b.size];exact hi)];refine A3 ?_;rcases BI i es.size with c|c
  .have c':i<t.place.size:=by rw [b.size];exact c
   have e2:t.place.getD (i+1-1) 0=t.place[i]:=by simp [Array.getD,c']
   rw [Aj c] at h⊢;rw [Aj c'];rw [A5 (by lia),e2] at h;exact h
  .rw [BX c] at h⊢;exact h
noncomputable def fq_ (h:Heap) (it S:Addr) (slot i n ep:Nat):Prop:=∃o,h.get? it=some o/\o.cls= .type "set_iterator"/\o.data= .fields #[.int slot 0, .int i 0, .ref S, .int n 0, .int ep 0]
theorem fq_.typeIs {it S:Addr}{slot i n ep:Nat} (x:fq_ s.heap it S slot i n ep):s.TypeIs (.ref it) "set_iterator":=let ⟨o,ho,hc,_⟩:=x;⟨o,ho,hc⟩
theorem fq_.mv {h h':Heap}{it S:Addr}{slot i n ep:Nat} (x:fq_ h it S slot i n ep) (e:∀o,h.get? it=some o->h'.get? it=some o):fq_ h' it S slot i n ep:=let ⟨o,ho,r⟩:=x;⟨o,e _ ho,r⟩
theorem os_ {S:Addr}{es:Array (Int×Value)}{ep:Nat}{t:SetTable}{Q:Value->Shared->Prop}
  (ho:s.heap.get? S=some {cls:= .type "set",dict:=none,data:= .set es ep t}) (b:Tb t es) (hs:es.size<=t.mask) (hp:t.plain=true)
  (h:Q (.ref s.heap.objs.size) {s with heap:=s.heap.push {cls:= .type "set_iterator",data:= .fields #[.int (fd_ w t 0:Nat) 0, .int (0:Nat) 0, .ref S, .int es.size 0, .int ep 0]}}):
  wpAny (model prog w) A (pyIter (.ref S)) Q E s:=by
 have hT:s.TypeIs (.ref S) "set":=⟨_,ho,rfl⟩;have hf:=dr_ b hs;refine wpAny_pyIter_slot hT F.slot_set_iter (Ar F.slot_set_iter hT e6_ ?_ (F.args_set_iter_1 _));unfold Builtin.«frozenset.__iter__» Builtin.Frozenset.slot0 slotArgs;simp only [List.isEmpty_nil,BG,AE,↓reduceIte,bind_assoc,List.length_nil,CW];unfold Builtin.Frozenset.addrOf Builtin.Frozenset.sizeOf setEntries;refine A0 (A3 ?_);try dsimp only
 refine A0 (A3 ?_);refine A0 (A0 (A0 (BE ho rfl hf (A3 (A3 ?_)))));have hdr:∀{Q':Bool->Shared->Prop},Q' false s->wpAny (model prog w) A.in1 (setDrawn S) Q' E s:=by
  intro Q' q;unfold setDrawn;refine A0 (BE ho rfl hf ?_);dsimp only;unfold setsByText;refine A0 (A0 (Cr (A3 ?_)));refine A3 ?_;have:(!t.plain&&decide (es.size>1))=false:=by rw [hp];rfl
  show Q' (!w.params.followText "set-order"&&(!t.plain&&decide (es.size>1))) s;rw [this,D3];exact q
 refine A0 (hdr ?_);simp only [AE,Ak];refine A0 (A3 ?_);refine A0 (wpAny_setEpoch_of ho rfl hf ?_);unfold newFields;refine A0 (Av (A3 ⟨_,rfl,"set_iterator",_,⟨_,AL _ rfl,rfl⟩,aW_.lookup, ?_⟩));have e0:fd_ w t 0=0:=by unfold fd_;split<;>rfl
 rw [e0] at h;simpa [rawInt] using h
theorem fK_ {h:Heap}{a:Addr}{o:Obj}{vs:Array Value} (ho:h.get? a=some o) (hd:o.data= .fields vs) (f:Array Value->Array Value):
  ∃o',(h.update a (Obj.mapFields f)).get? a=some o'/\o'.cls=o.cls/\o'.data= .fields (f vs):=
 ⟨_,CI _ ho (Obj.isFreed_of_fields (C7 hd _)),Obj.cls_mapFields ..,C7 hd _⟩
theorem lp_ {it S:Addr}{es:Array (Int×Value)}{ep:Nat}{t:SetTable}{i:Nat}{e:Int×Value}{Q:Option Value->Shared->Prop} (hit:fq_ s.heap it S (fd_ w t i) i es.size ep)
  (ho:s.heap.get? S=some {cls:= .type "set",dict:=none,data:= .set es ep t}) (b:Tb t es) (hs:es.size<=t.mask) (hl:t.led= !w.params.followText "set-order") (hp:t.plain=true) (hi:i<es.size)
  (he:(nl_ w S ep es)[i]? =some e) (hQ:∀h',fq_ h' it S (fd_ w t (i+1)) (i+1) es.size ep->Heap.SameBut it s.heap h'->Q (some e.2) {s with heap:=h'}):
  wpAny (model prog w) A (pyNext (.ref it)) Q E s:=by
 obtain⟨o,hoi,hc,hd⟩:=id hit;have hf:=dr_ b hs;unfold pyNext;refine A0 (CF (BH (name:=Str.ofString "__next__") hit.typeIs aW_
  (Ar aW_ hit.typeIs c3_ ?_ (dp_ _))))
 show wpAny _ _ (fieldsOf (.ref it)>>=_) _ _ s;refine A0 (Cd hoi hd ?_);dsimp only;unfold setEntries;refine A0 (A0 (BE ho rfl hf (A3 ?_)));dsimp only;rw [A5 (by simp)];simp only [Ab];refine A0 (jt_ ho b hs hl hp (AW hi) ?_);rw [he];dsimp only [Option.map_some];refine A0 (CL hoi hd (by simp) ?_);obtain⟨o1,ho1,hc1,hd1⟩:=fK_ hoi hd (·.setIfInBounds 0 (rawInt (fd_ w t (i+1):Nat)));have sb1:=B9 s.heap it (Obj.mapFields (·.setIfInBounds 0 (rawInt (fd_ w t (i+1):Nat))));generalize s.heap.update it (Obj.mapFields (·.setIfInBounds 0 (rawInt (fd_ w t (i+1):Nat))))=h1 at ho1 sb1⊢;refine A0 (CL (s:={s with heap:=h1}) ho1 hd1 (by simp) ?_);obtain⟨o2,ho2,hc2,hd2⟩:=fK_ ho1 hd1 (·.setIfInBounds 1 (rawInt ((i:Int)+1)));have sb2:=B9 h1 it (Obj.mapFields (·.setIfInBounds 1 (rawInt ((i:Int)+1))));dsimp only;generalize h1.update it (Obj.mapFields (·.setIfInBounds 1 (rawInt ((i:Int)+1))))=h2 at ho2 sb2⊢;refine A3 ⟨_,rfl,A3 (hQ _ ⟨o2,ho2,by rw [hc2,hc1,hc], ?_⟩ (sb1.trans sb2))⟩;rw [hd2];simp [rawInt]
theorem nG_ {it S:Addr}{es:Array (Int×Value)}{ep:Nat}{t:SetTable}{Q:Option Value->Shared->Prop} (hh:A.handled=none) (hit:fq_ s.heap it S (fd_ w t es.size) es.size es.size ep)
  (ho:s.heap.get? S=some {cls:= .type "set",dict:=none,data:= .set es ep t}) (b:Tb t es) (hs:es.size<=t.mask) (hl:t.led= !w.params.followText "set-order") (hp:t.plain=true)
  (hQ:∀h',Heap.ExtBut it s.heap h'->Q none {s with heap:=h'}):
  wpAny (model prog w) A (pyNext (.ref it)) Q E s:=by
 obtain⟨o,hoi,hc,hd⟩:=id hit;have hf:=dr_ b hs;unfold pyNext;refine A0 (CF (BH (name:=Str.ofString "__next__") hit.typeIs aW_
  (Ar aW_ hit.typeIs c3_ ?_ (dp_ _))))
 show wpAny _ _ (fieldsOf (.ref it)>>=_) _ _ s;refine A0 (Cd hoi hd ?_);dsimp only;unfold setEntries;refine A0 (A0 (BE ho rfl hf (A3 ?_)));dsimp only;rw [A5 (by simp)];simp only [Ab];refine A0 (jt_ ho b hs hl hp (A8 _) ?_);rw [BX (by rw [ii_];exact A8 _)];dsimp only [Option.map_none];refine A0 (CL hoi hd (by simp) ?_);show wpAny _ _ (newExc (.type "StopIteration") []>>=_) _ _ _;refine A0 ?_;simp only [newExc,newTuple];refine A0 (Av ?_ (by size_fits));refine A0 (m:=firstArgMember _ _) (wpAny_of_eq (a:=Value.none) (by first|rfl|(simp only [firstArgMember];rfl)) ?_);refine Av ?_ (by size_fits);simp only [raiseNew];refine A0 (wpAny_handled ?_);rw [show A.in1.handled=none from hh];refine A0 (A3 (wpAny_throw ?_));refine A0 (C2 (T:="StopIteration") (b:=true) ⟨_,AL _ rfl,rfl⟩ isSubtype_stop ?_);exact A3 (hQ _ (((B9 ..).extBut.push _).push _))
theorem nm_ (hh:A.handled=none) (I S:Addr) (hne:S≠I) {es:Array (Int×Value)}{ep:Nat}{t:SetTable} (b:Tb t es) (hs:es.size<=t.mask) (hl:t.led= !w.params.followText "set-order") (hp:t.plain=true):
  Walks prog w A I [I,S] [I] es.size (fun i v=>∃e,(nl_ w S ep es)[i]? =some e/\v=e.2) (fun i h=>fq_ h I S (fd_ w t i) i es.size ep/\h.get? S=some {cls:= .type "set",dict:=none,data:= .set es ep t}) where
 sub:=fun b hb=>by simp at hb;simp [hb]
 frame:=fun _ _ _ st hk=>⟨st.1.mv fun o e=>hk I (by simp) o e,hk S (by simp) _ st.2⟩
 item:=fun i s Q E hi st hQ=>by
  have hi':i<(nl_ w S ep es).size:=by rw [ii_];exact hi
  refine lp_ st.1 st.2 b hs hl hp hi (Aj hi') fun h' hit' hs'=> ?_;exact hQ _ h' s.toks ⟨_,Aj hi',rfl⟩ ⟨hit',hs'.extBut S _ hne st.2⟩ fun b o hb e=>hs'.extBut b o (fun h=>hb (by simp [h])) e
 done:=fun s Q E st hQ=>nG_ hh st.1 st.2 b hs hl hp fun h' he'=>hQ h' s.toks fun b o hb e=>he' b o (fun h=>hb (by simp [h])) e
 self:=fun _ s _ _ st hQ=>by
  refine wpAny_pyIter_slot st.1.typeIs dd_ (Ar dd_ st.1.typeIs e5_ ?_ (fp_ _));show wpAny _ _ (ret (.ref I)) _ _ s;exact A3 ⟨_,rfl,"set_iterator",_,st.1.typeIs,aW_.lookup,hQ⟩
end
end L2
namespace L2
open PySem PySem.SetTable PySem.Spec PyProof.Rows PySem.W
section
variable {prog:Program}{w:World}{A:Around}{E:Value->Shared->Prop}{s:Shared}
theorem i4_ {S:Addr}{es:Array (Int×Value)}{ep:Nat}{t:SetTable}{Q:List Value->Shared->Prop} (hh:A.handled=none)
  (ho:s.heap.get? S=some {cls:= .type "set",dict:=none,data:= .set es ep t}) (b:Tb t es) (hs:es.size<=t.mask) (hl:t.led= !w.params.followText "set-order") (hp:t.plain=true)
  (hQ:∀h' tk vs,(∀b o,s.heap.get? b=some o->h'.get? b=some o)->s.heap.objs.size<=h'.objs.size->vs.Perm (es.toList.map (·.2))->Q vs {s with heap:=h',toks:=tk}):
  wpAny (model prog w) A (collect (.ref S)) Q E s:=by
 unfold collect;refine A0 (wpAny_runValue (Bl F.entry_proto_collect ?_));rw [Bi F.plain_proto_collect _];show wpAny _ A.in1 (newList []>>=fun l=>again (.builtin "list.__iadd__" ⟨[l, .ref S],[]⟩)) _ _ s;refine A0 (Av ?_);refine A3 ⟨Cv F.plain_list_iadd _,Bl F.entry_list_iadd ?_⟩;rw [Bi F.plain_list_iadd _];show wpAny _ A.in1 (Builtin.List.listExtendWith (.ref s.heap.objs.size) (.ref S) (.ref s.heap.objs.size)) _ _ _;have hS:S<s.heap.objs.size:=AN ho;have ho1:(s.heap.push {cls:= .type "list",data:= .seq ([]:List Value).toArray}).get? S=some {cls:= .type "set",dict:=none,data:= .set es ep t}:=A9 _ ho;have hT:Shared.TypeIs {s with heap:=s.heap.push {cls:= .type "list",data:= .seq ([]:List Value).toArray}} (.ref S) "set":=⟨_,ho1,rfl⟩;unfold Builtin.List.listExtendWith;refine A0 (D6 hT ?_);have h1:Builtin.List.listSameRef (.ref s.heap.objs.size) (.ref S)=false:=by
  show(s.heap.objs.size==S)=false;exact Cp.mpr (CG hS)
 have h2:(Value.type "set"==Value.type "list")=false:=by decide
 have h3:(Value.type "set"==Value.type "tuple")=false:=by decide
 simp only [h1,h2,h3,Bool.or_false,AE,Ak];refine A0 (os_ ho1 b hs hp ?_);refine A0 (Aw ?_);unfold Builtin.List.listLengthHint;generalize hH:s.heap.push {cls:= .type "list",data:= .seq ([]:List Value).toArray}=H at ho1 hT⊢;have hHs:H.objs.size=s.heap.objs.size+1:=by rw [<-hH,BR]
 have hT2:Shared.TypeIs {s with heap:=H.push {cls:= .type "set_iterator",data:= .fields #[.int (fd_ w t 0:Nat) 0, .int (0:Nat) 0, .ref S, .int es.size 0, .int ep 0]}} (.ref S) "set":=⟨_,A9 _ ho1,rfl⟩;refine A0 (C8 hT2 F.slot_set_len.lookup ?_)
 wp_delta
 refine A0 (C2 (b:=true) hT2 (by rw [isSubtype_type];kernel_rfl) ?_);show wpAny _ A.in1 (typeOf (.ref S)>>=_) _ _ _;refine A0 (D6 hT2 ?_);refine A3 ?_;rw [A6 (by decide)];refine A0 (CM ?_);unfold Builtin.List.listTouch;have hne:S≠H.objs.size:=by rw [hHs];exact AO (Ag hS)
 have hI0:fq_ (H.push {cls:= .type "set_iterator",data:= .fields #[.int (fd_ w t 0:Nat) 0, .int (0:Nat) 0, .ref S, .int es.size 0, .int ep 0]}) H.objs.size S (fd_ w t 0) 0 es.size ep:=⟨_,AL _ rfl,rfl,rfl⟩;have hL:(H.push {cls:= .type "set_iterator",data:= .fields #[.int (fd_ w t 0:Nat) 0, .int (0:Nat) 0, .ref S, .int es.size 0, .int ep 0]}).get? s.heap.objs.size=some (seqObj "list" #[] 0):=A9 _ (hH▸AL _ rfl);have hS2:(H.push {cls:= .type "set_iterator",data:= .fields #[.int (fd_ w t 0:Nat) 0, .int (0:Nat) 0, .ref S, .int es.size 0, .int ep 0]}).get? S=some {cls:= .type "set",dict:=none,data:= .set es ep t}:=A9 _ ho1;have hold:∀b o,s.heap.get? b=some o->(H.push {cls:= .type "set_iterator",data:= .fields #[.int (fd_ w t 0:Nat) 0, .int (0:Nat) 0, .ref S, .int es.size 0, .int ep 0]}).get? b=some o:=fun b o e=>A9 _ (hH▸A9 _ e);have hsz:(H.push {cls:= .type "set_iterator",data:= .fields #[.int (fd_ w t 0:Nat) 0, .int (0:Nat) 0, .ref S, .int es.size 0, .int ep 0]}).objs.size=s.heap.objs.size+2:=by rw [BR,hHs]
 generalize H.push {cls:= .type "set_iterator",data:= .fields #[.int (fd_ w t 0:Nat) 0, .int (0:Nat) 0, .ref S, .int es.size 0, .int ep 0]}=H1 at hI0 hL hS2 hold hsz⊢;refine A0 (A0 (CP (s:={s with heap:=H1}) hL rfl ?_ (AS _) (by decide)));have hL1:=CN hL (fun x=>x.push Value.none);have hu1:∀b,b≠s.heap.objs.size->(H1.update s.heap.objs.size (Obj.mapSeq fun x=>x.push Value.none)).get? b=H1.get? b:=(B9 H1 s.heap.objs.size _).2;dsimp only;generalize H1.update s.heap.objs.size (Obj.mapSeq fun x=>x.push Value.none)=H2 at hL1 hu1⊢;refine CP (s:={s with heap:=H2}) hL1 rfl ?_ (by simp [At]) (by simp);have hL2:=CN hL1 (fun x=>x.pop);have hu2:∀b,b≠s.heap.objs.size->(H2.update s.heap.objs.size (Obj.mapSeq fun x=>x.pop)).get? b=H2.get? b:=(B9 H2 s.heap.objs.size _).2;dsimp only;generalize H2.update s.heap.objs.size (Obj.mapSeq fun x=>x.pop)=H3 at hL2 hu2⊢;have hk3:∀b o,b≠s.heap.objs.size->H1.get? b=some o->H3.get? b=some o:=fun b o hb e=>by rw [hu2 b hb,hu1 b hb];exact e
 have hSf:s.heap.objs.size∉[H.objs.size,S]:=by
  rw [hHs];simp only [AK,Bb,Cw,not_or];exact⟨AO (Ba _),CG hS⟩
 have hSn:S≠s.heap.objs.size:=AO hS;have hHn:H.objs.size≠s.heap.objs.size:=by rw [hHs];exact CG (Ba _)
 refine A3 ⟨Cv F.plain_extend_loop _,codeAny_extend_loopS (nm_ (A:=A.in1) (ep:=ep) hh H.objs.size S hne b hs hl hp).toS ?_ _ hSf _ es.size 0 _ _ _ rfl (AS _) ⟨hI0.mv fun o e=>hk3 _ o hHn e,hk3 S _ hSn hS2⟩ hL2 (ItemsOf.nil _) fun s' acc' c' hm hS' hacc=> ?_⟩
 .have:es.size<=127:=by rcases b.mask with e|e|e<;>lia
  rw [At];lia
 show wpAny _ A (load s.heap.objs.size>>=_) _ _ s';refine A0 (wpAny_load hS' ?_);obtain⟨h',g',d',tk',os'⟩:=s';have eg:g'=s.gens:=hm.gens;have ed:d'=s.drawn:=hm.drawn;have eo:os'=s.os:=hm.os;subst eg;subst ed;subst eo;refine A3 (hQ h' tk' acc'.toList (fun b o e=> ?_) (AW (AN hS')) ?_)
 .have hlt:=AN e;refine hm.heap b o (fun hb=> ?_) (hk3 b o (AO hlt) (hold b o e));simp only [AK,Bb,Cw] at hb;rcases hb with hb|hb
  .exact absurd hlt (by rw [hb];exact Bw _)
  .rw [hb,hHs] at hlt;exact absurd hlt (Nat.not_lt.mpr (Cf _))
 .have:acc'.toList=(nl_ w S ep es).toList.map (·.2):=by
   apply List.ext_getElem?;intro i;rw [A7,Bp,Bp];rcases BI i es.size with c|c
   .have hi:i<acc'.size:=by rw [hacc.1];exact c
    obtain⟨e,he,hv⟩:=hacc.2 i _ (Aj hi);rw [Aj hi,hv,he];rfl
   .rw [BX (by rw [hacc.1];exact c),BX (by rw [ii_];exact c)];rfl
  rw [this];exact(kW_ w S ep es).map _
noncomputable abbrev lsH (h:Heap) (vs:List Value):Heap:=h.push (seqObj "list" vs.toArray 0)
theorem hz_ (h:Heap) (vs:List Value):(lsH h vs).get? h.objs.size=some (seqObj "list" vs.toArray 0):=AL _ rfl
theorem gA_ {h:Heap}{vs:List Value}{b:Addr}{o:Obj} (hb:h.get? b=some o):(aN_ (lsH h vs) h.objs.size vs).get? b=some o:=by
 have hlt:b<h.objs.size:=AN hb;have n0:b≠h.objs.size:=AO hlt;have n1:b≠h.objs.size+1:=AO (Ag hlt);have n2:b≠h.objs.size+1+1:=AO (Ag (Ag hlt));rw [B2 _ _ _ (by rw [Bk,B1,Bk];exact n2),B2 _ _ _ (by rw [B1,Bk];exact n1),D5 _ _ _ _ n0,B2 _ _ _ n0];exact hb
theorem hy_ {h:Heap}{vs:List Value}{out:Array Value}{b:Addr}{o:Obj} (hb:h.get? b=some o):(sortedHeap (lsH h vs) h.objs.size vs out).get? b=some o:=by
 unfold sortedHeap;rw [D5 _ _ _ _ (AO (AN hb))];exact gA_ hb
theorem jR_ (h:Heap) (vs:List Value) (out:Array Value):∃e,(sortedHeap (lsH h vs) h.objs.size vs out).get? h.objs.size=some (seqObj "list" out e):=by
 obtain⟨e1,ho1⟩:∃e1,((lsH h vs).update h.objs.size (Obj.mapSeq fun _=>(#[]:Array Value))).get? h.objs.size=some (seqObj "list" #[] e1):=⟨_,CN (hz_ h vs) (fun _=> #[])⟩;have ho6:(aN_ (lsH h vs) h.objs.size vs).get? h.objs.size=some (seqObj "list" #[] e1):=by
  rw [B2 _ _ _ (by rw [Bk,B1,Bk];exact AO (Ag (Ba _))),B2 _ _ _ (by rw [B1,Bk];exact AO (Ba _))];exact ho1
 exact⟨_,CN ho6 (fun _=>out)⟩
theorem kz_ {v:Value}{pv_:List Value->Shared->Prop}{Q:Value->Shared->Prop} (hcol:wpAny (model prog w) A.in1 (collect v) pv_ E s)
  (h:∀vs s1,pv_ vs s1->vs.length<64/\(vs.length<2->Q (.ref s1.heap.objs.size) {s1 with heap:=sortedHeap (lsH s1.heap vs) s1.heap.objs.size vs vs.toArray})/\
   (2<=vs.length->∃(c:Nat->Nat->Bool) (kd:SortKind),
    (∀(R:SortKind->Shared->Prop) (E:Value->Shared->Prop),R kd {s1 with heap:=aN_ (lsH s1.heap vs) s1.heap.objs.size vs}->wpAny (model prog w) A.in1.in1 (keyKind' vs.toArray) R E {s1 with heap:=aN_ (lsH s1.heap vs) s1.heap.objs.size vs})/\
    (∀i j,i<vs.length->j<vs.length->∀C:Bool->Shared->Prop,C (c i j) {s1 with heap:=aN_ (lsH s1.heap vs) s1.heap.objs.size vs}->wpAny (model prog w) A.in1.in1 (keyLt' kd (vs.getD i .none) (vs.getD j .none)) C (fun _ _=>False) {s1 with heap:=aN_ (lsH s1.heap vs) s1.heap.objs.size vs})/\
    ∀p,Ord vs.length p->p=cP_ c (kas_sort vs.length)->Q (.ref s1.heap.objs.size) {s1 with heap:=sortedHeap (lsH s1.heap vs) s1.heap.objs.size vs (p.map fun i=>vs.getD i .none)})):
  wpAny (model prog w) A (call (.builtin "sorted") [v]) Q E s:=by
 refine Calls.call_function_entry kind_sorted plain_sorted entry_sorted (args_sorted1 _) ?_;unfold Builtin.«sorted»;refine A0 (m:=checkCount "sorted" 1 1 _) (A3 ?_);refine A0 (thn hcol fun vs s1 g=> ?_);obtain⟨h64,few,many⟩:=h vs s1 g;refine A0 (Cu ?_ (by rw [At];lia));show wpAny _ _ _ _ _ {s1 with heap:=lsH s1.heap vs};by_cases h2:vs.length<2
 .refine A0 (Aw (Ar slot_list_sort ⟨_,hz_ s1.heap vs,rfl⟩ entry_list_sort (jr_ (s:={s1 with heap:=lsH s1.heap vs}) (hz_ s1.heap vs) h2 ⟨_,rfl, ?_⟩) (args_list_sort _)));exact A3 ⟨_,rfl,few h2⟩
 .obtain⟨c,kd,hkd,hc,hq⟩:=many (by lia);refine A0 (Aw (Ar slot_list_sort ⟨_,hz_ s1.heap vs,rfl⟩ entry_list_sort (ln_ (c:=c) (s:={s1 with heap:=lsH s1.heap vs}) (hz_ s1.heap vs) (by lia) h64 (fun R=>hkd R _) hc fun p hp hpc=>⟨_,rfl, ?_⟩) (args_list_sort _)));exact A3 ⟨_,rfl,hq p hp hpc⟩
end
section
variable {X:Cx}{pins:List (Addr×Obj)}{σ:St}{H:Hp}{s:Shared}
theorem jd_:∀{xs:List Int}{vs:List Value},aR_ (xs.map V.int) vs->∀(prog:Program) (w:World),ItemsAre (intKind prog w) xs vs
 |[],_, .nil,_,_=> .nil
 |x::xs,_, .cons r1 r2,prog,w=>by
  obtain⟨t,rfl⟩:=r1;exact .cons (intKind_is prog w x t) (jd_ r2 prog w)
theorem k9_ (I:Inv X pins σ H s) {a:Addr}{xs:List Int} (h:SqT X.K H a (xs.map V.int)):IsTupleKey (intKind X.prog X.w) s.heap xs a:=by
 obtain⟨its,r,p,z⟩:=I.tuple h;obtain⟨o,ho,hc,n,hd⟩:=p;exact⟨o,_,n,ho,hc,hd,jd_ r _ _⟩
theorem sF_ {A:Around}{k:Nat} (hr:Room k A):A.units+8<cLine:=Nat.lt_of_le_of_lt (Nat.add_le_add_left (by decide:8<=64) _) hr.units
noncomputable def tV_:List V->Hp->VK->Prop:=fun vs H Q=>∃(v:V) (xss:List (List Int)) (m:Nat),vs=[v]/\Is H (.l (xss.map tI)) v/\0<m/\(∀xs∈xss,xs.length=m)/\xss.length<64/\
 ∀(yss:List (List Int)) (q:Addr) (H':Hp),yss.Nodup->(∀z,z∈yss↔z∈xss)->(∀i j,i<j->j<yss.length->ltI (yss.getD j []) (yss.getD i [])=false)->H q=none->ak_ H H'->Is H' (.l (yss.map tI)) (.ref q)->Q (.ref q) H'
theorem lm_ (I:Inv X pins σ H s) {rs:List V}{xss:List (List Int)}{m:Nat}{vs:List Value} (hi:Iss H (xss.map tI) rs) (r':aR_ rs vs) (hm:0<m) (hne':∀xs∈xss,xs.length=m) (hlen:xss.length<64) {Q:VK}
  (q:∀(yss:List (List Int)) (q:Addr) (H':Hp),yss.Perm xss->(∀i j,i<j->j<yss.length->ltI (yss.getD j []) (yss.getD i [])=false)->H q=none->ak_ H H'->Is H' (.l (yss.map tI)) (.ref q)->Q (.ref q) H') (A:Around):
  vs.length<64/\(vs.length<2->EP X pins σ Q (.ref s.heap.objs.size) {s with heap:=sortedHeap (lsH s.heap vs) s.heap.objs.size vs vs.toArray})/\
   (2<=vs.length->∃(c:Nat->Nat->Bool) (kd:SortKind),
    (∀(R:SortKind->Shared->Prop) (E:Value->Shared->Prop),R kd {s with heap:=aN_ (lsH s.heap vs) s.heap.objs.size vs}->wpAny (model X.prog X.w) A.in1.in1 (keyKind' vs.toArray) R E {s with heap:=aN_ (lsH s.heap vs) s.heap.objs.size vs})/\
    (∀i j,i<vs.length->j<vs.length->∀C:Bool->Shared->Prop,C (c i j) {s with heap:=aN_ (lsH s.heap vs) s.heap.objs.size vs}->wpAny (model X.prog X.w) A.in1.in1 (keyLt' kd (vs.getD i .none) (vs.getD j .none)) C (fun _ _=>False) {s with heap:=aN_ (lsH s.heap vs) s.heap.objs.size vs})/\
    ∀p,Ord vs.length p->p=cP_ c (kas_sort vs.length)->EP X pins σ Q (.ref s.heap.objs.size) {s with heap:=sortedHeap (lsH s.heap vs) s.heap.objs.size vs (p.map fun i=>vs.getD i .none)}):=by
 have hne:∀xs∈xss,xs≠[]:=fun xs hx z=>by have:=hne' xs hx;rw [z] at this;exact absurd this (by show¬0=m;lia)
 have hrs:rs.length=xss.length:=by rw [hi.length,A2]
 have ln:=r'.length;have lns:vs.length=xss.length:=by lia
 refine⟨by lia,fun h2=> ?_,fun h2=>⟨ro_ xss,tuples' true,fun R E hR=> ?_,fun i j hi' hj' C hC=> ?_,fun p ho hpc=> ?_⟩⟩
 .obtain⟨e,he⟩:=jR_ s.heap vs vs.toArray;have fr:=I.hok.fresh (a:=s.heap.objs.size) (A8 _);exact⟨.ref s.heap.objs.size,_,I.laid (t':=s.toks) (fun _ _=>hy_) (A8 _) (show aH_ X.prog X.w _ _ _ (.lst rs) from⟨by rw [At];lia,vs,e,r',he⟩),rfl,q xss _ _ (List.Perm.refl _) (fun i j a b=>absurd b (by lia)) fr (ak_.new fr) (cu_ ae_ (hi.mono (ak_.new fr)))⟩
 .have I2:Inv X pins σ H {s with heap:=aN_ (lsH s.heap vs) s.heap.objs.size vs}:=I.kept (t':=s.toks) fun b o e=>gA_ e;obtain⟨fs,k1,k2,k3⟩:=j2_ I2 hi r' hne;exact kat_kind (T:= .type "int") k1 (by lia) (fun f hf=>by obtain⟨z,t,rfl⟩:=k3 f hf;exact .now) rfl hR
 .have I2:Inv X pins σ H {s with heap:=aN_ (lsH s.heap vs) s.heap.objs.size vs}:=I.kept (t':=s.toks) fun b o e=>gA_ e;have g:∀i,i<xss.length->∃a,vs.getD i .none= .ref a/\SqT X.K H a ((xss.getD i []).map V.int):=fun i h=>by
   have hr:i<rs.length:=by lia
   obtain⟨d,hd,h1⟩:=hi.of_get (A1 hr);rw [A7,A1 h] at hd;cases hd;obtain⟨a,ea,ha⟩:=eT_ h1;obtain⟨u,hu1,ru⟩:=r'.get (A1 hr);rw [ea] at ru;obtain rfl:u=Value.ref a:=ru;refine⟨a, ?_, ?_⟩
   .rw [AG,hu1];rfl
   .rw [AG,A1 h];exact SqT.of ha
  obtain⟨a1,e1,s1⟩:=g i (by lia);obtain⟨a2,e2,s2⟩:=g j (by lia);rw [e1,e2];rw [lY_ (by lia) (by lia)] at hC;exact oo_ I2 s1 s2 hC
 .rw [lns] at ho hpc;have hpl:∀i∈p.toList,i<xss.length:=fun i hi=>ho.lt hi;obtain⟨e,he⟩:=jR_ s.heap vs (p.map fun i=>vs.getD i .none);have en:(p.map fun i=>vs.getD i .none)=List.toArray (p.toList.map fun i=>vs.getD i .none):=by
   apply Array.toList_inj.mp;simp
  rw [en] at he⊢;have fr:=I.hok.fresh (a:=s.heap.objs.size) (A8 _);refine⟨.ref s.heap.objs.size,_,I.laid (t':=s.toks) (fun _ _=>hy_) (A8 _) (show aH_ X.prog X.w _ _ _ (.lst (p.toList.map fun i=>rs.getD i .non)) from⟨?_,_,e,eB_ r' p.toList (fun i hi=>by rw [hrs];exact hpl i hi),he⟩),rfl,q (p.toList.map fun i=>xss.getD i []) _ _ ?_ ?_ fr (ak_.new fr) (cu_ ae_ ((j8_ hi p.toList hpl).mono (ak_.new fr)))⟩
  .rw [A2,B3,At,ho.size];lia
  .have pp:=(D4.mp ho).map fun i=>xss.getD i [];rw [show(List.range xss.length).toArray.toList=List.range xss.length from rfl,oj_] at pp;exact pp
  .intro i j hij hj;rw [A2,B3,ho.size] at hj;have up:=mw_ (qn_ (xss:=xss) (m:=m) (by lia) hne') (n:=xss.length) (by lia) i j hij hj;rw [<-hpc] at up;have g:∀i,i<xss.length->(p.toList.map fun i=>xss.getD i []).getD i []=xss.getD (at0 p i) []/\at0 p i<xss.length:=fun i h=>by
    have hs:i<p.size:=by rw [ho.size];exact h
    have e:at0 p i=p[i]:=by simp [at0,Array.getD,hs]
    rw [e];refine⟨?_,ho.lt (by simp)⟩;rw [AG,A7];simp [hs]
   obtain⟨g1,g2⟩:=g i (by lia);obtain⟨g3,g4⟩:=g j hj;rw [g1,g3];rw [lY_ g4 g2] at up;exact up
theorem dB_ {α β:Type}{f:β->α}{P:β->Prop}:∀(vs:List α),(∀v∈vs,∃j,P j/\v=f j)->∃js:List β,vs=js.map f/\∀j∈js,P j
 |[],_=>⟨[],rfl,fun _ h=>nomatch h⟩
 |v::vs,h=>by
  obtain⟨j,pj,e⟩:=h v (by simp);obtain⟨js,es,ps⟩:=dB_ vs fun u hu=>h u (by simp [hu]);exact⟨j::js,by rw [e,es];rfl,fun i hi=>by rcases AK.mp hi with rfl|hi;exact pj;exact ps i hi⟩
theorem g4_ (ad:Nat->Addr):∀js:List Nat,aR_ (js.map fun j=>V.ref (ad j)) (js.map fun j=>Value.ref (ad j))
 |[]=> .nil
 |j::js=> .cons rfl (g4_ ad js)
theorem j5_ {H:Hp} (kk:Nat->List Int) (ad:Nat->Addr):∀js:List Nat,(∀j∈js,H (ad j)=some (.tup ((kk j).map V.int)))->Iss H ((js.map kk).map tI) (js.map fun j=>V.ref (ad j))
 |[],_=>an_
 |j::js,h=>ai_ (e2_ (h j (by simp))) (j5_ kk ad js fun i hi=>h i (by simp [hi]))
theorem nH_ {prog:Program}{w:World}{h':Heap}{kk:Nat->List Int}{ad:Nat->Addr}{n:Nat}{es:Array (Int×Value)}{vs:List Value} (en:Ent prog w h' es) (mk:Made prog w kk ad n es)
  (hkey:∀j,j<n->IsTupleKey (intKind prog w) h' (kk j) (ad j)) (hp:vs.Perm (es.toList.map (·.2))):
  ∃js:List Nat,vs=js.map (fun j=>Value.ref (ad j))/\(∀j∈js,j<n)/\(js.map kk).Nodup/\∀j,j<n->kk j∈js.map kk:=by
 have vmem:∀v,v∈vs↔∃p g,es[p]? =some (g,v):=fun v=>by
  rw [hp.mem_iff,Ac];constructor
  .rintro⟨⟨g,v'⟩,he,rfl⟩;obtain⟨p,hp,e⟩:=Array.mem_iff_getElem.mp (Array.mem_toList_iff.mp he);exact⟨p,g,by rw [Aj hp,e]⟩
  .rintro⟨p,g,e⟩;have hp:=do_ e;rw [Aj hp,Az] at e;exact⟨(g,v),by rw [<-e];simp,rfl⟩
 obtain⟨js,ev,pj⟩:=dB_ (f:=fun j=>Value.ref (ad j)) (P:=fun j=>j<n/\∃p g,es[p]? =some (g,Value.ref (ad j))) vs fun v hv=>by
  obtain⟨p,g,e⟩:=(vmem v).mp hv;obtain⟨j,hj,e'⟩:=mk.from_ p _ e;simp only [BV] at e';obtain⟨_,rfl⟩:=e';exact⟨j,⟨hj,p,g,e⟩,rfl⟩
 have nd:vs.Nodup:=by
  rw [hp.nodup_iff];unfold List.Nodup;rw [List.pairwise_map,CK];intro i j hi hj hij e;rw [B3] at hi hj;obtain⟨k,b,e1,q1⟩:=en.ent i hi;obtain⟨k',b',e2,q2⟩:=en.ent j hj;have z1:es.toList[i].2=Value.ref b:=by
   rw [Aj hi,Az] at e1;simp [e1]
  have z2:es.toList[j].2=Value.ref b':=by
   rw [Aj hj,Az] at e2;simp [e2]
  rw [z1,z2,Bm] at e;subst e;have:=en.dis i j k b b _ _ e1 e2 q1 q1;lia
 refine⟨js,ev,fun j hj=>(pj j hj).1, ?_,fun j hj=> ?_⟩
 .rw [ev] at nd;unfold List.Nodup at nd⊢;rw [List.pairwise_map] at nd⊢;refine List.Pairwise.imp_of_mem (fun{a b} ha hb hne e=>hne ?_) nd;obtain⟨la,p,g,ea⟩:=pj a ha;obtain⟨lb,p',g',eb⟩:=pj b hb;have:=en.dis p p' (kk a) _ _ _ _ ea eb (hkey a la) (by rw [e];exact hkey b lb);subst this;rw [ea] at eb;simp only [Az,BV] at eb;exact eb.2
 .obtain⟨p,j',hj',ek,e⟩:=mk.all j hj;have:=(vmem _).mpr ⟨p,_,e⟩;rw [ev] at this;obtain⟨i,hi,ei⟩:=Ac.mp this;simp only [Bm] at ei;have q1:=hkey i (pj i hi).1;rw [ei] at q1;have:=q1.inj (hkey j' hj');rw [<-ek,<-this];exact List.mem_map_of_mem hi
theorem qi_ {e:Expr}{ta:TA}{p p2 pos pos2:Pos} (hu:X.A.units+8<cLine) (hh:X.A.handled=none) (hg:Gl X "sorted") (hm:X.mg "sorted"=none) (hg2:Gl X "set") (hm2:X.mg "set"=none)
  (ha:PA X [e] ta) (he:starEach [e] X.env=(false,eval e X.env)::starEach [] X.env:=by rfl)
  (he2:starEach [Expr.Call (.Name "set" p2) [e] [] pos2] X.env=(false,eval (Expr.Call (.Name "set" p2) [e] [] pos2) X.env)::starEach [] X.env:=by rfl):
  PE X (.Call (.Name "sorted" p) [.Call (.Name "set" p2) [e] [] pos2] [] pos) (tCB tV_ ta):=by
 intro pins s σ H Q I h;refine BU (dm_ I hg hm (by first|exact boot_sorted|rfl|ac_nf) ?_ (by decide) (by decide));refine Cb ?_ he2 (by rfl);rw [he2];show wpAny _ _ (spliced ((false,eval (Expr.Call (.Name "set" p2) [e] [] pos2) X.env)::backTo pos (starEach [] X.env))) _ _ s;refine Ca ?_;refine BU (dm_ I hg2 hm2 (by first|rfl|ac_nf) ?_ (by decide) (by decide));refine BS (thn (ha pos2 pins s σ H _ I h) fun us s1 ⟨vs,H1,I1,r1,q1⟩=> ?_) he (by rfl);obtain⟨v,xss,m,rfl,hv,hm',hne',hlen,q⟩:=q1;obtain⟨l,rs,rfl,hl,hi⟩:=cI_ hv;have hrs:rs.length=xss.length:=by rw [hi.length,A2]
 obtain⟨u,rfl,rx⟩:=fe_ r1;cases rx;obtain⟨its,r',pl,hz⟩:=I1.list (SqL.of (K:=X.K) hl);have ln:=r'.length;have g:∀i,∃a,i<xss.length->its[i]? =some (.ref a)/\rs[i]? =some (.ref a)/\H1 a=some (.tup ((xss.getD i []).map V.int)):=fun i=>by
  by_cases h:i<xss.length
  .have hr:i<rs.length:=by lia
   obtain⟨d,hd,h1⟩:=hi.of_get (A1 hr);rw [A7,A1 h] at hd;cases hd;obtain⟨a,ea,ha⟩:=eT_ h1;obtain⟨u,hu1,ru⟩:=r'.get (A1 hr);rw [ea] at ru;obtain rfl:u=Value.ref a:=ru;refine⟨a,fun _=>⟨hu1,by rw [A1 hr,ea], ?_⟩⟩;rw [AG,A1 h];exact ha
  .exact⟨0,fun c=>absurd c h⟩
 let ad:Nat->Addr:=fun i=>Classical.choose (g i)
 have hg:∀i,i<xss.length->its[i]? =some (.ref (ad i))/\rs[i]? =some (.ref (ad i))/\H1 (ad i)=some (.tup ((xss.getD i []).map V.int)):=fun i hi=>Classical.choose_spec (g i) hi;generalize ad=ad at hg;refine h2_ (kk:=fun i=>xss.getD i []) (ad:=ad) (items:=its.toArray) hh (by lia) pl.isList (by rw [AD];lia) (fun i hi=> ?_) fun h' tk es hS en mk hk=> ?_
 .rw [AD] at hi;have hg':=hg i (by lia);exact⟨by rw [List.getElem?_toArray];exact hg'.1,k9_ I1 (SqT.of hg'.2.2)⟩
 .have I2:Inv X pins σ H1 {s1 with heap:=h',toks:=tk}:=I1.kept fun b o e=>hk b o (AN e) e;refine A3 ?_;show wpAny _ _ (call (.builtin "sorted") [.ref s1.heap.objs.size]) _ _ {s1 with heap:=h',toks:=tk};obtain⟨ep,t,ho,tb,tl,tp,tr⟩:=hS;refine kz_ (i4_ (s:={s1 with heap:=h',toks:=tk}) (A:=X.A.in1) hh ho tb (by lia) tl tp fun h'' tk' vs hk' hsz hp=> ?_) fun vs s' g=>g;have hkey:∀j,j<its.toArray.size->IsTupleKey (intKind X.prog X.w) h' (xss.getD j []) (ad j):=fun j hj=>by
   rw [AD] at hj;exact k9_ I2 (SqT.of (hg j (by lia)).2.2)
  obtain⟨js,ev,lt,nd,all⟩:=nH_ en mk hkey hp;have I3:Inv X pins σ H1 {s1 with heap:=h'',toks:=tk'}:=I2.kept hk';have lt':∀j∈js,j<xss.length:=fun j hj=>by have:=lt j hj;rw [AD] at this;lia
  subst ev;have mem:∀z,z∈js.map (fun i=>xss.getD i [])↔z∈xss:=fun z=>by
   constructor
   .intro hz;obtain⟨j,hj,rfl⟩:=Ac.mp hz;rw [AG,A1 (lt' j hj)];exact Bn _
   .intro hz;obtain⟨j,hj,e⟩:=List.getElem_of_mem hz;have:=all j (by rw [AD];lia);rw [AG,A1 hj,e] at this;exact this
  have bound:(js.map fun i=>xss.getD i []).length<=xss.length:=by
   have e1:js.length=es.size:=by have:=hp.length_eq;simpa using this
   have e2:es.size<=its.length:=by have:=mk.size;simpa using this
   rw [A2];lia
  refine lm_ I3 (rs:=js.map fun j=>V.ref (ad j)) (xss:=js.map fun i=>xss.getD i []) (j5_ _ ad js fun j hj=>(hg j (lt' j hj)).2.2) (g4_ ad js) hm' (fun xs hx=>hne' xs ((mem xs).mp hx)) (by lia) (fun yss q' H' pm srt hq sm his=> ?_) X.A;exact q yss q' H' (pm.nodup_iff.mpr nd) (fun z=>by rw [pm.mem_iff];exact mem z) srt hq sm his
end
end L2
namespace L2
open PySem PySem.Spec PyProof.Rows PySem.W
section
variable {prog:Program}{w:World}{A:Around}{E:Value->Shared->Prop}{s:Shared}
theorem oF_ {d:Addr}{o:Obj}{es:Array DictEntry}{ep:Nat}{Q:Value->Shared->Prop} (hd:(d==sysModules)=false) (ho:s.heap.get? d=some o) (hc:o.ExactDict) (hdat:o.data= .dict es ep)
  (hQ:Q (.ref s.heap.objs.size) {s with heap:=s.heap.push {cls:= .type "dict_keyiterator",data:= .fields #[.ref d, .int 0 0, .int es.size 0, .int ep 0]}}):
  wpAny (model prog w) A (pyIter (.ref d)) Q E s:=by
 have hT:s.TypeIs (.ref d) "dict":=⟨o,ho,hc.1⟩;refine wpAny_pyIter_slot hT PySem.F.slot_dict_iter (Ar PySem.F.slot_dict_iter hT PySem.F.entry_dict_iter ?_ (PySem.F.args_dict_iter_1 _));unfold Builtin.«dict.__iter__»;refine A0 ?_;unfold Builtin.Dict.dictSlotNone;refine A0 (wpAny_notOrdered_dict hT ?_);show wpAny _ _ (pure (Value.ref d)) _ _ s;refine A3 ?_;show wpAny _ _ (Builtin.Dict.showsAll d>>=_) _ _ s;unfold Builtin.Dict.showsAll;rw [A5 (by rw [hd];exact AZ)];refine A0 (A3 ?_);refine A0 (CJ ho hdat ?_);refine A0 (CZ ho hdat ?_);refine A0 (Av (A3 ⟨_,rfl,"dict_keyiterator",_,⟨_,AL _ rfl,rfl⟩,BQ.lookup, ?_⟩));simpa [rawInt] using hQ
theorem oG_ {it d:Addr}{o:Obj}{es:Array DictEntry}{i ep:Nat}{e:DictEntry}{Q:Option Value->Shared->Prop} (hit:s.heap.IsKeyIter it d i es.size ep) (hod:s.heap.get? d=some o) (hdd:o.data= .dict es ep) (he:es[i]? =some e)
  (hQ:∀h',h'.IsKeyIter it d (i+1) es.size ep->Heap.SameBut it s.heap h'->Q (some e.key) {s with heap:=h'}):wpAny (model prog w) A (pyNext (.ref it)) Q E s:=by
 obtain⟨oi,ho,hc,hd⟩:=id hit;have hlt:i<es.size:=(Bo.mp he).1;unfold pyNext;refine A0 (CF (BH (name:=Str.ofString "__next__") hit.typeIs BQ (Ar BQ hit.typeIs PySem.F.entry_dict_keyiterator_next ?_ (PySem.F.args_dict_keyiterator_next_1 _))));refine A0 (A3 ?_);refine A0 ?_;refine A0 ?_;first|refine A0 (C5 hit.typeIs (A3 ?_));skip|refine A0 (CV hit.typeIs (A3 ?_));skip
 refine A0 (Cd ho hd ?_);have hown:Builtin.Dict_items.ownsTuple "dict_keyiterator"=false:=by decide
 simp only [hown,AE,Ak];show wpAny _ _ (if(Value.ref d==Value.none)=true then _ else _) _ _ s;rw [A5 (show¬((Value.ref d==Value.none)=true) from AZ)];refine A0 (A3 ?_);refine A0 (CJ hod hdd ?_);rw [A5 (by simp)];refine A0 (A3 ?_);refine A0 (CZ hod hdd ?_);rw [A5 (by simp)];refine A3 ?_;simp only [show¬((i:Int)<0) from by lia,Ak,Ab,he];refine A0 ?_;first|refine A0 (C5 hit.typeIs (A3 ?_));skip|refine A0 (CV hit.typeIs (A3 ?_));skip
 refine A0 (wpAny_isOneOf_keyiter hit.typeIs ?_);show wpAny _ _ (setField (.ref it) 1 (rawInt ((i:Int)+1))>>=_) _ _ s;refine A0 (CL ho hd (by simp) ?_);have st':(s.heap.update it (Obj.mapFields (·.setIfInBounds 1 (rawInt ((i:Int)+1))))).IsKeyIter it d (i+1) es.size ep:=⟨_,CI _ ho (Obj.isFreed_of_fields (C7 hd _)),(Obj.cls_mapFields ..).trans hc,by rw [C7 hd];simp [rawInt]⟩;refine A0 (Aw ?_);refine A0 (wpAny_isOneOf_keyiter (s:={s with heap:=s.heap.update it (Obj.mapFields (·.setIfInBounds 1 (rawInt ((i:Int)+1))))}) st'.typeIs ?_);show wpAny _ _ (pure e.key) _ _ _;exact A3 (A3 ⟨_,rfl,A3 (hQ _ st' (B9 ..))⟩)
theorem q1_ {it d:Addr}{o:Obj}{es:Array DictEntry}{i ep:Nat}{Q:Option Value->Shared->Prop} (hh:A.handled=none) (hit:s.heap.IsKeyIter it d i es.size ep) (hod:s.heap.get? d=some o) (hdd:o.data= .dict es ep) (he:es.size<=i)
  (hQ:∀h',Heap.ExtBut it s.heap h'->Q none {s with heap:=h'}):wpAny (model prog w) A (pyNext (.ref it)) Q E s:=by
 obtain⟨oi,ho,hc,hd⟩:=id hit;unfold pyNext;refine A0 (CF (BH (name:=Str.ofString "__next__") hit.typeIs BQ (Ar BQ hit.typeIs PySem.F.entry_dict_keyiterator_next ?_ (PySem.F.args_dict_keyiterator_next_1 _))));refine A0 (A3 ?_);refine A0 ?_;refine A0 ?_;first|refine A0 (C5 hit.typeIs (A3 ?_));skip|refine A0 (CV hit.typeIs (A3 ?_));skip
 refine A0 (Cd ho hd ?_);have hown:Builtin.Dict_items.ownsTuple "dict_keyiterator"=false:=by decide
 simp only [hown,AE,Ak];show wpAny _ _ (if(Value.ref d==Value.none)=true then _ else _) _ _ s;rw [A5 (show¬((Value.ref d==Value.none)=true) from AZ)];refine A0 (A3 ?_);refine A0 (CJ hod hdd ?_);rw [A5 (by simp)];refine A0 (A3 ?_);refine A0 (CZ hod hdd ?_);rw [A5 (by simp)];refine A3 ?_;simp only [show¬((i:Int)<0) from by lia,Ak,Ab,BX he];refine A0 ?_;first|refine A0 (C5 hit.typeIs (A3 ?_));skip|refine A0 (CV hit.typeIs (A3 ?_));skip
 show wpAny _ _ (setField (.ref it) 0 .none>>=_) _ _ s;refine A0 (CL ho hd (by simp) ?_);show wpAny _ _ (newExc (.type "StopIteration") []>>=_) _ _ _;refine A0 ?_;simp only [newExc,newTuple];refine A0 (Av ?_ (by size_fits));refine A0 (m:=firstArgMember _ _) (wpAny_of_eq (a:=Value.none) (by first|rfl|(simp only [firstArgMember];rfl)) ?_);refine Av ?_ (by size_fits);simp only [raiseNew];refine A0 (wpAny_handled ?_);rw [show A.in1.handled=none from hh];refine A0 (A3 (wpAny_throw ?_));refine A0 (C2 (T:="StopIteration") (b:=true) ⟨_,AL _ rfl,rfl⟩ isSubtype_stop ?_);exact A3 (hQ _ (((B9 ..).extBut.push _).push _))
end
section
variable {prog:Program}{w:World}{A:Around}{E:Value->Shared->Prop}{s:Shared}
theorem qX_ {d:Addr}{o:Obj}{Q:Value->Shared->Prop} (hd:(d==sysModules)=false) (ho:s.heap.get? d=some o) (hc:o.ExactDict)
  (hQ:Q (.ref s.heap.objs.size) {s with heap:=s.heap.push {cls:= .type "dict_values",data:= .fields #[.ref d]}}):wpAny (model prog w) A (call (.builtin "dict.values") [.ref d]) Q E s:=by
 have hT:s.TypeIs (.ref d) "dict":=⟨o,ho,hc.1⟩;refine Ar PySem.F.slot_dict_values hT PySem.F.entry_dict_values ?_ (PySem.F.args_dict_values_1 _);refine A0 ?_;unfold Builtin.Dict.noArgs;refine A0 (wpAny_notOrdered_dict hT ?_);show wpAny _ _ (pure d) _ _ s;refine A3 ?_;show wpAny _ _ (Builtin.Dict.showsAll d>>=_) _ _ s;unfold Builtin.Dict.showsAll;rw [A5 (by rw [hd];exact AZ)];refine A0 (A3 ?_);exact A0 (Av (A3 ⟨_,rfl,hQ⟩))
theorem qV_ {v d:Addr}{o:Obj}{es:Array DictEntry}{ep:Nat}{Q:Value->Shared->Prop} (hv:s.heap.IsValuesView v d) (ho:s.heap.get? d=some o) (hdat:o.data= .dict es ep)
  (hQ:Q (.ref s.heap.objs.size) {s with heap:=s.heap.push {cls:= .type "dict_valueiterator",data:= .fields #[.ref d, .int 0 0, .int es.size 0, .int ep 0]}}):
  wpAny (model prog w) A (pyIter (.ref v)) Q E s:=by
 obtain⟨ov,hov,hcv,hdv⟩:=id hv;refine wpAny_pyIter_slot hv.typeIs PySem.F.slot_dict_values_iter (Ar PySem.F.slot_dict_values_iter hv.typeIs PySem.F.entry_dict_values_iter ?_ (PySem.F.args_dict_values_iter_1 _));unfold Builtin.«dict_values.__iter__»;refine A0 (A3 ?_);refine A0 ?_;unfold Builtin.Dict_items.dictOf;refine A0 (wpAny_field hov hdv (x:= .ref d) rfl (A3 ?_));refine A0 ?_;unfold Builtin.Dict_items.newIterator;refine A0 (CJ ho hdat ?_);refine A0 (CZ ho hdat ?_);have hown:Builtin.Dict_items.ownsTuple "dict_valueiterator"=false:=by decide
 simp only [hown,AE,Ak];refine Av (A3 ⟨_,rfl,"dict_valueiterator",_,⟨_,AL _ rfl,rfl⟩,BK.lookup, ?_⟩);simpa [rawInt] using hQ
theorem qW_ {it d:Addr}{o:Obj}{es:Array DictEntry}{i ep:Nat}{e:DictEntry}{Q:Option Value->Shared->Prop} (hit:s.heap.IsValIter it d i es.size ep) (hod:s.heap.get? d=some o) (hdd:o.data= .dict es ep) (he:es[i]? =some e)
  (hQ:∀h',h'.IsValIter it d (i+1) es.size ep->Heap.SameBut it s.heap h'->Q (some e.val) {s with heap:=h'}):wpAny (model prog w) A (pyNext (.ref it)) Q E s:=by
 obtain⟨oi,ho,hc,hd⟩:=id hit;have hlt:i<es.size:=(Bo.mp he).1;unfold pyNext;refine A0 (CF (BH (name:=Str.ofString "__next__") hit.typeIs BK (Ar BK hit.typeIs PySem.F.entry_dict_valueiterator_next ?_ (PySem.F.args_dict_valueiterator_next_1 _))));refine A0 (A3 ?_);refine A0 ?_;refine A0 ?_;first|refine A0 (C4 hit.typeIs (A3 ?_));skip|refine A0 (CU hit.typeIs (A3 ?_));skip
 refine A0 (Cd ho hd ?_);have hown:Builtin.Dict_items.ownsTuple "dict_valueiterator"=false:=by decide
 simp only [hown,AE,Ak];show wpAny _ _ (if(Value.ref d==Value.none)=true then _ else _) _ _ s;rw [A5 (show¬((Value.ref d==Value.none)=true) from AZ)];refine A0 (A3 ?_);refine A0 (CJ hod hdd ?_);rw [A5 (by simp)];refine A0 (A3 ?_);refine A0 (CZ hod hdd ?_);rw [A5 (by simp)];refine A3 ?_;simp only [show¬((i:Int)<0) from by lia,Ak,Ab,he];refine A0 ?_;first|refine A0 (C4 hit.typeIs (A3 ?_));skip|refine A0 (CU hit.typeIs (A3 ?_));skip
 refine A0 (wpAny_isOneOf_valiter hit.typeIs ?_);show wpAny _ _ (setField (.ref it) 1 (rawInt ((i:Int)+1))>>=_) _ _ s;refine A0 (CL ho hd (by simp) ?_);have st':(s.heap.update it (Obj.mapFields (·.setIfInBounds 1 (rawInt ((i:Int)+1))))).IsValIter it d (i+1) es.size ep:=⟨_,CI _ ho (Obj.isFreed_of_fields (C7 hd _)),(Obj.cls_mapFields ..).trans hc,by rw [C7 hd];simp [rawInt]⟩;refine A0 (Aw ?_);refine A0 (wpAny_isOneOf_valiter (s:={s with heap:=s.heap.update it (Obj.mapFields (·.setIfInBounds 1 (rawInt ((i:Int)+1))))}) st'.typeIs ?_);refine A0 (wpAny_isOneOf_valiter (s:={s with heap:=s.heap.update it (Obj.mapFields (·.setIfInBounds 1 (rawInt ((i:Int)+1))))}) st'.typeIs ?_);show wpAny _ _ (pure e.val) _ _ _;exact A3 (A3 ⟨_,rfl,A3 (hQ _ st' (B9 ..))⟩)
theorem sO_ {it d:Addr}{o:Obj}{es:Array DictEntry}{i ep:Nat}{Q:Option Value->Shared->Prop} (hh:A.handled=none) (hit:s.heap.IsValIter it d i es.size ep) (hod:s.heap.get? d=some o) (hdd:o.data= .dict es ep) (he:es.size<=i)
  (hQ:∀h',Heap.ExtBut it s.heap h'->Q none {s with heap:=h'}):wpAny (model prog w) A (pyNext (.ref it)) Q E s:=by
 obtain⟨oi,ho,hc,hd⟩:=id hit;unfold pyNext;refine A0 (CF (BH (name:=Str.ofString "__next__") hit.typeIs BK (Ar BK hit.typeIs PySem.F.entry_dict_valueiterator_next ?_ (PySem.F.args_dict_valueiterator_next_1 _))));refine A0 (A3 ?_);refine A0 ?_;refine A0 ?_;first|refine A0 (C4 hit.typeIs (A3 ?_));skip|refine A0 (CU hit.typeIs (A3 ?_));skip
 refine A0 (Cd ho hd ?_);have hown:Builtin.Dict_items.ownsTuple "dict_valueiterator"=false:=by decide
 simp only [hown,AE,Ak];show wpAny _ _ (if(Value.ref d==Value.none)=true then _ else _) _ _ s;rw [A5 (show¬((Value.ref d==Value.none)=true) from AZ)];refine A0 (A3 ?_);refine A0 (CJ hod hdd ?_);rw [A5 (by simp)];refine A0 (A3 ?_);refine A0 (CZ hod hdd ?_);rw [A5 (by simp)];refine A3 ?_;simp only [show¬((i:Int)<0) from by lia,Ak,Ab,BX he];refine A0 ?_;first|refine A0 (C4 hit.typeIs (A3 ?_));skip|refine A0 (CU hit.typeIs (A3 ?_));skip
 show wpAny _ _ (setField (.ref it) 0 .none>>=_) _ _ s;refine A0 (CL ho hd (by simp) ?_);show wpAny _ _ (newExc (.type "StopIteration") []>>=_) _ _ _;refine A0 ?_;simp only [newExc,newTuple];refine A0 (Av ?_ (by size_fits));refine A0 (m:=firstArgMember _ _) (wpAny_of_eq (a:=Value.none) (by first|rfl|(simp only [firstArgMember];rfl)) ?_);refine Av ?_ (by size_fits);simp only [raiseNew];refine A0 (wpAny_handled ?_);rw [show A.in1.handled=none from hh];refine A0 (A3 (wpAny_throw ?_));refine A0 (C2 (T:="StopIteration") (b:=true) ⟨_,AL _ rfl,rfl⟩ isSubtype_stop ?_);exact A3 (hQ _ (((B9 ..).extBut.push _).push _))
theorem kX_ (hh:A.handled=none) (I d:Addr) (hne:d≠I) {o:Obj}{es:Array DictEntry}{ep:Nat} (hdat:o.data= .dict es ep):
  Walks prog w A I [I,d] [I] es.size (fun i v=>∃e,es[i]? =some e/\v=e.val) (fun i h=>h.IsValIter I d i es.size ep/\h.get? d=some o) where
 sub:=fun b hb=>by simp at hb;simp [hb]
 frame:=fun _ _ _ st hk=>⟨st.1.at fun o e=>hk I (by simp) o e,hk d (by simp) _ st.2⟩
 item:=fun i s Q E hi st hQ=>qW_ st.1 st.2 hdat (Aj hi) fun h' hit' hs'=>hQ _ h' s.toks ⟨_,Aj hi,rfl⟩ ⟨hit',hs'.extBut d _ hne st.2⟩ fun b o hb e=>hs'.extBut b o (fun h=>hb (by simp [h])) e
 done:=fun s Q E st hQ=>sO_ hh st.1 st.2 hdat (A8 _) fun h' he'=>hQ h' s.toks fun b o hb e=>he' b o (fun h=>hb (by simp [h])) e
 self:=fun _ _ _ _ st hQ=>wpAny_pyIter_valiter st.1 hQ
theorem lJ_ (ns:List Int):∀k,k<=ns.length->preSum (fun i=>ns.getD i 0) k=(ns.take k).sum
 |0,_=>by simp [preSum]
 |k+1,h=>by
  have hk:k<ns.length:=by lia
  have g:ns.getD k 0=ns[k]:=by simp [List.getD,hk]
  rw [preSum,lJ_ ns k (by lia),Aa,A1 hk,Cn];show _+ns.getD k 0=_+[ns[k]].sum;rw [g];simp
end
theorem d7_ {α β:Type}{R:α->β->Prop}:∀{xs:List α}{ys:List β}{i:Nat}{x:α},Paired R xs ys->xs[i]? =some x->∃y,ys[i]? =some y/\R x y
 |_,_,i,x, .nil,h=>by simp at h
 |_,_,0,x, .cons r _,h=>by simp at h;subst h;exact⟨_,rfl,r⟩
 |_,_,i+1,x, .cons _ t,h=>by simp at h;obtain⟨y,e,r⟩:=d7_ t h;exact⟨y,by simpa using e,r⟩
noncomputable def Itk (d:Addr) (o:Obj) (kvs:List (List Key×V)):It:=
 ⟨fun i H=>H d=some (.frz o (.dT kvs))/\i<kvs.length,fun i H x H'=>H'=H/\∃b k v,x= .ref b/\kvs[i]? =some (k,v)/\H b=some (.tup (k.map kV)),fun i H=>H d=some (.frz o (.dT kvs))/\kvs.length<=i⟩
noncomputable def ub_ (td:TE):TI:=fun σ H R=>td σ H fun x H1=>∃(d:Addr) (kvs:List (List Key×V)),x= .ref d/\Rd H1 d (.dT kvs)/\∀(o:Obj) (H2:Hp),H2 d=some (.frz o (.dT kvs))->(∀b,b≠d->H2 b=H1 b)->R (Itk d o kvs) H2
theorem k2_ {P:Program}{w:World}{K:W.Frag}{tg:Expr} (d it:Addr) (o:Obj) (kvs:List (List Key×V)) (ep:Nat) (hep:∀es' ep',o.data= .dict es' ep'->ep'=ep):Turn P w K tg (Itk d o kvs) [it] it (fun i h=>h.IsKeyIter it d i kvs.length ep) where
 mem:=by simp
 obj:=fun i h st b hb=>by
  have e:b=it:=by simpa using hb
  subst e;obtain⟨o,e,c,d⟩:=st;exact⟨o,e,fun v z=>by rw [d] at z;cases z⟩
 keep:=fun i h h' st k=>st.at fun o e=>k it (by simp) o e
 item:=by
  intro X hP hw hK hc i pins s σ H E I hf st hg;subst hP hw hK;obtain⟨hq,hi⟩:=hg;obtain⟨ho,z,y,xs,rel,o',es,ep',h1,h2,h3,h4,h5⟩:=(show aH_ X.prog X.w H s.heap d (.frz o (.dT kvs)) from I.hok d _ hq);obtain rfl:o=o':=Af (ho.symm.trans h1);obtain rfl:ep'=ep:=hep _ _ h3;have hx:kvs[i]? =some kvs[i]:=A1 hi;obtain⟨q,hq1,e1,e2,e3⟩:=d7_ rel hx;have hsz:es.size=kvs.length:=by rw [<-B3,h4,A2,<-Bq rel]
  have he:es[i]? =some (entryOfKey (tupleKind (aZ_ X.prog X.w)) q):=by rw [<-Bp,h4,A7,hq1];rfl
  obtain⟨f0,f1,f2,f3,f4,f5⟩:=hf it (by simp);rw [<-hsz] at st;refine oG_ st ho h3 he fun h' st' sb=> ?_;have I1:Inv X pins σ H {s with heap:=h'}:=I.turned (t':=s.toks) (fun b o hb e=>(sb.2 b hb).trans e) f0 f1 f3 f4 f5;obtain⟨oo,e,c,d'⟩:=id st';rw [hsz] at st';exact⟨_,rfl,go_of (s:={s with heap:=h'}) e c d' (by decide) ⟨.ref q.2.1,H,I1,rfl,⟨rfl,q.2.1,kvs[i].1,kvs[i].2,rfl,hx,e2⟩,st',fun b hb=>(hf b hb).1⟩⟩
 done:=by
  intro X hP hw hK hc i pins s σ H E I hf st hg;subst hP hw hK;obtain⟨hq,hi⟩:=hg;obtain⟨ho,z,y,xs,rel,o',es,ep',h1,h2,h3,h4,h5⟩:=(show aH_ X.prog X.w H s.heap d (.frz o (.dT kvs)) from I.hok d _ hq);obtain rfl:o=o':=Af (ho.symm.trans h1);obtain rfl:ep'=ep:=hep _ _ h3;have hsz:es.size=kvs.length:=by rw [<-B3,h4,A2,<-Bq rel]
  obtain⟨f0,f1,f2,f3,f4,f5⟩:=hf it (by simp);rw [<-hsz] at st;exact q1_ (I.ok.hd hc) st ho h3 (by lia) fun h' eb=>⟨rfl,I.turned (t':=s.toks) (fun b o hb e=>eb b o hb e) f0 f1 f3 f4 f5⟩
 self:=fun _ _ _ _ _ st h=>wpAny_pyIter_keyiter st h
section
variable {X:Cx}{tg:Expr}
theorem qY_ {P:Program}{w:World}{H H':Hp}{h:Heap}{d:Addr}{kvs:List (List Key×V)} (q:aH_ P w H h d (.dT kvs)) (k:∀b ys,H b=some (.tup ys)->H' b=some (.tup ys)):aH_ P w H' h d (.dT kvs):=by
 obtain⟨z,y,xs,rel,r⟩:=q;exact⟨z,y,xs,KT.keeps rel fun c ys ec=>k c ys ec,r⟩
theorem qf_ {l:Expr}{tl:TE} (hl:PE X l tl):PI X tg l (ub_ tl):=by
 intro pins s σ H R I h;refine thn (hl pins s σ H _ I h) fun v s1 ⟨x,H1,I1,r1,q1⟩=> ?_;obtain⟨d,kvs,rfl,hq,q⟩:=q1;cases r1;have hob:aH_ X.prog X.w H1 s1.heap d (.dT kvs):=nS_ I1.hok hq;obtain⟨z,y,xs,rel,o,es,ep,h1,h2,h3,h4,h5⟩:=id hob;have hsz:es.size=kvs.length:=by rw [<-B3,h4,A2,<-Bq rel]
 obtain⟨H2,I2,e2,k2⟩:∃H2,Inv X pins σ H2 s1/\H2 d=some (.frz o (.dT kvs))/\∀b,b≠d->H2 b=H1 b:=by
  rcases hq with hq|⟨o',hq⟩
  .exact⟨_,eg_ (t':=s1.toks) I1 (by rw [hq];exact True.intro) (Heap.SameBut.refl _ _) ⟨o,h1⟩ (show aH_ X.prog X.w (upd H1 d (.frz o (.dT kvs))) s1.heap d (.frz o (.dT kvs)) from⟨h1,qY_ hob fun b ys e=>by rw [ao_ (oe_ e hq (fun z=>nomatch z))];exact e⟩),ae_,fun b hb=>ao_ hb⟩
  .obtain⟨ho',_⟩:=(show aH_ X.prog X.w H1 s1.heap d (.frz o' (.dT kvs)) from I1.hok d _ hq);obtain rfl:o'=o:=Af (ho'.symm.trans h1);exact⟨H1,I1,hq,fun _ _=>rfl⟩
 refine oF_ y h1 h2 h3 ?_;rw [hsz];refine⟨s1.heap.objs.size,[s1.heap.objs.size],_,_,_,rfl,I2.kept (t':=s1.toks) fun b o e=>A9 _ e,k2_ d _ o kvs ep (fun es' ep' e=>by rw [h3] at e;cases e;rfl),⟨_,AL _ rfl,rfl,rfl⟩,fun b hb=> ?_,q o H2 e2 k2⟩;have e:b=s1.heap.objs.size:=by simpa using hb
 subst e;exact I2.fpOk (A8 _) (I2.hok.fresh (A8 _))
theorem oC_ {d:Addr}{o:Obj}{kvs:List (List Key×V)}{g:TG}{tb:TS}{D:Ends}{σ:St}{H:Hp} (Pv:Nat->St->Hp->Prop) (h0:Pv 0 σ H) (hl:∀i σ H,i<=kvs.length->Pv i σ H->H d=some (.frz o (.dT kvs)))
  (hs:∀i k v b σ H,kvs[i]? =some (k,v)->Pv i σ H->H b=some (.tup (k.map kV))->g (.ref b) σ H fun σ2 H2=>tb {D with nx:=Pv (i+1),ct:=Pv (i+1),bk:=D.nx} σ2 H2) (hd:∀σ H,Pv kvs.length σ H->D.nx σ H):
  ∃Wq:Nat->Nat->St->Hp->Prop,(∃m,Wq 0 m σ H)/\∀i m σ H,Wq i m σ H->
   ((Itk d o kvs).stop i H/\D.nx σ H)\/((Itk d o kvs).go i H/\∃N:St->Hp->Prop,(∀σ' H',N σ' H'->∃m',m'<m/\Wq (i+1) m' σ' H')/\∀x H',(Itk d o kvs).yld i H x H'->g x σ H' fun σ2 H2=>tb {D with nx:=N,ct:=N,bk:=D.nx} σ2 H2):=by
 refine⟨fun i m σ H=>m=kvs.length-i/\i<=kvs.length/\Pv i σ H,⟨kvs.length,by simp,AS _,h0⟩, ?_⟩;rintro i m σ H ⟨rfl,hi,p⟩;have q:=hl i σ H hi p;by_cases hlt:i<kvs.length
 .refine .inr ⟨⟨q,hlt⟩,Pv (i+1),fun σ' H' p'=>⟨kvs.length-(i+1),by lia,rfl,hlt,p'⟩, ?_⟩;rintro x H' ⟨rfl,b,k,v,rfl,e,hb⟩;exact hs i k v b σ _ e p hb
 .obtain rfl:i=kvs.length:=by lia
  exact .inl ⟨⟨q,A8 _⟩,hd σ H p⟩
noncomputable def rH_ (tk tv:TE):TE:=fun σ H Q=>∀p,H p=none->tk σ (upd H p (.dT [])) fun x H1=>tv σ H1 fun y H2=>H2 p=some (.dT [])/\∃k b,x= .ref b/\H2 b=some (.tup (k.map kV))/\Q (.ref p) (upd H2 p (.dT (dh_ [] k y)))
theorem n1_ {ek ev:Expr}{tk tv:TE}{pos:Pos} (hu:X.A.units+1<cLine) (hk:PE X ek tk) (hv:PE X ev tv):PE X (.Dict [some ek] [ev] pos) (rH_ tk tv):=by
 intro pins s σ H Q I q;have hn:=I.hok.fresh (A8 s.heap.objs.size);have I1:=I.laid (a:=s.heap.objs.size) (o:= .dT []) (h':=s.heap.push {cls:= .type "dict",data:= .dict #[]}) (t':=s.toks) (fun _ _ q=>A9 _ q) (A8 _) (ki_ s.heap I.big);rw [arm_eval_Dict,zip_pairTrees [some ek] [ev] X.env pos rfl rfl,dictDisplay_pairs (pairTrees [some ek] [ev] X.env pos) (by intro z;cases z) (show 1<17 by decide)];refine A0 (wpAny_standAt (A0 ?_));unfold subDict;refine A0 (wpAny_alloc ?_);refine A0 (Aw ?_);rw [A6 (show(pairTrees [some ek] [ev] X.env pos).length<=15 from(by decide:1<=15))];refine A0 (pairTrees_cons_walk (thn (hk pins _ σ _ _ I1 (q _ hn)) fun u s1 ⟨x,H1,I2,rx,q1⟩=>thn (hv pins s1 σ H1 _ I2 q1) fun w2 s2 ⟨y,H2,I3,ry,e,k,b,ex,eb,q2⟩=>pairTrees_nil_walk ?_));subst ex;cases (show u=Value.ref b from rx);obtain⟨z,hd,xs,rel,dd⟩:=sP_ I3.hok e;cases rel;refine wpAny_holding (wpAny_bind ?_);rw [List.forIn_cons];dsimp only;refine A0 (A0 (wpAny_dictSet_heap (knd:=tupleKind (aZ_ X.prog X.w)) (show X.A.units<cLine by lia) (hK_ I3.hok eb) dd (fun h' dd' hs=>A3 ?_) (AS _)));dsimp only;rw [List.forIn_nil];refine wpAny_pure (wpAny_pure (wpAny_pure (wpAny_pure ?_)));obtain⟨o,es,ep,hq,h2,h3,h4,_,h5⟩:=dd';refine⟨.ref s.heap.objs.size,_,eg_ I3 (by rw [e];exact True.intro) hs ⟨o,hq⟩ (show aH_ X.prog X.w (upd H2 s.heap.objs.size (.dT (dh_ [] k y))) h' s.heap.objs.size (.dT (dh_ [] k y)) from⟨(by show 1<=sizeLine;decide),hd,_,KT.keeps (KT.put .nil k eb ry) fun c ys ec=> ?_,o,es,ep,hq,h2,h3,h4,h5⟩),rfl,q2⟩;rw [ao_ (oe_ ec e (fun z=>nomatch z))];exact ec
noncomputable def tn_ (td:TE):TE:=fun σ H Q=>td σ H fun x H1=>∃(d:Addr) (kvs:List (List Key×V)) (ns:List Int),x= .ref d/\Rd H1 d (.dT kvs)/\kvs.map (·.2)=ns.map V.int/\Q (.int ns.sum) H1
theorem qh_ {e:Expr}{td:TE}{p apos cpos pos:Pos} (hc:X.calm=true) (hg:Gl X "sum") (hm:X.mg "sum"=none) (he:PE X e td)
  (he2:starEach [Expr.Call (.Attribute e "values" apos) [] [] cpos] X.env=(false,eval (Expr.Call (.Attribute e "values" apos) [] [] cpos) X.env)::starEach [] X.env:=by rfl)
  (hbase:attributeBase e "values" X.env (eval e X.env)=eval e X.env:=by rfl) (hline:(apos.endLine==cpos.line)=true:=by rfl):
  PE X (.Call (.Name "sum" p) [.Call (.Attribute e "values" apos) [] [] cpos] [] pos) (tn_ td):=by
 intro pins s σ H Q I h;refine BU (dm_ I hg hm (by first|exact boot_sum|rfl|ac_nf) ?_ (by decide) (by decide));refine Cb ?_ he2 (by rfl);rw [he2];show wpAny _ _ (spliced ((false,eval (Expr.Call (.Attribute e "values" apos) [] [] cpos) X.env)::backTo pos (starEach [] X.env))) _ _ s;refine Ca ?_;refine wpAny_Call_method0_late hbase hline (thn (he pins s σ H _ I h) fun v s1 ⟨x,H1,I1,r1,q1⟩=> ?_);obtain⟨d,kvs,ns,rfl,hrd,hns,q⟩:=q1;cases r1;obtain⟨hT,hdi,hsys⟩:=pi_ I1 (.inr ⟨kvs,hrd⟩);obtain⟨z,y,xs,rel,o,es,ep,h1,h2,h3,h4,h5⟩:=(show aH_ X.prog X.w H1 s1.heap d (.dT kvs) from nS_ I1.hok hrd);refine⟨"dict","dict.values",PySem.F.plainAttrs_dict,PySem.F.slot_dict_values,PySem.F.type_dict_values,hT,hdi,Ck rfl (PySem.evalArgs_none (qX_ hsys h1 h2 (A3 ?_)))⟩;show wpAny _ _ (call (.builtin "sum") [.ref s1.heap.objs.size]) _ _ _;have h1':(s1.heap.push {cls:= .type "dict_values",data:= .fields #[.ref d]}).get? d=some o:=A9 _ h1;have hdl:d<s1.heap.objs.size:=AN h1;have hsz:es.size=kvs.length:=by rw [<-B3,h4,A2,<-Bq rel]
 have hnl:ns.length=kvs.length:=by have:=Bg List.length hns;simpa using this.symm
 refine call_sum_walkAnyS (qV_ (s:={s1 with heap:=s1.heap.push {cls:= .type "dict_values",data:= .fields #[.ref d]}}) ⟨_,AL _ rfl,rfl,rfl⟩ h1' h3 ?_);refine⟨_,_,_,_,_,_,_,fun i=>ns.getD i 0,rfl,(kX_ (A:=X.A.in1) (I.ok.hd hc) (s1.heap.push {cls:= .type "dict_values",data:= .fields #[.ref d]}).objs.size d (by rw [BR];exact AO (Ag hdl)) h3).toS,⟨⟨_,AL _ rfl,rfl,rfl⟩,A9 _ h1'⟩, ?_, ?_, ?_⟩
 .intro b hb;simp only [AK,Bb,Cw] at hb;rcases hb with rfl|rfl
  .show _<(Heap.push (s1.heap.push _) _).objs.size;rw [BR (s1.heap.push _)];exact Ba _
  .show _<(Heap.push (s1.heap.push _) _).objs.size;rw [BR,BR];exact Ag (Ag hdl)
 .rintro i v ⟨e,hei,rfl⟩;rw [<-Bp,h4,A7] at hei;obtain⟨q',hq',rfl⟩:=A4.mp hei;have hi:i<kvs.length:=by rw [Bq rel];exact(AH.mp hq').1
  obtain⟨q2,hq2,e1,e2,e3⟩:=d7_ rel (A1 hi);rw [hq'] at hq2;cases hq2;have:kvs[i].2=V.int (ns.getD i 0):=by
   have z1:(kvs.map (·.2))[i]? =some kvs[i].2:=by rw [A7,A1 hi];rfl
   rw [hns,A7,A1 (by lia)] at z1;simp only [Be,Az] at z1;rw [<-z1,AG,A1 (by lia)];rfl
  rw [this] at e3;exact e3
 .intro s' t' hm';obtain⟨h',g',d',tk',os'⟩:=s';have eg:g'=s1.gens:=hm'.gens;have ed:d'=s1.drawn:=hm'.drawn;have eo:os'=s1.os:=hm'.os;subst eg;subst ed;subst eo;have es:preSum (fun i=>ns.getD i 0) es.size=ns.sum:=by rw [hsz,<-hnl,lJ_ ns ns.length (A8 _),Al]
  rw [es];refine⟨.int ns.sum,H1,I1.kept fun b o e=>hm'.heap b o (fun hb=> ?_) (A9 _ (A9 _ e)),⟨t',rfl⟩,q⟩;simp only [AK,Bb,Cw] at hb;have:=AN e;rw [hb,BR] at this;exact absurd this (Nat.not_lt.mpr (Cf _))
end
end L2
namespace L2
open PySem PySem.Spec PyProof.Rows
section
variable {X:Cx}
theorem l2_:OpR X (binaryOp .Add) (fun x y H Q=>∃xs ys,Is H (.t xs) x/\Is H (.t ys) y/\xs.length+ys.length<=sizeLine/\∀v H2,ak_ H H2->Is H2 (.t (xs++ys)) v->Q v H2):=by
 intro pins s σ H x y v u Q I rx ry h;obtain⟨xs,ys,hx,hy,hz,q⟩:=h;obtain⟨a,vs,rfl,ha,ra⟩:=gq_ hx;obtain⟨b,ws,rfl,hb,rb⟩:=gq_ hy;have l1:=ra.length;have l2:=rb.length;by_cases h1:vs=[]
 .subst h1;have hx0:xs=[]:=List.length_eq_zero_iff.mp (by rw [<-l1];rfl);subst hx0;cases rx;cases ry;obtain⟨its,r1,p1,_⟩:=I.tuple (SqT.of (K:=X.K) ha);obtain⟨its2,r2,p2,_⟩:=I.tuple (SqT.of (K:=X.K) hb);cases r1;obtain⟨⟨cls,dd,data,sl⟩,ho,hc,n,hd⟩:=p1;obtain⟨⟨cls2,dd2,data2,sl2⟩,ho2,hc2,n2,hd2⟩:=p2;simp only at hc hd hc2 hd2;subst hc hd hc2 hd2;exact concat_meets ⟨_,ho,rfl⟩ ⟨_,ho2,rfl⟩ noFill_tuple_add seq_tuple_add PySem.F.slot_tuple_add PySem.F.entry_tuple_add (PySem.F.args_tuple_add_2 _ _) (tuple_addW0 a b _ _ n n2 dd dd2 sl sl2 (by simp)) ⟨ho,ho2,⟨.ref b,H,I,rfl,q _ H (ak_.refl H) hy⟩⟩
 .refine qq_ pins s σ H (.ref a) (.ref b) v u Q I rx ry ⟨a,b,vs,ws,rfl,rfl,SqT.of ha,SqT.of hb,h1,by lia,fun e=> ?_,fun _ p np=> ?_⟩
  .have:ys=[]:=List.length_eq_zero_iff.mp (by rw [<-l2,e];rfl);subst this;exact q _ H (ak_.refl H) (by rw [Bs];exact hx)
  .exact q _ _ (ak_.new np) (g1_ ae_ ((ra.append rb).mono (ak_.new np)))
theorem lo_:SlR X (fun x lo hi H Q=>∃xs xs',Is H (.t xs) x/\(∀(H':Hp) (vs:List V),Iss H' xs vs->Iss H' xs' (fP_ vs lo hi))/\(∀vs:List V,vs.length=xs.length->(HT.sIx vs.length 0 lo=0/\HT.sIx vs.length vs.length hi=vs.length)->xs'=xs)/\∀v H2,ak_ H H2->Is H2 (.t xs') v->Q v H2):=by
 intro pins s σ H x v vl vu lo hi sl Q I rx hs pl pu h;obtain⟨xs,xs',hx,hc,hw,q⟩:=h;obtain⟨a,vs,rfl,ha,ra⟩:=gq_ hx;refine p2_ pins s σ H (.ref a) v vl vu lo hi sl Q I rx hs pl pu ⟨a,vs,rfl,SqT.of ha,fun e=> ?_,fun e p np=> ?_⟩
 .have:=hw vs ra.length e;subst this;exact q _ H (ak_.refl H) hx
 .exact q _ _ (ak_.new np) (g1_ ae_ ((hc _ _ ra).mono (ak_.new np)))
end
noncomputable def LTS (H H':Hp):Prop:=(∀b xs,H b=some (.lst xs)->H' b=some (.lst xs))/\∀b xs,H b=some (.tup xs)->H' b=some (.tup xs)
theorem LTS.dict {H:Hp}{d:Addr}{kvs:List (List Key×V)}{o:HO} (h:H d=some (.dT kvs)):LTS H (upd H d o):=
 ⟨fun b xs e=>by rw [ao_ (by rintro rfl;rw [h] at e;cases e)];exact e,fun b xs e=>by rw [ao_ (by rintro rfl;rw [h] at e;cases e)];exact e⟩
theorem LTS.rd {H H':Hp}{d:Addr}{kvs:List (List Key×V)} (h:Rd H d (.dT kvs)) (k:∀b,b≠d->H' b=H b):LTS H H':=by
 have nd:∀b o,H b=some o->(∀kvs,o≠ .dT kvs)->(∀ob u,o≠ .frz ob u)->b≠d:=by
  rintro b o e n1 n2 rfl;rcases h with h|⟨ob,h⟩
  .rw [h] at e;cases e;exact n1 _ rfl
  .rw [h] at e;cases e;exact n2 _ _ rfl
 exact⟨fun b xs e=>by rw [k b (nd b _ e (fun _ z=>nomatch z) fun _ _ z=>nomatch z)];exact e,fun b xs e=>by rw [k b (nd b _ e (fun _ z=>nomatch z) fun _ _ z=>nomatch z)];exact e⟩
mutual
theorem Is.lts {H H':Hp} (s:LTS H H'):∀{d:D}{v:V},Is H d v->Is H' d v
 | .i _,_,h=>by rw [cn_ h];exact kT_
 | .l xs,_,h=>by
  obtain⟨a,vs,e,q,r⟩:=cI_ h;rw [e];exact cu_ (s.1 _ _ q) (Iss.lts s r)
 | .t xs,_,h=>by
  obtain⟨a,vs,e,q,r⟩:=gq_ h;rw [e];exact g1_ (s.2 _ _ q) (Iss.lts s r)
theorem Iss.lts {H H':Hp} (s:LTS H H'):∀{xs:List D}{vs:List V},Iss H xs vs->Iss H' xs vs
 |[],_,h=>by rw [bf_ h];exact an_
 |x::xs,_,h=>by
  obtain⟨u,us,e,q,r⟩:=az_ h;rw [e];exact ai_ (Is.lts s q) (Iss.lts s r)
end
end L2
namespace L2
open PySem PySem.Spec PyProof.Rows PySem.W
section
variable {X:Cx}{pins:List (Addr×Obj)}{σ:St}{H:Hp}{s:Shared}
theorem Inv.goesK {i:Nat}{n:Str}{h':Heap}{m:Str->Option Value}{t':Nat}{w:Option Value} (I:Inv X pins σ H s) (hN:X.N.Nodup) (hi:X.N[i]? =some n) (hn0:s.heap.Ns X.env.locals m) (hl:∀(i:Nat) (x:Str) (v:V),X.N[i]? =some x->σ[i]? =some (some v)->Vis X.env.scope x->∃u,aV_ v u/\u3_ X.env s.heap m x u)
  (hn:h'.Ns X.env.locals (fun x=>if x=n then w else m x)) (hs:Heap.SameBut X.env.locals s.heap h'):Inv X pins (σ.set i none) H {s with heap:=h',toks:=t'}:=by
 have lt:∀{b:Addr}{o:Obj},X.s₀.heap.get? b=some o->b≠X.env.locals:=fun e=>AO (AY (AN e) I.ok.above);refine⟨I.ok,I.os,I.bare,⟨fun b o e n hb hx=> ?_,fun b o e n hb hx=> ?_,I.base.free,fun b o e hx=> ?_,I.base.tups,I.base.frzs,I.base.tbls⟩,⟨_,hn,fun j y v' e1 e2 e3=> ?_⟩,fun y c e=> ?_,I.free,I.freeC,fun p hp=> ?_,fun b ob e=> ?_, ?_⟩
 .exact(hs.2 b (lt e)).trans (I.base.keep b o e n hb hx)
 .obtain⟨sl,e1⟩:=I.base.slot b o e n hb hx;exact⟨sl,(hs.2 b (lt e)).trans e1⟩
 .obtain⟨o',e1⟩:=I.base.there b o e hx;exact⟨o',(hs.2 b (lt e)).trans e1⟩
 .by_cases hj:j=i
  .subst hj;rw [List.getElem?_set_self'] at e2;cases e:σ[j]? with
   |none=>rw [e] at e2;cases e2
   |some a=>rw [e] at e2;cases e2
  .rw [Bv (Cs hj)] at e2;obtain⟨u',r',q⟩:=hl j y v' e1 e2 e3;refine⟨u',r', ?_⟩;rcases q with⟨k,e⟩|⟨k,c,e,z⟩
   .refine .inl ⟨k, ?_⟩;have:y≠n:=fun e=>hj (gr_ hN e1 (e▸hi));simp [this,e]
   .exact .inr ⟨k,c,e,z.sameBut hs (I.cne y c e)⟩
 .obtain⟨w',q⟩:=I.cell y c e;exact⟨w',q.sameBut hs (I.cne y c e)⟩
 .obtain⟨e,n,ne,nf,d⟩:=I.pin p hp;exact⟨(hs.2 p.1 ne).trans e,n,ne,nf,d⟩
 .refine(I.hok b ob e).stay (fun c v hc q=>(hs.2 c fun ec=> ?_).trans q) (fun _ q=>q) fun _ _ q=>q;have fr:=I.free;rw [<-ec] at fr;rcases hc with rfl|hc
  .rw [fr] at e;cases e
  .rw [fr] at hc;cases hc
 .rw [BZ];exact I.len
end
noncomputable def PSx (X:Cx) (st:List Stmt) (t:XK->TS):Prop:=
 ∀(E:XK) (pins:List (Addr×Obj)) (s:Shared) (σ:St) (H:Hp) (D:Ends),Inv X pins σ H s->t E D σ H->wpAny (model X.prog X.w) X.A (execs st X.env) (SP X pins D) (fun e s'=>∃H1 s1,Inv X pins σ H1 s1/\CX1 X.prog X.w X.stack H1 s1 E e s') s
section
variable {X:Cx}{k:Nat}{f:Addr}{fd:FuncData}{ps:List Str}{sp:Sp}{dvs:List V}{ds:List Value}{x:Str}{p pos pos':Pos}{e:Expr}{es:List Expr}{t:TA}
theorem jB_ (F:FnOk X.prog X.w X.K X.mg X.base (CX1 X.prog X.w) k f fd ps sp) (hr:Room k X.A) (hg:Gl X x) (hm:X.mg x=some (.ref f)) (hk:W.keepIn X.K (.ref f)=true) (hb:ic_ X.K fd ps ds) (hd:aR_ dvs ds)
  (ha:∀pn z,PA (X.inTry pn z) (e::es) t) (hdb:(x==("__debug__":Str))=false:=by decide) (he:starEach (e::es) X.env=(false,eval e X.env)::starEach es X.env:=by rfl) (hpl:(backTo pos (starEach es X.env)).any (·.1)=false:=by rfl)
  (hs:swapsWith (.Call (.Name x p) (e::es) [] pos) none pos'.line X.env=pure false:=by rfl):
  PSx X [.Expr (.Call (.Name x p) (e::es) [] pos) pos'] fun E=>rG_ (pR_ sp dvs E t):=by
 intro E pins s σ H D I h;refine wpAny_execs_cons (thn (Q:=SP X pins D) ?_ fun f s1 q=> ?_)
 rotate_left 1
 .cases f with
  |next=>exact CB q
  |ret v=>exact q
  |brk=>exact q
  |cont=>exact q
 refine wpAny_Expr_any (thn (Q:=EP X pins σ fun _ H1=>D.nx σ H1) ?_ fun v s1 ⟨y,H1,I1,r1,q1⟩=>⟨σ,H1,I1,q1⟩) I.quiet hs;refine BU (eb_ I hg hm ?_ hdb);have J:Inv (X.inTry (X.pn++pins) fun e s'=>∃H1 s1,Inv X pins σ H1 s1/\CX1 X.prog X.w X.stack H1 s1 E e s') [] σ H s:=I.toTry;refine W.callWith_K (h₀:=X.base) I.ok.mod.kin hk (thn (ha _ _ pos [] s σ H _ J h) fun us s1 ⟨vs,H1,I1',r,q⟩=>⟨I1'.kIn, ?_⟩) he hpl;have I1:Inv X pins σ H1 s1:=I1'.unTry;have r2:aR_ (vs++dvs) (us++ds):=r.append hd;have hl:(us++ds).length=ps.length:=by rw [<-r2.length];exact F.len _ _ _ _ q
 refine wpAny_call (Ce (F.run X.A X.stack s1 H1 ⟨us,[]⟩ (us++ds) (vs++dvs) _ E hr I1.env0 (hb s1 us I1.kIn hl) r2 q) fun r s' hq=> ?_);cases r with
 |error e=>exact⟨H1,s1,I1,hq⟩
 |ok fl=>
  cases fl with
  |ret u=>exact I1.after hq
  |next=>exact False.elim hq
  |brk=>exact False.elim hq
  |cont=>exact False.elim hq
theorem r4_ {c:Expr}{a b:List Stmt}{tc:TT}{ta tb:XK->TS} (hc:∀pn z,PT (X.inTry pn z) c tc) (ha:PSx X a ta) (hb:PSx X b tb):PSx X [.If c a b pos] fun E=>uO_ tc (ta E) (tb E):=by
 intro E pins s σ H D I h;refine wpAny_execs_cons (thn (Q:=SP X pins D) ?_ fun f s1 q=> ?_)
 rotate_left 1
 .cases f with
  |next=>exact CB q
  |ret v=>exact q
  |brk=>exact q
  |cont=>exact q
 have J:Inv (X.inTry (X.pn++pins) fun e s'=>∃H1 s1,Inv X pins σ H1 s1/\CX1 X.prog X.w X.stack H1 s1 E e s') [] σ H s:=I.toTry;refine wpAny_If (thn (hc _ _ [] s σ H _ J h) fun d s1 ⟨H1,I1,q1⟩=> ?_);cases d with
 |true=>exact ha E pins s1 σ H1 D I1.unTry q1
 |false=>exact hb E pins s1 σ H1 D I1.unTry q1
end
noncomputable def Ends.del (D:Ends) (i:Nat):Ends:={nx:=fun σ H=>D.nx (σ.set i none) H,rt:=D.rt,bk:=fun σ H=>D.bk (σ.set i none) H,ct:=fun σ H=>D.ct (σ.set i none) H}
noncomputable def tl_ (K:Frag) (hc:Addr) (i:Nat) (tb:XK->TS) (ts:TS):TS:=fun D σ H=>∃E:XK,tb E D σ H/\
 ∀(C e:Addr) (H':Hp),E (.ref C) none H'->H' e=none->exmOne K (.ref C) (.ref hc)=some true/\ts (D.del i) (σ.set i (some (.ref e))) (upd H' e (nf_ C e))
theorem qa_ {X:Cx}{x n:Str}{hc:Addr}{i:Nat}{body suite:List Stmt}{b₀:Stmt}{tb:XK->TS}{ts:TS}{np hpos pos:Pos} (F:Fnc X) (hN:X.N.Nodup) (hi:X.N[i]? =some n) (hx:Loc X.env.scope n) (hloc:X.env.kindOf n=some .local) (hg:Gl X x) (hm:X.mg x=some (.ref hc))
  (hb:PSx X body tb) (hs:∀e,PSs (X.inSuite e) (b₀::suite) ts) (hf:X.fn n=true\/X.env.scope.names.lookup n=some .local:=by first|exact .inl rfl|exact .inr rfl) (hdb:(x==("__debug__":Str))=false:=by decide):
  PS X (.Try body [.ExceptHandler (some (.Name x np)) (some n) (b₀::suite) hpos] [] [] pos) (tl_ X.K hc i tb ts):=by
 intro pins s σ H D I ⟨E,hw,hE⟩;refine wpAny_Try_except (BC (hb E pins s σ H D I hw) (fun f s1 q=> ?_) fun ev s1 q=> ?_)
 .cases f with
  |next=>exact CB q
  |ret u=>exact q
  |brk=>exact q
  |cont=>exact q
 obtain⟨H1,s0,I0,a,C,H',B,a0,rfl,hEE,os,bare,u,hB,hn,fl,kB,tB⟩:=q;obtain⟨hmt,hts⟩:=hE C a H' hEE hn;have nfr:a∉frs X.stack:=fun z=>by
  obtain⟨_,o,e1,d⟩:=fl.2.2.1.mem z;obtain⟨oe,vs,e2,_,dd,_⟩:=fl.first;rw [e1] at e2;cases e2;exact d _ dd
 have at_:∀{h5:Heap},B.StaysIn h5->s1.heap.UpToSlots h5->Inv X pins σ H' {s1 with heap:=h5}:=fun{h5} st up=>
  I0.call' (s':={s1 with heap:=h5}) (ch:=[]) os (kY_ u fl.2.2.1 kB tB st up) (hB.kept st) bare fun _ z=>absurd z (by simp)
 have bn:=fl.2.1;have new0:s0.heap.get? a=none:=by
  cases q:s0.heap.get? a with
  |none=>rfl
  |some o=>
   obtain⟨o',z⟩:=tB a o q nfr;rw [bn] at z;cases z
 have hnL:a≠X.env.locals:=fun z=>nfr (by rw [F.stk,z];exact pm_ (AI ..) F.fr);have new:X.s₀.heap.get? a=none/\(∀x c,X.env.cells.lookup x=some c->c≠a)/\(∀p∈X.pn++pins,p.1≠a):=by
  refine⟨?_,fun y c q z=> ?_,fun p hp z=> ?_⟩
  .cases q:X.s₀.heap.get? a with
   |none=>rfl
   |some o=>
    obtain⟨o',z⟩:=I0.base.there a o q (by rw [F.ex];simp);rw [new0] at z;cases z
  .obtain⟨v,o,q1,_⟩:=I0.cell y c q;rw [z,new0] at q1;cases q1
  .have q1:=(I0.pin p hp).1;rw [z,new0] at q1;cases q1
 refine wpAny_looks_onW (by rw [I.ok.frames,F.stk]) F.fr (by rw [<-F.stk];exact fl) fun h4 held4 up4=> ?_;refine wpAny_landsW held4 fun h5 fl5 up5=> ?_;have I5:Inv (X.inSuite a) pins σ H' {s1 with heap:=h5}:=(at_ fl5.1 (up4.trans up5)).toSuite;refine wpAny_handleBy_cons (codeAny_handlers_test (eb_ I5 hg hm ?_ hdb)) (by intro q;cases q);obtain⟨ob,ho,hcl⟩:=fl5.there;refine(exm_one (K:=X.K) I5.kIn (ih_ ho hcl) hmt).here ?_;refine codeAny_handlers_suite_as ?_;refine lands_againW fl5 fun h6 fl6 up6=> ?_;obtain⟨ob6,ho6,hcl6⟩:=fl6.there;have I6:Inv X pins σ (upd H' a (nf_ C a)) {s1 with heap:=h6}:=(at_ fl6.1 ((up4.trans up5).trans up6)).hold hn hnL new ⟨ob6,ho6,hcl6⟩;refine dI_ (X:=X.inSuite a) (v:= .ref a) I6.toSuite hN hi hx rfl (fun s7 I7=> ?_) hf;refine BC (hs a pins s7 _ _ _ I7 hts) (fun f s8 q=> ?_) fun _ _ z=>z.elim;have go:∀{σ8:St}{H8:Hp},Inv (X.inSuite a) pins σ8 H8 s8->(∀s9,Inv X pins (σ8.set i none) H8 s9->SP X pins D f s9)->
   wpAny (model X.prog X.w) X.A (do bindName X.env n .none;unbindBehindTheSuite X.env n hpos) (fun _ s9=>SP X pins D f s9) X.xe s8:=fun{σ8 H8} I8 k=>by
  obtain⟨m,hns,hlk⟩:=I8.loc;refine wpAny_nameGoes_keeps hloc hns (by rw [I.ok.kind];rfl) fun h9 v9 hn9 hs9=> ?_;exact k _ ((Inv.unSuite I.ok.hd I8).goesK (t':=s8.toks+1) hN hi hns hlk hn9 hs9)
 cases f with
 |next=>obtain⟨σ8,H8,I8,q⟩:=q;exact go I8 fun s9 J=>⟨_,_,J,q⟩
 |brk=>obtain⟨σ8,H8,I8,q⟩:=q;exact go I8 fun s9 J=>⟨_,_,J,q⟩
 |cont=>obtain⟨σ8,H8,I8,q⟩:=q;exact go I8 fun s9 J=>⟨_,_,J,q⟩
 |ret u=>obtain⟨v,σ8,H8,I8,r,q⟩:=q;exact go I8 fun s9 J=>⟨v,_,_,J,r,q⟩
end L2
namespace L2
open PySem PySem.Spec PyProof.Rows PySem.W
section
variable {prog:Program}{w:World}{K:Type} [DecidableEq K] {knd:KeyKind prog w K}
inductive ItemsT (knd:KeyKind prog w K) (h:Heap):List (List K)->List Value->Prop
 |nil:ItemsT knd h [] []
 |cons {k:List K}{a:Addr}{ks:List (List K)}{vs:List Value}:IsTupleKey knd h k a->ItemsT knd h ks vs->ItemsT knd h (k::ks) (.ref a::vs)
noncomputable def b5_ (knd:KeyKind prog w K) (h:Heap) (ks:List (List K)) (a:Addr):Prop:=∃o items n,h.get? a=some o/\o.cls= .type "tuple"/\o.data= .seq items n/\ItemsT knd h ks items.toList
theorem ItemsT.inj {h:Heap}{x y:List (List K)}{vs:List Value} (hx:ItemsT knd h x vs) (hy:ItemsT knd h y vs):x=y:=by
 induction hx generalizing y with
 |nil=>cases hy;rfl
 |cons h1 _ ih=>
  cases hy with
  |cons h2 t2=>rw [h1.inj h2,ih t2]
theorem ItemsT.keeps {h h':Heap}{x:List (List K)}{vs:List Value}{d:Addr}{o:Obj}{es ep} (hx:ItemsT knd h x vs) (ho:h.get? d=some o) (hd:o.data= .dict es ep) (hs:Heap.SameBut d h h'):ItemsT knd h' x vs:=by
 induction hx with
 |nil=>exact .nil
 |cons h1 _ ih=>exact .cons (h1.keeps ho hd hs) ih
theorem b5_.typeIs {s:Shared}{ks:List (List K)}{a:Addr} (x:b5_ knd s.heap ks a):s.TypeIs (.ref a) "tuple":=let ⟨o,_,_,ho,hc,_⟩:=x;⟨o,ho,hc⟩
theorem b5_.inj {h:Heap}{a:Addr}{x y:List (List K)} (hx:b5_ knd h x a) (hy:b5_ knd h y a):x=y:=by
 obtain⟨o,items,n,ho,_,hd,hi⟩:=hx;obtain⟨o',items',n',ho',_,hd',hi'⟩:=hy;obtain rfl:o=o':=Af (ho.symm.trans ho');rw [hd] at hd';injection hd' with h1 _;subst h1;exact hi.inj hi'
theorem b5_.keeps {h h':Heap}{ks:List (List K)}{a d:Addr}{o:Obj}{es ep} (x:b5_ knd h ks a) (ho:h.get? d=some o) (hd:o.data= .dict es ep) (hs:Heap.SameBut d h h'):b5_ knd h' ks a:=by
 obtain⟨o',items,n,ho',hc,hd',hi⟩:=x;have hne:a≠d:=by
  rintro rfl;obtain rfl:o'=o:=Af (ho'.symm.trans ho);rw [hd] at hd';exact nomatch hd'
 exact⟨o',items,n,(hs.2 a hne).trans ho',hc,hd',hi.keeps ho hd hs⟩
noncomputable def gs_ (knd:KeyKind prog w K) (ks:List (List K)):Int:=reduceHash (Builtin.Tuple.tupleHashOf (ks.map (tupleKeyHash knd)))
noncomputable def eX_ (ks:List (List K)):Nat:=(ks.map fun k=>k.length+1).sum+1
variable {A:Around}{E:Value->Shared->Prop}{s:Shared}
theorem iB_ {ks:List (List K)}{a:Addr}{Q:Int->Shared->Prop} (hu:A.units+1<cLine) (hk:b5_ knd s.heap ks a) (h:Q (gs_ knd ks) {s with toks:=s.toks+eX_ ks}):
  wpAny (model prog w) A (pyHash (.ref a)) Q E s:=by
 have hT:=hk.typeIs;obtain⟨o,items,n,ho,_,hd,hi⟩:=hk;unfold pyHash;first|unfold pyHashByItsType|skip
 first|refine A0 (wpAny_cRoomFor_or (.inr (by lia)) ?_)|skip
 refine A0 (C8 hT Cj.lookup ?_);show wpAny _ _ (if(some (Value.builtin "tuple.__hash__")==some Value.none)=true then _ else _) Q E s;rw [A5 (by rw [beq_builtin_none];exact AZ)];refine A0 (C8 hT Cj.lookup ?_);show wpAny _ _ (callSpecialIfBoundUnlessNone? (.ref a) "__hash__" _>>=_) Q E s;refine A0 (wpAny_callSpecialIfBoundUnlessNone?_slot hT Cj (Ar Cj hT F.entry_tuple_hash ?_ (F.args_tuple_hash_1 _)));show wpAny _ _ (Builtin.Tuple.tupleItemsOf (.ref a)>>=_) _ _ s;refine A0 (wpAny_tupleItemsOf ho hd ?_);refine A0 ?_;rw [<-CT];refine Br _
  (fun cM_ (b:Array Int) s'=>∃done left,ks=done++left/\ItemsT knd s.heap left cM_/\b.toList=done.map (tupleKeyHash knd)/\s'={s with toks:=s.toks+(done.map fun k=>k.length+1).sum})
  _ ?_ ?_ _ _ ⟨[],ks,rfl,hi,rfl,rfl⟩
 .rintro x cM_ b s' ⟨done,left,rfl,hl,hb,rfl⟩;cases hl with
  | @cons k a1 ks' _ h1 hl'=>
   refine A0 (wpAny_pyHash_tuple (knd:=knd) (ks:=k) (by first|exact hu|(rw [aI_];lia)|(simp;lia)) h1 ?_);first
    |exact A3 ⟨done++[k],ks',by simp,hl',by simp [hb],by simp [Nat.add_assoc]⟩
    |exact A0 (A3 (A3 ⟨done++[k],ks',by simp,hl',by simp [hb],by simp [Nat.add_assoc]⟩))
 .rintro b s' ⟨done,left,rfl,hl,hb,rfl⟩;cases hl;rw [Bs] at h;show wpAny _ _ (retInt (Builtin.Tuple.tupleHashOf b.toList)) _ _ _;rw [hb];refine wpAny_ret_mkInt ?_;show wpAny _ _ (if(decide (-(2:Int)^63<=Builtin.Tuple.tupleHashOf (done.map (tupleKeyHash knd)))&&decide (Builtin.Tuple.tupleHashOf (done.map (tupleKeyHash knd))<2^63))=true then _ else _) Q E _;unfold gs_ reduceHash eX_ at h;by_cases hr:(decide (-(2:Int)^63<=Builtin.Tuple.tupleHashOf (done.map (tupleKeyHash knd)))&&decide (Builtin.Tuple.tupleHashOf (done.map (tupleKeyHash knd))<2^63))=true
  .rw [A6 hr];rw [A6 hr] at h;exact A3 (by simpa [Nat.add_assoc] using h)
  .rw [A5 hr];rw [A5 hr] at h;exact A0 (CM (A3 (by simpa [Nat.add_assoc] using h)))
theorem hu_ {x y:List (List K)}{a b:Addr}{P:Fin->Shared->Prop} (hu:A.units<cLine) (hx:b5_ knd s.heap x a) (hy:b5_ knd s.heap y b) (h:P (.done (.ret (.bool (decide (x=y))))) s):
  wpAny (model prog w) A (Builtin.«tuple.__eq__» ⟨[.ref a, .ref b],[]⟩) P E s:=by
 have hTb:=hy.typeIs;obtain⟨oa,xs,na,hoa,_,hda,hia⟩:=hx;obtain⟨ob,ys,nb,hob,_,hdb,hib⟩:=hy;show wpAny _ _ (isInstance (.ref b) (.type "tuple")>>=_) _ _ s;refine A0 (C2 hTb isSubtype_tuple_tuple ?_);simp only [BG,AE,Ak];refine A0 (wpAny_tupleItemsOf hoa hda ?_);refine A0 (wpAny_tupleItemsOf hob hdb ?_);refine A0 ?_;refine Br _
  (fun cM_ r s'=>r.1=none/\s'=s/\∃x' y' xs' ys',cM_=List.zip xs' ys'/\ItemsT knd s.heap x' xs'/\ItemsT knd s.heap y' ys'/\decide (x'=y')=decide (x=y)/\(xs'.length==ys'.length)=(xs.size==ys.size))
  _ ?_ ?_ _ _ ⟨rfl,rfl,x,y,xs.toList,ys.toList,rfl,hia,hib,rfl,by simp⟩
 .rintro⟨u,v⟩ cM_ r s' ⟨hr,rfl,x',y',xs',ys',hz,hx',hy',hdec,hlen⟩;cases hx' with
  |nil=>simp at hz
  | @cons k1 a1 x'' xs'' h1 hx''=>
   cases hy' with
   |nil=>simp at hz
   | @cons k2 a2 y'' ys'' h2 hy''=>
    simp only [List.zip_cons_cons,List.cons.injEq,BV] at hz;obtain⟨⟨rfl,rfl⟩,rfl⟩:=hz;refine A0 (wpAny_eqBool_tuple (knd:=knd) (x:=k1) (y:=k2) (by first|exact hu|(rw [aI_];lia)|(simp;lia)) h1 h2 ?_);by_cases hk:k1=k2
    .subst hk;rw [B5 rfl];simp only [BG,AE,Ak];refine A3 ⟨rfl,rfl,x'',y'',xs'',ys'',rfl,hx'',hy'', ?_,by simpa using hlen⟩;rw [<-hdec];by_cases hxy:x''=y''
     .simp [hxy]
     .simp [hxy]
    .rw [Ao hk];simp only [D2,Bx];have hf:decide (x=y)=false:=by rw [<-hdec];simp [hk]
     rw [hf] at h;exact A0 (A3 (A3 (A3 h)))
 .rintro⟨r1,r2⟩ s' ⟨hr,rfl,x',y',xs',ys',hz,hx',hy',hdec,hlen⟩;simp only at hr;subst hr;refine A3 ?_;have hfin:(xs.size==ys.size)=decide (x=y):=by
   rw [<-hdec,<-hlen];cases hx' with
   |nil=>
    cases hy' with
    |nil=>simp
    |cons _ _=>simp
   |cons _ _=>
    cases hy' with
    |nil=>simp
    |cons _ _=>simp at hz
  show P (.done (.ret (.bool (xs.size==ys.size)))) s';rw [hfin];exact h
theorem iY_ {x y:List (List K)}{a b:Addr}{Q:Bool->Shared->Prop} (hu:A.units+1<cLine) (hx:b5_ knd s.heap x a) (hy:b5_ knd s.heap y b) (h:Q (decide (x=y)) s):
  wpAny (model prog w) A (eqBool (.ref a) (.ref b)) Q E s:=by
 unfold eqBool;try with_reducible refine Aw ?_
 show wpAny _ _ (if(Value.ref a==Value.ref b)=true then _ else _) Q E s;by_cases hab:(Value.ref a==Value.ref b)=true
 .rw [A6 hab];have e:a=b:=by have:=eq_of_beq hab;injection this
  subst e;obtain rfl:=hx.inj hy;exact A0 (CM (A3 (by simpa using h)))
 .rw [A5 hab];exact A0 (wpAny_richCompare_same_room (op:= .Eq) hx.typeIs hy.typeIs F.slot_tuple_eq
   (Ar F.slot_tuple_eq hx.typeIs F.entry_tuple_eq (hu_ (by first|lia|(rw [aI_];lia)|(simp;lia)) hx hy ⟨_,rfl,(fun e=>nomatch e),Bj h⟩) (F.args_tuple_eq_2 _ _)) (by lia))
theorem iA_ {ks:List K}{a:Addr}{n:Nat}{Q:Bool->Shared->Prop} (hk:IsTupleKey knd s.heap ks a) (h:Q true s):wpAny (model prog w) A (eqIsQuiet (n+1) (.ref a)) Q E s:=by
 have hT:=hk.typeIs;obtain⟨o,items,n,ho,_,hd,hi⟩:=hk;unfold eqIsQuiet;refine A0 (C8 hT F.slot_tuple_eq.lookup ?_);show wpAny _ _ (isInstance (.ref a) (.type "tuple")>>=_) _ _ s;refine A0 (C2 hT isSubtype_tuple_tuple ?_);simp only [BG,AE,Ak];refine A0 (wpAny_seqItems ho hd ?_);refine A0 ?_;show wpAny _ _ (forIn items _ _) _ _ s;rw [<-CT];refine Br _ (fun cM_ r s'=>r.1=none/\s'=s/\∀v∈cM_,carriedByValue v=true) _ ?_ ?_ _ _ ⟨rfl,rfl,hi.byValue⟩
 .rintro v cM_ r s' ⟨hr,rfl,hall⟩;rw [eqIsQuiet_byValue _ (hall v AI)];refine A0 (A3 ?_);simp only [BG,AE,Ak];exact A3 ⟨rfl,rfl,fun u hu'=>hall u (AM _ hu')⟩
 .rintro⟨r1,r2⟩ s' ⟨hr,rfl,_⟩;simp only at hr;subst hr;exact A3 h
theorem kF_ {ks:List (List K)}{a:Addr}{Q:Bool->Shared->Prop} (hk:b5_ knd s.heap ks a) (h:Q true s):wpAny (model prog w) A (eqIsQuiet 8 (.ref a)) Q E s:=by
 have hT:=hk.typeIs;obtain⟨o,items,n,ho,_,hd,hi⟩:=hk;unfold eqIsQuiet;refine A0 (C8 hT F.slot_tuple_eq.lookup ?_);show wpAny _ _ (isInstance (.ref a) (.type "tuple")>>=_) _ _ s;refine A0 (C2 hT isSubtype_tuple_tuple ?_);simp only [BG,AE,Ak];refine A0 (wpAny_seqItems ho hd ?_);refine A0 ?_;show wpAny _ _ (forIn items _ _) _ _ s;rw [<-CT];refine Br _ (fun cM_ r s'=>r.1=none/\s'=s/\∃x,ItemsT knd s.heap x cM_) _ ?_ ?_ _ _ ⟨rfl,rfl,ks,hi⟩
 .rintro v cM_ r s' ⟨hr,rfl,x,hall⟩;cases hall with
  |cons h1 ht=>
   refine A0 (iA_ h1 ?_);simp only [BG,AE,Ak];exact A3 ⟨rfl,rfl,_,ht⟩
 .rintro⟨r1,r2⟩ s' ⟨hr,rfl,_⟩;simp only at hr;subst hr;exact A3 h
end
noncomputable def cJ_ {prog:Program}{w:World}{K:Type} [DecidableEq K] (knd:KeyKind prog w K):HeapKind prog w (List (List K)) where
 is:=b5_ knd
 hash:=gs_ knd
 draws:=eX_
 room:=fun A=>A.units+1<cLine
 inj:=fun hx hy=>hx.inj hy
 keeps:=fun x ho hd hs=>x.keeps ho hd hs
 pyHash:=fun hu hk h=>iB_ hu hk h
 eqBool:=fun hu hx hy h=>iY_ hu hx hy h
 quiet:=fun hk h=>kF_ hk h
end L2
namespace L2
open PySem PySem.Spec PyProof.Rows PySem.W
noncomputable def nK (ks:List (List Int)):D:= .t (ks.map tI)
theorem hO_ {A:Around}{k:Nat} (hr:Room k A):A.units+2<cLine:=by have:=hr.un;lia
section
variable {P:Program}{w:World}{H:Hp}{h:Heap}{a:Addr}
noncomputable def nE (P:Program) (w:World) (xs:List (List (List Int)×Addr×Value)) (a:Addr) (h:Heap):Prop:=
 ∃o es ep,h.get? a=some o/\o.ExactDict/\o.data= .dict es ep/\es.toList=xs.map (entryOfKey (cJ_ (intKind P w)))/\(xs.map (·.1)).Nodup
noncomputable abbrev NT (H:Hp):List (List (List Int)×V)->List (List (List Int)×Addr×Value)->Prop:=Paired fun p q=>p.1=q.1/\Is H (nK p.1) (.ref q.2.1)/\aV_ p.2 q.2.2
noncomputable def DN (P:Program) (w:World) (H:Hp) (a:Addr) (kvs:List (List (List Int)×V)):Prop:=kvs.length<=sizeLine/\(a==sysModules)=false/\∃xs,NT H kvs xs/\H a=some (.ext (nE P w xs a))
theorem ka_:∀{ks:List Int}{us:List Value},aR_ (ks.map V.int) us->ItemsAre (intKind P w) ks us
 |[],_,r=>by rw [Ct] at r;cases r;exact .nil
 |k::ks,_,r=>by
  rw [AJ] at r;cases r with
  |cons h t=>
   obtain⟨t',rfl⟩:=h;exact .cons (show Value.isInt k (.int k t')=true by simp [Value.isInt]) (ka_ t)
theorem sx_ {ks:List Int} (ok:HOk P w H h) (e:H a=some (.tup (ks.map V.int))):IsTupleKey (intKind P w) h ks a:=by
 obtain⟨_,its,r,o,h1,h2,n,h3⟩:=(show aH_ P w H h a (.tup (ks.map V.int)) from ok a _ e);exact⟨o,its.toArray,n,h1,h2,h3,by simpa using ka_ r⟩
theorem fC_ (ok:HOk P w H h):∀{ks:List (List Int)}{vs:List V}{us:List Value},Iss H (ks.map tI) vs->aR_ vs us->ItemsT (intKind P w) h ks us
 |[],_,_,i,r=>by rw [bf_ i] at r;cases r;exact .nil
 |k::ks,_,_,i,r=>by
  obtain⟨u,us,rfl,q,i2⟩:=az_ i;obtain⟨b,rfl,hb⟩:=eT_ q;cases r with
  |cons h t=>
   cases h;exact .cons (sx_ ok hb) (fC_ ok i2 t)
theorem eV_ {ks:List (List Int)} (ok:HOk P w H h) (e:Is H (nK ks) (.ref a)):(cJ_ (intKind P w)).is h ks a:=by
 obtain⟨b,vs,eb,hb,hi⟩:=gq_ e;cases eb;obtain⟨_,its,r,o,h1,h2,n,h3⟩:=(show aH_ P w H h a (.tup vs) from ok a _ hb);exact⟨o,its.toArray,n,h1,h2,h3,by simpa using fC_ ok hi r⟩
theorem mT_ {kvs:List (List (List Int)×V)} (ok:HOk P w H h) (e:DN P w H a kvs):kvs.length<=sizeLine/\(a==sysModules)=false/\∃xs,NT H kvs xs/\H a=some (.ext (nE P w xs a))/\h.DictOfH (cJ_ (intKind P w)) a xs:=by
 obtain⟨z,y,xs,r,e⟩:=e;obtain⟨⟨o,es,ep,h1,h2,h3,h4,h5⟩,_,_⟩:=(show aH_ P w H h a (.ext (nE P w xs a)) from ok a _ e);refine⟨z,y,xs,r,e,o,es,ep,h1,h2,h3,h4,fun x hx=> ?_,h5⟩;have all:∀{l:List (List (List Int)×V)}{m:List (List (List Int)×Addr×Value)},NT H l m->∀x∈m,(cJ_ (intKind P w)).is h x.1 x.2.1:=by
  intro l m q;induction q with
  |nil=>intro x hx;exact nomatch hx
  | @cons p q ps qs hq t ih=>
   intro x hx;rcases AK.mp hx with e|hx
   .subst e;exact eV_ ok (by rw [<-hq.1];exact hq.2.1)
   .exact ih x hx
 exact all r x hx
theorem q0_ {xs:List (List (List Int)×Addr×Value)}{H':Hp} (d:∃o es ep,h.get? a=some o/\o.ExactDict/\o.data= .dict es ep/\es.toList=xs.map (entryOfKey (cJ_ (intKind P w)))/\(xs.map (·.1)).Nodup):aH_ P w H' h a (.ext (nE P w xs a)):=by
 refine⟨d,let ⟨o,_,_,h1,_⟩:=d;⟨o,h1⟩,fun h1 h2 f k=> ?_⟩;obtain⟨o,es,ep,e1,r⟩:=f;exact⟨o,es,ep,k o e1,r⟩
theorem NT.val {kvs:List (List (List Int)×V)}{xs:List (List (List Int)×Addr×Value)} (r:NT H kvs xs) (k:List (List Int)):i9_ (c4_ kvs k) ((atKey xs k).map (·.2)):=by
 induction r with
 |nil=>exact True.intro
 | @cons p q ps qs h t ih=>
  obtain⟨h1,_,h2⟩:=h;by_cases e:p.1=k
  .have e':q.1=k:=h1.symm.trans e;have b:atKey (q::qs) k=some q.2:=by simp [atKey,BP,e']
   rw [a1_ e,b];exact h2
  .have e':¬q.1=k:=fun z=>e (h1.trans z);have b:atKey (q::qs) k=atKey qs k:=by simp [atKey,BP,e']
   rw [bb_ e,b];exact ih
theorem NT.repl {kvs:List (List (List Int)×V)}{xs:List (List (List Int)×Addr×Value)} (r:NT H kvs xs) (k:List (List Int)) {y:V}{u:Value} (ry:aV_ y u):
  NT H (kvs.map fun kv=>if kv.1=k then(kv.1,y) else kv) (xs.map (putAt k u)):=by
 induction r with
 |nil=>exact .nil
 | @cons p q ps qs h t ih=>
  rw [AJ,AJ];refine .cons ?_ ih;obtain⟨h1,h2,h3⟩:=h;unfold putAt;by_cases e:p.1=k
  .rw [A6 e,A6 (h1.symm.trans e)];exact⟨h1,h2,ry⟩
  .rw [A5 e,A5 (fun z=>e (h1.trans z))];exact⟨h1,h2,h3⟩
theorem NT.put {kvs:List (List (List Int)×V)}{xs:List (List (List Int)×Addr×Value)} (r:NT H kvs xs) (k:List (List Int)) {b:Addr}{y:V}{u:Value} (hb:Is H (nK k) (.ref b)) (ry:aV_ y u):
  NT H (dh_ kvs k y) (storedH xs k b u):=by
 have e:(kvs.any fun kv=>decide (kv.1=k))=(atKey xs k).isSome:=by
  rw [b9_,(r.val k).isSome_eq,Option.isSome_map]
 unfold dh_ storedH;rw [e];by_cases q:(atKey xs k).isSome=true
 .rw [A6 q,A6 q];exact r.repl k ry
 .rw [A5 q,A5 q];exact Paired.snoc r ⟨rfl,hb,ry⟩
theorem og_ {H':Hp} (ht:∀b ys,H b=some (.tup ys)->H' b=some (.tup ys)) {ks:List (List Int)}{v:V} (h:Is H (nK ks) v):Is H' (nK ks) v:=by
 obtain⟨b,vs,rfl,hb,hi⟩:=gq_ h;have go:∀{xs:List (List Int)}{vs:List V},Iss H (xs.map tI) vs->Iss H' (xs.map tI) vs:=by
  intro xs;induction xs with
  |nil=>intro vs h;rw [bf_ h];exact an_
  |cons x xs ih=>
   intro vs h;obtain⟨u,us,rfl,q,r⟩:=az_ h;obtain⟨c,rfl,hc⟩:=eT_ q;exact ai_ (e2_ (ht _ _ hc)) (ih r)
 exact g1_ (ht _ _ hb) (go hi)
theorem NT.keeps {H':Hp}{kvs:List (List (List Int)×V)}{xs:List (List (List Int)×Addr×Value)} (r:NT H kvs xs) (ht:∀b ys,H b=some (.tup ys)->H' b=some (.tup ys)):NT H' kvs xs:=
 Paired.mapP r fun _ _ z=>⟨z.1,og_ ht z.2.1,z.2.2⟩
theorem DN.keeps {H':Hp}{kvs:List (List (List Int)×V)} (d:DN P w H a kvs) (ha:H' a=H a) (ht:∀b ys,H b=some (.tup ys)->H' b=some (.tup ys)):DN P w H' a kvs:=by
 obtain⟨z,y,xs,r,e⟩:=d;exact⟨z,y,xs,r.keeps ht,ha.trans e⟩
theorem DN.mono {H':Hp}{kvs:List (List (List Int)×V)} (s:ak_ H H') (d:DN P w H a kvs):DN P w H' a kvs:=by
 obtain⟨z,y,xs,r,e⟩:=d;exact⟨z,y,xs,r.keeps fun b ys=>s b _,s _ _ e⟩
theorem DN.mut {kvs:List (List (List Int)×V)} (d:DN P w H a kvs):Mut (H a):=by
 obtain⟨_,_,xs,_,e⟩:=d;rw [e];exact True.intro
theorem DN.ntup {kvs:List (List (List Int)×V)} (d:DN P w H a kvs) {b:Addr}{ys:List V} (e:H b=some (.tup ys)):b≠a:=by
 obtain⟨_,_,xs,_,e2⟩:=d;rintro rfl;rw [e2] at e;cases e
end
section
variable {X:Cx}{pins:List (Addr×Obj)}{σ:St}{H:Hp}{s:Shared}{a b:Addr}{v:V}{r:Value}{A:Around}{E:Value->Shared->Prop}{kvs:List (List (List Int)×V)}{ks:List (List Int)}
theorem eM_ {prog:Program}{w:World}{A:Around} (hu:A.units+2<cLine):(cJ_ (intKind prog w)).room A.in1:=by
 show A.in1.units+1<cLine;rw [aI_];lia
theorem mc_ {Q:Value->Shared->Prop} (hu:A.units+2<cLine) (I:Inv X pins σ H s) (d:DN X.prog X.w H a kvs) (k:Is H (nK ks) (.ref b)) (l:c4_ kvs ks=some v) (h:∀w' s',Inv X pins σ H s'->aV_ v w'->Q w' s'):
  wpAny (model X.prog X.w) A (getItem (.ref a) (.ref b)) Q E s:=by
 obtain⟨z,hd,xs,rel,_,dd⟩:=mT_ I.hok d;obtain⟨w',hw,rw'⟩:=i9_.some_of (v:=v) (o:=(atKey xs ks).map (·.2)) (by rw [<-l];exact rel.val ks);obtain⟨p,hp,hp2⟩:=A4.mp hw;refine wpAny_getItem_heap (eM_ hu) (eV_ I.hok k) dd hp ?_;rw [hp2];exact h w' _ (I.tok _) rw'
theorem qB_ {Q:Value->Shared->Prop} (hu:A.units+2<cLine) (I:Inv X pins σ H s) (d:DN X.prog X.w H a kvs) (k:Is H (nK ks) (.ref b)) (h:∀s',Inv X pins σ H s'->Q (.bool (!(c4_ kvs ks).isSome)) s'):
  wpAny (model X.prog X.w) A (compareOp .NotIn (.ref b) (.ref a)) Q E s:=by
 obtain⟨z,hd,xs,rel,_,dd⟩:=mT_ I.hok d;refine wpAny_notIn_heap (eM_ hu) (eV_ I.hok k) hd dd ?_;have q:=(rel.val ks).isSome_eq;rw [Option.isSome_map] at q;rw [<-q];exact h _ (I.tok _)
theorem mb_ {Q:Unit->Shared->Prop} (hu:A.units+2<cLine) (I:Inv X pins σ H s) (d:DN X.prog X.w H a kvs) (k:Is H (nK ks) (.ref b)) (hl:kvs.length<sizeLine) (rv:aV_ v r)
  (h:∀H' s',DN X.prog X.w H' a (dh_ kvs ks v)->(∀b,b≠a->H' b=H b)->Inv X pins σ H' s'->Q () s'):wpAny (model X.prog X.w) A (setItem (.ref a) (.ref b) r) Q E s:=by
 obtain⟨z,hd,xs,rel,e,dd⟩:=mT_ I.hok d;have hz:xs.length<=sizeLine:=by rw [<-Bq rel];exact z
 have hl':(dh_ kvs ks v).length<=sizeLine:=by have:=dC_ kvs ks v;lia
 refine wpAny_setItem_heap (hsz:=hz) (eM_ hu) (eV_ I.hok k) dd fun h' dd' hs=> ?_;obtain⟨q,es,ep,hq,h2,h3,h4,_,h5⟩:=dd';refine h (upd H a (.ext (nE X.prog X.w (storedH xs ks b r) a))) _ ⟨hl',hd,_,(rel.put ks k rv).keeps fun c ys ec=> ?_,ae_⟩ (fun c hc=>ao_ hc) (eg_ I d.mut hs ⟨q,hq⟩ (q0_ ⟨q,es,ep,hq,h2,h3,h4,h5⟩));rw [ao_ (d.ntup ec)];exact ec
theorem ue_ (I:Inv X pins σ H s) (d:DN X.prog X.w H a kvs):s.TypeIs (.ref a) "dict"/\(∀b,Value.ref a= .ref b->∃ob,s.heap.get? b=some ob/\ob.dict=none)/\(a==sysModules)=false:=by
 obtain⟨_,hd,xs,_,_,dd⟩:=mT_ I.hok d;refine⟨dd.typeIs,fun b q=> ?_,hd⟩;cases q;obtain⟨ob,_,_,h1,h2,_⟩:=dd;exact⟨ob,h1,h2.2.1⟩
end
noncomputable def tr_ (P:Program) (w:World) (td ty:TE):TE:=fun σ H Q=>td σ H fun x H1=>ty σ H1 fun y H2=>∃a kvs ks v,x= .ref a/\DN P w H2 a kvs/\Is H2 (nK ks) y/\c4_ kvs ks=some v/\Q v H2
noncomputable def pP_ (P:Program) (w:World) (ty td:TE):TE:=fun σ H Q=>ty σ H fun y H1=>td σ H1 fun x H2=>∃a kvs ks,x= .ref a/\DN P w H2 a kvs/\Is H2 (nK ks) y/\Q (.bl (!(c4_ kvs ks).isSome)) H2
noncomputable def tQ_ (P:Program) (w:World) (td ty tv:TE):TS:=fun D σ H=>tv σ H fun v H1=>td σ H1 fun x H2=>ty σ H2 fun y H3=>∃a kvs ks,x= .ref a/\DN P w H3 a kvs/\Is H3 (nK ks) y/\kvs.length<sizeLine/\∀H4,DN P w H4 a (dh_ kvs ks v)->(∀b,b≠a->H4 b=H3 b)->D.nx σ H4
noncomputable def pQ_ (P:Program) (w:World) (tk tv:TE):TE:=fun σ H Q=>∀p H0,H p=none->DN P w H0 p []->(∀b,b≠p->H0 b=H b)->tk σ H0 fun x H1=>tv σ H1 fun y H2=>DN P w H2 p []/\∃ks,Is H2 (nK ks) x/\∀H3,DN P w H3 p [(ks,y)]->(∀b,b≠p->H3 b=H2 b)->Q (.ref p) H3
section
variable {X:Cx}{o i e f value ek ev:Expr}{pos pos' apos cpos:Pos}{td ty tv tx tk:TE}
theorem tb_ {H:Hp}{ks:List (List Int)}{y:V}{u:Value} (h:Is H (nK ks) y) (r:aV_ y u):∃b,y= .ref b/\u= .ref b:=by
 obtain⟨b,_,rfl,_⟩:=gq_ h;exact⟨b,rfl,r⟩
theorem qj_ (hu:X.A.units+2<cLine) (ho:PE X o td) (hi:PE X i ty) (hs:tg_ i):PE X (.Subscript o i pos) (tr_ X.prog X.w td ty):=by
 intro pins s σ H Q I h;refine in_ PySem.F.slot_dict_getitem.lookup hs (thn (ho pins s σ H _ I h) fun u s1 ⟨x,H1,I1,rx,q1⟩=>thn (hi pins s1 σ H1 _ I1 q1) fun iv s2 ⟨y,H2,I2,ry,a,kvs,ks,v,ex,d,k,l,q2⟩=> ?_);subst ex;obtain rfl:u=Value.ref a:=rx;obtain⟨b,rfl,rfl⟩:=tb_ k ry;exact⟨(ue_ I2 d).1,mc_ hu I2 d k l fun w' s3 I3 rw'=>⟨v,H2,I3,rw',q2⟩⟩
theorem lS_ (hu:X.A.units+2<cLine) (hi:PE X i ty) (ho:PE X o td):PC X .NotIn i o (pP_ X.prog X.w ty td):=by
 intro pins s σ H Q I h;refine thn (hi pins s σ H _ I h) fun iv s1 ⟨y,H1,I1,ry,q1⟩=>thn (ho pins s1 σ H1 _ I1 q1) fun u s2 ⟨x,H2,I2,rx,a,kvs,ks,ex,d,k,q2⟩=> ?_;subst ex;obtain rfl:u=Value.ref a:=rx;obtain⟨b,rfl,rfl⟩:=tb_ k ry;exact qB_ hu I2 d k fun s3 I3=>⟨.bl _,H2,I3,rfl,q2⟩
theorem qc_ (hu:X.A.units+2<cLine) (ho:PE X o td) (hi:PE X i ty) (hv:PE X value tv) (hs:swapsWith value (some (.Subscript o i pos')) pos.line X.env=pure false):
  PS X (.Assign [.Subscript o i pos'] value pos) (tQ_ X.prog X.w td ty tv):=by
 intro pins s σ H D I h;refine wpAny_Assign_Subscript (thn (hv pins s σ H _ I h) fun r s1 ⟨v,H1,I1,rv,q1⟩=>thn (ho pins s1 σ H1 _ I1 q1) fun u s2 ⟨x,H2,I2,rx,q2⟩=>thn (hi pins s2 σ H2 _ I2 q2) fun iv s3 ⟨y,H3,I3,ry,a,kvs,ks,ex,d,k,hl,q3⟩=> ?_) hs;subst ex;obtain rfl:u=Value.ref a:=rx;obtain⟨b,rfl,rfl⟩:=tb_ k ry;exact mb_ hu I3 d k hl rv fun H4 s4 d4 k4 I4=>⟨σ,H4,I4,q3 H4 d4 k4⟩
theorem oE_ {P:Program}{w:World}{H:Hp}{h:Heap}{p:Addr} (hp:p=h.objs.size) (hb:sysModules<h.objs.size):DN P w (upd H p (.ext (nE P w [] p))) p []:=by
 subst hp;exact⟨AS _,Cp.mpr (Cs (AO hb)),[], .nil,ae_⟩
theorem i1_ {P:Program}{w:World}{H:Hp} (h:Heap):aH_ P w H (h.push {cls:= .type "dict",data:= .dict #[]}) h.objs.size (.ext (nE P w [] h.objs.size)):=
 q0_ ⟨_, #[],0,AL _ rfl,⟨rfl,rfl,rfl⟩,rfl,rfl,List.nodup_nil⟩
theorem hl_ (hu:X.A.units+2<cLine) (hk:PE X ek tk) (hv:PE X ev tv):PE X (.Dict [some ek] [ev] pos) (pQ_ X.prog X.w tk tv):=by
 intro pins s σ H Q I q;have hn:=I.hok.fresh (A8 s.heap.objs.size);have I1:=I.laid (a:=s.heap.objs.size) (o:= .ext (nE X.prog X.w [] s.heap.objs.size)) (h':=s.heap.push {cls:= .type "dict",data:= .dict #[]}) (t':=s.toks) (fun _ _ q=>A9 _ q) (A8 _) (i1_ s.heap);rw [arm_eval_Dict,zip_pairTrees [some ek] [ev] X.env pos rfl rfl,dictDisplay_pairs (pairTrees [some ek] [ev] X.env pos) (by intro z;cases z) (show 1<17 by decide)];refine A0 (wpAny_standAt (A0 ?_));unfold subDict;refine A0 (wpAny_alloc ?_);refine A0 (Aw ?_);rw [A6 (show(pairTrees [some ek] [ev] X.env pos).length<=15 from(by decide:1<=15))];refine A0 (pairTrees_cons_walk (thn (hk pins _ σ _ _ I1 (q _ _ hn (oE_ rfl I.big) (fun b hb=>ao_ hb))) fun u s1 ⟨x,H1,I2,rx,q1⟩=>thn (hv pins s1 σ H1 _ I2 q1) fun w2 s2 ⟨y,H2,I3,ry,d,ks,k,q2⟩=>pairTrees_nil_walk ?_));obtain⟨b,rfl,rfl⟩:=tb_ k rx;obtain⟨z,hd,xs,rel,e,dd⟩:=mT_ I3.hok d;cases rel;refine wpAny_holding (wpAny_bind ?_);rw [List.forIn_cons];dsimp only;refine A0 (A0 (wpAny_dictSet_heap (knd:=cJ_ (intKind X.prog X.w)) (show X.A.units+1<cLine by lia) (eV_ I3.hok k) dd (fun h' dd' hs=>A3 ?_) (AS _)));dsimp only;rw [List.forIn_nil];refine wpAny_pure (wpAny_pure (wpAny_pure (wpAny_pure ?_)));obtain⟨o,es,ep,hq,h2,h3,h4,_,h5⟩:=dd';refine⟨.ref s.heap.objs.size,upd H2 s.heap.objs.size (.ext (nE X.prog X.w (storedH [] ks b w2) s.heap.objs.size)),eg_ I3 d.mut hs ⟨o,hq⟩ (q0_ ⟨o,es,ep,hq,h2,h3,h4,h5⟩),rfl,q2 _ ⟨(by show 1<=sizeLine;decide),hd,_,(NT.put .nil ks k ry).keeps fun c ys ec=> ?_,ae_⟩ (fun c hc=>ao_ hc)⟩;rw [ao_ (d.ntup ec)];exact ec
end
end L2
namespace L2
open PySem PySem.Spec PyProof.Rows PySem.W
section
variable {prog:Program}{w:World}{A:Around}{E:Value->Shared->Prop}{s:Shared}
end
section
variable {X:Cx}
end
end L2
namespace L2
open PySem PySem.Spec PyProof.Rows
section
variable {prog:Program}{w:World}{A:Around}{E:Value->Shared->Prop}{s:Shared}
end
section
variable {X:Cx}{elts:List Expr}{k:Nat}{tpos p pos:Pos}{e:Expr}{te:TE}
end
section
variable {prog:Program}{w:World}{A:Around}{E:Value->Shared->Prop}{s:Shared}
end
section
variable {prog:Program}{w:World}{A:Around}{E:Value->Shared->Prop}{s:Shared}
end
section
variable {X:Cx}{elts:List Expr}{k:Nat}{tpos p pos:Pos}{e f:Expr}{te tf:TE}
end
end L2
namespace Mine
open PySem L2 PyProof.Rows
noncomputable def top (i:Nat):Stmt:=PySem.Challenge.pw_floorcurves_k71_ways_and_floors_shaded.main.body.getD i (.Pass ⟨0,0,0,0⟩)
noncomputable abbrev d4_:Stmt:=top 7
theorem ir_:FnScope ["thing"] ["thing"] (ag_ d4_):=⟨rfl,rfl,rfl,by ac_nf,rfl,by ac_nf,by ac_nf⟩
noncomputable abbrev ch_:Stmt:=top 8
theorem eH_:FnScope ["thing","least","greatest"] ["thing","least","greatest"] (ag_ ch_):=⟨rfl,rfl,rfl,by ac_nf,rfl,by ac_nf,by ac_nf⟩
noncomputable abbrev cC_:Stmt:=top 9
theorem fg_:FnScope ["d","k"] ["d","k"] (ag_ cC_):=⟨rfl,rfl,rfl,by ac_nf,rfl,by ac_nf,by ac_nf⟩
noncomputable abbrev dw_:Stmt:=top 10
theorem hd_:FnScope ["d","k"] ["d","k"] (ag_ dw_):=⟨rfl,rfl,rfl,by ac_nf,rfl,by ac_nf,by ac_nf⟩
noncomputable abbrev cD_:Stmt:=top 11
theorem fh_:FnScope ["d"] ["d"] (ag_ cD_):=⟨rfl,rfl,rfl,by ac_nf,rfl,by ac_nf,by ac_nf⟩
noncomputable abbrev f5_:Stmt:=top 13
theorem dO_:FnScope ["number","chosen","found","place"] ["number","chosen"] (ag_ f5_):=⟨rfl,rfl,rfl,by ac_nf,rfl,by ac_nf,by ac_nf⟩
noncomputable abbrev aY_:Stmt:=top 15
theorem bp_:FnScope ["numbers","kept"] ["numbers"] (ag_ aY_):=⟨rfl,rfl,rfl,by ac_nf,rfl,by ac_nf,by ac_nf⟩
noncomputable abbrev cg_:Stmt:=top 16
theorem a3_:FnScope ["one","other","total","numbers","place","number"] ["one","other"] (ag_ cg_):=⟨rfl,rfl,rfl,by ac_nf,rfl,by ac_nf,by ac_nf⟩
noncomputable abbrev bq_:Stmt:=top 17
theorem aB_:FnScope ["one","other","total","place","number","further","factor"] ["one","other"] (ag_ bq_):=⟨rfl,rfl,rfl,by ac_nf,rfl,by ac_nf,by ac_nf⟩
noncomputable abbrev ds_:Stmt:=top 18
theorem hb_:FnScope ["numbers","place","more"] ["numbers","place","more"] (ag_ ds_):=⟨rfl,rfl,rfl,by ac_nf,rfl,by ac_nf,by ac_nf⟩
noncomputable abbrev eK_:Stmt:=top 20
theorem cp_:FnScope ["d","drawing","ends","i","j","w"] ["d","drawing"] (ag_ eK_):=⟨rfl,rfl,rfl,by ac_nf,rfl,by ac_nf,by ac_nf⟩
noncomputable abbrev iv_:Stmt:=top 21
theorem nJ_:FnScope ["d","drawing"] ["d","drawing"] (ag_ iv_):=⟨rfl,rfl,rfl,by ac_nf,rfl,by ac_nf,by ac_nf⟩
noncomputable abbrev lu_:Stmt:=top 22
theorem p4_:FnScope ["lift"] ["lift"] (ag_ lu_):=⟨rfl,rfl,rfl,by ac_nf,rfl,by ac_nf,by ac_nf⟩
noncomputable abbrev cT_:Stmt:=top 23
theorem bU_:FnScope ["d","floor","weight","spare","found","j","w"] ["d","floor","weight","spare"] (ag_ cT_):=⟨rfl,rfl,rfl,by ac_nf,rfl,by ac_nf,by ac_nf⟩
noncomputable abbrev eJ_:Stmt:=top 24
theorem co_:FnScope ["lifts","weight","spare","found","place","lift","rest"] ["lifts","weight","spare"] (ag_ eJ_):=⟨rfl,rfl,rfl,by ac_nf,rfl,by ac_nf,by ac_nf⟩
noncomputable abbrev bL_:Stmt:=top 25
theorem bc_:FnScope ["d","floor","drawing","spare","there","found","lifts","ends","left"] ["d","floor","drawing","spare"] (ag_ bL_):=⟨rfl,rfl,rfl,by ac_nf,rfl,by ac_nf,by ac_nf⟩
noncomputable abbrev c5_:Stmt:=top 26
theorem bj_:FnScope ["d","k","begun","floor","longer","drawing","spare"] ["d","k"] (ag_ c5_):=⟨rfl,rfl,rfl,by ac_nf,rfl,by ac_nf,by ac_nf⟩
noncomputable abbrev cS_:Stmt:=top 28
theorem f2_:FnScope ["d","drawing"] ["d","drawing"] (ag_ cS_):=⟨rfl,rfl,rfl,by ac_nf,rfl,by ac_nf,by ac_nf⟩
noncomputable abbrev dx_:Stmt:=top 29
theorem cb_:FnScope ["d","drawing","found","place","number"] ["d","drawing"] (ag_ dx_):=⟨rfl,rfl,rfl,by ac_nf,rfl,by ac_nf,by ac_nf⟩
noncomputable abbrev cA_:Stmt:=top 30
theorem aX_:FnScope ["numbers","first","last","alike","found","here","choices","fuller","others"] ["numbers","first","last","alike"] (ag_ cA_):=⟨rfl,rfl,rfl,by ac_nf,rfl,by ac_nf,by ac_nf⟩
noncomputable abbrev bD_:Stmt:=top 31
theorem ax_:FnScope ["d","marks","known","mark","fuller","numbers","further","choices"] ["d","marks"] (ag_ bD_):=⟨rfl,rfl,rfl,by ac_nf,rfl,by ac_nf,by ac_nf⟩
noncomputable abbrev d6_:Stmt:=top 32
theorem it_:FnScope ["d","drawing"] ["d","drawing"] (ag_ d6_):=⟨rfl,rfl,rfl,by ac_nf,rfl,by ac_nf,by ac_nf⟩
noncomputable abbrev iw_:Stmt:=top 34
theorem er_:FnScope ["low","numbers","kept","first"] ["low","numbers"] (ag_ iw_):=⟨rfl,rfl,rfl,by ac_nf,rfl,by ac_nf,by ac_nf⟩
noncomputable abbrev iy_:Stmt:=top 35
theorem jv_:FnScope ["one","other","low"] ["one","other"] (ag_ iy_):=⟨rfl,rfl,rfl,by ac_nf,rfl,by ac_nf,by ac_nf⟩
noncomputable abbrev ix_:Stmt:=top 36
theorem nK_:FnScope ["one","other"] ["one","other"] (ag_ ix_):=⟨rfl,rfl,rfl,by ac_nf,rfl,by ac_nf,by ac_nf⟩
noncomputable abbrev dP_:Stmt:=top 37
theorem kD_:FnScope ["w"] ["w"] (ag_ dP_):=⟨rfl,rfl,rfl,by ac_nf,rfl,by ac_nf,by ac_nf⟩
noncomputable abbrev f3_:Stmt:=top 39
theorem dK_:FnScope ["d","found","x","y"] ["d"] (ag_ f3_):=⟨rfl,rfl,rfl,by ac_nf,rfl,by ac_nf,by ac_nf⟩
noncomputable abbrev d5_:Stmt:=top 40
theorem is_:FnScope ["d","point"] ["d","point"] (ag_ d5_):=⟨rfl,rfl,rfl,by ac_nf,rfl,by ac_nf,by ac_nf⟩
noncomputable abbrev f4_:Stmt:=top 41
theorem lt_:FnScope ["a","b","c"] ["a","b","c"] (ag_ f4_):=⟨rfl,rfl,rfl,by ac_nf,rfl,by ac_nf,by ac_nf⟩
noncomputable abbrev cc_:Stmt:=top 42
theorem f1_:FnScope ["d"] ["d"] (ag_ cc_):=⟨rfl,rfl,rfl,by ac_nf,rfl,by ac_nf,by ac_nf⟩
noncomputable abbrev bM_:Stmt:=top 43
theorem dL_:FnScope ["d","down"] ["d"] (ag_ bM_):=⟨rfl,rfl,rfl,by ac_nf,rfl,by ac_nf,by ac_nf⟩
noncomputable abbrev cU_:Stmt:=top 47
theorem dN_:FnScope ["way","side","place"] ["way","side"] (ag_ cU_):=⟨rfl,rfl,rfl,by ac_nf,rfl,by ac_nf,by ac_nf⟩
noncomputable abbrev iu_:Stmt:=top 48
theorem cz_:FnScope ["d","way","side","place","a","b","c","found","facing"] ["d","way","side"] (ag_ iu_):=⟨rfl,rfl,rfl,by ac_nf,rfl,by ac_nf,by ac_nf⟩
noncomputable abbrev cB_:Stmt:=top 49
theorem ff_:FnScope ["piece"] ["piece"] (ag_ cB_):=⟨rfl,rfl,rfl,by ac_nf,rfl,by ac_nf,by ac_nf⟩
noncomputable abbrev bW_:Stmt:=top 51
theorem de_:FnScope ["row","k","with_first"] ["row","k"] (ag_ bW_):=⟨rfl,rfl,rfl,by ac_nf,rfl,by ac_nf,by ac_nf⟩
noncomputable abbrev jw_:Stmt:=top 52
theorem ls_:FnScope ["d","k","row"] ["d","k"] (ag_ jw_):=⟨rfl,rfl,rfl,by ac_nf,rfl,by ac_nf,by ac_nf⟩
noncomputable abbrev dv_:Stmt:=top 54
theorem hc_:FnScope ["number"] ["number"] (ag_ dv_):=⟨rfl,rfl,rfl,by ac_nf,rfl,by ac_nf,by ac_nf⟩
noncomputable abbrev du_:Stmt:=top 55
theorem ca_:FnScope ["weights","product","weight"] ["weights"] (ag_ du_):=⟨rfl,rfl,rfl,by ac_nf,rfl,by ac_nf,by ac_nf⟩
noncomputable abbrev dt_:Stmt:=top 56
theorem bm_:FnScope ["d","way","side","known","key","total","piece","further"] ["d","way","side","known"] (ag_ dt_):=⟨rfl,rfl,rfl,by ac_nf,rfl,by ac_nf,by ac_nf⟩
noncomputable abbrev b1_:Stmt:=top 57
theorem aM_:FnScope ["d","k","over","under","total","way"] ["d","k"] (ag_ b1_):=⟨rfl,rfl,rfl,by ac_nf,rfl,by ac_nf,by ac_nf⟩
noncomputable abbrev bd_:Stmt:=top 58
theorem aO_:FnScope ["d","k","total","drawing","weights"] ["d","k"] (ag_ bd_):=⟨rfl,rfl,rfl,by ac_nf,rfl,by ac_nf,by ac_nf⟩
noncomputable abbrev cj_:Stmt:=top 60
theorem eI_:FnScope ["_law_script","_law_k"] ["_law_script","_law_k"] (ag_ cj_):=⟨rfl,rfl,rfl,by ac_nf,rfl,by ac_nf,by ac_nf⟩
noncomputable abbrev cE_:Stmt:=top 61
theorem bg_:FnScope ["_law_script","_law_k","_law_cell","_law_one","_law_other"] ["_law_script","_law_k"] (ag_ cE_):=⟨rfl,rfl,rfl,by ac_nf,rfl,by ac_nf,by ac_nf⟩
noncomputable abbrev cV_:Stmt:=top 62
theorem bV_:FnScope ["_law_found","_law_k","_law_d"] [] (ag_ cV_):=⟨rfl,rfl,rfl,by ac_nf,rfl,by ac_nf,by ac_nf⟩
noncomputable abbrev ci_:Stmt:=top 63
theorem cR_:FnScope ["_law_which","_law_d","_law_k","e"] ["_law_which","_law_d","_law_k"] (ag_ ci_):=⟨rfl,rfl,rfl,by ac_nf,rfl,by ac_nf,by ac_nf⟩
noncomputable abbrev he_:Stmt:=top 64
theorem dM_:FnScope ["_law_script","_law_d","_law_k","_law_found","_law_x","_law_both","_law_one","_law_other","_law_ways_alone"] ["_law_script"] (ag_ he_):=⟨rfl,rfl,rfl,by ac_nf,rfl,by ac_nf,by ac_nf⟩
set_option genInjectivity false
set_option genSizeOfSpec false
structure Fb (K:W.Frag) (mg:Str->Option Value) (n:Str) (st:Stmt) (ps:List Str) (f:Addr) (d:FuncData):Prop where
 F:Fun K n n st f d
 B:ic_ K d ps []
 m:mg n=some (.ref f)
structure Fns (K:W.Frag) (mg:Str->Option Value) where
 f0:Addr
 d0:FuncData
 f1:Addr
 d1:FuncData
 f2:Addr
 d2:FuncData
 f3:Addr
 d3:FuncData
 f4:Addr
 d4:FuncData
 f5:Addr
 d5:FuncData
 f6:Addr
 d6:FuncData
 f7:Addr
 d7:FuncData
 f8:Addr
 d8:FuncData
 f9:Addr
 d9:FuncData
 f10:Addr
 d10:FuncData
 f11:Addr
 d11:FuncData
 f12:Addr
 d12:FuncData
 f13:Addr
 d13:FuncData
 f14:Addr
 d14:FuncData
 f15:Addr
 d15:FuncData
 f16:Addr
 d16:FuncData
 f17:Addr
 d17:FuncData
 f18:Addr
 d18:FuncData
 f19:Addr
 d19:FuncData
 f20:Addr
 d20:FuncData
 f21:Addr
 d21:FuncData
 f22:Addr
 d22:FuncData
 f23:Addr
 d23:FuncData
 f24:Addr
 d24:FuncData
 f25:Addr
 d25:FuncData
 f26:Addr
 d26:FuncData
 f27:Addr
 d27:FuncData
 f28:Addr
 d28:FuncData
 f29:Addr
 d29:FuncData
 f30:Addr
 d30:FuncData
 f31:Addr
 d31:FuncData
 f32:Addr
 d32:FuncData
 f33:Addr
 d33:FuncData
 f34:Addr
 d34:FuncData
 f35:Addr
 d35:FuncData
 f36:Addr
 d36:FuncData
 f37:Addr
 d37:FuncData
 f38:Addr
 d38:FuncData
 f39:Addr
 d39:FuncData
 f40:Addr
 d40:FuncData
 f41:Addr
 d41:FuncData
 f42:Addr
 d42:FuncData
 f43:Addr
 d43:FuncData
 f44:Addr
 d44:FuncData
 f45:Addr
 d45:FuncData
 X0:Fb K mg "is_whole" d4_ ["thing"] f0 d0
 X1:Fb K mg "need_between" ch_ ["thing","least","greatest"] f1 d1
 X2:Fb K mg "need_narrow" cC_ ["d","k"] f2 d2
 X3:Fb K mg "need_wide" dw_ ["d","k"] f3 d3
 X4:Fb K mg "need_degree" cD_ ["d"] f4 d4
 X5:Fb K mg "choose" f5_ ["number","chosen"] f5 d5
 X6:Fb K mg "without_last_noughts" aY_ ["numbers"] f6 d6
 X7:Fb K mg "sum_by_place" cg_ ["one","other"] f7 d7
 X8:Fb K mg "product_by_place" bq_ ["one","other"] f8 d8
 X9:Fb K mg "with_more" ds_ ["numbers","place","more"] f9 d9
 X10:Fb K mg "ends_at" eK_ ["d","drawing"] f10 d10
 X11:Fb K mg "sound" iv_ ["d","drawing"] f11 d11
 X12:Fb K mg "lost" lu_ ["lift"] f12 d12
 X13:Fb K mg "lifts_from" cT_ ["d","floor","weight","spare"] f13 d13
 X14:Fb K mg "leaving" eJ_ ["lifts","weight","spare"] f14 d14
 X15:Fb K mg "with_floor" bL_ ["d","floor","drawing","spare"] f15 d15
 X16:Fb K mg "drawings" c5_ ["d","k"] f16 d16
 X17:Fb K mg "need_sound" cS_ ["d","drawing"] f17 d17
 X18:Fb K mg "end_marks" dx_ ["d","drawing"] f18 d18
 X19:Fb K mg "put_between" cA_ ["numbers","first","last","alike"] f19 d19
 X20:Fb K mg "how_many_orders" bD_ ["d","marks"] f20 d20
 X21:Fb K mg "how_many" d6_ ["d","drawing"] f21 d21
 X22:Fb K mg "shade" iw_ ["low","numbers"] f22 d22
 X23:Fb K mg "added" iy_ ["one","other"] f23 d23
 X24:Fb K mg "mixed" ix_ ["one","other"] f24 d24
 X25:Fb K mg "stretch" dP_ ["w"] f25 d25
 X26:Fb K mg "points" f3_ ["d"] f26 d26
 X27:Fb K mg "is_point" d5_ ["d","point"] f27 d27
 X28:Fb K mg "corner" f4_ ["a","b","c"] f28 d28
 X29:Fb K mg "upper_edge" cc_ ["d"] f29 d29
 X30:Fb K mg "lower_edge" bM_ ["d"] f30 d30
 X31:Fb K mg "first_turn" cU_ ["way","side"] f31 d31
 X32:Fb K mg "steps" iu_ ["d","way","side"] f32 d32
 X33:Fb K mg "piece_worth" cB_ ["piece"] f33 d33
 X34:Fb K mg "leaving_out" bW_ ["row","k"] f34 d34
 X35:Fb K mg "ways" jw_ ["d","k"] f35 d35
 X36:Fb K mg "of_number" dv_ ["number"] f36 d36
 X37:Fb K mg "stretched" du_ ["weights"] f37 d37
 X38:Fb K mg "way_shade" dt_ ["d","way","side","known"] f38 d38
 X39:Fb K mg "shade_by_ways" b1_ ["d","k"] f39 d39
 X40:Fb K mg "shade_by_floors" bd_ ["d","k"] f40 d40
 X41:Fb K mg "_law_cell_at" cj_ ["_law_script","_law_k"] f41 d41
 X42:Fb K mg "_law_number" cE_ ["_law_script","_law_k"] f42 d42
 X43:Fb K mg "_law_pairs" cV_ [] f43 d43
 X44:Fb K mg "_law_refused" ci_ ["_law_which","_law_d","_law_k"] f44 d44
 X45:Fb K mg "law" he_ ["_law_script"] f45 d45
 n_isinstance:mg "isinstance"=none
 n_int:mg "int"=none
 n_bool:mg "bool"=none
 n_range:mg "range"=none
 n_list:mg "list"=none
 n_max:mg "max"=none
 n_enumerate:mg "enumerate"=none
 n_len:mg "len"=none
 n_min:mg "min"=none
 n_sum:mg "sum"=none
 n_sorted:mg "sorted"=none
 n_tuple:mg "tuple"=none
 n_set:mg "set"=none
 n_abs:mg "abs"=none
 n_ValueError:mg "ValueError"=none
 k_LEFT:Tok
 m_LEFT:mg "LEFT"=some (.int (1) k_LEFT)
 k_RIGHT:Tok
 m_RIGHT:mg "RIGHT"=some (.int (-1) k_RIGHT)
 a_NARROW:Addr
 m_NARROW:mg "NARROW"=some (.ref a_NARROW)
 D_NARROW:fO_ K a_NARROW [(1,6),(2,6),(3,6),(4,2)]=true
 a_WIDE:Addr
 m_WIDE:mg "WIDE"=some (.ref a_WIDE)
 D_WIDE:fO_ K a_WIDE [(1,6),(2,6),(3,6),(4,6),(5,3)]=true
 c_NoBound:Addr
 m_NoBound:mg "NoBound"=some (.ref c_NoBound)
 c_NoDrawing:Addr
 m_NoDrawing:mg "NoDrawing"=some (.ref c_NoDrawing)
 x_NoBound:W.excIn K c_NoBound bmV "ValueError.__new__"=true
 X_NoBound:XC K c_NoBound
 x_NoDrawing:W.excIn K c_NoDrawing bmV "ValueError.__new__"=true
 X_NoDrawing:XC K c_NoDrawing
 e_NoBound_NoBound:W.exmOne K (.ref c_NoBound) (.ref c_NoBound)=some true
 k_NoBound_ValueError:W.kitOne K (.ref c_NoBound) (.type "ValueError")=some true
 k_NoDrawing_ValueError:W.kitOne K (.ref c_NoDrawing) (.type "ValueError")=some true
noncomputable abbrev Lf:=Int×Int×Int
noncomputable def d9_ (e:List Int) (p:Lf):List Int:=(e.set (p.1-1).toNat (e.getD (p.1-1).toNat 0-p.2.2)).set (p.2.1-1).toNat ((e.set (p.1-1).toNat (e.getD (p.1-1).toNat 0-p.2.2)).getD (p.2.1-1).toNat 0+p.2.2)
noncomputable def bQ_ (n:Nat) (ps:List Lf):List Int:=ps.foldl d9_ (List.replicate n 1)
noncomputable def fn_ (ps:List Lf) (f:Int):Int:=((ps.filter fun p=>decide (p.2.1=f)).map (·.2.2)).sum
noncomputable def dl_ (ps:List Lf) (f:Int):Int:=((ps.filter fun p=>decide (p.1=f)).map (·.2.2)).sum
noncomputable def Okl (n:Nat) (p:Lf):Prop:=1<=p.1/\p.1<=n/\1<=p.2.1/\p.2.1<=n
theorem gM_ {l:List Int}{i j:Nat}{v:Int} (h:i<l.length):(l.set i v).getD j 0=if i=j then v else l.getD j 0:=by
 rw [List.getD,List.getElem?_set];by_cases e:i=j
 .subst e;rw [A6 rfl,A6 rfl,A6 h];rfl
 .rw [A5 e,A5 e];rfl
theorem mm_ {e:List Int}{p:Lf}:(d9_ e p).length=e.length:=by unfold d9_;rw [BZ,BZ]
theorem ol_ {n:Nat}{e:List Int}{p:Lf} (he:e.length=n) (hp:Okl n p) (i:Nat):(d9_ e p).getD i 0=e.getD i 0+(if p.2.1=1+(i:Int) then p.2.2 else 0)-(if p.1=1+(i:Int) then p.2.2 else 0):=by
 obtain⟨h1,h2,h3,h4⟩:=hp;unfold d9_;have a1:(p.1-1).toNat<e.length:=by lia
 rw [gM_ (by rw [BZ];lia),gM_ a1];by_cases c1:(p.2.1-1).toNat=i
 .have d1:p.2.1=1+(i:Int):=by lia
  rw [A6 c1,A6 d1,c1];by_cases c2:(p.1-1).toNat=i
  .have d2:p.1=1+(i:Int):=by lia
   rw [A6 c2,A6 d2,c2];lia
  .have d2:¬p.1=1+(i:Int):=by lia
   rw [A5 c2,A5 d2];lia
 .have d1:¬p.2.1=1+(i:Int):=by lia
  rw [A5 c1,A5 d1,gM_ a1];by_cases c2:(p.1-1).toNat=i
  .have d2:p.1=1+(i:Int):=by lia
   rw [A6 c2,A6 d2,c2];lia
  .have d2:¬p.1=1+(i:Int):=by lia
   rw [A5 c2,A5 d2];lia
theorem eh_ (p:Lf) (ps:List Lf) (f:Int):fn_ (p::ps) f=(if p.2.1=f then p.2.2 else 0)+fn_ ps f:=by
 unfold fn_;rw [List.filter_cons];by_cases h:p.2.1=f<;>simp [h]
theorem dD_ (p:Lf) (ps:List Lf) (f:Int):dl_ (p::ps) f=(if p.1=f then p.2.2 else 0)+dl_ ps f:=by
 unfold dl_;rw [List.filter_cons];by_cases h:p.1=f<;>simp [h]
theorem gO_ {n:Nat}:∀(ps:List Lf) (e:List Int),e.length=n->(∀p∈ps,Okl n p)->(ps.foldl d9_ e).length=n/\∀i:Nat,(ps.foldl d9_ e).getD i 0=e.getD i 0+fn_ ps (1+(i:Int))-dl_ ps (1+(i:Int))
 |[],e,he,_=>⟨he,fun i=>by simp [fn_,dl_]⟩
 |p::ps,e,he,h=>by
  rw [Bf];obtain⟨h1,h2⟩:=gO_ ps (d9_ e p) (by rw [mm_];exact he) fun q hq=>h q (by simp [hq]);refine⟨h1,fun i=> ?_⟩;rw [h2 i,ol_ he (h p (by simp)) i,eh_,dD_];lia
theorem ez_ (n:Nat) (ps:List Lf) (h:∀p∈ps,Okl n p):(bQ_ n ps).length=n:=(gO_ ps _ (by simp) h).1
noncomputable def back (xs:List Int):Lf:=(xs.getD 0 0,xs.getD 1 0,xs.getD 2 0)
noncomputable def g0_ (p:Lf):List Int:=[p.1,p.2.1,p.2.2]
theorem kq_ (p:Lf):back (g0_ p)=p:=rfl
theorem sX_ {ks:List Int}{i:Nat} (h:i<ks.length):atI (ks.map V.int) (i:Int)=some (.int (ks.getD i 0)):=fa_ (by rw [A7,A1 h];simp [List.getD,h])
theorem iU_ {ks:List Int}{i:Nat} (h:i<ks.length):(ks.map V.int)[i]? =some (.int (ks.getD i 0)):=by rw [A7,A1 h];simp [List.getD,h]
theorem map_set {l:List Int}{i:Nat}{v:Int}:(l.set i v).map V.int=(l.map V.int).set i (.int v):=by rw [List.map_set]
noncomputable def lf (p:Lf):D:=tI (g0_ p)
noncomputable def lfs (ps:List Lf):D:= .l (ps.map lf)
theorem ht_ {H:Hp}{p:Lf}{v:V} (h:Is H (lf p) v):∃a,v= .ref a/\H a=some (.tup [.int p.1, .int p.2.1, .int p.2.2]):=eT_ h
theorem mE_ {H:Hp}{p:Lf}{a:Addr} (h:H a=some (.tup [.int p.1, .int p.2.1, .int p.2.2])):Is H (lf p) (.ref a):=e2_ (xs:=g0_ p) h
theorem jS_ (ps:List Lf):lfs ps= .l ((ps.map g0_).map tI):=by unfold lfs;rw [BW];rfl
noncomputable def dq_ (H H':Hp):Prop:=∀a xs,H a=some (.tup xs)->H' a=some (.tup xs)
theorem dq_.of_same {H H':Hp} (s:ak_ H H'):dq_ H H':=fun a xs e=>s _ _ e
theorem dq_.trans {H H' H'':Hp} (s:dq_ H H') (t:dq_ H' H''):dq_ H H'':=fun a xs e=>t _ _ (s _ _ e)
theorem dq_.upd {H:Hp}{b:Addr}{zs ys:List V} (hb:H b=some (.lst zs)):dq_ H (L2.upd H b (.lst ys)):=fun a xs e=>by
 rw [ao_ (by rintro rfl;rw [hb] at e;cases e)];exact e
theorem j7_ {H H':Hp} (t:dq_ H H'):∀{ps:List Lf}{vs:List V},Iss H (ps.map lf) vs->Iss H' (ps.map lf) vs
 |[],_,h=>by rw [bf_ h];exact an_
 |p::ps,_,h=>by
  obtain⟨u,us,rfl,h1,h2⟩:=az_ h;obtain⟨a,rfl,ha⟩:=ht_ h1;exact ai_ (mE_ (t _ _ ha)) (j7_ t h2)
noncomputable def ew_ (p q:Lf):Bool:=if p.1=q.1 then(if p.2.1=q.2.1 then decide (p.2.2<q.2.2) else decide (p.2.1<q.2.1)) else decide (p.1<q.1)
noncomputable def iP_:List Lf->List Lf->Bool
 |_,[]=>false
 |[],_::_=>true
 |x::xs,y::ys=>if x=y then iP_ xs ys else ew_ x y
theorem pp_ {K:W.Frag}{H:Hp}{p q:Lf}{v w:V} (h:Is H (lf p) v) (k:Is H (lf q) w):EqR K H 1 v w (decide (p=q)):=by
 have e:=h.eqr (K:=K) (n:=1) (by simp [lf,tI,g0_,dep,i3_]) (by simp [lf,tI,g0_,Kin,if_]) k;have:eqD (lf p) (lf q)=decide (p=q):=by
  obtain⟨a,b,c⟩:=p;obtain⟨d,e,f⟩:=q;simp [lf,tI,g0_,eqD,kh_,Bool.and_assoc]
 rwa [this] at e
theorem sq_ {K:W.Frag}{H:Hp}{p q:Lf}{v w:V} (h:Is H (lf p) v) (k:Is H (lf q) w):LtR K H 1 v w (ew_ p q):=by
 obtain⟨a,rfl,ha⟩:=ht_ h;obtain⟨b,rfl,hb⟩:=ht_ k;have e:=LtR.tuples (K:=K) (H:=H) (d:=0) (a:=a) (b:=b) (fun j=>if j=0 then decide (p.1=q.1) else if j=1 then decide (p.2.1=q.2.1) else decide (p.2.2=q.2.2)) (fun j=>if j=0 then decide (p.1<q.1) else if j=1 then decide (p.2.1<q.2.1) else decide (p.2.2<q.2.2)) (SqT.of ha) (SqT.of hb) (fun j x y hx hy=> ?_) (fun j x y hx hy _=> ?_)
 .have e2:SeqAt.lex (fun j=>if j=0 then decide (p.1=q.1) else if j=1 then decide (p.2.1=q.2.1) else decide (p.2.2=q.2.2)) (fun j=>if j=0 then decide (p.1<q.1) else if j=1 then decide (p.2.1<q.2.1) else decide (p.2.2<q.2.2)) 3 3 3 0=ew_ p q:=by
   unfold ew_;by_cases e0:p.1=q.1
   .by_cases e1:p.2.1=q.2.1
    .by_cases e2:p.2.2=q.2.2
     .simp [SeqAt.lex,e0,e1,e2]
     .simp [SeqAt.lex,e0,e1,e2]
    .simp [SeqAt.lex,e0,e1]
   .simp [SeqAt.lex,e0]
  exact e2▸e
 .match j,hx,hy with
  |0,hx,hy=>cases hx;cases hy;exact EqR.int 0 _ _
  |1,hx,hy=>cases hx;cases hy;exact EqR.int 0 _ _
  |2,hx,hy=>cases hx;cases hy;exact EqR.int 0 _ _
  |j+3,hx,_=>simp at hx
 .match j,hx,hy with
  |0,hx,hy=>cases hx;cases hy;exact LtR.int 0 _ _
  |1,hx,hy=>cases hx;cases hy;exact LtR.int 0 _ _
  |2,hx,hy=>cases hx;cases hy;exact LtR.int 0 _ _
  |j+3,hx,_=>simp at hx
theorem ms_ (p q:List Lf):∀(k i:Nat),min p.length q.length-i=k->i<=min p.length q.length->SeqAt.lex (fun j=>decide (p.getD j (0,0,0)=q.getD j (0,0,0))) (fun j=>ew_ (p.getD j (0,0,0)) (q.getD j (0,0,0))) p.length q.length k i=iP_ (p.drop i) (q.drop i)
 |0,i,hk,hi=>by
  rw [SeqAt.lex];rcases(by lia:q.length=i\/(p.length=i/\i<q.length)) with e|⟨e,e2⟩
  .rw [C1 (l:=q) (by lia)];have:¬p.length<q.length:=by lia
   cases p.drop i<;>simp [iP_,this]
  .rw [C1 (l:=p) (by lia),Ai e2];have:p.length<q.length:=by lia
   simp [iP_,this]
 |k+1,i,hk,hi=>by
  have h1:i<p.length:=by lia
  have h2:i<q.length:=by lia
  have g1:p.getD i (0,0,0)=p[i]:=by simp [List.getD,h1]
  have g2:q.getD i (0,0,0)=q[i]:=by simp [List.getD,h2]
  rw [SeqAt.lex,Ai h1,Ai h2,iP_,g1,g2];by_cases e:p[i]=q[i]
  .rw [A6 (B5 e),A6 e];exact ms_ p q k (i+1) (by lia) (by lia)
  .rw [A5 (by simpa using e),A5 e]
theorem mq_ {K:W.Frag}{H:Hp}{p q:List Lf}{vs ws:List V} (h:Iss H (p.map lf) vs) (k:Iss H (q.map lf) ws):
  (∀(j:Nat) x y,vs[j]? =some x->ws[j]? =some y->EqR K H 1 x y (decide (p.getD j (0,0,0)=q.getD j (0,0,0))))/\(∀(j:Nat) x y,vs[j]? =some x->ws[j]? =some y->decide (p.getD j (0,0,0)=q.getD j (0,0,0))=false->LtR K H 1 x y (ew_ (p.getD j (0,0,0)) (q.getD j (0,0,0)))):=by
 have go:∀(j:Nat) x y,vs[j]? =some x->ws[j]? =some y->Is H (lf (p.getD j (0,0,0))) x/\Is H (lf (q.getD j (0,0,0))) y:=fun j x y hx hy=>by
  obtain⟨d,hd,h1⟩:=h.of_get hx;obtain⟨e,he,h2⟩:=k.of_get hy;rw [A7] at hd he;obtain⟨d',hd',rfl⟩:=A4.mp hd;obtain⟨e',he',rfl⟩:=A4.mp he;rw [List.getD,hd',List.getD,he'];exact⟨h1,h2⟩
 exact⟨fun j x y hx hy=>pp_ (go j x y hx hy).1 (go j x y hx hy).2,fun j x y hx hy _=>sq_ (go j x y hx hy).1 (go j x y hx hy).2⟩
theorem q8_ {K:W.Frag}{H:Hp}{p q:List Lf}{v w:V} (h:Is H (lfs p) v) (k:Is H (lfs q) w):Ask K H v w (iP_ p q):=by
 obtain⟨a,vs,rfl,ha,h⟩:=cI_ h;obtain⟨b,ws,rfl,hb,k⟩:=cI_ k;obtain⟨e1,e2⟩:=mq_ (K:=K) h k;refine⟨a,b,vs,ws,1,_,_,rfl,rfl,SqL.of ha,SqL.of hb,by decide,e1,e2, ?_⟩;rw [h.length,k.length,A2,A2,ms_ p q _ 0 (Nat.sub_zero _) (AS _),D0,D0]
noncomputable def nw (H0 H:Hp):Hp:=fun b=>match H0 b with|some (.lst _)=>none|_=>H b
theorem bF_ {H0 H:Hp}:ak_ (nw H0 H) H:=fun b o e=>by
 unfold nw at e;split at e
 .cases e
 .exact e
theorem dz_ {H0 H H':Hp} (s:ak_ H H'):ak_ (nw H0 H) (nw H0 H'):=fun b o e=>by
 unfold nw at e⊢;split at e
 .cases e
 .exact s _ _ e
theorem jK_ {H0 H1 H:Hp} (s:ak_ H0 H1):ak_ (nw H1 H) (nw H0 H):=fun b o e=>by
 unfold nw at e⊢;split at e
 .cases e
 .rename_i h;split
  .rename_i xs h0;exact absurd (s _ _ h0) (h xs)
  .exact e
theorem jL_ {H0 H1 H:Hp}{a:Addr}{xs:List V} (s:ak_ H0 H1) (ha:H1 a=some (.lst xs)):ak_ (nw H1 H) (hid (nw H0 H) a):=fun b o e=>by
 have hb:b≠a:=by
  rintro rfl;unfold nw at e;rw [ha] at e;cases e
 rw [dn_ hb];exact jK_ s b o e
theorem ce_ {H0 H:Hp}{a:Addr} (h:H0 a=none):nw H0 H a=H a:=by unfold nw;rw [h]
theorem pb_ {H0 H:Hp}{a:Addr}{xs:List V} (s:ak_ H0 H) (h:H a=some (.tup xs)):nw H0 H a=some (.tup xs):=by
 unfold nw;split
 .rename_i ys e;rw [s _ _ e] at h;cases h
 .exact h
theorem sj_ {H0 H:Hp}{ps:List Lf}{vs:List V} (s:ak_ H0 H) (h:Iss H (ps.map lf) vs):Iss (nw H0 H) (ps.map lf) vs:=j7_ (fun a xs e=>pb_ s e) h
theorem pd_ {H0 H:Hp}{ps:List Lf}{a:Addr} (s:ak_ H0 H) (n:H0 a=none) (h:Is H (lfs ps) (.ref a)):Is (nw H0 H) (lfs ps) (.ref a):=by
 obtain⟨_,vs,e,ha,hi⟩:=cI_ h;cases e;exact cu_ (by rw [ce_ n];exact ha) (sj_ s hi)
noncomputable def Acc (H0 H:Hp) (a:Addr) (xs:List D):Prop:=∃vs,H a=some (.lst vs)/\Iss (hid (nw H0 H) a) xs vs
theorem Acc.start {H0 H:Hp}{a:Addr} (h:H a=some (.lst [])):Acc H0 H a []:=⟨[],h,an_⟩
theorem Acc.mono {H0 H H':Hp}{a:Addr}{xs:List D} (s:ak_ H H') (g:Acc H0 H a xs):Acc H0 H' a xs:=let ⟨vs,e,h⟩:=g;⟨vs,s _ _ e,h.mono (bz_ (dz_ s))⟩
theorem fG_ {H0 H:Hp}{a:Addr}{o:HO}:hid (nw H0 (upd H a o)) a=hid (nw H0 H) a:=by
 funext b
 unfold hid;split
 .rfl
 .rename_i h;unfold nw;rw [ao_ h]
theorem Acc.add {H0 H1 H2:Hp}{a:Addr}{xs:List D}{x:D}{vs:List V}{v:V} (s01:ak_ H0 H1) (s12:ak_ H1 H2) (ha:H1 a=some (.lst vs)) (h:Iss (hid (nw H0 H1) a) xs vs) (k:Is (nw H1 H2) x v):Acc H0 (upd H2 a (.lst (vs++[v]))) a (xs++[x]):=
 ⟨vs++[v],ae_,by rw [fG_];exact(h.mono (bz_ (dz_ s12))).append (ai_ (k.mono (jL_ s01 ha)) an_)⟩
theorem Acc.adds {H0 H1 H2:Hp}{a:Addr}{xs ys:List D}{vs us:List V} (s01:ak_ H0 H1) (s12:ak_ H1 H2) (ha:H1 a=some (.lst vs)) (h:Iss (hid (nw H0 H1) a) xs vs) (k:Iss (nw H1 H2) ys us):Acc H0 (upd H2 a (.lst (vs++us))) a (xs++ys):=
 ⟨vs++us,ae_,by rw [fG_];exact(h.mono (bz_ (dz_ s12))).append (k.mono (jL_ s01 ha))⟩
theorem Acc.is {H0 H:Hp}{a:Addr}{xs:List D} (n:H0 a=none) (g:Acc H0 H a xs):Is (nw H0 H) (.l xs) (.ref a):=let ⟨_,e,h⟩:=g;cu_ (by rw [ce_ n];exact e) (h.mono kc_)
noncomputable def bZ_ (p:Lf):Int:=(p.2.1-p.1)*p.2.2-1
noncomputable def nd_ (f j:Int) (n:Nat) (sp:Int):List Lf:=((List.range n).map fun w:Nat=>((f,j,1+(w:Int)):Lf)).filter fun p=>decide (bZ_ p<=sp)
noncomputable def kJ_ (f:Int) (m n:Nat) (sp:Int):List Lf:=(List.range m).flatMap fun i:Nat=>nd_ f (f+1+(i:Int)) n sp
noncomputable def dc_:Nat->List Lf->Int->Int->List (List Lf)
 |0,_,_,_=>[[]]
 |n+1,ls,wt,sp=>[[]]++(List.range ls.length).flatMap fun i=>match ls[i]? with
  |none=>[]
  |some p=>if p.2.2<=wt/\bZ_ p<=sp then(dc_ n (ls.drop i) (wt-p.2.2) (sp-bZ_ p)).map (p:: ·) else []
noncomputable def ea_ (n:Nat) (ls:List Lf) (wt sp:Int) (i:Nat):List (List Lf):=match ls[i]? with
  |none=>[]
  |some p=>if p.2.2<=wt/\bZ_ p<=sp then(dc_ n (ls.drop i) (wt-p.2.2) (sp-bZ_ p)).map (p:: ·) else []
theorem eY_ (n:Nat) (ls:List Lf) (wt sp:Int):dc_ (n+1) ls wt sp=[[]]++(List.range ls.length).flatMap (ea_ n ls wt sp):=rfl
noncomputable def thF (d f:Nat) (ps:List Lf):Int:=(bQ_ d ps).getD (f-1) 0
noncomputable def gD_ (d f:Nat) (th sp:Int) (ls:List Lf):Int:=sp-(ls.map bZ_).sum-(th-(ls.map (·.2.2)).sum)*((d:Int)-(f:Int))
noncomputable def qD_ (d f:Nat) (th sp:Int):List (List Lf):=dc_ 8 (kJ_ f (d-f) th.toNat sp) th sp
noncomputable def eA_ (d f:Nat) (ps:List Lf) (sp:Int):List (List Lf×Int):=((qD_ d f (thF d f ps) sp).filter fun ls=>decide (0<=gD_ d f (thF d f ps) sp ls)).map fun ls=>(ps++ls,gD_ d f (thF d f ps) sp ls)
noncomputable def fo_ (d:Nat) (k:Int):Nat->List (List Lf×Int)
 |0=>[([],k)]
 |f+1=>(fo_ d k f).flatMap fun x=>eA_ d (f+1) x.1 x.2
noncomputable def et_ (d k:Nat):List (List Lf):=((fo_ d k d).filter fun x=>decide (x.2=0)).map (·.1)
noncomputable def sf_ (d:Nat) (p:Lf):Bool:=decide (1<=p.1)&&decide (p.1<p.2.1)&&decide (p.2.1<=d)&&decide (1<=p.2.2)&&decide (p.2.2<=8)
noncomputable def stB (d f:Nat) (x:List Lf×Int):Bool:=x.1.all (sf_ d)&&decide (x.1.length<=20)&&decide (0<=thF d (f+1) x.1)&&decide (thF d (f+1) x.1<8)&&decide (0<=x.2)&&decide (x.2<=6)&&decide ((qD_ d (f+1) (thF d (f+1) x.1) x.2).length<=200)
noncomputable def okB (d k:Nat):Bool:=(List.range d).all (fun f=>(fo_ d k f).all (stB d f)&&decide ((fo_ d k (f+1)).length<=900))&&(fo_ d k d).all fun x=>decide (x.1.length<=20)
noncomputable def Wide (d k:Nat):Prop:=1<=d/\((d<=4/\k<=6)\/(d=5/\k<=3))
theorem hB_ (f j:Int) (n:Nat) (sp:Int):nd_ f j (n+1) sp=nd_ f j n sp++(if bZ_ (f,j,1+(n:Int))<=sp then [(f,j,1+(n:Int))] else []):=by
 unfold nd_;rw [B4,AA,CQ];by_cases h:bZ_ (f,j,1+(n:Int))<=sp<;>simp [h]
theorem hC_ (f:Int) (m n:Nat) (sp:Int):kJ_ f (m+1) n sp=kJ_ f m n sp++nd_ f (f+1+(m:Int)) n sp:=by
 unfold kJ_;rw [B4,By];simp
theorem jT_ (f j:Int) (n:Nat) (sp:Int):(nd_ f j n sp).length<=n:=by
 unfold nd_;exact BO (List.length_filter_le _ _) (by simp)
theorem gC_ (f:Int) (n:Nat) (sp:Int):∀m,(kJ_ f m n sp).length<=m*n
 |0=>by simp [kJ_]
 |m+1=>by
  rw [hC_,AF,Nat.succ_mul];have:=gC_ f n sp m;have:=jT_ f (f+1+(m:Int)) n sp;lia
theorem iQ_ {f:Int}{m n:Nat}{sp:Int}{p:Lf} (h:p∈kJ_ f m n sp):p.1=f/\f<p.2.1/\p.2.1<=f+m/\1<=p.2.2/\p.2.2<=n:=by
 unfold kJ_ nd_ at h;simp only [List.mem_flatMap,As,List.mem_filter,Ac] at h;obtain⟨i,hi,⟨w,hw,rfl⟩,_⟩:=h;refine⟨rfl, ?_, ?_, ?_, ?_⟩
 .show f<f+1+(i:Int);lia
 .show f+1+(i:Int)<=f+m;lia
 .show 1<=1+(w:Int);lia
 .show 1+(w:Int)<=n;lia
theorem cv_ {α:Type} (g:Nat->List α) (i:Nat):(List.range (i+1)).flatMap g=(List.range i).flatMap g++g i:=by
 rw [B4,By];simp
theorem gc_ {α:Type} (g:Nat->List α):∀{m i:Nat},i<m->((List.range i).flatMap g).length+(g i).length<=((List.range m).flatMap g).length
 |0,i,h=>absurd h (by lia)
 |m+1,i,h=>by
  rw [cv_,AF];by_cases e:i=m
  .rw [e];exact A8 _
  .have:=gc_ g (m:=m) (i:=i) (by lia);lia
theorem qJ_ {n:Nat}{ls:List Lf}{wt sp:Int}{x:List Lf} (h:x∈dc_ (n+1) ls wt sp):x=[]\/∃(i:Nat) (p:Lf) (r:List Lf),ls[i]? =some p/\p.2.2<=wt/\bZ_ p<=sp/\r∈dc_ n (ls.drop i) (wt-p.2.2) (sp-bZ_ p)/\x=p::r:=by
 rw [eY_] at h;rcases B7.mp h with h|h
 .exact .inl (AU.mp h)
 .obtain⟨i,hi,h⟩:=List.mem_flatMap.mp h;unfold ea_ at h;split at h
  .cases h
  .rename_i p hp;split at h
   .rename_i c;obtain⟨r,hr,rfl⟩:=Ac.mp h;exact .inr ⟨i,p,r,hp,c.1,c.2,hr,rfl⟩
   .cases h
theorem eZ_:∀{n:Nat}{ls:List Lf}{wt sp:Int}{x:List Lf},(∀p∈ls,1<=p.2.2)->0<=wt->x∈dc_ n ls wt sp->x.length<=n/\0<=(x.map (·.2.2)).sum/\(x.map (·.2.2)).sum<=wt/\∀p∈x,p∈ls
 |0,ls,wt,sp,x,_,h0,h=>by
  rw [dc_] at h;rw [AU.mp h];exact⟨by simp,by simp,by simpa using h0,fun p hp=>nomatch hp⟩
 |n+1,ls,wt,sp,x,hw,h0,h=>by
  rcases qJ_ h with rfl|⟨i,p,r,hp,c1,c2,hr,rfl⟩
  .exact⟨by simp,by simp,by simpa using h0,fun p hp=>nomatch hp⟩
  .have pm:=Aq hp;have p1:=hw p pm;obtain⟨a,b,c,d⟩:=eZ_ (fun q hq=>hw q (Ch hq)) (by lia) hr;refine⟨by rw [An];lia, ?_, ?_,fun q hq=> ?_⟩
   .rw [AJ,B8];lia
   .rw [AJ,B8];lia
   .rcases AK.mp hq with rfl|hq
    .exact pm
    .exact Ch (d q hq)
theorem jI_ {d:Nat}{p:Lf}:sf_ d p=true↔1<=p.1/\p.1<p.2.1/\p.2.1<=d/\1<=p.2.2/\p.2.2<=8:=by
 unfold sf_;simp only [AC,AT];constructor
 .rintro⟨⟨⟨⟨a,b⟩,c⟩,d⟩,e⟩;exact⟨a,b,c,d,e⟩
 .rintro⟨a,b,c,d,e⟩;exact⟨⟨⟨⟨a,b⟩,c⟩,d⟩,e⟩
theorem pW_ {d f:Nat}{x:List Lf×Int} (h:stB d f x=true):(∀p∈x.1,sf_ d p=true)/\x.1.length<=20/\0<=thF d (f+1) x.1/\thF d (f+1) x.1<8/\0<=x.2/\x.2<=6/\(qD_ d (f+1) (thF d (f+1) x.1) x.2).length<=200:=by
 unfold stB at h;simp only [AC,AT,AV] at h;obtain⟨⟨⟨⟨⟨⟨a,b⟩,c⟩,d⟩,e⟩,f⟩,g⟩:=h;exact⟨a,b,c,d,e,f,g⟩
theorem qt_ {d k:Nat} (h:okB d k=true):(∀f<d,(∀x∈fo_ d k f,stB d f x=true)/\(fo_ d k (f+1)).length<=900)/\∀x∈fo_ d k d,x.1.length<=20:=by
 unfold okB at h;simp only [AC,AT,AV,As] at h;exact h
theorem sr_ (p q:Lf):ltI (g0_ p) (g0_ q)=ew_ p q:=by
 unfold ew_ ltI g0_;simp only [kK_,An,List.length_nil];split
 .split
  .split
   .rename_i h;simp [h]
   .rfl
  .rfl
 .rfl
noncomputable def Srt (ps:List Lf):Prop:=ps.Pairwise fun a b=>ew_ b a=false
theorem oW_ {α:Type} (g:α->Int):∀{xs:List α},(∀x∈xs,0<=g x)->0<=(xs.map g).sum
 |[],_=>by simp
 |x::xs,h=>by
  rw [AJ,B8];have:=oW_ g (xs:=xs) fun y hy=>h y (by simp [hy]);have:=h x (by simp);lia
structure Snd (d:Nat) (ps:List Lf):Prop where
 ok:∀p∈ps,1<=p.1/\p.1<p.2.1/\p.2.1<=d/\1<=p.2.2
 nn:∀i:Nat,i<d->0<=1+fn_ ps (1+(i:Int))-dl_ ps (1+(i:Int))
 so:Srt ps
noncomputable def eF (ps:List Lf) (i:Nat):Int:=1+fn_ ps (1+(i:Int))-dl_ ps (1+(i:Int))
theorem qG_ {p:Lf} (h1:p.1<p.2.1) (h2:1<=p.2.2):0<=bZ_ p:=by
 unfold bZ_;have:1*1<=(p.2.1-p.1)*p.2.2:=Int.mul_le_mul (by lia) h2 (by decide) (by lia);lia
noncomputable def id_ (d:Nat) (g:Nat->Int) (n:Nat):Int:=((List.range n).map fun i=>g i*((d:Int)-((i+1:Nat):Int))).sum
theorem bJ_ (d:Nat) (g:Nat->Int) (n:Nat):id_ d g (n+1)=id_ d g n+g n*((d:Int)-((n+1:Nat):Int)):=by
 unfold id_;rw [B4,AA,Cn];simp
theorem iG_ (d:Nat) (j w:Int) (h1:1<=j):∀n:Nat,id_ d (fun i=>if j=1+(i:Int) then w else 0) n=if j<=n then w*((d:Int)-j) else 0
 |0=>by
  rw [A5 (by lia)];rfl
 |n+1=>by
  rw [bJ_,iG_ d j w h1 n];by_cases c:j=1+(n:Int)
  .have c':¬j<=(n:Int):=by lia
   have c2:j<=((n+1:Nat):Int):=by lia
   rw [A6 c,A5 c',A6 c2,c,show(((n+1:Nat):Int))=1+(n:Int) by lia,CY]
  .rw [A5 c,Int.zero_mul,Int.add_zero];by_cases c2:j<=(n:Int)
   .rw [A6 c2,A6 (by lia)]
   .rw [A5 c2,A5 (by lia)]
theorem jb_ (d:Nat) (g h:Nat->Int):∀n,id_ d (fun i=>g i+h i) n=id_ d g n+id_ d h n
 |0=>rfl
 |n+1=>by
  rw [bJ_,bJ_,bJ_,jb_ d g h n,Int.add_mul];lia
theorem ja_ (d:Nat) (g h:Nat->Int):∀n,id_ d (fun i=>g i-h i) n=id_ d g n-id_ d h n
 |0=>rfl
 |n+1=>by
  rw [bJ_,bJ_,bJ_,ja_ d g h n,Int.sub_mul];lia
theorem sM_ {d:Nat}:∀{ps:List Lf},(∀p∈ps,1<=p.1/\p.1<p.2.1/\p.2.1<=d/\1<=p.2.2)->id_ d (eF ps) d+(ps.map bZ_).sum+ps.length=id_ d (fun _=>1) d
 |[],_=>by
  have:eF []=fun _=>1:=by funext i;simp [eF,fn_,dl_]
  rw [this];simp
 |p::ps,h=>by
  have ih:=sM_ (ps:=ps) fun q hq=>h q (by simp [hq]);obtain⟨p1,p2,p3,p4⟩:=h p (by simp);have e:eF (p::ps)=fun i:Nat=>(eF ps i+(if p.2.1=1+(i:Int) then p.2.2 else 0))-(if p.1=1+(i:Int) then p.2.2 else 0):=by
   funext i
   unfold eF;rw [eh_,dD_];lia
  rw [e,ja_ d (fun i:Nat=>eF ps i+(if p.2.1=1+(i:Int) then p.2.2 else 0)),jb_ d (eF ps),iG_ d p.2.1 p.2.2 (by lia),iG_ d p.1 p.2.2 p1,A6 p3,A6 (by lia),AJ,B8,An];have l:bZ_ p=p.2.2*((d:Int)-p.1)-p.2.2*((d:Int)-p.2.1)-1:=by
   unfold bZ_;rw [<-Int.mul_sub,B'];congr 2
   lia
  rw [l]
  push_cast
  lia
theorem gR_ {d:Nat}{ps:List Lf} (h:∀p∈ps,Okl d p) {i:Nat} (hi:i<d):(bQ_ d ps).getD i 0=eF ps i:=by
 have:=(gO_ ps (List.replicate d 1) (by simp) h).2 i;unfold bQ_;rw [this];unfold eF;have:(List.replicate d (1:Int)).getD i 0=1:=by simp [List.getD,hi]
 rw [this]
theorem oy_ {d:Nat} (h1:1<=d) (h5:d<=5):id_ d (fun _=>1) d=((d*(d-1)/2:Nat):Int):=by
 have:d=1\/d=2\/d=3\/d=4\/d=5:=by lia
 rcases this with rfl|rfl|rfl|rfl|rfl<;>decide
noncomputable def pv_ (d:Nat) (ps:List Lf):Prop:=(∀p∈ps,1<=p.1/\p.1<p.2.1/\p.2.1<=d/\1<=p.2.2)/\∀i:Nat,i<d->0<=eF ps i
theorem pv_.okl {d:Nat}{ps:List Lf} (h:pv_ d ps):∀p∈ps,Okl d p:=fun p hp=>by
 obtain⟨a,b,c,_⟩:=h.1 p hp;exact⟨a,by lia,by lia,c⟩
theorem fQ_ {d:Nat}{g:Nat->Int}:∀{n i:Nat},n<=d->(∀j<n,0<=g j)->i<n->g i*((d:Int)-((i+1:Nat):Int))<=id_ d g n/\0<=id_ d g n
 |0,i,_,_,h=>absurd h (by lia)
 |n+1,i,hd,hg,h=>by
  rw [bJ_];have a:0<=g n*((d:Int)-((n+1:Nat):Int)):=D1 (hg n (by lia)) (by lia);have b:0<=id_ d g n:=by
   cases n with
   |zero=>exact Int.le_refl _
   |succ n=>exact(fQ_ (d:=d) (g:=g) (n:=n+1) (i:=0) (by lia) (fun j hj=>hg j (by lia)) (by lia)).2
  by_cases e:i=n
  .subst e;exact⟨by lia,by lia⟩
  .have:=(fQ_ (d:=d) (g:=g) (n:=n) (i:=i) (by lia) (fun j hj=>hg j (by lia)) (by lia)).1;exact⟨by lia,by lia⟩
theorem pv_.len {d:Nat}{ps:List Lf} (h:pv_ d ps) (d1:1<=d) (d5:d<=5):ps.length<=d*(d-1)/2/\d*(d-1)/2<=10/\∀i:Nat,i+1<d->eF ps i<=10:=by
 have a:=sM_ h.1;rw [oy_ d1 d5] at a;have n1:=oW_ bZ_ (xs:=ps) fun p hp=>by
  have:=h.1 p hp;exact qG_ this.2.1 this.2.2.2
 have n2:=(fQ_ (d:=d) (g:=eF ps) (n:=d) (i:=0) (A8 _) h.2 (by lia)).2;have d10:d*(d-1)/2<=10:=by
  have:d=1\/d=2\/d=3\/d=4\/d=5:=by lia
  rcases this with rfl|rfl|rfl|rfl|rfl<;>decide
 refine⟨by lia,d10,fun i hi=> ?_⟩;have b:=(fQ_ (d:=d) (g:=eF ps) (n:=d) (i:=i) (A8 _) h.2 (by lia)).1;have c:eF ps i*1<=eF ps i*((d:Int)-((i+1:Nat):Int)):=Ci (by lia) (h.2 i (by lia));lia
noncomputable def pj_ (x:Lf):List Lf->List Lf
 |[]=>[x]
 |y::ys=>if ew_ x y then x::y::ys else if x=y then y::ys else y::pj_ x ys
noncomputable def ky_ (xs:List Lf):List Lf:=xs.foldr pj_ []
noncomputable def kQ_ (d:Nat) (es:List Int) (i:Nat):List Lf:=List.replicate (es.getD i 0).toNat (1+(i:Int),(d:Int)+1,1)
noncomputable def e7_ (d:Nat) (es:List Int):List Lf:=(List.range d).flatMap (kQ_ d es)
theorem gz_ {p q:Lf}:ew_ p q=true↔p.1<q.1\/(p.1=q.1/\(p.2.1<q.2.1\/(p.2.1=q.2.1/\p.2.2<q.2.2))):=by
 unfold ew_;by_cases e0:p.1=q.1
 .by_cases e1:p.2.1=q.2.1
  .simp [e0,e1]
  .simp [e0,e1]
 .simp [e0]
theorem gy_ {p:Lf}:¬ew_ p p=true:=by rw [gz_];lia
theorem ml_ {p q r:Lf} (h:ew_ p q=true) (k:ew_ q r=true):ew_ p r=true:=by rw [gz_] at*;lia
theorem jP_ {p q:Lf} (h:¬ew_ p q=true) (k:p≠q):ew_ q p=true:=by
 rw [gz_] at*
 obtain⟨a,b,c⟩:=p;obtain⟨d,e,f⟩:=q;simp only [ne_eq,BV,not_and] at*
 lia
theorem gJ_ {x z:Lf}:∀{ys:List Lf},z∈pj_ x ys↔z=x\/z∈ys
 |[]=>by simp [pj_]
 |y::ys=>by
  unfold pj_;split
  .simp
  .split
   .rename_i e;subst e;simp
   .simp [gJ_ (ys:=ys)];constructor
    .rintro(h|h|h)
     .exact .inr (.inl h)
     .exact .inl h
     .exact .inr (.inr h)
    .rintro(h|h|h)
     .exact .inr (.inl h)
     .exact .inl h
     .exact .inr (.inr h)
theorem mH_ {x:Lf}:∀{ys:List Lf},(ys.Pairwise fun a b=>ew_ a b=true)->(pj_ x ys).Pairwise fun a b=>ew_ a b=true
 |[],_=>by simp [pj_]
 |y::ys,h=>by
  unfold pj_;split
  .rename_i e;refine List.Pairwise.cons (fun z hz=> ?_) h;rcases AK.mp hz with rfl|hz
   .exact e
   .exact ml_ e ((Ad.mp h).1 z hz)
  .split
   .exact h
   .rename_i e1 e2;refine List.Pairwise.cons (fun z hz=> ?_) (mH_ (Ad.mp h).2);rcases gJ_.mp hz with rfl|hz
    .exact jP_ e1 e2
    .exact(Ad.mp h).1 z hz
theorem fY_ {z:Lf}:∀{xs:List Lf},z∈ky_ xs↔z∈xs
 |[]=>by simp [ky_]
 |x::xs=>by
  have:=fY_ (z:=z) (xs:=xs);unfold ky_ at this⊢;rw [List.foldr_cons,gJ_,this,AK]
theorem io_:∀(xs:List Lf),(ky_ xs).Pairwise fun a b=>ew_ a b=true
 |[]=>by simp [ky_]
 |x::xs=>by
  have:=io_ xs;unfold ky_ at this⊢;rw [List.foldr_cons];exact mH_ this
theorem hf_:∀{xs ys:List Lf},(xs.Pairwise fun a b=>ew_ a b=true)->(ys.Pairwise fun a b=>ew_ a b=true)->(∀z,z∈xs↔z∈ys)->xs=ys
 |[],[],_,_,_=>rfl
 |[],y::ys,_,_,h=>absurd ((h y).mpr (by simp)) (by simp)
 |x::xs,[],_,_,h=>absurd ((h x).mp (by simp)) (by simp)
 |x::xs,y::ys,h1,h2,h=>by
  have a1:=Ad.mp h1;have a2:=Ad.mp h2;have e:x=y:=by
   refine Classical.byContradiction fun ne=> ?_;have m1:x∈ys:=by rcases AK.mp ((h x).mp (by simp)) with e|e;exact absurd e ne;exact e
   have m2:y∈xs:=by rcases AK.mp ((h y).mpr (by simp)) with e|e;exact absurd e.symm ne;exact e
   exact gy_ (ml_ (a1.1 y m2) (a2.1 x m1))
  subst e;have:xs=ys:=hf_ a1.2 a2.2 fun z=>by
   have hz:=h z;rw [AK,AK] at hz;constructor
   .intro m;rcases hz.mp (.inr m) with e|e
    .subst e;exact absurd (a1.1 z m) gy_
    .exact e
   .intro m;rcases hz.mpr (.inr m) with e|e
    .subst e;exact absurd (a2.1 z m) gy_
    .exact e
  rw [this]
theorem nO_ {p q:Lf} (h:g0_ p=g0_ q):p=q:=by rw [<-kq_ p,<-kq_ q,h]
theorem pY_ {ps:List Lf}{yss:List (List Int)} (nd:yss.Nodup) (mem:∀z,z∈yss↔z∈ps.map g0_) (so:∀i j,i<j->j<yss.length->ltI (yss.getD j []) (yss.getD i [])=false):yss=(ky_ ps).map g0_:=by
 obtain⟨qs,e,hq⟩:=dB_ (f:=g0_) (P:=fun p=>p∈ps) yss fun v hv=>by
  obtain⟨p,hp,rfl⟩:=Ac.mp ((mem v).mp hv);exact⟨p,hp,rfl⟩
 subst e;have:qs=ky_ ps:=by
  refine hf_ ?_ (io_ ps) fun z=> ?_
  .rw [CK];intro i j hi hj hij;have h1:=so i j hij (by rw [A2];exact hj);rw [AG,AG,A7,A7,A1 hi,A1 hj] at h1;simp only [Be,Option.getD_some] at h1;rw [sr_] at h1;refine jP_ (by rw [h1];simp) fun e=> ?_;unfold List.Nodup at nd;rw [List.pairwise_map,CK] at nd;exact nd i j hi hj hij (by rw [e])
  .rw [fY_];constructor
   .exact hq z
   .intro hz;obtain⟨q,hq',e⟩:=Ac.mp ((mem (g0_ z)).mpr (List.mem_map_of_mem hz));rw [<-nO_ e];exact hq'
 rw [this]
noncomputable def chF (n:Int):Nat->Int
 |0=>1
 |k+1=>chF n k*(n-(k:Int))/((k:Int)+1)
noncomputable def chB:Bool:=(List.range 16).all fun n=>(List.range (n+1)).all fun k=>decide (0<=chF (n:Int) k)&&decide (chF (n:Int) k<=6435)
theorem sV_:chB=true:=by ac_nf
theorem sU_ {n:Int}{k:Nat} (h1:(k:Int)<=n) (h2:n<=15):0<=chF n k/\chF n k<=6435:=by
 obtain⟨m,rfl⟩:=AX (show 0<=n by lia);have h:=sV_;unfold chB at h;rw [AV] at h;have h:=h m (As.mpr (by lia));rw [AV] at h;have h:=h k (As.mpr (by lia));simpa using h
noncomputable def wmF (t:List Int) (p:Nat) (m:Int):List Int:=t.set p (t.getD p 0+m)
theorem g3_ (t:List Int) (p:Nat) (m:Int):(wmF t p m).length=t.length:=by unfold wmF;rw [BZ]
theorem pB_ {t:List Int}{p i:Nat}{m:Int} (h:p<t.length):(wmF t p m).getD i 0=t.getD i 0+if p=i then m else 0:=by
 unfold wmF;rw [AG,List.getElem?_set];by_cases e:p=i
 .subst e;simp [h]
 .simp [e]
theorem p3_ {t:List Int}{p:Nat}{x:Int} (h:p<t.length):t.take p++[x]++t.drop (p+1)=t.set p x:=by
 rw [List.set_eq_take_append_cons_drop,A6 h];simp
noncomputable def spR:Nat->Nat->List (List Nat)
 |0,a=>[[a]]
 |g+1,a=>(List.range (a+1)).flatMap fun h=>(spR g (a-h)).map (h:: ·)
noncomputable def gZ_ (t:List Int):Nat->List Nat->Int
 |_,[]=>1
 |p,s::r=>chF (t.getD p 0+(s:Int)) s*gZ_ t (p+1) r
noncomputable def h9_ (t:List Int):Nat->List Nat->List Int
 |_,[]=>t
 |p,s::r=>h9_ (wmF t p (s:Int)) (p+1) r
theorem lx_ {t:List Int}{m:Int}{q:Nat} (hq:q<t.length):∀{r:List Nat}{p:Nat},q<p->gZ_ (wmF t q m) p r=gZ_ t p r
 |[],p,_=>rfl
 |s::r,p,h=>by
  unfold gZ_;rw [pB_ hq,A5 (by lia),lx_ hq (r:=r) (by lia)];simp
noncomputable def pbF:Nat->List Int->Nat->Nat->List (List Int×Int)
 |0,t,p,a=>[(wmF t p (a:Int),chF (t.getD p 0+(a:Int)) a)]
 |g+1,t,p,a=>(List.range (a+1)).flatMap fun h:Nat=>(pbF g (wmF t p (h:Int)) (p+1) (a-h)).map fun x=>(x.1,chF (t.getD p 0+(h:Int)) h*x.2)
theorem fI_ {α β:Type}{f g:α->List β}:∀{xs:List α},(∀x∈xs,f x=g x)->xs.flatMap f=xs.flatMap g
 |[],_=>rfl
 |x::xs,h=>by rw [List.flatMap_cons,List.flatMap_cons,h x (by simp),fI_ fun y hy=>h y (by simp [hy])]
theorem sc_:∀{g:Nat}{t:List Int}{p a:Nat},p+g<t.length->pbF g t p a=(spR g a).map fun r=>(h9_ t p r,gZ_ t p r)
 |0,t,p,a,_=>by simp [pbF,spR,h9_,gZ_]
 |g+1,t,p,a,h=>by
  unfold pbF spR;rw [List.map_flatMap];refine fI_ fun x _=> ?_;rw [sc_ (by rw [g3_];lia),BW,BW];refine BA fun r _=> ?_;simp only [Function.comp,h9_,gZ_];rw [lx_ (by lia) (Ba p)]
theorem ip_:∀{g a:Nat}{r:List Nat},r∈spR g a->r.length=g+1/\r.sum=a
 |0,a,r,h=>by simp [spR] at h;subst h;simp
 |g+1,a,r,h=>by
  unfold spR at h;obtain⟨x,hx,h⟩:=List.mem_flatMap.mp h;obtain⟨r',h',rfl⟩:=Ac.mp h;have hx:=As.mp hx;obtain⟨e1,e2⟩:=ip_ h';simp [e1,e2];lia
theorem il_:∀{t:List Int}{p:Nat}{m:Int},p<t.length->(wmF t p m).sum=t.sum+m
 |[],p,m,h=>absurd h (by simp)
 |x::t,0,m,_=>by simp [wmF];lia
 |x::t,p+1,m,h=>by
  have:=il_ (t:=t) (p:=p) (m:=m) (by simpa using h);unfold wmF at this⊢;simp only [List.set_cons_succ,B8,Cq] at this⊢;lia
theorem m9_:∀{r:List Nat}{t:List Int}{p:Nat},p+r.length<=t.length->(∀i:Nat,0<=t.getD i 0)->(h9_ t p r).length=t.length/\(h9_ t p r).sum=t.sum+(r.sum:Nat)/\∀i:Nat,0<=(h9_ t p r).getD i 0
 |[],t,p,_,h=>by simpa [h9_] using h
 |s::r,t,p,hl,h=>by
  have hp:p<t.length:=by simp at hl;lia
  obtain⟨e1,e2,e3⟩:=m9_ (r:=r) (t:=wmF t p (s:Int)) (p:=p+1) (by rw [g3_];simp at hl;lia) (fun i=>by rw [pB_ hp];have:=h i;split<;>lia)
  unfold h9_;refine⟨by rw [e1,g3_], ?_,e3⟩;rw [e2,il_ hp,B8];lia
theorem fA_:∀{t:List Int},(∀i:Nat,0<=t.getD i 0)->0<=t.sum/\∀i:Nat,t.getD i 0<=t.sum
 |[],_=>by simp
 |x::t,h=>by
  have hx:=h 0;obtain⟨e1,e2⟩:=fA_ (t:=t) fun i=>by have:=h (i+1);simpa using this
  simp only [List.getD_cons_zero] at hx;rw [B8];refine⟨by lia,fun i=> ?_⟩;cases i with
  |zero=>simp;lia
  |succ i=>have:=e2 i;rw [Cq];lia
theorem ly_:∀{r:List Nat}{t:List Int}{p:Nat},(∀i:Nat,0<=t.getD i 0)->t.sum+(r.sum:Nat)<=15->0<=gZ_ t p r/\gZ_ t p r<=6435^r.length
 |[],t,p,_,_=>by simp [gZ_]
 |s::r,t,p,h,hs=>by
  rw [B8] at hs;obtain⟨e1,e2⟩:=fA_ h;have a1:=e2 p;have a2:=h p;obtain⟨c1,c2⟩:=sU_ (n:=t.getD p 0+(s:Int)) (k:=s) (by lia) (by lia);obtain⟨q1,q2⟩:=ly_ (r:=r) (t:=t) (p:=p+1) h (by lia);unfold gZ_;refine⟨D1 c1 q1, ?_⟩;rw [An,Int.pow_succ,B'];exact Int.mul_le_mul q2 c2 c1 (Int.pow_nonneg (by decide))
noncomputable abbrev Tab:=List (List Int×Int)
noncomputable def ep_ (D:Tab) (g:List Int->Int):Int:=(D.map fun x=>x.2*g x.1).sum
noncomputable def ij_ (D:Tab) (k:List Int):Int:=((D.find? fun x=>decide (x.1=k)).map (·.2)).getD 0
noncomputable def nc_ (D:Tab) (k:List Int) (v:Int):Tab:=if(D.any fun x=>decide (x.1=k))=true then D.map (fun x=>if x.1=k then(x.1,v) else x) else D++[(k,v)]
noncomputable def rt_ (D:Tab) (k:List Int) (v:Int):Tab:=nc_ D k (ij_ D k+v)
theorem jZ_ (D:Tab) (k:List Int) (v:Int):(nc_ D k v).map (·.1)=if k∈D.map (·.1) then D.map (·.1) else D.map (·.1)++[k]:=by
 unfold nc_;have:(D.any fun x=>decide (x.1=k))=true↔k∈D.map (·.1):=by
  rw [List.any_eq_true,Ac];simp
 by_cases h:k∈D.map (·.1)
 .rw [A6 h,A6 (this.mpr h),BW];refine BA fun x _=> ?_;simp only [Function.comp];split<;>rfl
 .rw [A5 h,A5 (fun z=>h (this.mp z)),AA];rfl
theorem im_ {D:Tab}{k:List Int}{v:Int}{g:List Int->Int} (h:k∉D.map (·.1)):ep_ (nc_ D k v) g=ep_ D g+v*g k/\ij_ D k=0:=by
 have hn:∀x∈D,x.1≠k:=fun x hx e=>h (Ac.mpr ⟨x,hx,e⟩);have e1:(D.any fun x=>decide (x.1=k))=false:=by
  rw [List.any_eq_false];intro x hx;simpa using hn x hx
 have e2:D.find? (fun x=>decide (x.1=k))=none:=by
  rw [List.find?_eq_none];intro x hx;simpa using hn x hx
 unfold nc_ ij_ ep_;rw [e1,e2];simp
theorem eG_:∀{D:Tab}{k:List Int}{v:Int}{g:List Int->Int},(D.map (·.1)).Nodup->k∈D.map (·.1)->ep_ (D.map fun x=>if x.1=k then(x.1,v) else x) g=ep_ D g+(v-ij_ D k)*g k
 |[],_,_,_,_,h=>by simp at h
 |x::D,k,v,g,nd,h=>by
  rw [AJ,BY] at nd;by_cases e:x.1=k
  .subst e;have hn:∀y∈D,y.1≠x.1:=fun y hy e=>nd.1 (Ac.mpr ⟨y,hy,e⟩);have e1:(D.map fun y=>if y.1=x.1 then(y.1,v) else y)=D:=by
    conv=>rhs;rw [<-List.map_id D]
    refine BA fun y hy=> ?_;rw [A5 (hn y hy)];rfl
   have e2:ij_ (x::D) x.1=x.2:=by simp [ij_]
   rw [AJ,e1,e2];simp only [ep_,Bx,AJ,B8];rw [Int.sub_mul];lia
  .have hk:k∈D.map (·.1):=by
    rw [AJ,AK] at h;rcases h with h|h
    .exact absurd h.symm e
    .exact h
   have ih:=eG_ (g:=g) (v:=v) nd.2 hk;have e2:ij_ (x::D) k=ij_ D k:=by simp [ij_,BP,e]
   rw [e2,AJ];simp only [ep_,AJ,B8,A5 e] at ih⊢;lia
theorem pT_ {D:Tab} (nd:(D.map (·.1)).Nodup) (k:List Int) (v:Int) (g:List Int->Int):ep_ (rt_ D k v) g=ep_ D g+v*g k:=by
 unfold rt_;by_cases h:k∈D.map (·.1)
 .have e:(D.any fun x=>decide (x.1=k))=true:=by
   rw [List.any_eq_true];obtain⟨x,hx,e⟩:=Ac.mp h;exact⟨x,hx,B5 e⟩
  unfold nc_;rw [A6 e,eG_ nd h];rw [show ij_ D k+v-ij_ D k=v by lia]
 .obtain⟨e1,e2⟩:=im_ (v:=ij_ D k+v) (g:=g) h;rw [e1,e2];simp
theorem sk_ {D:Tab} (nd:(D.map (·.1)).Nodup) (k:List Int) (v:Int):((nc_ D k v).map (·.1)).Nodup:=by
 rw [jZ_];split
 .exact nd
 .rename_i h;rw [List.nodup_append];exact⟨nd,by simp,fun a ha b hb=>by simp at hb;subst hb;exact fun e=>h (e▸ha)⟩
structure TabOk (d n:Nat) (D:Tab):Prop where
 nd:(D.map (·.1)).Nodup
 key:∀x∈D,x.1.length=d/\x.1.sum=(n:Int)/\∀i:Nat,0<=x.1.getD i 0
theorem TabOk.add {d n:Nat}{D:Tab} (h:TabOk d n D) {k:List Int}{v:Int} (hk:k.length=d/\k.sum=(n:Int)/\∀i:Nat,0<=k.getD i 0):TabOk d n (rt_ D k v):=by
 refine⟨sk_ h.nd _ _,fun x hx=> ?_⟩;have:x.1∈(nc_ D k (ij_ D k+v)).map (·.1):=List.mem_map_of_mem hx;rw [jZ_] at this;have:x.1∈D.map (·.1)\/x.1=k:=by
  split at this
  .exact .inl this
  .rcases B7.mp this with h|h
   .exact .inl h
   .exact .inr (by simpa using h)
 rcases this with h'|h'
 .obtain⟨y,hy,e⟩:=Ac.mp h';rw [<-e];exact h.key y hy
 .rw [h'];exact hk
noncomputable def inP (t:List Int) (v:Int) (p:Nat) (rs:List (List Nat)) (acc:Tab):Tab:=rs.foldl (fun acc r=>rt_ acc (h9_ t p r) (v*gZ_ t p r)) acc
noncomputable def stP (p:Nat) (rs:List (List Nat)) (xs acc:Tab):Tab:=xs.foldl (fun acc x=>inP x.1 x.2 p rs acc) acc
noncomputable def rn_ (g:List Int->Int) (p:Nat) (rs:List (List Nat)) (t:List Int):Int:=(rs.map fun r=>gZ_ t p r*g (h9_ t p r)).sum
noncomputable def na_ (p d n n':Nat) (rs:List (List Nat)):Prop:=∀r∈rs,p+r.length<=d/\n+r.sum=n'
theorem qL_ {d n n' p:Nat}{r:List Nat}{t:List Int} (h:t.length=d/\t.sum=(n:Int)/\∀i:Nat,0<=t.getD i 0) (hr:p+r.length<=d/\n+r.sum=n'):(h9_ t p r).length=d/\(h9_ t p r).sum=(n':Int)/\∀i:Nat,0<=(h9_ t p r).getD i 0:=by
 obtain⟨e1,e2,e3⟩:=m9_ (r:=r) (t:=t) (p:=p) (by rw [h.1];exact hr.1) h.2.2;exact⟨by rw [e1,h.1],by rw [e2,h.2.1,<-hr.2];lia,e3⟩
theorem mI_ {d n n' p:Nat}{t:List Int}{v:Int} (h:t.length=d/\t.sum=(n:Int)/\∀i:Nat,0<=t.getD i 0) (g:List Int->Int):∀{rs:List (List Nat)}{acc:Tab},na_ p d n n' rs->TabOk d n' acc->TabOk d n' (inP t v p rs acc)/\ep_ (inP t v p rs acc) g=ep_ acc g+v*rn_ g p rs t
 |[],acc,_,ha=>by simp [inP,rn_,ha]
 |r::rs,acc,hr,ha=>by
  have a1:=ha.add (v:=v*gZ_ t p r) (qL_ h (hr r (by simp)));obtain⟨b1,b2⟩:=mI_ (v:=v) h g (rs:=rs) (fun r' h'=>hr r' (by simp [h'])) a1;refine⟨b1, ?_⟩;show ep_ (inP t v p rs (rt_ acc (h9_ t p r) (v*gZ_ t p r))) g=_;rw [b2,pT_ ha.nd];simp only [rn_,AJ,B8];rw [Int.mul_add,Int.mul_assoc];lia
theorem lj_ {d n n' p:Nat}{rs:List (List Nat)} (hr:na_ p d n n' rs) (g:List Int->Int):∀{xs acc:Tab},(∀x∈xs,x.1.length=d/\x.1.sum=(n:Int)/\∀i:Nat,0<=x.1.getD i 0)->TabOk d n' acc->TabOk d n' (stP p rs xs acc)/\ep_ (stP p rs xs acc) g=ep_ acc g+ep_ xs (rn_ g p rs)
 |[],acc,_,ha=>by simp [stP,ep_,ha]
 |x::xs,acc,hx,ha=>by
  obtain⟨a1,a2⟩:=mI_ (v:=x.2) (hx x (by simp)) g hr ha;obtain⟨b1,b2⟩:=lj_ hr g (xs:=xs) (fun y hy=>hx y (by simp [hy])) a1;refine⟨b1, ?_⟩;show ep_ (stP p rs xs (inP x.1 x.2 p rs acc)) g=_;rw [b2,a2];simp only [ep_,AJ,B8];lia
noncomputable def TF (cnt:Lf->Nat):List Lf->List Int->Int
 |[],_=>1
 |m::ms,t=>rn_ (TF cnt ms) (m.1-1).toNat (spR (m.2.1-m.1-1).toNat (cnt m)) t
noncomputable def hmF (d:Nat) (mk:List Lf):Int:=TF (fun m=>mk.count m) (ky_ mk) (List.replicate d 0)
theorem nz_ (D:Tab):ep_ D (fun _=>1)=(D.map (·.2)).sum:=by
 unfold ep_;congr 1
 refine BA fun x _=> ?_;show x.2*1=x.2;lia
noncomputable def enc:List Int->Nat
 |[]=>0
 |x::t=>x.toNat+16*enc t
theorem pq_:∀{t:List Int},(∀i:Nat,0<=t.getD i 0/\t.getD i 0<=15)->enc t<16^t.length
 |[],_=>by simp [enc]
 |x::t,h=>by
  have h0:=h 0;have ih:=pq_ (t:=t) fun i=>by have:=h (i+1);simpa using this
  simp only [List.getD_cons_zero] at h0;unfold enc;rw [An,Nat.pow_succ];lia
theorem mR_:∀{t u:List Int},t.length=u.length->(∀i:Nat,0<=t.getD i 0/\t.getD i 0<=15)->(∀i:Nat,0<=u.getD i 0/\u.getD i 0<=15)->enc t=enc u->t=u
 |[],[],_,_,_,_=>rfl
 |[],_::_,h,_,_,_=>absurd h (by simp)
 |_::_,[],h,_,_,_=>absurd h (by simp)
 |x::t,y::u,hl,ht,hu,e=>by
  have h0:=ht 0;have h1:=hu 0;simp only [List.getD_cons_zero] at h0 h1;unfold enc at e;have ih:=mR_ (t:=t) (u:=u) (by simpa using hl) (fun i=>by have:=ht (i+1);simpa using this) (fun i=>by have:=hu (i+1);simpa using this) (by lia);rw [ih,show x=y by lia]
theorem jO_:∀(N:Nat) (xs:List Nat),xs.Nodup->(∀x∈xs,x<N)->xs.length<=N
 |0,[],_,_=>A8 _
 |0,x::xs,_,h=>absurd (h x (by simp)) (by lia)
 |N+1,xs,nd,h=>by
  have h1:=jO_ N (xs.filter fun x=>decide (x≠N)) (nd.filter _) fun x hx=>by
   obtain⟨a,b⟩:=List.mem_filter.mp hx;have:=h x a;have:x≠N:=by simpa using b
   lia
  have h2:xs.length<=(xs.filter fun x=>decide (x≠N)).length+1:=by
   clear h1 h;induction xs with
   |nil=>simp
   |cons y ys ih=>
    rw [BY] at nd;by_cases e:y=N
    .subst e;have:(ys.filter fun x=>decide (x≠y))=ys:=by
      rw [List.filter_eq_self];intro z hz;simp;rintro rfl;exact nd.1 hz
     rw [List.filter_cons,A5 (by simp),this,An];exact A8 _
    .have:=ih nd.2;rw [List.filter_cons,A6 (by simpa using e),An,An];lia
  lia
theorem TabOk.size {d n:Nat}{D:Tab} (h:TabOk d n D) (hd:d<=5) (hn:n<=15):D.length<=1048576:=by
 have hb:∀x∈D,∀i:Nat,0<=x.1.getD i 0/\x.1.getD i 0<=15:=fun x hx i=>by
  obtain⟨_,e2,e3⟩:=h.key x hx;have:=(fA_ e3).2 i;exact⟨e3 i,by lia⟩
 have:=jO_ (16^d) (D.map fun x=>enc x.1) ?_ ?_
 .rw [A2] at this;have:16^d<=16^5:=Bt (by decide) hd;lia
 .have nd:=h.nd;unfold List.Nodup at nd⊢;rw [List.pairwise_map] at nd⊢;refine List.Pairwise.imp_of_mem (fun{a b} ha hb' hne e=>hne ?_) nd;exact mR_ (by rw [(h.key a ha).1,(h.key b hb').1]) (hb a ha) (hb b hb') e
 .intro x hx;obtain⟨y,hy,rfl⟩:=Ac.mp hx;have:=pq_ (hb y hy);rw [(h.key y hy).1] at this;exact this
noncomputable def e1_ (t:List Int):List Key:=t.map Sum.inl
theorem gG_ (t:List Int):(e1_ t).map kV=t.map V.int:=by unfold e1_;rw [BW];rfl
theorem j1_:∀{t u:List Int},e1_ t=e1_ u->t=u
 |[],[],_=>rfl
 |[],_::_,h=>by simp [e1_] at h
 |_::_,[],h=>by simp [e1_] at h
 |x::t,y::u,h=>by
  simp only [e1_,AJ,List.cons.injEq,Sum.inl.injEq] at h;rw [h.1,j1_ (t:=t) (u:=u) h.2]
theorem gH_ {t u:List Int}:e1_ t=e1_ u↔t=u:=⟨j1_,fun e=>by rw [e]⟩
noncomputable def dG_ (D:Tab):List (List Key×V):=D.map fun x=>(e1_ x.1,V.int x.2)
theorem jl_ (D:Tab):(dG_ D).length=D.length:=by unfold dG_;rw [A2]
theorem jk_ (D:Tab) (k:List Int) (v:Int):dh_ (dG_ D) (e1_ k) (.int v)=dG_ (nc_ D k v):=by
 have e:((dG_ D).any fun kv=>decide (kv.1=e1_ k))=(D.any fun x=>decide (x.1=k)):=by
  unfold dG_;rw [List.any_map];congr 1
  funext x
  simp only [Function.comp,gH_]
 unfold dh_ nc_;rw [e];split
 .unfold dG_;rw [BW,BW];refine BA fun x _=> ?_;simp only [Function.comp,gH_];split<;>rfl
 .unfold dG_;rw [AA];rfl
theorem jj_ (D:Tab) (k:List Int):c4_ (dG_ D) (e1_ k)=(D.find? fun x=>decide (x.1=k)).map fun x=>V.int x.2:=by
 unfold c4_ dG_;rw [List.find?_map,Option.map_map];have:((fun kv:List Key×V=>decide (kv.1=e1_ k))∘fun x:List Int×Int=>(e1_ x.1,V.int x.2))=fun x=>decide (x.1=k):=by
  funext x
  simp only [Function.comp,gH_]
 rw [this];rfl
theorem nv_ (D:Tab) (k:List Int):(c4_ (dG_ D) (e1_ k)).getD (.int 0)= .int (ij_ D k):=by
 rw [jj_];unfold ij_;cases D.find? fun x=>decide (x.1=k)<;>rfl
theorem pN_ {D:Tab} (nd:(D.map (·.1)).Nodup) {x:List Int×Int} (h:x∈D):c4_ (dG_ D) (e1_ x.1)=some (.int x.2):=by
 rw [jj_];have:D.find? (fun y=>decide (y.1=x.1))=some x:=by
  induction D with
  |nil=>simp at h
  |cons y D ih=>
   rw [AJ,BY] at nd;rcases AK.mp h with rfl|h
   .simp
   .have:y.1≠x.1:=fun e=>nd.1 (Ac.mpr ⟨x,h,e.symm⟩);rw [BP,Ao this];exact ih nd.2 h
 rw [this];rfl
theorem lb_ (D:Tab):(dG_ D).map (·.2)=(D.map (·.2)).map V.int:=by unfold dG_;rw [BW,BW];rfl
noncomputable def prD (x:List Int×Int):D:= .t [tI x.1, .i x.2]
theorem oJ_ (l:List Lf) (x:Lf):(List.range l.length).countP (fun j=>decide (l.getD j (0,0,0)=x))=l.count x:=by
 have e:(List.range l.length).map (fun j=>l.getD j (0,0,0))=l:=by
  apply List.ext_getElem?;intro i;rw [A7];rcases BI i l.length with c|c
  .rw [List.getElem?_range c];simp [List.getD,c]
  .rw [List.getElem?_eq_none (by simpa using c),List.getElem?_eq_none c];rfl
 conv=>rhs;rw [<-e]
 rw [List.count,List.countP_map];congr 1
 funext j
 simp only [Function.comp];exact(Bool.beq_eq_decide_eq _ _).symm
theorem hW_:∀(l S:List Lf),S.Nodup->(S.map fun m=>l.count m).sum<=l.length
 |[],S,_=>by
  have:(S.map fun m=>List.count m ([]:List Lf))=S.map fun _=>0:=by simp
  rw [this];induction S with
  |nil=>simp
  |cons a S ih=>rename_i nd;simpa using ih (BY.mp nd).2
 |x::l,S,nd=>by
  have ih:=hW_ l S nd;have:(S.map fun m=>(x::l).count m).sum<=(S.map fun m=>l.count m).sum+1/\(x∉S->(S.map fun m=>(x::l).count m).sum=(S.map fun m=>l.count m).sum):=by
   clear ih;induction S with
   |nil=>simp
   |cons a S ih=>
    obtain⟨n1,n2⟩:=BY.mp nd;obtain⟨i1,i2⟩:=ih n2;simp only [AJ,B8];by_cases e:x=a
    .subst e;have:=i2 n1;rw [List.count_cons_self];exact⟨by lia,fun h=>absurd (by simp) h⟩
    .have e':List.count a (x::l)=List.count a l:=List.count_cons_of_ne e;rw [e'];exact⟨by lia,fun h=>by rw [i2 (fun z=>h (by simp [z]))]⟩
  rw [An];lia
theorem l3_ (j w:Int):∀n:Nat,((List.range n).map fun i:Nat=>if j=1+(i:Int) then w else 0).sum=if 1<=j/\j<=n then w else 0
 |0=>by
  have:¬(1<=j/\j<=((0:Nat):Int)):=by lia
  rw [A5 this];rfl
 |n+1=>by
  rw [B4,AA,Cn,l3_ j w n];simp only [AJ,Ct,B8,List.sum_nil];by_cases e:j=1+(n:Int)
  .rw [A5 (by lia),A6 e,A6 (by lia)];lia
  .rw [A5 e];by_cases c:1<=j/\j<=n
   .rw [A6 c,A6 (by lia)];lia
   .rw [A5 c,A5 (by lia)];rfl
theorem g7_ (f g h:Nat->Int):∀xs:List Nat,(xs.map fun i=>f i+g i-h i).sum=(xs.map f).sum+(xs.map g).sum-(xs.map h).sum
 |[]=>by simp
 |x::xs=>by
  simp only [AJ,B8,g7_ f g h xs];lia
theorem sN_ {d:Nat}:∀{ps:List Lf},(∀p∈ps,Okl d p)->((List.range d).map (eF ps)).sum=(d:Int)
 |[],_=>by
  have:(List.range d).map (eF [])=(List.range d).map fun _=>1:=by
   refine BA fun i _=> ?_;simp [eF,fn_,dl_]
  rw [this];induction d with
  |zero=>simp
  |succ d ih=>rw [B4,AA,Cn,ih (by intro p hp;exact nomatch hp) (by refine BA fun i _=> ?_;simp [eF,fn_,dl_])];simp
 |p::ps,h=>by
  have ih:=sN_ (d:=d) (ps:=ps) fun q hq=>h q (by simp [hq]);have e:(List.range d).map (eF (p::ps))=(List.range d).map fun i:Nat=>eF ps i+(if p.2.1=1+(i:Int) then p.2.2 else 0)-(if p.1=1+(i:Int) then p.2.2 else 0):=by
   refine BA fun i _=> ?_;unfold eF;rw [eh_,dD_];lia
  obtain⟨o1,o2,o3,o4⟩:=h p (by simp);rw [e,g7_,ih,l3_,l3_,A6 ⟨o3,o4⟩,A6 ⟨o1,o2⟩];lia
theorem kf_ (g:Nat->List Lf):∀xs:List Nat,(xs.flatMap g).length=(xs.map fun i=>(g i).length).sum
 |[]=>rfl
 |x::xs=>by rw [List.flatMap_cons,AF,kf_ g xs];rfl
theorem hT_ {d:Nat}{ps:List Lf} (ok:∀p∈ps,Okl d p) (h:∀i:Nat,i<d->0<=eF ps i):(e7_ d (bQ_ d ps)).length=d:=by
 have e1:((List.range d).map fun i=>((kQ_ d (bQ_ d ps) i).length:Int))=(List.range d).map (eF ps):=by
  refine BA fun i hi=> ?_;have hi:=As.mp hi;unfold kQ_;rw [B6,gR_ ok hi];have:=h i hi;lia
 have e2:∀xs:List Nat,(((xs.map fun i=>(kQ_ d (bQ_ d ps) i).length).sum:Nat):Int)=(xs.map fun i=>((kQ_ d (bQ_ d ps) i).length:Int)).sum:=fun xs=>by
  induction xs with
  |nil=>rfl
  |cons x xs ih=>simp only [AJ,B8] at ih⊢;lia
 have:=e2 (List.range d);rw [e1,sN_ ok] at this;unfold e7_;rw [kf_];lia
noncomputable def nN_ (d x n:Nat):List Pt:=(List.range n).map fun j:Nat=>((x:Int),(d:Int)-(x:Int)-(j:Int))
noncomputable def f9_ (d n:Nat):List Pt:=(List.range n).flatMap fun x=>nN_ d x (d+1-x)
noncomputable def bh_ (d:Nat):List Pt:=f9_ d (d+1)
theorem ft_ (d n:Nat):f9_ d (n+1)=f9_ d n++nN_ d n (d+1-n):=by unfold f9_;rw [B4,By,List.flatMap_singleton]
theorem lw_ (d x n:Nat):nN_ d x (n+1)=nN_ d x n++[((x:Int),(d:Int)-(x:Int)-(n:Int))]:=by unfold nN_;rw [B4,AA];rfl
theorem eL_ (d x n:Nat):(nN_ d x n).length=n:=by simp [nN_]
theorem lG_ (d n:Nat) (hn:n<=d+1) (hd:d<=5):(f9_ d n).length<=36:=by
 have:∀m,m<=6->(f9_ d m).length<=6*m:=fun m hm=>by
  induction m with
  |zero=>simp [f9_]
  |succ m ih=>
   have:=ih (by lia);rw [ft_,AF,eL_];lia
 have:=this n (by lia);lia
noncomputable def lvA {α:Type}:List α->Nat->List (List α)
 |row,0=>[row]
 |[],_+1=>[]
 |x::row,k+1=>(lvA row (k+1)).map (x:: ·)++lvA row k
theorem iO_ {α:Type}:∀(row:List α) (k:Nat),row.length<k->lvA row k=[]
 |_,0,h=>by lia
 |[],_+1,_=>rfl
 |x::row,k+1,h=>by
  simp only [An] at h;rw [lvA,iO_ row (k+1) (by lia),iO_ row k (by lia)];rfl
theorem hw_ {α:Type}:∀(row:List α) (k:Nat),(lvA row k).length<=2^row.length
 |[],0=>by simp [lvA]
 |[],_+1=>by simp [lvA]
 |x::row,0=>by
  rw [lvA];exact Nat.one_le_two_pow
 |x::row,k+1=>by
  rw [lvA,AF,A2,An,Nat.pow_succ];have h1:=hw_ row (k+1);have h2:=hw_ row k;lia
theorem gv_ {α:Type}:∀(row:List α) (k:Nat) (ws:List α),ws∈lvA row k->ws.length<=row.length
 |row,0,ws,h=>by
  have:ws=row:=by cases row<;>simpa [lvA] using h
  rw [this];exact A8 _
 |[],_+1,ws,h=>by simp [lvA] at h
 |x::row,k+1,ws,h=>by
  rw [lvA] at h;rcases B7.mp h with q|q
  .obtain⟨us,hu,rfl⟩:=Ac.mp q;have:=gv_ row (k+1) us hu;simp;lia
  .have:=gv_ row k ws q;simp;lia
noncomputable def kH_ (d:Nat):List Pt:=((bh_ d).drop 1).dropLast
noncomputable def p0 (d:Nat):Pt:=(0,(d:Int))
noncomputable def pl (d:Nat):Pt:=((d:Int),0)
noncomputable def c6_ (d k:Nat):List (List Pt):=(lvA (kH_ d) k).map fun w=>[p0 d]++w++[pl d]
noncomputable def cW (L:List (List Pt)) (i j:Nat):Option Bool:=L[i]?.bind fun x=>L[j]?.map fun y=>hx_ x y
noncomputable def oW (d k:Nat):Option (Array Nat):=nL_ (cW (c6_ d k)) (c6_ d k).length
noncomputable def sW (d k:Nat):List (List Pt):=if(c6_ d k).length<2 then c6_ d k else((oW d k).getD #[]).toList.map fun i=>(c6_ d k).getD i []
noncomputable def tZ_ (row:List Int):List Int:=[1]++((List.range (row.length-1)).map fun j=>row.getD j 0+row.getD (j+1) 0)++[1]
noncomputable def t0_:Nat->List Int
 |0=>[1]
 |n+1=>tZ_ (t0_ n)
noncomputable def uh_ (n k:Nat):Int:=if(t0_ n).length<=k then 0 else(t0_ n).getD k 0
noncomputable def plc (row:List Pt) (p:Pt):Nat:=row.idxOf p
noncomputable def uQ_ (row:List Pt):List Pt->Int->Bool
 |[],_=>true
 |p::w,m=>row.contains p&&decide (m<(plc row p:Int))&&uQ_ row w (plc row p)
noncomputable def ti_ (d k:Nat) (w:List Pt):Bool:=decide (w.length+k=(bh_ d).length)&&decide (w[0]? =some (p0 d))&&decide (w[w.length-1]? =some (pl d))&&uQ_ (bh_ d) w (-1)
noncomputable def tc_:List (List Pt)->Bool
 |x::y::r=>hx_ x y&&tc_ (y::r)
 |_=>true
noncomputable def nP_ (d k:Nat) (S:List (List Pt)):Bool:=decide ((c6_ d k).length<=1000)&&decide ((S.length:Int)=uh_ ((bh_ d).length-2) k)&&S.all (ti_ d k)&&tc_ S&&(c6_ d k).all fun w=>S.contains w
noncomputable def aL_ (d k:Nat):Prop:=1<=d/\((d<=3/\k<=6)\/(d=4/\k<=2))
noncomputable def cK_ (H0 H:Hp) (Wq:List (List V)) (vs:List V):Prop:=vs.length=Wq.length/\∀(i:Nat) ws,Wq[i]? =some ws->∃a,vs[i]? =some (.ref a)/\H0 a=none/\H a=some (.lst ws)
theorem cK_.nil {H0 H:Hp}:cK_ H0 H [] []:=⟨rfl,fun i ws h=>by simp at h⟩
theorem cK_.mono {H0 H0' H H':Hp}{Wq:List (List V)}{vs:List V} (h:cK_ H0 H Wq vs) (s0:ak_ H0' H0) (s:ak_ H H'):cK_ H0' H' Wq vs:=⟨h.1,fun i ws e=>by
 obtain⟨a,e1,e2,e3⟩:=h.2 i ws e;exact⟨a,e1,s0.free e2,s _ _ e3⟩⟩
theorem cK_.append {H0 H:Hp}{Wq W':List (List V)}{vs vs':List V} (h:cK_ H0 H Wq vs) (h':cK_ H0 H W' vs'):cK_ H0 H (Wq++W') (vs++vs'):=by
 refine⟨by rw [AF,AF,h.1,h'.1],fun i ws e=> ?_⟩;rcases BI i Wq.length with q|q
 .rw [BJ q] at e;rw [BJ (by rw [h.1];exact q)];exact h.2 i ws e
 .rw [BF q] at e;rw [BF (by rw [h.1];exact q),h.1];exact h'.2 _ ws e
theorem cK_.one {H0 H:Hp}{a:Addr}{ws:List V} (h0:H0 a=none) (h:H a=some (.lst ws)):cK_ H0 H [ws] [.ref a]:=⟨rfl,fun i us e=>by
 match i,e with
 |0,e=>cases e;exact⟨a,rfl,h0,h⟩
 |i+1,e=>simp at e⟩
noncomputable def upE (d:Nat):List Pt:=(List.range (d+1)).map fun i:Nat=>((i:Int),(d:Int)-(i:Int))
noncomputable def loE (d:Nat):List Pt:=((List.range (d+1)).map fun i:Nat=>((0:Int),(d:Int)-(i:Int)))++(List.range d).map fun i:Nat=>((1:Int)+(i:Int),(0:Int))
noncomputable abbrev Pc:=List Pt
noncomputable def zP:Pt:=(0,0)
noncomputable def crn (a b c:Pt):Int:=(b.1-a.1)*(c.2-b.2)-(b.2-a.2)*(c.1-b.1)
noncomputable def b6_ (ps:List Pt) (side:Int):Option Nat:=((List.range (ps.length-2)).find? fun i=>decide (crn (ps.getD i zP) (ps.getD (i+1) zP) (ps.getD (i+2) zP)*side>0)).map (· +1)
noncomputable def c2_ (a b c:Pt):Pt:=(a.1+c.1-b.1,a.2+c.2-b.2)
noncomputable def fD_ (d:Nat) (p:Pt):Bool:=decide (p.1>=0)&&(decide (p.2>=0)&&decide (p.1+p.2<=(d:Int)))
noncomputable def bl_ (d:Nat) (ps:List Pt) (side:Int):List (Pc×List Pt):=match b6_ ps side with
 |none=>[]
 |some p=>[([ps.getD (p-1) zP,ps.getD p zP,ps.getD (p+1) zP],ps.take p++ps.drop (p+1))]++
  if fD_ d (c2_ (ps.getD (p-1) zP) (ps.getD p zP) (ps.getD (p+1) zP))=true then [([ps.getD (p-1) zP,ps.getD p zP,ps.getD (p+1) zP,c2_ (ps.getD (p-1) zP) (ps.getD p zP) (ps.getD (p+1) zP)],ps.take p++[c2_ (ps.getD (p-1) zP) (ps.getD p zP) (ps.getD (p+1) zP)]++ps.drop (p+1))] else []
noncomputable def inB (p:Pt):Bool:=decide (-20<=p.1)&&decide (p.1<=20)&&decide (-20<=p.2)&&decide (p.2<=20)
noncomputable def psB (ps:List Pt):Bool:=ps.all inB&&decide (ps.length<=30)
noncomputable def pcD (c:Pc):D:= .t (c.map pt)
theorem tk_ {H H':Hp} (t:dq_ H H') {p:Pt}{v:V} (h:Is H (pt p) v):Is H' (pt p) v:=by
 obtain⟨a,rfl,ha⟩:=ob_ h;exact iT_ (t _ _ ha)
theorem k4_ {H H':Hp} (t:dq_ H H'):∀{ps:List Pt}{vs:List V},Iss H (ps.map pt) vs->Iss H' (ps.map pt) vs
 |[],_,h=>by rw [bf_ h];exact an_
 |p::ps,_,h=>by
  obtain⟨u,us,rfl,h1,h2⟩:=az_ h;exact ai_ (tk_ t h1) (k4_ t h2)
theorem rz_ {H H':Hp} (t:dq_ H H') {c:Pc}{v:V} (h:Is H (pcD c) v):Is H' (pcD c) v:=by
 obtain⟨a,vs,rfl,ha,hi⟩:=gq_ h;exact g1_ (t _ _ ha) (k4_ t hi)
theorem qw_ {H0 H:Hp} (s:ak_ H0 H):dq_ H (nw H0 H):=fun a xs e=>pb_ s e
theorem pc_ {H0 H:Hp}{ps:List Pt}{a:Addr} (s:ak_ H0 H) (n:H0 a=none) (h:Is H (pts ps) (.ref a)):Is (nw H0 H) (pts ps) (.ref a):=by
 obtain⟨_,vs,e,ha,hi⟩:=cI_ h;cases e;exact cu_ (by rw [ce_ n];exact ha) (k4_ (qw_ s) hi)
theorem qx_ {H0 H1 H2:Hp}{a:Addr} (n:H1 a=none) (s:ak_ H1 H2):ak_ (nw H0 H1) (hid (nw H0 H2) a):=fun b o e=>by
 have hb:b≠a:=by rintro rfl;rw [bF_ _ _ e] at n;cases n
 rw [dn_ hb];exact dz_ s b o e
theorem d2_ {ps:List Pt}{j:Nat} (h:j<ps.length):atI (ps.map pt) (j:Int)=some (pt (ps.getD j zP)):=by
 refine sC_ (j:=j) rfl ?_;rw [A7,A1 h,AG,A1 h];rfl
theorem b4_ {ps:List Pt}{j:Nat} (h:j<ps.length):ps.getD j zP∈ps:=by
 rw [AG,A1 h];exact Bn h
theorem lH_ {ps:List Pt} (h:psB ps=true):(∀p∈ps,-20<=p.1/\p.1<=20/\-20<=p.2/\p.2<=20)/\ps.length<=30:=by
 unfold psB inB at h;simp only [AC,AT,AV] at h;exact⟨fun p hp=>by have:=h.1 p hp;lia,h.2⟩
theorem hS_ {p:Nat->Bool}:∀{n i:Nat},i<n->(∀j<i,p j=false)->p i=true->(List.range n).find? p=some i
 |0,i,h,_,_=>absurd h (by lia)
 |n+1,i,h,hb,hp=>by
  rw [B4,List.find?_append];by_cases e:i=n
  .subst e;have:(List.range i).find? p=none:=by
    rw [List.find?_eq_none];intro j hj;rw [hb j (As.mp hj)];decide
   rw [this];simp [hp]
  .rw [hS_ (n:=n) (by lia) hb hp];rfl
theorem mO_ {p:Nat->Bool}{n:Nat} (h:∀j<n,p j=false):(List.range n).find? p=none:=by
 rw [List.find?_eq_none];intro j hj;rw [h j (As.mp hj)];decide
theorem fT_ {ps:List Pt}{s:Int}{p:Nat} (h:b6_ ps s=some p):1<=p/\p+1<ps.length:=by
 unfold b6_ at h;obtain⟨i,hi,rfl⟩:=A4.mp h;have:=As.mp (List.mem_of_find?_eq_some hi);lia
noncomputable def wkP (p:Pt):List Int:=[p.1,p.2]
noncomputable def wk (ps:List Pt):List (List Int):=ps.map wkP
theorem oR_ {a b:List Pt} (h:wk a=wk b):a=b:=by
 induction a generalizing b with
 |nil=>cases b with
  |nil=>rfl
  |cons=>cases h
 |cons p a ih=>cases b with
  |nil=>cases h
  |cons q b=>
   unfold wk at h;rw [AJ,AJ] at h;injection h with h1 h2;unfold wkP at h1;simp only [List.cons.injEq,and_true] at h1;rw [ih h2,Prod.ext h1.1 h1.2]
noncomputable def lam (p:Pt):Int:=10*p.1-p.2
noncomputable def a2_ (d:Nat) (ps:List Pt):Prop:=(∀p∈ps,fD_ d p=true)/\(ps.map lam).Pairwise (· < ·)
theorem bx_ {d:Nat}{p:Pt}:fD_ d p=true↔0<=p.1/\0<=p.2/\p.1+p.2<=d:=by
 unfold fD_;simp only [AC,AT,ge_iff_le]
noncomputable def arF:List Pt->Int
 |p::q::r=>(q.1-p.1)*(p.2+q.2)+arF (q::r)
 |_=>0
theorem l4_ {d:Nat}{p:Pt}{r:List Pt} (h:a2_ d (p::r)):a2_ d r:=⟨fun q hq=>h.1 q (AM _ hq),(Ad.mp (by simpa using h.2)).2⟩
theorem pa_ {d:Nat}{p q:Pt}{r:List Pt} (hd:d<=4) (h:a2_ d (p::q::r)):p.1<=q.1:=by
 have h1:=bx_.mp (h.1 p AI);have h2:=bx_.mp (h.1 q (AM _ AI));have h3:lam p<lam q:=by
  have:=h.2;rw [AJ,AJ] at this;exact(Ad.mp this).1 _ AI
 unfold lam at h3;lia
theorem pt_ {d:Nat} (hd:d<=4):∀{r:List Pt}{p:Pt},a2_ d (p::r)->arF (p::r)<=2*(d:Int)*((d:Int)-p.1)
 |[],p,h=>by
  have h1:=bx_.mp (h.1 p AI);show(0:Int)<=_;exact D1 (by lia) (by lia)
 |q::r,p,h=>by
  have h1:=bx_.mp (h.1 p AI);have h2:=bx_.mp (h.1 q (AM _ AI));have h3:=pa_ hd h;have ih:=pt_ hd (l4_ h);have e:(q.1-p.1)*(p.2+q.2)<=(q.1-p.1)*(2*(d:Int)):=Ci (by lia) (by lia);have e2:2*(d:Int)*((d:Int)-p.1)=(q.1-p.1)*(2*(d:Int))+2*(d:Int)*((d:Int)-q.1):=by
   rw [B' (q.1-p.1),<-Int.mul_add];congr 1
   lia
  show(q.1-p.1)*(p.2+q.2)+arF (q::r)<=_;lia
theorem m8_ {d:Nat} (hd:d<=4):∀{ps:List Pt},a2_ d ps->0<=arF ps
 |[],_=>Int.le_refl 0
 |[_],_=>Int.le_refl 0
 |p::q::r,h=>by
  have h1:=bx_.mp (h.1 p AI);have h2:=bx_.mp (h.1 q (AM _ AI));have h3:=pa_ hd h;have ih:=m8_ hd (l4_ h);have:=D1 (a:=q.1-p.1) (b:=p.2+q.2) (by lia) (by lia);show 0<=(q.1-p.1)*(p.2+q.2)+arF (q::r);lia
theorem pu_ {d:Nat} (hd:d<=4) {ps:List Pt} (h:a2_ d ps):arF ps<=32:=by
 cases ps with
 |nil=>show(0:Int)<=32;lia
 |cons p r=>
  have h1:=bx_.mp (h.1 p AI);have h2:=pt_ hd h;have h3:2*(d:Int)*((d:Int)-p.1)<=2*(d:Int)*4:=Ci (by lia) (by lia);lia
theorem i8_ (a:Pt) (r:List Pt):∀l:List Pt,arF (l++a::r)=arF (l++[a])+arF (a::r)
 |[]=>by show arF (a::r)=0+arF (a::r);lia
 |[p]=>by
  show(a.1-p.1)*(p.2+a.2)+arF (a::r)=(a.1-p.1)*(p.2+a.2)+0+arF (a::r);lia
 |p::q::l=>by
  have ih:=i8_ a r (q::l);show(q.1-p.1)*(p.2+q.2)+arF (q::l++a::r)=(q.1-p.1)*(p.2+q.2)+arF (q::l++[a])+arF (a::r);lia
theorem ei_ (l:List Pt) (a b c:Pt) (r:List Pt):arF (l++a::c::r)=arF (l++a::b::c::r)+crn a b c:=by
 rw [i8_ a (c::r) l,i8_ a (b::c::r) l];show _+((c.1-a.1)*(a.2+c.2)+arF (c::r))=_+((b.1-a.1)*(a.2+b.2)+((c.1-b.1)*(b.2+c.2)+arF (c::r)))+crn a b c;unfold crn;simp only [Int.sub_mul,Int.mul_add,Int.mul_sub];have:=B';rw [B' b.2 c.1,B' b.2 b.1,B' a.2 c.1,B' a.2 b.1];lia
theorem gY_ (l:List Pt) (a b c:Pt) (r:List Pt):arF (l++a::c2_ a b c::c::r)=arF (l++a::b::c::r)+2*crn a b c:=by
 have h1:=ei_ l a b c r;have h2:=ei_ l a (c2_ a b c) c r;have h3:crn a (c2_ a b c) c= -crn a b c:=by
  unfold crn c2_;simp only [Int.sub_mul,Int.mul_add,Int.mul_sub,Int.add_mul];rw [B' b.2 c.1,B' b.2 b.1,B' a.2 c.1,B' a.2 b.1,B' a.2 a.1,B' c.2 c.1,B' c.2 b.1,B' b.2 a.1,B' c.2 a.1];lia
 lia
theorem p8_ {L R:List Int}{A B C F:Int} (h:(L++A::B::C::R).Pairwise (· < ·)) (h1:A<F) (h2:F<C):(L++A::F::C::R).Pairwise (· < ·):=by
 rw [List.pairwise_append] at h⊢;obtain⟨hl,hr,hx⟩:=h;obtain⟨r1,hr⟩:=Ad.mp hr;obtain⟨r2,hr⟩:=Ad.mp hr;obtain⟨r3,hr⟩:=Ad.mp hr;refine⟨hl,Ad.mpr ⟨fun y hy=> ?_,Ad.mpr ⟨fun y hy=> ?_,Ad.mpr ⟨r3,hr⟩⟩⟩,fun x hx' y hy=> ?_⟩
 .rcases AK.mp hy with rfl|hy
  .exact h1
  .exact r1 y (AM _ hy)
 .rcases AK.mp hy with rfl|hy
  .exact h2
  .have:=r3 y hy;lia
 .rcases AK.mp hy with rfl|hy
  .exact hx x hx' _ AI
  rcases AK.mp hy with rfl|hy
  .have:=hx x hx' A AI;lia
  .exact hx x hx' y (AM _ (AM _ hy))
theorem tf_ {ps:List Pt}{p:Nat} (h1:1<=p) (h2:p+1<ps.length):∃l a b c r,ps=l++a::b::c::r/\p=l.length+1/\ps.getD (p-1) zP=a/\ps.getD p zP=b/\ps.getD (p+1) zP=c/\ps.take p=l++[a]/\ps.drop (p+1)=c::r:=by
 obtain⟨i,rfl⟩:∃i,p=i+1:=⟨p-1,by lia⟩;have e0:ps.drop i=ps[i]::ps[i+1]::ps[i+2]::ps.drop (i+3):=by
  rw [Ai (by lia),Ai (by lia),Ai (by lia)]
 have e1:ps=ps.take i++ps[i]::ps[i+1]::ps[i+2]::ps.drop (i+3):=by rw [<-e0,List.take_append_drop]
 refine⟨ps.take i,ps[i],ps[i+1],ps[i+2],ps.drop (i+3),e1,by rw [Am];lia, ?_, ?_, ?_, ?_, ?_⟩
 .simp [List.getD,show i<ps.length by lia]
 .simp [List.getD,show i+1<ps.length by lia]
 .simp [List.getD,show i+1+1<ps.length by lia]
 .rw [Aa,A1 (by lia)];rfl
 .rw [Ai (by lia)]
theorem k3_ {ps:List Pt}{p:Nat} (h:b6_ ps 1=some p):(1<=p/\p+1<ps.length)/\0<crn (ps.getD (p-1) zP) (ps.getD p zP) (ps.getD (p+1) zP):=by
 refine⟨fT_ h, ?_⟩;unfold b6_ at h;obtain⟨i,hi,rfl⟩:=A4.mp h;have:=List.find?_some hi;rw [AT] at this;show 0<crn (ps.getD i zP) (ps.getD (i+1) zP) (ps.getD (i+2) zP);lia
theorem l8_ {d:Nat}{l r:List Pt}{a b c:Pt} (h:a2_ d (l++a::b::c::r)):a2_ d (l++a::c::r):=by
 have s:(l++a::c::r).Sublist (l++a::b::c::r):=List.Sublist.append_left (List.Sublist.cons₂ a (List.sublist_cons_self b _)) l;exact⟨fun p hp=>h.1 p (s.subset hp),h.2.sublist (s.map lam)⟩
theorem l6_ {d:Nat}{l r:List Pt}{a b c:Pt} (h:a2_ d (l++a::b::c::r)) (hf:fD_ d (c2_ a b c)=true):a2_ d (l++a::c2_ a b c::c::r):=by
 refine⟨fun p hp=> ?_, ?_⟩
 .have:p∈l++a::b::c::r\/p=c2_ a b c:=by
   rcases B7.mp hp with hp|hp
   .exact .inl (Bu _ hp)
   rcases AK.mp hp with hp|hp
   .exact .inl (Ah _ (by rw [hp];exact AI))
   rcases AK.mp hp with hp|hp
   .exact .inr hp
   .exact .inl (Ah _ (AM _ (AM _ hp)))
  rcases this with hp|hp
  .exact h.1 p hp
  .rw [hp];exact hf
 .have h2:=h.2;rw [AA,AJ,AJ,AJ] at h2⊢;obtain⟨_,hr,_⟩:=List.pairwise_append.mp h2;obtain⟨r1,hr⟩:=Ad.mp hr;obtain⟨r2,hr⟩:=Ad.mp hr;have e1:=r1 (lam b) AI;have e2:=r2 (lam c) AI;refine p8_ h2 ?_ ?_
  .unfold lam c2_ at*;dsimp only at*;lia
  .unfold lam c2_ at*;dsimp only at*;lia
theorem pV_ {d:Nat}{ps:List Pt} (h:a2_ d ps) {x:Pc×List Pt} (hx:x∈bl_ d ps 1):a2_ d x.2/\arF ps+1<=arF x.2/\x.2.length<=ps.length:=by
 unfold bl_ at hx;cases hT:b6_ ps 1 with
 |none=>rw [hT] at hx;exact nomatch hx
 |some p=>
  rw [hT] at hx;dsimp only at hx;obtain⟨⟨p1,p2⟩,hc⟩:=k3_ hT;obtain⟨l,a,b,c,r,e,ep,ga,gb,gc,et,ed⟩:=tf_ p1 p2;rw [ga,gb,gc,et,ed] at hx;rw [ga,gb,gc] at hc;have hl:=Bg List.length e;rw [e] at h;rcases B7.mp hx with hx|hx
  .rw [AU.mp hx];have ea:l++[a]++c::r=l++a::c::r:=by simp
   dsimp only;rw [ea];refine⟨l8_ h, ?_, ?_⟩
   .have:=ei_ l a b c r;rw [e];lia
   .simp at hl⊢;lia
  .cases hP:fD_ d (c2_ a b c) with
   |false=>rw [hP] at hx;simp at hx
   |true=>
    rw [hP,A6 rfl] at hx;rw [AU.mp hx];have ea:l++[a]++[c2_ a b c]++c::r=l++a::c2_ a b c::c::r:=by simp
    dsimp only;rw [ea];refine⟨l6_ h hP, ?_, ?_⟩
    .have:=gY_ l a b c r;rw [e];lia
    .simp at hl⊢;lia
noncomputable def abI (i:Int):Int:=if i<0 then -i else i
noncomputable def pwF (c:Pc):Int:=if c.length=3 then abI (crn (c.getD 0 zP) (c.getD 1 zP) (c.getD 2 zP)) else 1
noncomputable def wF (d:Nat):Nat->List Pt->Int
 |0,_=>0
 |n+1,ps=>if ps=upE d then 1 else((bl_ d ps 1).map fun x=>pwF x.1*wF d n x.2).sum
section
variable {κ:Type} [DecidableEq κ]
end
theorem qA_ {α:Type} [DecidableEq α]:∀{l L:List α},l.Nodup->(∀x∈l,x∈L)->l.length<=L.length
 |[],L,_,_=>AS _
 |x::r,L,nd,h=>by
  rw [BY] at nd;have hx:x∈L:=h x AI;have:=qA_ (L:=L.erase x) nd.2 fun y hy=>(List.mem_erase_of_ne fun e:y=x=>nd.1 (e▸hy)).mpr (h y (AM _ hy));rw [List.length_erase_of_mem hx] at this;have:=List.length_pos_of_mem hx;rw [An];lia
noncomputable def pU_:List Pt->List (List Pt)
 |[]=>[[]]
 |x::r=>pU_ r++(pU_ r).map (x:: ·)
theorem jn_:∀r:List Pt,(pU_ r).length=2^r.length
 |[]=>rfl
 |x::r=>by
  unfold pU_;rw [AF,A2,jn_ r,An,Nat.pow_succ];lia
theorem gK_:∀{row ps:List Pt},(row.map lam).Pairwise (· < ·)->(ps.map lam).Pairwise (· < ·)->(∀p∈ps,p∈row)->ps∈pU_ row
 |[],[],_,_,_=>AU.mpr rfl
 |[],p::r,_,_,h=>absurd (h p AI) (by simp)
 |x::row,ps,h1,h2,h3=>by
  rw [AJ] at h1;obtain⟨hx,h1⟩:=Ad.mp h1;unfold pU_;cases ps with
  |nil=>exact Bu _ (gK_ h1 h2 fun p hp=>nomatch hp)
  |cons p r=>
   rw [AJ] at h2;obtain⟨hp,h2⟩:=Ad.mp h2;have far:∀q∈r,q∈row:=fun q hq=>by
    rcases AK.mp (h3 q (AM _ hq)) with e|e
    .exfalso;have a1:=hp (lam q) (Ac.mpr ⟨q,hq,rfl⟩);rcases AK.mp (h3 p AI) with e2|e2
     .rw [e,e2] at a1;lia
     .have:=hx (lam p) (Ac.mpr ⟨p,e2,rfl⟩);rw [e] at a1;lia
    .exact e
   rcases AK.mp (h3 p AI) with e|e
   .rw [e];exact Ah _ (Ac.mpr ⟨r,gK_ h1 h2 far,rfl⟩)
   .refine Bu _ (gK_ h1 (by rw [AJ];exact Ad.mpr ⟨hp,h2⟩) fun q hq=> ?_);rcases AK.mp hq with rfl|hq
    .exact e
    .exact far q hq
noncomputable def ptB:Bool:=(List.range 5).all fun d=>((bh_ d).map lam).Pairwise (· < ·)&&decide ((bh_ d).length<=15)&&(bh_ d).all (fD_ d)&&(List.range 5).all fun x=>(List.range 5).all fun y=> !decide (x+y<=d)||(bh_ d).contains ((x:Int),(y:Int))
theorem r3_:ptB=true:=by ac_nf
theorem o4_ {d:Nat} (hd:d<=4):a2_ d (bh_ d)/\(bh_ d).length<=15/\∀p,fD_ d p=true->p∈bh_ d:=by
 have h:=r3_;unfold ptB at h;rw [AV] at h;have h:=h d (As.mpr (by lia));simp only [AC,AT,AV] at h;obtain⟨⟨⟨h1,h2⟩,h3⟩,h4⟩:=h;refine⟨⟨h3,h1⟩,h2,fun p hp=> ?_⟩;obtain⟨p1,p2,p3⟩:=bx_.mp hp;have h4:=h4 p.1.toNat (As.mpr (by lia)) p.2.toNat (As.mpr (by lia));rw [C3,Bool.not_eq_true',decide_eq_false_iff_not] at h4;have h4:=h4.resolve_left (by lia);rw [List.contains_iff_mem] at h4;have e:((p.1.toNat:Int),(p.2.toNat:Int))=p:=Prod.ext (show((p.1.toNat:Int))=p.1 by lia) (show((p.2.toNat:Int))=p.2 by lia)
 rwa [e] at h4
theorem pM_ {d:Nat} (hd:d<=4) {R:List (List (List Int)×Int)} (nd:(R.map (·.1)).Nodup) (h:∀x∈R,∃ps,a2_ d ps/\x.1=wk ps):R.length<=32768:=by
 obtain⟨h1,h2,h3⟩:=o4_ hd;have e:(R.map (·.1)).length<=((pU_ (bh_ d)).map wk).length:=qA_ nd fun k hk=>by
  obtain⟨x,hx,rfl⟩:=Ac.mp hk;obtain⟨ps,ok,e⟩:=h x hx;rw [e];exact Ac.mpr ⟨ps,gK_ h1.2 ok.2 fun p hp=>h3 p (ok.1 p hp),rfl⟩
 rw [A2,A2,jn_] at e;have:2^(bh_ d).length<=2^15:=Bt (by decide) h2;lia
theorem pD_ {d:Nat} (hd:d<=4) {ps:List Pt} (h:a2_ d ps):ps.length<=15:=by
 obtain⟨h1,h2,h3⟩:=o4_ hd;have nd:ps.Nodup:=List.Pairwise.of_map lam (fun a b hab e=>by rw [e] at hab;lia) h.2;have:=qA_ nd fun p hp=>h3 p (h.1 p hp);lia
theorem pC_ {d:Nat} (hd:d<=4) {ps:List Pt} (h:a2_ d ps):psB ps=true:=by
 unfold psB inB;simp only [AC,AT,AV];refine⟨fun p hp=> ?_,by have:=pD_ hd h;lia⟩;have:=bx_.mp (h.1 p hp);lia
noncomputable def upB:Bool:=(List.range 5).all fun d=>decide (((upE d).map lam).Pairwise (· < ·))&&(upE d).all (fD_ d)&&decide (b6_ (upE d) 1=none)
theorem ry_:upB=true:=by ac_nf
theorem rx_ {d:Nat} (hd:d<=4):a2_ d (upE d)/\b6_ (upE d) 1=none:=by
 have h:=ry_;unfold upB at h;rw [AV] at h;have h:=h d (As.mpr (by lia));simp only [AC,AT,AV] at h;exact⟨⟨h.1.2,h.1.1⟩,h.2⟩
theorem jf_ {ps:List Pt}{p:Nat} (h:b6_ ps (-1)=some p):(1<=p/\p+1<ps.length)/\crn (ps.getD (p-1) zP) (ps.getD p zP) (ps.getD (p+1) zP)<0:=by
 refine⟨fT_ h, ?_⟩;unfold b6_ at h;obtain⟨i,hi,rfl⟩:=A4.mp h;have:=List.find?_some hi;rw [AT] at this;show crn (ps.getD i zP) (ps.getD (i+1) zP) (ps.getD (i+2) zP)<0;lia
theorem nB_ {d:Nat}{ps:List Pt} (h:a2_ d ps) {x:Pc×List Pt} (hx:x∈bl_ d ps (-1)):a2_ d x.2/\arF x.2+1<=arF ps/\x.2.length<=ps.length:=by
 unfold bl_ at hx;cases hT:b6_ ps (-1) with
 |none=>rw [hT] at hx;exact nomatch hx
 |some p=>
  rw [hT] at hx;dsimp only at hx;obtain⟨⟨p1,p2⟩,hc⟩:=jf_ hT;obtain⟨l,a,b,c,r,e,ep,ga,gb,gc,et,ed⟩:=tf_ p1 p2;rw [ga,gb,gc,et,ed] at hx;rw [ga,gb,gc] at hc;have hl:=Bg List.length e;rw [e] at h;rcases B7.mp hx with hx|hx
  .rw [AU.mp hx];have ea:l++[a]++c::r=l++a::c::r:=by simp
   dsimp only;rw [ea];refine⟨l8_ h, ?_, ?_⟩
   .have:=ei_ l a b c r;rw [e];lia
   .simp at hl⊢;lia
  .cases hP:fD_ d (c2_ a b c) with
   |false=>rw [hP] at hx;simp at hx
   |true=>
    rw [hP,A6 rfl] at hx;rw [AU.mp hx];have ea:l++[a]++[c2_ a b c]++c::r=l++a::c2_ a b c::c::r:=by simp
    dsimp only;rw [ea];refine⟨l6_ h hP, ?_, ?_⟩
    .have:=gY_ l a b c r;rw [e];lia
    .simp at hl⊢;lia
noncomputable def loB:Bool:=(List.range 5).all fun d=>decide (((loE d).map lam).Pairwise (· < ·))&&(loE d).all (fD_ d)&&decide (b6_ (loE d) (-1)=none)
theorem st_:loB=true:=by ac_nf
theorem ss_ {d:Nat} (hd:d<=4):a2_ d (loE d)/\b6_ (loE d) (-1)=none:=by
 have h:=st_;unfold loB at h;rw [AV] at h;have h:=h d (As.mpr (by lia));simp only [AC,AT,AV] at h;exact⟨⟨h.1.2,h.1.1⟩,h.2⟩
noncomputable def s2_ (d:Nat) (w:List Pt):Bool:=w.all (fD_ d)&&decide ((w.map lam).Pairwise (· < ·))
theorem rw_ {d:Nat}{w:List Pt} (h:s2_ d w=true):a2_ d w:=by
 unfold s2_ at h;simp only [AC,AT,AV] at h;exact h
noncomputable def Tr (low:Int) (ns:List Int) (lo:Int) (zs:List Int):Prop:=
 (zs=[]/\lo=0/\∀z∈ns,z=0)\/∃a b:Nat,ns=List.replicate a 0++zs++List.replicate b 0/\lo=low+a/\zs.head? ≠some 0/\zs.getLast? ≠some 0/\zs≠[]
theorem jy_ {a a':Nat}{xs ys:List Int} (h:List.replicate a (0:Int)++xs=List.replicate a' 0++ys) (hx:xs.head? ≠some 0) (hxn:xs≠[]) (hy:ys.head? ≠some 0) (hyn:ys≠[]):a=a'/\xs=ys:=by
 induction a generalizing a' with
 |zero=>
  cases a' with
  |zero=>exact⟨rfl,by simpa using h⟩
  |succ n=>
   rw [Ap] at h;simp only [List.replicate_zero,List.nil_append,CH] at h;subst h;simp at hx
 |succ m ih=>
  cases a' with
  |zero=>
   rw [Ap] at h;simp only [List.replicate_zero,List.nil_append,CH] at h;subst h;simp at hy
  |succ n=>
   rw [Ap,Ap] at h;simp only [CH,List.cons.injEq,true_and] at h;obtain⟨e,f⟩:=ih h;exact⟨by lia,f⟩
theorem nQ_ {b b':Nat}{xs ys:List Int} (h:xs++List.replicate b (0:Int)=ys++List.replicate b' 0) (hx:xs.getLast? ≠some 0) (hxn:xs≠[]) (hy:ys.getLast? ≠some 0) (hyn:ys≠[]):xs=ys:=by
 have h':=Bg List.reverse h;simp only [List.reverse_append,List.reverse_replicate] at h';have:=(jy_ h' (by simpa using hx) (by simpa using hxn) (by simpa using hy) (by simpa using hyn)).2;exact List.reverse_inj.mp this
theorem Tr.unique {low lo lo':Int}{ns zs zs':List Int} (h:Tr low ns lo zs) (h':Tr low ns lo' zs'):lo=lo'/\zs=zs':=by
 have key:∀{lo:Int}{zs:List Int},(∃a b:Nat,ns=List.replicate a 0++zs++List.replicate b 0/\lo=low+a/\zs.head? ≠some 0/\zs.getLast? ≠some 0/\zs≠[])->¬∀z∈ns,z=0:=by
  rintro lo zs ⟨a,b,e,-,h1,-,h2⟩ hz;cases zs with
  |nil=>exact h2 rfl
  |cons z r=>
   have:z=0:=hz z (by rw [e];simp);subst this;simp at h1
 rcases h with⟨e1,e2,e3⟩|h
 .rcases h' with⟨f1,f2,f3⟩|h'
  .exact⟨by lia,by rw [e1,f1]⟩
  .exact absurd e3 (key h')
 .rcases h' with⟨f1,f2,f3⟩|h'
  .exact absurd f3 (key h)
  .obtain⟨a,b,e,e2,e3,e4,e5⟩:=h;obtain⟨a',b',f,f2,f3,f4,f5⟩:=h';rw [e,BB,BB] at f;have hh:∀{zs:List Int}{b:Nat},zs.head? ≠some 0->zs≠[]->(zs++List.replicate b (0:Int)).head? ≠some 0:=fun{zs b} h1 h2=>by
    cases zs with
    |nil=>exact absurd rfl h2
    |cons z r=>simpa using h1
   obtain⟨ea,eb⟩:=jy_ f (hh e3 e5) (by simp [e5]) (hh f3 f5) (by simp [f5]);exact⟨by rw [e2,f2,ea],nQ_ eb e4 e5 f4 f5⟩
theorem Tr.self {low:Int}{zs:List Int} (h1:zs.head? ≠some 0) (h2:zs.getLast? ≠some 0) (h3:zs≠[]):Tr low zs low zs:= .inr ⟨0,0,by simp,by simp,h1,h2,h3⟩
noncomputable def uS_ (ns:List Int) (n:Nat):List Nat:=(List.range n).filter fun k=>decide (ns.getD k 0≠0)
theorem js_ {low:Int}{ns ks:List Int}{b i:Nat} (h:ns=ks++List.replicate b 0) (hl:ks.getLast? ≠some 0) (hi:i<ks.length) (ht:ks.take i=List.replicate i 0) (hx:ks.getD i 0≠0):Tr low ns (low+i) (ks.drop i):=by
 refine .inr ⟨i,b, ?_,rfl, ?_, ?_, ?_⟩
 .rw [h,<-ht,List.take_append_drop]
 .rw [List.head?_drop];intro z;exact hx (by rw [List.getD,z];rfl)
 .rw [List.getLast?_drop,A5 (by lia)];exact hl
 .intro z;have:=Bg List.length z;simp at this;lia
theorem la_ {ks:List Int}{i:Nat} (hi:i<ks.length) (ht:ks.take i=List.replicate i 0) (hx:ks.getD i 0=0):ks.take (i+1)=List.replicate (i+1) 0:=by
 have e:ks[i]=0:=by simpa [List.getD,hi] using hx
 rw [Aa,ht,A1 hi,e,List.replicate_succ'];rfl
theorem oc_ {ks:List Int}{i:Nat} (hi:i<ks.length) (hl:ks.getLast? ≠some 0) (hx:ks.getD i 0=0):i+1<ks.length:=by
 by_cases h:i+1<ks.length
 .exact h
 .exfalso;refine hl ?_;rw [List.getLast?_eq_getElem?,show ks.length-1=i by lia,A1 hi];simpa [List.getD,hi] using hx
theorem i0_ {ns cs:List Int}{b:Nat}{z:Int} (h:ns=cs++[z]++List.replicate b 0) (hz:z=0):ns=cs++List.replicate (b+1) 0:=by
 rw [h,hz,Ap];simp
noncomputable def bC_:List Int->Nat->List Int->List Int
 |[],_,_=>[]
 |t::ts,p+1,zs=>t::bC_ ts p zs
 |t::ts,0,[]=>t::ts
 |t::ts,0,z::zs=>(t+z)::bC_ ts 0 zs
theorem aP_:∀(ts:List Int) (p:Nat) (zs:List Int),(bC_ ts p zs).length=ts.length
 |[],_,_=>rfl
 |t::ts,p+1,zs=>by simp [bC_,aP_ ts p zs]
 |t::ts,0,[]=>rfl
 |t::ts,0,z::zs=>by simp [bC_,aP_ ts 0 zs]
theorem fb_:∀(ts:List Int) (p:Nat),bC_ ts p []=ts
 |[],_=>rfl
 |t::ts,p+1=>by simp [bC_,fb_ ts p]
 |t::ts,0=>rfl
theorem da_:∀(ts:List Int) (p:Nat) (ws:List Int) (z:Int),p+ws.length<ts.length->(bC_ ts p ws).set (p+ws.length) ((bC_ ts p ws).getD (p+ws.length) 0+z)=bC_ ts p (ws++[z])
 |[],_,_,_,h=>by simp at h
 |t::ts,p+1,ws,z,h=>by
  have:=da_ ts p ws z (by simp at h;lia);rw [show p+1+ws.length=p+ws.length+1 by lia];simp only [bC_,List.set_cons_succ,Cq];rw [this]
 |t::ts,0,[],z,h=>by
  cases ts<;>simp [bC_]
 |t::ts,0,w::ws,z,h=>by
  have:=da_ ts 0 ws z (by simp at h⊢;lia);rw [Nat.zero_add] at this;simp only [bC_,An,Nat.zero_add,List.set_cons_succ,Cq,CH];rw [this]
noncomputable def cv (xs ys:List Int):Nat->List Int
 |0=>List.replicate (xs.length+ys.length) 0
 |i+1=>bC_ (cv xs ys i) i (ys.map (xs.getD i 0* ·))
theorem dZ_ (xs ys:List Int):∀i,(cv xs ys i).length=xs.length+ys.length
 |0=>by simp [cv]
 |i+1=>by rw [cv,aP_,dZ_ xs ys i]
noncomputable def ny_ (xs ys:List Int):List Int:=bC_ (bC_ (List.replicate (max xs.length ys.length) 0) 0 xs) 0 ys
noncomputable def eD_ (low:Int) (ns:List Int):Int×List Int:=
 let ks:=(ns.reverse.dropWhile (· ==0)).reverse
 let a:=(ks.takeWhile (· ==0)).length
 if ks.isEmpty then(0,[]) else(low+a,ks.drop a)
noncomputable def a9_ (x y:Int×List Int):Int×List Int:=
 if x.2.isEmpty then eD_ y.1 y.2 else if y.2.isEmpty then eD_ x.1 x.2 else
  let low:=if y.1<x.1 then y.1 else x.1
  eD_ low (ny_ (List.replicate (x.1-low).toNat 0++x.2) (List.replicate (y.1-low).toNat 0++y.2))
noncomputable def bO_ (x y:Int×List Int):Int×List Int:=eD_ (x.1+y.1) (cv x.2 y.2 x.2.length)
theorem iZ_ {p:Int->Bool}:∀{l:List Int}{x:Int},(l.dropWhile p).head? =some x->p x=false
 |[],_,h=>by simp at h
 |y::l,x,h=>by
  rw [List.dropWhile_cons] at h;by_cases hp:p y=true
  .rw [A6 hp] at h;exact iZ_ h
  .rw [A5 hp] at h;simp at h;subst h;simpa using hp
theorem oT_:∀(l:List Int),l.takeWhile (· ==0)=List.replicate (l.takeWhile (· ==0)).length 0:=fun l=>by
 refine List.eq_replicate_iff.mpr ⟨rfl,fun b hb=> ?_⟩;induction l with
 |nil=>simp at hb
 |cons y l ih=>
  rw [List.takeWhile_cons] at hb;by_cases hp:(y==0)=true
  .rw [A6 hp] at hb;rcases AK.mp hb with e|e
   .rw [e];exact CC.mp hp
   .exact ih e
  .rw [A5 hp] at hb;simp at hb
theorem pH_ (l:List Int):l.drop (l.takeWhile (· ==0)).length=l.dropWhile (· ==0):=by
 induction l with
 |nil=>rfl
 |cons y l ih=>
  rw [List.takeWhile_cons,List.dropWhile_cons];by_cases hp:(y==0)=true
  .rw [A6 hp,A6 hp];exact ih
  .rw [A5 hp,A5 hp];rfl
theorem pG_ (l:List Int):l.take (l.takeWhile (· ==0)).length=l.takeWhile (· ==0):=by
 induction l with
 |nil=>rfl
 |cons y l ih=>
  rw [List.takeWhile_cons];by_cases hp:(y==0)=true
  .rw [A6 hp];simp [ih]
  .rw [A5 hp];rfl
theorem jg_ (low:Int) (ns:List Int):Tr low ns (eD_ low ns).1 (eD_ low ns).2:=by
 have hb:ns=(ns.reverse.dropWhile (· ==0)).reverse++List.replicate (ns.reverse.takeWhile (· ==0)).length 0:=by
  have e:=Bg List.reverse (List.takeWhile_append_dropWhile (p:=(· ==(0:Int))) (l:=ns.reverse));rw [List.reverse_append,List.reverse_reverse,oT_ ns.reverse,List.reverse_replicate] at e;exact e.symm
 have hd:∀x,(ns.reverse.dropWhile (· ==0)).head? =some x->(x==0)=false:=fun x h=>iZ_ (p:=fun x=>x==0) h;unfold eD_;dsimp only;generalize (ns.reverse.dropWhile (· ==0))=ds at hb hd⊢;generalize (ns.reverse.takeWhile (· ==0)).length=b at hb;by_cases hk:ds.reverse.isEmpty=true
 .rw [A6 hk];rw [List.isEmpty_iff.mp hk] at hb;refine .inl ⟨rfl,rfl,fun z hz=> ?_⟩;rw [hb] at hz;exact List.eq_of_mem_replicate (by simpa using hz)
 .rw [A5 hk];have hl:ds.reverse.getLast? ≠some 0:=fun z=>by
   rw [List.getLast?_reverse] at z;have:=hd 0 z;simp at this
  have hn:ds.reverse≠[]:=fun z=>hk (by rw [z];rfl);generalize ds.reverse=ks at hb hl hn⊢;have hle:(ks.takeWhile (· ==0)).length<=ks.length:=(List.takeWhile_prefix (· ==0)).length_le;have ht:ks.take (ks.takeWhile (· ==0)).length=List.replicate (ks.takeWhile (· ==0)).length 0:=by rw [pG_];exact oT_ ks
  have hi:(ks.takeWhile (· ==0)).length<ks.length:=by
   rcases BI (ks.takeWhile (· ==0)).length ks.length with h|h
   .exact h
   .exfalso;rw [C0 h] at ht;refine hl ?_;rw [ht,List.getLast?_replicate,A5];intro z;rw [z] at ht;exact hn ht
  refine js_ hb hl hi ht ?_;intro z;have e:(ks.dropWhile (· ==0)).head? =some 0:=by
   rw [<-pH_,List.head?_drop,A1 hi];simpa [List.getD,hi] using z
  have:=iZ_ (p:=fun x=>x==0) e;simp at this
theorem Tr.toC {low lo:Int}{ns zs:List Int} (h:Tr low ns lo zs):(lo,zs)=eD_ low ns:=by
 obtain⟨e1,e2⟩:=h.unique (jg_ low ns);exact Prod.ext e1 e2
noncomputable def bo_ (w:Nat):List Int:=(List.range (2*w-1)).map fun p=>1-((p:Nat):Int)%2
noncomputable def aS_ (w:Nat):Int×List Int:=(1-(w:Int),bo_ w)
theorem li_ (w:Nat):(bo_ w).length=2*w-1:=by simp [bo_]
theorem oY_ {w i:Nat} (h:i<2*w-1):(bo_ w).getD i 0=1-(i:Int)%2:=by
 simp [bo_,List.getD,h]
theorem tv_ {w:Nat} (h:1<=w) {low:Int}:Tr low (bo_ w) low (bo_ w):=by
 have l:=li_ w;refine Tr.self ?_ ?_ ?_
 .rw [List.head?_eq_getElem?];intro z;have g:=oY_ (w:=w) (i:=0) (by lia);rw [List.getD,z] at g;simp at g
 .rw [List.getLast?_eq_getElem?];intro z;have g:=oY_ (w:=w) (i:=(bo_ w).length-1) (by lia);rw [List.getD,z] at g;simp only [Option.getD_some] at g;lia
 .intro z;rw [z] at l;simp at l;lia
theorem nC_ {w:Nat}:∀x∈bo_ w,-100<=x/\x<=100:=fun x hx=>by
 obtain⟨p,_,e⟩:=Ac.mp hx;lia
noncomputable abbrev Sh:=Int×List Int
noncomputable def zer:Sh:=(0,[])
noncomputable def ofN (n:Int):Sh:=eD_ 0 [n]
noncomputable def s6_ (ws:List Int):Sh:=ws.foldl (fun t w=>bO_ t (aS_ w.toNat)) (ofN 1)
noncomputable def Sup (a b:Int) (s:Sh):Prop:= -a<=s.1/\s.1+s.2.length<=b+1
theorem Sup.mono {a b a' b':Int}{s:Sh} (h:Sup a b s) (h1:a<=a') (h2:b<=b'):Sup a' b' s:=by unfold Sup at*;lia
theorem dH_ {a b low:Int}{ns:List Int} (a0:0<=a) (b0:0<=b) (h1: -a<=low) (h2:low+ns.length<=b+1):Sup a b (eD_ low ns):=by
 have t:=jg_ low ns;generalize eD_ low ns=s at t⊢;unfold Sup;rcases t with⟨e,e2,_⟩|⟨p,q,e,e2,_⟩
 .rw [e,e2];simp;lia
 .have l:=Bg List.length e;simp at l;lia
theorem eF_ {a b c d:Int}{x y:Sh} (a0:0<=a) (b0:0<=b) (c0:0<=c) (d0:0<=d) (hx:Sup a b x) (hy:Sup c d y):Sup (a+c) (b+d+1) (bO_ x y):=by
 unfold bO_;unfold Sup at hx hy;refine dH_ (by lia) (by lia) (by lia) ?_;rw [dZ_];lia
theorem nx_ (xs ys:List Int):(ny_ xs ys).length=max xs.length ys.length:=by unfold ny_;rw [aP_,aP_,B6]
theorem le_ {a b:Int}{x y:Sh} (a0:0<=a) (b0:0<=b) (hx:Sup a b x) (hy:Sup a b y):Sup a b (a9_ x y):=by
 unfold a9_;unfold Sup at hx hy;split
 .exact dH_ a0 b0 (by lia) (by lia)
 split
 .exact dH_ a0 b0 (by lia) (by lia)
 .have hl:(if y.1<x.1 then y.1 else x.1)<=x.1/\(if y.1<x.1 then y.1 else x.1)<=y.1/\-a<=(if y.1<x.1 then y.1 else x.1):=by split<;>lia
  dsimp only;generalize (if y.1<x.1 then y.1 else x.1)=low at hl⊢;refine dH_ a0 b0 (by lia) ?_;rw [nx_,AF,AF,B6,B6];lia
theorem jm_ {w:Nat} (h:1<=w):Sup (w-1) (w-1) (aS_ w):=by
 unfold Sup aS_;dsimp only;rw [li_];lia
theorem ld_ {a b:Int} (a0:0<=a) (b0:0<=b):Sup a b zer:=by unfold Sup zer;simp;lia
theorem fX_ {α:Type}{a b:Int} (a0:0<=a) (b0:0<=b) {f:α->Sh}:∀{l:List α}{t:Sh},Sup a b t->(∀x∈l,Sup a b (f x))->Sup a b (l.foldl (fun t x=>a9_ t (f x)) t)
 |[],_,h,_=>h
 |x::l,_,h,hl=>fX_ a0 b0 (l:=l) (le_ a0 b0 h (hl x AI)) fun y hy=>hl y (AM _ hy)
theorem pS_ (n:Int):Sup 0 0 (ofN n):=dH_ (by lia) (by lia) (by lia) (by simp)
theorem ig_:ofN 0=zer:=by decide
noncomputable def wsF (d:Nat) (sg:Int) (e0:List Pt):Nat->List Pt->Sh
 |0,_=>zer
 |n+1,ps=>if ps=e0 then ofN 1 else(bl_ d ps sg).foldl (fun t x=>a9_ t (bO_ (aS_ (pwF x.1).toNat) (wsF d sg e0 n x.2))) zer
noncomputable def wS (d:Nat) (sg:Int) (e0:List Pt) (ps:List Pt):Sh:=wsF d sg e0 40 ps
structure SdM (d:Nat) (sg:Int) (e0:List Pt) (mu:List Pt->Int):Prop where
 sd:sg=1\/sg= -1
 st:∀ps x,a2_ d ps->x∈bl_ d ps sg->a2_ d x.2/\mu x.2+pwF x.1<=mu ps/\1<=pwF x.1
 lo:∀ps,a2_ d ps->0<=mu ps/\mu ps<=32
theorem ef_ {α β:Type}{f g:β->α->β}:∀{l:List α}{t:β},(∀t,∀x∈l,f t x=g t x)->l.foldl f t=l.foldl g t
 |[],_,_=>rfl
 |x::l,t,h=>by
  rw [Bf,Bf,h t x AI];exact ef_ fun t y hy=>h t y (AM _ hy)
section
variable {d:Nat}{sg:Int}{e0:List Pt}{mu:List Pt->Int} (S:SdM d sg e0 mu)
include S
theorem SdM.fuel:∀{n m:Nat}{ps:List Pt},a2_ d ps->mu ps+1<=n->mu ps+1<=m->wsF d sg e0 n ps=wsF d sg e0 m ps
 |0,m,ps,h,h1,h2=>by have:=(S.lo ps h).1;lia
 |n+1,0,ps,h,h1,h2=>by have:=(S.lo ps h).1;lia
 |n+1,m+1,ps,h,h1,h2=>by
  unfold wsF;by_cases e:ps=e0
  .rw [A6 e,A6 e]
  .rw [A5 e,A5 e];refine ef_ fun t x hx=> ?_;obtain⟨a,b,c⟩:=S.st ps x h hx;rw [SdM.fuel a (by lia) (by lia) (m:=m)]
theorem SdM.eq {ps:List Pt} (h:a2_ d ps):wS d sg e0 ps=if ps=e0 then ofN 1 else(bl_ d ps sg).foldl (fun t x=>a9_ t (bO_ (aS_ (pwF x.1).toNat) (wS d sg e0 x.2))) zer:=by
 have u:wS d sg e0 ps=if ps=e0 then ofN 1 else(bl_ d ps sg).foldl (fun t x=>a9_ t (bO_ (aS_ (pwF x.1).toNat) (wsF d sg e0 39 x.2))) zer:=by unfold wS;rw [wsF]
 rw [u];by_cases e:ps=e0
 .rw [A6 e,A6 e]
 .rw [A5 e,A5 e];refine ef_ fun t x hx=> ?_;obtain⟨a,b,c⟩:=S.st ps x h hx;have:=(S.lo ps h).2;unfold wS;rw [S.fuel a (n:=39) (m:=40) (by lia) (by lia)]
theorem SdM.sup:∀(n:Nat) {ps:List Pt},a2_ d ps->mu ps<n->Sup (mu ps) (2*mu ps) (wS d sg e0 ps)
 |0,ps,h,hn=>by have:=(S.lo ps h).1;lia
 |n+1,ps,h,hn=>by
  have m0:=(S.lo ps h).1;rw [S.eq h];by_cases e:ps=e0
  .rw [A6 e];exact(pS_ 1).mono (by lia) (by lia)
  .rw [A5 e];refine fX_ m0 (by lia) (ld_ m0 (by lia)) fun x hx=> ?_;obtain⟨a,b,c⟩:=S.st ps x h hx;have ih:=SdM.sup n a (by lia);have q0:=(S.lo _ a).1;obtain⟨w,hw⟩:=AX (show 0<=pwF x.1 by lia);rw [hw,Ab];exact(eF_ (by lia) (by lia) q0 (by lia) (jm_ (w:=w) (by lia)) ih).mono (by lia) (by lia)
theorem SdM.sup' {ps:List Pt} (h:a2_ d ps):Sup 32 64 (wS d sg e0 ps):=by
 have:=S.lo ps h;exact(S.sup 33 h (by lia)).mono (by lia) (by lia)
end
theorem lh_ {d:Nat}{ps:List Pt} (h:a2_ d ps) {x:Pc×List Pt} (hx:x∈bl_ d ps 1):arF ps+pwF x.1<=arF x.2/\1<=pwF x.1:=by
 unfold bl_ at hx;cases hT:b6_ ps 1 with
 |none=>rw [hT] at hx;exact nomatch hx
 |some p=>
  rw [hT] at hx;dsimp only at hx;obtain⟨⟨p1,p2⟩,hc⟩:=k3_ hT;obtain⟨l,a,b,c,r,e,ep,ga,gb,gc,et,ed⟩:=tf_ p1 p2;rw [ga,gb,gc,et,ed] at hx;rw [ga,gb,gc] at hc;rcases B7.mp hx with hx|hx
  .rw [AU.mp hx];have ea:l++[a]++c::r=l++a::c::r:=by simp
   have pe:pwF [a,b,c]=abI (crn a b c):=rfl;dsimp only;rw [ea,e,pe];have:=ei_ l a b c r;unfold abI;rw [A5 (by lia)];lia
  .cases hP:fD_ d (c2_ a b c) with
   |false=>rw [hP] at hx;simp at hx
   |true=>
    rw [hP,A6 rfl] at hx;rw [AU.mp hx];have ea:l++[a]++[c2_ a b c]++c::r=l++a::c2_ a b c::c::r:=by simp
    have pe:pwF [a,b,c,c2_ a b c]=1:=rfl;dsimp only;rw [ea,e,pe];have:=gY_ l a b c r;lia
theorem jo_ {d:Nat}{ps:List Pt} (h:a2_ d ps) {x:Pc×List Pt} (hx:x∈bl_ d ps (-1)):arF x.2+pwF x.1<=arF ps/\1<=pwF x.1:=by
 unfold bl_ at hx;cases hT:b6_ ps (-1) with
 |none=>rw [hT] at hx;exact nomatch hx
 |some p=>
  rw [hT] at hx;dsimp only at hx;obtain⟨⟨p1,p2⟩,hc⟩:=jf_ hT;obtain⟨l,a,b,c,r,e,ep,ga,gb,gc,et,ed⟩:=tf_ p1 p2;rw [ga,gb,gc,et,ed] at hx;rw [ga,gb,gc] at hc;rcases B7.mp hx with hx|hx
  .rw [AU.mp hx];have ea:l++[a]++c::r=l++a::c::r:=by simp
   have pe:pwF [a,b,c]=abI (crn a b c):=rfl;dsimp only;rw [ea,e,pe];have:=ei_ l a b c r;unfold abI;rw [A6 (by lia)];lia
  .cases hP:fD_ d (c2_ a b c) with
   |false=>rw [hP] at hx;simp at hx
   |true=>
    rw [hP,A6 rfl] at hx;rw [AU.mp hx];have ea:l++[a]++[c2_ a b c]++c::r=l++a::c2_ a b c::c::r:=by simp
    have pe:pwF [a,b,c,c2_ a b c]=1:=rfl;dsimp only;rw [ea,e,pe];have:=gY_ l a b c r;lia
theorem sdL {d:Nat} (hd:d<=4):SdM d 1 (upE d) (fun ps=>32-arF ps) where
 sd:= .inl rfl
 st:=fun ps x h hx=>⟨(pV_ h hx).1,by have:=(lh_ h hx).1;lia,(lh_ h hx).2⟩
 lo:=fun ps h=>by have:=pu_ hd h;have:=m8_ hd h;lia
theorem sdR {d:Nat} (hd:d<=4):SdM d (-1) (loE d) arF where
 sd:= .inr rfl
 st:=fun ps x h hx=>⟨(nB_ h hx).1,(jo_ h hx).1,(jo_ h hx).2⟩
 lo:=fun ps h=>by have:=pu_ hd h;have:=m8_ hd h;lia
noncomputable def s7_:List Lf->Bool
 |[]=>true
 |x::r=>r.all (fun y=> !(ew_ y x))&&s7_ r
theorem jp_:∀{ps:List Lf},s7_ ps=true->Srt ps
 |[],_=>List.Pairwise.nil
 |x::r,h=>by
  unfold s7_ at h;rw [AC,AV] at h;exact Ad.mpr ⟨fun y hy=>by simpa using h.1 y hy,jp_ h.2⟩
noncomputable def tO_ (d:Nat) (ps:List Lf):Bool:=ps.all (sf_ d)&&(List.range d).all (fun i=>decide (0<=eF ps i))&&s7_ ps
theorem nF_ {d:Nat}{ps:List Lf} (h:tO_ d ps=true):Snd d ps:=by
 unfold tO_ at h;simp only [AC,AV,As,AT] at h;exact⟨fun p hp=>by have:=jI_.mp (h.1.1 p hp);lia,fun i hi=>h.1.2 i hi,jp_ h.2⟩
noncomputable def smS (s:Sh):Bool:=decide (s.2.length<=100)&&decide (-100<=s.1)&&decide (s.1<=100)&&s.2.all fun x=>decide (-(10^18)<=x)&&decide (x<=10^18)
noncomputable def Sms (s:Sh):Prop:=s.2.length<=100/\-100<=s.1/\s.1<=100
theorem cQ_ {s:Sh} (h:smS s=true):Sms s/\∀x∈s.2,-(10^18)<=x/\x<=10^18:=by
 unfold smS at h;simp only [AC,AT,AV] at h;exact⟨⟨h.1.1.1,h.1.1.2,h.1.2⟩,h.2⟩
theorem Sup.sms {a b:Int}{s:Sh} (h:Sup a b s) (ha:a<=33) (hb:b<=65):Sms s:=by
 unfold Sup at h;unfold Sms;lia
noncomputable def wsX (x:List Lf):List Int:=x.map fun p=>p.2.2
noncomputable def q5_ (x:List Lf):List Int:=wsX x++wsX x
noncomputable def rl_:List Int->Sh->Bool
 |[],t=>smS t
 |w::l,t=>smS t&&decide (1<=w)&&decide (w<=50)&&rl_ l (bO_ t (aS_ w.toNat))
noncomputable def hmD (d:Nat) (x:List Lf):Int:=hmF d (x++e7_ d (bQ_ d x))
noncomputable def rq_ (d:Nat) (x:List Lf):Sh:=bO_ (ofN (hmD d x)) (s6_ (q5_ x))
noncomputable def po_ (d:Nat):List (List Lf)->Sh->Option Sh
 |[],t=>some t
 |x::l,t=>if smS t&&rl_ (q5_ x) (ofN 1)&&smS (s6_ (q5_ x))&&smS (ofN (hmD d x))&&smS (rq_ d x) then po_ d l (a9_ t (rq_ d x)) else none
noncomputable def rp_ (d:Nat) (w:List Pt):Sh:=bO_ (wS d 1 (upE d) w) (wS d (-1) (loE d) w)
noncomputable def ie_ (d:Nat):List (List Pt)->Sh->Option Sh
 |[],t=>some t
 |w::l,t=>if s2_ d w&&smS t&&smS (wS d 1 (upE d) w)&&smS (rp_ d w) then ie_ d l (a9_ t (rp_ d w)) else none
theorem fU_ (d:Nat):∀(a b:List (List Pt)) (t:Sh),ie_ d (a++b) t=(ie_ d a t).bind (ie_ d b)
 |[],b,t=>rfl
 |w::a,b,t=>by
  rw [CH,ie_,ie_];split
  .exact fU_ d a b _
  .rfl
noncomputable def qr_ (d:Nat) (x:List Lf):Bool:=tO_ d x&&decide (x.length<=20)
noncomputable def cD (L:List (List Lf)) (i j:Nat):Option Bool:=L[i]?.bind fun x=>L[j]?.map fun y=>iP_ x y
noncomputable def oD (d k:Nat):Option (Array Nat):=nL_ (cD (et_ d k)) (et_ d k).length
noncomputable def sD (d k:Nat):List (List Lf):=if(et_ d k).length<2 then et_ d k else((oD d k).getD #[]).toList.map fun i=>(et_ d k).getD i []
noncomputable def rj_ (d k:Nat):Prop:=okB d k=true/\(¬(et_ d k).length<2->∃p,nL_ (cD (et_ d k)) (et_ d k).length=some p/\p.size<=1000/\∀i∈p.toList,i<(et_ d k).length)/\(et_ d k).length<=1000/\(∀w∈sD d k,qr_ d w=true)/\(sD d k).length<=1000
noncomputable def ra_ (d k:Nat):Bool:=okB d k&&(et_ d k).all (qr_ d)&&decide ((et_ d k).length<=1000)
noncomputable def pZ_ (d k:Nat):Bool:=decide ((et_ d k).length<2)||match oD d k with
 |none=>false
 |some p=>decide (p.size<=1000)&&p.toList.all fun i=>decide (i<(et_ d k).length)
theorem oH_ {d k:Nat} (h1:ra_ d k=true) (h2:pZ_ d k=true):rj_ d k:=by
 unfold ra_ at h1;simp only [AC,AT,AV] at h1;obtain⟨⟨a1,a2⟩,a3⟩:=h1;unfold pZ_ at h2;by_cases hl:(et_ d k).length<2
 .have e:sD d k=et_ d k:=by unfold sD;rw [A6 hl]
  exact⟨a1,fun h=>absurd hl h,a3,by rw [e];exact a2,by rw [e];exact a3⟩
 .rw [Ao hl,Bool.false_or] at h2;cases ho:oD d k with
  |none=>rw [ho] at h2;cases h2
  |some p=>
   rw [ho] at h2;simp only [AC,AT,AV] at h2;have e:sD d k=p.toList.map fun i=>(et_ d k).getD i []:=by
    unfold sD;rw [A5 hl,ho];rfl
   refine⟨a1,fun _=>⟨p,ho,h2.1,h2.2⟩,a3,fun w hw=> ?_, ?_⟩
   .rw [e] at hw;obtain⟨i,hi,rfl⟩:=Ac.mp hw;have:=h2.2 i hi;rw [AG,A1 this];exact a2 _ (Bn _)
   .rw [e,A2,B3];exact h2.1
noncomputable def v71 (d k:Nat):Sh:=match d,k with
 |_,0=>(0,[1])
 |2,1=>(0,[3])
 |3,1=>(-2,[1,0,10,0,1])
 |3,2=>(0,[21])
 |3,3=>(0,[15])
 |4,1=>(-2,[3,0,21,0,3])
 |4,2=>(-4,[3,0,33,0,153,0,33,0,3])
 |_,_=>(0,[])
noncomputable def f71 (d k:Nat):Bool:=ra_ d k&&pZ_ d k&&decide (po_ d (sD d k) zer=some (v71 d k))
noncomputable def g71 (d k:Nat):Bool:=decide (ie_ d (sW d k) zer=some (v71 d k))
theorem fd1:(List.range 7).all (f71 1)=true:=by ac_nf
theorem fd2:(List.range 7).all (f71 2)=true:=by ac_nf
theorem fd3:(List.range 7).all (f71 3)=true:=by ac_nf
theorem fd4:(List.range 3).all (f71 4)=true:=by ac_nf
theorem gd1:(List.range 7).all (g71 1)=true:=by ac_nf
theorem gd2:(List.range 7).all (g71 2)=true:=by ac_nf
theorem g30:g71 3 0=true:=by ac_nf
theorem g31:g71 3 1=true:=by ac_nf
theorem g32:g71 3 2=true:=by ac_nf
theorem g33:g71 3 3=true:=by ac_nf
theorem g34:g71 3 4=true:=by ac_nf
theorem g35:g71 3 5=true:=by ac_nf
theorem g36:g71 3 6=true:=by ac_nf
theorem g40:g71 4 0=true:=by ac_nf
theorem g41:g71 4 1=true:=by ac_nf
noncomputable def o42:List Nat:=[77,76,74,73,72,70,69,67,66,68,71,75,65,63,62,61,59,58,56,55,57,60,64,53,52,51]
noncomputable def ta_:List Nat:=[49,48,46,45,47,50,35,34,32,31,29,28,30,33,27,25,24,22,21,23,26,19,18,16,15,17]
noncomputable def s9_:List Nat:=[9,7,6,8,4,3,0,2,1,5,14,13,11,10,12,20,44,43,42,40,39,37,36,38,41,54]
noncomputable def r42 (l:List Nat):List (List Pt):=l.map fun i=>(c6_ 4 2).getD i []
theorem l42:¬(c6_ 4 2).length<2:=by ac_nf
theorem uX_:oW 4 2=some (o42++(ta_++s9_)).toArray:=by ac_nf
theorem s42:sW 4 2=r42 o42++(r42 ta_++r42 s9_):=by
 unfold sW;rw [A5 l42,uX_];unfold r42;rw [<-AA,<-AA];rfl
noncomputable def m42:Sh:=(-4,[3,0,28,0,89,0,28,0,3])
theorem vE_:ie_ 4 (r42 o42) zer=some zer:=by ac_nf
theorem vD_:ie_ 4 (r42 ta_) zer=some m42:=by ac_nf
theorem vC_:ie_ 4 (r42 s9_) m42=some (v71 4 2):=by ac_nf
theorem g42:g71 4 2=true:=by
 refine B5 ?_;rw [s42,fU_,vE_,Option.bind_some,fU_,vD_,Option.bind_some,vC_]
theorem e71 {d k:Nat} (h:aL_ d k):rj_ d k/\po_ d (sD d k) zer=some (v71 d k)/\ie_ d (sW d k) zer=some (v71 d k):=by
 have go:∀{d k:Nat},f71 d k=true->g71 d k=true->rj_ d k/\po_ d (sD d k) zer=some (v71 d k)/\ie_ d (sW d k) zer=some (v71 d k):=fun hf hg=>by
  unfold f71 at hf;unfold g71 at hg;simp only [AC,AT] at hf hg;exact⟨oH_ hf.1.1 hf.1.2,hf.2,hg⟩
 have al:∀{f:Nat->Bool}{n k:Nat},(List.range n).all f=true->k<n->f k=true:=fun h hk=>AV.mp h _ (As.mpr hk);unfold aL_ at h;have hd:d=1\/d=2\/d=3\/d=4:=by lia
 rcases hd with rfl|rfl|rfl|rfl
 .exact go (al fd1 (by lia)) (al gd1 (by lia))
 .exact go (al fd2 (by lia)) (al gd2 (by lia))
 .refine go (al fd3 (by lia)) ?_;have hk:k=0\/k=1\/k=2\/k=3\/k=4\/k=5\/k=6:=by lia
  rcases hk with rfl|rfl|rfl|rfl|rfl|rfl|rfl
  .exact g30
  .exact g31
  .exact g32
  .exact g33
  .exact g34
  .exact g35
  .exact g36
 .refine go (al fd4 (by lia)) ?_;have hk:k=0\/k=1\/k=2:=by lia
  rcases hk with rfl|rfl|rfl
  .exact g40
  .exact g41
  .exact g42
theorem gt_ {d k:Nat} (h:aL_ d k):Wide d k:=by unfold aL_ at h;unfold Wide;lia
theorem k5_ (d:Nat):∀{l:List (List Pt)}{t s:Sh},ie_ d l t=some s->∀i w,l[i]? =some w->s2_ d w=true/\smS ((l.take i).foldl (fun t w=>a9_ t (rp_ d w)) t)=true/\smS (wS d 1 (upE d) w)=true/\smS (rp_ d w)=true
 |[],_,_,_,i,w,hw=>by simp at hw
 |x::l,t,s,h,i,w,hw=>by
  rw [ie_] at h;split at h
  .rename_i c;simp only [AC] at c;cases i with
   |zero=>cases hw;exact⟨c.1.1.1,c.1.1.2,c.1.2,c.2⟩
   |succ i=>exact k5_ d h i w hw
  .cases h
theorem jh_ (d:Nat):∀{l:List (List Pt)}{t s:Sh},ie_ d l t=some s->l.foldl (fun t w=>a9_ t (rp_ d w)) t=s
 |[],_,_,h=>Af h
 |x::l,t,s,h=>by
  rw [ie_] at h;split at h
  .rw [Bf];exact jh_ d h
  .cases h
theorem mN_ (d:Nat):∀{l:List (List Lf)}{t s:Sh},po_ d l t=some s->∀i x,l[i]? =some x->smS ((l.take i).foldl (fun t x=>a9_ t (rq_ d x)) t)=true/\rl_ (q5_ x) (ofN 1)=true/\smS (s6_ (q5_ x))=true/\smS (ofN (hmD d x))=true/\smS (rq_ d x)=true
 |[],_,_,_,i,w,hw=>by simp at hw
 |x::l,t,s,h,i,w,hw=>by
  rw [po_] at h;split at h
  .rename_i c;simp only [AC] at c;obtain⟨⟨⟨⟨c1,c2⟩,c3⟩,c4⟩,c5⟩:=c;cases i with
   |zero=>cases hw;exact⟨c1,c2,c3,c4,c5⟩
   |succ i=>exact mN_ d h i w hw
  .cases h
theorem ke_ (d:Nat):∀{l:List (List Lf)}{t s:Sh},po_ d l t=some s->l.foldl (fun t x=>a9_ t (rq_ d x)) t=s
 |[],_,_,h=>Af h
 |x::l,t,s,h=>by
  rw [po_] at h;split at h
  .rw [Bf];exact ke_ d h
  .cases h
theorem lf_:∀{l:List Int}{t:Sh},rl_ l t=true->∀i w,l[i]? =some w->smS ((l.take i).foldl (fun t w=>bO_ t (aS_ w.toNat)) t)=true/\1<=w/\w<=50
 |[],_,_,i,w,hw=>by simp at hw
 |x::l,t,h,i,w,hw=>by
  rw [rl_] at h;simp only [AC,AT] at h;obtain⟨⟨⟨c1,c2⟩,c3⟩,c4⟩:=h;cases i with
  |zero=>cases hw;exact⟨c1,c2,c3⟩
  |succ i=>exact lf_ c4 i w hw
theorem c1_ {α β:Type}{f:β->α->β}{l:List α}{t:β}{i:Nat}{x:α} (h:l[i]? =some x):(l.take (i+1)).foldl f t=f ((l.take i).foldl f t) x:=by
 rw [Aa,h,List.foldl_append];rfl
noncomputable def rV_ (K:W.Frag):Sp:=fun vs H Q _=>∃(a:Addr) (ns:List Int) (k:Int),vs=[.ref a, .int k]/\SqL K H a (ns.map V.int)/\0<=k/\∀z,Q (.int z) H
noncomputable def nE_ (K:W.Frag):Sp:=fun vs H Q _=>∃(a:Addr) (ns:List Int) (k:Int),vs=[.ref a, .int k]/\SqL K H a (ns.map V.int)/\0<=k/\k<=100000/\∀z,0<=z->Q (.int z) H
noncomputable def But (b:Addr) (H H':Hp):Prop:=∀c o,H c=some o->c≠b->H' c=some o
theorem oI_ {ks:List Int}{i:Nat} (h:i<=ks.length):fP_ (ks.map V.int) (some (i:Int)) none=(ks.drop i).map V.int:=by
 unfold fP_;rw [HT.sIx_nat,HT.sIx_none,A2,Cm h,Cc,C0 (by simp)]
noncomputable def tw_ (K:W.Frag):Sp:=fun vs H Q _=>∃(a:Addr) (ns:List Int),vs=[.ref a]/\SqL K H a (ns.map V.int)/\ns.length<=1000/\
 ∀(l:Addr) (ks:List Int) (b:Nat) (H':Hp),ak_ H H'->H l=none->H' l=some (.lst (ks.map V.int))->ns=ks++List.replicate b 0->(ks=[]\/ks.getLast? ≠some 0)->Q (.ref l) H'
noncomputable def s0_ (H:Hp) (Q:VK) (P:Int->List Int->Prop):Prop:=∀(t l:Addr) (lo:Int) (zs:List Int) (H':Hp),ak_ H H'->H l=none->H' t=some (.tup [.int lo, .ref l])->H' l=some (.lst (zs.map V.int))->P lo zs->Q (.ref t) H'
noncomputable def p1_ (K:W.Frag):Sp:=fun vs H Q _=>∃(low:Int) (a:Addr) (ns:List Int),vs=[.int low, .ref a]/\SqL K H a (ns.map V.int)/\ns.length<=1000/\s0_ H Q (Tr low ns)
theorem s0_.mk {H H2:Hp}{Q:VK}{P:Int->List Int->Prop} (k:s0_ H Q P) (s:ak_ H H2) {l t:Addr}{lo:Int}{zs:List Int} (nl:H2 l=none) (nt:(upd H2 l (.lst (zs.map V.int))) t=none) (p:P lo zs):Q (.ref t) (upd (upd H2 l (.lst (zs.map V.int))) t (.tup [.int lo, .ref l])):=by
 refine k t l lo zs _ ((s.put (s.free nl)).put (s.free (ak_.new nl|>.free nt))) (s.free nl) ae_ ?_ p;rw [ao_ (ap_ ae_ nt),ae_]
theorem But.of_same {b:Addr}{H H':Hp} (s:ak_ H H'):But b H H':=fun c o e _=>s _ _ e
theorem But.trans {b:Addr}{H H' H'':Hp} (s:But b H H') (t:But b H' H''):But b H H'':=fun c o e n=>t c o (s c o e n) n
theorem But.upd {b:Addr}{H:Hp}{o:HO}:But b H (L2.upd H b o):=fun c u e n=>by rw [ao_ n];exact e
theorem gS_ {vs:List V}{k:Nat}:fP_ vs none (some (k:Int))=vs.take k:=by
 unfold fP_;rw [HT.sIx_nat,HT.sIx_none,D0,Nat.sub_zero];exact List.take_eq_take_iff.mpr (by lia)
noncomputable def o0_ (c:Addr) (f:Nat->List Pt):Sp:=fun vs H Q E=>∃v,vs=[v]/\b8_ H v/\(∀n:Nat,v= .int n->1<=n->n<=5->∀l H',ak_ H H'->H l=none->Is H' (pts (f n)) (.ref l)->Q (.ref l) H')/\(¬Within 1 5 v->E (.ref c) none H)
noncomputable def jq_ (K:W.Frag):Sp:=fun vs H Q _=>∃(a:Addr) (ns:List Int),vs=[.ref a]/\SqL K H a (ns.map V.int)/\ns.length<=63/\∀H',Q (.bl true) H'
theorem pl_ {l:List Int}{i:Nat} (h:i<l.length):(l.map V.int)[i]? =some (.int (l.getD i 0)):=by
 rw [A7,A1 h];simp [List.getD,h]
theorem es_ (n:Nat):(List.replicate n [V.int 0]).flatten=(List.replicate n (0:Int)).map V.int:=by
 induction n with
 |zero=>rfl
 |succ n ih=>rw [Ap,Ap,C6,ih];rfl
noncomputable def oZ_ (f:List Int->List Int->List Int) (B:List Int->List Int->Prop) (K:W.Frag):Sp:=fun vs H Q _=>∃(a c:Addr) (xs ys:List Int),vs=[.ref a, .ref c]/\SqL K H a (xs.map V.int)/\SqL K H c (ys.map V.int)/\xs.length<=400/\ys.length<=400/\B xs ys/\
 ∀(l:Addr) (H':Hp),ak_ H H'->H l=none->H' l=some (.lst ((f xs ys).map V.int))->Q (.ref l) H'
noncomputable def lk_ (_:W.Frag):Sp:=fun vs H Q _=>∃w:Nat,vs=[.int w]/\1<=w/\w<=60/\s0_ H Q (fun lo zs=>lo=1-(w:Int)/\zs=bo_ w)
noncomputable def rO_ (B:List Int->Prop) (f:Int×List Int->Int×List Int->Int×List Int) (_:W.Frag):Sp:=fun vs H Q _=>∃(t u p q:Addr) (l1 l2:Int) (z1 z2:List Int),vs=[.ref t, .ref u]/\H t=some (.tup [.int l1, .ref p])/\H p=some (.lst (z1.map V.int))/\H u=some (.tup [.int l2, .ref q])/\H q=some (.lst (z2.map V.int))/\
 z1.length<=100/\z2.length<=100/\-100<=l1/\l1<=100/\-100<=l2/\l2<=100/\B z1/\s0_ H Q (fun lo zs=>(lo,zs)=f (l1,z1) (l2,z2))
noncomputable def stD (x:List Lf×Int):D:= .t [lfs x.1, .i x.2]
noncomputable def Lok (p:Lf):Prop:=0<=p.2.1-p.1/\p.2.1-p.1<=10/\1<=p.2.2/\p.2.2<=20
noncomputable def rU_ (_:W.Frag):Sp:=fun vs H Q _=>∃i:Int,vs=[.int i]/\1<=i/\i<=5/\Q .non H
noncomputable def rM_ (_:W.Frag):Sp:=fun vs H Q _=>∃d k:Nat,vs=[.int d, .int k]/\Wide d k/\Q .non H
noncomputable def rS_ (_:W.Frag):Sp:=fun vs H Q _=>∃(n:Nat) (dv:V) (ps:List Lf),vs=[.int n,dv]/\1<=n/\n<=5/\Is H (lfs ps) dv/\(∀p∈ps,Okl n p)/\∀l H',ak_ H H'->H l=none->H' l=some (.lst ((bQ_ n ps).map V.int))->Q (.ref l) H'
noncomputable def rQ_ (_:W.Frag):Sp:=fun vs H Q _=>∃(v:V) (p:Lf),vs=[v]/\Is H (lf p) v/\Lok p/\Q (.int (bZ_ p)) H
noncomputable def tG_ (_:W.Frag):Sp:=fun vs H Q _=>∃(d f n:Nat) (sp:Int),vs=[.int d, .int f, .int n, .int sp]/\f<=d/\d<=5/\n<=20/\∀l H',ak_ H H'->H l=none->Is H' (lfs (kJ_ f (d-f) n sp)) (.ref l)->Q (.ref l) H'
noncomputable def rR_ (n:Nat) (_:W.Frag):Sp:=fun vs H Q _=>∃(v:V) (ls:List Lf) (wt sp:Int),vs=[v, .int wt, .int sp]/\Is H (lfs ls) v/\(∀p∈ls,Lok p)/\0<=wt/\wt<n/\(dc_ n ls wt sp).length<=1000/\ls.length<=200/\n<=100/\
 ∀l H',ak_ H H'->H l=none->Is (nw H H') (.l ((dc_ n ls wt sp).map lfs)) (.ref l)->Q (.ref l) H'
noncomputable def rL_ (_:W.Frag):Sp:=fun vs H Q _=>∃(d f:Nat) (v:V) (x:List Lf×Int),vs=[.int d, .int ((f+1:Nat):Int),v, .int x.2]/\f<d/\d<=5/\Is H (lfs x.1) v/\stB d f x=true/\
 ∀l H',ak_ H H'->H l=none->Is (nw H H') (.l ((eA_ d (f+1) x.1 x.2).map stD)) (.ref l)->Q (.ref l) H'
theorem j6_ {H:Hp}{Wq:List (List Lf)}{vs:List V} (h:Iss H (Wq.map lfs) vs):∀(l:List Nat),(∀i∈l,i<Wq.length)->Iss H ((l.map fun i=>Wq.getD i []).map lfs) (l.map fun i=>vs.getD i .non)
 |[],_=>an_
 |i::l,hl=>by
  have hi:i<Wq.length:=hl i (by simp);have hr:i<vs.length:=by rw [h.length,A2];exact hi
  refine ai_ ?_ (j6_ h l fun j hj=>hl j (by simp [hj]));obtain⟨d,hd,h1⟩:=h.of_get (A1 hr);rw [A7,A1 hi] at hd;cases hd;show Is H (lfs (Wq.getD i [])) (vs.getD i .non);rw [AG,AG,A1 hi,A1 hr];exact h1
theorem sh_ {H:Hp}{x:List Lf×Int}{v:V} (h:Is H (stD x) v):∃t u,v= .ref t/\H t=some (.tup [u, .int x.2])/\Is H (lfs x.1) u:=by
 obtain⟨t,vs,rfl,ht,hi⟩:=gq_ h;obtain⟨u,us,rfl,h1,h2⟩:=az_ hi;obtain⟨u2,us2,rfl,h3,h4⟩:=az_ h2;rw [cn_ h3,bf_ h4] at ht;exact⟨t,u,rfl,ht,h1⟩
theorem nM_ {ps:List Lf}:∀x∈ps.map g0_,x.length=3:=fun x hx=>by
 obtain⟨p,_,rfl⟩:=Ac.mp hx;rfl
theorem mJ_ {H H':Hp}{a:Addr} (k:But a H H'):ak_ (hid H a) H':=fun b o e=>by
 have hb:b≠a:=by rintro rfl;rw [ov_] at e;cases e
 rw [dn_ hb] at e;exact k _ _ e hb
theorem d0_ {vs:List V}{i:Nat} (h:i<=vs.length):fP_ vs (some (i:Int)) none=vs.drop i:=by
 unfold fP_;rw [HT.sIx_nat,HT.sIx_none,Cm h,C0 (by simp)]
theorem Snd.good {d:Nat}{ps:List Lf} (h:Snd d ps):pv_ d ps:=⟨h.ok,h.nn⟩
theorem Snd.okl {d:Nat}{ps:List Lf} (h:Snd d ps):∀p∈ps,Okl d p:=h.good.okl
theorem qQ_ {ns:List Int} (h:∀i:Nat,0<=ns.getD i 0):0<=sm_ ns:=h _
theorem Snd.ends {d:Nat}{ps:List Lf} (h:Snd d ps) (i:Nat):0<=(bQ_ d ps).getD i 0:=by
 rcases BI i d with c|c
 .rw [gR_ h.okl c];exact h.nn i c
 .rw [AG,List.getElem?_eq_none (by rw [ez_ d ps h.okl];exact c)];exact Int.le_refl _
noncomputable def tB_ (_:W.Frag):Sp:=fun vs H Q _=>∃(n:Nat) (dv:V) (ps:List Lf),vs=[.int n,dv]/\1<=n/\n<=5/\Is H (lfs ps) dv/\Snd n ps/\∀H',ak_ H H'->Q (.bl true) H'
noncomputable def tE_ (_:W.Frag):Sp:=fun vs H Q _=>∃(n:Nat) (dv:V) (ps:List Lf),vs=[.int n,dv]/\1<=n/\n<=5/\Is H (lfs ps) dv/\Snd n ps/\∀H',ak_ H H'->Q .non H'
noncomputable def tK_ (_:W.Frag):Sp:=fun vs H Q _=>∃(n:Nat) (dv:V) (ps:List Lf),vs=[.int n,dv]/\1<=n/\n<=5/\Is H (lfs ps) dv/\Snd n ps/\(e7_ n (bQ_ n ps)).length<=20/\∀l H',ak_ H H'->H l=none->Is H' (lfs (e7_ n (bQ_ n ps))) (.ref l)->Q (.ref l) H'
theorem ph_ {H H':Hp}{l:Addr}{o:HO}{xs:List V}{qs:List Lf}{vs:List V} (s:ak_ H H') (hl:H l=some (.lst xs)) (h:Iss H (qs.map lf) vs):Iss (upd H' l o) (qs.map lf) vs:=
 j7_ (fun a ys e=>by rw [ao_ (by rintro rfl;rw [hl] at e;cases e)];exact s _ _ e) h
theorem sv_ {H:Hp}{p q:Lf}{v:V} (h:Is H (lf p) v) (k:Is H (lf q) v):p=q:=by
 obtain⟨a,rfl,ha⟩:=ht_ h;obtain⟨b,e,hb⟩:=ht_ k;cases e;rw [ha] at hb;obtain⟨a1,a2,a3⟩:=p;obtain⟨b1,b2,b3⟩:=q;simp at hb;simp [hb]
theorem rB_ {K:W.Frag}{H:Hp}{wt:List Lf}{m:Lf}{wvs:List V}{v:V} (h:Iss H (wt.map lf) wvs) (k:Is H (lf m) v):uK_ K H 1 wvs v (fun j=>decide (wt.getD j (0,0,0)=m)):=by
 have at_:∀(j:Nat) z,wvs[j]? =some z->Is H (lf (wt.getD j (0,0,0))) z:=fun j z hz=>by
  obtain⟨d,hd,h1⟩:=h.of_get hz;rw [A7] at hd;obtain⟨d',hd',rfl⟩:=A4.mp hd;rw [List.getD,hd'];exact h1
 refine⟨by decide,fun j z hz=>⟨?_,pp_ (at_ j z hz) k⟩,fun i j z hi hj=> ?_⟩
 .obtain⟨a,e,_⟩:=ht_ (at_ j z hz);exact⟨a,e⟩
 .show decide (wt.getD i (0,0,0)=m)=decide (wt.getD j (0,0,0)=m);rw [sv_ (at_ i z hi) (at_ j z hj)]
noncomputable def ti (t:List Int):D:=tI t
noncomputable def tN_ (_:W.Frag):Sp:=fun vs H Q _=>∃(n:Int) (k:Nat),vs=[.int n, .int k]/\(k:Int)<=n/\n<=15/\Q (.int (chF n k)) H
noncomputable def vg_ (_:W.Frag):Sp:=fun vs H Q _=>∃(v:V) (t:List Int) (p:Nat) (m:Int),vs=[v, .int p, .int m]/\Is H (tI t) v/\p<t.length/\t.length<=5/\∀u H',ak_ H H'->Is H' (tI (wmF t p m)) u->Q u H'
noncomputable def vH_ (t:List Int) (a:Nat):Prop:=t.length<=5/\(∀i:Nat,0<=t.getD i 0)/\t.sum+(a:Int)<=15
noncomputable def vk_ (n:Nat) (_:W.Frag):Sp:=fun vs H Q _=>∃(v:V) (t:List Int) (p g a:Nat),vs=[v, .int p, .int ((p:Int)+(g:Int)), .int a]/\Is H (tI t) v/\g<n/\n<=6/\p+g<t.length/\vH_ t a/\∀l H',ak_ H H'->H l=none->Is H' (.l ((pbF g t p a).map prD)) (.ref l)->Q (.ref l) H'
noncomputable def u2_ (d:Nat) (mk:List Lf):Prop:=(∀m∈mk,1<=m.1/\m.1<m.2.1/\m.2.1<=(d:Int)+1)/\mk.length<=15
noncomputable def tJ_ (_:W.Frag):Sp:=fun vs H Q _=>∃(d:Nat) (v:V) (mk:List Lf),vs=[.int d,v]/\1<=d/\d<=5/\Is H (lfs mk) v/\u2_ d mk/\∀H',ak_ H H'->Q (.int (hmF d mk)) H'
noncomputable def vn_ (_:W.Frag):Sp:=fun vs H Q _=>∃(d:Nat) (v:V) (ps:List Lf),vs=[.int d,v]/\1<=d/\d<=5/\Is H (lfs ps) v/\Snd d ps/\∀H',ak_ H H'->Q (.int (hmF d (ps++e7_ d (bQ_ d ps)))) H'
theorem rD_ {t:List Int}{p:Nat} (H':Hp) (vs:List V) (h:Iss H' (t.map .i) vs):Iss H' ((t.take p).map .i) (fP_ vs none (some (p:Int))):=by
 rw [gS_,List.map_take];exact h.take p
theorem pJ_ {t:List Int}{p:Nat} (hp:p<=t.length) (H':Hp) (vs:List V) (h:Iss H' (t.map .i) vs):Iss H' ((t.drop p).map .i) (fP_ vs (some (p:Int)) none):=by
 rw [d0_ (by rw [h.length,A2];exact hp),Cc];exact h.drop p
theorem o8_:∀{g:Nat}{t:List Int}{p a:Nat},(pbF g t p a).length<=(a+1)^g
 |0,t,p,a=>by simp [pbF]
 |g+1,t,p,a=>by
  have go:∀n,n<=a+1->((List.range n).flatMap fun h:Nat=>(pbF g (wmF t p (h:Int)) (p+1) (a-h)).map fun x=>(x.1,chF (t.getD p 0+(h:Int)) h*x.2)).length<=n*(a+1)^g:=by
   intro n hn;induction n with
   |zero=>simp
   |succ n ih=>
    rw [cv_,AF,A2];have h1:=ih (by lia);have h2:=o8_ (g:=g) (t:=wmF t p (n:Int)) (p:=p+1) (a:=a-n);have h3:(a-n+1)^g<=(a+1)^g:=Nat.pow_le_pow_left (by lia) g;rw [Nat.succ_mul];lia
  have:=go (a+1) (A8 _);rw [Nat.pow_succ,Nat.mul_comm];exact this
theorem n4_ {g:Nat}{t:List Int}{p a:Nat} (hg:g<=5) (ha:a<=15):(pbF g t p a).length<=1048576:=by
 have h1:=o8_ (g:=g) (t:=t) (p:=p) (a:=a);have h2:(a+1)^g<=16^g:=Nat.pow_le_pow_left (by lia) g;have h3:16^g<=16^5:=Bt (by decide) hg;lia
theorem su_ {n:Nat} (h:n<=1048576):n<sizeLine:=by rw [At];lia
theorem qM_ {H:Hp}{x:List Int×Int}{t:Addr}{u:V} (h:H t=some (.tup [u, .int x.2])) (k:Is H (tI x.1) u):Is H (prD x) (.ref t):=g1_ h (ai_ k (ai_ kT_ an_))
theorem qu_ {H:Hp}{x:List Int×Int}{v:V} (h:Is H (prD x) v):∃t u,v= .ref t/\H t=some (.tup [u, .int x.2])/\Is H (tI x.1) u:=by
 obtain⟨t,vs,rfl,ht,hi⟩:=gq_ h;obtain⟨u1,us,rfl,hu1,hi⟩:=az_ hi;obtain⟨u2,us,rfl,hu2,hi⟩:=az_ hi;rw [bf_ hi,cn_ hu2] at ht;exact⟨t,u1,rfl,ht,hu1⟩
theorem rC_ {H H':Hp} (s:dq_ H H') {t:List Int}{v:V} (h:Is H (tI t) v):Is H' (tI t) v:=by
 obtain⟨a,rfl,ha⟩:=eT_ h;exact e2_ (s _ _ ha)
theorem jE_ {H H':Hp} (s:dq_ H H') {x:List Int×Int}{v:V} (h:Is H (prD x) v):Is H' (prD x) v:=by
 obtain⟨a,u,rfl,ha,hu⟩:=qu_ h;exact qM_ (s _ _ ha) (rC_ s hu)
theorem lI_ {H H':Hp} (s:dq_ H H'):∀{xs:List (List Int×Int)}{vs:List V},Iss H (xs.map prD) vs->Iss H' (xs.map prD) vs
 |[],_,h=>by rw [bf_ h];exact an_
 |x::xs,_,h=>by
  obtain⟨u,us,rfl,q,r⟩:=az_ h;exact ai_ (jE_ s q) (lI_ s r)
theorem t3_ {d:Nat}{ps:List Lf} (hs:Snd d ps) (d1:1<=d) (d5:d<=5):u2_ d (ps++e7_ d (bQ_ d ps)):=by
 obtain⟨pl,p10,_⟩:=hs.good.len d1 d5;have em:(e7_ d (bQ_ d ps)).length=d:=hT_ hs.okl hs.nn;refine⟨fun m hm=> ?_,by rw [AF];lia⟩;rcases B7.mp hm with h|h
 .obtain⟨o1,o2,o3,_⟩:=hs.ok m h;exact⟨o1,o2,by lia⟩
 .unfold e7_ at h;obtain⟨i,hi,h⟩:=List.mem_flatMap.mp h;have hi:=As.mp hi;unfold kQ_ at h;rw [(List.mem_replicate.mp h).2];exact⟨by show 1<=1+(i:Int);lia,by show 1+(i:Int)<(d:Int)+1;lia,by show(d:Int)+1<=_;lia⟩
theorem kE_ {r:List Nat}{t:List Int}{p:Nat} (h:∀i:Nat,0<=t.getD i 0) (hs:t.sum+(r.sum:Nat)<=15) (hl:r.length<=5): -(2^64)<gZ_ t p r/\gZ_ t p r<2^64:=by
 obtain⟨a,b⟩:=ly_ (p:=p) h hs;have:(6435:Int)^r.length<=6435^5:=by
  have:r.length=0\/r.length=1\/r.length=2\/r.length=3\/r.length=4\/r.length=5:=by lia
  rcases this with e|e|e|e|e|e<;>rw [e]<;>decide
 lia
theorem pI_ {K:W.Frag}{H:Hp}{wt:List Lf}{m:Lf}{wvs:List V}{v:V} (h:Iss H (wt.map lf) wvs) (k:Is H (lf m) v):re_ K H 1 wvs v (fun j=>decide (wt.getD j (0,0,0)=m)):=by
 obtain⟨a,b,c⟩:=rB_ (K:=K) h k;exact⟨a,fun j z hz=>⟨(b j z hz).1,(b j z hz).2.told⟩,c⟩
theorem pX_ (xs:List Lf):(ky_ xs).Nodup:=(io_ xs).imp fun{a b} h e=>by subst e;exact gy_ h
theorem hR_ {α β:Type} (f:β->α->β) (b:β) (xs:List α) (j:Nat) (x:α) (h:xs[j]? =some x):(xs.take (j+1)).foldl f b=f ((xs.take j).foldl f b) x:=by
 rw [Aa,h,List.foldl_append];rfl
theorem pL_ (cnt:Lf->Nat) (m:Lf) (ms:List Lf):TF cnt (m::ms)=rn_ (TF cnt ms) (m.1-1).toNat (spR (m.2.1-m.1-1).toNat (cnt m)):=by funext t;rfl
theorem iW_ {p:Nat}{rs:List (List Nat)}{D:Tab}{j:Nat}{x:List Int×Int}{acc:Tab} (h:D[j]? =some x):stP p rs (D.take (j+1)) acc=inP x.1 x.2 p rs (stP p rs (D.take j) acc):=hR_ _ _ D j x h
theorem np_ {H:Hp}{d:Addr}{kvs:List (List Key×V)}{o:HO} (h:H d=some (.dT kvs)):dq_ H (upd H d o):=(LTS.dict h).2
noncomputable def vo_ (c:Addr):Sp:=fun vs H Q E=>∃v lo hi,vs=[v, .int lo, .int hi]/\b8_ H v/\(Within lo hi v->Q .non H)/\(¬Within lo hi v->(0<=lo/\lo<=20/\0<=hi/\hi<=20)/\E (.ref c) none H)
theorem o1_:∀a,a<21->∀b,b<21->(decide (((a:Nat):Int).natAbs.log2<1920)&&decide ((Str.empty++Str.ofString "not a whole number from ").length<=sizeLine)&&decide ((Str.empty++Str.ofString "not a whole number from "++Str.ofString (toString ((a:Nat):Int))).length<=sizeLine)&&decide ((Str.empty++Str.ofString "not a whole number from "++Str.ofString (toString ((a:Nat):Int))++Str.ofString " to ").length<=sizeLine)&&decide ((Str.empty++Str.ofString "not a whole number from "++Str.ofString (toString ((a:Nat):Int))++Str.ofString " to "++Str.ofString (toString ((b:Nat):Int))).length<=sizeLine))=true:=by ac_nf
noncomputable def Wd (v u:V):Prop:=∃d k:Nat,v= .int d/\u= .int k/\Wide d k
noncomputable def tx_ (c:Addr):Sp:=fun vs H Q E=>∃v u,vs=[v,u]/\b8_ H v/\b8_ H u/\(Wd v u->Q .non H)/\(¬Wd v u->E (.ref c) none H)
noncomputable def rm_ (x:Pc×List Pt):D:= .t [pcD x.1,pts x.2]
noncomputable def Sd (s:Int):Prop:=s=1\/s= -1
noncomputable def tM_ (_:W.Frag):Sp:=fun vs H Q _=>∃(a b c:V) (p q r:Pt),vs=[a,b,c]/\Is H (pt p) a/\Is H (pt q) b/\Is H (pt r) c/\inB p=true/\inB q=true/\inB r=true/\Q (.int (crn p q r)) H
noncomputable def tI_ (_:W.Frag):Sp:=fun vs H Q _=>∃(d:Nat) (v:V) (p:Pt),vs=[.int d,v]/\Is H (pt p) v/\Q (.bl (fD_ d p)) H
noncomputable def uT_:Option Nat->V
 |none=> .non
 |some p=> .int p
noncomputable def rP_ (_:W.Frag):Sp:=fun vs H Q _=>∃(v:V) (ps:List Pt) (s:Int),vs=[v, .int s]/\Is H (pts ps) v/\psB ps=true/\Sd s/\Q (uT_ (b6_ ps s)) H
noncomputable def p0_ (_:W.Frag):Sp:=fun vs H Q _=>∃(d:Nat) (v:V) (ps:List Pt) (s:Int),vs=[.int d,v, .int s]/\Is H (pts ps) v/\psB ps=true/\Sd s/\∀l H',ak_ H H'->H l=none->Is (nw H H') (.l ((bl_ d ps s).map rm_)) (.ref l)->Q (.ref l) H'
theorem md_ (ps:List Pt):nK (wk ps)= .t (ps.map pt):=by
 unfold nK wk;rw [BW];rfl
theorem aT_ {P:Program}{w:World}{H H':Hp}{a:Addr}{kvs:List (List (List Int)×V)} (d:DN P w H a kvs) (k:But a H H'):LTS H H':=by
 obtain⟨_,_,xs,_,e⟩:=d;exact⟨fun b ys h=>k _ _ h (by rintro rfl;rw [e] at h;cases h),fun b ys h=>k _ _ h (by rintro rfl;rw [e] at h;cases h)⟩
theorem DN.but {P:Program}{w:World}{H H':Hp}{a b:Addr}{kvs kvs':List (List (List Int)×V)} (d:DN P w H a kvs) (e:DN P w H b kvs') (k:But b H H') (n:a≠b):DN P w H' a kvs:=by
 obtain⟨z,y,xs,r,h⟩:=id d;exact d.keeps ((k _ _ h n).trans h.symm) (aT_ e k).2
noncomputable def vj_ (_:W.Frag):Sp:=fun vs H Q _=>∃(v:V) (c:Pc),vs=[v]/\Is H (pcD c) v/\(∀p∈c,inB p=true)/\(c.length=3\/c.length=4)/\Q (.int (pwF c)) H
noncomputable def u4_ (a b:Addr) (H H':Hp):Prop:=∀c o,H c=some o->c≠a->c≠b->H' c=some o
theorem nA_ {d:Nat}{sg:Int}{ps:List Pt} (hd:d<=4) (h:a2_ d ps) {x:Pc×List Pt} (hx:x∈bl_ d ps sg):(∀p∈x.1,inB p=true)/\(x.1.length=3\/x.1.length=4):=by
 have inb:∀p,fD_ d p=true->inB p=true:=fun p hp=>by
  have:=bx_.mp hp;unfold inB;simp only [AC,AT];lia
 unfold bl_ at hx;cases hT:b6_ ps sg with
 |none=>rw [hT] at hx;exact nomatch hx
 |some p=>
  rw [hT] at hx;dsimp only at hx;obtain⟨p1,p2⟩:=fT_ hT;have i1:=inb _ (h.1 _ (b4_ (ps:=ps) (j:=p-1) (by lia)));have i2:=inb _ (h.1 _ (b4_ (ps:=ps) (j:=p) (by lia)));have i3:=inb _ (h.1 _ (b4_ (ps:=ps) (j:=p+1) (by lia)));rcases B7.mp hx with hx|hx
  .rw [AU.mp hx];refine⟨fun q hq=> ?_, .inl rfl⟩;simp only [AK,Bb,Cw] at hq;rcases hq with rfl|rfl|rfl
   .exact i1
   .exact i2
   .exact i3
  .cases hP:fD_ d (c2_ (ps.getD (p-1) zP) (ps.getD p zP) (ps.getD (p+1) zP)) with
   |false=>rw [hP] at hx;simp at hx
   |true=>
    rw [hP,A6 rfl] at hx;rw [AU.mp hx];refine⟨fun q hq=> ?_, .inr rfl⟩;simp only [AK,Bb,Cw] at hq;rcases hq with rfl|rfl|rfl|rfl
    .exact i1
    .exact i2
    .exact i3
    .exact inb _ hP
noncomputable def tC_ (c:Addr):Sp:=fun vs H Q E=>∃v,vs=[v]/\b8_ H v/\(∀n:Nat,v= .int n->1<=n->n<=5->∀l H',ak_ H H'->H l=none->Is H' (pts (bh_ n)) (.ref l)->Q (.ref l) H')/\(¬Within 1 5 v->E (.ref c) none H)
noncomputable def tF_ (c:Addr):Sp:=fun vs H Q E=>∃v u,vs=[v,u]/\b8_ H v/\b8_ H u/\((∃d k:Nat,v= .int d/\u= .int k/\aL_ d k)->Q .non H)/\((¬∃d k:Nat,v= .int d/\u= .int k/\aL_ d k)->E (.ref c) none H)
noncomputable def rN_ (c:Addr):Sp:=fun vs H Q E=>∃v u,vs=[v,u]/\b8_ H v/\b8_ H u/\(∀d k:Nat,v= .int d->u= .int k->aL_ d k->∀l H',ak_ H H'->H l=none->Is H' (.l ((sW d k).map pts)) (.ref l)->Q (.ref l) H')/\((¬∃d k:Nat,v= .int d/\u= .int k/\aL_ d k)->E (.ref c) none H)
noncomputable def vm_ (n:Nat) (K:W.Frag):Sp:=fun vs H Q _=>∃(a:Addr) (rs:List V) (k:Nat),vs=[.ref a, .int k]/\SqL K H a rs/\rs.length<n/\rs.length<=20/\∀(l:Addr) (us:List V) (H':Hp),ak_ H H'->H l=none->H' l=some (.lst us)->cK_ H H' (lvA rs k) us->Q (.ref l) H'
noncomputable def rT_ (_:W.Frag):Sp:=fun vs H Q _=>∃d k:Nat,vs=[.int d, .int k]/\aL_ d k/\∀l H',ak_ H H'->H l=none->Is (nw H H') (.l ((sD d k).map lfs)) (.ref l)->Q (.ref l) H'
noncomputable def shD (s:Sh):D:= .t [.i s.1, .l (s.2.map .i)]
theorem oa_ {H:Hp}{s:Sh}{v:V} (h:Is H (shD s) v):∃t p,v= .ref t/\H t=some (.tup [.int s.1, .ref p])/\H p=some (.lst (s.2.map V.int)):=by
 obtain⟨t,vs,rfl,ht,hi⟩:=gq_ h;obtain⟨u1,us,rfl,hu1,hi⟩:=az_ hi;obtain⟨u2,us,rfl,hu2,hi⟩:=az_ hi;rw [bf_ hi,cn_ hu1] at ht;obtain⟨p,xs,rfl,hp,hx⟩:=cI_ hu2;rw [dU_ hx] at hp;exact⟨t,p,rfl,ht,hp⟩
theorem kN_ {H:Hp}{s:Sh}{t p:Addr} (ht:H t=some (.tup [.int s.1, .ref p])) (hp:H p=some (.lst (s.2.map V.int))):Is H (shD s) (.ref t):=g1_ ht (ai_ kT_ (ai_ (cu_ hp (dV_ _)) an_))
noncomputable def Ent (z:List Int):Prop:=∀x∈z,-(10^18)<=x/\x<=10^18
noncomputable def uP_ (B:List Int->Prop) (f:Sh->Sh->Sh):Sp:=fun vs H Q _=>∃(v u:V) (x y:Sh),vs=[v,u]/\Is H (shD x) v/\Is H (shD y) u/\Sms x/\Sms y/\B x.2/\∀v' H',ak_ H H'->Is H' (shD (f x y)) v'->Q v' H'
noncomputable def tA_:Sp:=fun vs H Q _=>∃w:Nat,vs=[.int w]/\1<=w/\w<=60/\∀v' H',ak_ H H'->Is H' (shD (aS_ w)) v'->Q v' H'
noncomputable def vl_:Sp:=fun vs H Q _=>∃n:Int,vs=[.int n]/\∀v' H',ak_ H H'->Is H' (shD (ofN n)) v'->Q v' H'
noncomputable def tz_:Sp:=fun vs H Q _=>∃(v:V) (ws:List Int),vs=[v]/\Is H (.l (ws.map .i)) v/\rl_ ws (ofN 1)=true/\∀v' H',ak_ H H'->Is H' (shD (s6_ ws)) v'->Q v' H'
noncomputable def KnS (d:Nat) (e0:List Pt) (Wq:List Pt->Sh) (H:Hp) (kvs:List (List (List Int)×V)):Prop:=(kvs.map (·.1)).Nodup/\(∀x∈kvs,∃ps,a2_ d ps/\x.1=wk ps)/\(∀ps v,c4_ kvs (wk ps)=some v->Is H (shD (Wq ps)) v)/\∃v,c4_ kvs (wk e0)=some v
theorem KnS.lts {d:Nat}{e0:List Pt}{Wq:List Pt->Sh}{H H':Hp}{kvs:List (List (List Int)×V)} (h:KnS d e0 Wq H kvs) (s:LTS H H'):KnS d e0 Wq H' kvs:=⟨h.1,h.2.1,fun ps v e=>(h.2.2.1 ps v e).lts s,h.2.2.2⟩
theorem KnS.len {d:Nat} (hd:d<=4) {e0:List Pt}{Wq:List Pt->Sh}{H:Hp}{kvs:List (List (List Int)×V)} (h:KnS d e0 Wq H kvs):kvs.length<=32768:=by
 have e:((kvs.map fun x=>(x.1,(0:Int))).map (·.1))=kvs.map (·.1):=by rw [BW];rfl
 have:=pM_ hd (R:=kvs.map fun x=>(x.1,(0:Int))) (by rw [e];exact h.1) fun x hx=>by
  obtain⟨y,hy,rfl⟩:=Ac.mp hx;exact h.2.1 y hy
 rwa [A2] at this
theorem hh_ {κ:Type} [DecidableEq κ] {kvs:List (κ×V)}{k:κ}{v:V}:(∀x∈dh_ kvs k v,x.1∈kvs.map (·.1)\/x.1=k)/\((kvs.map (·.1)).Nodup->((dh_ kvs k v).map (·.1)).Nodup):=by
 cases e:c4_ kvs k with
 |none=>
  refine⟨fun x hx=> ?_,fun nd=> ?_⟩
  rotate_left 1
  .rw [jA_ v e,AA];refine List.nodup_append.mpr ⟨nd,by simp,fun a ha b hb z=> ?_⟩;rw [List.map_singleton,AU] at hb;rw [z,hb] at ha;have:=b9_ k kvs;rw [e] at this;obtain⟨y,hy,ey⟩:=Ac.mp ha;rw [List.any_eq_true.mpr ⟨y,hy,B5 ey⟩] at this;cases this
  rw [jA_ v e] at hx;rcases B7.mp hx with hx|hx
  .exact .inl (Ac.mpr ⟨x,hx,rfl⟩)
  .rw [AU.mp hx];exact .inr rfl
 |some y=>
  have hk:dh_ kvs k v=kvs.map fun kv=>if kv.1=k then(kv.1,v) else kv:=by
   have:=b9_ k kvs;rw [e] at this;unfold dh_;rw [A6 (show _=true from this)]
  have ek:(dh_ kvs k v).map (·.1)=kvs.map (·.1):=by
   rw [hk,BW];refine BA fun x _=> ?_;show(if x.1=k then(x.1,v) else x).1=x.1;split<;>rfl
  exact⟨fun x hx=> .inl (by rw [<-ek];exact Ac.mpr ⟨x,hx,rfl⟩),fun nd=>by rw [ek];exact nd⟩
theorem KnS.put {d:Nat}{e0:List Pt}{Wq:List Pt->Sh}{H:Hp}{kvs:List (List (List Int)×V)} (h:KnS d e0 Wq H kvs) {ps:List Pt}{v:V} (ok:a2_ d ps) (hv:Is H (shD (Wq ps)) v):KnS d e0 Wq H (dh_ kvs (wk ps) v):=by
 refine⟨hh_.2 h.1,fun x hx=> ?_,fun qs u e=> ?_, ?_⟩
 .rcases hh_.1 x hx with e|e
  .obtain⟨y,hy,ey⟩:=Ac.mp e;rw [<-ey];exact h.2.1 y hy
  .exact⟨ps,ok,e⟩
 .rw [fR_] at e;split at e
  .rename_i q;rw [oR_ q];cases e;exact hv
  .exact h.2.2.1 qs u e
 .rw [fR_];split
  .exact⟨_,rfl⟩
  .exact h.2.2.2
theorem KnS.one {d:Nat}{e0:List Pt}{Wq:List Pt->Sh}{H:Hp}{v:V} (ok:a2_ d e0) (h:Is H (shD (Wq e0)) v):KnS d e0 Wq H [(wk e0,v)]:=by
 refine⟨by simp,fun x hx=>⟨e0,ok,by rw [AU.mp hx]⟩,fun ps u e=> ?_,v,a1_ rfl⟩;by_cases q:wk e0=wk ps
 .rw [a1_ q] at e;cases e;rw [<-oR_ q];exact h
 .rw [bb_ q] at e;cases e
noncomputable def ty_ (P:Program) (w:World) (n:Nat):Sp:=fun vs H Q _=>∃(d:Nat) (v:V) (kn:Addr) (ps:List Pt) (kvs:List (List (List Int)×V)) (sg:Int) (e0:List Pt) (mu:List Pt->Int),vs=[.int d,v, .int sg, .ref kn]/\SdM d sg e0 mu/\d<=4/\Is H (pts ps) v/\a2_ d ps/\mu ps+1<=n/\DN P w H kn kvs/\KnS d e0 (wS d sg e0) H kvs/\∀kvs' v' H',But kn H H'->DN P w H' kn kvs'->KnS d e0 (wS d sg e0) H' kvs'->Is H' (shD (wS d sg e0 ps)) v'->Q v' H'
noncomputable def Nrw (v u:V):Prop:=∃d k:Nat,v= .int d/\u= .int k/\aL_ d k
noncomputable def vh_ (c:Addr):Sp:=fun vs H Q E=>∃v u,vs=[v,u]/\b8_ H v/\b8_ H u/\(∀d k:Nat,v= .int d->u= .int k->aL_ d k->∀v' H',ak_ H H'->Is H' (shD (v71 d k)) v'->Q v' H')/\(¬Nrw v u->E (.ref c) none H)
noncomputable def vi_ (c:Addr):Sp:=fun vs H Q E=>∃v u,vs=[v,u]/\b8_ H v/\b8_ H u/\(∀d k:Nat,v= .int d->u= .int k->Wide d k->aL_ d k/\∀v' H',ak_ H H'->Is H' (shD (v71 d k)) v'->Q v' H')/\(¬Wd v u->E (.ref c) none H)
noncomputable def tH_:Sp:=fun vs H Q _=>∃(wt:Int) (v u:V),vs=[.int wt,v,u]/\b8_ H v/\b8_ H u/\(wt=0->¬Nrw v u)/\(wt≠0->¬Wd v u)/\∀H',ak_ H H'->Q (.bl true) H'
section
variable {P:Program}{w:World}{K:W.Frag}{mg:Str->Option Value}{base:Heap} (T:Fns K mg)
theorem eS_:FnOk P w K mg base CX0 1 T.f41 T.d41 ["_law_script","_law_k"] (rV_ K):=by
 refine T.X41.F.ok eI_ (fun vs H Q E h=> ?_) (fun cdv A outer s H vs Q E hr h=> ?_)
 .obtain⟨_,_,_,rfl,_⟩:=h;rfl
 .obtain⟨a,ns,k,rfl,hS,h0,kk⟩:=h;refine⟨_,(ad_ (b2_ (aD_ qo_ (pv 1) (aC_ a7_ (by rfl) T.n_len boot_len (aa_ (pv 0) ab_)) (aK_ _)) (af_ (aq_ (aw_ c0_ (pv 0) (pv 1) (fun _ _=>rfl)))) aJ_)
   (af_ (aq_ ac_))), ?_⟩
  refine⟨_,rfl,_,rfl,a,_,rfl, .inl hS,_,_,rfl,rfl,_,rfl, ?_⟩;refine iS_ (fun h=> ?_) (fun _=>kk 0);rw [A2] at h;have hk:k.toNat<ns.length:=by lia
  refine⟨_,rfl,_,rfl,a,_,k, .int ns[k.toNat],rfl,rfl,hS, ?_,kk _⟩;have e:((k.toNat:Nat):Int)=k:=by lia
  have:=fa_ (xs:=ns.map V.int) (j:=k.toNat) (v:= .int ns[k.toNat]) (by simp [hk]);rw [e] at this;exact this
theorem bH_:FnOk P w K mg base CX0 2 T.f42 T.d42 ["_law_script","_law_k"] (nE_ K):=by
 refine T.X42.F.ok bg_ (fun vs H Q E h=> ?_) (fun cdv A outer s H vs Q E hr h=> ?_)
 .obtain⟨_,_,_,rfl,_⟩:=h;rfl
 .obtain⟨a,ns,k,rfl,hS,h0,h1,kk⟩:=h;refine⟨_,(ad_ (ar_ (i:=2) bg_.nd rfl (by trivial) (ah_ (eS_ T) (hr.mono (by decide)) (by rfl) T.X41.m T.X41.F.kp T.X41.B .nil as_ (aa_ (pv 0) (aa_ (pv 1) ab_))))
   (ad_ (b2_ (aD_ l1_ (aC_ gW_ (by rfl) T.n_abs boot_abs (aa_ (pv 2) ab_)) (aj_ lZ_ ac_ ac_) (aK_ _)) (af_ (aq_ (aC_ gW_ (by rfl) T.n_abs boot_abs (aa_ (pv 2) ab_)))) aJ_)
   (ad_ (ar_ (i:=3) bg_.nd rfl (by trivial) (aj_ cX_ (aj_ aA_ (aj_ aA_ (aj_ aA_ (aj_ bn_ (pv 2) (aj_ aA_ (aj_ bn_ ac_ (pv 1)) ac_)) (aj_ bn_ (aj_ bn_ ac_ (pv 1)) (pv 1))) (aj_ bn_ ac_ (pv 1))) ac_) ac_))
   (ad_ (ar_ (i:=3) bg_.nd rfl (by trivial) (aj_ cX_ (aj_ aA_ (aj_ bn_ (pv 3) ac_) ac_) ac_))
   (ad_ (ar_ (i:=4) bg_.nd rfl (by trivial) (aj_ cX_ (aj_ aA_ (aj_ aA_ (aj_ bn_ (pv 3) ac_) (aj_ bn_ ac_ (pv 1))) ac_) ac_))
   (af_ (aq_ (aj_ aA_ (aj_ bn_ (pv 3) ac_) (aj_ bn_ (pv 4) (aj_ aA_ (aj_ cX_ (pv 3) ac_) ac_)))))))))), ?_⟩
  refine⟨_,rfl,_,rfl,a,ns,k,rfl,hS,h0,fun z=> ?_⟩;refine⟨_,rfl,z,rfl,10,18,rfl,rfl,⟨by decide,by decide,by decide⟩,_,_,rfl,rfl,_,rfl, ?_⟩;refine iS_ (fun _=> ?_) (fun _=> ?_)
  .exact⟨_,rfl,z,rfl,kk _ (by split<;>lia)⟩
  .refine⟨_,rfl,_,rfl,_,_,rfl,rfl, .inl ⟨by decide,by decide⟩,_,_,rfl,rfl,_,_,rfl,rfl, .inr ⟨by lia,by lia⟩, ?_⟩;refine⟨_,rfl,_,_,rfl,rfl, .inl ⟨by decide,by decide⟩,_,rfl,_,_,rfl,rfl, .inr ⟨by lia,by lia⟩,_,_,rfl,rfl, ?_⟩;refine⟨_,rfl,_,_,rfl,rfl, .inl ⟨by decide,by decide⟩,_,_,rfl,rfl,_,_,rfl,rfl,_,_,rfl,rfl,(show(0:Int)<2147483629 by decide), ?_⟩;refine⟨_,rfl,_,_,rfl,rfl, .inr ⟨by decide,by decide⟩,_,_,rfl,rfl,_,_,rfl,rfl,(show(0:Int)<2147483647 by decide), ?_⟩;dsimp only;generalize (z*(2*k+3)+7919*k*k+104729*k+12345)%2147483629=u;have e1:0<=(u*48271+97)%2147483647:=by lia
   generalize (u*48271+97)%2147483647=v at e1⊢;refine⟨_,rfl,_,_,rfl,rfl, .inr ⟨by decide,by decide⟩,_,rfl,_,_,rfl,rfl, .inl ⟨by decide,by decide⟩,_,_,rfl,rfl,_,_,rfl,rfl,_,_,rfl,rfl,(show(0:Int)<998244353 by decide), ?_⟩;dsimp only;have e2:0<=(v*69621+31*k+7)%998244353:=by lia
   generalize (v*69621+31*k+7)%998244353=x at e2⊢;refine⟨_,rfl,_,_,rfl,rfl, .inr ⟨by decide,by decide⟩,_,rfl,_,rfl,_,_,rfl,rfl,(show(0:Int)<1009 by decide),_,_,rfl,rfl,_,_,rfl,rfl, .inr ⟨by lia,by lia⟩,_,_,rfl,rfl, ?_⟩;exact kk _ (Int.add_nonneg (by lia) (D1 e2 (by lia)))
theorem iI_:FnOk P w K mg base CX0 1 T.f0 T.d0 ["thing"] nD_:=by
 refine T.X0.F.ok ir_ (fun vs H Q E h=> ?_) (fun cdv A outer s H vs Q E hr h=> ?_)
 .obtain⟨_,rfl,_⟩:=h;rfl
 .obtain⟨v,rfl,ht,kk⟩:=h;refine⟨_,(af_ (aq_ (jH_ (aC_ ko_ (by rfl) T.n_isinstance boot_isinstance (aa_ (pv 0) (aa_ (iD_ (v:= .ty "int") (by rfl) T.n_int boot_int (by rfl)) ab_))) (lP_ (sa_ (aC_ ko_ (by rfl) T.n_isinstance boot_isinstance (aa_ (pv 0) (aa_ (iD_ (v:= .ty "bool") (by rfl) T.n_bool boot_bool (by rfl)) ab_)))))))), ?_⟩;rcases ht with⟨i,rfl⟩|⟨b,rfl⟩|rfl|⟨x,rfl⟩|⟨a,xs,rfl,ha⟩|⟨a,xs,rfl,ha⟩
  .exact⟨_,rfl,_,"int",_,true,rfl, .int i,jX_,true,rfl,j4_ ⟨_,rfl,_,"bool",_,false,rfl, .int i,hI_,false,rfl,kk⟩⟩
  .exact⟨_,rfl,_,"int",_,true,rfl, .bl b,hJ_,true,rfl,j4_ ⟨_,rfl,_,"bool",_,true,rfl, .bl b,jX_,true,rfl,kk⟩⟩
  .exact⟨_,rfl,_,"int",_,false,rfl, .non,hG_,false,rfl,fm_ kk⟩
  .exact⟨_,rfl,_,"int",_,false,rfl, .str x,iR_,false,rfl,fm_ kk⟩
  .exact⟨_,rfl,_,"int",_,false,rfl, .lst ha,hH_,false,rfl,fm_ kk⟩
  .exact⟨_,rfl,_,"int",_,false,rfl, .tup ha,gF_,false,rfl,fm_ kk⟩
theorem FnOk.quiet {k:Nat}{f:Addr}{fd:FuncData}{ps:List Str}{sp:Sp} (F:FnOk P w K mg base (CX1 P w) k f fd ps sp):FnOk P w K mg base CX0 k f fd ps (fun vs H Q _=>sp vs H Q E0):=
 ⟨fun vs H Q E h=>F.len vs H Q E0 h,fun A outer s H args us vs Q E hr he hb hv hs=>Ce (F.run A outer s H args us vs Q E0 hr he hb hv hs) fun r s' h=>by
  cases r with
  |ok r=>cases r<;>exact h
  |error e=>
   obtain⟨_,_,_,_,_,_,z,_⟩:=h;exact z.elim⟩
theorem a6_:FnOk P w K mg base (CX1 P w) 2 T.f1 T.d1 ["thing","least","greatest"] (vo_ T.c_NoBound):=by
 refine T.X1.F.okx eH_ (fun vs H Q E h=> ?_) (fun cdv A outer s H vs Q E hr h hR hp=> ?_)
 .obtain⟨_,_,_,rfl,_⟩:=h;rfl
 .obtain⟨v,lo,hi,rfl,ht,kk,ke⟩:=h;refine⟨_,(af_ (b2_ (nU_ (eN_ (hi_ (ah_ (iI_ T) (hr.mono (by decide)) (by rfl) T.X0.m T.X0.F.kp T.X0.B .nil as_ (aa_ (pv 0) ab_)))) (nU_ (aD_ qo_ (pv 0) (pv 1) (aK_ _)) (lD_ (aD_ n7_ (pv 0) (pv 2) (aK_ _))))).pt (af_ (nW_ hR (by rfl) T.m_NoBound T.x_NoBound rfl (aa_ (qk_ (gd_ lO_ (gd_ (lR_ (pv 1)) (gd_ lO_ (gd_ (lR_ (pv 2)) r6_))))) ab_))) aJ_)), ?_⟩;have no:¬Within lo hi v->∀D:Ends,oV_ T.c_NoBound E (db_ (fun σ H Q=>tJc (tC (.str "not a whole number from ")) (tJc (fun σ H Q=>s4_ 1 σ H fun x H1=>∃i,x= .int i/\i.natAbs.log2<1920/\Q (.str (toString i)) H1) (tJc (tC (.str " to ")) (tJc (fun σ H Q=>s4_ 2 σ H fun x H1=>∃i,x= .int i/\i.natAbs.log2<1920/\Q (.str (toString i)) H1) tJn)))
    Str.empty σ H Q) nw_) D [some v,some (.int lo),some (.int hi)] H:=fun hn D=>by
   obtain⟨⟨l1,l2,l3,l4⟩,he⟩:=ke hn;obtain⟨a,rfl⟩:=AX l1;obtain⟨b,rfl⟩:=AX l3;have y:=o1_ a (by lia) b (by lia);have z:=o1_ b (by lia) a (by lia);simp only [AC,AT] at y z;obtain⟨⟨⟨⟨y1,y2⟩,y3⟩,y4⟩,y5⟩:=y;exact⟨_,rfl,y2,_,rfl,_,rfl,y1,_,rfl,y3,_,rfl,y4,_,rfl,_,rfl,z.1.1.1.1,_,rfl,y5,y5,(by show 1<=sizeLine;decide),he⟩
  refine⟨v,rfl,v,rfl,ht,isI v,rfl, ?_⟩;cases hv:isI v with
  |false=>exact j4_ (j4_ (no (fun hw=>by rw [ks_ hw] at hv;cases hv) _))
  |true=>
   obtain⟨i,rfl⟩:∃i,v= .int i:=by
    cases v<;>first|exact⟨_,rfl⟩|cases hv
   refine fm_ ⟨_,rfl,_,rfl,i,lo,rfl,rfl,_,rfl,iS_ (fun hl=> ?_) (fun hl=> ?_)⟩
   .exact j4_ (no (fun⟨j,e,h1,h2⟩=>by cases e;lia) _)
   .refine⟨_,rfl,_,rfl,i,hi,rfl,rfl,_,rfl,iS_ (fun hg=> ?_) (fun hg=> ?_)⟩
    .exact no (fun⟨j,e,h1,h2⟩=>by cases e;lia) _
    .exact kk ⟨i,rfl,by lia,by lia⟩
theorem bG_:FnOk P w K mg base (CX1 P w) 3 T.f4 T.d4 ["d"] (tL_ T.c_NoBound):=by
 refine T.X4.F.okx fh_ (fun vs H Q E h=> ?_) (fun cdv A outer s H vs Q E hr h hR hp=> ?_)
 .obtain⟨_,rfl,_⟩:=h;rfl
 .obtain⟨v,rfl,ht,kk,ke⟩:=h;refine⟨_,(af_ (aG_ (ah_ (a6_ T) (hr.mono (by decide)) (by rfl) T.X1.m T.X1.F.kp T.X1.B .nil hp (aa_ (pv 0) (aa_ ac_ (aa_ ac_ ab_)))))), ?_⟩;exact⟨v,rfl,v,1,5,rfl,ht,kk,fun h=>⟨by decide,ke h⟩⟩
theorem cZ_:FnOk P w K mg base CX0 3 T.f4 T.d4 ["d"] (rU_ K):=
 FnOk.imp (FnOk.quiet (bG_ T)) fun vs H Q E ⟨i,e,h1,h2,q⟩=>⟨.int i,e, .inl ⟨_,rfl⟩,fun _=>q,fun h=>absurd ⟨i,rfl,h1,h2⟩ h⟩
theorem el_:FnOk P w K mg base (CX1 P w) 3 T.f3 T.d3 ["d","k"] (tx_ T.c_NoBound):=by
 refine T.X3.F.okx hd_ (fun vs H Q E h=> ?_) (fun cdv A outer s H vs Q E hr h hR hp=> ?_)
 .obtain⟨_,_,rfl,_⟩:=h;rfl
 .obtain⟨v,u,rfl,ht,hu,kk,ke⟩:=h;refine⟨_,(ad_ (aG_ (ah_ (a6_ T) (hr.mono (by decide)) (by rfl) T.X1.m T.X1.F.kp T.X1.B .nil hp (aa_ (pv 0) (aa_ ac_ (aa_ ac_ ab_)))))
   (af_ (aG_ (ah_ (a6_ T) (hr.mono (by decide)) (by rfl) T.X1.m T.X1.F.kp T.X1.B .nil hp (aa_ (pv 1) (aa_ ac_ (aa_ (jG_ (ge_ (v:= .ref T.a_WIDE) (by rfl) T.m_WIDE (by rfl)) (pv 0) (fun _ _=>rfl)) ab_))))))), ?_⟩
  refine⟨_,rfl,v,1,5,rfl,ht,fun⟨i,ei,i1,i2⟩=> ?_,fun hn=>⟨by decide,ke fun⟨d,k,e1,_,hN⟩=>hn ⟨_,e1,by unfold Wide at hN;lia,by unfold Wide at hN;lia⟩⟩⟩;subst ei;obtain⟨d,rfl⟩:=AX (show 0<=i by lia);have hd:d=1\/d=2\/d=3\/d=4\/d=5:=by lia
  obtain⟨hi,hl,hb,hN⟩:∃hi:Int,([(1,6),(2,6),(3,6),(4,6),(5,3)]:List (Int×Int)).lookup (d:Int)=some hi/\(0<=hi/\hi<=20)/\∀k:Nat,Wide d k↔(k:Int)<=hi:=by
   rcases hd with rfl|rfl|rfl|rfl|rfl
   .exact⟨6,rfl,by decide,fun k=>by unfold Wide;lia⟩
   .exact⟨6,rfl,by decide,fun k=>by unfold Wide;lia⟩
   .exact⟨6,rfl,by decide,fun k=>by unfold Wide;lia⟩
   .exact⟨6,rfl,by decide,fun k=>by unfold Wide;lia⟩
   .exact⟨3,rfl,by decide,fun k=>by unfold Wide;lia⟩
  refine⟨_,rfl,_,rfl,T.a_WIDE,_,d,hi,rfl,T.D_WIDE,rfl,hl,u,0,hi,rfl,hu,fun⟨j,ej,j1,j2⟩=> ?_,fun hn=>⟨⟨by decide,by decide,hb⟩,ke fun⟨d',k,e1,e2,hNk⟩=> ?_⟩⟩
  .obtain⟨k,rfl⟩:=AX j1;exact kk ⟨d,k,rfl,ej,(hN k).mpr j2⟩
  .obtain rfl:d'=d:=by have:=V.int.inj e1;lia
   exact hn ⟨k,e2,by lia,(hN k).mp hNk⟩
theorem gi_:FnOk P w K mg base CX0 3 T.f3 T.d3 ["d","k"] (rM_ K):=
 FnOk.imp (FnOk.quiet (el_ T)) fun vs H Q E ⟨d,k,e,hW,q⟩=>⟨.int d, .int k,e, .inl ⟨_,rfl⟩, .inl ⟨_,rfl⟩,fun _=>q,fun h=>absurd ⟨d,k,rfl,rfl,hW⟩ h⟩
theorem dj_:FnOk P w K mg base (CX1 P w) 3 T.f2 T.d2 ["d","k"] (tF_ T.c_NoBound):=by
 refine T.X2.F.okx fg_ (fun vs H Q E h=> ?_) (fun cdv A outer s H vs Q E hr h hR hp=> ?_)
 .obtain⟨_,_,rfl,_⟩:=h;rfl
 .obtain⟨v,u,rfl,ht,hu,kk,ke⟩:=h;refine⟨_,(ad_ (aG_ (ah_ (a6_ T) (hr.mono (by decide)) (by rfl) T.X1.m T.X1.F.kp T.X1.B .nil hp (aa_ (pv 0) (aa_ ac_ (aa_ ac_ ab_)))))
   (af_ (aG_ (ah_ (a6_ T) (hr.mono (by decide)) (by rfl) T.X1.m T.X1.F.kp T.X1.B .nil hp (aa_ (pv 1) (aa_ ac_ (aa_ (jG_ (ge_ (v:= .ref T.a_NARROW) (by rfl) T.m_NARROW (by rfl)) (pv 0) (fun _ _=>rfl)) ab_))))))), ?_⟩
  refine⟨_,rfl,v,1,4,rfl,ht,fun⟨i,ei,i1,i2⟩=> ?_,fun hn=>⟨by decide,ke fun⟨d,k,e1,_,hN⟩=>hn ⟨_,e1,by unfold aL_ at hN;lia,by unfold aL_ at hN;lia⟩⟩⟩;subst ei;obtain⟨d,rfl⟩:=AX (show 0<=i by lia);have hd:d=1\/d=2\/d=3\/d=4:=by lia
  obtain⟨hi,hl,hb,hN⟩:∃hi:Int,([(1,6),(2,6),(3,6),(4,2)]:List (Int×Int)).lookup (d:Int)=some hi/\(0<=hi/\hi<=20)/\∀k:Nat,aL_ d k↔(k:Int)<=hi:=by
   rcases hd with rfl|rfl|rfl|rfl
   .exact⟨6,rfl,by decide,fun k=>by unfold aL_;lia⟩
   .exact⟨6,rfl,by decide,fun k=>by unfold aL_;lia⟩
   .exact⟨6,rfl,by decide,fun k=>by unfold aL_;lia⟩
   .exact⟨2,rfl,by decide,fun k=>by unfold aL_;lia⟩
  refine⟨_,rfl,_,rfl,T.a_NARROW,_,d,hi,rfl,T.D_NARROW,rfl,hl,u,0,hi,rfl,hu,fun⟨j,ej,j1,j2⟩=> ?_,fun hn=>⟨⟨by decide,by decide,hb⟩,ke fun⟨d',k,e1,e2,hNk⟩=> ?_⟩⟩
  .obtain⟨k,rfl⟩:=AX j1;exact kk ⟨d,k,rfl,ej,(hN k).mpr j2⟩
  .obtain rfl:d'=d:=by have:=V.int.inj e1;lia
   exact hn ⟨k,e2,by lia,(hN k).mp hNk⟩
theorem d8_:FnOk P w K mg base CX0 4 T.f10 T.d10 ["d","drawing"] (rS_ K):=by
 refine T.X10.F.ok cp_ (fun vs H Q E h=> ?_) (fun cdv A outer s H vs Q E hr h=> ?_)
 .obtain⟨_,_,_,rfl,_⟩:=h;rfl
 .obtain⟨n,dv,ps,rfl,n1',n5',hd,hok,k2⟩:=h;refine⟨_,(ad_ (aG_ (ah_ (cZ_ T) (hr.mono (by decide)) (by rfl) T.X4.m T.X4.F.kp T.X4.B .nil as_ (aa_ (pv 0) ab_)))
   (ad_ (ar_ (i:=2) cp_.nd rfl (by trivial) (aj_ iF_ (aE_ (aa_ ac_ ab_)) (pv 0)))
   (ad_ (aQ_ AR rfl (a4_ (pv 1)) (cr_ rfl (av_ (am_ (i:=3) cp_.nd rfl (by trivial)) (av_ (am_ (i:=4) cp_.nd rfl (by trivial)) (av_ (am_ (i:=5) cp_.nd rfl (by trivial)) bE_)))) (ad_ (gb_ (pv 2) (aj_ aF_ (pv 3) ac_) ex_ (pv 5) sD_ eq_)
   (af_ (gb_ (pv 2) (aj_ aF_ (pv 4) ac_) ex_ (pv 5) j9_ eq_))))
   (af_ (aq_ (pv 2)))))), ?_⟩
  refine⟨_,rfl,n,rfl,by lia,by lia, ?_⟩;refine⟨(by show 1<=sizeLine;decide),fun l1 H1 n1 s1 h1=> ?_⟩;refine⟨_,rfl, .i 1,n,cu_ h1 (ai_ kT_ an_),rfl,by lia,by lia,AW (al_ (by lia)),fun l H2 n2 s2 h2=> ?_⟩;rw [Ab] at h2;obtain⟨_,vs2,e2,hl2,hi2⟩:=cI_ h2;cases e2;rw [<-List.map_replicate] at hi2;rw [dU_ hi2] at hl2;have s12:=s1.trans s2;obtain⟨da,dvs,rfl,hda,hdi⟩:=cI_ hd;have hlen:dvs.length=ps.length:=by rw [hdi.length,A2]
  refine⟨_,rfl,da,rfl,⟨_,SqL.of (s12 _ _ hda)⟩,bB_ (xs:=dvs) (fun i σ H3=>(∃v3 v4 v5,σ=[some (.int n),some (.ref da),some (.ref l),v3,v4,v5])/\ak_ H H3/\H3 l=some (.lst (((ps.take i).foldl d9_ (List.replicate n 1)).map V.int)))
   ⟨⟨none,none,none,rfl⟩,s12,hl2⟩ (fun i σ H3 _ h=>SqL.of (h.2.1 _ _ hda)) ?_ ?_⟩
  .rintro i y σ H3 hi ⟨⟨v3,v4,v5,rfl⟩,s3,hl3⟩;obtain⟨dd,hdd,hy⟩:=hdi.of_get hi;rw [A7] at hdd;obtain⟨p,hp',rfl⟩:=A4.mp hdd;obtain⟨t,rfl,hta⟩:=ht_ hy;obtain⟨o1,o2,o3,o4⟩:=hok p (Aq hp');have el:=(gO_ (ps.take i) (List.replicate n 1) (by simp) fun q hq=>hok q (Cg hq)).1;have en:(ps.take (i+1)).foldl d9_ (List.replicate n 1)=d9_ ((ps.take i).foldl d9_ (List.replicate n 1)) p:=by
    rw [Aa,hp',List.foldl_append];rfl
   rw [en];generalize (ps.take i).foldl d9_ (List.replicate n 1)=e at hl3 el⊢;have nl:H l=none:=s1.free n2;refine⟨t,_,rfl,SqT.of (s3 _ _ hta),rfl, ?_⟩;refine⟨_,_,rfl,_,_,rfl,_,_,rfl,rfl, ?_⟩;have j1:(p.1-1).toNat<e.length:=by lia
   have j2:(p.2.1-1).toNat<e.length:=by lia
   have k1:p.1-1=((p.1-1).toNat:Int):=by lia
   have kq:p.2.1-1=((p.2.1-1).toNat:Int):=by lia
   have g1:(e.map V.int)[(p.1-1).toNat]? =some (.int (e.getD (p.1-1).toNat 0)):=by
    exact iU_ j1
   refine⟨_,rfl,_,rfl,_,_,rfl,rfl, ?_⟩;refine⟨l,_,(p.1-1).toNat,_,_,rfl,rfl,k1,SqL.of hl3,g1, ?_⟩;refine⟨_,rfl,_,_,rfl,rfl,l,_,_,(p.1-1).toNat,rfl,rfl,hl3,by rw [k1,A2];exact gI_ j1, ?_⟩;rw [<-map_set];have j2':(p.2.1-1).toNat<(e.set (p.1-1).toNat (e.getD (p.1-1).toNat 0-p.2.2)).length:=by rw [BZ];exact j2
   have g2:((e.set (p.1-1).toNat (e.getD (p.1-1).toNat 0-p.2.2)).map V.int)[(p.2.1-1).toNat]? =some (.int ((e.set (p.1-1).toNat (e.getD (p.1-1).toNat 0-p.2.2)).getD (p.2.1-1).toNat 0)):=by
    exact iU_ j2'
   refine⟨_,rfl,_,rfl,_,_,rfl,rfl, ?_⟩;refine⟨l,_,(p.2.1-1).toNat,_,_,rfl,rfl,kq,SqL.of ae_,g2, ?_⟩;refine⟨_,rfl,_,_,rfl,rfl,l,_,_,(p.2.1-1).toNat,rfl,rfl,ae_,by rw [kq,A2];exact gI_ j2', ?_⟩;rw [<-map_set,pF_];exact⟨⟨_,_,_,rfl⟩,s3.put nl,ae_⟩
  .rintro σ H3 ⟨⟨v3,v4,v5,rfl⟩,s3,hl3⟩;rw [hlen,Al] at hl3;exact⟨_,rfl,k2 l H3 s3 (s1.free n2) hl3⟩
theorem gl_:FnOk P w K mg base CX0 1 T.f12 T.d12 ["lift"] (rQ_ K):=by
 refine T.X12.F.ok p4_ (fun vs H Q E h=> ?_) (fun cdv A outer s H vs Q E hr h=> ?_)
 .obtain⟨_,_,rfl,_⟩:=h;rfl
 .obtain⟨v,p,rfl,hv,⟨p1,p2,p3,p4⟩,kk⟩:=h;refine⟨_,(af_ (aq_ (aj_ aF_ (aj_ bn_ (aj_ aF_ (aw_ au_ (pv 0) ac_ (fun _ _=>rfl)) (aw_ au_ (pv 0) ac_ (fun _ _=>rfl))) (aw_ au_ (pv 0) ac_ (fun _ _=>rfl))) ac_))), ?_⟩;refine⟨_,rfl,_,1,_,hv,rfl,rfl,fun u hu=> ?_⟩;rw [cn_ hu];refine⟨_,rfl,_,0,_,hv,rfl,rfl,fun u hu=> ?_⟩;rw [cn_ hu];refine⟨_,_,rfl,rfl,_,rfl,_,2,_,hv,rfl,rfl,fun u hu=> ?_⟩;rw [cn_ hu];exact⟨_,_,rfl,rfl, .inr ⟨by lia,by lia⟩,_,_,rfl,rfl,kk⟩
theorem gm_:FnOk P w K mg base CX0 2 T.f13 T.d13 ["d","floor","weight","spare"] (tG_ K):=by
 refine T.X13.F.ok bU_ (fun vs H Q E h=> ?_) (fun cdv A outer s H vs Q E hr h=> ?_)
 .obtain⟨_,_,_,_,rfl,_⟩:=h;rfl
 .obtain⟨d,f,n,sp,rfl,fd,d5,n20,kk⟩:=h;refine⟨_,(ad_ (ar_ (i:=4) bU_.nd rfl (by trivial) (aE_ ab_))
   (ad_ (aQ_ AR rfl (cq_ (by rfl) T.n_range (aa_ (aj_ aA_ (pv 1) ac_) (aa_ (aj_ aA_ (pv 0) ac_) ab_))) (am_ (i:=5) bU_.nd rfl (by trivial)) (af_ (aQ_ AR rfl (cq_ (by rfl) T.n_range (aa_ ac_ (aa_ (aj_ aA_ (pv 2) ac_) ab_))) (am_ (i:=6) bU_.nd rfl (by trivial)) (af_ (b2_ (aD_ n6_ (ah_ (gl_ T) (hr.mono (by decide)) (by rfl) T.X12.m T.X12.F.kp T.X12.B .nil as_ (aa_ (ay_ (aa_ (pv 1) (aa_ (pv 5) (aa_ (pv 6) ab_)))) ab_)) (pv 3) (aK_ _)) (af_ (aG_ (fj_ Ay BM BL bN_ (pv 4) (aa_ (ay_ (aa_ (pv 1) (aa_ (pv 5) (aa_ (pv 6) ab_)))) ab_)))) aJ_)))))
   (af_ (aq_ (pv 4))))), ?_⟩
  refine⟨AS _,fun fo H1 n1 s1 h1=> ?_⟩;refine⟨_,rfl,_,_,rfl,rfl,_,rfl,_,_,rfl,rfl,_,_,rfl,⟨by lia,by lia,by lia,by lia⟩, ?_⟩;rw [show((d:Int)+1-((f:Int)+1)).toNat=d-f by lia];refine bA_ (lo:=(f:Int)+1) (n:=d-f) (fun i σ H2=>(∃v5 v6,σ=[some (.int d),some (.int f),some (.int n),some (.int sp),some (.ref fo),v5,v6])/\ak_ H H2/\∃vs,H2 fo=some (.lst vs)/\Iss H2 ((kJ_ f i n sp).map lf) vs) ⟨⟨none,none,rfl⟩,s1,[],h1,an_⟩ ?_ ?_
  .rintro i σ H2 hi ⟨⟨v5,v6,rfl⟩,s2,vs2,hfo2,his2⟩;refine⟨_,rfl,_,_,rfl,rfl,_,_,rfl,⟨by decide,by decide,by lia,by lia⟩, ?_⟩;rw [show((n:Int)+1-1).toNat=n by lia];refine bA_ (lo:=1) (n:=n) (fun j σ H3=>(∃v6,σ=[some (.int d),some (.int f),some (.int n),some (.int sp),some (.ref fo),some (.int ((f:Int)+1+(i:Int))),v6])/\ak_ H H3/\∃vs,H3 fo=some (.lst vs)/\Iss H3 ((kJ_ f i n sp++nd_ f ((f:Int)+1+(i:Int)) j sp).map lf) vs) ⟨⟨v6,rfl⟩,s2,vs2,hfo2,by simpa [nd_] using his2⟩ ?_ ?_
   .rintro j σ H3 hj ⟨⟨v6,rfl⟩,s3,vs3,hfo3,his3⟩;have vl:vs3.length<=200:=by
     rw [his3.length,A2,AF];have a:=gC_ f n sp i;have b:=jT_ f ((f:Int)+1+(i:Int)) j sp;have:i*n<=5*20:=Nat.mul_le_mul (by lia) n20;lia
    refine⟨_,rfl,_,rfl,_,rfl,(by show 3<=sizeLine;decide),fun t H4 nt s4 ht=>⟨.ref t,((f:Int),(f:Int)+1+(i:Int),1+(j:Int)),rfl,mE_ ht,⟨?_, ?_, ?_, ?_⟩,_,rfl,_,_,rfl,rfl,_,rfl,iS_ (fun c=> ?_) (fun c=> ?_)⟩⟩
    .show 0<=(f:Int)+1+(i:Int)-(f:Int);lia
    .show(f:Int)+1+(i:Int)-(f:Int)<=10;lia
    .show 1<=1+(j:Int);lia
    .show 1+(j:Int)<=20;lia
    .refine⟨_,rfl, .inl ⟨rfl,_,SqL.of (s4 _ _ hfo3)⟩,_,rfl,_,rfl,_,rfl,(by show 3<=sizeLine;decide),fun t2 H5 nt2 s5 ht2=>⟨fo,vs3,_,rfl,rfl,s5 _ _ (s4 _ _ hfo3),al_ (by lia),⟨_,rfl⟩,(s3.trans (s4.trans s5)).put n1,_,ae_, ?_⟩⟩;rw [hB_,A6 c,<-BB];refine j7_ (dq_.upd (s5 _ _ (s4 _ _ hfo3))) ?_;rw [AA];exact(his3.mono (s4.trans s5)).append (ai_ (mE_ ht2) an_)
    .refine⟨⟨_,rfl⟩,s3.trans s4,vs3,s4 _ _ hfo3, ?_⟩;rw [hB_,A5 c,Bs];exact his3.mono s4
   .rintro σ H3 ⟨⟨v6,rfl⟩,s3,vs3,hfo3,his3⟩;exact⟨⟨_,_,rfl⟩,s3,vs3,hfo3,by rw [hC_];exact his3⟩
  .rintro σ H2 ⟨⟨v5,v6,rfl⟩,s2,vs2,hfo2,his2⟩;exact⟨_,rfl,kk fo H2 s2 n1 (cu_ hfo2 his2)⟩
theorem fw_:∀n:Nat,FnOk P w K mg base CX0 (n+1) T.f14 T.d14 ["lifts","weight","spare"] (rR_ n K)
 |0=>⟨fun vs H Q E h=>by obtain⟨_,_,_,_,_,_,_,h,h',_⟩:=h;lia,fun A outer s H args us vs Q E _ _ _ _ h=>by obtain⟨_,_,_,_,_,_,_,h,h',_⟩:=h;lia⟩
 |n+1=>by
  have ih:=fw_ n;refine T.X14.F.ok co_ (fun vs H Q E h=> ?_) (fun cdv A outer s H vs Q E hr h=> ?_)
  .obtain⟨_,_,_,_,rfl,_⟩:=h;rfl
  .obtain⟨v,ls,wt,sp,rfl,hv,hok,w0,w1,hL,hl,hn,kk⟩:=h;refine⟨_,(ad_ (ar_ (i:=3) co_.nd rfl (by trivial) (aE_ (aa_ (aE_ ab_) ab_)))
   (ad_ (aQ_ AR rfl (eO_ (by rfl) T.n_enumerate (pv 0)) (cr_ rfl (av_ (am_ (i:=4) co_.nd rfl (by trivial)) (av_ (am_ (i:=5) co_.nd rfl (by trivial)) bE_))) (af_ (b2_ (hg_ (aD_ n6_ (aw_ au_ (pv 5) ac_ (fun _ _=>rfl)) (pv 1) (aK_ _)) (f8_ (aD_ n6_ (ah_ (gl_ T) (hr.mono (by lia)) (by rfl) T.X12.m T.X12.F.kp T.X12.B .nil as_ (aa_ (pv 5) ab_)) (pv 2) (aK_ _)))).pt (af_ (aQ_ AR rfl (a4_ (ah_ ih hr (by rfl) T.X14.m T.X14.F.kp T.X14.B .nil as_ (aa_ (br_ cy_ (pv 0) (bR_ (pv 4)) ck_) (aa_ (aj_ aF_ (pv 1) (aw_ au_ (pv 5) ac_ (fun _ _=>rfl))) (aa_ (aj_ aF_ (pv 2) (ah_ (gl_ T) (hr.mono (by lia)) (by rfl) T.X12.m T.X12.F.kp T.X12.B .nil as_ (aa_ (pv 5) ab_))) ab_))))) (am_ (i:=6) co_.nd rfl (by trivial)) (af_ (aG_ (fj_ Ay BM BL bN_ (pv 3) (aa_ (aj_ cl_ (aE_ (aa_ (pv 5) ab_)) (pv 6)) ab_)))))) aJ_)))
   (af_ (aq_ (pv 3))))), ?_⟩
   obtain⟨da,dvs,rfl,hda,hdi⟩:=cI_ hv;have dlen:dvs.length=ls.length:=by rw [hdi.length,A2]
   refine⟨AS _,fun e0 H1 ne s1 he=>⟨(by show 1<=sizeLine;decide),fun fo H2 nf s2 hfo=> ?_⟩⟩;have nfH:H fo=none:=s1.free nf;have e0fo:e0≠fo:=by rintro rfl;rw [he] at nf;cases nf
   have acc0:Acc H H2 fo (([[]]:List (List Lf)).map lfs):=⟨[.ref e0],hfo,ai_ (cu_ (vs:=[]) (by rw [dn_ e0fo,ce_ ne];exact s2 _ _ he) an_) an_⟩;have tot:∀i:Nat,i<ls.length->1+((List.range i).flatMap (ea_ n ls wt sp)).length+(ea_ n ls wt sp i).length<=1000:=fun i hi=>by
    have:=gc_ (ea_ n ls wt sp) hi;rw [eY_,AF,B0] at hL;lia
   refine⟨_,rfl,da,rfl,⟨_,SqL.of (s2 _ _ (s1 _ _ hda))⟩,dY_ (xs:=dvs) (fun i σ H3=>(∃v4 v5 v6,σ=[some (.ref da),some (.int wt),some (.int sp),some (.ref fo),v4,v5,v6])/\ak_ H H3/\Acc H H3 fo (([[]]++(List.range i).flatMap (ea_ n ls wt sp)).map lfs)) ⟨⟨none,none,none,rfl⟩,s1.trans s2,by simpa using acc0⟩ (fun i σ H3 _ h=>SqL.of (h.2.1 _ _ hda)) ?_ ?_⟩
   .rintro i y σ H3 pa hi ⟨⟨v4,v5,v6,rfl⟩,s3,hacc⟩ np;obtain⟨dd,hdd,hy⟩:=hdi.of_get hi;rw [A7] at hdd;obtain⟨p,hp',rfl⟩:=A4.mp hdd;have hil:i<ls.length:=(AH.mp hp').1;obtain⟨p1,p2,p3,p4⟩:=id (hok p (Aq hp'));have tt:=tot i hil;have s34:ak_ H3 (upd H3 pa (.tup [.int i,y])):=ak_.new np;have hacc4:=hacc.mono s34;have stay:ea_ n ls wt sp i=[]->Acc H (upd H3 pa (.tup [.int i,y])) fo (([[]]++(List.range (i+1)).flatMap (ea_ n ls wt sp)).map lfs):=fun e=>by
     rw [cv_,e,Bs];exact hacc4
    have hlf:Is (upd H3 pa (.tup [.int i,y])) (lf p) y:=(hy.mono s3).mono s34;refine⟨pa,_,rfl,SqT.of ae_,rfl,_,_,rfl,_,_,rfl,rfl, ?_⟩;generalize upd H3 pa (.tup [.int i,y])=H4 at s34 hacc4 stay hlf⊢;have s4:ak_ H H4:=s3.trans s34;refine⟨_,rfl,_,2,_,hlf,rfl,rfl,fun u hu=> ?_⟩;rw [cn_ hu];refine⟨_,rfl,_,_,rfl,rfl,_,rfl,iS_ (fun c1=> ?_) (fun c1=> ?_)⟩
    .refine⟨_,rfl,y,p,rfl,hlf,⟨p1,p2,p3,p4⟩,_,rfl,_,_,rfl,rfl,_,rfl,iS_ (fun c2=> ?_) (fun c2=> ?_)⟩
     .have eG:ea_ n ls wt sp i=(dc_ n (ls.drop i) (wt-p.2.2) (sp-bZ_ p)).map (p:: ·):=by
       unfold ea_;rw [hp'];exact A6 ⟨c1,c2⟩
      rw [eG,A2] at tt;refine⟨_,rfl,_,rfl,i,rfl,da,_,rfl,SqL.of (s4 _ _ hda), ?_⟩;rw [d0_ (by lia)];intro l2 n2;have s45:ak_ H4 (upd H4 l2 (.lst (dvs.drop i))):=ak_.new n2;have hl2:(upd H4 l2 (.lst (dvs.drop i))) l2=some (.lst (dvs.drop i)):=ae_;generalize upd H4 l2 (.lst (dvs.drop i))=H5 at s45 hl2⊢;have s5:=s4.trans s45;have hdr:Is H5 (lfs (ls.drop i)) (.ref l2):=cu_ hl2 (by rw [Cc];exact(hdi.drop i).mono s5);refine⟨_,rfl,_,rfl,_,2,_,hlf.mono s45,rfl,rfl,fun u hu=> ?_⟩;rw [cn_ hu];refine⟨_,_,rfl,rfl,_,rfl,_,rfl,y,p,rfl,hlf.mono s45,⟨p1,p2,p3,p4⟩,_,_,rfl,rfl, ?_⟩;refine⟨.ref l2,ls.drop i,wt-p.2.2,sp-bZ_ p,rfl,hdr,fun q hq=>hok q (Ch hq),by lia,by lia,by lia,by rw [Bc];lia,by lia,fun rl H6 s6 nrl hrl=> ?_⟩;obtain⟨vs5,hfo5,hi5⟩:=hacc4.mono s45;have hfo6:H6 fo=some (.lst vs5):=s6 _ _ hfo5;obtain⟨_,rvs,e,hrl',hri⟩:=cI_ hrl;cases e;have hrl6:H6 rl=some (.lst rvs):=bF_ _ _ hrl';have rlfo:rl≠fo:=by rintro rfl;rw [hfo5] at nrl;cases nrl
      have rlen:rvs.length=(dc_ n (ls.drop i) (wt-p.2.2) (sp-bZ_ p)).length:=by rw [hri.length,A2]
      have hriH:Iss (hid H6 fo) ((dc_ n (ls.drop i) (wt-p.2.2) (sp-bZ_ p)).map lfs) rvs:=(hri.mono (jL_ (ak_.refl H5) hfo5)).mono (bz_ bF_);have s56:=s5.trans s6;refine⟨rl,rfl,⟨_,SqL.of hrl6⟩,bB_ (xs:=rvs) (fun j σ H7=>(∃v6,σ=[some (.ref da),some (.int wt),some (.int sp),some (.ref fo),some (.int i),some y,v6])/\ak_ H H7/\But fo H6 H7/\Acc H H7 fo (([[]]++(List.range i).flatMap (ea_ n ls wt sp)++((dc_ n (ls.drop i) (wt-p.2.2) (sp-bZ_ p)).take j).map (p:: ·)).map lfs)) ⟨⟨_,rfl⟩,s56,fun _ _ e _=>e,by simpa using (hacc4.mono s45).mono s6⟩ (fun j σ H7 _ h=>SqL.of (h.2.2.1 _ _ hrl6 rlfo)) ?_ ?_⟩
      .rintro j x σ H7 hj ⟨⟨v6,rfl⟩,s7,but7,vs7,hfo7,hi7⟩;obtain⟨dd,hdd,hx⟩:=hriH.of_get hj;rw [A7] at hdd;obtain⟨r,hr',rfl⟩:=A4.mp hdd;have hjl:j<(dc_ n (ls.drop i) (wt-p.2.2) (sp-bZ_ p)).length:=(AH.mp hr').1;have hx7:Is H7 (lfs r) x:=hx.mono (mJ_ but7);have ritem:=(eZ_ (fun q hq=>(hok q (Ch hq)).2.2.1) (by lia) (Aq hr')).1;have vl:vs7.length<=999:=by
        rw [hi7.length,A2,AF,AF,A2,Am,B0];lia
       have hy7:Is H7 (lf p) y:=hy.mono s7;refine⟨_,rfl, .inl ⟨rfl,_,SqL.of hfo7⟩,_,rfl,(by show 1<=sizeLine;decide),fun q1 H8 n8 s8 h8=>⟨_,rfl,[lf p],r.map lf,cu_ h8 (ai_ (hy7.mono s8) an_),hx7.mono s8,AW (al_ (by rw [A2];show 1+r.length<=1000;lia)),fun q2 H9 n9 s9 h9=> ?_⟩⟩;have s79:=s8.trans s9;refine⟨fo,vs7,_,rfl,rfl,s79 _ _ hfo7,al_ (by lia),⟨_,rfl⟩,(s7.trans s79).put nfH,but7.trans ((But.of_same s79).trans But.upd), ?_⟩;rw [Aa,hr'];have:=Acc.add s7 s79 hfo7 hi7 (pd_ (ps:=p::r) s79 (s8.free n9) h9);simpa using this
      .rintro σ H7 ⟨⟨v6,rfl⟩,s7,_,hacc7⟩;refine⟨⟨_,_,_,rfl⟩,s7, ?_⟩;rw [rlen,Al,<-eG,BB,<-cv_] at hacc7;exact hacc7
     .refine⟨⟨_,_,_,rfl⟩,s4,stay ?_⟩;unfold ea_;rw [hp'];exact A5 fun z=>c2 z.2
    .refine fm_ ⟨⟨_,_,_,rfl⟩,s4,stay ?_⟩;unfold ea_;rw [hp'];exact A5 fun z=>c1 z.1
   .rintro σ H3 ⟨⟨v4,v5,v6,rfl⟩,s3,hacc⟩;rw [dlen,<-eY_] at hacc;exact⟨_,rfl,kk fo H3 s3 nfH (hacc.is nfH)⟩
theorem gg_:FnOk P w K mg base CX0 10 T.f15 T.d15 ["d","floor","drawing","spare"] (rL_ K):=by
 refine T.X15.F.ok bc_ (fun vs H Q E h=> ?_) (fun cdv A outer s H vs Q E hr h=> ?_)
 .obtain⟨_,_,_,_,rfl,_⟩:=h;rfl
 .obtain⟨d,f,v,x,rfl,fd,d5,hv,hst,kk⟩:=h;refine⟨_,(ad_ (ar_ (i:=4) bc_.nd rfl (by trivial) (aw_ c0_ (ah_ (d8_ T) (hr.mono (by decide)) (by rfl) T.X10.m T.X10.F.kp T.X10.B .nil as_ (aa_ (pv 0) (aa_ (pv 2) ab_))) (aj_ aF_ (pv 1) ac_) (fun _ _=>rfl)))
   (ad_ (ar_ (i:=5) bc_.nd rfl (by trivial) (aE_ ab_))
   (ad_ (aQ_ AR rfl (a4_ (ah_ (fw_ T 8) (hr.mono (by decide)) (by rfl) T.X14.m T.X14.F.kp T.X14.B .nil as_ (aa_ (ah_ (gm_ T) (hr.mono (by decide)) (by rfl) T.X13.m T.X13.F.kp T.X13.B .nil as_ (aa_ (pv 0) (aa_ (pv 1) (aa_ (pv 4) (aa_ (pv 3) ab_))))) (aa_ (pv 4) (aa_ (pv 3) ab_))))) (am_ (i:=6) bc_.nd rfl (by trivial)) (ad_ (ar_ (i:=7) bc_.nd rfl (by trivial) (aj_ aF_ (pv 4) (aC_ (kn_ rfl) (by rfl) T.n_sum boot_sum (aa_ (cG_ (XN:=["d","floor","drawing","spare","there","found","lifts","ends","left"]) (sc:=ag_ bL_) (N:=["lift"]) (own:=1) (js:=[]) rfl (by ac_nf) rfl rfl (a4_ (pv 6)) (fun _ _ _ _=>(am_ (i:=0) (show List.Nodup (["lift"]:List Str) by ac_nf) rfl (Or.inl rfl) (.inr rfl))) (bs_ (by decide)) (fun _ _ _ _=>bX_) (fun _ _ _ _=>(aw_ au_ (pv 0) ac_ (fun _ _=>rfl)))) ab_))))
   (ad_ (ar_ (i:=8) bc_.nd rfl (by trivial) (aj_ aF_ (aj_ aF_ (pv 3) (aC_ (kn_ rfl) (by rfl) T.n_sum boot_sum (aa_ (cG_ (XN:=["d","floor","drawing","spare","there","found","lifts","ends","left"]) (sc:=ag_ bL_) (N:=["lift"]) (own:=1) (js:=[]) rfl (by ac_nf) rfl rfl (a4_ (pv 6)) (fun _ _ _ _=>(am_ (i:=0) (show List.Nodup (["lift"]:List Str) by ac_nf) rfl (Or.inl rfl) (.inr rfl))) (bs_ (by decide)) (fun _ _ _ _=>bX_) (fun _ _ _ _=>(ah_ (gl_ T) (hr.mono (by decide)) (by rfl) T.X12.m T.X12.F.kp T.X12.B .nil as_ (aa_ (pv 0) ab_)))) ab_))) (aj_ bn_ (pv 7) (aj_ aF_ (pv 0) (pv 1)))))
   (af_ (b2_ (aD_ l1_ (pv 8) ac_ (aK_ _)) (af_ (aG_ (fj_ Ay BM BL bN_ (pv 5) (aa_ (ay_ (aa_ (aj_ cl_ (pv 2) (pv 6)) (aa_ (pv 8) ab_))) ab_)))) aJ_)))))
   (af_ (aq_ (pv 5)))))), ?_⟩
  obtain⟨b1,b2,b3,b4,b5,b6,b7⟩:=pW_ hst;have okl:∀p∈x.1,Okl d p:=fun p hp=>by
   obtain⟨o1,o2,o3,o4,o5⟩:=jI_.mp (b1 p hp);exact⟨o1,by lia,by lia,o3⟩
  have elen:=ez_ d x.1 okl;refine⟨_,rfl,_,rfl,d,v,x.1,rfl,by lia,d5,hv,okl,fun el H1 s1 nel hel=> ?_⟩;refine⟨_,rfl,_,_,rfl,rfl,el,_,_, .int (thF d (f+1) x.1),rfl,rfl,SqL.of hel,sC_ (j:=f) (by lia) (by rw [iU_ (by lia)];rfl), ?_⟩;unfold eA_ at kk;generalize thF d (f+1) x.1=th at b3 b4 b7 kk⊢;obtain⟨n,rfl⟩:=AX b3;refine⟨AS _,fun fo H2 nf s2 hfo=> ?_⟩;have nfH:H fo=none:=s1.free nf;have s02:=s1.trans s2;refine⟨_,rfl,_,rfl,_,rfl,_,rfl,d,f+1,n,x.2,rfl,by lia,d5,by lia,fun l0 H3 s3 nl0 hl0=> ?_⟩;refine⟨_,rfl,_,rfl, .ref l0,kJ_ ((f+1:Nat):Int) (d-(f+1)) n x.2,(n:Int),x.2,rfl,hl0,fun p hp=> ?_,by lia,by lia, ?_, ?_,by decide,fun rl H4 s4 nrl hrl=> ?_⟩
  .obtain⟨e1,e2,e3,e4,e5⟩:=iQ_ hp;exact⟨by lia,by lia,by lia,by lia⟩
  .exact BO b7 (by decide)
  .have:=gC_ ((f+1:Nat):Int) n x.2 (d-(f+1));have:(d-(f+1))*n<=5*8:=Nat.mul_le_mul (by lia) (by lia);lia
  have eL:dc_ 8 (kJ_ ((f+1:Nat):Int) (d-(f+1)) n x.2) (n:Int) x.2=qD_ d (f+1) n x.2:=by unfold qD_;rw [Ab]
  have hitem:∀r∈qD_ d (f+1) n x.2,r.length<=8/\0<=(r.map (·.2.2)).sum/\(r.map (·.2.2)).sum<=(n:Int)/\∀p∈r,Lok p:=fun r hr=>by
   rw [<-eL] at hr;obtain⟨i1,i2,i3,i4⟩:=eZ_ (fun q hq=>(iQ_ hq).2.2.2.1) (by lia) hr;exact⟨i1,i2,i3,fun p hp=>by
    obtain⟨e1,e2,e3,e4,e5⟩:=iQ_ (i4 p hp);exact⟨by lia,by lia,by lia,by lia⟩⟩
  rw [eL] at hrl;generalize qD_ d (f+1) n x.2=L at hrl hitem kk b7;have s03:=s02.trans s3;have hfo3:H3 fo=some (.lst []):=s3 _ _ hfo;have hfo4:H4 fo=some (.lst []):=s4 _ _ hfo3;obtain⟨_,rvs,e,hrl',hri⟩:=cI_ hrl;cases e;have hrl4:H4 rl=some (.lst rvs):=bF_ _ _ hrl';have rlfo:rl≠fo:=by rintro rfl;rw [hfo3] at nrl;cases nrl
  have rlen:rvs.length=L.length:=by rw [hri.length,A2]
  have hriH:Iss (hid H4 fo) (L.map lfs) rvs:=(hri.mono (jL_ (ak_.refl H3) hfo3)).mono (bz_ bF_);have s04:=s03.trans s4;refine⟨rl,rfl,⟨_,SqL.of hrl4⟩,bB_ (xs:=rvs) (fun j σ H5=>(∃v6 v7 v8,σ=[some (.int d),some (.int ((f+1:Nat):Int)),some v,some (.int x.2),some (.int n),some (.ref fo),v6,v7,v8])/\ak_ H H5/\But fo H4 H5/\Acc H H5 fo ((((L.take j).filter fun ls=>decide (0<=gD_ d (f+1) n x.2 ls)).map fun ls=>(x.1++ls,gD_ d (f+1) n x.2 ls)).map stD)) ⟨⟨none,none,none,rfl⟩,s04,fun _ _ e _=>e,Acc.start hfo4⟩ (fun j σ H5 _ h=>SqL.of (h.2.2.1 _ _ hrl4 rlfo)) ?_ ?_⟩
  .rintro j y σ H5 hj ⟨⟨v6,v7,v8,rfl⟩,s5,but5,vs5,hfo5,hi5⟩;obtain⟨dd,hdd,hy⟩:=hriH.of_get hj;rw [A7] at hdd;obtain⟨r,hr',rfl⟩:=A4.mp hdd;have hy5:Is H5 (lfs r) y:=hy.mono (mJ_ but5);obtain⟨i1,i2,i3,i4⟩:=hitem r (Aq hr');obtain⟨ya,ys,rfl,hya,hyi⟩:=cI_ hy5;have ylen:ys.length=r.length:=by rw [hyi.length,A2]
   have vl:vs5.length<=200:=by
    rw [hi5.length,A2,A2];refine BO (List.length_filter_le _ _) ?_;rw [Am];lia
   refine⟨_,rfl,_,rfl,ya,rfl,⟨_,SqL.of hya⟩,fun acc na=> ?_⟩;refine cw_ (xs:=ys) (own:=1) (js:=[]) (fun i H6=>ak_ H5 H6/\H6 acc=some (.lst (((r.take i).map (·.2.2)).map V.int))) ⟨ak_.new na,ae_⟩ (fun i H6 _ h=>SqL.of (h.1 _ _ hya)) ?_ ?_ bu_ bY_ ?_
   .rintro i z H6 hz ⟨s6,hacc⟩;obtain⟨dd,hdd,hzi⟩:=hyi.of_get hz;rw [A7] at hdd;obtain⟨p,hp',rfl⟩:=A4.mp hdd;refine ni_ ?_;refine⟨_,rfl,_,2,_,hzi.mono s6,rfl,rfl,fun u hu=> ?_⟩;rw [cn_ hu];refine⟨acc,_,_,rfl,rfl,hacc,al_ ?_,s6.put na, ?_⟩
    .rw [A2,A2,Am];lia
    .rw [ae_,Aa,hp',AA,AA];rfl
   .rintro H6 ⟨s6,hacc⟩;rw [ylen,Al] at hacc;refine⟨acc,_,rfl,SqL.of hacc,_,_,rfl,rfl, ?_⟩;clear hacc;refine⟨_,rfl,_,rfl,ya,rfl,⟨_,SqL.of (s6 _ _ hya)⟩,fun ac2 na2=> ?_⟩;refine cw_ (xs:=ys) (own:=1) (js:=[]) (fun i H7=>ak_ H6 H7/\H7 ac2=some (.lst (((r.take i).map bZ_).map V.int))) ⟨ak_.new na2,ae_⟩ (fun i H7 _ h=>SqL.of (h.1 _ _ (s6 _ _ hya))) ?_ ?_ bu_ bY_ ?_
    .rintro i z H7 hz ⟨s7,hacc⟩;obtain⟨dd,hdd,hzi⟩:=hyi.of_get hz;rw [A7] at hdd;obtain⟨p,hp',rfl⟩:=A4.mp hdd;refine ni_ ?_;refine⟨_,rfl,z,p,rfl,(hzi.mono s6).mono s7,i4 p (Aq hp'),ac2,_,_,rfl,rfl,hacc,al_ ?_,s7.put na2, ?_⟩
     .rw [A2,A2,Am];lia
     .rw [ae_,Aa,hp',AA,AA];rfl
    .rintro H7 ⟨s7,hacc⟩;rw [ylen,Al] at hacc;have s57:=s6.trans s7;refine⟨ac2,_,rfl,SqL.of hacc,_,_,rfl,rfl,_,rfl,_,rfl,_,rfl,_,_,rfl,rfl,_,_,rfl,rfl, .inr ⟨by lia,by lia⟩,_,_,rfl,rfl, ?_⟩;refine⟨_,rfl,_,_,rfl,rfl,_,rfl,iS_ (fun c=> ?_) (fun c=> ?_)⟩
     .have hv7:Is H7 (lfs x.1) v:=(hv.mono s5).mono s57;refine⟨_,rfl, .inl ⟨rfl,_,SqL.of (s57 _ _ hfo5)⟩,_,rfl,_,rfl,x.1.map lf,r.map lf,hv7,hy5.mono s57,AW (al_ (by rw [A2,A2];lia)),fun q1 H8 n8 s8 h8=>⟨_,rfl,(by show 2<=sizeLine;decide),fun t H9 nt s9 ht=> ?_⟩⟩;have s59:=s57.trans (s8.trans s9);refine⟨fo,vs5,_,rfl,rfl,s59 _ _ hfo5,al_ (by lia),⟨_,_,_,rfl⟩,(s5.trans s59).put nfH,but5.trans ((But.of_same s59).trans But.upd), ?_⟩;rw [Aa,hr',CQ];have ef:(Option.toList (some r)).filter (fun ls=>decide (0<=gD_ d (f+1) n x.2 ls))=[r]:=by
       have c':0<=gD_ d (f+1) n x.2 r:=c;simp [c']
      rw [ef,AA,AA];rw [<-AA] at h8;have isx:Is (nw H5 H9) (stD (x.1++r,gD_ d (f+1) n x.2 r)) (.ref t):=g1_ (by rw [ce_ ((s57.trans s8).free nt)];exact ht) (ai_ (pd_ s59 (s57.free n8) (Is.mono (s:=s9) h8)) (ai_ kT_ an_));exact Acc.add s5 s59 hfo5 hi5 isx
     .refine⟨⟨_,_,_,rfl⟩,s5.trans s57,but5.trans (But.of_same s57), ?_⟩;rw [Aa,hr',CQ];have ef:(Option.toList (some r)).filter (fun ls=>decide (0<=gD_ d (f+1) n x.2 ls))=[]:=by
       have c':¬0<=gD_ d (f+1) n x.2 r:=c;simp [c']
      rw [ef,Bs];exact Acc.mono s57 ⟨vs5,hfo5,hi5⟩
    .rintro σ H R R' k ⟨v1,e1,v2,p,e2,h1,h2,h⟩;exact⟨v1,e1,v2,p,e2,h1,h2,k _ _ h⟩
   .rintro σ H R R' k ⟨v1,e1,xs,i,d,h1,e2,e3,h⟩;exact⟨v1,e1,xs,i,d,h1,e2,e3,fun u hu=>k _ _ (h u hu)⟩
  .rintro σ H5 ⟨⟨v6,v7,v8,rfl⟩,s5,_,hacc⟩;rw [rlen,Al] at hacc;exact⟨_,rfl,kk fo H5 s5 nfH (hacc.is nfH)⟩
theorem iL_:FnOk P w K mg base CX0 11 T.f16 T.d16 ["d","k"] (rT_ K):=by
 refine T.X16.F.ok bj_ (fun vs H Q E h=> ?_) (fun cdv A outer s H vs Q E hr h=> ?_)
 .obtain⟨_,_,rfl,_⟩:=h;rfl
 .obtain⟨d,k,rfl,hN,kk⟩:=h;have hW:Wide d k:=gt_ hN;refine⟨_,(ad_ (aG_ (ah_ (gi_ T) (hr.mono (by decide)) (by rfl) T.X3.m T.X3.F.kp T.X3.B .nil as_ (aa_ (pv 0) (aa_ (pv 1) ab_))))
   (ad_ (ar_ (i:=2) bj_.nd rfl (by trivial) (aE_ (aa_ (ay_ (aa_ (aE_ ab_) (aa_ (pv 1) ab_))) ab_)))
   (ad_ (aQ_ AR rfl (cq_ (by rfl) T.n_range (aa_ ac_ (aa_ (aj_ aA_ (pv 0) ac_) ab_))) (am_ (i:=3) bj_.nd rfl (by trivial)) (ad_ (ar_ (i:=4) bj_.nd rfl (by trivial) (aE_ ab_))
   (ad_ (aQ_ AR rfl (a4_ (pv 2)) (cr_ rfl (av_ (am_ (i:=5) bj_.nd rfl (by trivial)) (av_ (am_ (i:=6) bj_.nd rfl (by trivial)) bE_))) (af_ (aG_ (fj_ Ay PySem.F.slot_list_extend PySem.F.type_list_extend hv_ (pv 4) (aa_ (ah_ (gg_ T) (hr.mono (by decide)) (by rfl) T.X15.m T.X15.F.kp T.X15.B .nil as_ (aa_ (pv 0) (aa_ (pv 3) (aa_ (pv 5) (aa_ (pv 6) ab_))))) ab_)))))
   (af_ (ar_ (i:=2) bj_.nd rfl (by trivial) (pv 4))))))
   (af_ (aq_ (aC_ (en_ hr) (by rfl) T.n_sorted boot_sorted (aa_ (cG_ (XN:=["d","k","begun","floor","longer","drawing","spare"]) (sc:=ag_ c5_) (N:=["drawing","spare"]) (own:=2) (js:=[]) rfl (by ac_nf) rfl rfl (a4_ (pv 2)) (fun _ _ _ _=>(qg_ (K:=K) rfl rfl (av_ (am_ (i:=0) (show List.Nodup (["drawing","spare"]:List Str) by ac_nf) rfl (Or.inl rfl) (.inr rfl)) (av_ (am_ (i:=1) (show List.Nodup (["drawing","spare"]:List Str) by ac_nf) rfl (Or.inl rfl) (.inr rfl)) bE_)))) lX_ (fun _ _ _ _=>(nY_ (aD_ fk_ (pv 1) ac_ (aK_ _)))) (fun _ _ _ _=>(pv 0))) ab_))))))), ?_⟩
  obtain⟨g1,g2,g3,_⟩:=(e71 hN).1;obtain⟨gA,gB⟩:=qt_ g1;have d15:1<=d/\d<=5:=by unfold Wide at hW;lia
  refine⟨_,rfl,_,rfl,d,k,rfl,hW, ?_⟩;refine⟨AS _,fun e0 H1 ne0 s1 he0=>⟨_,rfl,(by show 2<=sizeLine;decide),fun t0 H2 nt0 s2 ht0=>⟨(by show 1<=sizeLine;decide),fun bg H3 nb s3 hbg=> ?_⟩⟩⟩;have s03:=(s1.trans s2).trans s3;have nbH:H bg=none:=(s1.trans s2).free nb;have is0:Is (nw H H3) (.l ((fo_ d k 0).map stD)) (.ref bg):=cu_ (by rw [ce_ nbH];exact hbg) (ai_ (g1_ (by rw [ce_ (s1.free nt0)];exact s3 _ _ ht0) (ai_ (cu_ (vs:=[]) (by rw [ce_ ne0];exact s3 _ _ (s2 _ _ he0)) an_) (ai_ kT_ an_))) an_);refine⟨_,rfl,_,_,rfl,rfl,_,_,rfl,⟨by decide,by decide,by lia,by lia⟩, ?_⟩;rw [show((d:Int)+1-1).toNat=d by lia];refine bA_ (lo:=1) (n:=d) (fun f σ H4=>∃bg,(∃v3 v4 v5 v6,σ=[some (.int d),some (.int k),some (.ref bg),v3,v4,v5,v6])/\ak_ H H4/\Is (nw H H4) (.l ((fo_ d k f).map stD)) (.ref bg)) ⟨bg,⟨none,none,none,none,rfl⟩,s03,is0⟩ ?_ ?_
  .clear is0 s03 nbH hbg;rintro f σ H4 hf ⟨bg,⟨v3,v4,v5,v6,rfl⟩,s4,hbg⟩;obtain⟨hst,hlen⟩:=gA f hf;refine⟨AS _,fun lo H5 nlo s5 hlo=> ?_⟩;have hbg4:=hbg.mono bF_;obtain⟨_,bvs,e,hb4,hbi⟩:=cI_ hbg4;cases e;have blen:bvs.length=(fo_ d k f).length:=by rw [hbi.length,A2]
   refine⟨_,rfl,bg,rfl,⟨_,SqL.of (s5 _ _ hb4)⟩,bB_ (xs:=bvs) (fun j σ H6=>(∃v5 v6,σ=[some (.int d),some (.int k),some (.ref bg),some (.int (1+(f:Int))),some (.ref lo),v5,v6])/\ak_ H4 H6/\Acc H4 H6 lo ((((fo_ d k f).take j).flatMap fun x=>eA_ d (f+1) x.1 x.2).map stD)) ⟨⟨_,_,rfl⟩,s5,Acc.start hlo⟩ (fun j σ H6 _ h=>SqL.of (h.2.1 _ _ hb4)) ?_ ?_⟩
   .rintro j y σ H6 hj ⟨⟨v5,v6,rfl⟩,s6,vs6,hlo6,hi6⟩;obtain⟨dd,hdd,hy⟩:=hbi.of_get hj;rw [A7] at hdd;obtain⟨x,hx',rfl⟩:=A4.mp hdd;obtain⟨t,u,rfl,ht,hu⟩:=sh_ (hy.mono s6);have e1:(1+(f:Int))=((f+1:Nat):Int):=by lia
    have tk:(((fo_ d k f).take (j+1)).flatMap fun x=>eA_ d (f+1) x.1 x.2)=(((fo_ d k f).take j).flatMap fun x=>eA_ d (f+1) x.1 x.2)++eA_ d (f+1) x.1 x.2:=by
     rw [Aa,hx',By];simp
    have vl:vs6.length+(eA_ d (f+1) x.1 x.2).length<=900:=by
     rw [hi6.length,A2];have hjl:j<(fo_ d k f).length:=(AH.mp hx').1;have:(((fo_ d k f).take (j+1)).flatMap fun x=>eA_ d (f+1) x.1 x.2).length<=(fo_ d k (f+1)).length:=by
      show _<=((fo_ d k f).flatMap fun x=>eA_ d (f+1) x.1 x.2).length
      conv=>rhs;rw [<-List.take_append_drop (j+1) (fo_ d k f)]
      rw [By,AF];lia
     rw [tk,AF] at this;lia
    refine⟨t,_,rfl,SqT.of ht,rfl,_,_,rfl,_,_,rfl,rfl, ?_⟩;refine⟨_,rfl, .inl ⟨rfl,_,SqL.of hlo6⟩,_,rfl,_,rfl,_,rfl,_,rfl,d,f,u,x,by rw [e1];rfl,hf,d15.2,hu,hst x (Aq hx'),fun wl H7 s7 nwl hwl=> ?_⟩;obtain⟨_,us,e,hwl',hwi⟩:=cI_ hwl;cases e;have ul:us.length=(eA_ d (f+1) x.1 x.2).length:=by rw [hwi.length,A2]
    refine⟨lo,wl,vs6,us,rfl,rfl,s7 _ _ hlo6,bF_ _ _ hwl',AW (al_ (by lia)),⟨_,_,rfl⟩,(s6.trans s7).put nlo, ?_⟩;rw [tk,AA];exact Acc.adds s6 s7 hlo6 hi6 hwi
   .rintro σ H6 ⟨⟨v5,v6,rfl⟩,s6,hacc⟩;rw [blen,Al] at hacc;exact⟨_,rfl,lo,⟨_,_,_,_,rfl⟩,s4.trans s6,(hacc.is nlo).mono (jK_ s4)⟩
  .clear is0 s03 nbH hbg;rintro σ H4 ⟨bg,⟨v3,v4,v5,v6,rfl⟩,s4,hbg⟩;obtain⟨_,bvs,e,hb4,hbi⟩:=cI_ hbg;cases e;have hb4':=bF_ _ _ hb4;have blen:bvs.length=(fo_ d k d).length:=by rw [hbi.length,A2]
   refine⟨_,rfl,bg,rfl,⟨_,SqL.of hb4'⟩,fun acc na=> ?_⟩;refine cw_ (xs:=bvs) (own:=2) (js:=[]) (fun j H5=>ak_ H4 H5/\∃vs,H5 acc=some (.lst vs)/\Iss (nw H H4) (((((fo_ d k d).take j).filter fun x=>decide (x.2=0)).map (·.1)).map lfs) vs) ⟨ak_.new na,[],ae_,an_⟩ (fun j H5 _ h=>SqL.of (h.1 _ _ hb4')) ?_ ?_ mf_ ?_ ?_
   .rintro j y H5 hj ⟨s5,vs,hacc,hi⟩;obtain⟨dd,hdd,hy⟩:=hbi.of_get hj;rw [A7] at hdd;obtain⟨x,hx',rfl⟩:=A4.mp hdd;obtain⟨t,u,rfl,ht,hu⟩:=sh_ hy;have vl:vs.length<=900:=by
     rw [hi.length,A2,A2];refine BO (List.length_filter_le _ _) ?_;rw [Am];obtain⟨d',rfl⟩:∃d',d=d'+1:=⟨d-1,by lia⟩;have:=(gA d' (by lia)).2;lia
    refine⟨t,_,rfl,SqT.of (s5 _ _ (bF_ _ _ ht)),rfl,_,_,rfl,_,_,rfl,rfl, ?_⟩;refine⟨_,rfl,rfl,_,rfl,ne_ (fun c=> ?_) (fun c=> ?_)⟩
    .refine⟨_,rfl,acc,vs,_,rfl,rfl,hacc,al_ (by lia),s5.put na,_,ae_, ?_⟩;rw [Aa,hx',CQ];have ef:(Option.toList (some x)).filter (fun x=>decide (x.2=0))=[x]:=by simp [c]
     rw [ef,AA,AA];exact hi.append (ai_ hu an_)
    .refine⟨s5,vs,hacc, ?_⟩;rw [Aa,hx',CQ];have ef:(Option.toList (some x)).filter (fun x=>decide (x.2=0))=[]:=by simp [c]
     rw [ef,Bs];exact hi
   .rintro H5 ⟨s5,vs,hacc,hi⟩;rw [blen,Al] at hi;have hi:Iss (nw H H4) ((et_ d k).map lfs) vs:=hi;have s05:=s4.trans s5;have hv5:Iss H5 ((et_ d k).map lfs) vs:=(hi.mono bF_).mono s5;have vlen:vs.length=(et_ d k).length:=by rw [hi.length,A2]
    by_cases hlt:(et_ d k).length<2
    .refine .inl ⟨acc,vs,rfl,SqL.of hacc,by lia,fun q nq=>kk q _ (s05.put (s05.free nq)) (s05.free nq) ?_⟩;have:sD d k=et_ d k:=by unfold sD;rw [A6 hlt]
     rw [this];exact cu_ (by rw [ce_ (s05.free nq)];exact ae_) (hi.mono (dz_ (s5.trans (ak_.new nq))))
    .obtain⟨p,hp,hps,hpl⟩:=g2 hlt;refine .inr ⟨acc,vs,cD (et_ d k),p,rfl,SqL.of hacc,by lia,by lia,hps,fun r hr'=> ?_,fun i j bb hb=> ?_,by rw [vlen];exact hp,fun i hi=>by rw [vlen];exact hpl i hi,fun q nq=>kk q _ (s05.put (s05.free nq)) (s05.free nq) ?_⟩
     .obtain⟨i,hi,rfl⟩:=Bd.mp hr';obtain⟨dd,hdd,hy⟩:=hv5.of_get (A1 hi);rw [A7] at hdd;obtain⟨w,_,rfl⟩:=A4.mp hdd;obtain⟨a,ys,e1,e2,_⟩:=cI_ hy;exact⟨a,ys,e1,SqL.of e2⟩
     .unfold cD at hb;obtain⟨w1,h1,hb⟩:=AB.mp hb;obtain⟨w2,h2,rfl⟩:=A4.mp hb;obtain⟨x,hx,hx'⟩:=hv5.get (j:=i) (x:=lfs w1) (by rw [A7,h1];rfl);obtain⟨y,hy,hy'⟩:=hv5.get (j:=j) (x:=lfs w2) (by rw [A7,h2];rfl);exact⟨x,y,hx,hy,q8_ hx' hy'⟩
     .have:sD d k=p.toList.map fun i=>(et_ d k).getD i []:=by
       unfold sD oD;rw [A5 hlt,hp];rfl
      rw [this];exact cu_ (by rw [ce_ (s05.free nq)];exact ae_) ((j6_ hi p.toList hpl).mono (dz_ (s5.trans (ak_.new nq))))
   .rintro σ H R R' k' ⟨v1,e1,e2,b,e3,h⟩;exact⟨v1,e1,e2,b,e3,k' _ _ h⟩
   .rintro σ H R R' k' ⟨v1,e1,h⟩;exact⟨v1,e1,k' _ _ h⟩
theorem n9_:FnOk P w K mg base CX0 5 T.f11 T.d11 ["d","drawing"] (tB_ K):=by
 refine T.X11.F.ok nJ_ (fun vs H Q E h=> ?_) (fun cdv A outer s H vs Q E hr h=> ?_)
 .obtain⟨_,_,_,rfl,_⟩:=h;rfl
 .obtain⟨n,dv,ps,rfl,n1,n5,hd,hs,kk⟩:=h;refine⟨_,(af_ (aq_ (gf_ l1_ (aC_ (m3_ rfl) (by rfl) T.n_min boot_min (aa_ (ah_ (d8_ T) (hr.mono (by decide)) (by rfl) T.X10.m T.X10.F.kp T.X10.B .nil as_ (aa_ (pv 0) (aa_ (pv 1) ab_))) ab_)) ac_ (aK_ _)))), ?_⟩;refine⟨_,rfl,_,rfl,n,dv,ps,rfl,n1,n5,hd,hs.okl,fun l H1 s1 nl hl=> ?_⟩;refine⟨l,_,rfl,SqL.of hl,by rw [ez_ n ps hs.okl];lia,_,_,rfl,rfl, ?_⟩;show Q (.bl (decide (0<=sm_ (bQ_ n ps)))) H1;rw [B5 (qQ_ hs.ends)];exact kk H1 s1
theorem gj_:FnOk P w K mg base CX0 6 T.f17 T.d17 ["d","drawing"] (tE_ K):=by
 refine T.X17.F.ok f2_ (fun vs H Q E h=> ?_) (fun cdv A outer s H vs Q E hr h=> ?_)
 .obtain⟨_,_,_,rfl,_⟩:=h;rfl
 .obtain⟨n,dv,ps,rfl,n1,n5,hd,hs,kk⟩:=h;refine⟨_,(ad_ (aG_ (ah_ (cZ_ T) (hr.mono (by decide)) (by rfl) T.X4.m T.X4.F.kp T.X4.B .nil as_ (aa_ (pv 0) ab_)))
   (af_ (b2_ (eN_ (hi_ (ah_ (n9_ T) (hr.mono (by decide)) (by rfl) T.X11.m T.X11.F.kp T.X11.B .nil as_ (aa_ (pv 0) (aa_ (pv 1) ab_))))) (af_ nX_) aJ_))), ?_⟩
  exact⟨_,rfl,n,rfl,by lia,by lia,_,rfl,_,rfl,n,dv,ps,rfl,n1,n5,hd,hs,fun H1 s1=>⟨true,rfl,fm_ (kk H1 s1)⟩⟩
theorem hp_:FnOk P w K mg base CX0 5 T.f18 T.d18 ["d","drawing"] (tK_ K):=by
 refine T.X18.F.ok cb_ (fun vs H Q E h=> ?_) (fun cdv A outer s H vs Q E hr h=> ?_)
 .obtain⟨_,_,_,rfl,_⟩:=h;rfl
 .obtain⟨n,dv,ps,rfl,n1,n5,hd,hs,hlen,kk⟩:=h;refine⟨_,(ad_ (ar_ (i:=2) cb_.nd rfl (by trivial) (aE_ ab_))
   (ad_ (aQ_ AR rfl (eO_ (by rfl) T.n_enumerate (ah_ (d8_ T) (hr.mono (by decide)) (by rfl) T.X10.m T.X10.F.kp T.X10.B .nil as_ (aa_ (pv 0) (aa_ (pv 1) ab_)))) (cr_ rfl (av_ (am_ (i:=3) cb_.nd rfl (by trivial)) (av_ (am_ (i:=4) cb_.nd rfl (by trivial)) bE_))) (af_ (aG_ (fj_ Ay PySem.F.slot_list_extend PySem.F.type_list_extend hv_ (pv 2) (aa_ (aj_ iF_ (aE_ (aa_ (ay_ (aa_ (aj_ aA_ (pv 3) ac_) (aa_ (aj_ aA_ (pv 0) ac_) (aa_ ac_ ab_)))) ab_)) (pv 4)) ab_)))))
   (af_ (aq_ (pv 2))))), ?_⟩
  refine⟨AS _,fun fo H1 nf s1 hfo=> ?_⟩;refine⟨_,rfl,_,rfl,n,dv,ps,rfl,n1,n5,hd.mono s1,hs.okl,fun e H2 s2 ne he=> ?_⟩;have el:=ez_ n ps hs.okl;have efo:e≠fo:=by rintro rfl;rw [hfo] at ne;cases ne
  refine⟨e,rfl,⟨_,SqL.of he⟩,dY_ (xs:=(bQ_ n ps).map V.int) (fun i σ H3=>(∃v3 v4,σ=[some (.int n),some dv,some (.ref fo),v3,v4])/\ak_ H H3/\H3 e=some (.lst ((bQ_ n ps).map V.int))/\∃vs,H3 fo=some (.lst vs)/\Iss H3 (((List.range i).flatMap (kQ_ n (bQ_ n ps))).map lf) vs)
   ⟨⟨none,none,rfl⟩,s1.trans s2,he,[],s2 _ _ hfo,an_⟩ (fun i σ H3 _ h=>SqL.of h.2.2.1) ?_ ?_⟩
  .rintro i x σ H3 p hx ⟨⟨v3,v4,rfl⟩,s3,he3,vs,hf3,hi3⟩ np;rw [A7] at hx;obtain⟨x,hx',rfl⟩:=A4.mp hx;have hi:i<n:=by have:=(AH.mp hx').1;lia
   have ex:(bQ_ n ps).getD i 0=x:=by rw [List.getD,hx'];rfl
   have x0:0<=x:=by rw [<-ex];exact hs.ends i
   have pre:((List.range i).flatMap (kQ_ n (bQ_ n ps))).length+x.toNat<=20:=by
    have:=gc_ (kQ_ n (bQ_ n ps)) hi;have e2:(kQ_ n (bQ_ n ps) i).length=x.toNat:=by unfold kQ_;rw [B6,ex]
    unfold e7_ at hlen;lia
   refine⟨p,_,rfl,SqT.of ae_,rfl,_,_,rfl,_,_,rfl,rfl, ?_⟩;have s4:ak_ H3 (upd H3 p (.tup [.int i, .int x])):=ak_.new np;generalize upd H3 p (.tup [.int i, .int x])=H4 at s4⊢;refine⟨_,rfl, .inl ⟨rfl,_,SqL.of (s4 _ _ hf3)⟩,_,rfl,_,_,rfl,rfl,_,rfl,_,_,rfl,rfl,(by show 3<=sizeLine;decide),fun t H5 nt s5 ht=>⟨(by show 1<=sizeLine;decide),fun l1 H6 n6 s6 h6=> ?_⟩⟩;have htl:Is H6 (lf (1+(i:Int),(n:Int)+1,1)) (.ref t):=mE_ (s6 _ _ (by rw [ht];show some (HO.tup [V.int ((i:Int)+1),_,_])=_;rw [Int.add_comm]));refine⟨_,rfl,lf (1+(i:Int),(n:Int)+1,1),x,cu_ h6 (ai_ htl an_),rfl,by lia,by lia,AW (al_ (by lia)),fun l2 H7 n7 s7 h7=> ?_⟩;obtain⟨_,us,e2,hl2,hi2⟩:=cI_ h7;cases e2;have s47:ak_ H3 H7:=((s4.trans s5).trans s6).trans s7;have hf7:=s47 _ _ hf3;have ul:us.length=x.toNat:=by rw [hi2.length,B6]
   have vl:=hi3.length;rw [A2] at vl;refine⟨fo,l2,vs,us,rfl,rfl,hf7,hl2,AW (al_ (by lia)),⟨_,_,rfl⟩,(s3.trans s47).put nf,by rw [ao_ efo];exact s47 _ _ he3,_,ae_, ?_⟩;rw [cv_,AA];refine(ph_ s47 hf3 hi3).append (ph_ (ak_.refl H7) hf7 ?_);have:(kQ_ n (bQ_ n ps) i).map lf=List.replicate x.toNat (lf (1+(i:Int),(n:Int)+1,1)):=by unfold kQ_;rw [ex,List.map_replicate]
   rw [this];exact hi2
  .rintro σ H3 ⟨⟨v3,v4,rfl⟩,s3,he3,vs,hf3,hi3⟩;rw [A2,el] at hi3;exact⟨_,rfl,kk fo H3 s3 nf (cu_ hf3 hi3)⟩
theorem hr_:FnOk P w K mg base CX0 1 T.f5 T.d5 ["number","chosen"] (tN_ K):=by
 refine T.X5.F.ok dO_ (fun vs H Q E h=> ?_) (fun cdv A outer s H vs Q E hr h=> ?_)
 .obtain⟨_,_,rfl,_⟩:=h;rfl
 .obtain⟨n,k,rfl,h1,h2,kk⟩:=h;refine⟨_,(ad_ (b2_ (nU_ (aD_ qo_ (pv 1) ac_ (aK_ _)) (lD_ (aD_ n7_ (pv 1) (pv 0) (aK_ _)))).pt (af_ (aq_ ac_)) aJ_)
   (ad_ (ar_ (i:=2) dO_.nd rfl (by trivial) ac_)
   (ad_ (aQ_ AR rfl (b3_ (by rfl) T.n_range (aa_ (pv 1) ab_)) (am_ (i:=3) dO_.nd rfl (by trivial)) (af_ (ar_ (i:=2) dO_.nd rfl (by trivial) (aj_ qp_ (aj_ bn_ (pv 2) (aj_ aF_ (pv 0) (pv 3))) (aj_ aA_ (pv 3) ac_)))))
   (af_ (aq_ (pv 2)))))), ?_⟩
  refine⟨_,rfl,_,_,rfl,rfl,_,rfl,iS_ (fun h=>absurd h (by lia)) (fun _=> ?_)⟩;refine⟨_,rfl,_,rfl,_,_,rfl,rfl,_,rfl,iS_ (fun h=>absurd h (by lia)) (fun _=> ?_)⟩;refine⟨_,rfl,(k:Int),rfl,by lia,by lia,bA_ (lo:=0) (n:=(k:Int).toNat) (fun i σ H2=>(∃v3,σ=[some (.int n),some (.int k),some (.int (chF n i)),v3])/\H2=H) ⟨⟨none,rfl⟩,rfl⟩ ?_ ?_⟩
  .rintro i σ H2 hi ⟨⟨v3,rfl⟩,rfl⟩;refine⟨_,rfl,_,rfl,_,rfl,_,_,rfl,rfl,_,_,rfl,rfl, .inr ⟨by lia,by lia⟩,_,rfl,_,_,rfl,rfl,_,_,rfl,rfl,⟨by lia,by lia⟩,⟨some (.int (0+(i:Int))), ?_⟩,rfl⟩;rw [show chF n (i+1)=chF n i*(n-(0+(i:Int)))/((0+(i:Int))+1) by rw [CY];rfl];rfl
  .rintro σ H2 ⟨⟨v3,rfl⟩,rfl⟩;rw [Ab];exact⟨_,rfl,kk⟩
theorem ek_:FnOk P w K mg base CX0 1 T.f9 T.d9 ["numbers","place","more"] (vg_ K):=by
 refine T.X9.F.ok hb_ (fun vs H Q E h=> ?_) (fun cdv A outer s H vs Q E hr h=> ?_)
 .obtain⟨_,_,_,_,rfl,_⟩:=h;rfl
 .obtain⟨v,t,p,m,rfl,hv,hp,hl,kk⟩:=h;refine⟨_,(af_ (aq_ (aj_ l2_ (aj_ l2_ (br_ lo_ (pv 0) ck_ (bR_ (pv 1))) (ay_ (aa_ (aj_ aA_ (aw_ au_ (pv 0) (pv 1) (fun _ _=>rfl)) (pv 2)) ab_))) (br_ lo_ (pv 0) (bR_ (aj_ aA_ (pv 1) ac_)) ck_)))), ?_⟩;have hlen:∀vs:List V,vs.length=(t.map D.i).length->vs.length=t.length:=fun vs e=>by rw [e,A2]
  refine⟨_,rfl,_,rfl,(p:Int),rfl,t.map .i,(t.take p).map .i,hv,rD_,fun vs e h=> ?_,fun u1 H1 s1 hu1=> ?_⟩
  .have e:=hlen vs e;rw [HT.sIx_nat] at h;lia
  refine⟨_,rfl,_,rfl,t.map .i,(p:Int), .i (t.getD p 0),hv.mono s1,rfl, ?_,fun u hu=> ?_⟩
  .refine sC_ (j:=p) rfl ?_;rw [A7,A1 hp];simp [List.getD,hp]
  rw [cn_ hu];refine⟨_,rfl,_,_,rfl,rfl,(by show 1<=sizeLine;decide),fun q2 H2 n2 s2 h2=> ?_⟩;have hu2:Is H2 (.t [.i (t.getD p 0+m)]) (.ref q2):=g1_ h2 (ai_ kT_ an_);refine⟨_,_,hu1.mono s2,hu2,AW (al_ (by rw [A2,Am];show _+1<=1000;lia)),fun u3 H3 s3 hu3=> ?_⟩;refine⟨_,rfl,_,rfl,_,_,rfl,rfl,(p:Int)+1,rfl,t.map .i,(t.drop (p+1)).map .i,((hv.mono s1).mono s2).mono s3, ?_,fun vs e h=> ?_,fun u4 H4 s4 hu4=> ?_⟩
  .rw [show((p:Int)+1)=((p+1:Nat):Int) by lia];exact pJ_ (by lia)
  .have e:=hlen vs e;rw [show((p:Int)+1)=((p+1:Nat):Int) by lia,HT.sIx_nat] at h;lia
  refine⟨_,_,hu3.mono s4,hu4,AW (al_ (by rw [AF,A2,A2,Am,Bc];show _+1+_<=1000;lia)),fun u5 H5 s5 hu5=> ?_⟩;refine kk u5 H5 ((((s1.trans s2).trans s3).trans s4).trans s5) ?_;have e:(t.take p).map D.i++[D.i (t.getD p 0+m)]++(t.drop (p+1)).map D.i=(wmF t p m).map D.i:=by
   unfold wmF;rw [<-p3_ hp,AA,AA];rfl
  rw [e] at hu5;exact hu5
theorem di_:∀n:Nat,FnOk P w K mg base CX0 (n+2) T.f19 T.d19 ["numbers","first","last","alike"] (vk_ n K)
 |0=>⟨fun vs H Q E h=>(by obtain⟨_,_,_,_,_,_,_,h,_⟩:=h;exact absurd h (Nat.not_lt_zero _)),fun A outer s H args us vs Q E _ _ _ _ h=>(by obtain⟨_,_,_,_,_,_,_,h,_⟩:=h;exact absurd h (Nat.not_lt_zero _))⟩
 |n+1=>by
  have ih:=di_ n;refine T.X19.F.ok aX_ (fun vs H Q E h=> ?_) (fun cdv A outer s H vs Q E hr h=> ?_)
  .obtain⟨_,_,_,_,_,rfl,_⟩:=h;rfl
  .obtain⟨v,t,p,g,a,rfl,hv,hg,hn,hp,⟨kl,kn,ks⟩,kk⟩:=h;refine⟨_,(ad_ (b2_ (aD_ fk_ (pv 1) (pv 2) (aK_ _)) (af_ (aq_ (aE_ (aa_ (ay_ (aa_ (ah_ (ek_ T) (hr.mono (by lia)) (by rfl) T.X9.m T.X9.F.kp T.X9.B .nil as_ (aa_ (pv 0) (aa_ (pv 1) (aa_ (pv 3) ab_)))) (aa_ (ah_ (hr_ T) (hr.mono (by lia)) (by rfl) T.X5.m T.X5.F.kp T.X5.B .nil as_ (aa_ (aj_ aA_ (aw_ au_ (pv 0) (pv 1) (fun _ _=>rfl)) (pv 3)) (aa_ (pv 3) ab_))) ab_))) ab_)))) aJ_)
   (ad_ (ar_ (i:=4) aX_.nd rfl (by trivial) (aE_ ab_))
   (ad_ (aQ_ AR rfl (b3_ (by rfl) T.n_range (aa_ (aj_ aA_ (pv 3) ac_) ab_)) (am_ (i:=5) aX_.nd rfl (by trivial)) (ad_ (ar_ (i:=6) aX_.nd rfl (by trivial) (ah_ (hr_ T) (hr.mono (by lia)) (by rfl) T.X5.m T.X5.F.kp T.X5.B .nil as_ (aa_ (aj_ aA_ (aw_ au_ (pv 0) (pv 1) (fun _ _=>rfl)) (pv 5)) (aa_ (pv 5) ab_))))
   (af_ (aQ_ AR rfl (a4_ (ah_ ih hr (by rfl) T.X19.m T.X19.F.kp T.X19.B .nil as_ (aa_ (ah_ (ek_ T) (hr.mono (by lia)) (by rfl) T.X9.m T.X9.F.kp T.X9.B .nil as_ (aa_ (pv 0) (aa_ (pv 1) (aa_ (pv 5) ab_)))) (aa_ (aj_ aA_ (pv 1) ac_) (aa_ (pv 2) (aa_ (aj_ aF_ (pv 3) (pv 5)) ab_)))))) (cr_ rfl (av_ (am_ (i:=7) aX_.nd rfl (by trivial)) (av_ (am_ (i:=8) aX_.nd rfl (by trivial)) bE_))) (af_ (aG_ (fj_ Ay BM BL bN_ (pv 4) (aa_ (ay_ (aa_ (pv 7) (aa_ (aj_ bn_ (pv 6) (pv 8)) ab_))) ab_))))))))
   (af_ (aq_ (pv 4)))))), ?_⟩
   have kp:=(fA_ kn).2 p;have kp0:=kn p;have at_p:∀{H':Hp},ak_ H H'->∀{v':V},Is H' (tI t) v'->atI (t.map D.i) (p:Int)=some (.i (t.getD p 0)):=fun _ _ _=>by
    refine sC_ (j:=p) rfl ?_;rw [A7,A1 (by lia)];simp [List.getD,show p<t.length by lia]
   refine⟨_,rfl,_,rfl,rfl,_,rfl,ne_ (fun e=> ?_) (fun e=> ?_)⟩
   .have hg0:g=0:=by lia
    subst hg0;refine⟨_,rfl,_,rfl,_,rfl,v,t,p,a,rfl,hv,by lia,kl,fun u1 H1 s1 hu1=> ?_⟩;refine⟨_,rfl,_,rfl,t.map .i,(p:Int),_,hv.mono s1,rfl,at_p s1 (hv.mono s1),fun u hu=> ?_⟩;rw [cn_ hu];refine⟨_,rfl,_,_,rfl,rfl,_,rfl,t.getD p 0+a,a,rfl,by lia,by lia, ?_⟩;refine⟨(by show 2<=sizeLine;decide),fun q2 H2 n2 s2 h2=>⟨(by show 1<=sizeLine;decide),fun q3 H3 n3 s3 h3=> ?_⟩⟩;have s02:=s1.trans s2;refine kk q3 H3 (s02.trans s3) (s02.free n3) (cu_ h3 (ai_ ((qM_ (x:=(wmF t p (a:Int),chF (t.getD p 0+(a:Int)) a)) h2 (hu1.mono s2)).mono s3) an_))
   .obtain⟨g,rfl⟩:∃g',g=g'+1:=⟨g-1,by lia⟩;refine⟨AS _,fun fo H1 nf s1 hfo=> ?_⟩;have big:=n4_ (g:=g+1) (t:=t) (p:=p) (a:=a) (by lia) (by have:=(fA_ kn).1;lia);have a15:(a:Int)<=15:=by have:=(fA_ kn).1;lia
    refine⟨_,rfl,_,_,rfl,rfl,_,rfl,by lia,by lia, ?_⟩;rw [show((a:Int)+1).toNat=a+1 by lia];refine bA_ (lo:=0) (n:=a+1) (fun h σ H2=>(∃v5 v6 v7 v8,σ=[some v,some (.int p),some (.int ((p:Int)+((g+1:Nat):Int))),some (.int a),some (.ref fo),v5,v6,v7,v8])/\ak_ H H2/\∃vs,H2 fo=some (.lst vs)/\Iss H2 (((List.range h).flatMap fun h:Nat=>(pbF g (wmF t p (h:Int)) (p+1) (a-h)).map fun x=>(x.1,chF (t.getD p 0+(h:Int)) h*x.2)).map prD) vs) ⟨⟨none,none,none,none,rfl⟩,s1,[],hfo,an_⟩ ?_ ?_
    .rintro h σ H2 hh ⟨⟨v5,v6,v7,v8,rfl⟩,s2,vs2,hf2,hi2⟩;rw [CY];have hb:∀j,j<=(pbF g (wmF t p (h:Int)) (p+1) (a-h)).length->((List.range h).flatMap fun h:Nat=>(pbF g (wmF t p (h:Int)) (p+1) (a-h)).map fun x=>(x.1,chF (t.getD p 0+(h:Int)) h*x.2)).length+j<=1048576:=fun j hj=>by
      have:=gc_ (fun h:Nat=>(pbF g (wmF t p (h:Int)) (p+1) (a-h)).map fun x=>(x.1,chF (t.getD p 0+(h:Int)) h*x.2)) hh;rw [A2] at this;unfold pbF at big;lia
     rw [cv_];generalize ((List.range h).flatMap fun h:Nat=>(pbF g (wmF t p (h:Int)) (p+1) (a-h)).map fun x=>(x.1,chF (t.getD p 0+(h:Int)) h*x.2))=pr at hi2 hb⊢;obtain⟨c1,c2⟩:=sU_ (n:=t.getD p 0+(h:Int)) (k:=h) (by lia) (by lia);refine⟨_,rfl,_,rfl,t.map .i,(p:Int),_,hv.mono s2,rfl,at_p s2 (hv.mono s2),fun u hu=> ?_⟩;rw [cn_ hu];refine⟨_,rfl,_,_,rfl,rfl,_,rfl,t.getD p 0+(h:Int),h,rfl,by lia,by lia, ?_⟩;refine⟨_,rfl,_,rfl,_,rfl,v,t,p,(h:Int),rfl,hv.mono s2,by lia,kl,fun u3 H3 s3 hu3=> ?_⟩;refine⟨_,rfl,_,_,rfl,rfl,_,rfl,_,rfl,_,rfl,_,_,rfl,rfl,u3,wmF t p (h:Int),p+1,g,a-h, ?_,hu3,by lia,by lia,by rw [g3_];lia,⟨by rw [g3_];exact kl,fun i=> ?_, ?_⟩,fun rl H4 s4 nrl hrl=> ?_⟩
     .have e1:((p:Int)+1)=((p+1:Nat):Int):=by lia
      have e2:(p:Int)+((g+1:Nat):Int)=((p+1:Nat):Int)+(g:Int):=by lia
      have e3:(a:Int)-(h:Int)=((a-h:Nat):Int):=by lia
      show [u3,V.int ((p:Int)+1),V.int ((p:Int)+((g+1:Nat):Int)),V.int ((a:Int)-(h:Int))]=_;rw [e1,e2,e3]
     .rw [pB_ (by lia)];have:=kn i;split<;>lia
     .rw [il_ (by lia)];lia
     obtain⟨_,rvs,e,hrl4,hri⟩:=cI_ hrl;cases e;generalize pbF g (wmF t p (h:Int)) (p+1) (a-h)=O at hri hb⊢;have rlen:rvs.length=O.length:=by rw [hri.length,A2]
     have s24:=s3.trans s4;have hf4:=s24 _ _ hf2;have rlfo:rl≠fo:=by rintro rfl;rw [s3 _ _ hf2] at nrl;cases nrl
     refine⟨rl,rfl,⟨_,SqL.of hrl4⟩,bB_ (xs:=rvs) (fun j σ H5=>(∃v7 v8,σ=[some v,some (.int p),some (.int ((p:Int)+((g+1:Nat):Int))),some (.int a),some (.ref fo),some (.int h),some (.int (chF (t.getD p 0+(h:Int)) h)),v7,v8])/\ak_ H H5/\H5 rl=some (.lst rvs)/\dq_ H4 H5/\∃vs,H5 fo=some (.lst vs)/\Iss H5 ((pr++(O.take j).map fun x=>(x.1,chF (t.getD p 0+(h:Int)) h*x.2)).map prD) vs) ⟨⟨_,_,rfl⟩,s2.trans s24,hrl4,dq_.of_same (ak_.refl H4),vs2,hf4,by simpa using hi2.mono s24⟩ (fun j σ H5 _ h=>SqL.of h.2.2.1) ?_ ?_⟩
     .rintro j y σ H5 hj ⟨⟨v7,v8,rfl⟩,s5,hrl5,t5,vs5,hf5,hi5⟩;obtain⟨dd,hdd,hy⟩:=hri.of_get hj;rw [A7] at hdd;obtain⟨x,hx',rfl⟩:=A4.mp hdd;have hjl:j<O.length:=(AH.mp hx').1;obtain⟨q,u6,rfl,hq,hu6⟩:=qu_ (jE_ t5 hy);have vl:=hi5.length;rw [A2,AF,A2,Am] at vl;have hbj:=hb (j+1) (by lia);refine⟨q,_,rfl,SqT.of hq,rfl,_,_,rfl,_,_,rfl,rfl, ?_⟩;refine⟨_,rfl, .inl ⟨rfl,_,SqL.of hf5⟩,_,rfl,_,rfl,_,rfl,_,_,rfl,rfl, .inl ⟨by lia,by lia⟩,(by show 2<=sizeLine;decide),fun q6 H6 n6 s6 h6=> ?_⟩;refine⟨fo,vs5,_,rfl,rfl,s6 _ _ hf5,su_ (by lia),⟨_,_,rfl⟩,(s5.trans s6).put nf,by rw [ao_ rlfo];exact s6 _ _ hrl5,(t5.trans (dq_.of_same s6)).trans (dq_.upd (s6 _ _ hf5)),_,ae_, ?_⟩;have ez:(pr++(O.take (j+1)).map fun x=>(x.1,chF (t.getD p 0+(h:Int)) h*x.2))=(pr++(O.take j).map fun x=>(x.1,chF (t.getD p 0+(h:Int)) h*x.2))++[(x.1,chF (t.getD p 0+(h:Int)) h*x.2)]:=by
       rw [Aa,hx',Option.toList_some,AA,BB];rfl
      rw [ez,AA];refine(lI_ ((dq_.of_same s6).trans (dq_.upd (s6 _ _ hf5))) hi5).append ?_;exact ai_ (jE_ (dq_.upd (s6 _ _ hf5)) (qM_ (x:=(x.1,chF (t.getD p 0+(h:Int)) h*x.2)) h6 (hu6.mono s6))) an_
     .rintro σ H5 ⟨⟨v7,v8,rfl⟩,s5,hrl5,t5,vs5,hf5,hi5⟩;rw [rlen,Al] at hi5;exact⟨⟨_,_,_,_,rfl⟩,s5,vs5,hf5,hi5⟩
    .rintro σ H2 ⟨⟨v5,v6,v7,v8,rfl⟩,s2,vs2,hf2,hi2⟩;exact⟨_,rfl,kk fo H2 s2 nf (cu_ hf2 hi2)⟩
theorem dR_:FnOk P w K mg base CX0 9 T.f20 T.d20 ["d","marks"] (tJ_ K):=by
 refine T.X20.F.ok ax_ (fun vs H Q E h=> ?_) (fun cdv A outer s H vs Q E hr h=> ?_)
 .obtain⟨_,_,_,rfl,_⟩:=h;rfl
 .obtain⟨d,v,mk,rfl,d1,d5,hv,⟨mok,mlen⟩,kk⟩:=h;refine⟨_,(ad_ (ar_ (i:=2) ax_.nd rfl (by trivial) (n1_ (ou_ hr) (cs_ bI_ (by rfl) T.n_tuple boot_tuple (aa_ (aj_ iF_ (aE_ (aa_ ac_ ab_)) (pv 0)) ab_)) ac_))
   (ad_ (aQ_ AR rfl (a4_ (qi_ (sF_ hr) hr.hd (by rfl) T.n_sorted (by rfl) T.n_set (aa_ (pv 1) ab_))) (am_ (i:=3) ax_.nd rfl (by trivial)) (ad_ (ar_ (i:=4) ax_.nd rfl (by trivial) n0_)
   (ad_ (aQ_ AR rfl (qf_ (pv 2)) (am_ (i:=5) ax_.nd rfl (by trivial)) (af_ (aQ_ AR rfl (a4_ (ah_ (di_ T 6) (hr.mono (by decide)) (by rfl) T.X19.m T.X19.F.kp T.X19.B .nil as_ (aa_ (pv 5) (aa_ (aj_ aF_ (aw_ au_ (pv 3) ac_ (fun _ _=>rfl)) ac_) (aa_ (aj_ aF_ (aw_ au_ (pv 3) ac_ (fun _ _=>rfl)) ac_) (aa_ (fj_ Ay PySem.F.slot_list_count PySem.F.type_list_count (me_ hr) (pv 1) (aa_ (pv 3) ab_)) ab_)))))) (cr_ rfl (av_ (am_ (i:=6) ax_.nd rfl (by trivial)) (av_ (am_ (i:=7) ax_.nd rfl (by trivial)) bE_))) (af_ (qd_ (ou_ hr) (pv 4) (pv 6) (aj_ aA_ (n2_ (ou_ hr) (pv 4) (pv 6) ac_ ⟨rfl,rfl,rfl,rfl⟩) (aj_ bn_ (ql_ (ou_ hr) (pv 2) (pv 5) (fun _ _=>rfl)) (pv 7))) rfl)))))
   (af_ (ar_ (i:=2) ax_.nd rfl (by trivial) (pv 4))))))
   (af_ (aq_ (qh_ rfl (by rfl) T.n_sum (pv 2)))))), ?_⟩
  obtain⟨wa,wvs,rfl,hwa,hwi⟩:=cI_ hv;have wlen:wvs.length=mk.length:=by rw [hwi.length,A2]
  refine fun kd nkd=> ?_;have s0:ak_ H (upd H kd (.dT [])):=ak_.new nkd;have hkd0:upd H kd (.dT []) kd=some (.dT []):=ae_;generalize upd H kd (.dT [])=H0 at s0 hkd0⊢;refine⟨(by show 1<=sizeLine;decide),fun l1 H1 n1 s1 h1=> ?_⟩;refine⟨_,rfl, .i 0,d,cu_ h1 (ai_ kT_ an_),rfl,by lia,by lia,AW (al_ (by lia)),fun l2 H2 n2 s2 h2=> ?_⟩;refine⟨.ref l2,_,rfl,h2,fun t3 H3 n3 s3 h3=> ?_⟩;have s03:=(s1.trans s2).trans s3;have hkd3:=s03 _ _ hkd0;rw [Ab] at h3;have ht3:H3 t3=some (.tup ((e1_ (List.replicate d 0)).map kV)):=by
   rw [<-List.map_replicate] at h3;obtain⟨a,e,ha⟩:=eT_ (xs:=List.replicate d 0) h3;cases e;rw [gG_];exact ha
  refine⟨hkd3,e1_ (List.replicate d 0),t3,rfl,ht3, ?_⟩;have e0:dh_ ([]:List (List Key×V)) (e1_ (List.replicate d 0)) (.int 1)=dG_ [(List.replicate d 0,1)]:=jk_ [] _ _;rw [e0];have sH:ak_ H (upd H3 kd (.dT (dG_ [(List.replicate d 0,1)]))):=(s0.trans s03).put nkd;have hkd:upd H3 kd (.dT (dG_ [(List.replicate d 0,1)])) kd=some (.dT (dG_ [(List.replicate d 0,1)])):=ae_;generalize upd H3 kd (.dT (dG_ [(List.replicate d 0,1)]))=H4 at sH hkd⊢;clear h1 h2 h3 ht3 hkd3 s03 s1 s2 s3 n1 n2 n3 hkd0 s0 e0 H0 H1 H2 H3;have tab0:TabOk d 0 [(List.replicate d 0,(1:Int))]:=by
   refine⟨by simp,fun x hx=> ?_⟩;rw [AU.mp hx];refine⟨by simp,by simp,fun i=> ?_⟩;rw [AG,List.getElem?_replicate];split<;>simp
  refine⟨_,rfl, .ref wa,mk.map g0_,3,rfl,by rw [<-jS_];exact hv.mono sH,by decide,nM_,by rw [A2];lia,fun yss l0 H5 nd mem so nl0 s5 hq=> ?_⟩;have ey:=pY_ nd mem so;subst ey;rw [<-jS_] at hq;clear nd mem so;have hhm:ep_ [(List.replicate d 0,(1:Int))] (TF (fun m=>mk.count m) (ky_ mk))=hmF d mk:=by
   simp [ep_,hmF]
  have hS:∀m∈ky_ mk,m∈mk:=fun m hm=>fY_.mp hm;have hSn:=pX_ mk;generalize hcn:(fun m=>mk.count m)=cnt at hhm;generalize hmF d mk=tot at hhm kk;generalize ky_ mk=S at hq hhm hS hSn;obtain⟨_,lvs,e,hl0,hli⟩:=cI_ hq;cases e;have llen:lvs.length=S.length:=by rw [hli.length,A2]
  refine⟨l0,rfl,⟨_,SqL.of hl0⟩,bB_ (xs:=lvs) (fun i σ H6=>(∃kd D n,(∃v3 v4 v5 v6 v7,σ=[some (.int d),some (.ref wa),some (.ref kd),v3,v4,v5,v6,v7])/\H6 kd=some (.dT (dG_ D))/\TabOk d n D/\n=((S.take i).map cnt).sum/\ep_ D (TF cnt (S.drop i))=tot/\H kd=none)/\ak_ H H6/\H6 l0=some (.lst lvs)/\dq_ H5 H6) ⟨⟨kd,_,0,⟨none,none,none,none,none,rfl⟩,s5 _ _ hkd,tab0,rfl,hhm,nkd⟩,sH.trans s5,hl0,dq_.of_same (ak_.refl H5)⟩ (fun i σ H6 _ h=>SqL.of h.2.2.1) ?_ ?_⟩
  .rintro i y σ H6 hi ⟨⟨kd,D,n,⟨v3,v4,v5,v6,v7,rfl⟩,hkd6,tab,hn,hsum,nkd⟩,s6,hl6,t6⟩;obtain⟨dd,hdd,hy⟩:=hli.of_get hi;rw [A7] at hdd;obtain⟨x,hx',rfl⟩:=A4.mp hdd;have hil:i<S.length:=(AH.mp hx').1;have exi:S[i]=x:=(AH.mp hx').2;obtain⟨ya,rfl,hya⟩:=ht_ hy;obtain⟨o1,o2,o3⟩:=mok x (hS x (Aq hx'));have hn':((S.take (i+1)).map cnt).sum=n+cnt x:=by
    rw [Aa,hx',AA,Cn,<-hn];simp
   have hn15:n+cnt x<=15:=by
    have:=hW_ mk (S.take (i+1)) (hSn.sublist (List.take_sublist _ _));rw [hcn,hn'] at this;lia
   rw [Ai hil,exi,pL_] at hsum;obtain⟨p,hp⟩:∃p:Nat,x.1-1=(p:Int):=⟨(x.1-1).toNat,by lia⟩;obtain⟨g,hg⟩:∃g:Nat,x.2.1-x.1-1=(g:Int):=⟨(x.2.1-x.1-1).toNat,by lia⟩;rw [hp,hg,Ab,Ab] at hsum;have rok:na_ p d n (n+cnt x) (spR g (cnt x)):=fun r hr=>by
    obtain⟨e1,e2⟩:=ip_ hr;exact⟨by lia,by lia⟩
   obtain⟨tab',sum'⟩:=lj_ rok (TF cnt (S.drop (i+1))) tab.key (acc:=[]) ⟨by simp,fun x hx=>nomatch hx⟩;refine fun f nf=> ?_;have s7:ak_ H6 (upd H6 f (.dT [])):=ak_.new nf;have hf7:upd H6 f (.dT []) f=some (.dT (dG_ [])):=ae_;have nfH:H f=none:=s6.free nf;have fkd:f≠kd:=by rintro rfl;rw [hkd6] at nf;cases nf
   generalize upd H6 f (.dT [])=H7 at s7 hf7⊢;refine⟨_,rfl,kd,dG_ D,rfl, .inl (s7 _ _ hkd6),fun o H8 hk8 same8=> ?_⟩;have l8:LTS H7 H8:=LTS.rd (.inl (s7 _ _ hkd6)) same8;have s8:ak_ H H8:=fun b u e=>by rw [same8 b (by rintro rfl;rw [nkd] at e;cases e)];exact s7 _ _ (s6 _ _ e)
   refine oC_ (fun j σ H9=>(∃v5 v6 v7,σ=[some (.int d),some (.ref wa),some (.ref kd),some (.ref ya),some (.ref f),v5,v6,v7])/\ak_ H H9/\H9 kd=some (.frz o (.dT (dG_ D)))/\H9 l0=some (.lst lvs)/\dq_ H5 H9/\H9 f=some (.dT (dG_ (stP p (spR g (cnt x)) (D.take j) [])))) ⟨⟨_,_,_,rfl⟩,s8,hk8,l8.1 _ _ (s7 _ _ hl6),(t6.trans (dq_.of_same s7)).trans l8.2,by rw [same8 f fkd];exact hf7⟩ (fun j σ H9 _ h=>h.2.2.1) ?_ ?_
   .rintro j k c b σ H9 hj ⟨⟨v5,v6,v7,rfl⟩,s9,hk9,hl9,t9,hf9⟩ hb;unfold dG_ at hj;rw [A7] at hj;obtain⟨⟨t,cv⟩,hD,ekc⟩:=A4.mp hj;simp only [BV] at ekc;obtain⟨rfl,rfl⟩:=ekc;rw [gG_] at hb;have hDm:(t,cv)∈D:=Aq hD;obtain⟨k1,k2,k3⟩:t.length=d/\t.sum=(n:Int)/\∀i:Nat,0<=t.getD i 0:=tab.key _ hDm;have hx9:Is H9 (lf x) (.ref ya):=mE_ (t9 _ _ hya);have hw9:=hwi.mono s9;rw [iW_ hD];have tabac:=(lj_ rok (fun _=>0) (xs:=D.take j) (fun y hy=>tab.key y (Cg hy)) (acc:=[]) ⟨by simp,fun x hx=>nomatch hx⟩).1;generalize stP p (spR g (cnt x)) (D.take j) []=ac at hf9 tabac⊢;refine⟨_,rfl,_,rfl,_,0,_,hx9,rfl,rfl,fun u1 hu1=> ?_⟩;rw [cn_ hu1];refine⟨_,_,rfl,rfl,_,rfl,_,1,_,hx9,rfl,rfl,fun u2 hu2=> ?_⟩;rw [cn_ hu2];refine⟨_,_,rfl,rfl,_,rfl, .inl ⟨rfl,_,SqL.of (s9 _ _ hwa)⟩,_,rfl,wa,wvs, .ref ya,1,_,rfl,rfl,SqL.of (s9 _ _ hwa),pI_ hw9 hx9, ?_⟩;rw [wlen,oJ_];refine⟨.ref b,t,p,g,cnt x, ?_,e2_ hb,by lia,by decide,by lia,⟨by lia,k3,by lia⟩,fun rl H10 s10 nrl hrl=> ?_⟩
    .show [V.ref b,V.int (x.1-1),V.int (x.2.1-2),V.int (mk.count x:Nat)]=_;rw [hp,show x.2.1-2=(p:Int)+(g:Int) by lia,<-hcn]
    rw [sc_ (by lia),BW] at hrl;obtain⟨_,rvs,e,hrl10,hri⟩:=cI_ hrl;cases e;have hrs:∀r∈spR g (cnt x),r.length=g+1/\r.sum=cnt x:=fun r hr=>ip_ hr;generalize spR g (cnt x)=rs at hri rok hrs⊢;have rlen:rvs.length=rs.length:=by rw [hri.length,A2]
    have hk10:=s10 _ _ hk9;have hf10:=s10 _ _ hf9;have rlf:rl≠f:=by rintro rfl;rw [hf9] at nrl;cases nrl
    have l0f:l0≠f:=by rintro rfl;rw [hl9] at hf9;cases hf9
    refine⟨rl,rfl,⟨_,SqL.of hrl10⟩,bB_ (xs:=rvs) (fun m σ H11=>(∃v6 v7,σ=[some (.int d),some (.ref wa),some (.ref kd),some (.ref ya),some (.ref f),some (.ref b),v6,v7])/\ak_ H H11/\H11 kd=some (.frz o (.dT (dG_ D)))/\H11 l0=some (.lst lvs)/\dq_ H10 H11/\H11 rl=some (.lst rvs)/\H11 f=some (.dT (dG_ (inP t cv p (rs.take m) ac)))) ⟨⟨_,_,rfl⟩,s9.trans s10,hk10,s10 _ _ hl9,dq_.of_same (ak_.refl H10),hrl10,hf10⟩ (fun m σ H11 _ h=>SqL.of h.2.2.2.2.2.1) ?_ ?_⟩
    .rintro m z σ H11 hm ⟨⟨v6,v7,rfl⟩,s11,hk11,hl11,t11,hrl11,hf11⟩;obtain⟨dd,hdd,hz⟩:=hri.of_get hm;rw [A7] at hdd;obtain⟨r,hr',rfl⟩:=A4.mp hdd;obtain⟨q,u6,rfl,hq,hu6⟩:=qu_ (jE_ t11 hz);obtain⟨ua,rfl,hua⟩:=eT_ hu6;obtain⟨r1,r2⟩:=hrs r (Aq hr');have hua':H11 ua=some (.tup ((e1_ (h9_ t p r)).map kV)):=by rw [gG_];exact hua
     have hb11:H11 b=some (.tup ((e1_ t).map kV)):=by rw [gG_];exact t11 _ _ (s10 _ _ hb)
     have tabm:=(mI_ (v:=cv) ⟨k1,k2,k3⟩ (fun _=>0) (rs:=rs.take m) (fun r hr=>rok r (Cg hr)) tabac).1;refine⟨q,_,rfl,SqT.of hq,rfl,_,_,rfl,_,_,rfl,rfl, ?_⟩;refine⟨_,rfl,f,rfl, .inr ⟨_, .inl hf11⟩,_,rfl,_,px_.t hf11 hua', ?_⟩;rw [nv_];refine⟨_,rfl,_,rfl,kd, .int cv,rfl, .inr ⟨dG_ D,e1_ t,b, .inr ⟨o,hk11⟩,rfl,hb11,(pN_ tab.nd hDm).symm⟩,_,rfl,_,_,rfl,rfl, .inr (kE_ k3 (by lia) (by lia)),_,_,rfl,rfl,_,rfl,_,rfl,f,_,rfl,s1_.t hf11 hua' ?_, ?_⟩
     .rw [jl_];exact su_ (tabm.size d5 hn15)
     .rw [show inP t cv p (rs.take (m+1)) ac=rt_ (inP t cv p (rs.take m) ac) (h9_ t p r) (cv*gZ_ t p r) from hR_ _ _ rs m r hr'];rw [jk_];exact⟨⟨_,_,rfl⟩,s11.put nfH,by rw [ao_ fkd.symm];exact hk11,by rw [ao_ l0f];exact hl11,t11.trans (np_ hf11),by rw [ao_ rlf];exact hrl11,ae_⟩
    .rintro σ H11 ⟨⟨v6,v7,rfl⟩,s11,hk11,hl11,t11,hrl11,hf11⟩;rw [rlen,Al] at hf11;exact⟨⟨_,_,_,rfl⟩,s11,hk11,hl11,(t9.trans (dq_.of_same s10)).trans t11,hf11⟩
   .rintro σ H9 ⟨⟨v5,v6,v7,rfl⟩,s9,hk9,hl9,t9,hf9⟩;rw [jl_,Al] at hf9;refine⟨_,rfl,⟨f,_,n+cnt x,⟨_,_,_,_,_,rfl⟩,hf9,tab',hn'.symm, ?_,nfH⟩,s9,hl9,t9⟩;rw [sum',hsum];simp [ep_]
  .rintro σ H6 ⟨⟨kd,D,n,⟨v3,v4,v5,v6,v7,rfl⟩,hkd6,tab,hn,hsum,nkd⟩,s6,hl6,t6⟩;refine⟨_,rfl,kd,dG_ D,D.map (·.2),rfl, .inl hkd6,lb_ D, ?_⟩;rw [llen,List.drop_length] at hsum;have:(D.map (·.2)).sum=tot:=by rw [<-nz_,<-hsum];rfl
   rw [this];exact kk H6 s6
theorem iK_:FnOk P w K mg base CX0 10 T.f21 T.d21 ["d","drawing"] (vn_ K):=by
 refine T.X21.F.ok it_ (fun vs H Q E h=> ?_) (fun cdv A outer s H vs Q E hr h=> ?_)
 .obtain⟨_,_,_,rfl,_⟩:=h;rfl
 .obtain⟨d,dv,ps,rfl,d1,d5,hd,hs,kk⟩:=h;refine⟨_,(ad_ (aG_ (ah_ (gj_ T) (hr.mono (by decide)) (by rfl) T.X17.m T.X17.F.kp T.X17.B .nil as_ (aa_ (pv 0) (aa_ (pv 1) ab_))))
   (af_ (aq_ (ah_ (dR_ T) (hr.mono (by decide)) (by rfl) T.X20.m T.X20.F.kp T.X20.B .nil as_ (aa_ (pv 0) (aa_ (aj_ cl_ (pv 1) (ah_ (hp_ T) (hr.mono (by decide)) (by rfl) T.X18.m T.X18.F.kp T.X18.B .nil as_ (aa_ (pv 0) (aa_ (pv 1) ab_)))) ab_)))))), ?_⟩
  obtain⟨pl,p10,_⟩:=hs.good.len d1 d5;have em:(e7_ d (bQ_ d ps)).length=d:=hT_ hs.okl hs.nn;refine⟨_,rfl,_,rfl,d,dv,ps,rfl,d1,d5,hd,hs,fun H1 s1=> ?_⟩;refine⟨_,rfl,_,rfl,_,rfl,_,rfl,d,dv,ps,rfl,d1,d5,hd.mono s1,hs,by lia,fun l2 H2 s2 n2 h2=> ?_⟩;refine⟨_,_,(hd.mono s1).mono s2,h2,AW (al_ (by rw [A2,A2];lia)),fun l3 H3 n3 s3 h3=> ?_⟩;rw [<-AA] at h3;refine⟨d, .ref l3,_,rfl,d1,d5,h3,t3_ hs d1 d5,fun H4 s4=>kk H4 (((s1.trans s2).trans s3).trans s4)⟩
theorem cH_:FnOk P w K mg base CX0 1 T.f6 T.d6 ["numbers"] (tw_ K):=by
 refine T.X6.F.ok bp_ (fun vs H Q E h=> ?_) (fun cdv A outer s H vs Q E hr h=> ?_)
 .obtain⟨_,_,rfl,_⟩:=h;rfl
 .obtain⟨a,ns,rfl,hS,hn,kk⟩:=h;refine⟨_,(ad_ (ar_ (i:=1) bp_.nd rfl (by trivial) (cs_ eo_ (by rfl) T.n_list boot_list (aa_ (pv 0) ab_)))
   (ad_ (jC_ AR (hg_ (eu_ (pv 1) (fun _=>rfl)) (f8_ (aD_ fk_ (aw_ c0_ (pv 1) (iC_ eC_ ac_) (fun _ _=>rfl)) ac_ (aK_ _)))).pt (af_ (aG_ (sb_ Ay PySem.F.slot_list_pop PySem.F.type_list_pop sl_ (pv 1)))))
   (af_ (aq_ (pv 1))))), ?_⟩
  refine⟨_,rfl,a,_,rfl, .inl hS,fun l hl=> ?_⟩;refine jc_ (fun σ H2=>∃(cs:List Int) (b:Nat),σ=[some (.ref a),some (.ref l)]/\ak_ H H2/\H2 l=some (.lst (cs.map V.int))/\ns=cs++List.replicate b 0)
   (fun _ H2=>match H2 l with|some (.lst xs)=>xs.length|_=>0) ⟨ns,0,rfl,ak_.new hl,ae_,by simp⟩ ?_ ?_
  .rintro σ H2 ⟨cs,b,rfl,s2,hl2,e⟩;rcases List.eq_nil_or_concat cs with rfl|⟨cs',z,hcs⟩
   .exact⟨_,rfl,false, .inl ⟨_,SqL.of hl2,rfl⟩,fm_ (fm_ ⟨_,rfl,kk l [] b H2 s2 hl hl2 e (.inl rfl)⟩)⟩
   .rw [List.concat_eq_append] at hcs;subst hcs;refine⟨_,rfl,true, .inl ⟨_,SqL.of hl2,by simp⟩,j4_ ?_⟩;refine⟨_,rfl,1,rfl,l,_,_, .int z,rfl,rfl,SqL.of hl2,by rw [AA];exact oQ_ _ _,rfl,_,rfl, ?_⟩;refine ne_ (fun hz=> ?_) (fun hz=> ?_)
    .refine⟨_,rfl, .inl ⟨rfl,_,SqL.of hl2⟩,l,_, .int z,rfl,rfl,hl2,by simp, ?_⟩;refine⟨⟨cs',b+1,rfl,s2.put hl,by rw [ae_,AA];simp,i0_ e hz⟩, ?_⟩;show(match upd H2 l _ l with|some (.lst xs)=>xs.length|_=>0)<(match H2 l with|some (.lst xs)=>xs.length|_=>0);rw [ae_,hl2];simp
    .exact⟨_,rfl,kk l _ b H2 s2 hl hl2 e (.inr (by simpa using hz))⟩
  .intro σ H Q1 Q2 k h;obtain⟨v,e1,b,t1,h⟩:=h;refine⟨v,e1,b,t1, ?_⟩;cases b with
   |false=>exact fm_ (k _ _ (by simpa using h))
   |true=>
    rw [A6 rfl] at h;obtain⟨v2,e2,i,e3,p,xs,j,y,e4,e5,e6,e7,e8,b2,e9,h⟩:=h;exact j4_ ⟨v2,e2,i,e3,p,xs,j,y,e4,e5,e6,e7,e8,b2,e9,k _ _ h⟩
theorem c7_:FnOk P w K mg base CX0 2 T.f22 T.d22 ["low","numbers"] (p1_ K):=by
 refine T.X22.F.ok er_ (fun vs H Q E h=> ?_) (fun cdv A outer s H vs Q E hr h=> ?_)
 .obtain⟨_,_,_,rfl,_⟩:=h;rfl
 .obtain⟨low,a,ns,rfl,hS,hn,kk⟩:=h;refine⟨_,(ad_ (ar_ (i:=2) er_.nd rfl (by trivial) (ah_ (cH_ T) (hr.mono (by decide)) (by rfl) T.X6.m T.X6.F.kp T.X6.B .nil as_ (aa_ (pv 1) ab_)))
   (ad_ (b2_ (eN_ (eu_ (pv 2) (fun _=>rfl))) (af_ (aq_ (lN_ (aa_ ac_ (aa_ (ej_ ab_) ab_))))) aJ_)
   (ad_ (ar_ (i:=3) er_.nd rfl (by trivial) ac_)
   (ad_ (jC_ AR (aD_ fk_ (aw_ c0_ (pv 2) (pv 3) (fun _ _=>rfl)) ac_ (aK_ _)) (af_ (r5_ (i:=3) er_.nd rfl (by trivial) ac_ j9_)))
   (af_ (aq_ (lN_ (aa_ (aj_ aA_ (pv 0) (pv 3)) (aa_ (br_ cy_ (pv 2) (bR_ (pv 3)) ck_) ab_))))))))), ?_⟩
  refine⟨_,rfl,a,ns,rfl,hS,hn,fun l ks b H2 s2 nl hl2 e hk=> ?_⟩;by_cases hks:ks=[]
  .subst hks;refine⟨_,rfl,false, .inl ⟨_,SqL.of hl2,rfl⟩,j4_ ?_⟩;refine⟨AS _,fun l2 n2=>⟨(by show 2<=sizeLine;decide),fun t nt=> ?_⟩⟩;refine kk.mk (zs:=[]) s2 n2 nt (.inl ⟨rfl,rfl,fun z hz=> ?_⟩);rw [e] at hz;exact List.eq_of_mem_replicate (by simpa using hz)
  .have hk':ks.getLast? ≠some 0:=hk.resolve_left hks;refine⟨_,rfl,true, .inl ⟨_,SqL.of hl2,by cases ks with|nil=>exact absurd rfl hks|cons _ _=>rfl⟩,fm_ ?_⟩;have hpos:0<ks.length:=List.length_pos_iff.mpr hks;refine jc_ (fun σ H3=>∃i:Nat,σ=[some (.int low),some (.ref a),some (.ref l),some (.int i)]/\H3=H2/\i<ks.length/\ks.take i=List.replicate i 0)
    (fun(σ:L2.St) _=>match σ[3]? with|some (some (V.int j))=>ks.length-j.toNat|_=>0) ⟨0,rfl,rfl,hpos,rfl⟩ ?_ ?_
   .rintro σ H3 ⟨i,rfl,rfl,hi,ht⟩;refine⟨_,rfl,_,rfl,l,_,_,_,rfl,rfl,SqL.of hl2,sX_ hi,rfl,_,rfl, ?_⟩;refine ne_ (fun hz=> ?_) (fun hz=> ?_)
    .have hi2:=oc_ hi hk' hz;refine⟨_,rfl,_,_,rfl,rfl,⟨i+1,rfl,rfl,hi2,la_ hi ht hz⟩, ?_⟩;show ks.length-((i:Int)+1).toNat<ks.length-(i:Int).toNat;lia
    .refine⟨_,rfl,_,rfl,_,_,rfl,rfl,_,rfl,_,rfl,_,rfl,l,_,rfl,SqL.of hl2, ?_⟩;rw [oI_ (AW hi)];intro l2 n2;refine⟨(by show 2<=sizeLine;decide),fun t nt=> ?_⟩;exact kk.mk s2 n2 nt (js_ e hk' hi ht hz)
   .intro σ H Q1 Q2 k h;obtain⟨v1,e1,v2,e2,p,xs,j,y,e4,e5,e6,e7,e8,b2,e9,h⟩:=h;exact⟨v1,e1,v2,e2,p,xs,j,y,e4,e5,e6,e7,e8,b2,e9,k _ _ h⟩
theorem eR_:FnOk P w K mg base CX0 1 T.f7 T.d7 ["one","other"] (oZ_ ny_ (fun _ _=>True) K):=by
 refine T.X7.F.ok a3_ (fun vs H Q E h=> ?_) (fun cdv A outer s H vs Q E hr h=> ?_)
 .obtain⟨_,_,_,_,rfl,_⟩:=h;rfl
 .obtain⟨a,c,xs,ys,rfl,hA,hC,la,lc,_,kk⟩:=h;refine⟨_,(ad_ (ar_ (i:=2) a3_.nd rfl (by trivial) (aj_ hm_ (ej_ (aa_ ac_ ab_)) (aC_ (m4_ rfl) (by rfl) T.n_max boot_max (aa_ (aC_ a7_ (by rfl) T.n_len boot_len (aa_ (pv 0) ab_)) (aa_ (aC_ a7_ (by rfl) T.n_len boot_len (aa_ (pv 1) ab_)) ab_)))))
   (ad_ (aQ_ AR rfl (r7_ (lN_ (aa_ (pv 0) (aa_ (pv 1) ab_)))) (am_ (i:=3) a3_.nd rfl (by trivial)) (af_ (aQ_ AR rfl (eO_ (by rfl) T.n_enumerate (pv 3)) (cr_ rfl (av_ (am_ (i:=4) a3_.nd rfl (by trivial)) (av_ (am_ (i:=5) a3_.nd rfl (by trivial)) bE_))) (af_ (gb_ (pv 2) (pv 4) ex_ (pv 5) j9_ eq_)))))
   (af_ (aq_ (pv 2))))), ?_⟩
  refine⟨(by show 1<=sizeLine;decide),fun l0 n0=> ?_⟩;have s0:ak_ H (upd H l0 (.lst [.int 0])):=ak_.new n0;refine⟨_,rfl,a,_,rfl, .inl (s0.seq hA),_,rfl,c,_,rfl, .inl (s0.seq hC),_,_,rfl, ?_⟩;rw [A2,A2];have hm:(if(ys.length:Int)>(xs.length:Int) then(ys.length:Int) else(xs.length:Int))=((max xs.length ys.length:Nat):Int):=by split<;>lia
  rw [hm];have hmx:max xs.length ys.length<=400:=by lia
  refine⟨l0,_,_,rfl,rfl,ae_,by lia,by lia, ?_, ?_⟩
  .rw [Ab,B0,Nat.one_mul];exact AW (al_ (by lia))
  rw [Ab,es_];intro lt nt;have sT:ak_ H (upd (upd H l0 (.lst [.int 0])) lt (.lst ((List.replicate (max xs.length ys.length) (0:Int)).map V.int))):=s0.put (s0.free nt);have nlt:H lt=none:=s0.free nt;have hlt:(upd (upd H l0 (.lst [.int 0])) lt (.lst ((List.replicate (max xs.length ys.length) (0:Int)).map V.int))) lt=some (.lst ((List.replicate (max xs.length ys.length) (0:Int)).map V.int)):=ae_;generalize upd (upd H l0 (.lst [.int 0])) lt (.lst ((List.replicate (max xs.length ys.length) (0:Int)).map V.int))=H1 at sT hlt⊢;refine⟨_,rfl,_,rfl,(by show 2<=sizeLine;decide),fun tt ntt=> ?_⟩;have nttH:H tt=none:=sT.free ntt;have ntl:tt≠lt:=(ap_ hlt ntt).symm;refine⟨tt,rfl,⟨_,SqT.of ae_⟩,qS_ (xs:=[.ref a, .ref c]) (fun i σ H2=>∃v3 v4 v5:Option V,σ=[some (.ref a),some (.ref c),some (.ref lt),v3,v4,v5]/\ak_ H H2/\H2 tt=some (.tup [.ref a, .ref c])/\
   H2 lt=some (.lst ((if i=0 then List.replicate (max xs.length ys.length) (0:Int) else if i=1 then bC_ (List.replicate (max xs.length ys.length) 0) 0 xs else ny_ xs ys).map V.int)))
   ⟨none,none,none,rfl,sT.put nttH,ae_,by rw [ao_ ntl.symm];exact hlt⟩ (fun i σ H2 _ ⟨_,_,_,_,_,h,_⟩=>SqT.of h) ?_ ?_⟩
  .rintro i x σ H2 hi ⟨v3,v4,v5,rfl,s2,htt,hlt2⟩;obtain⟨z,zs,ts,rfl,hz,lz,e0,e1⟩:∃(z:Addr) (zs ts:List Int),x= .ref z/\SqL K H z (zs.map V.int)/\zs.length<=ts.length/\(if i=0 then List.replicate (max xs.length ys.length) (0:Int) else if i=1 then bC_ (List.replicate (max xs.length ys.length) 0) 0 xs else ny_ xs ys)=ts/\
     (if i+1=0 then List.replicate (max xs.length ys.length) (0:Int) else if i+1=1 then bC_ (List.replicate (max xs.length ys.length) 0) 0 xs else ny_ xs ys)=bC_ ts 0 zs:=by
    match i,hi with
    |0,hi=>
     cases hi;exact⟨a,xs,_,rfl,hA,by simp;lia,rfl,rfl⟩
    |1,hi=>
     cases hi;exact⟨c,ys,_,rfl,hC,by simp [aP_];lia,rfl,rfl⟩
   rw [e0] at hlt2;rw [e1];refine⟨_,rfl,z,rfl,⟨_,s2.seq hz⟩,dY_ (xs:=zs.map V.int) (fun j σ H3=>∃v4 v5:Option V,σ=[some (.ref a),some (.ref c),some (.ref lt),some (.ref z),v4,v5]/\ak_ H H3/\H3 tt=some (.tup [.ref a, .ref c])/\H3 lt=some (.lst ((bC_ ts 0 (zs.take j)).map V.int)))
    ⟨v4,v5,rfl,s2,htt,by rw [List.take_zero,fb_];exact hlt2⟩ (fun j σ H3 _ ⟨_,_,_,h,_⟩=>h.seq hz) ?_ ?_⟩
   .rintro j x σ H3 p hx ⟨v4,v5,rfl,s3,htt3,hlt3⟩ np;rw [A7] at hx;obtain⟨y,hy,rfl⟩:=A4.mp hx;have hj:j<zs.length:=(AH.mp hy).1;have nlp:lt≠p:=ap_ hlt3 np;have hlen:(bC_ ts 0 (zs.take j)).length=ts.length:=aP_ _ _ _;have hl4:upd H3 p (.tup [.int j, .int y]) lt=some (.lst ((bC_ ts 0 (zs.take j)).map V.int)):=by rw [ao_ nlp];exact hlt3
    refine⟨p,_,rfl,SqT.of ae_,rfl,_,_,rfl,_,_,rfl,rfl, ?_⟩;refine⟨_,rfl,_,rfl,lt,_,j,_, .int ((bC_ ts 0 (zs.take j)).getD j 0),rfl,rfl,rfl,SqL.of hl4, ?_,_,rfl,_,_,rfl,rfl,lt,_,_,j,rfl,rfl,hl4,gI_ (by rw [A2];lia), ?_⟩
    .exact pl_ (by lia)
    .refine⟨_,_,rfl,(s3.put (s3.free np)).put nlt, ?_, ?_⟩
     .rw [ao_ (oe_ htt3 hlt3 (by intro z;cases z)),ao_ (ap_ htt3 np)];exact htt3
     .rw [ae_];have e:=da_ ts 0 (zs.take j) y (by rw [Am];lia);rw [Am,Cm (AW hj),Nat.zero_add] at e;have e3:zs.take (j+1)=zs.take j++[y]:=by rw [Aa,hy];rfl
      rw [e3,<-e,List.map_set]
   .rintro σ H3 ⟨v4,v5,rfl,s3,htt3,hlt3⟩;rw [A2,Al] at hlt3;exact⟨_,_,_,rfl,s3,htt3,hlt3⟩
  .rintro σ H2 ⟨v3,v4,v5,rfl,s2,htt,hlt2⟩;exact⟨_,rfl,kk lt H2 s2 nlt hlt2⟩
theorem dy_:FnOk P w K mg base CX0 1 T.f8 T.d8 ["one","other"] (oZ_ (fun xs ys=>cv xs ys xs.length) (fun xs _=>∀x∈xs,-(10^18)<=x/\x<=10^18) K):=by
 refine T.X8.F.ok aB_ (fun vs H Q E h=> ?_) (fun cdv A outer s H vs Q E hr h=> ?_)
 .obtain⟨_,_,_,_,rfl,_⟩:=h;rfl
 .obtain⟨a,c,xs,ys,rfl,hA,hC,la,lc,hB,kk⟩:=h;refine⟨_,(ad_ (ar_ (i:=2) aB_.nd rfl (by trivial) (aj_ hm_ (ej_ (aa_ ac_ ab_)) (aj_ aA_ (aC_ a7_ (by rfl) T.n_len boot_len (aa_ (pv 0) ab_)) (aC_ a7_ (by rfl) T.n_len boot_len (aa_ (pv 1) ab_)))))
   (ad_ (aQ_ AR rfl (eO_ (by rfl) T.n_enumerate (pv 0)) (cr_ rfl (av_ (am_ (i:=3) aB_.nd rfl (by trivial)) (av_ (am_ (i:=4) aB_.nd rfl (by trivial)) bE_))) (af_ (aQ_ AR rfl (eO_ (by rfl) T.n_enumerate (pv 1)) (cr_ rfl (av_ (am_ (i:=5) aB_.nd rfl (by trivial)) (av_ (am_ (i:=6) aB_.nd rfl (by trivial)) bE_))) (af_ (gb_ (pv 2) (aj_ aA_ (pv 3) (pv 5)) ex_ (aj_ bn_ (pv 4) (pv 6)) j9_ eq_)))))
   (af_ (aq_ (pv 2))))), ?_⟩
  refine⟨(by show 1<=sizeLine;decide),fun l0 n0=> ?_⟩;have s0:ak_ H (upd H l0 (.lst [.int 0])):=ak_.new n0;refine⟨_,rfl,a,_,rfl, .inl (s0.seq hA),_,rfl,c,_,rfl, .inl (s0.seq hC),_,_,rfl,rfl, ?_⟩;dsimp only;rw [A2,A2,show(xs.length:Int)+(ys.length:Int)=((xs.length+ys.length:Nat):Int) by lia];refine⟨l0,_,_,rfl,rfl,ae_,by lia,by lia, ?_, ?_⟩
  .rw [Ab,B0,Nat.one_mul];exact AW (al_ (by lia))
  rw [Ab,es_];intro lt nt;have sT:ak_ H (upd (upd H l0 (.lst [.int 0])) lt (.lst ((List.replicate (xs.length+ys.length) (0:Int)).map V.int))):=s0.put (s0.free nt);have nlt:H lt=none:=s0.free nt;have hlt:(upd (upd H l0 (.lst [.int 0])) lt (.lst ((List.replicate (xs.length+ys.length) (0:Int)).map V.int))) lt=some (.lst ((cv xs ys 0).map V.int)):=ae_;generalize upd (upd H l0 (.lst [.int 0])) lt (.lst ((List.replicate (xs.length+ys.length) (0:Int)).map V.int))=H1 at sT hlt⊢;refine⟨_,rfl,a,rfl,⟨_,sT.seq hA⟩,dY_ (xs:=xs.map V.int) (fun i σ H2=>∃v3 v4 v5 v6:Option V,σ=[some (.ref a),some (.ref c),some (.ref lt),v3,v4,v5,v6]/\ak_ H H2/\H2 lt=some (.lst ((cv xs ys i).map V.int)))
   ⟨none,none,none,none,rfl,sT,hlt⟩ (fun i σ H2 _ ⟨_,_,_,_,_,h,_⟩=>h.seq hA) ?_ ?_⟩
  .rintro i x σ H2 p hx ⟨v3,v4,v5,v6,rfl,s2,hlt2⟩ np;rw [A7] at hx;obtain⟨x,hx',rfl⟩:=A4.mp hx;have hi:i<xs.length:=(AH.mp hx').1;have ex:xs.getD i 0=x:=by rw [List.getD,hx'];rfl
   have bx:=hB x (Aq hx');refine⟨p,_,rfl,SqT.of ae_,rfl,_,_,rfl,_,_,rfl,rfl, ?_⟩;have s3:ak_ H (upd H2 p (.tup [.int i, .int x])):=s2.put (s2.free np);have hlt3:upd H2 p (.tup [.int i, .int x]) lt=some (.lst ((cv xs ys i).map V.int)):=by rw [ao_ (ap_ hlt2 np)];exact hlt2
   generalize upd H2 p (.tup [.int i, .int x])=H3 at s3 hlt3⊢;have ln:=dZ_ xs ys i;refine⟨_,rfl,c,rfl,⟨_,s3.seq hC⟩,dY_ (xs:=ys.map V.int) (fun j σ H4=>∃v5 v6:Option V,σ=[some (.ref a),some (.ref c),some (.ref lt),some (.int i),some (.int x),v5,v6]/\ak_ H H4/\H4 lt=some (.lst ((bC_ (cv xs ys i) i ((ys.take j).map (x* ·))).map V.int)))
    ⟨v5,v6,rfl,s3,by rw [List.take_zero,Ct,fb_];exact hlt3⟩ (fun j σ H4 _ ⟨_,_,_,h,_⟩=>h.seq hC) ?_ ?_⟩
   .rintro j y σ H4 p2 hy ⟨v5,v6,rfl,s4,hlt4⟩ np2;rw [A7] at hy;obtain⟨y,hy',rfl⟩:=A4.mp hy;have hj:j<ys.length:=(AH.mp hy').1;have hlen:(bC_ (cv xs ys i) i ((ys.take j).map (x* ·))).length=xs.length+ys.length:=by rw [aP_,ln]
    have hl5:upd H4 p2 (.tup [.int j, .int y]) lt=some (.lst ((bC_ (cv xs ys i) i ((ys.take j).map (x* ·))).map V.int)):=by rw [ao_ (ap_ hlt4 np2)];exact hlt4
    refine⟨p2,_,rfl,SqT.of ae_,rfl,_,_,rfl,_,_,rfl,rfl, ?_⟩;refine⟨_,rfl,_,rfl,_,rfl,_,_,rfl,rfl,lt,_,i+j,_, .int ((bC_ (cv xs ys i) i ((ys.take j).map (x* ·))).getD (i+j) 0),rfl,rfl,by lia,SqL.of hl5, ?_,_,rfl,_,rfl,_,_,rfl,rfl, .inl ⟨by lia,by lia⟩,_,_,rfl,rfl,lt,_,_,i+j,rfl,rfl,hl5, ?_, ?_⟩
    .exact pl_ (by lia)
    .rw [show(i:Int)+(j:Int)=((i+j:Nat):Int) by lia];exact gI_ (by rw [A2];lia)
    .refine⟨_,_,rfl,(s4.put (s4.free np2)).put nlt, ?_⟩;rw [ae_];have e:=da_ (cv xs ys i) i ((ys.take j).map (x* ·)) (x*y) (by rw [A2,Am];lia);rw [A2,Am,Cm (AW hj)] at e;have e3:ys.take (j+1)=ys.take j++[y]:=by rw [Aa,hy'];rfl
     rw [e3,AA,List.map_singleton,<-e,List.map_set]
   .rintro σ H4 ⟨v5,v6,rfl,s4,hlt4⟩;rw [A2,Al] at hlt4;refine⟨_,_,_,_,rfl,s4, ?_⟩;rw [cv,ex];exact hlt4
  .rintro σ H2 ⟨v3,v4,v5,v6,rfl,s2,hlt2⟩;rw [A2] at hlt2;exact⟨_,rfl,kk lt H2 s2 nlt hlt2⟩
theorem iH_:FnOk P w K mg base CX0 3 T.f25 T.d25 ["w"] (lk_ K):=by
 refine T.X25.F.ok kD_ (fun vs H Q E h=> ?_) (fun cdv A outer s H vs Q E hr h=> ?_)
 .obtain⟨_,rfl,_⟩:=h;rfl
 .obtain⟨w,rfl,h1,h2,kk⟩:=h;refine⟨_,(af_ (aq_ (ah_ (c7_ T) (hr.mono (by decide)) (by rfl) T.X22.m T.X22.F.kp T.X22.B .nil as_ (aa_ (aj_ aF_ ac_ (pv 0)) (aa_ (cG_ (XN:=["w"]) (sc:=ag_ dP_) (N:=["place"]) (own:=1) (js:=[]) rfl (by ac_nf) rfl rfl (b3_ (by rfl) T.n_range (aa_ (aj_ aF_ (aj_ bn_ ac_ (pv 0)) ac_) ab_)) (fun _ _ _ _=>(am_ (i:=0) (show List.Nodup (["place"]:List Str) by ac_nf) rfl (Or.inl rfl) (.inr rfl))) (bs_ (by decide)) (fun _ _ _ _=>bX_) (fun _ _ _ _=>(aj_ aF_ ac_ (aj_ cX_ (pv 0) ac_)))) ab_))))), ?_⟩;refine⟨_,rfl,_,_,rfl,rfl,_,rfl,_,_,rfl,rfl, .inl ⟨by decide,by decide⟩,_,_,rfl,rfl,_,rfl,by lia,by lia,fun acc na=> ?_⟩;have en:((2:Int)*(w:Int)-1).toNat=2*w-1:=by lia
  rw [en];refine c9_ (lo:=0) (n:=2*w-1) (own:=1) (js:=[]) (fun i H2=>ak_ H H2/\H2 acc=some (.lst (((List.range i).map fun p:Nat=>1-((p:Nat):Int)%2).map V.int))) ⟨ak_.new na,ae_⟩ ?_ ?_ bu_ bY_ ?_
  .rintro i H2 hi ⟨s2,hacc⟩;refine ni_ ?_;refine⟨_,rfl,_,_,rfl,rfl,(show(0:Int)<2 by decide),_,_,rfl,rfl,acc,_,_,rfl,rfl,hacc,al_ (by simp;lia),s2.put na, ?_⟩;rw [ae_,B4,AA,AA,CY];rfl
  .rintro H2 ⟨s2,hacc⟩;refine⟨_,acc,bo_ w,rfl,SqL.of hacc,by rw [li_];lia,fun t l lo zs H' s' nl ht hl tr=> ?_⟩;obtain⟨e1,e2⟩:=(tv_ h1).unique tr;subst e1;subst e2;exact kk t l _ _ H' (s2.trans s') (s2.free nl) ht hl ⟨rfl,rfl⟩
  .rintro σ H R R' k ⟨v1,e1,i1,j1,e2,e3,c1,i2,j2,e4,e5,h⟩;exact⟨v1,e1,i1,j1,e2,e3,c1,i2,j2,e4,e5,k _ _ h⟩
theorem l7_:FnOk P w K mg base CX0 3 T.f24 T.d24 ["one","other"] (rO_ Ent bO_ K):=by
 refine T.X24.F.ok nK_ (fun vs H Q E h=> ?_) (fun cdv A outer s H vs Q E hr h=> ?_)
 .obtain⟨_,_,_,_,_,_,_,_,rfl,_⟩:=h;rfl
 .obtain⟨t,u,p,q,l1,l2,z1,z2,rfl,ht,hp,hu,hq,n1,n2,_,_,_,_,hB,kk⟩:=h;refine⟨_,(af_ (aq_ (ah_ (c7_ T) (hr.mono (by decide)) (by rfl) T.X22.m T.X22.F.kp T.X22.B .nil as_ (aa_ (aj_ aA_ (aw_ bP_ (pv 0) ac_ (fun _ _=>rfl)) (aw_ bP_ (pv 1) ac_ (fun _ _=>rfl))) (aa_ (ah_ (dy_ T) (hr.mono (by decide)) (by rfl) T.X8.m T.X8.F.kp T.X8.B .nil as_ (aa_ (aw_ bP_ (pv 0) ac_ (fun _ _=>rfl)) (aa_ (aw_ bP_ (pv 1) ac_ (fun _ _=>rfl)) ab_))) ab_))))), ?_⟩;refine⟨_,rfl,t,_,_,_,rfl,rfl,SqT.of ht,by rfl,_,rfl,u,_,_,_,rfl,rfl,SqT.of hu,by rfl,_,_,rfl,rfl, ?_⟩;refine⟨_,rfl,t,_,_,_,rfl,rfl,SqT.of ht,by rfl,_,rfl,u,_,_,_,rfl,rfl,SqT.of hu,by rfl, ?_⟩;refine⟨p,q,z1,z2,rfl,SqL.of hp,SqL.of hq,by lia,by lia,fun x hx=>⟨by have:=hB x hx;lia,by have:=hB x hx;lia⟩,fun l H1 s1 nl hl=> ?_⟩;refine⟨_,l,cv z1 z2 z1.length,rfl,SqL.of hl,by rw [dZ_];lia,fun t' l' lo zs H' s' nl' ht' hl' tr=> ?_⟩;exact kk t' l' lo zs H' (s1.trans s') (s1.free nl') ht' hl' tr.toC
theorem l9_:FnOk P w K mg base CX0 3 T.f23 T.d23 ["one","other"] (rO_ (fun _=>True) a9_ K):=by
 refine T.X23.F.ok jv_ (fun vs H Q E h=> ?_) (fun cdv A outer s H vs Q E hr h=> ?_)
 .obtain⟨_,_,_,_,_,_,_,_,rfl,_⟩:=h;rfl
 .obtain⟨t,u,p,q,l1,l2,z1,z2,rfl,ht,hp,hu,hq,n1,n2,a1,a2,b1,b2,hB,kk⟩:=h;refine⟨_,(ad_ (b2_ (eN_ (eu_ (aw_ bP_ (pv 0) ac_ (fun _ _=>rfl)) (fun _=>rfl))) (af_ (aq_ (ah_ (c7_ T) (hr.mono (by decide)) (by rfl) T.X22.m T.X22.F.kp T.X22.B .nil as_ (aa_ (aw_ bP_ (pv 1) ac_ (fun _ _=>rfl)) (aa_ (aw_ bP_ (pv 1) ac_ (fun _ _=>rfl)) ab_))))) aJ_)
   (ad_ (b2_ (eN_ (eu_ (aw_ bP_ (pv 1) ac_ (fun _ _=>rfl)) (fun _=>rfl))) (af_ (aq_ (ah_ (c7_ T) (hr.mono (by decide)) (by rfl) T.X22.m T.X22.F.kp T.X22.B .nil as_ (aa_ (aw_ bP_ (pv 0) ac_ (fun _ _=>rfl)) (aa_ (aw_ bP_ (pv 0) ac_ (fun _ _=>rfl)) ab_))))) aJ_)
   (ad_ (ar_ (i:=2) jv_.nd rfl (by trivial) (aC_ (m2_ rfl) (by rfl) T.n_min boot_min (aa_ (aw_ bP_ (pv 0) ac_ (fun _ _=>rfl)) (aa_ (aw_ bP_ (pv 1) ac_ (fun _ _=>rfl)) ab_))))
   (af_ (aq_ (ah_ (c7_ T) (hr.mono (by decide)) (by rfl) T.X22.m T.X22.F.kp T.X22.B .nil as_ (aa_ (pv 2) (aa_ (ah_ (eR_ T) (hr.mono (by decide)) (by rfl) T.X7.m T.X7.F.kp T.X7.B .nil as_ (aa_ (aj_ hn_ (aj_ hm_ (ej_ (aa_ ac_ ab_)) (aj_ aF_ (aw_ bP_ (pv 0) ac_ (fun _ _=>rfl)) (pv 2))) (aw_ bP_ (pv 0) ac_ (fun _ _=>rfl))) (aa_ (aj_ hn_ (aj_ hm_ (ej_ (aa_ ac_ ab_)) (aj_ aF_ (aw_ bP_ (pv 1) ac_ (fun _ _=>rfl)) (pv 2))) (aw_ bP_ (pv 1) ac_ (fun _ _=>rfl))) ab_))) ab_)))))))), ?_⟩
  by_cases hz1:z1=[]
  .subst hz1;refine⟨_,rfl,t,_,_, .ref p,rfl,rfl,SqT.of ht,by rfl,false, .inl ⟨_,SqL.of hp,rfl⟩,j4_ ?_⟩;refine⟨_,rfl,u,_,_,_,rfl,rfl,SqT.of hu,by rfl,_,rfl,u,_,_,_,rfl,rfl,SqT.of hu,by rfl, ?_⟩;exact⟨l2,q,z2,rfl,SqL.of hq,by lia,fun t' l' lo zs H' s' nl' ht' hl' tr=>kk t' l' lo zs H' s' nl' ht' hl' tr.toC⟩
  .have i1:z1.isEmpty=false:=by cases z1 with|nil=>exact absurd rfl hz1|cons _ _=>rfl
   refine⟨_,rfl,t,_,_, .ref p,rfl,rfl,SqT.of ht,by rfl,true, .inl ⟨_,SqL.of hp,by cases z1 with|nil=>exact absurd rfl hz1|cons _ _=>rfl⟩,fm_ ?_⟩;by_cases hz2:z2=[]
   .subst hz2;refine⟨_,rfl,u,_,_, .ref q,rfl,rfl,SqT.of hu,by rfl,false, .inl ⟨_,SqL.of hq,rfl⟩,j4_ ?_⟩;refine⟨_,rfl,t,_,_,_,rfl,rfl,SqT.of ht,by rfl,_,rfl,t,_,_,_,rfl,rfl,SqT.of ht,by rfl, ?_⟩;refine⟨l1,p,z1,rfl,SqL.of hp,by lia,fun t' l' lo zs H' s' nl' ht' hl' tr=>kk t' l' lo zs H' s' nl' ht' hl' ?_⟩;unfold a9_;rw [A5 (by rw [i1];decide)];exact tr.toC
   .have i2:z2.isEmpty=false:=by cases z2 with|nil=>exact absurd rfl hz2|cons _ _=>rfl
    refine⟨_,rfl,u,_,_, .ref q,rfl,rfl,SqT.of hu,by rfl,true, .inl ⟨_,SqL.of hq,by cases z2 with|nil=>exact absurd rfl hz2|cons _ _=>rfl⟩,fm_ ?_⟩;refine⟨_,rfl,t,_,_,_,rfl,rfl,SqT.of ht,by rfl,_,rfl,u,_,_,_,rfl,rfl,SqT.of hu,by rfl,_,_,rfl, ?_⟩;have fin:∀{lo:Int}{zs:List Int},Tr (if l2<l1 then l2 else l1) (ny_ (List.replicate (l1-(if l2<l1 then l2 else l1)).toNat 0++z1) (List.replicate (l2-(if l2<l1 then l2 else l1)).toNat 0++z2)) lo zs->(lo,zs)=a9_ (l1,z1) (l2,z2):=fun{lo zs} tr=>by
     unfold a9_;rw [A5 (by rw [i1];decide),A5 (by rw [i2];decide)];exact tr.toC
    have hlow: -100<=(if l2<l1 then l2 else l1)/\(if l2<l1 then l2 else l1)<=100/\(if l2<l1 then l2 else l1)<=l1/\(if l2<l1 then l2 else l1)<=l2:=by split<;>lia
    generalize (if l2<l1 then l2 else l1)=low at fin hlow⊢;refine⟨_,rfl,(by show 1<=sizeLine;decide),fun c1 nc1=> ?_⟩;have s1:ak_ H (upd H c1 (.lst [.int 0])):=ak_.new nc1;have hc1:upd H c1 (.lst [.int 0]) c1=some (.lst [.int 0]):=ae_;generalize upd H c1 (.lst [.int 0])=H1 at s1 hc1⊢;refine⟨_,rfl,t,_,_,_,rfl,rfl,SqT.of (s1 _ _ ht),by rfl,_,rfl,_,_,rfl,rfl,c1,_,_,rfl,rfl,hc1,by lia,by lia, ?_, ?_⟩
    .rw [B0,Nat.one_mul];exact AW (al_ (by lia))
    rw [es_];intro c2 nc2;generalize hH2:upd H1 c2 _=H2;have s2:ak_ H1 H2:=hH2▸ak_.new nc2;have hc2:H2 c2=some (.lst ((List.replicate (l1-low).toNat (0:Int)).map V.int)):=by rw [<-hH2];exact ae_
    clear hH2;have s2:=s1.trans s2;refine⟨_,rfl,t,_,_, .ref p,rfl,rfl,SqT.of (s2 _ _ ht),by rfl,c2,p,_,_,rfl,rfl,hc2,s2 _ _ hp, ?_, ?_⟩
    .rw [A2,A2,B6];exact AW (al_ (by lia))
    rw [<-AA];intro c3 nc3;generalize hH3:upd H2 c3 _=H3;have s3:ak_ H2 H3:=hH3▸ak_.new nc3;have hc3:H3 c3=some (.lst ((List.replicate (l1-low).toNat (0:Int)++z1).map V.int)):=by rw [<-hH3];exact ae_
    clear hH3;have s3:=s2.trans s3;refine⟨(by show 1<=sizeLine;decide),fun d1 nd1=> ?_⟩;generalize hH4:upd H3 d1 _=H4;have s4:ak_ H3 H4:=hH4▸ak_.new nd1;have hd1:H4 d1=some (.lst [.int 0]):=by rw [<-hH4];exact ae_
    clear hH4;have hc3:=s4 _ _ hc3;have s4:=s3.trans s4;refine⟨_,rfl,u,_,_,_,rfl,rfl,SqT.of (s4 _ _ hu),by rfl,_,rfl,_,_,rfl,rfl,d1,_,_,rfl,rfl,hd1,by lia,by lia, ?_, ?_⟩
    .rw [B0,Nat.one_mul];exact AW (al_ (by lia))
    rw [es_];intro d2 nd2;generalize hH5:upd H4 d2 _=H5;have s5:ak_ H4 H5:=hH5▸ak_.new nd2;have hd2:H5 d2=some (.lst ((List.replicate (l2-low).toNat (0:Int)).map V.int)):=by rw [<-hH5];exact ae_
    clear hH5;have hc3:=s5 _ _ hc3;have s5:=s4.trans s5;refine⟨_,rfl,u,_,_, .ref q,rfl,rfl,SqT.of (s5 _ _ hu),by rfl,d2,q,_,_,rfl,rfl,hd2,s5 _ _ hq, ?_, ?_⟩
    .rw [A2,A2,B6];exact AW (al_ (by lia))
    rw [<-AA];intro d3 nd3;generalize hH6:upd H5 d3 _=H6;have s6:ak_ H5 H6:=hH6▸ak_.new nd3;have hd3:H6 d3=some (.lst ((List.replicate (l2-low).toNat (0:Int)++z2).map V.int)):=by rw [<-hH6];exact ae_
    clear hH6;have hc3:=s6 _ _ hc3;have s6:=s5.trans s6;refine⟨c3,d3,_,_,rfl,SqL.of hc3,SqL.of hd3,by simp;lia,by simp;lia,trivial,fun l H7 s7 nl hl=> ?_⟩;refine⟨low,l,_,rfl,SqL.of hl, ?_,fun t' l' lo zs H' s' nl' ht' hl' tr=> ?_⟩
    .simp [ny_,aP_];lia
    .have s7:=s6.trans s7;exact kk t' l' lo zs H' (s7.trans s') (s7.free nl') ht' hl' (fin tr)
theorem ev_:FnOk P w K mg base CX0 3 T.f24 T.d24 ["one","other"] (uP_ Ent bO_):=FnOk.imp (l7_ T) fun vs H Q E h=>by
 obtain⟨v,u,x,y,rfl,hv,hu,sx,sy,hB,kk⟩:=h;obtain⟨t,p,rfl,ht,hp⟩:=oa_ hv;obtain⟨t2,q,rfl,ht2,hq⟩:=oa_ hu;exact⟨t,t2,p,q,x.1,y.1,x.2,y.2,rfl,ht,hp,ht2,hq,sx.1,sy.1,sx.2.1,sx.2.2,sy.2.1,sy.2.2,hB,fun t' l' lo zs H' s' nl' ht' hl' e=>kk _ H' s' (by rw [show bO_ x y=(lo,zs) from e.symm];exact kN_ ht' hl')⟩
theorem go_:FnOk P w K mg base CX0 3 T.f23 T.d23 ["one","other"] (uP_ (fun _=>True) a9_):=FnOk.imp (l9_ T) fun vs H Q E h=>by
 obtain⟨v,u,x,y,rfl,hv,hu,sx,sy,hB,kk⟩:=h;obtain⟨t,p,rfl,ht,hp⟩:=oa_ hv;obtain⟨t2,q,rfl,ht2,hq⟩:=oa_ hu;exact⟨t,t2,p,q,x.1,y.1,x.2,y.2,rfl,ht,hp,ht2,hq,sx.1,sy.1,sx.2.1,sx.2.2,sy.2.1,sy.2.2,hB,fun t' l' lo zs H' s' nl' ht' hl' e=>kk _ H' s' (by rw [show a9_ x y=(lo,zs) from e.symm];exact kN_ ht' hl')⟩
theorem fv_:FnOk P w K mg base CX0 3 T.f25 T.d25 ["w"] tA_:=FnOk.imp (iH_ T) fun vs H Q E h=>by
 obtain⟨n,rfl,h1,h2,kk⟩:=h;exact⟨n,rfl,h1,h2,fun t' l' lo zs H' s' nl' ht' hl' e=>kk _ H' s' (by obtain⟨e1,e2⟩:=e;subst e1 e2;exact kN_ (s:=aS_ n) ht' hl')⟩
theorem a5_:FnOk P w K mg base CX0 3 T.f36 T.d36 ["number"] vl_:=by
 refine T.X36.F.ok hc_ (fun vs H Q E h=> ?_) (fun cdv A outer s H vs Q E hr h=> ?_)
 .obtain⟨_,rfl,_⟩:=h;rfl
 .obtain⟨n,rfl,kk⟩:=h;refine⟨_,(af_ (aq_ (ah_ (c7_ T) (hr.mono (by decide)) (by rfl) T.X22.m T.X22.F.kp T.X22.B .nil as_ (aa_ ac_ (aa_ (aE_ (aa_ (pv 0) ab_)) ab_))))), ?_⟩;refine⟨_,rfl,(by show 1<=sizeLine;decide),fun l H1 nl s1 hl=> ?_⟩;refine⟨0,l,[n],rfl,SqL.of hl,by simp,fun t' l' lo zs H' s' nl' ht' hl' tr=>kk _ H' (s1.trans s') ?_⟩;rw [show ofN n=(lo,zs) from tr.toC.symm];exact kN_ ht' hl'
theorem oX_ {n:Nat} (h1:1<=n) (h2:n<=50):Sms (aS_ n):=by
 have h:=jm_ h1;unfold Sup at h;unfold Sms;lia
theorem ho_:FnOk P w K mg base CX0 4 T.f37 T.d37 ["weights"] tz_:=by
 refine T.X37.F.ok ca_ (fun vs H Q E h=> ?_) (fun cdv A outer s H vs Q E hr h=> ?_)
 .obtain⟨_,_,rfl,_⟩:=h;rfl
 .obtain⟨v,ws,rfl,hv,hB,kk⟩:=h;refine⟨_,(ad_ (ar_ (i:=1) ca_.nd rfl (by trivial) (ah_ (a5_ T) (hr.mono (by decide)) (by rfl) T.X36.m T.X36.F.kp T.X36.B .nil as_ (aa_ ac_ ab_)))
   (ad_ (aQ_ AR rfl (a4_ (pv 0)) (am_ (i:=2) ca_.nd rfl (by trivial)) (af_ (ar_ (i:=1) ca_.nd rfl (by trivial) (ah_ (ev_ T) (hr.mono (by decide)) (by rfl) T.X24.m T.X24.F.kp T.X24.B .nil as_ (aa_ (pv 1) (aa_ (ah_ (fv_ T) (hr.mono (by decide)) (by rfl) T.X25.m T.X25.F.kp T.X25.B .nil as_ (aa_ (pv 2) ab_)) ab_))))))
   (af_ (aq_ (pv 1))))), ?_⟩
  refine⟨1,rfl,fun v1 H1 s1 hv1=> ?_⟩;obtain⟨la,lvs,rfl,hl,hli⟩:=cI_ hv;obtain rfl:=dU_ hli;have hl1:=s1 _ _ hl;refine⟨_,rfl,la,rfl,⟨_,SqL.of hl1⟩,bB_ (xs:=ws.map V.int) (fun i σ H2=>(∃vp v2,σ=[some (.ref la),some vp,v2]/\Is H2 (shD ((ws.take i).foldl (fun t w=>bO_ t (aS_ w.toNat)) (ofN 1))) vp)/\ak_ H1 H2) ⟨⟨v1,none,rfl,hv1⟩,ak_.refl _⟩ (fun i σ H2 _ h=>SqL.of (h.2 _ _ hl1)) ?_ ?_⟩
  .rintro i y σ H2 hi ⟨⟨vp,v2,rfl,hvp⟩,s2⟩;rw [A7] at hi;obtain⟨wt,hw,rfl⟩:=A4.mp hi;obtain⟨c1,c2,c3⟩:=lf_ hB i wt hw;have c1:=cQ_ c1;obtain⟨n,rfl⟩:=AX (show 0<=wt by lia);refine⟨_,rfl,_,rfl,n,rfl,by lia,by lia,fun vt H3 s3 hvt=> ?_⟩;refine⟨vp,vt,_,_,rfl,hvp.mono s3,hvt,c1.1,oX_ (by lia) (by lia),c1.2,fun vm H4 s4 hvm=> ?_⟩;refine⟨⟨vm,_,rfl, ?_⟩,(s2.trans s3).trans s4⟩;rw [c1_ hw];exact hvm
  .rintro σ H2 ⟨⟨vp,v2,rfl,hvp⟩,s2⟩;rw [A2,Al] at hvp;exact⟨_,rfl,kk vp H2 (s1.trans s2) hvp⟩
theorem hq_:FnOk P w K mg base CX0 1 T.f28 T.d28 ["a","b","c"] (tM_ K):=by
 refine T.X28.F.ok lt_ (fun vs H Q E h=> ?_) (fun cdv A outer s H vs Q E hr h=> ?_)
 .obtain⟨_,_,_,_,_,_,rfl,_⟩:=h;rfl
 .obtain⟨a,b,c,p,q,r,rfl,ha,hb,hc,i1,i2,i3,kk⟩:=h;refine⟨_,(af_ (aq_ (aj_ aF_ (aj_ bn_ (aj_ aF_ (aw_ au_ (pv 1) ac_ (fun _ _=>rfl)) (aw_ au_ (pv 0) ac_ (fun _ _=>rfl))) (aj_ aF_ (aw_ au_ (pv 2) ac_ (fun _ _=>rfl)) (aw_ au_ (pv 1) ac_ (fun _ _=>rfl)))) (aj_ bn_ (aj_ aF_ (aw_ au_ (pv 1) ac_ (fun _ _=>rfl)) (aw_ au_ (pv 0) ac_ (fun _ _=>rfl))) (aj_ aF_ (aw_ au_ (pv 2) ac_ (fun _ _=>rfl)) (aw_ au_ (pv 1) ac_ (fun _ _=>rfl))))))), ?_⟩;unfold inB at i1 i2 i3;simp only [AC,AT] at i1 i2 i3;refine⟨_,rfl,_,0,_,hb,rfl,rfl,fun u hu=> ?_⟩;rw [cn_ hu];refine⟨_,rfl,_,0,_,ha,rfl,rfl,fun u hu=> ?_⟩;rw [cn_ hu];refine⟨_,_,rfl,rfl,_,rfl,_,1,_,hc,rfl,rfl,fun u hu=> ?_⟩;rw [cn_ hu];refine⟨_,rfl,_,1,_,hb,rfl,rfl,fun u hu=> ?_⟩;rw [cn_ hu];refine⟨_,_,rfl,rfl,_,_,rfl,rfl, .inr ⟨by lia,by lia⟩,_,rfl,_,1,_,hb,rfl,rfl,fun u hu=> ?_⟩;rw [cn_ hu];refine⟨_,rfl,_,1,_,ha,rfl,rfl,fun u hu=> ?_⟩;rw [cn_ hu];refine⟨_,_,rfl,rfl,_,rfl,_,0,_,hc,rfl,rfl,fun u hu=> ?_⟩;rw [cn_ hu];refine⟨_,rfl,_,0,_,hb,rfl,rfl,fun u hu=> ?_⟩;rw [cn_ hu];exact⟨_,_,rfl,rfl,_,_,rfl,rfl, .inr ⟨by lia,by lia⟩,_,_,rfl,rfl,kk⟩
theorem iJ_:FnOk P w K mg base CX0 1 T.f27 T.d27 ["d","point"] (tI_ K):=by
 refine T.X27.F.ok is_ (fun vs H Q E h=> ?_) (fun cdv A outer s H vs Q E hr h=> ?_)
 .obtain⟨_,_,_,rfl,_⟩:=h;rfl
 .obtain⟨d,v,p,rfl,hv,kk⟩:=h;refine⟨_,(af_ (aq_ (jH_ (gf_ l1_ (aw_ au_ (pv 1) ac_ (fun _ _=>rfl)) ac_ (aK_ _)) (jH_ (gf_ l1_ (aw_ au_ (pv 1) ac_ (fun _ _=>rfl)) ac_ (aK_ _)) (lP_ (gf_ n6_ (aj_ aA_ (aw_ au_ (pv 1) ac_ (fun _ _=>rfl)) (aw_ au_ (pv 1) ac_ (fun _ _=>rfl))) (pv 0) (aK_ _))))))), ?_⟩;unfold fD_ at kk;refine⟨_,rfl,_,0,_,hv,rfl,rfl,fun u hu=> ?_⟩;rw [cn_ hu];refine⟨_,_,rfl,rfl,_,rfl,iS_ (fun c1=> ?_) (fun c1=> ?_)⟩
  .rw [B5 (show p.1>=0 from c1),Bool.true_and] at kk;refine⟨_,rfl,_,1,_,hv,rfl,rfl,fun u hu=> ?_⟩;rw [cn_ hu];refine⟨_,_,rfl,rfl,_,rfl,iS_ (fun c2=> ?_) (fun c2=> ?_)⟩
   .rw [B5 (show p.2>=0 from c2),Bool.true_and] at kk;refine⟨_,rfl,_,0,_,hv,rfl,rfl,fun u hu=> ?_⟩;rw [cn_ hu];refine⟨_,rfl,_,1,_,hv,rfl,rfl,fun u hu=> ?_⟩;rw [cn_ hu];exact⟨_,_,rfl,rfl,_,rfl,_,_,rfl,rfl,kk⟩
   .rw [Ao (show¬p.2>=0 from c2),Bool.false_and] at kk;exact kk
  .rw [Ao (show¬p.1>=0 from c1),Bool.false_and] at kk;exact kk
theorem gn_:FnOk P w K mg base CX0 2 T.f31 T.d31 ["way","side"] (rP_ K):=by
 refine T.X31.F.ok dN_ (fun vs H Q E h=> ?_) (fun cdv A outer s H vs Q E hr h=> ?_)
 .obtain⟨_,_,_,rfl,_⟩:=h;rfl
 .obtain⟨v,ps,sd,rfl,hv,hB,hs,kk⟩:=h;refine⟨_,(ad_ (aQ_ AR rfl (cq_ (by rfl) T.n_range (aa_ ac_ (aa_ (aj_ aF_ (aC_ h3_ (by rfl) T.n_len boot_len (aa_ (pv 0) ab_)) ac_) ab_))) (am_ (i:=2) dN_.nd rfl (by trivial)) (af_ (b2_ (aD_ n7_ (aj_ bn_ (ah_ (hq_ T) (hr.mono (by decide)) (by rfl) T.X28.m T.X28.F.kp T.X28.B .nil as_ (aa_ (aw_ b0_ (pv 0) (aj_ aF_ (pv 2) ac_) (fun _ _=>rfl)) (aa_ (aw_ b0_ (pv 0) (pv 2) (fun _ _=>rfl)) (aa_ (aw_ b0_ (pv 0) (aj_ aA_ (pv 2) ac_) (fun _ _=>rfl)) ab_)))) (pv 1)) ac_ (aK_ _)) (af_ (aq_ (pv 2))) aJ_)))
   (af_ (aq_ lQ_))), ?_⟩
  obtain⟨p1,p2⟩:=lH_ hB;have hb:∀j,j<ps.length->inB (ps.getD j zP)=true:=fun j hj=>by
   unfold psB at hB;simp only [AC,AV] at hB;exact hB.1 _ (b4_ hj)
  have sb: -1<=sd/\sd<=1:=by unfold Sd at hs;lia
  refine⟨_,rfl,_,_,rfl, .inl hv,_,_,rfl,rfl,1,_,rfl,⟨by decide,by decide,by rw [A2];lia,by rw [A2];lia⟩, ?_⟩;rw [show((((ps.map pt).length:Nat):Int)-1-1).toNat=ps.length-2 by rw [A2];lia];refine bA_ (lo:=1) (n:=ps.length-2) (fun i σ H2=>(∃v2,σ=[some v,some (.int sd),v2])/\H2=H/\∀j,j<i->decide (crn (ps.getD j zP) (ps.getD (j+1) zP) (ps.getD (j+2) zP)*sd>0)=false) ⟨⟨none,rfl⟩,rfl,fun j hj=>absurd hj (by lia)⟩ ?_ ?_
  .rintro i σ H2 hi ⟨⟨v2,rfl⟩,rfl,hn⟩;have a0:=d2_ (ps:=ps) (j:=i) (by lia);have a1:=d2_ (ps:=ps) (j:=i+1) (by lia);have a2:=d2_ (ps:=ps) (j:=i+2) (by lia);refine⟨_,rfl,_,rfl,_,_,rfl,rfl,_,_,_,hv,rfl,by rw [show(1+(i:Int))-1=((i:Nat):Int) by lia];exact a0,fun u0 h0=> ?_⟩;refine⟨_,rfl,_,rfl,_,_,_,hv,rfl,by rw [show(1+(i:Int))=((i+1:Nat):Int) by lia];exact a1,fun u1 h1=> ?_⟩;refine⟨_,rfl,_,rfl,_,_,rfl,rfl,_,_,_,hv,rfl,by rw [show(1+(i:Int))+1=((i+2:Nat):Int) by lia];exact a2,fun u2 h2=> ?_⟩;refine⟨u0,u1,u2,_,_,_,rfl,h0,h1,h2,hb _ (by lia),hb _ (by lia),hb _ (by lia),_,rfl,_,_,rfl,rfl, .inr ⟨by lia,by lia⟩,_,_,rfl,rfl,_,rfl,iS_ (fun c=> ?_) (fun c=> ?_)⟩
   .refine⟨_,rfl, ?_⟩;have e:b6_ ps sd=some (i+1):=by
     unfold b6_;rw [hS_ hi hn (B5 c)];rfl
    rw [e] at kk;have:uT_ (some (i+1))= .int (1+(i:Int)):=by show V.int (((i+1:Nat):Int))=_;congr 1;lia
    rw [this] at kk;exact kk
   .refine⟨⟨_,rfl⟩,rfl,fun j hj=> ?_⟩;by_cases e:j=i
    .rw [e];exact Ao c
    .exact hn j (by lia)
  .rintro σ H2 ⟨⟨v2,rfl⟩,rfl,hn⟩;have e:b6_ ps sd=none:=by
    unfold b6_;rw [mO_ hn];rfl
   rw [e] at kk;exact kk
theorem n8_:FnOk P w K mg base CX0 3 T.f32 T.d32 ["d","way","side"] (p0_ K):=by
 refine T.X32.F.ok cz_ (fun vs H Q E h=> ?_) (fun cdv A outer s H vs Q E hr h=> ?_)
 .obtain⟨_,_,_,_,rfl,_⟩:=h;rfl
 .obtain⟨d,v,ps,sd,rfl,hv,hB,hs,kk⟩:=h;refine⟨_,(ad_ (ar_ (i:=3) cz_.nd rfl (by trivial) (ah_ (gn_ T) (hr.mono (by decide)) (by rfl) T.X31.m T.X31.F.kp T.X31.B .nil as_ (aa_ (pv 1) (aa_ (pv 2) ab_))))
   (ad_ (b2_ (aD_ se_ (pv 3) lQ_ (aK_ _)) (af_ (aq_ (aE_ ab_))) aJ_)
   (ad_ (ar_ (i:=4) cz_.nd rfl (by trivial) (aw_ b0_ (pv 1) (aj_ aF_ (pv 3) ac_) (fun _ _=>rfl)))
   (ad_ (ar_ (i:=5) cz_.nd rfl (by trivial) (aw_ b0_ (pv 1) (pv 3) (fun _ _=>rfl)))
   (ad_ (ar_ (i:=6) cz_.nd rfl (by trivial) (aw_ b0_ (pv 1) (aj_ aA_ (pv 3) ac_) (fun _ _=>rfl)))
   (ad_ (ar_ (i:=7) cz_.nd rfl (by trivial) (aE_ (aa_ (ay_ (aa_ (ay_ (aa_ (pv 4) (aa_ (pv 5) (aa_ (pv 6) ab_)))) (aa_ (aj_ cl_ (br_ cy_ (pv 1) ck_ (bR_ (pv 3))) (br_ cy_ (pv 1) (bR_ (aj_ aA_ (pv 3) ac_)) ck_)) ab_))) ab_)))
   (ad_ (ar_ (i:=8) cz_.nd rfl (by trivial) (ay_ (aa_ (aj_ aF_ (aj_ aA_ (aw_ au_ (pv 4) ac_ (fun _ _=>rfl)) (aw_ au_ (pv 6) ac_ (fun _ _=>rfl))) (aw_ au_ (pv 5) ac_ (fun _ _=>rfl))) (aa_ (aj_ aF_ (aj_ aA_ (aw_ au_ (pv 4) ac_ (fun _ _=>rfl)) (aw_ au_ (pv 6) ac_ (fun _ _=>rfl))) (aw_ au_ (pv 5) ac_ (fun _ _=>rfl))) ab_))))
   (ad_ (b2_ (hi_ (ah_ (iJ_ T) (hr.mono (by decide)) (by rfl) T.X27.m T.X27.F.kp T.X27.B .nil as_ (aa_ (pv 0) (aa_ (pv 8) ab_)))) (af_ (aG_ (fj_ Ay BM BL bN_ (pv 7) (aa_ (ay_ (aa_ (ay_ (aa_ (pv 4) (aa_ (pv 5) (aa_ (pv 6) (aa_ (pv 8) ab_))))) (aa_ (aj_ cl_ (aj_ cl_ (br_ cy_ (pv 1) ck_ (bR_ (pv 3))) (aE_ (aa_ (pv 8) ab_))) (br_ cy_ (pv 1) (bR_ (aj_ aA_ (pv 3) ac_)) ck_)) ab_))) ab_)))) aJ_)
   (af_ (aq_ (pv 7))))))))))), ?_⟩
  obtain⟨p1,p2⟩:=lH_ hB;refine⟨_,rfl,_,rfl,v,ps,sd,rfl,hv,hB,hs, ?_⟩;unfold bl_ at kk;cases hT:b6_ ps sd with
  |none=>
   rw [hT] at kk;exact⟨_,rfl,rfl,_,rfl,j4_ ⟨AS _,fun l H1 n1 s1 h1=>kk l H1 s1 n1 (cu_ (by rw [ce_ n1];exact h1) an_)⟩⟩
  |some p=>
   rw [hT] at kk;dsimp only at kk;obtain⟨t1,t2⟩:=fT_ hT;refine⟨_,rfl,rfl,_,rfl,fm_ ?_⟩;show _;have a0:=d2_ (ps:=ps) (j:=p-1) (by lia);have a1:=d2_ (ps:=ps) (j:=p) (by lia);have a2:=d2_ (ps:=ps) (j:=p+1) (by lia);refine⟨_,rfl,_,rfl,_,_,rfl,rfl,_,_,_,hv,rfl,by rw [show((p:Int)-1)=((p-1:Nat):Int) by lia];exact a0,fun ua ha=> ?_⟩;refine⟨_,rfl,_,rfl,_,_,_,hv,rfl,a1,fun ub hb=> ?_⟩;refine⟨_,rfl,_,rfl,_,_,rfl,rfl,_,_,_,hv,rfl,by rw [show((p:Int)+1)=((p+1:Nat):Int) by lia];exact a2,fun uc hc=> ?_⟩;generalize ps.getD (p-1) zP=pa at kk ha;generalize ps.getD p zP=pb at kk hb;generalize ps.getD (p+1) zP=pc at kk hc;obtain⟨da,dvs,rfl,hda,hdi⟩:=cI_ hv;have dlen:dvs.length=ps.length:=by rw [hdi.length,A2]
   refine⟨_,rfl,_,rfl,_,rfl,(by show 3<=sizeLine;decide),fun t1' H1 n1 s1 h1=> ?_⟩;refine⟨_,rfl,_,rfl,(p:Int),rfl,da,_,rfl,SqL.of (s1 _ _ hda), ?_⟩;rw [gS_];intro l2 n2;have s2:ak_ H1 (upd H1 l2 (.lst (dvs.take p))):=ak_.new n2;have h2:(upd H1 l2 (.lst (dvs.take p))) l2=some (.lst (dvs.take p)):=ae_;generalize upd H1 l2 (.lst (dvs.take p))=H2 at s2 h2⊢;refine⟨_,rfl,_,rfl,_,_,rfl,rfl,(p:Int)+1,rfl,da,_,rfl,SqL.of (s2 _ _ (s1 _ _ hda)), ?_⟩;rw [show((p:Int)+1)=((p+1:Nat):Int) by lia,d0_ (by lia)];intro l3 n3;have s3:ak_ H2 (upd H2 l3 (.lst (dvs.drop (p+1)))):=ak_.new n3;have h3:(upd H2 l3 (.lst (dvs.drop (p+1)))) l3=some (.lst (dvs.drop (p+1))):=ae_;generalize upd H2 l3 (.lst (dvs.drop (p+1)))=H3 at s3 h3⊢;have s03:ak_ H H3:=(s1.trans s2).trans s3;have i2:Is H3 (pts (ps.take p)) (.ref l2):=cu_ (s3 _ _ h2) (by rw [List.map_take];exact(hdi.take p).mono s03);have i3:Is H3 (pts (ps.drop (p+1))) (.ref l3):=cu_ h3 (by rw [Cc];exact(hdi.drop (p+1)).mono s03);refine⟨_,_,i2,i3,AW (al_ (by rw [A2,A2,Am,Bc];lia)),fun q4 H4 n4 s4 h4=>⟨(by show 2<=sizeLine;decide),fun t5 H5 n5 s5 h5=>⟨(by show 1<=sizeLine;decide),fun fo H6 n6 s6 h6=> ?_⟩⟩⟩;rw [<-AA] at h4;have s06:ak_ H H6:=((s03.trans s4).trans s5).trans s6;have nfo:H fo=none:=((s03.trans s4).trans s5).free n6;have s05:ak_ H H5:=(s03.trans s4).trans s5;have is1:Is (nw H H5) (rm_ ([pa,pb,pc],ps.take p++ps.drop (p+1))) (.ref t5):=by
    refine g1_ (by rw [ce_ ((s03.trans s4).free n5)];exact h5) (ai_ ?_ (ai_ (pc_ s05 (s03.free n4) (Is.mono (s:=s5) h4)) an_));exact rz_ (qw_ s05) (g1_ (s5 _ _ (s4 _ _ (s3 _ _ (s2 _ _ h1)))) (ai_ (ha.mono s05) (ai_ (hb.mono s05) (ai_ (hc.mono s05) an_))))
   refine⟨_,rfl,_,0,_,ha.mono s06,rfl,rfl,fun u hu=> ?_⟩;rw [cn_ hu];refine⟨_,rfl,_,0,_,hc.mono s06,rfl,rfl,fun u hu=> ?_⟩;rw [cn_ hu];refine⟨_,_,rfl,rfl,_,rfl,_,0,_,hb.mono s06,rfl,rfl,fun u hu=> ?_⟩;rw [cn_ hu];refine⟨_,_,rfl,rfl,_,rfl,_,1,_,ha.mono s06,rfl,rfl,fun u hu=> ?_⟩;rw [cn_ hu];refine⟨_,rfl,_,1,_,hc.mono s06,rfl,rfl,fun u hu=> ?_⟩;rw [cn_ hu];refine⟨_,_,rfl,rfl,_,rfl,_,1,_,hb.mono s06,rfl,rfl,fun u hu=> ?_⟩;rw [cn_ hu];refine⟨_,_,rfl,rfl,(by show 2<=sizeLine;decide),fun t7 H7 n7 s7 h7=> ?_⟩;have hf:Is H7 (pt (c2_ pa pb pc)) (.ref t7):=iT_ h7;have s07:=s06.trans s7;refine⟨_,rfl,_,rfl,d,_,_,rfl,hf,fD_ d (c2_ pa pb pc),rfl, ?_⟩;cases hP:fD_ d (c2_ pa pb pc) with
   |false=>
    rw [hP] at kk;refine fm_ ⟨_,rfl,kk fo H7 s07 nfo ?_⟩;exact cu_ (by rw [ce_ nfo];exact s7 _ _ h6) (ai_ (is1.mono (dz_ (s6.trans s7))) an_)
   |true=>
    rw [hP] at kk;refine j4_ ⟨_,rfl, .inl ⟨rfl,_,SqL.of (s7 _ _ h6)⟩,_,rfl,_,rfl,_,rfl,_,rfl,(by show 4<=sizeLine;decide),fun t8 H8 n8 s8 h8=> ?_⟩;have s08:=s07.trans s8;refine⟨_,rfl,_,rfl,(p:Int),rfl,da,_,rfl,SqL.of (s08 _ _ hda), ?_⟩;rw [gS_];intro l9 n9;have s9:ak_ H8 (upd H8 l9 (.lst (dvs.take p))):=ak_.new n9;have h9:(upd H8 l9 (.lst (dvs.take p))) l9=some (.lst (dvs.take p)):=ae_;generalize upd H8 l9 (.lst (dvs.take p))=H9 at s9 h9⊢;have s09:=s08.trans s9;refine⟨_,rfl,(by show 1<=sizeLine;decide),fun la Ha na sa hla=> ?_⟩;have s0a:=s09.trans sa;refine⟨_,[pt (c2_ pa pb pc)],cu_ (sa _ _ h9) (by rw [List.map_take];exact(hdi.take p).mono s0a:Iss Ha ((ps.take p).map pt) (dvs.take p)),cu_ hla (ai_ (((hf.mono s8).mono s9).mono sa) an_),AW (al_ (by rw [A2,Am];show _+1<=1000;lia)),fun lb Hb nb sb hlb=> ?_⟩;have s0b:=s0a.trans sb;refine⟨_,rfl,_,rfl,_,_,rfl,rfl,(p:Int)+1,rfl,da,_,rfl,SqL.of (s0b _ _ hda), ?_⟩;rw [show((p:Int)+1)=((p+1:Nat):Int) by lia,d0_ (by lia)];intro lc nc;have sc:ak_ Hb (upd Hb lc (.lst (dvs.drop (p+1)))):=ak_.new nc;have hlc:(upd Hb lc (.lst (dvs.drop (p+1)))) lc=some (.lst (dvs.drop (p+1))):=ae_;generalize upd Hb lc (.lst (dvs.drop (p+1)))=Hc at sc hlc⊢;have s0c:=s0b.trans sc;refine⟨_,_,hlb.mono sc,cu_ hlc (by rw [Cc];exact(hdi.drop (p+1)).mono s0c:Iss Hc ((ps.drop (p+1)).map pt) (dvs.drop (p+1))),AW (al_ (by rw [AF,A2,A2,Am,Bc];show _+1+_<=1000;lia)),fun ld Hd nd sd' hld=>⟨(by show 2<=sizeLine;decide),fun te He ne se he=> ?_⟩⟩;have s0d:=s0c.trans sd';have s0e:=s0d.trans se;have s8e:ak_ H8 He:=((((s9.trans sa).trans sb).trans sc).trans sd').trans se;have s7e:=s8.trans s8e;refine⟨fo,_,_,rfl,rfl,s7e _ _ (s7 _ _ h6),al_ (by show 1<=1000;decide), ?_⟩;have hld':Is Hd (pts (ps.take p++[c2_ pa pb pc]++ps.drop (p+1))) (.ref ld):=by
     have:=hld;show Is Hd (.l ((ps.take p++[c2_ pa pb pc]++ps.drop (p+1)).map pt)) (.ref ld);rw [AA,AA];exact this
    have is2:Is (nw H7 He) (rm_ ([pa,pb,pc,c2_ pa pb pc],ps.take p++[c2_ pa pb pc]++ps.drop (p+1))) (.ref te):=by
     have s7d:ak_ H7 Hd:=((((s8.trans s9).trans sa).trans sb).trans sc).trans sd';have s7c:ak_ H7 Hc:=(((s8.trans s9).trans sa).trans sb).trans sc;refine g1_ (by rw [ce_ (s7d.free ne)];exact he) (ai_ ?_ (ai_ (pc_ s7e (s7c.free nd) (hld'.mono se)) an_));exact rz_ (qw_ s7e) (g1_ (s8e _ _ h8) (ai_ (ha.mono s0e) (ai_ (hb.mono s0e) (ai_ (hc.mono s0e) (ai_ (hf.mono s7e) an_)))))
    have acc:=Acc.add (xs:=[rm_ ([pa,pb,pc],ps.take p++ps.drop (p+1))]) s07 s7e (s7 _ _ h6) (ai_ (is1.mono (qx_ n6 (s6.trans s7))) an_) is2;exact⟨_,rfl,kk fo _ (s0e.put nfo) nfo (acc.is nfo)⟩
theorem fl_:FnOk P w K mg base CX0 2 T.f33 T.d33 ["piece"] (vj_ K):=by
 refine T.X33.F.ok ff_ (fun vs H Q E h=> ?_) (fun cdv A outer s H vs Q E hr h=> ?_)
 .obtain⟨_,_,rfl,_⟩:=h;rfl
 .obtain⟨v,c,rfl,hv,hB,hl,kk⟩:=h;refine⟨_,(ad_ (b2_ (aD_ fk_ (aC_ h3_ (by rfl) T.n_len boot_len (aa_ (pv 0) ab_)) ac_ (aK_ _)) (af_ (aq_ (aC_ gW_ (by rfl) T.n_abs boot_abs (aa_ (ah_ (hq_ T) (hr.mono (by decide)) (by rfl) T.X28.m T.X28.F.kp T.X28.B .nil as_ (aa_ (aw_ au_ (pv 0) ac_ (fun _ _=>rfl)) (aa_ (aw_ au_ (pv 0) ac_ (fun _ _=>rfl)) (aa_ (aw_ au_ (pv 0) ac_ (fun _ _=>rfl)) ab_)))) ab_)))) aJ_)
   (af_ (aq_ ac_))), ?_⟩
  unfold pwF at kk;refine⟨_,rfl,_,_,rfl, .inr hv,rfl,_,rfl,ne_ (fun e=> ?_) (fun e=> ?_)⟩
  .rw [A2] at e;have e3:c.length=3:=by lia
   rw [A6 e3] at kk;have a0:=d2_ (ps:=c) (j:=0) (by lia);have a1:=d2_ (ps:=c) (j:=1) (by lia);have a2:=d2_ (ps:=c) (j:=2) (by lia);refine⟨_,rfl,_,0,_,hv,rfl,a0,fun u0 h0=>⟨_,rfl,_,1,_,hv,rfl,a1,fun u1 h1=>⟨_,rfl,_,2,_,hv,rfl,a2,fun u2 h2=> ?_⟩⟩⟩;exact⟨u0,u1,u2,_,_,_,rfl,h0,h1,h2,hB _ (b4_ (by lia)),hB _ (b4_ (by lia)),hB _ (b4_ (by lia)),_,rfl,kk⟩
  .rw [A2] at e;rw [A5 (by lia)] at kk;exact kk
theorem cY_:∀n:Nat,FnOk P w K mg base CX0 (n+5) T.f38 T.d38 ["d","way","side","known"] (ty_ P w n)
 |0=>⟨fun vs H Q E h=>(by obtain⟨_,_,_,_,_,_,_,_,_,SD,_,_,ok,h,_⟩:=h;have:=(SD.lo _ ok).1;lia),fun A outer s H args us vs Q E _ _ _ _ h=>(by obtain⟨_,_,_,_,_,_,_,_,_,SD,_,_,ok,h,_⟩:=h;have:=(SD.lo _ ok).1;lia)⟩
 |n+1=>by
  have ih:=cY_ n;refine T.X38.F.ok bm_ (fun vs H Q E h=> ?_) (fun cdv A outer s H vs Q E hr h=> ?_)
  .obtain⟨_,_,_,_,_,_,_,_,rfl,_⟩:=h;rfl
  .obtain⟨d,v,kn,ps,kvs,sg,e0,mu,rfl,SD,d4,hv,ok,hn,hD,hK,kk⟩:=h;refine⟨_,(ad_ (ar_ (i:=4) bm_.nd rfl (by trivial) (cs_ bI_ (by rfl) T.n_tuple boot_tuple (aa_ (pv 1) ab_)))
   (ad_ (b2_ (r2_ (lS_ (hO_ hr) (pv 4) (pv 3)) rfl) (ad_ (ar_ (i:=5) bm_.nd rfl (by trivial) (ah_ (a5_ T) (hr.mono (by lia)) (by rfl) T.X36.m T.X36.F.kp T.X36.B .nil as_ (aa_ ac_ ab_)))
   (ad_ (aQ_ AR rfl (a4_ (ah_ (n8_ T) (hr.mono (by lia)) (by rfl) T.X32.m T.X32.F.kp T.X32.B .nil as_ (aa_ (pv 0) (aa_ (pv 1) (aa_ (pv 2) ab_))))) (cr_ rfl (av_ (am_ (i:=6) bm_.nd rfl (by trivial)) (av_ (am_ (i:=7) bm_.nd rfl (by trivial)) bE_))) (af_ (ar_ (i:=5) bm_.nd rfl (by trivial) (ah_ (go_ T) (hr.mono (by lia)) (by rfl) T.X23.m T.X23.F.kp T.X23.B .nil as_ (aa_ (pv 5) (aa_ (ah_ (ev_ T) (hr.mono (by lia)) (by rfl) T.X24.m T.X24.F.kp T.X24.B .nil as_ (aa_ (ah_ (fv_ T) (hr.mono (by lia)) (by rfl) T.X25.m T.X25.F.kp T.X25.B .nil as_ (aa_ (ah_ (fl_ T) (hr.mono (by lia)) (by rfl) T.X33.m T.X33.F.kp T.X33.B .nil as_ (aa_ (pv 6) ab_)) ab_)) (aa_ (ah_ ih hr (by rfl) T.X38.m T.X38.F.kp T.X38.B .nil as_ (aa_ (pv 0) (aa_ (pv 7) (aa_ (pv 2) (aa_ (pv 3) ab_))))) ab_))) ab_))))))
   (af_ (qc_ (hO_ hr) (pv 3) (pv 4) (pv 5) rfl)))) aJ_)
   (af_ (aq_ (qj_ (hO_ hr) (pv 3) (pv 4) (fun _ _=>rfl)))))), ?_⟩
   refine⟨_,rfl,_,_,rfl,hv,fun key H1 nk s1 hk=> ?_⟩;have hk1:Is H1 (nK (wk ps)) (.ref key):=by rw [md_];exact hk
   have hD1:=hD.mono s1;have b1:But kn H H1:=But.of_same s1;have hK1:=hK.lts (aT_ hD b1);refine⟨_,rfl,_,rfl,kn,kvs,wk ps,rfl,hD1,hk1,_,rfl, ?_⟩;cases hin:c4_ kvs (wk ps) with
   |some u=>exact fm_ ⟨_,rfl,_,rfl,kn,kvs,wk ps,u,rfl,hD1,hk1,hin,kk kvs u H1 b1 hD1 hK1 (hK1.2.2.1 _ _ hin)⟩
   |none=>
    refine j4_ ?_;refine⟨0,rfl,fun v0 H1 s1' hv0=> ?_⟩;have s1:=s1.trans s1';have hk1:=hk1.mono s1';have hD1:=hD.mono s1;have b1:But kn H H1:=But.of_same s1;have hK1:=hK.lts (aT_ hD b1);refine⟨_,rfl,_,rfl,_,rfl,d,v,ps,sg,rfl,hv.mono s1,pC_ d4 ok,SD.sd,fun l0 H2 s2 nl0 hl0=> ?_⟩;have hS:∀x∈bl_ d ps sg,(a2_ d x.2/\mu x.2+pwF x.1<=mu ps/\1<=pwF x.1)/\(∀p∈x.1,inB p=true)/\(x.1.length=3\/x.1.length=4):=fun x hx=>⟨SD.st ps x ok hx,nA_ d4 ok hx⟩;have hne:ps≠e0:=fun e=>by
     obtain⟨u,hu⟩:=hK.2.2.2;rw [<-e,hin] at hu;cases hu
    have hW:wS d sg e0 ps=(bl_ d ps sg).foldl (fun t x=>a9_ t (bO_ (aS_ (pwF x.1).toNat) (wS d sg e0 x.2))) zer:=by rw [SD.eq ok,A5 hne]
    have mps:=SD.lo ps ok;generalize bl_ d ps sg=S at hS hW hl0;obtain⟨_,lvs,e,hl0',hli'⟩:=cI_ hl0;cases e;have hl2:H2 l0=some (.lst lvs):=bF_ _ _ hl0';have hli:Iss H2 (S.map rm_) lvs:=hli'.mono bF_;have llen:lvs.length=S.length:=by rw [hli.length,A2]
    have hD2:=hD1.mono s2;have hK2:=hK1.lts (aT_ hD1 (But.of_same s2));have l0kn:l0≠kn:=by
     obtain⟨_,_,xs,_,e⟩:=hD1;rintro rfl;rw [e] at nl0;cases nl0
    have hsup:∀i,Sup 32 65 ((S.take i).foldl (fun t x=>a9_ t (bO_ (aS_ (pwF x.1).toNat) (wS d sg e0 x.2))) zer):=fun i=>by
     refine fX_ (by lia) (by lia) (ld_ (by lia) (by lia)) fun x hx=> ?_;obtain⟨⟨a1,a2,a3⟩,_⟩:=hS x (Cg hx);obtain⟨wn,hw⟩:=AX (show 0<=pwF x.1 by lia);have q0:=(SD.lo _ a1).1;rw [hw,Ab];exact(eF_ (by lia) (by lia) q0 (by lia) (jm_ (w:=wn) (by lia)) (SD.sup 33 a1 (by lia))).mono (by lia) (by lia)
    refine⟨l0,rfl,⟨_,SqL.of hl2⟩,bB_ (xs:=lvs) (fun i σ H3=>(∃vt v6 v7,σ=[some (.int d),some v,some (.int sg),some (.ref kn),some (.ref key),some vt,v6,v7]/\Is H3 (shD ((S.take i).foldl (fun t x=>a9_ t (bO_ (aS_ (pwF x.1).toNat) (wS d sg e0 x.2))) zer)) vt)/\But kn H2 H3/\∃kvs',DN P w H3 kn kvs'/\KnS d e0 (wS d sg e0) H3 kvs') ⟨⟨v0,none,none,rfl,by rw [ig_] at hv0;exact hv0.mono s2⟩,But.of_same (ak_.refl _),kvs,hD2,hK2⟩ (fun i σ H3 _ h=>SqL.of (h.2.1 _ _ hl2 l0kn)) ?_ ?_⟩
    .rintro i y σ H3 hi ⟨⟨vt,v6,v7,rfl,hvt⟩,but3,kvs3,hD3,hK3⟩;obtain⟨dd,hdd,hy⟩:=hli.of_get hi;rw [A7] at hdd;obtain⟨x,hx',rfl⟩:=A4.mp hdd;obtain⟨⟨x1,x2,x5⟩,x3,x4⟩:=hS x (Aq hx');have hx3:Is H3 (rm_ x) y:=hy.lts (aT_ hD2 but3);obtain⟨t,tvs,rfl,ht,hti⟩:=gq_ hx3;obtain⟨u1,us,rfl,hu1,hti⟩:=az_ hti;obtain⟨u2,us,rfl,hu2,hti⟩:=az_ hti;rw [bf_ hti] at ht;have sup1:=hsup i;have sup2:=hsup (i+1);rw [c1_ hx'] at sup2;have mx:=SD.lo _ x1;refine⟨t,_,rfl,SqT.of ht,rfl,_,_,rfl,_,_,rfl,rfl, ?_⟩;obtain⟨wn,hw⟩:=AX (show 0<=pwF x.1 by lia);refine⟨_,rfl,_,rfl,u1,x.1,rfl,hu1,x3,x4, ?_⟩;rw [hw];refine⟨wn,rfl,by lia,by lia,fun vs1 H4 s4 hvs1=> ?_⟩;have b4:But kn H3 H4:=But.of_same s4;refine⟨_,rfl,_,rfl,_,rfl,_,rfl,d,u2,kn,x.2,kvs3,sg,e0,mu,rfl,SD,d4,hu2.mono s4,x1,by lia,hD3.mono s4,hK3.lts (aT_ hD3 b4),fun kvs5 vw H5 but5 hD5 hK5 hvw=> ?_⟩;have l45:=aT_ (hD3.mono s4) but5;have sm1:Sms (aS_ wn):=oX_ (by lia) (by lia);refine⟨vs1,vw,_,_,rfl,hvs1.lts l45,hvw,sm1,(SD.sup' x1).sms (by lia) (by lia),fun z hz=> ?_,fun vm H6 s6 hvm=> ?_⟩
     .have:=nC_ z hz;lia
     refine⟨vt,vm,_,_,rfl,((hvt.mono s4).lts l45).mono s6,hvm,sup1.sms (by lia) (by lia), ?_,trivial,fun va H7 s7 hva=> ?_⟩
     .have q0:=(SD.lo _ x1).1;exact(eF_ (by lia) (by lia) q0 (by lia) (jm_ (w:=wn) (by lia)) (SD.sup 33 x1 (by lia))).sms (by lia) (by lia)
     refine⟨⟨va,_,_,rfl, ?_⟩,((but3.trans b4).trans but5).trans (But.of_same (s6.trans s7)),kvs5,hD5.mono (s6.trans s7),hK5.lts (aT_ hD5 (But.of_same (s6.trans s7)))⟩;rw [c1_ hx',hw];exact hva
    .rintro σ H3 ⟨⟨vt,v6,v7,rfl,hvt⟩,but3,kvs3,hD3,hK3⟩;rw [llen,Al,<-hW] at hvt;have but03:But kn H H3:=(But.of_same (s1.trans s2)).trans but3;have hk3:Is H3 (nK (wk ps)) (.ref key):=(hk1.mono s2).lts (aT_ hD2 but3);have hl3:=hK3.len d4;refine⟨_,rfl,_,rfl,_,rfl,kn,kvs3,wk ps,rfl,hD3,hk3,by rw [At];lia,fun H4 hD4 k4=> ?_⟩;have but4:But kn H3 H4:=fun c o e n=>by rw [k4 c n];exact e
     have l34:=aT_ hD3 but4;have hk4:=hk3.lts l34;exact⟨_,rfl,_,rfl,kn,_,wk ps,vt,rfl,hD4,hk4,by rw [fR_,A6 rfl],kk _ vt H4 (but03.trans but4) hD4 ((hK3.lts l34).put ok (hvt.lts l34)) (hvt.lts l34)⟩
theorem gh_:FnOk P w K mg base (CX1 P w) 4 T.f29 T.d29 ["d"] (o0_ T.c_NoBound upE):=by
 refine T.X29.F.okx f1_ (fun vs H Q E h=> ?_) (fun cdv A outer s H vs Q E hr h hR hp=> ?_)
 .obtain⟨_,rfl,_⟩:=h;rfl
 .obtain⟨v,rfl,ht,kk,ke⟩:=h;refine⟨_,(ad_ (aG_ (ah_ (bG_ T) (hr.mono (by decide)) (by rfl) T.X4.m T.X4.F.kp T.X4.B .nil hp (aa_ (pv 0) ab_)))
   (af_ (aq_ (cG_ (XN:=["d"]) (sc:=ag_ cc_) (N:=["x","d"]) (own:=1) (js:=[0]) rfl (by ac_nf) rfl rfl (b3_ (by rfl) T.n_range (aa_ (aj_ aA_ (pv 0) ac_) ab_)) (fun _ _ _ _=>(am_ (i:=0) (show List.Nodup (["x","d"]:List Str) by ac_nf) rfl (Or.inl rfl) (.inr rfl))) (bs_ (by decide)) (fun _ _ _ _=>bX_) (fun _ _ _ _=>(ay_ (aa_ (pv 0) (aa_ (aj_ aF_ (pv 1) (pv 0)) ab_)))))))), ?_⟩
  refine⟨v,rfl,v,rfl,ht,fun⟨i,ei,i1,i2⟩=> ?_,ke⟩;subst ei;obtain⟨d,rfl⟩:=AX (show 0<=i by lia);have kk:=kk d rfl (by lia) (by lia);refine⟨_,rfl,_,_,rfl,rfl,_,rfl,by lia,by lia,fun acc na=> ?_⟩;have en:((d:Int)+1).toNat=d+1:=by lia
  rw [en];refine c9_ (lo:=0) (n:=d+1) (own:=1) (js:=[0]) (fun i H2=>ak_ H H2/\g2_ H2 acc (((List.range i).map fun i:Nat=>((i:Int),(d:Int)-(i:Int))).map pt)) ⟨ak_.new na,g2_.start⟩ ?_ ?_ bu_ bY_ ?_
  .rintro i H2 hi ⟨s2,vs,hacc,hvs⟩;refine ni_ ?_;refine⟨_,rfl,_,rfl,_,rfl,_,_,rfl,rfl,(by show 2<=sizeLine;decide),fun t H3 nt s3 ht3=> ?_⟩;refine⟨acc,vs,_,rfl,rfl,s3 _ _ hacc,al_ (by rw [hvs.length];simp;lia),(s2.trans s3).put na, ?_⟩;rw [B4,AA,AA,CY] at*
   exact dW_ (hvs.mono (bz_ s3)) (iT_ (p:=((i:Int),(d:Int)-i)) (by rw [dn_ (ap_ hacc nt).symm];exact ht3))
  .rintro H2 ⟨s2,g⟩;exact kk acc H2 s2 na g.is
  .rintro σ H R R' k ⟨v1,e1,v2,e2,v3,e3,i2,j2,e4,e5,e6,h⟩;exact⟨v1,e1,v2,e2,v3,e3,i2,j2,e4,e5,e6,fun p H2 np s2 hp=>k _ _ (h p H2 np s2 hp)⟩
theorem gk_:FnOk P w K mg base (CX1 P w) 4 T.f30 T.d30 ["d"] (o0_ T.c_NoBound loE):=by
 refine T.X30.F.okx dL_ (fun vs H Q E h=> ?_) (fun cdv A outer s H vs Q E hr h hR hp=> ?_)
 .obtain⟨_,rfl,_⟩:=h;rfl
 .obtain⟨v,rfl,ht,kk,ke⟩:=h;refine⟨_,(ad_ (aG_ (ah_ (bG_ T) (hr.mono (by decide)) (by rfl) T.X4.m T.X4.F.kp T.X4.B .nil hp (aa_ (pv 0) ab_)))
   (ad_ (ga_ (i:=1) dL_.nd rfl (by trivial) (.inl rfl) (XN:=["d","down"]) (sc:=ag_ bM_) (N:=["step","d"]) (own:=1) (js:=[0]) rfl (by ac_nf) rfl rfl (b3_ (by rfl) T.n_range (aa_ (aj_ aA_ (pv 0) ac_) ab_)) (fun _ _ _ _=>(am_ (i:=0) (show List.Nodup (["step","d"]:List Str) by ac_nf) rfl (Or.inl rfl) (.inr rfl))) (bs_ (by decide)) (fun _ _ _ _=>bX_) (fun _ _ _ _=>(ay_ (aa_ ac_ (aa_ (aj_ aF_ (pv 1) (pv 0)) ab_)))))
   (af_ (aq_ (aj_ cl_ (pv 1) (cG_ (XN:=["d","down"]) (sc:=ag_ bM_) (N:=["x"]) (own:=1) (js:=[]) rfl (by ac_nf) rfl rfl (cq_ (by rfl) T.n_range (aa_ ac_ (aa_ (aj_ aA_ (pv 0) ac_) ab_))) (fun _ _ _ _=>(am_ (i:=0) (show List.Nodup (["x"]:List Str) by ac_nf) rfl (Or.inl rfl) (.inr rfl))) (bs_ (by decide)) (fun _ _ _ _=>bX_) (fun _ _ _ _=>(ay_ (aa_ (pv 0) (aa_ ac_ ab_)))))))))), ?_⟩
  refine⟨v,rfl,v,rfl,ht,fun⟨i,ei,i1,i2⟩=> ?_,ke⟩;subst ei;obtain⟨d,rfl⟩:=AX (show 0<=i by lia);have kk:=kk d rfl (by lia) (by lia);refine⟨_,rfl,_,_,rfl,rfl,_,rfl,by lia,by lia,fun acc na=> ?_⟩;have en:((d:Int)+1).toNat=d+1:=by lia
  rw [en];refine c9_ (lo:=0) (n:=d+1) (own:=1) (js:=[0]) (fun i H2=>ak_ H H2/\g2_ H2 acc (((List.range i).map fun i:Nat=>((0:Int),(d:Int)-(i:Int))).map pt)) ⟨ak_.new na,g2_.start⟩ ?_ ?_ bu_ bY_ ?_
  .rintro i H2 hi ⟨s2,vs,hacc,hvs⟩;refine ni_ ?_;refine⟨_,rfl,_,rfl,_,_,rfl,rfl,(by show 2<=sizeLine;decide),fun t H3 nt s3 ht3=> ?_⟩;refine⟨acc,vs,_,rfl,rfl,s3 _ _ hacc,al_ (by rw [hvs.length];simp;lia),(s2.trans s3).put na, ?_⟩;rw [B4,AA,AA,CY] at*
   exact dW_ (hvs.mono (bz_ s3)) (iT_ (p:=((0:Int),(d:Int)-i)) (by rw [dn_ (ap_ hacc nt).symm];exact ht3))
  .rintro H2 ⟨s2,g2⟩;refine⟨_,rfl,_,rfl,_,_,rfl,rfl,1,_,rfl,⟨by lia,by lia,by lia,by lia⟩,fun acc2 na2=> ?_⟩;have en2:((d:Int)+1-1).toNat=d:=by lia
   rw [en2];refine c9_ (lo:=1) (n:=d) (own:=1) (js:=[]) (fun i H3=>ak_ H2 H3/\g2_ H3 acc2 (((List.range i).map fun i:Nat=>((1:Int)+(i:Int),(0:Int))).map pt)) ⟨ak_.new na2,g2_.start⟩ ?_ ?_ bu_ bY_ ?_
   .rintro i H3 hi ⟨s3,vs,hacc,hvs⟩;refine ni_ ?_;refine⟨_,rfl,(by show 2<=sizeLine;decide),fun t H4 nt s4 ht4=> ?_⟩;refine⟨acc2,vs,_,rfl,rfl,s4 _ _ hacc,al_ (by rw [hvs.length];simp;lia),(s3.trans s4).put na2, ?_⟩;rw [B4,AA,AA] at*
    exact dW_ (hvs.mono (bz_ s4)) (iT_ (p:=((1:Int)+(i:Int),(0:Int))) (by rw [dn_ (ap_ hacc nt).symm];exact ht4))
   .rintro H3 ⟨s3,g3⟩;refine⟨_,_,(g2.mono s3).is,g3.is,AW (al_ (by simp;lia)),fun p H4 np s4 hp4=> ?_⟩;rw [<-AA] at hp4;exact kk p H4 ((s2.trans s3).trans s4) ((s2.trans s3).free np) hp4
   .rintro σ H R R' k ⟨v1,e1,e6,h⟩;exact⟨v1,e1,e6,fun p H2 np s2 hp=>k _ _ (h p H2 np s2 hp)⟩
  .rintro σ H R R' k ⟨v1,e1,v2,e2,i2,j2,e4,e5,e6,h⟩;exact⟨v1,e1,v2,e2,i2,j2,e4,e5,e6,fun p H2 np s2 hp=>k _ _ (h p H2 np s2 hp)⟩
theorem l5_:FnOk P w K mg base (CX1 P w) 4 T.f26 T.d26 ["d"] (tC_ T.c_NoBound):=by
 refine T.X26.F.okx dK_ (fun vs H Q E h=> ?_) (fun cdv A outer s H vs Q E hr h hR hp=> ?_)
 .obtain⟨_,rfl,_⟩:=h;rfl
 .obtain⟨v,rfl,ht,kk,ke⟩:=h;refine⟨_,(ad_ (aG_ (ah_ (bG_ T) (hr.mono (by decide)) (by rfl) T.X4.m T.X4.F.kp T.X4.B .nil hp (aa_ (pv 0) ab_)))
   (ad_ (ar_ (i:=1) dK_.nd rfl (by trivial) (aE_ ab_))
   (ad_ (PS.quiet (aQ_ AR rfl (b3_ (by rfl) T.n_range (aa_ (aj_ aA_ (pv 0) ac_) ab_)) (am_ (i:=2) dK_.nd rfl (by trivial)) (af_ (aQ_ AR rfl (qe_ (by rfl) T.n_range (aa_ (aj_ aF_ (pv 0) (pv 2)) (aa_ (iC_ eC_ ac_) (aa_ (iC_ eC_ ac_) ab_)))) (am_ (i:=3) dK_.nd rfl (by trivial)) (af_ (aG_ (fj_ Ay BM BL bN_ (pv 1) (aa_ (ay_ (aa_ (pv 2) (aa_ (pv 3) ab_))) ab_))))))))
   (af_ (aq_ (pv 1)))))), ?_⟩
  refine⟨v,rfl,v,rfl,ht,fun⟨i,ei,i1,i2⟩=> ?_,ke⟩;subst ei;obtain⟨d,rfl⟩:=AX (show 0<=i by lia);have kk:=kk d rfl (by lia) (by lia);refine⟨(by show 0<=sizeLine;decide),fun l H1 nl s1 hl1=> ?_⟩;have en:((d:Int)+1).toNat=d+1:=by lia
  refine⟨_,rfl,_,_,rfl,rfl,_,rfl,by lia,by lia, ?_⟩;rw [en];refine bA_ (n:=d+1) (fun i σ H2=>(∃v2 v3,σ=[some (.int d),some (.ref l),v2,v3])/\ak_ H H2/\g2_ H2 l ((f9_ d i).map pt)) ⟨⟨none,none,rfl⟩,s1,[],hl1,an_⟩ ?_ ?_
  .rintro i σ H2 hi ⟨⟨v2,v3,rfl⟩,s2,g2⟩;refine⟨_,rfl,_,rfl,_,_,rfl,rfl,1,rfl,1,rfl,_,_,rfl,⟨by lia,by lia,by decide,by decide⟩, ?_⟩;have en2:((d:Int)-(0+(i:Int))- -1).toNat=d+1-i:=by lia
   rw [en2];refine oB_ (n:=d+1-i) (fun j σ H3=>(∃v3,σ=[some (.int d),some (.ref l),some (.int (0+i)),v3])/\ak_ H H3/\g2_ H3 l ((f9_ d i++nN_ d i j).map pt)) ⟨⟨v3,rfl⟩,s2,by simpa [nN_] using g2⟩ ?_ ?_
   .rintro j σ H3 hj ⟨⟨v3,rfl⟩,s3,vs,hl3,hvs⟩;refine⟨_,rfl, .inl ⟨rfl,_,SqL.of hl3⟩,_,rfl,_,rfl,(by show 2<=sizeLine;decide),fun t H4 nt s4 ht4=> ?_⟩;have hln:=lG_ d i (by lia) (by lia);refine⟨l,vs,_,rfl,rfl,s4 _ _ hl3,al_ (by rw [hvs.length,A2,AF,eL_];lia),⟨_,rfl⟩,(s3.trans s4).put nl, ?_⟩;rw [lw_,<-BB,AA];refine dW_ (hvs.mono (bz_ s4)) (iT_ (p:=((i:Int),(d:Int)-(i:Int)-(j:Int))) ?_);rw [dn_ (ap_ hl3 nt).symm,ht4,CY]
   .rintro σ H3 ⟨⟨v3,rfl⟩,s3,g3⟩;rw [<-ft_] at g3;exact⟨⟨_,_,rfl⟩,s3,g3⟩
  .rintro σ H2 ⟨⟨v2,v3,rfl⟩,s2,g2⟩;exact⟨_,rfl,kk l H2 s2 nl g2.is⟩
theorem mX_ {rs:List V} (h:1<=rs.length):fP_ rs (some 1) none=rs.drop 1:=by
 unfold fP_;rw [show(1:Int)=((1:Nat):Int) from rfl,HT.sIx_nat,HT.sIx_none,Cm h,C0 (by simp)]
theorem dk_:∀n:Nat,FnOk P w K mg base CX0 n T.f34 T.d34 ["row","k"] (vm_ n K)
 |0=>⟨fun vs H Q E h=>by obtain⟨_,_,_,_,_,h,_⟩:=h;lia,fun A outer s H args us vs Q E _ _ _ _ h=>by obtain⟨_,_,_,_,_,h,_⟩:=h;lia⟩
 |n+1=>by
  have ih:=dk_ n;refine T.X34.F.ok de_ (fun vs H Q E h=> ?_) (fun cdv A outer s H vs Q E hr h=> ?_)
  .obtain⟨_,_,_,rfl,_⟩:=h;rfl
  .obtain⟨a,rs,k,rfl,hS,hn,hL,kk⟩:=h;refine⟨_,(ad_ (b2_ (aD_ n7_ (pv 1) (aC_ a7_ (by rfl) T.n_len boot_len (aa_ (pv 0) ab_)) (aK_ _)) (af_ (aq_ (ej_ ab_))) aJ_)
   (ad_ (b2_ (aD_ fk_ (pv 1) ac_ (aK_ _)) (af_ (aq_ (ej_ (aa_ (cs_ eo_ (by rfl) T.n_list boot_list (aa_ (pv 0) ab_)) ab_)))) aJ_)
   (ad_ (ga_ (i:=2) de_.nd rfl (by trivial) (.inl rfl) (XN:=["row","k","with_first"]) (sc:=ag_ bW_) (N:=["rest","row"]) (own:=1) (js:=[0]) rfl (by ac_nf) rfl rfl (a4_ (ah_ ih hr (by rfl) T.X34.m T.X34.F.kp T.X34.B .nil as_ (aa_ (br_ cy_ (pv 0) (bR_ ac_) ck_) (aa_ (pv 1) ab_)))) (fun _ _ _ _=>(am_ (i:=0) (show List.Nodup (["rest","row"]:List Str) by ac_nf) rfl (Or.inl rfl) (.inr rfl))) (bs_ (by decide)) (fun _ _ _ _=>bX_) (fun _ _ _ _=>(aj_ hn_ (ej_ (aa_ (aw_ (or_ (K:=K) rfl) (pv 1) ac_ (fun _ _=>rfl)) ab_)) (pv 0))))
   (af_ (aq_ (aj_ hn_ (pv 2) (ah_ ih hr (by rfl) T.X34.m T.X34.F.kp T.X34.B .nil as_ (aa_ (br_ cy_ (pv 0) (bR_ ac_) ck_) (aa_ (aj_ aF_ (pv 1) ac_) ab_))))))))), ?_⟩
   refine⟨_,rfl,_,rfl,a,_,rfl, .inl hS,_,_,rfl,rfl,_,rfl,iS_ (fun hk=> ?_) (fun hk=> ?_)⟩
   .refine⟨AS _,fun l nl=> ?_⟩;exact kk l [] _ (ak_.new nl) nl ae_ (by rw [iO_ rs k (by lia)];exact cK_.nil)
   refine⟨_,rfl,rfl,_,rfl,ne_ (fun hz=> ?_) (fun hz=> ?_)⟩
   .refine⟨_,rfl,a,_,rfl, .inl hS,fun b nb=> ?_⟩;have sb:ak_ H (upd H b (.lst rs)):=ak_.new nb;refine⟨(by show 1<=sizeLine;decide),fun l nl=> ?_⟩;refine kk l [.ref b] _ (sb.put (sb.free nl)) (sb.free nl) ae_ ?_;have ez:k=0:=by lia
    have e0:lvA rs k=[rs]:=by rw [ez];cases rs<;>rfl
    rw [e0];exact cK_.one nb (by rw [ao_ (ap_ ae_ nl)];exact ae_)
   obtain⟨x,rs,rfl⟩:∃x rs',rs=x::rs':=by
    cases rs with
    |nil=>simp at hk;lia
    |cons x rs=>exact⟨x,rs,rfl⟩
   obtain⟨k,rfl⟩:∃k',k=k'+1:=⟨k-1,by lia⟩;simp only [An] at hn hL;refine⟨_,rfl,1,rfl,a,_,rfl,hS, ?_⟩;rw [mX_ (by simp)];intro b nb;have sb:ak_ H (upd H b (.lst ((x::rs).drop 1))):=ak_.new nb;refine⟨_,rfl,b,rs,k+1,rfl,SqL.of ae_,by lia,by lia,fun l1 us H1 s1 nl1 hl1 L1=> ?_⟩;have sA:=sb.trans s1;have nl1H:H l1=none:=sb.free nl1;have L1:=L1.mono sb (ak_.refl _);clear s1 nl1;refine⟨l1,rfl,⟨_,SqL.of hl1⟩,fun acc na=> ?_⟩;refine cw_ (xs:=us) (own:=1) (js:=[0]) (fun i H2=>ak_ H1 H2/\∃vs,H2 acc=some (.lst vs)/\cK_ (upd H acc (.lst [])) H2 (((lvA rs (k+1)).take i).map (x:: ·)) vs) ⟨ak_.new na,[],ae_,by simpa using cK_.nil⟩ (fun i H2 _ h=>h.1.seq (SqL.of hl1)) ?_ ?_ bu_ bY_ ?_
   .rintro i v H2 hi ⟨s2,vs,hacc,L2⟩;have hiu:i<us.length:=(AH.mp hi).1;have hiw:i<(lvA rs (k+1)).length:=by rw [<-L1.1];exact hiu
    obtain⟨a1,e1,_,e3⟩:=L1.2 i _ (A1 hiw);rw [hi] at e1;cases e1;have hw:=gv_ rs (k+1) _ (Bn hiw);have hl:=hw_ rs (k+1);have hp:2^rs.length<=2^20:=Bt (by decide) (by lia);have lvs:vs.length<=i:=by rw [L2.1,A2,Am];lia
    refine ni_ ?_;refine⟨_,rfl,a,_,_,x,rfl,rfl,(sA.trans s2).seq hS,fa_ (j:=0) rfl,(by show 1<=sizeLine;decide),fun c nc=> ?_⟩;have sc:ak_ H2 (upd H2 c (.lst [x])):=ak_.new nc;refine⟨_,rfl,c,a1,_,_,rfl,rfl,ae_,sc _ _ (s2 _ _ e3),by rw [At];simp;lia,fun d nd=> ?_⟩;have sd:ak_ (upd H2 c (.lst [x])) (upd (upd H2 c (.lst [x])) d (.lst ([x]++(lvA rs (k+1))[i]))):=ak_.new nd;have hacc2:=sd _ _ (sc _ _ hacc);have ndH:H d=none:=(sA.trans s2).free (sc.free nd);have had:d≠acc:=(ap_ (sc _ _ hacc) nd).symm;refine⟨acc,_,_,rfl,rfl,hacc2,by rw [At];lia,((s2.trans sc).trans sd).put na,_,ae_, ?_⟩;rw [Aa,A1 hiw,AA];refine cK_.append ?_ (cK_.one (by rw [ao_ had];exact ndH) (by rw [ao_ had,ae_];rfl));refine⟨L2.1,fun j ws e=> ?_⟩;obtain⟨a3,f1,f2,f3⟩:=L2.2 j ws e;refine⟨a3,f1,f2, ?_⟩;have:a3≠acc:=fun z=>by
     rw [z,ae_] at f2;cases f2
    rw [ao_ this];exact sd _ _ (sc _ _ f3)
   .rintro H2 ⟨s2,vs,hacc,L2⟩;rw [L1.1,Al] at L2;have sB:=sA.trans s2;refine⟨_,rfl,_,rfl,1,rfl,a,_,rfl,sB.seq hS, ?_⟩;rw [mX_ (by simp)];intro b2 nb2;have sb2:ak_ H2 (upd H2 b2 (.lst ((x::rs).drop 1))):=ak_.new nb2;refine⟨_,rfl,_,_,rfl,rfl, ?_⟩;refine⟨b2,rs,k,by show [V.ref b2,V.int (((k+1:Nat):Int)-1)]=_;rw [show(((k+1:Nat):Int))-1=(k:Int) by lia],SqL.of ae_,by lia,by lia,fun l2 us2 H3 s3 nl2 hl2 L3=> ?_⟩;have sC:=sb2.trans s3;have hl1':=hw_ rs (k+1);have hl2':=hw_ rs k;have hp:2^rs.length<=2^20:=Bt (by decide) (by lia);refine⟨acc,l2,vs,us2,rfl,rfl,sC _ _ hacc,hl2,by rw [At,L2.1,L3.1,A2];lia,fun q nq=> ?_⟩;have sq:ak_ H3 (upd H3 q (.lst (vs++us2))):=ak_.new nq;refine kk q _ _ ((sB.trans sC).trans sq) ((sB.trans sC).free nq) ae_ ?_;rw [lvA];exact cK_.append (L2.mono (ak_.new (sA.free na)) (sC.trans sq)) (L3.mono (sB.trans sb2) sq)
   .rintro σ H R R' k' ⟨v1,e1,p1,x1,i1,y1,e2,e3,e4,e5,z,hq⟩;refine⟨v1,e1,p1,x1,i1,y1,e2,e3,e4,e5,z,fun c nc=> ?_⟩;obtain⟨v2,f1,l,b,xs,zs,f2,f3,f4,f5,f6,hq⟩:=hq c nc;exact⟨v2,f1,l,b,xs,zs,f2,f3,f4,f5,f6,fun d nd=>k' _ _ (hq d nd)⟩
theorem mY_ {rs:List V} (h:2<=rs.length):fP_ rs (some 1) (some (-1))=(rs.drop 1).dropLast:=by
 have e1:HT.sIx rs.length 0 (some 1)=1:=by
  show(if(1:Int)<0 then((1:Int)+(rs.length:Int)).toNat else min (1:Int).toNat rs.length)=1;rw [A5 (by decide)];show min 1 rs.length=1;lia
 have e2:HT.sIx rs.length rs.length (some (-1))=rs.length-1:=by
  show(if(-1:Int)<0 then((-1:Int)+(rs.length:Int)).toNat else min (-1:Int).toNat rs.length)=rs.length-1;rw [A6 (by decide)];lia
 unfold fP_;rw [e1,e2,List.dropLast_eq_take,Bc]
theorem mC_ {H:Hp}{acc:Addr}{zs:List V} (ha:H acc=some (.lst zs)):∀{ps:List Pt}{vs:List V},Iss H (ps.map pt) vs->Iss (hid H acc) (ps.map pt) vs
 |[],_,h=>by rw [bf_ h];exact an_
 |p::ps,_,h=>by
  obtain⟨u,us,rfl,h1,h2⟩:=az_ h;obtain⟨a,rfl,hp⟩:=ob_ h1;exact ai_ (iT_ (by rw [dn_ (by rintro rfl;rw [ha] at hp;cases hp)];exact hp)) (mC_ ha h2)
theorem p9_ {H:Hp}{acc c:Addr}{zs:List V}{ps:List Pt} (ha:H acc=some (.lst zs)) (ne:c≠acc) (h:Is H (pts ps) (.ref c)):Is (hid H acc) (pts ps) (.ref c):=by
 obtain⟨_,ws,e,hc,r⟩:=hs_ h;cases e;exact cu_ (by rw [dn_ ne];exact hc) (mC_ ha r)
noncomputable def ru_ (H:Hp) (Wq:List (List Pt)) (Z:List (List V)):Prop:=Wq.length=Z.length/\∀(i:Nat) w,Wq[i]? =some w->∃z,Z[i]? =some z/\Iss H (w.map pt) z
theorem ru_.app {H:Hp}{Wq W':List (List Pt)}{Z Z':List (List V)} (h:ru_ H Wq Z) (k:ru_ H W' Z'):ru_ H (Wq++W') (Z++Z'):=by
 refine⟨by rw [AF,AF,h.1,k.1],fun i w e=> ?_⟩;rcases BI i Wq.length with q|q
 .rw [BJ q] at e;rw [BJ (by rw [<-h.1];exact q)];exact h.2 i w e
 .rw [BF q] at e;rw [BF (by rw [<-h.1];exact q),<-h.1];exact k.2 _ w e
theorem gx_ {H:Hp}:∀(row:List Pt) (rs:List V) (k:Nat),Iss H (row.map pt) rs->ru_ H (lvA row k) (lvA rs k)
 |row,rs,0,h=>by
  have e1:∀{α:Type} (l:List α),lvA l 0=[l]:=fun l=>by cases l<;>rfl
  rw [e1,e1];refine⟨rfl,fun i w e=> ?_⟩
  match i,e with
  |0,e=>cases e;exact⟨rs,rfl,h⟩
  |i+1,e=>simp at e
 |[],rs,k+1,h=>by
  rw [bf_ h];exact⟨rfl,fun i w e=>by simp [lvA] at e⟩
 |p::row,rs,k+1,h=>by
  obtain⟨u,us,rfl,h1,h2⟩:=az_ h;rw [lvA,lvA];refine ru_.app ?_ (gx_ row us k h2);obtain⟨l,g⟩:=gx_ row us (k+1) h2;refine⟨by rw [A2,A2,l],fun i w e=> ?_⟩;rw [A7] at e;obtain⟨w',hw',rfl⟩:=A4.mp e;obtain⟨z,hz,hi⟩:=g i w' hw';exact⟨u::z,by rw [A7,hz];rfl,ai_ h1 hi⟩
theorem so_ {H:Hp}{k:Nat}{row:List Pt}{rs:List V} (h:Iss H (row.map pt) rs) (i:Nat) (w:List Pt) (e:(lvA row k)[i]? =some w):∃ws,(lvA rs k)[i]? =some ws/\Iss H (w.map pt) ws:=(gx_ row rs k h).2 i w e
theorem mi_ {H:Hp}{k:Nat}{row:List Pt}{rs:List V} (h:Iss H (row.map pt) rs):(lvA rs k).length=(lvA row k).length:=(gx_ row rs k h).1.symm
theorem hN_ {H:Hp}{Wq:List (List Pt)}{vs:List V} (h:Iss H (Wq.map pts) vs):∀(l:List Nat),(∀i∈l,i<Wq.length)->Iss H ((l.map fun i=>Wq.getD i []).map pts) (l.map fun i=>vs.getD i .non)
 |[],_=>an_
 |i::l,hl=>by
  have hi:i<Wq.length:=hl i (by simp);have hr:i<vs.length:=by rw [h.length,A2];exact hi
  refine ai_ ?_ (hN_ h l fun j hj=>hl j (by simp [hj]));obtain⟨d,hd,h1⟩:=h.of_get (A1 hr);rw [A7,A1 hi] at hd;cases hd;show Is H (pts (Wq.getD i [])) (vs.getD i .non);rw [AG,AG,A1 hi,A1 hr];exact h1
theorem lF_ {d:Nat} (h1:1<=d) (h4:d<=4):(bh_ d)[0]? =some (p0 d):=by
 have:d=1\/d=2\/d=3\/d=4:=by lia
 rcases this with rfl|rfl|rfl|rfl<;>ac_nf
theorem nV_ {d:Nat} (h1:1<=d) (h4:d<=4):atI ((bh_ d).map pt) (-1)=some (pt (pl d)):=by
 have e:(bh_ d)[(bh_ d).length-1]? =some (pl d)/\1<=(bh_ d).length:=by
  have:d=1\/d=2\/d=3\/d=4:=by lia
  rcases this with rfl|rfl|rfl|rfl<;>ac_nf
 unfold atI ixN;rw [A2,A5 (by decide),A6 (by lia)];show((bh_ d).map pt)[((-1:Int)+((bh_ d).length:Int)).toNat]? =some (pt (pl d));rw [show((-1:Int)+((bh_ d).length:Int)).toNat=(bh_ d).length-1 by lia,A7,e.1];rfl
noncomputable def d3_ (d k:Nat):Prop:=(¬(c6_ d k).length<2->∃p,nL_ (cW (c6_ d k)) (c6_ d k).length=some p/\p.size<=1000/\∀i∈p.toList,i<(c6_ d k).length)/\(c6_ d k).length<=1000/\((sW d k).length:Int)=uh_ ((bh_ d).length-2) k/\(∀w∈sW d k,ti_ d k w=true)/\tc_ (sW d k)=true/\∀w∈c6_ d k,w∈sW d k
theorem lz_ {d k:Nat}{S:List (List Pt)} (h:nP_ d k S=true):(c6_ d k).length<=1000/\(S.length:Int)=uh_ ((bh_ d).length-2) k/\(∀w∈S,ti_ d k w=true)/\tc_ S=true/\∀w∈c6_ d k,w∈S:=by
 unfold nP_ at h;simp only [AC,AT,AV,List.contains_iff_mem] at h;obtain⟨⟨⟨⟨e2,e3⟩,e4⟩,e5⟩,e6⟩:=h;exact⟨e2,e3,e4,e5,e6⟩
theorem be_ {d k:Nat} (hl:(c6_ d k).length<2) (hr:nP_ d k (c6_ d k)=true):d3_ d k:=by
 have e:sW d k=c6_ d k:=by unfold sW;rw [A6 hl]
 unfold d3_;rw [e];exact⟨fun h=>absurd hl h,lz_ hr⟩
theorem a8_ {d k:Nat}{p:List Nat} (hl:¬(c6_ d k).length<2) (ho:oW d k=some p.toArray) (hp:(decide (p.length<=1000)&&p.all fun i=>decide (i<(c6_ d k).length))=true) (hr:nP_ d k (p.map fun i=>(c6_ d k).getD i [])=true):d3_ d k:=by
 have e:sW d k=p.map fun i=>(c6_ d k).getD i []:=by
  unfold sW;rw [A5 hl,ho];rfl
 simp only [AC,AT,AV] at hp;unfold d3_;rw [e];exact⟨fun _=>⟨p.toArray,ho,by simpa using hp.1,fun i hi=>hp.2 i (by simpa using hi)⟩,lz_ hr⟩
theorem uI_:d3_ 1 0:=be_ (by ac_nf) (by ac_nf)
theorem uH_:d3_ 1 1:=be_ (by ac_nf) (by ac_nf)
theorem uG_:d3_ 1 2:=be_ (by ac_nf) (by ac_nf)
theorem uF_:d3_ 1 3:=be_ (by ac_nf) (by ac_nf)
theorem uE_:d3_ 1 4:=be_ (by ac_nf) (by ac_nf)
theorem uD_:d3_ 1 5:=be_ (by ac_nf) (by ac_nf)
theorem uC_:d3_ 1 6:=be_ (by ac_nf) (by ac_nf)
theorem uB_:d3_ 2 0:=be_ (by ac_nf) (by ac_nf)
theorem uA_:d3_ 2 1:=a8_ (p:=[3,1,0,2]) (by ac_nf) (by ac_nf) (by ac_nf) (by ac_nf)
theorem uz_:d3_ 2 2:=a8_ (p:=[4,3,0,2,1,5]) (by ac_nf) (by ac_nf) (by ac_nf) (by ac_nf)
theorem uy_:d3_ 2 3:=a8_ (p:=[1,0,3,2]) (by ac_nf) (by ac_nf) (by ac_nf) (by ac_nf)
theorem ux_:d3_ 2 4:=be_ (by ac_nf) (by ac_nf)
theorem uw_:d3_ 2 5:=be_ (by ac_nf) (by ac_nf)
theorem uv_:d3_ 2 6:=be_ (by ac_nf) (by ac_nf)
theorem uu_:d3_ 3 0:=be_ (by ac_nf) (by ac_nf)
theorem ut_:d3_ 3 1:=a8_ (p:=[7,6,4,3,1,0,2,5]) (by ac_nf) (by ac_nf) (by ac_nf) (by ac_nf)
theorem us_:d3_ 3 2:=a8_ (p:=[27,25,24,22,21,23,26,19,18,16,15,17,9,7,6,8,4,3,0,2,1,5,14,13,11,10,12,20]) (by ac_nf) (by ac_nf) (by ac_nf) (by ac_nf)
theorem ur_:d3_ 3 3:=a8_ (p:=[54,53,51,50,52,44,42,41,43,39,38,35,37,36,40,49,48,46,45,47,29,27,26,28,24,23,20,22,21,25,8,7,4,6,5,1,0,3,2,9,19,17,16,18,14,13,10,12,11,15,34,33,31,30,32,55]) (by ac_nf) (by ac_nf) (by ac_nf) (by ac_nf)
theorem uq_:d3_ 3 4:=a8_ (p:=[64,62,61,63,59,58,55,57,56,60,43,42,39,41,40,36,35,38,37,44,54,52,51,53,49,48,45,47,46,50,23,22,19,21,20,16,15,18,17,24,2,1,0,4,3,13,12,9,11,10,6,5,8,7,14,34,32,31,33,29,28,25,27,26,30,69,68,66,65,67]) (by ac_nf) (by ac_nf) (by ac_nf) (by ac_nf)
theorem up_:d3_ 3 5:=a8_ (p:=[44,43,40,42,41,37,36,39,38,45,23,22,21,25,24,34,33,30,32,31,27,26,29,28,35,8,7,6,10,9,0,3,2,1,5,4,19,18,15,17,16,12,11,14,13,20,55,53,52,54,50,49,46,48,47,51]) (by ac_nf) (by ac_nf) (by ac_nf) (by ac_nf)
theorem uo_:d3_ 3 6:=a8_ (p:=[15,14,13,17,16,7,10,9,8,12,11,1,0,4,3,2,6,5,26,25,22,24,23,19,18,21,20,27]) (by ac_nf) (by ac_nf) (by ac_nf) (by ac_nf)
theorem un_:d3_ 4 0:=be_ (by ac_nf) (by ac_nf)
theorem um_:d3_ 4 1:=a8_ (p:=[12,11,10,8,7,6,4,3,1,0,2,5,9]) (by ac_nf) (by ac_nf) (by ac_nf) (by ac_nf)
theorem ul_:d3_ 4 2:=a8_ (p:=o42++(ta_++s9_)) l42 uX_ (by ac_nf) (by ac_nf)
theorem jJ_ {d k:Nat} (h:aL_ d k):d3_ d k:=by
 unfold aL_ at h;have hd:d=1\/d=2\/d=3\/d=4:=by lia
 have hk:k=0\/k=1\/k=2\/k=3\/k=4\/k=5\/k=6:=by lia
 rcases hd with rfl|rfl|rfl|rfl<;>rcases hk with rfl|rfl|rfl|rfl|rfl|rfl|rfl
 .exact uI_
 .exact uH_
 .exact uG_
 .exact uF_
 .exact uE_
 .exact uD_
 .exact uC_
 .exact uB_
 .exact uA_
 .exact uz_
 .exact uy_
 .exact ux_
 .exact uw_
 .exact uv_
 .exact uu_
 .exact ut_
 .exact us_
 .exact ur_
 .exact uq_
 .exact up_
 .exact uo_
 .exact un_
 .exact um_
 .exact ul_
 .lia
 .lia
 .lia
 .lia
theorem qs_:FnOk P w K mg base (CX1 P w) 22 T.f35 T.d35 ["d","k"] (rN_ T.c_NoBound):=by
 refine T.X35.F.okx ls_ (fun vs H Q E h=> ?_) (fun cdv A outer s H vs Q E hr h hR hp=> ?_)
 .obtain⟨_,_,rfl,_⟩:=h;rfl
 .obtain⟨v,u,rfl,ht,hu,kk,ke⟩:=h;refine⟨_,(ad_ (aG_ (ah_ (dj_ T) (hr.mono (by decide)) (by rfl) T.X2.m T.X2.F.kp T.X2.B .nil hp (aa_ (pv 0) (aa_ (pv 1) ab_))))
   (ad_ (ar_ (i:=2) ls_.nd rfl (by trivial) (ah_ (l5_ T) (hr.mono (by decide)) (by rfl) T.X26.m T.X26.F.kp T.X26.B .nil hp (aa_ (pv 0) ab_)))
   (af_ (aq_ (aC_ (en_ hr) (by rfl) T.n_sorted boot_sorted (aa_ (cG_ (XN:=["d","k","row"]) (sc:=ag_ jw_) (N:=["between","row"]) (own:=1) (js:=[2]) rfl (by ac_nf) rfl rfl (a4_ (ah_ (dk_ T 20) (hr.mono (by decide)) (by rfl) T.X34.m T.X34.F.kp T.X34.B .nil as_ (aa_ (br_ cy_ (pv 2) (bR_ ac_) (bR_ (iC_ eC_ ac_))) (aa_ (pv 1) ab_)))) (fun _ _ _ _=>(am_ (i:=0) (show List.Nodup (["between","row"]:List Str) by ac_nf) rfl (Or.inl rfl) (.inr rfl))) (bs_ (by decide)) (fun _ _ _ _=>bX_) (fun _ _ _ _=>(aj_ cl_ (aj_ cl_ (aE_ (aa_ (aw_ b0_ (pv 1) ac_ (fun _ _=>rfl)) ab_)) (pv 0)) (aE_ (aa_ (aw_ b0_ (pv 1) (iC_ eC_ ac_) (fun _ _=>rfl)) ab_))))) ab_)))))), ?_⟩
  refine⟨_,rfl,_,rfl,v,u,rfl,ht,hu,fun⟨d,k,e1,e2,hN⟩=> ?_,ke⟩;subst e1 e2;have k2:=kk d k rfl rfl hN;clear kk ke;have d1:1<=d:=hN.1;have d4:d<=4:=by unfold aL_ at hN;lia
  refine⟨_,rfl, .int d,rfl, .inl ⟨_,rfl⟩,fun n en _ _ l0 H1 s1 nl0 hl0=> ?_,fun h=>absurd ⟨_,rfl,by lia,by lia⟩ h⟩;obtain rfl:n=d:=by have:=V.int.inj en;lia
  obtain⟨_,rs,e,hrs,his⟩:=hs_ hl0;cases e;have rlen:rs.length=(bh_ n).length:=by rw [his.length,A2]
  have plen:3<=(bh_ n).length/\(bh_ n).length<=15:=by
   have:n=1\/n=2\/n=3\/n=4:=by lia
   rcases this with rfl|rfl|rfl|rfl<;>ac_nf
  refine⟨_,rfl,1,rfl,1,rfl,_,rfl,l0,rs,rfl,SqL.of hrs, ?_⟩;rw [mY_ (by lia)];intro b nb;have sb:ak_ H1 (upd H1 b (.lst ((rs.drop 1).dropLast))):=ak_.new nb;have mlen:((rs.drop 1).dropLast).length=rs.length-2:=by simp;lia
  refine⟨_,rfl,b,_,k,rfl,SqL.of ae_,by lia,by lia,fun l1 us H2 s2 nl1 hl1 L1=> ?_⟩;have mis:Iss H1 ((kH_ n).map pt) ((rs.drop 1).dropLast):=by
   unfold kH_;have:=(his.drop 1);rw [<-Cc] at this;have t2:=this.take ((rs.drop 1).length-1);rw [<-List.map_take] at t2;rw [List.dropLast_eq_take,List.dropLast_eq_take];rw [Bc] at t2⊢;rw [Bc,<-rlen];exact t2
  generalize (rs.drop 1).dropLast=ms at mis mlen sb s2 L1 nl1⊢;have s12:ak_ H1 H2:=sb.trans s2;have Lis:∀(i:Nat) (w:List Pt),(lvA (kH_ n) k)[i]? =some w->∃a ws,us[i]? =some (.ref a)/\H2 a=some (.lst ws)/\Iss H2 (w.map pt) ws:=fun i w hw=>by
   obtain⟨ws,e1,e2⟩:=so_ (k:=k) mis i w hw;obtain⟨a,f1,_,f3⟩:=L1.2 i ws e1;exact⟨a,ws,f1,f3,e2.mono s12⟩
  have ulen:us.length=(lvA (kH_ n) k).length:=by rw [L1.1,mi_ mis]
  have hraw:=(jJ_ hN).2.1;have rawlen:(c6_ n k).length=(lvA (kH_ n) k).length:=by unfold c6_;rw [A2]
  refine⟨l1,rfl,⟨_,SqL.of hl1⟩,fun acc na=> ?_⟩;refine cw_ (xs:=us) (own:=1) (js:=[2]) (fun i H3=>ak_ H2 H3/\g2_ H3 acc (((c6_ n k).take i).map pts)) ⟨ak_.new na,g2_.start⟩ (fun i H3 _ h=>SqL.of (h.1 _ _ hl1)) ?_ ?_ bu_ bY_ ?_
  .rintro i x H3 hi ⟨s3,vs,hacc,hvs⟩;have hil:i<(lvA (kH_ n) k).length:=by rw [<-ulen];exact(AH.mp hi).1
   obtain⟨a1,ws,f1,f2,f3⟩:=Lis i _ (A1 hil);rw [hi] at f1;cases f1;have wl:((lvA (kH_ n) k)[i]).length<=15:=by
    have:=gv_ (kH_ n) k _ (Bn hil);have:(kH_ n).length<=(bh_ n).length:=by unfold kH_;simp;lia
    lia
   have hrow:Is H3 (pts (bh_ n)) (.ref l0):=(hl0.mono s12).mono s3;have g0:atI ((bh_ n).map pt) 0=some (pt (p0 n)):=uJ_ (j:=0) rfl (lF_ d1 d4);have gl:atI ((bh_ n).map pt) (-1)=some (pt (pl n)):=nV_ d1 d4;refine ni_ ?_;refine⟨_,rfl,_,0,_,hrow,rfl,g0,fun u hu=>⟨(by show 1<=sizeLine;decide),fun c1 H4 n4 s4 h4=> ?_⟩⟩;refine⟨_,rfl,_,_,cu_ h4 (ai_ (hu.mono s4) an_),cu_ (s4 _ _ (s3 _ _ f2)) ((f3.mono s3).mono s4),AW (al_ (by simp;lia)),fun c2 H5 n5 s5 h5=> ?_⟩;refine⟨_,rfl,1,rfl,_,_,_,(hrow.mono s4).mono s5,rfl,gl,fun u2 hu2=>⟨(by show 1<=sizeLine;decide),fun c3 H6 n6 s6 h6=> ?_⟩⟩;refine⟨_,_,h5.mono s6,cu_ h6 (ai_ (hu2.mono s6) an_),AW (al_ (by simp;lia)),fun c4 H7 n7 s7 h7=> ?_⟩;have s37:ak_ H3 H7:=((s4.trans s5).trans s6).trans s7;refine⟨acc,vs,_,rfl,rfl,s37 _ _ hacc,al_ (by rw [hvs.length];simp;lia),(s3.trans s37).put na, ?_⟩;rw [Aa,show(c6_ n k)[i]? =some ([p0 n]++(lvA (kH_ n) k)[i]++[pl n]) by unfold c6_;rw [A7,A1 hil];rfl,AA];have hacc6:=s6 _ _ (s5 _ _ (s4 _ _ hacc));refine dW_ (hvs.mono (bz_ s37)) (p9_ (s7 _ _ hacc6) (ap_ hacc6 n7).symm ?_);show Is H7 (.l (([p0 n]++(lvA (kH_ n) k)[i]++[pl n]).map pt)) _;rw [AA,AA];exact h7
  .rintro H3 ⟨s3,g⟩;rw [ulen,<-rawlen,Al] at g;have s03:ak_ H H3:=(s1.trans s12).trans s3;obtain⟨_,vs,e,hacc,hvs⟩:=cI_ g.is;cases e;have vlen:vs.length=(c6_ n k).length:=by rw [hvs.length,A2]
   by_cases hlt:(c6_ n k).length<2
   .refine .inl ⟨acc,vs,rfl,SqL.of hacc,by lia,fun q nq=>k2 q _ (s03.put (s03.free nq)) (s03.free nq) ?_⟩;have:sW n k=c6_ n k:=by unfold sW;rw [A6 hlt]
    rw [this];exact cu_ ae_ (hvs.mono (ak_.new nq))
   .obtain⟨p,hp,hps,hpl⟩:=(jJ_ hN).1 hlt;refine .inr ⟨acc,vs,cW (c6_ n k),p,rfl,SqL.of hacc,by lia,by lia,hps,fun r hr'=> ?_,fun i j bb hb=> ?_,by rw [vlen];exact hp,fun i hi=>by rw [vlen];exact hpl i hi,fun q nq=>k2 q _ (s03.put (s03.free nq)) (s03.free nq) ?_⟩
    .obtain⟨i,hi,rfl⟩:=Bd.mp hr';obtain⟨dd,hdd,hy⟩:=hvs.of_get (A1 hi);rw [A7] at hdd;obtain⟨w,_,rfl⟩:=A4.mp hdd;obtain⟨a,ys,e1,e2,_⟩:=hs_ hy;exact⟨a,ys,e1,SqL.of e2⟩
    .unfold cW at hb;obtain⟨w1,h1,hb⟩:=AB.mp hb;obtain⟨w2,h2,rfl⟩:=A4.mp hb;obtain⟨x,hx,hx'⟩:=hvs.get (j:=i) (x:=pts w1) (by rw [A7,h1];rfl);obtain⟨y,hy,hy'⟩:=hvs.get (j:=j) (x:=pts w2) (by rw [A7,h2];rfl);exact⟨x,y,hx,hy,q7_ hx' hy'⟩
    .have:sW n k=p.toList.map fun i=>(c6_ n k).getD i []:=by
      unfold sW oW;rw [A5 hlt,hp];rfl
     rw [this];exact cu_ ae_ ((hN_ hvs p.toList hpl).mono (ak_.new nq))
  .rintro σ H R R' k ⟨v1,e1,xs,i,d,h1,e2,e3,h⟩;refine⟨v1,e1,xs,i,d,h1,e2,e3,fun u hu=> ?_⟩;obtain⟨z,h⟩:=h u hu;refine⟨z,fun p H2 np s2 hp=> ?_⟩;obtain⟨v2,f1,a1,a2,f2,f3,f4,h⟩:=h p H2 np s2 hp;refine⟨v2,f1,a1,a2,f2,f3,f4,fun p H3 np s3 hp=> ?_⟩;obtain⟨v3,g1,i3,g2,xs3,j3,d3,g3,g4,g5,h⟩:=h p H3 np s3 hp;refine⟨v3,g1,i3,g2,xs3,j3,d3,g3,g4,g5,fun u hu=> ?_⟩;obtain⟨z,h⟩:=h u hu;refine⟨z,fun p H4 np s4 hp=> ?_⟩;obtain⟨a1,a2,f2,f3,f4,h⟩:=h p H4 np s4 hp;exact⟨a1,a2,f2,f3,f4,fun p H5 np s5 hp=>k _ _ (h p H5 np s5 hp)⟩
theorem qF_ {H H':Hp}{a b:Addr}{kvs kvs':List (List (List Int)×V)} (d:DN P w H a kvs) (e:DN P w H b kvs') (k:u4_ a b H H'):LTS H H':=by
 obtain⟨_,_,xs,_,ea⟩:=d;obtain⟨_,_,ys,_,eb⟩:=e;exact⟨fun c zs h=>k _ _ h (by rintro rfl;rw [ea] at h;cases h) (by rintro rfl;rw [eb] at h;cases h),fun c zs h=>k _ _ h (by rintro rfl;rw [ea] at h;cases h) (by rintro rfl;rw [eb] at h;cases h)⟩
theorem cO_:FnOk P w K mg base (CX1 P w) 46 T.f39 T.d39 ["d","k"] (vh_ T.c_NoBound):=by
 refine T.X39.F.okx aM_ (fun vs H Q E h=> ?_) (fun cdv A outer s H vs Q E hr h hR hp=> ?_)
 .obtain⟨_,_,rfl,_⟩:=h;rfl
 .obtain⟨v,u,rfl,ht,hu,kk,ke⟩:=h;refine⟨_,(ad_ (aG_ (ah_ (dj_ T) (hr.mono (by decide)) (by rfl) T.X2.m T.X2.F.kp T.X2.B .nil hp (aa_ (pv 0) (aa_ (pv 1) ab_))))
   (ad_ (ar_ (i:=2) aM_.nd rfl (by trivial) (hl_ (hO_ hr) (cs_ bI_ (by rfl) T.n_tuple boot_tuple (aa_ (ah_ (gh_ T) (hr.mono (by decide)) (by rfl) T.X29.m T.X29.F.kp T.X29.B .nil hp (aa_ (pv 0) ab_)) ab_)) (ah_ (a5_ T) (hr.mono (by decide)) (by rfl) T.X36.m T.X36.F.kp T.X36.B .nil as_ (aa_ ac_ ab_))))
   (ad_ (ar_ (i:=3) aM_.nd rfl (by trivial) (hl_ (hO_ hr) (cs_ bI_ (by rfl) T.n_tuple boot_tuple (aa_ (ah_ (gk_ T) (hr.mono (by decide)) (by rfl) T.X30.m T.X30.F.kp T.X30.B .nil hp (aa_ (pv 0) ab_)) ab_)) (ah_ (a5_ T) (hr.mono (by decide)) (by rfl) T.X36.m T.X36.F.kp T.X36.B .nil as_ (aa_ ac_ ab_))))
   (ad_ (ar_ (i:=4) aM_.nd rfl (by trivial) (ah_ (a5_ T) (hr.mono (by decide)) (by rfl) T.X36.m T.X36.F.kp T.X36.B .nil as_ (aa_ ac_ ab_)))
   (ad_ (PS.quiet (aQ_ AR rfl (a4_ (ah_ (qs_ T) (hr.mono (by decide)) (by rfl) T.X35.m T.X35.F.kp T.X35.B .nil lU_ (aa_ (pv 0) (aa_ (pv 1) ab_)))) (am_ (i:=5) aM_.nd rfl (by trivial)) (af_ (ar_ (i:=4) aM_.nd rfl (by trivial) (ah_ (go_ T) (hr.mono (by decide)) (by rfl) T.X23.m T.X23.F.kp T.X23.B .nil as_ (aa_ (pv 4) (aa_ (ah_ (ev_ T) (hr.mono (by decide)) (by rfl) T.X24.m T.X24.F.kp T.X24.B .nil as_ (aa_ (ah_ (cY_ T 40) (hr.mono (by decide)) (by rfl) T.X38.m T.X38.F.kp T.X38.B .nil as_ (aa_ (pv 0) (aa_ (pv 5) (aa_ (ge_ (v:= .int (1)) (by rfl) T.m_LEFT ⟨_,rfl⟩) (aa_ (pv 2) ab_))))) (aa_ (ah_ (cY_ T 40) (hr.mono (by decide)) (by rfl) T.X38.m T.X38.F.kp T.X38.B .nil as_ (aa_ (pv 0) (aa_ (pv 5) (aa_ (ge_ (v:= .int (-1)) (by rfl) T.m_RIGHT ⟨_,rfl⟩) (aa_ (pv 3) ab_))))) ab_))) ab_)))))))
   (af_ (aq_ (pv 4)))))))), ?_⟩
  refine⟨_,rfl,_,rfl,v,u,rfl,ht,hu,fun⟨d,k,e1,e2,hN⟩=> ?_,ke⟩;subst e1 e2;have kk:=kk d k rfl rfl hN;clear ke;have d1:1<=d:=hN.1;have d4:d<=4:=by unfold aL_ at hN;lia
  refine fun ko H0 nko hD0 k0=> ?_;refine⟨_,rfl, .int d,rfl, .inl ⟨_,rfl⟩,fun m em _ _ l H1 s1 nl hl=> ?_,fun hx=>absurd ⟨_,rfl,by lia,by lia⟩ hx⟩;obtain rfl:d=m:=by have:=V.int.inj em;lia
  refine⟨_,_,rfl,hl,fun key H2 nk s2 hk=>⟨1,rfl,fun v1 H3 s3 hv1=>⟨((hD0.mono s1).mono s2).mono s3,wk (upE d),by rw [md_];exact hk.mono s3,fun H4 hD4 k4=> ?_⟩⟩⟩;have b4:But ko H3 H4:=fun c o e n=>by rw [k4 c n];exact e
  have l4:=aT_ (((hD0.mono s1).mono s2).mono s3) b4;have hKo:KnS d (upE d) (wS d 1 (upE d)) H4 [(wk (upE d),v1)]:=KnS.one (rx_ d4).1 (by rw [(sdL d4).eq (rx_ d4).1,A6 rfl];exact hv1.lts l4);have S4:∀c o,H c=some o->H4 c=some o:=fun c o e=>by
   have n:c≠ko:=by rintro rfl;rw [nko] at e;cases e
   rw [k4 c n];exact s3 _ _ (s2 _ _ (s1 _ _ (by rw [k0 c n];exact e)))
  clear hl hk hv1 l4 b4 k4 hD0 k0;refine fun ku H5 nku hD5 k5=> ?_;refine⟨_,rfl, .int d,rfl, .inl ⟨_,rfl⟩,fun m em _ _ l H6 s6 nl hl=> ?_,fun hx=>absurd ⟨_,rfl,by lia,by lia⟩ hx⟩;obtain rfl:d=m:=by have:=V.int.inj em;lia
  refine⟨_,_,rfl,hl,fun key H7 nk s7 hk=>⟨1,rfl,fun v2 H8 s8 hv2=>⟨((hD5.mono s6).mono s7).mono s8,wk (loE d),by rw [md_];exact hk.mono s8,fun H9 hD9 k9=> ?_⟩⟩⟩;have b9:But ku H8 H9:=fun c o e n=>by rw [k9 c n];exact e
  have l9:=aT_ (((hD5.mono s6).mono s7).mono s8) b9;have hKu:KnS d (loE d) (wS d (-1) (loE d)) H9 [(wk (loE d),v2)]:=KnS.one (ss_ d4).1 (by rw [(sdR d4).eq (ss_ d4).1,A6 rfl];exact hv2.lts l9);have S9:ak_ H4 H9:=fun c o e=>by
   have n:c≠ku:=by rintro rfl;rw [nku] at e;cases e
   rw [k9 c n];exact s8 _ _ (s7 _ _ (s6 _ _ (by rw [k5 c n];exact e)))
  have hDo9:=hD4.mono S9;have hKo9:=hKo.lts (aT_ hD4 (But.of_same S9));have kou:ko≠ku:=by
   obtain⟨_,_,xs,_,e⟩:=id hD4;rintro rfl;rw [e] at nku;cases nku
  have nkuH:H ku=none:=by
   cases e:H ku with
   |none=>rfl
   |some o=>rw [S4 _ _ e] at nku;cases nku
  have S09:ak_ H H9:=fun c o e=>S9 _ _ (S4 _ _ e);clear hl hk hv2 l9 b9 k9 hD5 k5 S4 S9;refine⟨0,rfl,fun vz H10 s10 hvz=> ?_⟩;rw [ig_] at hvz;refine⟨_,rfl,_,rfl, .int d, .int k,rfl, .inl ⟨_,rfl⟩, .inl ⟨_,rfl⟩,fun d' k' e1 e2 _ l H3 s3 nl hl=> ?_,fun hn=>absurd ⟨d,k,rfl,rfl,hN⟩ hn⟩;obtain rfl:d=d':=by have:=V.int.inj e1;lia
  obtain rfl:k=k':=by have:=V.int.inj e2;lia
  clear e1 e2;obtain⟨_,_,eT⟩:=e71 hN;have eN:=jh_ d eT;have eA:=k5_ d eT;generalize sW d k=S at hl eT eN eA;obtain⟨_,lvs,e,hl3,hli⟩:=cI_ hl;cases e;have llen:lvs.length=S.length:=by rw [hli.length,A2]
  have s93:=s10.trans s3;have hDo3:=hDo9.mono s93;have hDu3:=hD9.mono s93;have hKo3:=hKo9.lts (aT_ hDo9 (But.of_same s93));have hKu3:=hKu.lts (aT_ hDo9 (But.of_same s93));have lko:l≠ko:=by
   obtain⟨_,_,xs,_,e⟩:=id (hDo9.mono s10);rintro rfl;rw [e] at nl;cases nl
  have lku:l≠ku:=by
   obtain⟨_,_,xs,_,e⟩:=id (hD9.mono s10);rintro rfl;rw [e] at nl;cases nl
  have s03:=S09.trans s93;refine⟨l,rfl,⟨_,SqL.of hl3⟩,bB_ (xs:=lvs) (fun j σ H4=>(∃vt v5,σ=[some (.int d),some (.int k),some (.ref ko),some (.ref ku),some vt,v5]/\Is H4 (shD ((S.take j).foldl (fun t w=>a9_ t (rp_ d w)) zer)) vt)/\u4_ ko ku H3 H4/\(∃kvs,DN P w H4 ko kvs/\KnS d (upE d) (wS d 1 (upE d)) H4 kvs)/\∃kvs,DN P w H4 ku kvs/\KnS d (loE d) (wS d (-1) (loE d)) H4 kvs) ⟨⟨vz,none,rfl,hvz.mono s3⟩,fun c o e _ _=>e,⟨_,hDo3,hKo3⟩,_,hDu3,hKu3⟩ (fun j σ H4 _ h=>SqL.of (h.2.1 _ _ hl3 lko lku)) ?_ ?_⟩
  .rintro j y σ H4 hj ⟨⟨vt,v5,rfl,hvt⟩,b4,⟨Ro4,hDo4,hKo4⟩,Ru4,hDu4,hKu4⟩;obtain⟨dd,hdd,hy⟩:=hli.of_get hj;rw [A7] at hdd;obtain⟨ps,hx',rfl⟩:=A4.mp hdd;obtain⟨a0,a1,a2,a3⟩:=eA j ps hx';have ok:=rw_ a0;have a1:=cQ_ a1;have a2:=cQ_ a2;have a3:=cQ_ a3;have hy4:Is H4 (pts ps) y:=hy.lts (qF_ hDo3 hDu3 b4);have m1:=(sdL d4).lo ps ok;have m2:=(sdR d4).lo ps ok;refine⟨_,rfl,_,rfl,_,rfl,_,rfl,d,y,ko,ps,Ro4,1,upE d,_,rfl,sdL d4,d4,hy4,ok,by lia,hDo4,hKo4,fun Ro5 vo H5 b5 hDo5 hKo5 hvo=> ?_⟩;have hDu5:DN P w H5 ku Ru4:=DN.but hDu4 hDo4 b5 (Cs kou);have l45:=aT_ hDo4 b5;have hy5:=hy4.lts l45;refine⟨_,rfl,_,rfl,_,rfl,d,y,ku,ps,Ru4,-1,loE d,_,rfl,sdR d4,d4,hy5,ok,by lia,hDu5,hKu4.lts l45,fun Ru6 vu H6 b6 hDu6 hKu6 hvu=> ?_⟩;have l56:=aT_ hDu5 b6;have hDo6:DN P w H6 ko Ro5:=DN.but hDo5 hDu5 b6 kou;refine⟨vo,vu,_,_,rfl,hvo.lts l56,hvu,a2.1,((sdR d4).sup' ok).sms (by lia) (by lia),a2.2,fun vm H7 s7 hvm=> ?_⟩;refine⟨vt,vm,_,_,rfl,((hvt.lts l45).lts l56).mono s7,hvm,a1.1,a3.1,trivial,fun va H8 s8 hva=> ?_⟩;have s78:=s7.trans s8;refine⟨⟨va,_,rfl,by rw [c1_ hx'];exact hva⟩,fun c o e n1 n2=>s78 _ _ (b6 _ _ (b5 _ _ (b4 c o e n1 n2) n1) n2),⟨Ro5,hDo6.mono s78,(hKo5.lts l56).lts (aT_ hDo6 (But.of_same s78))⟩,Ru6,hDu6.mono s78,hKu6.lts (aT_ hDu6 (But.of_same s78))⟩
  .rintro σ H4 ⟨⟨vt,v5,rfl,hvt⟩,b4,_,_⟩;rw [llen,Al,eN] at hvt;exact⟨_,rfl,kk vt H4 (fun c o e=>b4 _ _ (s03 _ _ e) (by rintro rfl;rw [nko] at e;cases e) (by rintro rfl;rw [nkuH] at e;cases e)) hvt⟩
theorem cd_:FnOk P w K mg base (CX1 P w) 12 T.f40 T.d40 ["d","k"] (vi_ T.c_NoBound):=by
 refine T.X40.F.okx aO_ (fun vs H Q E h=> ?_) (fun cdv A outer s H vs Q E hr h hR hp=> ?_)
 .obtain⟨_,_,rfl,_⟩:=h;rfl
 .obtain⟨v,u,rfl,ht,hu,kk,ke⟩:=h;refine⟨_,(ad_ (aG_ (ah_ (el_ T) (hr.mono (by decide)) (by rfl) T.X3.m T.X3.F.kp T.X3.B .nil hp (aa_ (pv 0) (aa_ (pv 1) ab_))))
   (ad_ (ar_ (i:=2) aO_.nd rfl (by trivial) (ah_ (a5_ T) (hr.mono (by decide)) (by rfl) T.X36.m T.X36.F.kp T.X36.B .nil as_ (aa_ ac_ ab_)))
   (ad_ (PS.quiet (aQ_ AR rfl (a4_ (ah_ (iL_ T) (hr.mono (by decide)) (by rfl) T.X16.m T.X16.F.kp T.X16.B .nil as_ (aa_ (pv 0) (aa_ (pv 1) ab_)))) (am_ (i:=3) aO_.nd rfl (by trivial)) (ad_ (ga_ (i:=4) aO_.nd rfl (by trivial) (.inl rfl) (XN:=["d","k","total","drawing","weights"]) (sc:=ag_ bd_) (N:=["lift"]) (own:=1) (js:=[]) rfl (by ac_nf) rfl rfl (a4_ (pv 3)) (fun _ _ _ _=>(am_ (i:=0) (show List.Nodup (["lift"]:List Str) by ac_nf) rfl (Or.inl rfl) (.inr rfl))) (bs_ (by decide)) (fun _ _ _ _=>bX_) (fun _ _ _ _=>(aw_ au_ (pv 0) ac_ (fun _ _=>rfl))))
   (af_ (ar_ (i:=2) aO_.nd rfl (by trivial) (ah_ (go_ T) (hr.mono (by decide)) (by rfl) T.X23.m T.X23.F.kp T.X23.B .nil as_ (aa_ (pv 2) (aa_ (ah_ (ev_ T) (hr.mono (by decide)) (by rfl) T.X24.m T.X24.F.kp T.X24.B .nil as_ (aa_ (ah_ (a5_ T) (hr.mono (by decide)) (by rfl) T.X36.m T.X36.F.kp T.X36.B .nil as_ (aa_ (ah_ (iK_ T) (hr.mono (by decide)) (by rfl) T.X21.m T.X21.F.kp T.X21.B .nil as_ (aa_ (pv 0) (aa_ (pv 3) ab_))) ab_)) (aa_ (ah_ (ho_ T) (hr.mono (by decide)) (by rfl) T.X37.m T.X37.F.kp T.X37.B .nil as_ (aa_ (aj_ cl_ (pv 4) (pv 4)) ab_)) ab_))) ab_))))))))
   (af_ (aq_ (pv 2)))))), ?_⟩
  refine⟨_,rfl,_,rfl,v,u,rfl,ht,hu,fun⟨d,k,e1,e2,hW⟩=> ?_,ke⟩;subst e1 e2;obtain⟨hN,kk⟩:=kk d k rfl rfl hW;clear ke;have d15:1<=d/\d<=5:=by unfold Wide at hW;lia
  refine⟨0,rfl,fun vz H1 s1 hvz=> ?_⟩;rw [ig_] at hvz;refine⟨_,rfl,_,rfl,d,k,rfl,hN,fun l H2 s2 nl hl=> ?_⟩;have hl:=hl.mono bF_;obtain⟨eD,eT,_⟩:=e71 hN;obtain⟨_,_,_,g4,g5⟩:=eD;have eN:=ke_ d eT;have eA:=mN_ d eT;generalize sD d k=S at hl eT eN eA g4 g5;obtain⟨_,lvs,e,hl2,hli⟩:=cI_ hl;cases e;have llen:lvs.length=S.length:=by rw [hli.length,A2]
  refine⟨l,rfl,⟨_,SqL.of hl2⟩,bB_ (xs:=lvs) (fun j σ H3=>(∃vt v3 v4,σ=[some (.int d),some (.int k),some vt,v3,v4]/\Is H3 (shD ((S.take j).foldl (fun t x=>a9_ t (rq_ d x)) zer)) vt)/\ak_ H2 H3) ⟨⟨vz,none,none,rfl,hvz.mono s2⟩,ak_.refl _⟩ (fun j σ H3 _ h=>SqL.of (h.2 _ _ hl2)) ?_ ?_⟩
  .rintro j y σ H3 hj ⟨⟨vt,v3,v4,rfl,hvt⟩,s3⟩;obtain⟨dd,hdd,hy⟩:=hli.of_get hj;rw [A7] at hdd;obtain⟨x,hx',rfl⟩:=A4.mp hdd;obtain⟨a1,a2,a3,a4,a5⟩:=eA j x hx';have a1:=cQ_ a1;have a3:=cQ_ a3;have a4:=cQ_ a4;have a5:=cQ_ a5;have o1:=g4 x (Aq hx');unfold qr_ at o1;simp only [AC,AT] at o1;have hy3:=hy.mono s3;obtain⟨ya,yvs,rfl,hya,hyi⟩:=cI_ hy3;have ylen:yvs.length=x.length:=by rw [hyi.length,A2]
   refine⟨_,rfl,ya,rfl,⟨_,SqL.of hya⟩,fun acc na=> ?_⟩;refine cw_ (xs:=yvs) (own:=1) (js:=[]) (fun i H4=>ak_ H3 H4/\H4 acc=some (.lst ((wsX (x.take i)).map V.int))) ⟨ak_.new na,ae_⟩ (fun i H4 _ h=>SqL.of (h.1 _ _ hya)) ?_ ?_ bu_ bY_ ?_
   .rintro i z H4 hi ⟨s4,hacc⟩;obtain⟨dd,hdd,hz⟩:=hyi.of_get hi;rw [A7] at hdd;obtain⟨p,hp',rfl⟩:=A4.mp hdd;have hil:i<x.length:=(AH.mp hp').1;have hz4:=hz.mono s4;refine ni_ ?_;refine⟨_,rfl,_,2,_,hz4,rfl,rfl,fun u hu=> ?_⟩;rw [cn_ hu];refine⟨acc,_,_,rfl,rfl,hacc,al_ (by unfold wsX;simp;lia),s4.put na, ?_⟩;rw [ae_];unfold wsX;rw [Aa,hp',AA,AA];rfl
   .rintro H4 ⟨s4,hacc⟩;rw [ylen,Al] at hacc;have hyL:Is H4 (lfs x) (.ref ya):=hy3.mono s4;refine⟨_,rfl,_,rfl,_,rfl,d,_,x,rfl,d15.1,d15.2,hyL,nF_ o1.1,fun H5 s5=> ?_⟩;refine⟨hmD d x,rfl,fun vn H6 s6 hvn=> ?_⟩;have hacc6:=s6 _ _ (s5 _ _ hacc);refine⟨_,rfl,_,rfl,_,_,cu_ hacc6 (dV_ (wsX x)),cu_ hacc6 (dV_ (wsX x)),AW (al_ (by unfold wsX;simp;lia)),fun q H7 nq s7 hq=> ?_⟩;refine⟨.ref q,q5_ x,rfl, ?_,a2,fun vs H8 s8 hvs=> ?_⟩
    .unfold q5_;rw [AA];exact hq
    refine⟨vn,vs,_,_,rfl,(hvn.mono s7).mono s8,hvs,a4.1,a3.1,a4.2,fun vm H9 s9 hvm=> ?_⟩;have s49:=((((s5.trans s6).trans s7).trans s8).trans s9);refine⟨vt,vm,_,_,rfl,(hvt.mono s4).mono s49,hvm,a1.1,a5.1,trivial,fun va Ha sa hva=> ?_⟩;exact⟨⟨va,_,_,rfl,by rw [c1_ hx'];exact hva⟩,((s3.trans s4).trans s49).trans sa⟩
   .rintro σ H R R' k' ⟨v1,e1,xs,i,dd,h1,e2,e3,h⟩;exact⟨v1,e1,xs,i,dd,h1,e2,e3,fun u hu=>k' _ _ (h u hu)⟩
  .rintro σ H3 ⟨⟨vt,v3,v4,rfl,hvt⟩,s3⟩;rw [llen,Al,eN] at hvt;exact⟨_,rfl,kk vt H3 ((s1.trans s2).trans s3) hvt⟩
noncomputable def oK_ (k n:Nat):List (List Int):=(List.range n).map fun a:Nat=>[((a+1:Nat):Int),(k:Int)]
noncomputable def o7_ (i:Nat):List (List Int):=(List.range i).flatMap fun k=>oK_ k 3
theorem m0_ (k n:Nat):oK_ k (n+1)=oK_ k n++[[((n+1:Nat):Int),(k:Int)]]:=by unfold oK_;rw [B4,AA];rfl
theorem hj_ (i:Nat):o7_ (i+1)=o7_ i++oK_ i 3:=by unfold o7_;rw [B4,By];simp
theorem kl_ (k n:Nat):(oK_ k n).length=n:=by unfold oK_;simp
theorem jD_:∀i:Nat,(o7_ i).length=3*i
 |0=>rfl
 |i+1=>by rw [hj_,AF,kl_,jD_ i];lia
noncomputable def Prs (H:Hp) (l:Addr) (xs:List (List Int)):Prop:=∃vs,H l=some (.lst vs)/\Iss H (xs.map tI) vs
theorem Prs.add {H H2:Hp}{l t:Addr}{xs:List (List Int)}{x:List Int} (g:Prs H l xs) (s:ak_ H H2) (nt:H t=none) (ht:H2 t=some (.tup (x.map V.int))):∃vs,H2 l=some (.lst vs)/\vs.length=xs.length/\Prs (upd H2 l (.lst (vs++[.ref t]))) l (xs++[x]):=by
 obtain⟨vs,hl,hi⟩:=g;have tl:t≠l:=by rintro rfl;rw [hl] at nt;cases nt
 refine⟨vs,s _ _ hl,by rw [hi.length,A2],_,ae_, ?_⟩;rw [AA];refine Iss.append ?_ (ai_ (e2_ (by rw [ao_ tl];exact ht)) an_);have go:∀{xs:List (List Int)}{vs:List V},Iss H (xs.map tI) vs->Iss (upd H2 l (.lst (vs++[.ref t]))) (xs.map tI) vs->True:=fun _ _=>trivial;have mono:∀{ys:List (List Int)}{us:List V}{H':Hp},(∀b zs,H b=some (.tup zs)->H' b=some (.tup zs))->Iss H (ys.map tI) us->Iss H' (ys.map tI) us:=by
  intro ys;induction ys with
  |nil=>intro us H' _ h;rw [bf_ h];exact an_
  |cons y ys ih=>
   intro us H' k h;obtain⟨u,us,rfl,q,r⟩:=az_ h;obtain⟨a,rfl,ha⟩:=eT_ q;exact ai_ (e2_ (k _ _ ha)) (ih k r)
 exact mono (fun b zs e=>by rw [ao_ (by rintro rfl;rw [hl] at e;cases e)];exact s _ _ e) hi
noncomputable def te_:List (List Int):=[[4,0],[4,1],[4,2]]
noncomputable def nT3:List (Nat×Nat):=[(4,0),(4,1),(4,2),(1,0),(2,0),(3,0),(1,1),(2,1),(3,1),(1,2),(2,2),(3,2),(1,3),(2,3),(3,3),(1,4),(2,4),(3,4),(1,5),(2,5),(3,5),(1,6),(2,6),(3,6)]
theorem n5_:te_++o7_ 7=nT3.map fun x=>[(x.1:Int),(x.2:Int)]:=by decide
theorem qC_:∀x∈nT3,aL_ x.1 x.2:=by
 unfold aL_;decide
noncomputable def tD_:Sp:=fun vs H Q _=>vs=[]/\∀l H',ak_ H H'->H l=none->Is H' (.l ((nT3.map fun x=>[(x.1:Int),(x.2:Int)]).map tI)) (.ref l)->Q (.ref l) H'
theorem gp_:FnOk P w K mg base CX0 1 T.f43 T.d43 [] tD_:=by
 refine T.X43.F.ok bV_ (fun vs H Q E h=> ?_) (fun cdv A outer s H vs Q E hr h=> ?_)
 .obtain⟨rfl,_⟩:=h;rfl
 .obtain⟨rfl,kk⟩:=h;refine⟨_,(ad_ (ar_ (i:=0) bV_.nd rfl (by trivial) (aE_ (aa_ (ay_ (aa_ ac_ (aa_ ac_ ab_))) (aa_ (ay_ (aa_ ac_ (aa_ ac_ ab_))) (aa_ (ay_ (aa_ ac_ (aa_ ac_ ab_))) ab_)))))
   (ad_ (aQ_ AR rfl (b3_ (by rfl) T.n_range (aa_ ac_ ab_)) (am_ (i:=1) bV_.nd rfl (by trivial)) (af_ (aQ_ AR rfl (cq_ (by rfl) T.n_range (aa_ ac_ (aa_ ac_ ab_))) (am_ (i:=2) bV_.nd rfl (by trivial)) (af_ (aG_ (fj_ Ay BM BL bN_ (pv 0) (aa_ (ay_ (aa_ (pv 2) (aa_ (pv 1) ab_))) ab_)))))))
   (af_ (aq_ (pv 0))))), ?_⟩
  refine⟨(by show 2<=sizeLine;decide),fun t1 H1 n1 s1 h1=>⟨(by show 2<=sizeLine;decide),fun t2 H2 n2 s2 h2=>⟨(by show 2<=sizeLine;decide),fun t3 H3 n3 s3 h3=>⟨(by show 3<=sizeLine;decide),fun l H4 nl s4 hl4=> ?_⟩⟩⟩⟩;have s03:=(s1.trans s2).trans s3;have nlH:H l=none:=s03.free nl;have g0:Prs H4 l (te_++o7_ 0):=⟨_,hl4,ai_ (e2_ (xs:=[4,0]) (((s2.trans s3).trans s4) _ _ h1)) (ai_ (e2_ (xs:=[4,1]) ((s3.trans s4) _ _ h2)) (ai_ (e2_ (xs:=[4,2]) (s4 _ _ h3)) an_))⟩;have s04:=s03.trans s4;clear h1 h2 h3 hl4;generalize H4=H5 at g0 s04⊢;refine⟨7,rfl,by decide,by decide,bA_ (lo:=0) (n:=7) (fun i σ H2=>(∃v1 v2,σ=[some (.ref l),v1,v2])/\ak_ H H2/\Prs H2 l (te_++o7_ i)) ⟨⟨none,none,rfl⟩,s04,g0⟩ ?_ ?_⟩
  .rintro i σ H2 hi ⟨⟨v1,v2,rfl⟩,s2,g2⟩;rw [show(0:Int)+(i:Int)=(i:Int) by lia];refine⟨1,_,rfl,⟨by decide,by decide,by decide,by decide⟩, ?_⟩;rw [show((4:Int)-1).toNat=3 from rfl];refine bA_ (lo:=1) (n:=3) (fun j σ H3=>(∃v2,σ=[some (.ref l),some (.int (i:Int)),v2])/\ak_ H H3/\Prs H3 l (te_++o7_ i++oK_ i j)) ⟨⟨_,rfl⟩,s2,by simpa [oK_] using g2⟩ ?_ ?_
   .rintro j σ H3 hj ⟨⟨v2,rfl⟩,s3,g3⟩;obtain⟨vs0,hl0,_⟩:=id g3;rw [show(1:Int)+(j:Int)=((j+1:Nat):Int) by lia];refine⟨_,rfl, .inl ⟨rfl,_,SqL.of hl0⟩,_,rfl,_,rfl,(by show 2<=sizeLine;decide),fun t H4 nt s4 ht=> ?_⟩;obtain⟨vs,hl4,hvl,g4⟩:=g3.add s4 nt (x:=[((j+1:Nat):Int),(i:Int)]) ht;refine⟨l,vs,_,rfl,rfl,hl4,al_ (by rw [hvl,AF,AF,jD_,kl_];show 3+3*i+j<=1000;lia),⟨_,rfl⟩,(s3.trans s4).put nlH, ?_⟩;rw [m0_ i j,<-BB];exact g4
   .rintro σ H3 ⟨⟨v2,rfl⟩,s3,g3⟩;rw [BB,<-hj_] at g3;exact⟨⟨_,_,rfl⟩,s3,g3⟩
  .rintro σ H3 ⟨⟨v1,v2,rfl⟩,s3,vs,hl3,hi3⟩;rw [n5_] at hi3;exact⟨_,rfl,kk l H3 s3 nlH (cu_ hl3 hi3)⟩
theorem bt_:FnOk P w K mg base CX0 47 T.f44 T.d44 ["_law_which","_law_d","_law_k"] tH_:=by
 refine T.X44.F.oky cR_ (fun vs H Q E h=> ?_) (fun cdv A outer s H vs Q E hr h hF=> ?_)
 .obtain⟨_,_,_,rfl,_⟩:=h;rfl
 .obtain⟨wt,v,u,rfl,ht,hu,h0,h1,kk⟩:=h;refine⟨_,(ad_ (qa_ (i:=3) hF cR_.nd rfl (by trivial) rfl (by rfl) T.m_NoBound (r4_ (fun pn z=>(aD_ fk_ (pv 0) ac_ (aK_ _))) (jB_ (cO_ T) (hr.mono (by decide)) (by rfl) T.X39.m T.X39.F.kp T.X39.B .nil (fun pn z=>(aa_ (pv 1) (aa_ (pv 2) ab_)))) (jB_ (cd_ T) (hr.mono (by decide)) (by rfl) T.X40.m T.X40.F.kp T.X40.B .nil (fun pn z=>(aa_ (pv 1) (aa_ (pv 2) ab_))))) (fun e=>(af_ (aq_ (aC_ (m5_ (K:=K) rfl) (by rfl) T.n_isinstance boot_isinstance (aa_ (pv 3) (aa_ (iD_ (v:= .ty "ValueError") (by rfl) T.n_ValueError PyProof.Rows.Boot.«ValueError» (by rfl)) ab_)))))))
   (af_ (aq_ iE_))), ?_⟩
  refine⟨fun C _ H'=>C= .ref T.c_NoBound/\ak_ H H', ?_,fun C e H' ⟨eC,sH⟩ he=> ?_⟩
  .refine⟨_,rfl,rfl,_,rfl,ne_ (fun e0=> ?_) (fun e0=> ?_)⟩
   .exact⟨_,rfl,_,rfl,v,u,rfl,ht,hu,fun d k e1 e2 hN=>absurd ⟨d,k,e1,e2,hN⟩ (h0 e0),fun _=>⟨rfl,ak_.refl _⟩⟩
   .exact⟨_,rfl,_,rfl,v,u,rfl,ht,hu,fun d k e1 e2 hN=>absurd ⟨d,k,e1,e2,hN⟩ (h1 e0),fun _=>⟨rfl,ak_.refl _⟩⟩
  .cases eC;have s2:ak_ H (upd H' e (nf_ T.c_NoBound e)):=sH.trans (ak_.new he);have hx:upd H' e (nf_ T.c_NoBound e) e=some (nf_ T.c_NoBound e):=ae_;generalize upd H' e (nf_ T.c_NoBound e)=H2 at s2 hx⊢;refine⟨T.e_NoBound_NoBound, ?_⟩;exact⟨_,rfl,e,_, .ty "ValueError",_,true,rfl,hx,T.X_NoBound,rfl,T.k_NoBound_ValueError,kk _ s2⟩
theorem kj_:∀xs:List Int,i3_ (xs.map D.i)<=1
 |[]=>by simp [i3_]
 |x::xs=>by
  have:=kj_ xs;rw [AJ,i3_,dep];lia
theorem jY_:∀xs:List Int,if_ (xs.map D.i) (xs.map D.i)
 |[]=>by simp [if_]
 |x::xs=>by
  rw [AJ];unfold if_;exact⟨by simp [Kin],jY_ xs⟩
theorem mQ_ {H:Hp}{s:Sh}{v u:V} (h:Is H (shD s) v) (k:Is H (shD s) u):EqR K H 3 v u true:=by
 have e:=h.eqr (K:=K) (n:=3) (by have:=kj_ s.2;unfold shD;simp only [dep,i3_];lia) (by have:=jY_ s.2;unfold shD;simp [Kin,if_,this]) k;rw [oD_] at e;exact e
theorem tj_ {d:Nat}:v71 d 0=(0,[1]):=by unfold v71;rfl
noncomputable def u5_:Stmt->Expr
 | .Assign _ (.Subscript e _ _) _=>e
 |_=> .Constant .none 0 ⟨0,0,0,0⟩
noncomputable def th_:Stmt->Expr->Stmt
 | .Assign ts (.Subscript _ i q) p,e=> .Assign ts (.Subscript e i q) p
 |s,_=>s
noncomputable def IsP (e:Expr) (a b:Int):Prop:=∃k1 p1 k2 p2 k3 p3,e= .Tuple [.Constant (.int a) k1 p1, .Constant (.int b) k2 p2] k3 p3
theorem jF_ {X:Cx}{e:Expr}{a b:Int} (h:IsP e a b):PE X e (kx_ (db_ (tC (.int a)) (db_ (tC (.int b)) nw_))):=by
 obtain⟨k1,p1,k2,p2,k3,p3,rfl⟩:=h;exact ay_ (aa_ ac_ (aa_ ac_ ab_))
theorem ju_ {e:Expr}{a b:Int}{r:List Expr}{env:Env} (h:IsP e a b):starEach (e::r) env=(false,eval e env)::starEach r env:=by
 obtain⟨k1,p1,k2,p2,k3,p3,rfl⟩:=h;rfl
theorem t5_ {X:Cx}{e e1 e2 e3 e4:Expr}{pos:Pos}{a1 b1 a2 b2 a3 b3 a4 b4:Int} (he:e= .List [e1,e2,e3,e4] pos) (h1:IsP e1 a1 b1) (h2:IsP e2 a2 b2) (h3:IsP e3 a3 b3) (h4:IsP e4 a4 b4):
  PE X e (rF_ (db_ (kx_ (db_ (tC (.int a1)) (db_ (tC (.int b1)) nw_))) (db_ (kx_ (db_ (tC (.int a2)) (db_ (tC (.int b2)) nw_))) (db_ (kx_ (db_ (tC (.int a3)) (db_ (tC (.int b3)) nw_))) (db_ (kx_ (db_ (tC (.int a4)) (db_ (tC (.int b4)) nw_))) nw_))))):=by
 subst he;exact aE_ (aa_ (jF_ h1) (aa_ (jF_ h2) (aa_ (jF_ h3) (aa_ (jF_ h4) ab_ (ju_ h4)) (ju_ h3)) (ju_ h2)) (ju_ h1))
theorem sg_:FnOk P w K mg base CX0 48 T.f45 T.d45 ["_law_script"] (jq_ K):=by
 refine T.X45.F.ok dM_ (fun vs H Q E h=> ?_) (fun cdv A outer s H vs Q E hr h=> ?_)
 .obtain⟨_,_,rfl,_⟩:=h;rfl
 .obtain⟨a,ns,rfl,hS,hl,kk⟩:=h;obtain⟨e0,he0,hbd⟩:∃e,e=u5_ ((a0_ he_).getD 9 (.Pass ⟨0,0,0,0⟩))/\a0_ he_=(a0_ he_).take 9++th_ ((a0_ he_).getD 9 (.Pass ⟨0,0,0,0⟩)) e::(a0_ he_).drop 10:=⟨_,rfl,rfl⟩;rw [hbd];refine⟨_,(ad_ (o6_ (aw_ b0_ (n3_ (gp_ T) (hr.mono (by decide)) (by rfl) T.X43.m T.X43.F.kp T.X43.B .nil as_) (aj_ cX_ (ah_ (bH_ T) (hr.mono (by decide)) (by rfl) T.X42.m T.X42.F.kp T.X42.B .nil as_ (aa_ (pv 0) (aa_ ac_ ab_))) ac_) (fun _ _=>rfl)) (cr_ rfl (av_ (am_ (i:=1) dM_.nd rfl (by trivial)) (av_ (am_ (i:=2) dM_.nd rfl (by trivial)) bE_))))
   (ad_ (ar_ (i:=3) dM_.nd rfl (by trivial) (ah_ (cO_ T) (hr.mono (by decide)) (by rfl) T.X39.m T.X39.F.kp T.X39.B .nil lU_ (aa_ (pv 1) (aa_ (pv 2) ab_))))
   (ad_ (b2_ (aD_ (l0_ hr) (pv 3) (ah_ (cd_ T) (hr.mono (by decide)) (by rfl) T.X40.m T.X40.F.kp T.X40.B .nil lU_ (aa_ (pv 1) (aa_ (pv 2) ab_))) (aK_ _)) (af_ (aq_ iE_)) aJ_)
   (ad_ (o5_ (b2_ (hg_ (aD_ fk_ (pv 2) ac_ (aK_ _)) (f8_ (aD_ (l0_ hr) (pv 3) (ay_ (aa_ ac_ (aa_ (aE_ (aa_ ac_ ab_)) ab_))) (aK_ _)))).pt (af_ (aq_ iE_)) aJ_))
   (ad_ (o5_ (b2_ (hg_ (aD_ fk_ (pv 1) ac_ (aK_ _)) (hg_ (aD_ fk_ (pv 2) ac_ (aK_ _)) (f8_ (aD_ (l0_ hr) (pv 3) (ay_ (aa_ (iC_ eC_ ac_) (aa_ (aE_ (aa_ ac_ (aa_ ac_ (aa_ ac_ (aa_ ac_ (aa_ ac_ ab_)))))) ab_))) (aK_ _))))).pt (af_ (aq_ iE_)) aJ_))
   (ad_ (ar_ (i:=4) dM_.nd rfl (by trivial) (ah_ (bH_ T) (hr.mono (by decide)) (by rfl) T.X42.m T.X42.F.kp T.X42.B .nil as_ (aa_ (pv 0) (aa_ ac_ ab_))))
   (ad_ (ar_ (i:=5) dM_.nd rfl (by trivial) (aE_ (aa_ (ay_ (aa_ ac_ (aa_ (pv 2) ab_))) (aa_ (ay_ (aa_ (aj_ aA_ ac_ (aj_ cX_ (pv 4) (aj_ lZ_ ac_ ac_))) (aa_ (pv 2) ab_))) (aa_ (ay_ (aa_ (pv 1) (aa_ (aj_ aA_ ac_ (aj_ cX_ (pv 4) (aj_ lZ_ ac_ ac_))) ab_))) (aa_ (ay_ (aa_ (pv 1) (aa_ (iC_ eC_ ac_) ab_))) (aa_ (ay_ (aa_ iE_ (aa_ (pv 2) ab_))) (aa_ (ay_ (aa_ (pv 1) (aa_ iE_ ab_))) (aa_ (ay_ (aa_ lQ_ (aa_ (pv 2) ab_))) (aa_ (ay_ (aa_ (pv 1) (aa_ lO_ ab_))) ab_))))))))))
   (ad_ (o6_ (aw_ c0_ (pv 5) (aj_ cX_ (ah_ (bH_ T) (hr.mono (by decide)) (by rfl) T.X42.m T.X42.F.kp T.X42.B .nil as_ (aa_ (pv 0) (aa_ ac_ ab_))) ac_) (fun _ _=>rfl)) (cr_ rfl (av_ (am_ (i:=6) dM_.nd rfl (by trivial)) (av_ (am_ (i:=7) dM_.nd rfl (by trivial)) bE_))))
   (ad_ (b2_ (nU_ (eN_ (hi_ (ah_ (bt_ T) (hr.mono (by decide)) (by rfl) T.X44.m T.X44.F.kp T.X44.B .nil as_ (aa_ ac_ (aa_ (pv 6) (aa_ (pv 7) ab_)))))) (lD_ (eN_ (hi_ (ah_ (bt_ T) (hr.mono (by decide)) (by rfl) T.X44.m T.X44.F.kp T.X44.B .nil as_ (aa_ ac_ (aa_ (pv 6) (aa_ (pv 7) ab_)))))))).pt (af_ (aq_ iE_)) aJ_)
   (ad_ (ar_ (i:=8) dM_.nd rfl (by trivial) (aw_ c0_ (t5_ he0 ⟨_,_,_,_,_,_,rfl⟩ ⟨_,_,_,_,_,_,rfl⟩ ⟨_,_,_,_,_,_,rfl⟩ ⟨_,_,_,_,_,_,rfl⟩) (aj_ cX_ (ah_ (bH_ T) (hr.mono (by decide)) (by rfl) T.X42.m T.X42.F.kp T.X42.B .nil as_ (aa_ (pv 0) (aa_ ac_ ab_))) ac_) (fun _ _=>rfl)))
   (af_ (aq_ (jH_ (ah_ (bt_ T) (hr.mono (by decide)) (by rfl) T.X44.m T.X44.F.kp T.X44.B .nil as_ (aa_ ac_ (aa_ (aw_ au_ (pv 8) ac_ (fun _ _=>rfl)) (aa_ (aw_ au_ (pv 8) ac_ (fun _ _=>rfl)) ab_)))) (lP_ (ah_ (bt_ T) (hr.mono (by decide)) (by rfl) T.X44.m T.X44.F.kp T.X44.B .nil as_ (aa_ ac_ (aa_ ac_ (aa_ (aj_ aA_ ac_ (aj_ cX_ (pv 4) ac_)) ab_)))))))))))))))))), ?_⟩
  refine⟨rfl,fun l H1 s1 nl hL=> ?_⟩;refine⟨_,rfl,a,ns,0,rfl,s1.seq hS,by decide,by decide,fun z hz=>⟨_,_,rfl,rfl,(show(0:Int)<24 by decide), ?_⟩⟩;have z0:0<=z%24:=CO _ (by decide);have z1:z%24<24:=Int.emod_lt_of_pos _ (by decide);obtain⟨m,hm⟩:=AX z0;have hml:m<nT3.length:=by show m<24;lia
  have hat:atI ((nT3.map fun x=>[(x.1:Int),(x.2:Int)]).map tI) ((m:Nat):Int)=some (tI [(nT3[m].1:Int),(nT3[m].2:Int)]):=fa_ (by rw [A7,A7,A1 hml];rfl);have hN:=qC_ _ (Bn hml);generalize nT3[m].1=d at hat hN;generalize nT3[m].2=k at hat hN;refine⟨_,((m:Nat):Int),_,hL,Bg V.int hm,hat,fun u hu=> ?_⟩;obtain⟨t,rfl,ht⟩:=eT_ hu;refine⟨t,_,rfl,SqT.of ht,rfl,_,_,rfl,_,_,rfl,rfl, ?_⟩;clear hat hL ht hu;have d4:d<=4:=by unfold aL_ at hN;lia
  have hW:=gt_ hN;refine⟨_,rfl,_,rfl, .int d, .int k,rfl, .inl ⟨_,rfl⟩, .inl ⟨_,rfl⟩,fun d' k' e1 e2 _ vf H2 s2 hvf=> ?_,fun hn=>absurd ⟨d,k,rfl,rfl,hN⟩ hn⟩;obtain rfl:d=d':=by have:=V.int.inj e1;lia
  obtain rfl:k=k':=by have:=V.int.inj e2;lia
  clear e1 e2;refine⟨_,rfl,_,rfl,_,rfl, .int d, .int k,rfl, .inl ⟨_,rfl⟩, .inl ⟨_,rfl⟩,fun d' k' e1 e2 _=> ?_,fun hn=>absurd ⟨d,k,rfl,rfl,hW⟩ hn⟩;obtain rfl:d=d':=by have:=V.int.inj e1;lia
  obtain rfl:k=k':=by have:=V.int.inj e2;lia
  clear e1 e2;refine⟨hN,fun vg H3 s3 hvg=>⟨3,true,mQ_ (hvf.mono s3) hvg,by decide,_,rfl,fm_ ?_⟩⟩;have hvf:=hvf.mono s3;have s3:=(s1.trans s2).trans s3;refine⟨fun σ H6=>σ=[some (.ref a),some (.int d),some (.int k),some vf,none,none,none,none,none]/\ak_ H3 H6, ?_, ?_⟩
  .refine⟨_,rfl,rfl,_,rfl,ne_ (fun e0=> ?_) (fun e0=>⟨rfl,ak_.refl _⟩)⟩;obtain rfl:k=0:=by lia
   rw [tj_] at hvf;refine⟨_,rfl,(by show 1<=sizeLine;decide),fun lq H4 nlq s4 hlq=>⟨(by show 2<=sizeLine;decide),fun tq H5 ntq s5 htq=> ?_⟩⟩;refine⟨3,true,mQ_ ((hvf.mono s4).mono s5) (kN_ htq (s5 _ _ hlq)),by decide,_,rfl,fm_ ⟨rfl,s4.trans s5⟩⟩
  rintro σ H4 ⟨rfl,s4⟩;have hvf:=hvf.mono s4;have s3:=s3.trans s4;clear s4;refine⟨fun σ H6=>σ=[some (.ref a),some (.int d),some (.int k),some vf,none,none,none,none,none]/\ak_ H4 H6, ?_, ?_⟩
  .refine⟨_,rfl,rfl,_,rfl,ne_ (fun e0=> ?_) (fun e0=>⟨rfl,ak_.refl _⟩)⟩;refine⟨_,rfl,rfl,_,rfl,ne_ (fun e1=> ?_) (fun e1=>⟨rfl,ak_.refl _⟩)⟩;obtain rfl:k=1:=by lia
   obtain rfl:d=3:=by lia
   refine⟨_,rfl,2,rfl,(by show 5<=sizeLine;decide),fun lq H5 nlq s4 hlq=>⟨(by show 2<=sizeLine;decide),fun tq H6 ntq s5 htq=> ?_⟩⟩;refine⟨3,true,mQ_ ((hvf.mono s4).mono s5) (kN_ htq (s5 _ _ hlq)),by decide,_,rfl,fm_ ⟨rfl,s4.trans s5⟩⟩
  rintro σ H5 ⟨rfl,s5⟩;have s4:=s3.trans s5;clear s3 s5 hvf;refine⟨_,rfl,a,ns,1,rfl,s4.seq hS,by decide,by decide,fun x hx=> ?_⟩;refine⟨_,rfl,(by show 2<=sizeLine;decide),fun t1 H6 n1 s6 h1=> ?_⟩;refine⟨_,rfl,10,20,rfl,rfl,⟨by decide,by decide,by decide⟩,_,_,rfl,rfl,(show(0:Int)<10^Int.toNat 20 by decide),_,_,rfl,rfl,_,rfl,(by show 2<=sizeLine;decide),fun t2 H7 n2 s7 h2=> ?_⟩;obtain⟨q2,q20,h2⟩:∃q:Int,0<=q/\H7 t2=some (.tup [.int (6+q), .int k]):=⟨_,CO _ (by decide),h2⟩;refine⟨_,rfl,_,rfl,10,20,rfl,rfl,⟨by decide,by decide,by decide⟩,_,_,rfl,rfl,(show(0:Int)<10^Int.toNat 20 by decide),_,_,rfl,rfl,(by show 2<=sizeLine;decide),fun t3 H8 n3 s8 h3=> ?_⟩;obtain⟨q3,q30,h3⟩:∃q:Int,0<=q/\H8 t3=some (.tup [.int d, .int (7+q)]):=⟨_,CO _ (by decide),h3⟩;refine⟨_,rfl,1,rfl,(by show 2<=sizeLine;decide),fun t4 H9 n4 s9 h4=> ?_⟩;refine⟨_,rfl,(by show 2<=sizeLine;decide),fun t5 H10 n5 s10 h5=> ?_⟩;refine⟨_,rfl,(by show 2<=sizeLine;decide),fun t6 H11 n6 s11 h6=> ?_⟩;refine⟨_,rfl,(by show 2<=sizeLine;decide),fun t7 H12 n7 s12 h7=> ?_⟩;refine⟨_,rfl,(by show 2<=sizeLine;decide),fun t8 H13 n8 s13 h8=> ?_⟩;refine⟨(by show 8<=sizeLine;decide),fun p H15 np s14 h15=> ?_⟩;have r13:=s14;have r12:=s13.trans r13;have r11:=s12.trans r12;have r10:=s11.trans r11;have r9:=s10.trans r10;have r8:=s9.trans r9;have r7:=s8.trans r8;have r6:=s7.trans r7;have sF:=s4.trans (s6.trans r6);have h1:=r6 _ _ h1;have h2:=r7 _ _ h2;have h3:=r8 _ _ h3;have h4:=r9 _ _ h4;have h5:=r10 _ _ h5;have h6:=r11 _ _ h6;have h7:=r12 _ _ h7;have h8:=r13 _ _ h8;refine⟨_,rfl,_,rfl,a,ns,2,rfl,sF.seq hS,by decide,by decide,fun y hy=>⟨_,_,rfl,rfl,(show(0:Int)<8 by decide), ?_⟩⟩;have key:∃t v u,atI [V.ref t1, .ref t2, .ref t3, .ref t4, .ref t5, .ref t6, .ref t7, .ref t8] (y%8)=some (.ref t)/\H15 t=some (.tup [v,u])/\b8_ H15 v/\b8_ H15 u/\¬Wd v u:=by
   have y0:0<=y%8:=CO _ (by decide);have y1:y%8<8:=Int.emod_lt_of_pos _ (by decide);generalize y%8=r at y0 y1;have:r=0\/r=1\/r=2\/r=3\/r=4\/r=5\/r=6\/r=7:=by lia
   rcases this with rfl|rfl|rfl|rfl|rfl|rfl|rfl|rfl
   .exact⟨t1,_,_,rfl,h1, .inl ⟨_,rfl⟩, .inl ⟨_,rfl⟩,fun⟨d',k',e1,e2,hn⟩=>by have:=V.int.inj e1;have:=V.int.inj e2;unfold Wide at hn;lia⟩
   .exact⟨t2,_,_,rfl,h2, .inl ⟨_,rfl⟩, .inl ⟨_,rfl⟩,fun⟨d',k',e1,e2,hn⟩=>by have:=V.int.inj e1;have:=V.int.inj e2;unfold Wide at hn;lia⟩
   .exact⟨t3,_,_,rfl,h3, .inl ⟨_,rfl⟩, .inl ⟨_,rfl⟩,fun⟨d',k',e1,e2,hn⟩=>by have:=V.int.inj e1;have:=V.int.inj e2;unfold Wide at hn;lia⟩
   .exact⟨t4,_,_,rfl,h4, .inl ⟨_,rfl⟩, .inl ⟨_,rfl⟩,fun⟨d',k',e1,e2,hn⟩=>by have:=V.int.inj e1;have:=V.int.inj e2;unfold Wide at hn;lia⟩
   .exact⟨t5,_,_,rfl,h5, .inr (.inl ⟨_,rfl⟩), .inl ⟨_,rfl⟩,fun⟨d',k',e1,e2,hn⟩=>by cases e1⟩
   .exact⟨t6,_,_,rfl,h6, .inl ⟨_,rfl⟩, .inr (.inl ⟨_,rfl⟩),fun⟨d',k',e1,e2,hn⟩=>by cases e2⟩
   .exact⟨t7,_,_,rfl,h7, .inr (.inr (.inl rfl)), .inl ⟨_,rfl⟩,fun⟨d',k',e1,e2,hn⟩=>by cases e1⟩
   .exact⟨t8,_,_,rfl,h8, .inl ⟨_,rfl⟩, .inr (.inr (.inr (.inl ⟨_,rfl⟩))),fun⟨d',k',e1,e2,hn⟩=>by cases e2⟩
  clear h1 h2 h3 h4 h5 h6 h7 h8;obtain⟨t,v,u,hat,ht,tv,tu,nn⟩:=key;have nn2:¬Nrw v u:=fun⟨d',k',e1,e2,hn⟩=>nn ⟨d',k',e1,e2,gt_ hn⟩;refine⟨p,_,_,_,rfl,rfl,SqL.of h15,hat,t,_,rfl,SqT.of ht,rfl,_,_,rfl,_,_,rfl,rfl, ?_⟩;refine⟨_,rfl,_,rfl,0,v,u,rfl,tv,tu,fun _=>nn2,fun h=>absurd rfl h,fun H16 s16=>⟨true,rfl,fm_ ?_⟩⟩;refine⟨_,rfl,_,rfl,1,v,u,rfl,tv.mono s16,tu.mono s16,fun h=>absurd h (by decide),fun _=>nn,fun H17 s17=>⟨true,rfl,fm_ ?_⟩⟩;have sG:=(sF.trans s16).trans s17;refine⟨(by show 2<=sizeLine;decide),fun t1 H18 n1 s18 h1=>⟨(by show 2<=sizeLine;decide),fun t2 H19 n2 s19 h2=>⟨(by show 2<=sizeLine;decide),fun t3 H20 n3 s20 h3=>⟨(by show 2<=sizeLine;decide),fun t4 H21 n4 s21 h4=>⟨(by show 4<=sizeLine;decide),fun lw H22 nw' s22 hw=> ?_⟩⟩⟩⟩⟩;have w4:=s22;have w3:=s21.trans w4;have w2:=s20.trans w3;have w1:=s19.trans w2;refine⟨_,rfl,a,ns,3,rfl,((sG.trans s18).trans w1).seq hS,by decide,by decide,fun y2 hy2=>⟨_,_,rfl,rfl,(show(0:Int)<4 by decide), ?_⟩⟩;have h1:=w1 _ _ h1;have h2:=w2 _ _ h2;have h3:=w3 _ _ h3;have h4:=w4 _ _ h4;have key:∃t i j,atI [V.ref t1, .ref t2, .ref t3, .ref t4] (y2%4)=some (.ref t)/\H22 t=some (.tup ([i,j].map V.int))/\¬Nrw (.int i) (.int j):=by
   have y0:0<=y2%4:=CO _ (by decide);have y1:y2%4<4:=Int.emod_lt_of_pos _ (by decide);generalize y2%4=r at y0 y1;have:r=0\/r=1\/r=2\/r=3:=by lia
   rcases this with rfl|rfl|rfl|rfl
   .exact⟨t1,4,3,rfl,h1,fun⟨d',k',e1,e2,hn⟩=>by have:=V.int.inj e1;have:=V.int.inj e2;unfold aL_ at hn;lia⟩
   .exact⟨t2,4,6,rfl,h2,fun⟨d',k',e1,e2,hn⟩=>by have:=V.int.inj e1;have:=V.int.inj e2;unfold aL_ at hn;lia⟩
   .exact⟨t3,5,0,rfl,h3,fun⟨d',k',e1,e2,hn⟩=>by have:=V.int.inj e1;have:=V.int.inj e2;unfold aL_ at hn;lia⟩
   .exact⟨t4,5,3,rfl,h4,fun⟨d',k',e1,e2,hn⟩=>by have:=V.int.inj e1;have:=V.int.inj e2;unfold aL_ at hn;lia⟩
  obtain⟨t,i,j,hat,ht,nn3⟩:=key;have hij:Is H22 (tI [i,j]) (.ref t):=e2_ ht;refine⟨lw,_,_,_,rfl,rfl,SqL.of hw,hat, ?_⟩;refine⟨_,rfl,_,0,_,hij,rfl,rfl,fun u1 hu1=>⟨_,rfl,_,1,_,hij,rfl,rfl,fun u2 hu2=> ?_⟩⟩;rw [cn_ hu1,cn_ hu2];refine⟨0, .int i, .int j,rfl, .inl ⟨_,rfl⟩, .inl ⟨_,rfl⟩,fun _=>nn3,fun h=>absurd rfl h,fun H23 s23=>⟨true,rfl,j4_ ?_⟩⟩;refine⟨_,rfl,_,_,rfl,rfl,(show(0:Int)<3 by decide),_,_,rfl,rfl, ?_⟩;have m0:0<=x%3:=CO _ (by decide);exact⟨1, .int 5, .int (4+x%3),rfl, .inl ⟨_,rfl⟩, .inl ⟨_,rfl⟩,fun h=>absurd h (by decide),fun _ ⟨d',k',e1,e2,hn⟩=>by have:=V.int.inj e1;have:=V.int.inj e2;unfold Wide at hn;lia,fun H24 s24=>kk _⟩
end
theorem fb0 {K:W.Frag}{mg:Str->Option Value}{n:Str}{st:Stmt}{ps:List Str}{f:Addr}{d:FuncData} (F:Fun K n n st f d) (e:mg n=some (.ref f)) (hp:ps.length=0) (h:∀(kV dc pm:Value) (an:Option Addr) (cd ct:Value),bindArgs (W.fnOf n n (cm_ st) (a0_ st) (ag_ st) .none kV dc pm an cd ct) ⟨[],[]⟩=pure (ps.zip [])):Fb K mg n st ps f d:=by
 refine⟨F,F.binds fun kV dc pm an cd ct us hl=> ?_,e⟩;rw [hp] at hl;rcases us with _|⟨y,us⟩
 .exact h kV dc pm an cd ct
 .simp at hl
theorem fb1 {K:W.Frag}{mg:Str->Option Value}{n:Str}{st:Stmt}{ps:List Str}{f:Addr}{d:FuncData} (F:Fun K n n st f d) (e:mg n=some (.ref f)) (hp:ps.length=1) (h:∀(kV dc pm:Value) (an:Option Addr) (cd ct x0:Value),bindArgs (W.fnOf n n (cm_ st) (a0_ st) (ag_ st) .none kV dc pm an cd ct) ⟨[x0],[]⟩=pure (ps.zip [x0])):Fb K mg n st ps f d:=by
 refine⟨F,F.binds fun kV dc pm an cd ct us hl=> ?_,e⟩;rw [hp] at hl;rcases us with _|⟨x0,us⟩
 .simp at hl
 rcases us with _|⟨y,us⟩
 .exact h kV dc pm an cd ct x0
 .simp at hl
theorem fb2 {K:W.Frag}{mg:Str->Option Value}{n:Str}{st:Stmt}{ps:List Str}{f:Addr}{d:FuncData} (F:Fun K n n st f d) (e:mg n=some (.ref f)) (hp:ps.length=2) (h:∀(kV dc pm:Value) (an:Option Addr) (cd ct x0 x1:Value),bindArgs (W.fnOf n n (cm_ st) (a0_ st) (ag_ st) .none kV dc pm an cd ct) ⟨[x0,x1],[]⟩=pure (ps.zip [x0,x1])):Fb K mg n st ps f d:=by
 refine⟨F,F.binds fun kV dc pm an cd ct us hl=> ?_,e⟩;rw [hp] at hl;rcases us with _|⟨x0,us⟩
 .simp at hl
 rcases us with _|⟨x1,us⟩
 .simp at hl
 rcases us with _|⟨y,us⟩
 .exact h kV dc pm an cd ct x0 x1
 .simp at hl
theorem fb3 {K:W.Frag}{mg:Str->Option Value}{n:Str}{st:Stmt}{ps:List Str}{f:Addr}{d:FuncData} (F:Fun K n n st f d) (e:mg n=some (.ref f)) (hp:ps.length=3) (h:∀(kV dc pm:Value) (an:Option Addr) (cd ct x0 x1 x2:Value),bindArgs (W.fnOf n n (cm_ st) (a0_ st) (ag_ st) .none kV dc pm an cd ct) ⟨[x0,x1,x2],[]⟩=pure (ps.zip [x0,x1,x2])):Fb K mg n st ps f d:=by
 refine⟨F,F.binds fun kV dc pm an cd ct us hl=> ?_,e⟩;rw [hp] at hl;rcases us with _|⟨x0,us⟩
 .simp at hl
 rcases us with _|⟨x1,us⟩
 .simp at hl
 rcases us with _|⟨x2,us⟩
 .simp at hl
 rcases us with _|⟨y,us⟩
 .exact h kV dc pm an cd ct x0 x1 x2
 .simp at hl
theorem fb4 {K:W.Frag}{mg:Str->Option Value}{n:Str}{st:Stmt}{ps:List Str}{f:Addr}{d:FuncData} (F:Fun K n n st f d) (e:mg n=some (.ref f)) (hp:ps.length=4) (h:∀(kV dc pm:Value) (an:Option Addr) (cd ct x0 x1 x2 x3:Value),bindArgs (W.fnOf n n (cm_ st) (a0_ st) (ag_ st) .none kV dc pm an cd ct) ⟨[x0,x1,x2,x3],[]⟩=pure (ps.zip [x0,x1,x2,x3])):Fb K mg n st ps f d:=by
 refine⟨F,F.binds fun kV dc pm an cd ct us hl=> ?_,e⟩;rw [hp] at hl;rcases us with _|⟨x0,us⟩
 .simp at hl
 rcases us with _|⟨x1,us⟩
 .simp at hl
 rcases us with _|⟨x2,us⟩
 .simp at hl
 rcases us with _|⟨x3,us⟩
 .simp at hl
 rcases us with _|⟨y,us⟩
 .exact h kV dc pm an cd ct x0 x1 x2 x3
 .simp at hl
noncomputable def Hf (K:W.Frag) (n:Str) (st:Stmt) (f:Addr):Prop:=W.nsIn K mainGlobals n=some (some (.ref f))/\∃d,Fun K n n st f d
theorem ud_ {K:W.Frag}{n:Str}{st:Stmt}{f:Addr}{od an:Option Addr}{sl:Array (Option Value)}{oc kV dc pm cd ct:Value} (a:W.nsIn K mainGlobals n=some (some (.ref f))) (l:K.lookup f=some ⟨oc,od, .func (W.fnOf n n (cm_ st) (a0_ st) (ag_ st) .none kV dc pm an cd ct),sl⟩) (c:W.codeIn K cd n=true) (k:W.keepIn K (.ref f)=true):Hf K n st f:=⟨a,_,sI_ l c k⟩
theorem sY_ {l:W.OpenLaw}{w:World}{K:W.Frag}{h:Heap}{mg:Str->Option Value}{fa:Addr} (X:K.In h) (G:h.Ns mainGlobals mg) (hfa:mg "law"=some (.ref fa))
  {f0 f1 f2 f3 f4 f5 f6 f7 f8 f9 f10 f11 f12 f13 f14 f15 f16 f17 f18 f19 f20 f21 f22 f23 f24 f25 f26 f27 f28 f29 f30 f31 f32 f33 f34 f35 f36 f37 f38 f39 f40 f41 f42 f43 f44 f45:Addr}
  (h0:Hf K "is_whole" d4_ f0)
  (h1:Hf K "need_between" ch_ f1)
  (h2:Hf K "need_narrow" cC_ f2)
  (h3:Hf K "need_wide" dw_ f3)
  (h4:Hf K "need_degree" cD_ f4)
  (h5:Hf K "choose" f5_ f5)
  (h6:Hf K "without_last_noughts" aY_ f6)
  (h7:Hf K "sum_by_place" cg_ f7)
  (h8:Hf K "product_by_place" bq_ f8)
  (h9:Hf K "with_more" ds_ f9)
  (h10:Hf K "ends_at" eK_ f10)
  (h11:Hf K "sound" iv_ f11)
  (h12:Hf K "lost" lu_ f12)
  (h13:Hf K "lifts_from" cT_ f13)
  (h14:Hf K "leaving" eJ_ f14)
  (h15:Hf K "with_floor" bL_ f15)
  (h16:Hf K "drawings" c5_ f16)
  (h17:Hf K "need_sound" cS_ f17)
  (h18:Hf K "end_marks" dx_ f18)
  (h19:Hf K "put_between" cA_ f19)
  (h20:Hf K "how_many_orders" bD_ f20)
  (h21:Hf K "how_many" d6_ f21)
  (h22:Hf K "shade" iw_ f22)
  (h23:Hf K "added" iy_ f23)
  (h24:Hf K "mixed" ix_ f24)
  (h25:Hf K "stretch" dP_ f25)
  (h26:Hf K "points" f3_ f26)
  (h27:Hf K "is_point" d5_ f27)
  (h28:Hf K "corner" f4_ f28)
  (h29:Hf K "upper_edge" cc_ f29)
  (h30:Hf K "lower_edge" bM_ f30)
  (h31:Hf K "first_turn" cU_ f31)
  (h32:Hf K "steps" iu_ f32)
  (h33:Hf K "piece_worth" cB_ f33)
  (h34:Hf K "leaving_out" bW_ f34)
  (h35:Hf K "ways" jw_ f35)
  (h36:Hf K "of_number" dv_ f36)
  (h37:Hf K "stretched" du_ f37)
  (h38:Hf K "way_shade" dt_ f38)
  (h39:Hf K "shade_by_ways" b1_ f39)
  (h40:Hf K "shade_by_floors" bd_ f40)
  (h41:Hf K "_law_cell_at" cj_ f41)
  (h42:Hf K "_law_number" cE_ f42)
  (h43:Hf K "_law_pairs" cV_ f43)
  (h44:Hf K "_law_refused" ci_ f44)
  (h45:Hf K "law" he_ f45)
  (zz:∀n∈["isinstance","int","bool","range","list","max","enumerate","len","min","sum","sorted","tuple","set","abs","ValueError"],W.nsIn K mainGlobals n=some none)
  {K_LEFT:Tok} (mi_LEFT:W.nsIn K mainGlobals "LEFT"=some (some (.int (1) K_LEFT)))
  {K_RIGHT:Tok} (mi_RIGHT:W.nsIn K mainGlobals "RIGHT"=some (some (.int (-1) K_RIGHT)))
  {A_NARROW:Addr} (da_NARROW:W.nsIn K mainGlobals "NARROW"=some (some (.ref A_NARROW))) (dt_NARROW:fO_ K A_NARROW [(1,6),(2,6),(3,6),(4,2)]=true)
  {A_WIDE:Addr} (da_WIDE:W.nsIn K mainGlobals "WIDE"=some (some (.ref A_WIDE))) (dt_WIDE:fO_ K A_WIDE [(1,6),(2,6),(3,6),(4,6),(5,3)]=true)
  {C_NoBound:Addr} (ca_NoBound:W.nsIn K mainGlobals "NoBound"=some (some (.ref C_NoBound)))
  {C_NoDrawing:Addr} (ca_NoDrawing:W.nsIn K mainGlobals "NoDrawing"=some (some (.ref C_NoDrawing)))
  (cx_NoBound:W.excIn K C_NoBound bmV "ValueError.__new__"=true) (xc_NoBound:XC K C_NoBound)
  (cx_NoDrawing:W.excIn K C_NoDrawing bmV "ValueError.__new__"=true) (xc_NoDrawing:XC K C_NoDrawing)
  (ce_NoBound_NoBound:W.exmOne K (.ref C_NoBound) (.ref C_NoBound)=some true)
  (ck_NoBound_ValueError:W.kitOne K (.ref C_NoBound) (.type "ValueError")=some true)
  (ck_NoDrawing_ValueError:W.kitOne K (.ref C_NoDrawing) (.type "ValueError")=some true)
  :∃fd:FuncData,(∀(s:Shared) (v:Value),BindsTo s fd ⟨[v],[]⟩ [("_law_script",v)])/\∀base:Heap,K.In base->base.Ns mainGlobals mg->FnOk l.prog w K mg base CX0 48 fa fd ["_law_script"] (jq_ K):=by
 obtain⟨a0,d0,F0⟩:=h0;obtain⟨a1,d1,F1⟩:=h1;obtain⟨a2,d2,F2⟩:=h2;obtain⟨a3,d3,F3⟩:=h3;obtain⟨a4,d4,F4⟩:=h4;obtain⟨a5,d5,F5⟩:=h5;obtain⟨a6,d6,F6⟩:=h6;obtain⟨a7,d7,F7⟩:=h7;obtain⟨a8,d8,F8⟩:=h8;obtain⟨a9,d9,F9⟩:=h9;obtain⟨a10,d10,F10⟩:=h10;obtain⟨a11,d11,F11⟩:=h11;obtain⟨a12,d12,F12⟩:=h12;obtain⟨a13,d13,F13⟩:=h13;obtain⟨a14,d14,F14⟩:=h14;obtain⟨a15,d15,F15⟩:=h15;obtain⟨a16,d16,F16⟩:=h16;obtain⟨a17,d17,F17⟩:=h17;obtain⟨a18,d18,F18⟩:=h18;obtain⟨a19,d19,F19⟩:=h19;obtain⟨a20,d20,F20⟩:=h20;obtain⟨a21,d21,F21⟩:=h21;obtain⟨a22,d22,F22⟩:=h22;obtain⟨a23,d23,F23⟩:=h23;obtain⟨a24,d24,F24⟩:=h24;obtain⟨a25,d25,F25⟩:=h25;obtain⟨a26,d26,F26⟩:=h26;obtain⟨a27,d27,F27⟩:=h27;obtain⟨a28,d28,F28⟩:=h28;obtain⟨a29,d29,F29⟩:=h29;obtain⟨a30,d30,F30⟩:=h30;obtain⟨a31,d31,F31⟩:=h31;obtain⟨a32,d32,F32⟩:=h32;obtain⟨a33,d33,F33⟩:=h33;obtain⟨a34,d34,F34⟩:=h34;obtain⟨a35,d35,F35⟩:=h35;obtain⟨a36,d36,F36⟩:=h36;obtain⟨a37,d37,F37⟩:=h37;obtain⟨a38,d38,F38⟩:=h38;obtain⟨a39,d39,F39⟩:=h39;obtain⟨a40,d40,F40⟩:=h40;obtain⟨a41,d41,F41⟩:=h41;obtain⟨a42,d42,F42⟩:=h42;obtain⟨a43,d43,F43⟩:=h43;obtain⟨a44,d44,F44⟩:=h44;obtain⟨a45,d45,F45⟩:=h45;cases hfa.symm.trans (W.mg_of X G a45);have Wq:=F45;obtain⟨_,_,_,_,_,_,_,_,_,rfl,_⟩:=F45.ex;have g {n:Str}{v:Value} (e:W.nsIn K mainGlobals n=some (some v)):mg n=some v:=W.mg_of X G e;exact⟨_,fun s v=> .of_eq rfl,fun base _ _=>sg_ (⟨f0,_,f1,_,f2,_,f3,_,f4,_,f5,_,f6,_,f7,_,f8,_,f9,_,f10,_,f11,_,f12,_,f13,_,f14,_,f15,_,f16,_,f17,_,f18,_,f19,_,f20,_,f21,_,f22,_,f23,_,f24,_,f25,_,f26,_,f27,_,f28,_,f29,_,f30,_,f31,_,f32,_,f33,_,f34,_,f35,_,f36,_,f37,_,f38,_,f39,_,f40,_,f41,_,f42,_,f43,_,f44,_,fa,_,fb1 F0 (g a0) rfl fun _ _ _ _ _ _ _=>rfl,fb3 F1 (g a1) rfl fun _ _ _ _ _ _ _ _ _=>rfl,fb2 F2 (g a2) rfl fun _ _ _ _ _ _ _ _=>rfl,fb2 F3 (g a3) rfl fun _ _ _ _ _ _ _ _=>rfl,fb1 F4 (g a4) rfl fun _ _ _ _ _ _ _=>rfl,fb2 F5 (g a5) rfl fun _ _ _ _ _ _ _ _=>rfl,fb1 F6 (g a6) rfl fun _ _ _ _ _ _ _=>rfl,fb2 F7 (g a7) rfl fun _ _ _ _ _ _ _ _=>rfl,fb2 F8 (g a8) rfl fun _ _ _ _ _ _ _ _=>rfl,fb3 F9 (g a9) rfl fun _ _ _ _ _ _ _ _ _=>rfl,fb2 F10 (g a10) rfl fun _ _ _ _ _ _ _ _=>rfl,fb2 F11 (g a11) rfl fun _ _ _ _ _ _ _ _=>rfl,fb1 F12 (g a12) rfl fun _ _ _ _ _ _ _=>rfl,fb4 F13 (g a13) rfl fun _ _ _ _ _ _ _ _ _ _=>rfl,fb3 F14 (g a14) rfl fun _ _ _ _ _ _ _ _ _=>rfl,fb4 F15 (g a15) rfl fun _ _ _ _ _ _ _ _ _ _=>rfl,fb2 F16 (g a16) rfl fun _ _ _ _ _ _ _ _=>rfl,fb2 F17 (g a17) rfl fun _ _ _ _ _ _ _ _=>rfl,fb2 F18 (g a18) rfl fun _ _ _ _ _ _ _ _=>rfl,fb4 F19 (g a19) rfl fun _ _ _ _ _ _ _ _ _ _=>rfl,fb2 F20 (g a20) rfl fun _ _ _ _ _ _ _ _=>rfl,fb2 F21 (g a21) rfl fun _ _ _ _ _ _ _ _=>rfl,fb2 F22 (g a22) rfl fun _ _ _ _ _ _ _ _=>rfl,fb2 F23 (g a23) rfl fun _ _ _ _ _ _ _ _=>rfl,fb2 F24 (g a24) rfl fun _ _ _ _ _ _ _ _=>rfl,fb1 F25 (g a25) rfl fun _ _ _ _ _ _ _=>rfl,fb1 F26 (g a26) rfl fun _ _ _ _ _ _ _=>rfl,fb2 F27 (g a27) rfl fun _ _ _ _ _ _ _ _=>rfl,fb3 F28 (g a28) rfl fun _ _ _ _ _ _ _ _ _=>rfl,fb1 F29 (g a29) rfl fun _ _ _ _ _ _ _=>rfl,fb1 F30 (g a30) rfl fun _ _ _ _ _ _ _=>rfl,fb2 F31 (g a31) rfl fun _ _ _ _ _ _ _ _=>rfl,fb3 F32 (g a32) rfl fun _ _ _ _ _ _ _ _ _=>rfl,fb1 F33 (g a33) rfl fun _ _ _ _ _ _ _=>rfl,fb2 F34 (g a34) rfl fun _ _ _ _ _ _ _ _=>rfl,fb2 F35 (g a35) rfl fun _ _ _ _ _ _ _ _=>rfl,fb1 F36 (g a36) rfl fun _ _ _ _ _ _ _=>rfl,fb1 F37 (g a37) rfl fun _ _ _ _ _ _ _=>rfl,fb4 F38 (g a38) rfl fun _ _ _ _ _ _ _ _ _ _=>rfl,fb2 F39 (g a39) rfl fun _ _ _ _ _ _ _ _=>rfl,fb2 F40 (g a40) rfl fun _ _ _ _ _ _ _ _=>rfl,fb2 F41 (g a41) rfl fun _ _ _ _ _ _ _ _=>rfl,fb2 F42 (g a42) rfl fun _ _ _ _ _ _ _ _=>rfl,fb0 F43 (g a43) rfl fun _ _ _ _ _ _=>rfl,fb3 F44 (g a44) rfl fun _ _ _ _ _ _ _ _ _=>rfl,fb1 Wq (g a45) rfl fun _ _ _ _ _ _ _=>rfl,Au X G (zz _ (by decide)),Au X G (zz _ (by decide)),Au X G (zz _ (by decide)),Au X G (zz _ (by decide)),Au X G (zz _ (by decide)),Au X G (zz _ (by decide)),Au X G (zz _ (by decide)),Au X G (zz _ (by decide)),Au X G (zz _ (by decide)),Au X G (zz _ (by decide)),Au X G (zz _ (by decide)),Au X G (zz _ (by decide)),Au X G (zz _ (by decide)),Au X G (zz _ (by decide)),Au X G (zz _ (by decide)),K_LEFT,g mi_LEFT,K_RIGHT,g mi_RIGHT,A_NARROW,g da_NARROW,dt_NARROW,A_WIDE,g da_WIDE,dt_WIDE,C_NoBound,g ca_NoBound,C_NoDrawing,g ca_NoDrawing,cx_NoBound,xc_NoBound,cx_NoDrawing,xc_NoDrawing,ce_NoBound_NoBound,ck_NoBound_ValueError,ck_NoDrawing_ValueError⟩:Fns K mg)⟩
theorem walk {l:W.OpenLaw}{q:Program}{loose:List Str}{XP:(Str->Option Value)->Heap->Prop}{YP:World->Heap->Prop}{d:DefRec}{K:Params->W.Frag} (hn:l.most=some 63) (hdf:d.params.defaults=[])
  (hY:∀(w:World) (h:Heap),YP w h->(K w.params).In h)
  (F:∀(w:World) (mg:Str->Option Value) (fa:Addr) (h:Heap),(K w.params).In h->h.Ns mainGlobals mg->mg d.name=some (.ref fa)->
   ∃fd:FuncData,(∀(s:Shared) (u:Value),BindsTo s fd ⟨[u],[]⟩ [("_law_script",u)])/\∀base:Heap,(K w.params).In base->base.Ns mainGlobals mg->FnOk l.prog w (K w.params) mg base CX0 48 fa fd ["_law_script"] (jq_ (K w.params))):
  W.WalkO q loose XP YP l.row.toRowW d [] (fun f vs=>PySem.call f vs):=
 L2.pE_ (n:=63) (k:=48) (x:="_law_script") (CX:=fun _=>CX0) (sp:=fun w=>jq_ (K w.params)) hn (by decide) hdf ⟨rfl,by decide,by decide⟩ hY F (fun _ _ a ns hl _ hS=>⟨a,ns,rfl,hS,hl,fun _=>rfl⟩) fun _ _ _ _ _ z=>z
end Mine
open PySem PySem.W PyProof.Rows
namespace PySem.W.Fast
theorem tw97017804147957237:0=0:=rfl
theorem tw10523688926395521431:0=0:=rfl
theorem tw12140270304368574266:0=0:=rfl
theorem tw2663367141470662062:0=0:=rfl
theorem tw7780466385302332738:0=0:=rfl
theorem tw15729742413179338439:0=0:=rfl
theorem tw6151128690960791351:0=0:=rfl
theorem tw34645238105922053:0=0:=rfl
theorem tw16030255346244863453:0=0:=rfl
theorem tw8456066824183685830:0=0:=rfl
theorem tw3473452948504851430:0=0:=rfl
theorem tw6437039960668623318:0=0:=rfl
theorem tw6026343760754566309:0=0:=rfl
theorem tw1473722967732107891:0=0:=rfl
theorem tw928422846488112737:0=0:=rfl
theorem tw15683170526392255983:0=0:=rfl
theorem tw14195400590841598018:0=0:=rfl
theorem tw12092491812770114382:0=0:=rfl
theorem tw4575603711952706306:0=0:=rfl
theorem tw17581114206842086291:0=0:=rfl
theorem tw7526687690652218217:0=0:=rfl
theorem tw15619638736162776979:0=0:=rfl
theorem tw5638433394996406594:0=0:=rfl
theorem tw15049686092720813344:0=0:=rfl
theorem tw2530548815927370893:0=0:=rfl
theorem tw16300836833035620079:0=0:=rfl
theorem tw17530419426735516599:0=0:=rfl
theorem tw15269041605839532607:0=0:=rfl
theorem tw976328055916286396:0=0:=rfl
theorem tw9426388331518024678:0=0:=rfl
theorem tw4959352107875272775:0=0:=rfl
theorem tw9221333003356871403:0=0:=rfl
theorem tw17383715962482960703:0=0:=rfl
theorem tw8359600937285946730:0=0:=rfl
theorem tw17567949520915932291:0=0:=rfl
theorem tw15403679424570701145:0=0:=rfl
theorem tw14721595892039486710:0=0:=rfl
theorem tw219407073162800446:0=0:=rfl
theorem tw8806334072675409792:0=0:=rfl
theorem tw13099944913463499721:0=0:=rfl
theorem tw10510896298630871037:0=0:=rfl
theorem tw15556352818436432353:0=0:=rfl
theorem tw13723023491807735309:0=0:=rfl
theorem tw14177793911805392096:0=0:=rfl
theorem tw3232571160760048514:0=0:=rfl
theorem tw15678359314674785148:0=0:=rfl
theorem tw13160255274987986342:0=0:=rfl
theorem tw6521957418208907779:0=0:=rfl
theorem tw2832440443908349787:0=0:=rfl
theorem tw18225651201696266146:0=0:=rfl
theorem tw1455614135394247986:0=0:=rfl
theorem tw6290971443673990694:0=0:=rfl
theorem tw3765692647897750407:0=0:=rfl
theorem tw3323136511173499307:0=0:=rfl
theorem tw4930422465006670107:0=0:=rfl
theorem tw4056346535177254008:0=0:=rfl
theorem tw2864319366907006620:0=0:=rfl
theorem tw4734346200082583919:0=0:=rfl
theorem tw5737707462775184188:0=0:=rfl
theorem tw14620117693616599031:0=0:=rfl
theorem tw10192078616173210191:0=0:=rfl
theorem tw9504117748395839466:0=0:=rfl
theorem tw13987431806935235280:0=0:=rfl
theorem tw12910285914397070247:0=0:=rfl
theorem tw13933474415658136704:0=0:=rfl
theorem tw6937796659949174982:0=0:=rfl
theorem tw6685366760157814930:0=0:=rfl
theorem tw12922273726300415236:0=0:=rfl
theorem tw7265850161297228397:0=0:=rfl
theorem tw6491938587753809847:0=0:=rfl
theorem tw2403707006111622974:0=0:=rfl
theorem tw17054051775329214489:0=0:=rfl
theorem tw10099567113836984512:0=0:=rfl
theorem tw8226866916108656793:0=0:=rfl
theorem tw4295980267743809294:0=0:=rfl
theorem tw9352679287494059342:0=0:=rfl
theorem tw7710730448049265435:0=0:=rfl
theorem tw5732868127845572359:0=0:=rfl
theorem tw4221747841731815742:0=0:=rfl
theorem tw17472855551692615393:0=0:=rfl
theorem tw858940807988154182:0=0:=rfl
theorem tw6005426598867948269:0=0:=rfl
theorem tw7434853704103571256:0=0:=rfl
theorem tw17314678738743032794:0=0:=rfl
theorem tw1369435064506384161:0=0:=rfl
theorem tw6043043699848994464:0=0:=rfl
theorem tw16825492731328272513:0=0:=rfl
theorem tw7077066198362624612:0=0:=rfl
theorem tw1388775565896196441:0=0:=rfl
theorem tw14868790324089495361:0=0:=rfl
theorem tw7656645887943436834:0=0:=rfl
theorem tw4507825288472205776:0=0:=rfl
theorem tw7922871549528808744:0=0:=rfl
theorem tw7692474020986197420:0=0:=rfl
theorem tw10090126663758113644:0=0:=rfl
theorem tw17642378630206417890:0=0:=rfl
theorem tw11629102076342246988:0=0:=rfl
theorem tw13012151634071704745:0=0:=rfl
theorem tw1792636898523017738:0=0:=rfl
theorem tw12086313169174180487:0=0:=rfl
theorem tw8135007333347016801:0=0:=rfl
theorem tw17787000501634214486:0=0:=rfl
theorem tw7996570253413263213:0=0:=rfl
theorem tw15255422750130386995:0=0:=rfl
theorem tw13616058605946506289:0=0:=rfl
theorem tw2296476583022950441:0=0:=rfl
theorem tw8312771002269019760:0=0:=rfl
theorem tw5578887528838516386:0=0:=rfl
theorem tw11699229495477894216:0=0:=rfl
theorem tw520529995679180091:0=0:=rfl
theorem tw2990055049263418497:0=0:=rfl
theorem tw871595736693895106:0=0:=rfl
theorem tw655461282920719738:0=0:=rfl
theorem tw4858461625480323107:0=0:=rfl
theorem tw14460474348243125612:0=0:=rfl
theorem tw3153025964558016685:0=0:=rfl
theorem tw5065813901308602850:0=0:=rfl
theorem tw6772166121436257363:0=0:=rfl
theorem tw7395637287658880698:0=0:=rfl
theorem tw815457312045975447:0=0:=rfl
theorem tw18344503928529447033:0=0:=rfl
theorem tw2211954381231413579:0=0:=rfl
theorem tw9031547503843148467:0=0:=rfl
theorem tw18383551771563677108:0=0:=rfl
theorem tw5395782590854751112:0=0:=rfl
theorem tw3661650809421475564:0=0:=rfl
theorem tw12895991838646891476:0=0:=rfl
theorem tw18173404654808793229:0=0:=rfl
theorem tw11752053916834671846:0=0:=rfl
theorem tw11163958430480395478:0=0:=rfl
theorem tw4913143268808564920:0=0:=rfl
theorem tw12194744007995451876:0=0:=rfl
theorem tw6730960441005409607:0=0:=rfl
theorem tw14648743623408991880:0=0:=rfl
theorem tw15143763727999522873:0=0:=rfl
theorem tw5099072092271443733:0=0:=rfl
theorem tw3244726264660391913:0=0:=rfl
theorem tw14783755182187949906:0=0:=rfl
theorem tw2663497151279537881:0=0:=rfl
theorem tw16419315594491389725:0=0:=rfl
theorem tw14591191611524613004:0=0:=rfl
theorem tw10818071582410993293:0=0:=rfl
theorem tw9557090313872134980:0=0:=rfl
theorem tw1127520699737377960:0=0:=rfl
theorem tw17647030200042052004:0=0:=rfl
theorem tw9898215339228400766:0=0:=rfl
theorem tw4302691288216870672:0=0:=rfl
theorem tw16182023445921056478:0=0:=rfl
theorem tw15175086399963348447:0=0:=rfl
theorem tw4040284658861037592:0=0:=rfl
theorem tw1460840049752721326:0=0:=rfl
theorem tw6399405831264576661:0=0:=rfl
theorem tw11852661687343969951:0=0:=rfl
theorem tw13075089014777011905:0=0:=rfl
theorem tw5953410840463571208:0=0:=rfl
theorem tw12757915270243824205:0=0:=rfl
theorem tw3611175237190043583:0=0:=rfl
theorem tw12903442439671674241:0=0:=rfl
theorem tw14961188946015150662:0=0:=rfl
theorem tw17048569238983557928:0=0:=rfl
theorem tw12348277669422628769:0=0:=rfl
theorem tw7209066786214904503:0=0:=rfl
theorem tw13530090363762577658:0=0:=rfl
theorem tw9088857097570686232:0=0:=rfl
theorem tw13286446606591820275:0=0:=rfl
theorem tw441038615255091667:0=0:=rfl
theorem tw4894303959280291354:0=0:=rfl
theorem tw7593455659851865711:0=0:=rfl
theorem tw8319747322019740847:0=0:=rfl
theorem tw3512654886602713460:0=0:=rfl
theorem tw5807098517740554431:0=0:=rfl
theorem tw1220574425415835305:0=0:=rfl
theorem tw18394235065719495588:0=0:=rfl
theorem tw15399542664785663859:0=0:=rfl
theorem tw14242826279203910961:0=0:=rfl
theorem tw14649987038804031839:0=0:=rfl
theorem tw4762698078154630611:0=0:=rfl
theorem tw8321741622400198715:0=0:=rfl
theorem tw9647407272218126423:0=0:=rfl
theorem tw13209731380642589971:0=0:=rfl
theorem tw5421999249501108977:0=0:=rfl
theorem tw8079381797595138398:0=0:=rfl
theorem tw13329036091914976333:0=0:=rfl
theorem tw17256537083748158279:0=0:=rfl
theorem tw12279970442860129806:0=0:=rfl
theorem tw10273076240185757073:0=0:=rfl
theorem tw1353327239610351926:0=0:=rfl
theorem tw15308290120329032739:0=0:=rfl
theorem tw13759759590023322513:0=0:=rfl
theorem tw9372056001402612999:0=0:=rfl
theorem tw4945205264887855325:0=0:=rfl
theorem tw3544389277152099817:0=0:=rfl
theorem tw11502134713022611187:0=0:=rfl
theorem tw11237693400874018968:0=0:=rfl
theorem tw7246089764562297013:0=0:=rfl
theorem tw17041633688666717829:0=0:=rfl
theorem tw15258838855104825217:0=0:=rfl
theorem tw3846229938801320216:0=0:=rfl
theorem tw3832948925206555399:0=0:=rfl
theorem tw11831155339268073013:0=0:=rfl
theorem tw3546487670477982097:0=0:=rfl
theorem tw14677677242647322668:0=0:=rfl
theorem tw5429600904088189127:0=0:=rfl
theorem tw3595431520928670445:0=0:=rfl
theorem tw14528188881164807546:0=0:=rfl
theorem tw10525419285571921952:0=0:=rfl
theorem tw15763923596459572066:0=0:=rfl
theorem tw10058997352876132688:0=0:=rfl
theorem tw14525618438895833544:0=0:=rfl
theorem tw9291222536684446576:0=0:=rfl
theorem tw9023798209229253287:0=0:=rfl
theorem tw16850642167887910637:0=0:=rfl
theorem tw12877571594620764641:0=0:=rfl
theorem tw3414784055294747925:0=0:=rfl
theorem tw7703445600845838841:0=0:=rfl
theorem tw9459138847515916548:0=0:=rfl
theorem tw10630899283512266243:0=0:=rfl
theorem tw7951404874439314686:0=0:=rfl
theorem tw2883691973305169414:0=0:=rfl
theorem tw16547874833830184576:0=0:=rfl
theorem tw12668943048444046791:0=0:=rfl
theorem tw9690149958266733772:0=0:=rfl
theorem tw8650896246442583898:0=0:=rfl
theorem tw3714843013233862637:0=0:=rfl
theorem tw16825743989825102204:0=0:=rfl
theorem tw2362044743762971025:0=0:=rfl
theorem tw8362539400607782442:0=0:=rfl
theorem tw12249150577081524743:0=0:=rfl
theorem tw1295978146105640781:0=0:=rfl
theorem tw6856134648003448072:0=0:=rfl
theorem tw17203704253559235756:0=0:=rfl
theorem tw3026525021189625991:0=0:=rfl
theorem tw12680446507435015152:0=0:=rfl
theorem tw7023417313178544479:0=0:=rfl
theorem tw16578735534656770156:0=0:=rfl
theorem tw641317138099262217:0=0:=rfl
theorem tw17764647337995987745:0=0:=rfl
theorem tw13068822141479077320:0=0:=rfl
theorem tw13052125854521333063:0=0:=rfl
theorem tw7562159532666309006:0=0:=rfl
theorem tw15631678262000057300:0=0:=rfl
theorem tw7739580451907127650:0=0:=rfl
theorem tw12828195727358934365:0=0:=rfl
theorem tw18147682798127935390:0=0:=rfl
theorem tw16709698521520972909:0=0:=rfl
theorem tw423832378656506823:0=0:=rfl
theorem tw11839403093549383647:0=0:=rfl
theorem tw6087302165730894794:0=0:=rfl
theorem tw13937552797540094086:0=0:=rfl
theorem tw10135868322446881267:0=0:=rfl
theorem tw10825587987974047800:0=0:=rfl
theorem tw7725479173530858143:0=0:=rfl
theorem tw1939785320459542019:0=0:=rfl
theorem tw4289550715215087911:0=0:=rfl
theorem tw7879253053263530936:0=0:=rfl
theorem tw10467428283322919600:0=0:=rfl
theorem tw7377967003360530480:0=0:=rfl
theorem tw1667114609537957362:0=0:=rfl
theorem tw1063131949421842831:0=0:=rfl
theorem tw8114043242959315573:0=0:=rfl
theorem tw14703934663326373843:0=0:=rfl
theorem tw560176646960772122:0=0:=rfl
theorem tw15298921292102320352:0=0:=rfl
theorem tw17685235272868240631:0=0:=rfl
theorem tw7893013631614506388:0=0:=rfl
theorem tw9897787194181766400:0=0:=rfl
theorem tw7852134184197697720:0=0:=rfl
theorem tw14194421990500584956:0=0:=rfl
theorem tw768370074990124664:0=0:=rfl
theorem tw8632862618401815809:0=0:=rfl
theorem tw13868643363931908771:0=0:=rfl
theorem tw3453911210025923820:0=0:=rfl
theorem tw5569802833057748826:0=0:=rfl
theorem tw11388873492714753283:0=0:=rfl
theorem tw10519635326255689928:0=0:=rfl
theorem tw3176044248901622061:0=0:=rfl
theorem tw3399984947467934875:0=0:=rfl
theorem tw16095841909905403211:0=0:=rfl
theorem tw4859944067208550995:0=0:=rfl
theorem tw4947304349931515977:0=0:=rfl
theorem tw14050809174216326576:0=0:=rfl
theorem tw3183651428441642889:0=0:=rfl
theorem tw10063927211977407853:0=0:=rfl
theorem tw15650794699939576719:0=0:=rfl
theorem tw5473733571499113180:0=0:=rfl
theorem tw4787835682634956404:0=0:=rfl
theorem tw14573333258337504146:0=0:=rfl
theorem tw4658036175372237015:0=0:=rfl
theorem tw3863312893988894696:0=0:=rfl
theorem tw4948039562864872660:0=0:=rfl
theorem tw9777439317369245953:0=0:=rfl
theorem tw6954668410621903064:0=0:=rfl
theorem tw8584363545490085718:0=0:=rfl
theorem tw3379827880097417753:0=0:=rfl
theorem tw7126177779878470270:0=0:=rfl
theorem tw14523798991029051312:0=0:=rfl
theorem tw18382424985642660388:0=0:=rfl
theorem tw6405876667243862155:0=0:=rfl
theorem tw5610472150391907852:0=0:=rfl
theorem tw12551387645274091259:0=0:=rfl
theorem tw4282477690260174976:0=0:=rfl
theorem tw14607444452268977678:0=0:=rfl
theorem tw1636475004914704507:0=0:=rfl
theorem tw17031407239697793972:0=0:=rfl
theorem tw13751035810431142020:0=0:=rfl
theorem tw10085691190658125250:0=0:=rfl
theorem tw7980868946476961945:0=0:=rfl
theorem tw15523084037996177790:0=0:=rfl
theorem tw9971532961609749402:0=0:=rfl
theorem tw7222864973156000027:0=0:=rfl
theorem tw5337657967246829117:0=0:=rfl
theorem tw1483863455508323704:0=0:=rfl
theorem tw17988991976777689681:0=0:=rfl
theorem tw6899413643861390812:0=0:=rfl
theorem tw4100245674630754225:0=0:=rfl
theorem tw7175898283487047901:0=0:=rfl
theorem tw5898165737942510701:0=0:=rfl
theorem tw14208110423398577717:0=0:=rfl
theorem tw5355872457213374332:0=0:=rfl
theorem tw17190501504609832500:0=0:=rfl
theorem tw18234547995051421698:0=0:=rfl
theorem tw15319140829998539115:0=0:=rfl
theorem tw1981628305192827698:0=0:=rfl
theorem tw3384766426661638445:0=0:=rfl
theorem tw13418376801240660900:0=0:=rfl
theorem tw12092798469215699034:0=0:=rfl
theorem tw12301862869176865319:0=0:=rfl
theorem tw9858428183982713272:0=0:=rfl
theorem tw14610686829168131321:0=0:=rfl
theorem tw6858864688539849546:0=0:=rfl
end PySem.W.Fast
set_option maxRecDepth 100000 in
set_option maxHeartbeats 0 in
theorem PySem.Challenge.cw_floorcurves_k71_ways_and_floors_shaded_holds : PySem.Challenge.rw_floorcurves_k71_ways_and_floors_shaded.Holds := by
 w_on; o_law; k_head; (case hw => w_witness2)
 k_fill
 refine Mine.walk (l := PySem.Challenge.rw_floorcurves_k71_ways_and_floors_shaded) rfl rfl (fun w h Y => PySem.W.kIn_of Y) ?F
 case F =>
  intro w mg fa h KX G hmg
  refine' Mine.sY_ KX G hmg ?h0 ?h1 ?h2 ?h3 ?h4 ?h5 ?h6 ?h7 ?h8 ?h9 ?h10 ?h11 ?h12 ?h13 ?h14 ?h15 ?h16 ?h17 ?h18 ?h19 ?h20 ?h21 ?h22 ?h23 ?h24 ?h25 ?h26 ?h27 ?h28 ?h29 ?h30 ?h31 ?h32 ?h33 ?h34 ?h35 ?h36 ?h37 ?h38 ?h39 ?h40 ?h41 ?h42 ?h43 ?h44 ?h45 ?zz ?mi_LEFT ?mi_RIGHT ?da_NARROW ?dt_NARROW ?da_WIDE ?dt_WIDE ?ca_NoBound ?ca_NoDrawing ?cx_NoBound ?xc_NoBound ?cx_NoDrawing ?xc_NoDrawing ?ce_NoBound_NoBound ?ck_NoBound_ValueError ?ck_NoDrawing_ValueError
  (case h0 | h1 | h2 | h3 | h4 | h5 | h6 | h7 | h8 | h9 | h10 | h11 | h12 | h13 | h14 | h15 | h16 | h17 | h18 | h19 | h20 | h21 | h22 | h23 | h24 | h25 | h26 | h27 | h28 | h29 | h30 | h31 | h32 | h33 | h34 | h35 | h36 | h37 | h38 | h39 | h40 | h41 | h42 | h43 | h44 | h45 => refine' Mine.ud_ ?a ?l ?c ?k; (case a => k_is); (case l => k_is); (case c => k_is); (case k => k_is))
  (case zz => intro n hn; simp only [List.mem_cons, List.not_mem_nil, or_false] at hn; rcases hn with rfl | rfl | rfl | rfl | rfl | rfl | rfl | rfl | rfl | rfl | rfl | rfl | rfl | rfl | rfl <;> k_is)
  (case mi_LEFT | mi_RIGHT | da_NARROW | da_WIDE => k_is)
  (case dt_NARROW | dt_WIDE => first | k_is | kit_is | kts_exm | kernel_rfl)
  (case ca_NoBound | ca_NoDrawing | cx_NoBound | cx_NoDrawing => first | k_is | kit_is | kts_exm | kernel_rfl)
  (case xc_NoBound | xc_NoDrawing => constructor <;> first | k_is | kit_is | kts_exm | kernel_rfl)
  (case ce_NoBound_NoBound | ck_NoBound_ValueError | ck_NoDrawing_ValueError => first | k_is | kit_is | kts_exm | kernel_rfl)
#print axioms PySem.Challenge.cw_floorcurves_k71_ways_and_floors_shaded_holds

import PyProof.Rows.All
import Wide.All
import OpenK.AllK
import Wide.FinOn
import PySem.Challenge.RW_floorcurves_k53_reckoned_wholes
import Lean
import PyProof.EqAt
import PyProof.EqKinds
import PyProof.TupleCall
local macro_rules | `(tactic| lia) => `(tactic| first | lia -verbose | omega)
local macro_rules | `(tactic| ac_nf) => `(tactic| decide +kernel)
local macro_rules | `(tactic| trivial) => `(tactic| first | exact Or.inl rfl | exact Or.inr rfl)
abbrev A0:=@PySem.wpAny_bind
abbrev A1:=@List.length_map
abbrev A2:=@PySem.wpAny_pure
abbrev A3:=@if_neg
abbrev A4:=@List.getElem?_eq_getElem
abbrev A5:=@Option.map_eq_some_iff
abbrev A6:=@if_pos
abbrev A7:=@PySem.Heap.get?_push_of_some
abbrev A8:=@List.getElem?_map
abbrev A9:=@Nat.le_refl
abbrev AA:=@List.getD_eq_getElem?_getD
abbrev AB:=@Option.bind_eq_some_iff
abbrev AC:=@List.map_append
abbrev AD:=@List.getElem?_eq_some_iff
abbrev AE:=@List.size_toArray
abbrev AF:=@List.length_append
abbrev AG:=@Bool.false_eq_true
abbrev AH:=@PySem.Heap.get?_push_size
abbrev AI:=@List.map_cons
abbrev AJ:=@PySem.Heap.lt_size
abbrev AK:=@List.mem_cons
abbrev AL:=@Nat.ne_of_lt
abbrev AM:=@Bool.and_eq_true
abbrev AN:=@PySem.PassesOwn.never
abbrev AO:=@Nat.zero_le
abbrev AQ:=@PyProof.Rows.wpS_bind
abbrev AR:=@List.mem_of_getElem?
abbrev AS:=@List.mem_cons_of_mem
abbrev AT:=@Bool.false_ne_true
abbrev AU:=@List.take_length
abbrev AV:=@List.take_add_one
abbrev AW:=@List.mem_range
abbrev AX:=@List.mem_cons_self
abbrev AY:=@List.length_cons
abbrev AZ:=@List.all_eq_true
abbrev Aa:=@PyProof.Rows.wpS_pure
abbrev Ab:=@List.mem_map
abbrev Ac:=@Nat.lt_succ_of_lt
abbrev Ad:=@Option.some.inj
abbrev Ae:=@List.map_congr_left
abbrev Af:=@Nat.lt_of_lt_of_le
abbrev Ag:=@PySem.wpAny_call_entry
abbrev Ah:=@List.mem_singleton
abbrev Ai:=@decide_eq_false
abbrev Aj:=@List.sum_cons
abbrev Ak:=@Array.getElem?_eq_getElem
abbrev Al:=@Nat.le_of_lt
abbrev Am:=@if_false
abbrev An:=@Int.toNat_natCast
abbrev Ao:=@Array.length_toList
abbrev Ap:=@PySem.F.plainAttrs_list
abbrev Aq:=@PySem.wpAny_newObj_type
abbrev Ar:=@List.mem_append_right
abbrev As:=@of_decide_eq_true
abbrev At:=@List.not_mem_nil
abbrev Au:=@PySem.wpAny_holding
abbrev Av:=@List.range_succ
abbrev Aw:=@PySem.Heap.size_push
abbrev Ax:=@PySem.wpAny_callSpecial?_slot
abbrev Ay:=@PySem.W.mg_none_of
abbrev Az:=@List.length_take
abbrev B0:=@PySem.sizeLine_eq
abbrev B1:=@Option.some.injEq
abbrev B2:=@Nat.le_trans
abbrev B3:=@PySem.Heap.size_update
abbrev B4:=@PySem.Heap.get?_push_ne
abbrev B5:=@PyProof.Rows.callWith_type1
abbrev B6:=@PySem.Heap.SameBut.update
abbrev B7:=@Int.eq_ofNat_of_zero_le
abbrev B8:=@List.append_nil
abbrev B9:=@decide_eq_true
abbrev B':=@List.length_range
abbrev BA:=@Bool.not_true
abbrev BB:=@List.nodup_cons
abbrev BC:=@List.mem_flatMap
abbrev BD:=@List.replicate_succ
abbrev BE:=@List.flatMap_append
abbrev BF:=@List.length_replicate
abbrev BG:=@List.append_assoc
abbrev BH:=@PyProof.Rows.slot_tuple_getitem
abbrev BI:=@PySem.wpAny_setState_of
abbrev BJ:=@Prod.mk.injEq
abbrev BK:=@List.mem_append
abbrev BL:=@List.find?_cons
abbrev BM:=@Ne.symm
abbrev BN:=@Nat.lt_succ_self
abbrev BO:=@List.map_map
abbrev BP:=@PySem.wpAny_mono
abbrev BQ:=@PySem.wpAny_Call_Name_kw
abbrev BR:=@PySem.F.slot_dict_valueiterator_next
abbrev BS:=@List.flatMap_cons
abbrev BU:=@List.length_singleton
abbrev BV:=@PySem.F.type_list_append
abbrev BW:=@PySem.F.slot_list_append
abbrev BX:=@PySem.W.kia_one
abbrev BY:=@Nat.ne_of_gt
abbrev BZ:=@PySem.wpAny_field
abbrev Ba:=@PySem.F.slot_dict_keyiterator_next
abbrev Bb:=@decide_eq_true_eq
abbrev Bc:=@congrArg
abbrev Bd:=@Nat.lt_or_ge
abbrev Be:=@Array.getElem?_eq_none
abbrev Bf:=@List.take_succ_cons
abbrev Bg:=@List.sum_append
abbrev Bh:=@PySem.Paired.length
abbrev Bi:=@List.drop_eq_getElem_cons
abbrev Bj:=@PySem.wpAny_seqItems
abbrev Bk:=@List.filter_append
abbrev Bl:=@PySem.Obj.data_mapFields
abbrev Bm:=@List.length_set
abbrev Bn:=@or_false
abbrev Bo:=@PySem.mem_of_lookup
abbrev Bp:=@PySem.Around.under_plainId
abbrev Bq:=@PySem.wpAny_truthy_bool
abbrev Br:=@PyProof.Rows.size_push'
abbrev Bs:=@Nat.lt_irrefl
abbrev Bt:=@PySem.codeAny_builtin
abbrev Bu:=@PySem.Value.ref.injEq
abbrev Bv:=@Int.mul_nonneg
abbrev Bw:=@Array.getElem?_eq_some_iff
abbrev Bx:=@List.length_filter_le
abbrev By:=@Array.getElem?_toList
abbrev Bz:=@PySem.wpAny_attempt
abbrev C0:=@PySem.wpAny_isInstance
abbrev C1:=@PySem.wpAny_forIn_list
abbrev C2:=@Classical.byContradiction
abbrev C3:=@PySem.wpAny_setField
abbrev C4:=@if_true
abbrev C5:=@List.mem_iff_getElem
abbrev C6:=@List.foldl_append
abbrev C7:=@PySem.Heap.get?_update_self
abbrev C8:=@PySem.F.type_list_extend
abbrev C9:=@PySem.F.slot_list_extend
abbrev CA:=@beq_eq_false_iff_ne
abbrev CB:=@List.lookup_cons
abbrev CC:=@List.length_eq_zero_iff
abbrev CD:=@List.filter_cons
abbrev CF:=@PySem.wpAny_rule
abbrev CG:=@List.pairwise_cons
abbrev CH:=@PyProof.Rows.boot_isinstance
abbrev CI:=@List.foldl_cons
abbrev CJ:=@PySem.wpAny_typeNameOfWhole_valiter
abbrev CK:=@PySem.wpAny_typeNameOfWhole_keyiter
abbrev CL:=@PySem.Calls.spliced_cons
abbrev CM:=@PySem.wpAny_specialOf
abbrev CN:=@PySem.wpAny_loadPart'
abbrev CO:=@Nat.pow_le_pow_right
abbrev CP:=@List.getElem?_set_ne
abbrev CQ:=@List.getElem?_append_right
abbrev CS:=@Int.mul_le_mul
abbrev CT:=@Nat.succ_mul
abbrev CU:=@PySem.wpAny_dictEntries
abbrev CV:=@List.pairwise_iff_getElem
abbrev CW:=@PySem.F.slot_tuple_iterator_next
abbrev CY:=@PyProof.Rows.get?_update_seq
abbrev CZ:=@List.forIn_cons
abbrev Ca:=@Bool.or_eq_true
abbrev Cb:=@PyProof.Rows.listUpdate_at
abbrev Cc:=@List.map_replicate
abbrev Cd:=@PySem.F.called_set
abbrev Ce:=@Array.forIn_toList
abbrev Cf:=@Nat.le_succ
abbrev Cg:=@Int.le_refl
abbrev Ch:=@PySem.wpAny_typeNameOf_valiter
abbrev Ci:=@PySem.wpAny_typeNameOf_keyiter
abbrev Cj:=@bne_self_eq_false
abbrev Ck:=@List.flatten_cons
abbrev Cm:=@Bool.not_false
abbrev Cn:=@PySem.wpAny_dictEpoch
abbrev Co:=@PySem.wpAny_setField_rec
abbrev Cp:=@PySem.wpAny_pyIter_tuple
abbrev Cq:=@beq_iff_eq
abbrev Cr:=@PyProof.Rows.callWith_builtin1
abbrev Cs:=@Nat.add_assoc
abbrev Ct:=@PySem.wpAny_fieldsOf
abbrev Cu:=@List.mem_of_mem_drop
abbrev Cv:=@List.mem_append_left
abbrev Cw:=@PySem.F.slot_tuple_hash
abbrev Cy:=@List.mem_filter
abbrev Cz:=@List.length_nil
abbrev D0:=@List.cons.injEq
abbrev D1:=@PyProof.Rows.wpS_modify
abbrev D2:=@PySem.Obj.isFreed_of_fields
abbrev D3:=@PySem.wpAny_askSetting
abbrev D4:=@List.map_nil
abbrev D5:=@PySem.wpAny_newList
abbrev D6:=@PySem.plainId_quiet
abbrev D7:=@PySem.wpAny_of_eq
abbrev D8:=@Nat.mod_lt
abbrev D9:=@List.mem_filterMap
abbrev D':=@Bool.and_false
abbrev DA:=@Array.perm_iff_toList_perm
abbrev DB:=@PySem.wpAny_passesOwn
abbrev DC:=@PySem.Heap.get?_update_ne
abbrev DD:=@PySem.wpAny_typeOf
abbrev DE:=@PySem.codeAny_mono
set_option pp.maxSteps 400
set_option Elab.async false
set_option linter.all false
set_option maxRecDepth 100000
set_option maxHeartbeats 4000000
set_option Elab.async false
set_option linter.all false
set_option maxRecDepth 100000
namespace L2
open PySem PySem.Spec PyProof.Rows
noncomputable abbrev Key:=Sum Int Str
noncomputable def h6_:Key->Value->Bool
 | .inl k,v=>Value.isInt k v
 | .inr x,v=>Value.isStrOf x v
noncomputable def vQ_ (w:World):Key->Int
 | .inl k=>hashInt k
 | .inr x=>hashStr w x
theorem aP_:∀{k:Key}{v:Value},h6_ k v=true->(∃i t,k=Sum.inl i/\v=Value.int i t)\/(∃x t,k=Sum.inr x/\v=Value.str x t)
 | .inl i,v,h=>by
  obtain⟨t,e⟩:=Value.isInt_shape (k:=i) (v:=v) h;exact .inl ⟨i,t,rfl,e⟩
 | .inr x,v,h=>by
  obtain⟨t,e⟩:=Value.isStrOf_shape (x:=x) (v:=v) h;exact .inr ⟨x,t,rfl,e⟩
theorem m6_ (i:Int) (t:Tok):h6_ (.inl i) (.int i t)=true:=by simp [h6_,Value.isInt]
theorem m5_ (x:Str) (t:Tok):h6_ (.inr x) (.str x t)=true:=by simp [h6_,Value.isStrOf]
theorem s1_ (a b:Int):decide ((Sum.inl a:Key)=Sum.inl b)=(a==b):=by
 by_cases e:a=b
 .subst e;simp
 .have h:¬(Sum.inl a:Key)=Sum.inl b:=fun q=>e (Sum.inl.inj q);rw [Ai h];exact(CA.mpr e).symm
theorem sY_ (a b:Str):decide ((Sum.inr a:Key)=Sum.inr b)=decide (a=b):=by
 by_cases e:a=b
 .subst e;simp
 .have h:¬(Sum.inr a:Key)=Sum.inr b:=fun q=>e (Sum.inr.inj q);rw [Ai h,Ai e]
theorem s0_ (a:Int) (b:Str):decide ((Sum.inl a:Key)=Sum.inr b)=false:=Ai (fun q=>nomatch q)
theorem sZ_ (a:Str) (b:Int):decide ((Sum.inr a:Key)=Sum.inl b)=false:=Ai (fun q=>nomatch q)
noncomputable def aV_ (prog:Program) (w:World):PySem.KeyKind prog w Key where
 is:=h6_
 hash:=vQ_ w
 inj:=fun v a b ha hb=>by
  rcases aP_ ha with⟨i,t,rfl,rfl⟩|⟨x,t,rfl,rfl⟩
  .rcases aP_ hb with⟨j,u,rfl,e⟩|⟨y,u,rfl,e⟩
   .injection e with e1 _;rw [e1]
   .exact nomatch e
  .rcases aP_ hb with⟨j,u,rfl,e⟩|⟨y,u,rfl,e⟩
   .exact nomatch e
   .injection e with e1 _;rw [e1]
 byValue:=fun k v h=>by
  rcases aP_ h with⟨i,t,rfl,rfl⟩|⟨x,t,rfl,rfl⟩<;>rfl
 pyHash:=fun hv h=>by
  rcases aP_ hv with⟨i,t,rfl,rfl⟩|⟨x,t,rfl,rfl⟩
  .exact wpAny_pyHash_int h
  .exact wpAny_pyHash_str h
 eqBool:=fun hu hv h=>by
  rcases aP_ hu with⟨i,t,rfl,rfl⟩|⟨x,t,rfl,rfl⟩
  .rcases aP_ hv with⟨j,u,rfl,rfl⟩|⟨y,u,rfl,rfl⟩
   .rw [s1_] at h;exact wpAny_eqBool_int h
   .rw [s0_] at h;exact SeqAt.EqAt.int_str i t y u _ _ _ _ h
  .rcases aP_ hv with⟨j,u,rfl,rfl⟩|⟨y,u,rfl,rfl⟩
   .rw [sZ_] at h;exact SeqAt.EqAt.str_int x t j u _ _ _ _ h
   .rw [sY_] at h;exact wpAny_eqBool_str h
 «strs»:=fun k x t v h=>by
  rcases aP_ h with⟨i,u,rfl,e⟩|⟨y,u,rfl,e⟩
  .exact nomatch e
  .injection e with e1 _;subst e1;cases v<;>rfl
theorem jh_ (prog:Program) (w:World) (i:Int) (t:Tok):(aV_ prog w).is (.inl i) (.int i t)=true:=m6_ i t
theorem jg_ (prog:Program) (w:World) (x:Str) (t:Tok):(aV_ prog w).is (.inr x) (.str x t)=true:=m5_ x t
end L2
namespace L2
open PySem PySem.Spec PyProof.Rows
inductive V where
 |non|bl (b:Bool)|int (i:Int)|str (x:Str)|byt (b:Array UInt8)|flt (b:UInt64)|ref (a:Addr)|ty (n:String)
 deriving DecidableEq
noncomputable def a2_:V->Value->Prop
 | .non,u=>u=Value.none
 | .bl b,u=>u=Value.bool b
 | .int i,u=>∃t,u=Value.int i t
 | .str x,u=>∃t,u=Value.str x t
 | .byt b,u=>∃t,u=Value.bytes b t
 | .flt b,u=>∃t,u=Value.float b t
 | .ref a,u=>u=Value.ref a
 | .ty n,u=>u=Value.type n
noncomputable abbrev aW_:List V->List Value->Prop:=Paired a2_
theorem aW_.length {xs:List V}{us:List Value} (r:aW_ xs us):xs.length=us.length:=Bh r
theorem aW_.get:∀{xs:List V}{us:List Value}{i:Nat}{x:V},aW_ xs us->xs[i]? =some x->∃u,us[i]? =some u/\a2_ x u
 |_,_,_,_, .nil,e=>by simp at e
 |_,_,0,_, .cons r _,e=>by simp at e;subst e;exact⟨_,rfl,r⟩
 |_,_,i+1,x, .cons _ t,e=>by
  obtain⟨u,h1,h2⟩:=aW_.get (i:=i) (x:=x) t (by simpa using e);exact⟨u,by simpa using h1,h2⟩
theorem aW_.set {x:V}{u:Value} (r:a2_ x u):∀{xs:List V}{us:List Value} (i:Nat),aW_ xs us->aW_ (xs.set i x) (us.set i u)
 |_,_,_, .nil=> .nil
 |_,_,0, .cons _ t=> .cons r t
 |_,_,i+1, .cons q t=> .cons q (aW_.set r i t)
theorem aW_.append:∀{xs ys:List V}{us ws:List Value},aW_ xs us->aW_ ys ws->aW_ (xs++ys) (us++ws)
 |_,_,_,_, .nil,s=>s
 |_,_,_,_, .cons r t,s=> .cons r (aW_.append t s)
theorem aW_.take:∀{xs:List V}{us:List Value} (n:Nat),aW_ xs us->aW_ (xs.take n) (us.take n)
 |_,_,0,_=> .nil
 |_,_,_+1, .nil=> .nil
 |_,_,n+1, .cons r t=> .cons r (aW_.take n t)
theorem aW_.drop:∀{xs:List V}{us:List Value} (n:Nat),aW_ xs us->aW_ (xs.drop n) (us.drop n)
 |_,_,0,r=>r
 |_,_,_+1, .nil=> .nil
 |_,_,n+1, .cons _ t=>aW_.drop n t
noncomputable def jA_:Option V->Option Value->Prop
 |some v,some u=>a2_ v u
 |none,none=>True
 |_,_=>False
noncomputable def KV {κ:Type}:List (κ×V)->List (κ×Value)->Prop:=Paired fun(p:κ×V) (q:κ×Value)=>p.1=q.1/\a2_ p.2 q.2
noncomputable def kV:Key->V
 | .inl i=> .int i
 | .inr x=> .str x
inductive HO where
  |lst (xs:List V)
  |tup (xs:List V)
  |dK (kvs:List (Key×V))|dT (kvs:List (List Key×V))
  |set (S:Int->Bool) (n:Nat)
  |ins (C dx:Addr) (fs:List (Str×V))
  |own (x:Addr)
  |xd (fs:List (Str×V))
  |met (f x:Addr)
  |rng (lo hi:Int)
  |frz (o:Obj) (u:HO)
  |tbl (ps:Array Value)
  |ext (φ:Heap->Prop)
noncomputable abbrev Hp:=Addr->Option HO
noncomputable def upd (H:Hp) (a:Addr) (o:HO):Hp:=fun b=>if b=a then some o else H b
theorem ag_ {H:Hp}{a:Addr}{o:HO}:upd H a o a=some o:=by unfold upd;rw [A6 rfl]
theorem ak_ {H:Hp}{a b:Addr}{o:HO} (h:b≠a):upd H a o b=H b:=by unfold upd;rw [A3 h]
theorem p3_ {H:Hp}{a:Addr}{o u:HO}:upd (upd H a o) a u=upd H a u:=by
 funext b;unfold upd;split<;>rfl
theorem qU_ {H:Hp}{a b:Addr}{o u:HO} (h:H a=some o) (h':H b=some u) (d:o≠u):a≠b:=by
 intro e;subst e;rw [h] at h';exact d (Ad h')
theorem aw_ {H:Hp}{a b:Addr}{o:HO} (h:H a=some o) (h':H b=none):a≠b:=by
 intro e;subst e;rw [h] at h';cases h'
section
variable (P:Program) (w:World)
noncomputable def aG_ (H:Hp) (h:Heap) (a:Addr):HO->Prop
 | .lst xs=>xs.length<=sizeLine/\∃(its:List Value) (n:Nat),aW_ xs its/\h.get? a=some {cls:= .type "list",data:= .seq its.toArray n}
 | .tup xs=>xs.length<=sizeLine/\∃its:List Value,aW_ xs its/\IsTup h a its.toArray
 | .dK kvs=>kvs.length<=sizeLine/\(a==sysModules)=false/\∃vs,KV kvs vs/\h.DictOf (aV_ P w) a vs
 | .dT kvs=>kvs.length<=sizeLine/\(a==sysModules)=false/\∃xs:List (List Key×Addr×Value),
   Paired (fun(p:List Key×V) (q:List Key×Addr×Value)=>p.1=q.1/\H q.2.1=some (.tup (p.1.map kV))/\a2_ p.2 q.2.2) kvs xs/\
   ∃o es ep,h.get? a=some o/\o.ExactDict/\o.data= .dict es ep/\es.toList=xs.map (entryOfKey (tupleKind (aV_ P w)))/\(xs.map (·.1)).Nodup
 | .set S n=>h.SetOf (intKind P w) a S n
 | .ins C dx fs=>H dx=some (.own a)/\fs.length<=1000/\dx≠a/\h.get? a=some (W.instObj C dx)/\
   ∃mA,h.Ns1 dx mA/\(∀f,jA_ (fs.lookup f) (mA f))/\PySem.Within mA (fs.map (·.1))
 | .own _=>∃o,h.get? a=some o
 | .xd fs=>∃mA,h.Ns1 a mA/\∀f,jA_ (fs.lookup f) (mA f)
 | .rng lo hi=>∃t u v,h.get? a=some {cls:= .type "range",data:= .fields #[.int lo t, .int hi u, .int 1 v]}
 | .frz o u=>h.get? a=some o/\aG_ H h a u
 | .tbl ps=>h.get? a=some {cls:= .none,data:= .fields ps}
 | .met f x=>h.get? a=some (W.methodObj (.ref f) (.ref x))
 | .ext φ=>φ h/\(∃o,h.get? a=some o)/\∀h1 h2:Heap,φ h1->(∀o,h1.get? a=some o->h2.get? a=some o)->φ h2
noncomputable def HOk (H:Hp) (h:Heap):Prop:=∀a o,H a=some o->aG_ P w H h a o
end
section
variable {P:Program}{w:World}{H H':Hp}{h h':Heap}{a:Addr}{o:HO}
theorem aG_.lt (x:aG_ P w H h a o):a<h.objs.size:=by
 cases o with
 |lst xs=>obtain⟨_,_,_,_,e⟩:=x;exact AJ e
 |tup xs=>obtain⟨_,_,_,p⟩:=x;exact p.lt
 |dK kvs=>obtain⟨_,_,_,_,o,_,_,e,_⟩:=x;exact AJ e
 |dT kvs=>obtain⟨_,_,_,_,o,_,_,e,_⟩:=x;exact AJ e
 |set S n=>obtain⟨o,_,_,_,e,_⟩:=x;exact AJ e
 |ins C dx fs=>obtain⟨_,_,_,e,_⟩:=x;exact AJ e
 |own y=>obtain⟨_,e⟩:=x;exact AJ e
 |xd fs=>obtain⟨_,⟨_,_,_,e,_⟩,_⟩:=x;exact AJ e
 |rng lo hi=>obtain⟨_,_,_,e⟩:=x;exact AJ e
 |frz ob u=>obtain⟨e,_⟩:=x;exact AJ e
 |tbl ps=>exact AJ (show h.get? a=some _ from x)
 |met f y=>exact AJ (show h.get? a=some _ from x)
 |ext φ=>obtain⟨_,⟨_,e⟩,_⟩:=x;exact AJ e
theorem Paired.mapP {α β:Type}{F G:α->β->Prop}:∀{l₁:List α}{l₂:List β},Paired F l₁ l₂->(∀a b,F a b->G a b)->Paired G l₁ l₂
 |_,_, .nil,_=> .nil
 |_,_, .cons r t,f=> .cons (f _ _ r) (Paired.mapP t f)
theorem aG_.stay (x:aG_ P w H h a o) (k:∀b u,(b=a\/H b=some (.own a))->h.get? b=some u->h'.get? b=some u)
  (ho:∀b,H b=some (.own a)->H' b=some (.own a)) (ht:∀b xs,H b=some (.tup xs)->H' b=some (.tup xs)):aG_ P w H' h' a o:=by
 induction o with
 |lst xs=>obtain⟨z,its,n,r,e⟩:=x;exact⟨z,its,n,r,k _ _ (.inl rfl) e⟩
 |tup xs=>obtain⟨z,its,r,ob,e,c⟩:=x;exact⟨z,its,r,ob,k _ _ (.inl rfl) e,c⟩
 |dK kvs=>obtain⟨z,y,vs,r,ob,es,ep,e,c⟩:=x;exact⟨z,y,vs,r,ob,es,ep,k _ _ (.inl rfl) e,c⟩
 |dT kvs=>
  obtain⟨z,y,xs,r,ob,es,ep,e,c⟩:=x;exact⟨z,y,xs,Paired.mapP r fun p q z=>⟨z.1,ht _ _ z.2.1,z.2.2⟩,ob,es,ep,k _ _ (.inl rfl) e,c⟩
 |set S n=>obtain⟨ob,es,ep,t,e,c⟩:=x;exact⟨ob,es,ep,t,k _ _ (.inl rfl) e,c⟩
 |ins C dx fs=>
  obtain⟨d,z,ne,e,mA,⟨od,es,ep,e2,c⟩,r⟩:=x;exact⟨ho _ d,z,ne,k _ _ (.inl rfl) e,mA,⟨od,es,ep,k _ _ (.inr d) e2,c⟩,r⟩
 |own y=>obtain⟨ob,e⟩:=x;exact⟨ob,k _ _ (.inl rfl) e⟩
 |xd fs=>obtain⟨mA,⟨od,es,ep,e,c⟩,r⟩:=x;exact⟨mA,⟨od,es,ep,k _ _ (.inl rfl) e,c⟩,r⟩
 |rng lo hi=>obtain⟨t,u,v,e⟩:=x;exact⟨t,u,v,k _ _ (.inl rfl) e⟩
 |frz ob u ih=>obtain⟨e,q⟩:=x;exact⟨k _ _ (.inl rfl) e,ih q⟩
 |tbl ps=>
  have e:h.get? a=some {cls:= .none,data:= .fields ps}:=x;show h'.get? a=some {cls:= .none,data:= .fields ps};exact k a _ (.inl rfl) e
 |met f y=>
  have e:h.get? a=some (W.methodObj (.ref f) (.ref y)):=x;show h'.get? a=some (W.methodObj (.ref f) (.ref y));exact k a _ (.inl rfl) e
 |ext φ=>obtain⟨p,⟨o,e⟩,st⟩:=x;exact⟨st _ _ p fun o q=>k _ _ (.inl rfl) q,⟨o,k _ _ (.inl rfl) e⟩,st⟩
theorem HOk.lt (x:HOk P w H h) (e:H a=some o):a<h.objs.size:=(x a o e).lt
theorem HOk.fresh (x:HOk P w H h) (e:h.objs.size<=a):H a=none:=by
 cases q:H a with
 |none=>rfl
 |some u=>exact absurd (Af (x.lt q) e) (Bs _)
theorem HOk.kept (x:HOk P w H h) (k:∀b u,h.get? b=some u->h'.get? b=some u):HOk P w H h':=fun a o e=>
 (x a o e).stay (fun b u _ q=>k b u q) (fun _ q=>q) fun _ _ q=>q
theorem HOk.laid (x:HOk P w H h) (k:∀b u,h.get? b=some u->h'.get? b=some u) (hp:h.objs.size<=a) (new:aG_ P w (upd H a o) h' a o):HOk P w (upd H a o) h':=fun b u e=>by
 have hn:=x.fresh hp;by_cases hb:b=a
 .subst hb;rw [ag_] at e;cases e;exact new
 .rw [ak_ hb] at e;exact(x b u e).stay (fun c v _ q=>k c v q) (fun c q=>by rw [ak_ (aw_ q hn)];exact q) fun c xs q=>by rw [ak_ (aw_ q hn)];exact q
end
noncomputable def Rd (H:Hp) (a:Addr) (u:HO):Prop:=H a=some u\/∃o,H a=some (.frz o u)
theorem Rd.ok {P:Program}{w:World}{H:Hp}{h:Heap}{a:Addr}{u:HO} (r:Rd H a u) (x:HOk P w H h):aG_ P w H h a u:=by
 rcases r with r|⟨o,r⟩
 .exact x a u r
 .obtain⟨_,q⟩:=x a _ r;exact q
noncomputable def Mut:Option HO->Prop
 |some (.lst _)=>True
 |some (.dK _)=>True
 |some (.dT _)=>True
 |some (.set _ _)=>True
 |some (.ins _ _ _)=>True
 |some (.ext _)=>True
 |_=>False
section
variable {P:Program}{w:World}{H:Hp}{h h':Heap}{x e:Addr}{o':HO}
theorem HOk.write (ok:HOk P w H h) (mu:Mut (H x)) (he:e=x\/H e=some (.own x)) (k:∀b u,b≠e->h.get? b=some u->h'.get? b=some u) (heo:∃u,h'.get? e=some u)
  (new:aG_ P w (upd H x o') h' x o'):HOk P w (upd H x o') h':=fun b u q=>by
 have nown:∀c y,H c=some (.own y)->c≠x:=fun c y r z=>by subst z;rw [r] at mu;exact mu
 have ntup:∀c xs,H c=some (.tup xs)->c≠x:=fun c xs r z=>by subst z;rw [r] at mu;exact mu
 by_cases hb:b=x
 .subst hb;rw [ag_] at q;cases q;exact new
 .rw [ak_ hb] at q;by_cases hbe:b=e
  .have q':H b=some (.own x):=by
    rcases he with z|z
    .exact absurd (hbe.trans z) hb
    .rw [hbe];exact z
   rw [q] at q';cases q';obtain⟨v,hv⟩:=heo;exact⟨v,by rw [hbe];exact hv⟩
  .refine(ok b u q).stay (fun c v hc r=>k c v ?_ r) (fun c r=>by rw [ak_ (nown c b r)];exact r) fun c xs r=>by rw [ak_ (ntup c xs r)];exact r
   rcases hc with rfl|hc
   .exact hbe
   .rintro rfl;rcases he with z|z
    .exact nown c b hc z
    .rw [hc] at z;cases z;exact hb rfl
end
structure Un (fs ex:List Addr) (H H':Hp) (h h':Heap):Prop where
 keep:∀b o,h.get? b=some o->H b=none->b∉fs->b∉ex->h'.get? b=some o
 slot:∀b o,h.get? b=some o->H b=none->b∈fs->b∉ex->∃sl,h'.get? b=some {o with slots:=sl}
 free:∀b o,h.get? b=some o->H b=none->b∉ex->H' b=none
 there:∀b o,h.get? b=some o->b∉ex->∃o',h'.get? b=some o'
 tups:∀b xs,H b=some (.tup xs)->H' b=some (.tup xs)
 frzs:∀b o u,H b=some (.frz o u)->H' b=some (.frz o u)
 tbls:∀b ps,H b=some (.tbl ps)->∃more,H' b=some (.tbl (ps++more))
section
variable {fs fs' ex ex':List Addr}{H H1 H2:Hp}{h h1 h2 h':Heap}{a x e:Addr}{o:HO}
theorem Un.any (u:Un fs ex H H1 h h1) {b:Addr}{ob:Obj} (q:h.get? b=some ob) (n:H b=none) (hx:b∉ex):∃sl,h1.get? b=some {ob with slots:=sl}:=by
 by_cases hb:b∈fs
 .exact u.slot b ob q n hb hx
 .exact⟨ob.slots,u.keep b ob q n hb hx⟩
theorem Un.kept (k:∀b u,h.get? b=some u->h'.get? b=some u):Un fs ex H H h h':=
 ⟨fun b ob q _ _ _=>k b ob q,fun b ob q _ _ _=>⟨ob.slots,k b ob q⟩,fun _ _ _ n _=>n,fun b ob q _=>⟨ob,k b ob q⟩,fun _ _ q=>q,fun _ _ _ q=>q,fun _ ps q=>⟨#[],by rw [q];simp⟩⟩
theorem Un.refl:Un fs ex H H h h:=Un.kept fun _ _ q=>q
theorem Un.laid (k:∀b u,h.get? b=some u->h'.get? b=some u) (hp:h.objs.size<=a) (hn:H a=none):Un fs ex H (upd H a o) h h' where
 keep:=fun b u q _ _ _=>k b u q
 slot:=fun b u q _ _ _=>⟨u.slots,k b u q⟩
 free:=fun b u q n _=>by rw [ak_ (AL (Af (AJ q) hp))];exact n
 there:=fun b u q _=>⟨u,k b u q⟩
 tups:=fun b xs q=>by rw [ak_ (aw_ q hn)];exact q
 frzs:=fun b u xs q=>by rw [ak_ (aw_ q hn)];exact q
 tbls:=fun b ps q=>⟨#[],by rw [ak_ (aw_ q hn),q];simp⟩
theorem Un.write (mu:Mut (H x)) (he:e=x\/H e=some (.own x)) (k:∀b u,b≠e->h.get? b=some u->h'.get? b=some u) (heo:∃u,h'.get? e=some u):Un fs ex H (upd H x o) h h':=by
 have hx:∀b,H b=none->b≠x:=fun b n z=>by subst z;rw [n] at mu;exact mu
 have hb:∀b,H b=none->b≠e:=fun b n z=>by
  subst z;rcases he with r|r
  .exact hx b n r
  .rw [n] at r;cases r
 have hm:∀b u,H b=some u->¬Mut (some u)->b≠x:=fun b u q nm z=>by subst z;rw [q] at mu;exact nm mu
 refine⟨fun b u q n _ _=>k b u (hb b n) q,fun b u q n _ _=>⟨u.slots,k b u (hb b n) q⟩,fun b u q n _=>by rw [ak_ (hx b n)];exact n,fun b u q _=> ?_,
  fun b xs q=>by rw [ak_ (hm b _ q fun z=>z)];exact q,fun b u xs q=>by rw [ak_ (hm b _ q fun z=>z)];exact q,fun b ps q=>⟨#[],by rw [ak_ (hm b _ q fun z=>z),q];simp⟩⟩
 by_cases hbe:b=e
 .subst hbe;exact heo
 .exact⟨u,k b u hbe q⟩
end
noncomputable def trk (h:Heap) (H:Hp):List Addr:=(List.range h.objs.size).filter fun a=>(H a).isSome
noncomputable def oX_ (h:Heap) (H:Hp):Heap:=W.hideAll h (trk h H)
theorem ni_ (h:Heap) (H:Hp):(oX_ h H).objs.size=h.objs.size:=W.hideAll_size _ _
theorem oW_ {h:Heap}{H:Hp}{b:Addr}{o:Obj} (e:h.get? b=some o) (n:H b=none):(oX_ h H).get? b=some o:=
 W.hideAll_get _ e fun hm=>by
  have q:(H b).isSome=true:=(Cy.mp hm).2;rw [n] at q;simp at q
theorem qP_ {h:Heap}{H:Hp}{b:Addr}{o:Obj} (e:(oX_ h H).get? b=some o):h.get? b=some o/\H b=none:=by
 have e':h.get? b=some o:=W.of_hideAll (trk h H) e;refine⟨e', ?_⟩;cases q:H b with
 |none=>rfl
 |some x=>
  have hm:b∈trk h H:=Cy.mpr ⟨AW.mpr (AJ e'),by simp [q]⟩;have z:(oX_ h H).get? b=none:=W.hideAll_none (trk h H) hm;rw [z] at e;cases e
noncomputable def rs_ (g h:Heap) (L:Addr):List (Addr×Obj):=(List.range h.objs.size).filterMap fun a=>if a=L\/(g.get? a).isSome=true then none else(h.get? a).map fun o=>(a,o)
noncomputable def cv_ (g h:Heap) (L d:Addr):List (Addr×Obj):=(rs_ g h L).filter fun p=>decide (p.1≠d)
end L2
namespace L2
open PySem PySem.Spec PyProof.Rows
structure Mod (K:W.Frag) (mg:Str->Option Value) (base:Heap):Prop where
 kin:K.In base
 glob:base.Ns mainGlobals mg
 blt:∃mb,base.Ns builtinsNs mb/\∀x:Str,x≠"__name__"->mb x=bootBuiltins x
 nolimit:base.NoLimit
structure Cx where
 prog:Program
 w:World
 K:W.Frag
 mg:Str->Option Value
 base:Heap
 A:Around
 N:List Str
 s₀:Shared
 H₀:Hp
 env:Env
 outer:List Env
 stack:List Env
 ex:List Addr
 fn:Str->Bool
 calm:Bool
 pn:List (Addr×Obj)
 xe:Value->Shared->Prop
noncomputable def frs (l:List Env):List Addr:=l.filterMap (·.frame)
noncomputable abbrev Cx.fs (X:Cx):List Addr:=frs X.outer
noncomputable def Vis (sc:Scope) (x:Str):Prop:=sc.names.lookup x=some .local\/sc.names.lookup x=some .cell\/sc.names.lookup x=some .free
noncomputable def Loc (sc:Scope) (x:Str):Prop:=sc.names.lookup x=some .local\/sc.names.lookup x=some .cell
noncomputable def vX_ (env:Env) (h:Heap) (m:Str->Option Value) (x:Str) (u:Value):Prop:=
 (env.kindOf x=some .local/\m x=some u)\/((env.kindOf x=some .cell\/env.kindOf x=some .free)/\∃c,env.cells.lookup x=some c/\h.IsCell c (some u))
structure Cx.Ok (X:Cx):Prop where
 mod:Mod X.K X.mg X.base
 kind:X.env.scope.kind= .function
 glob:X.env.globals=mainGlobals
 blt:X.env.builtins=builtinsNs
 above:X.s₀.heap.objs.size<=X.env.locals
 inj:∀x y c,X.env.cells.lookup x=some c->X.env.cells.lookup y=some c->x=y
 has:∀x,(X.env.kindOf x=some .cell\/X.env.kindOf x=some .free)->∃c,X.env.cells.lookup x=some c
 cab:∀x c,X.fn x=true->X.env.cells.lookup x=some c->X.s₀.heap.objs.size<=c
 hd:X.calm=true->X.A.handled=none
 frames:X.A.frames=some X.stack
 stk:X.stack=X.outer\/(X.stack=X.env::X.outer/\X.env.frame=some X.env.locals)
 exf:∀b∈X.ex,b≠X.env.locals/\∀x c,X.env.cells.lookup x=some c->c≠b
 bs:∀b o,X.base.get? b=some o->X.s₀.heap.get? b=some o/\X.H₀ b=none
 bsz:X.base.objs.size<=X.s₀.heap.objs.size
 noex:∀b o,X.base.get? b=some o->b∉X.ex
 exfs:∀b∈X.ex,b∉X.fs
 funs:X.s₀.heap.FunFrames X.base X.outer
 frf:∀b∈X.fs,X.H₀ b=none
structure Inv (X:Cx) (pins:List (Addr×Obj)) (σ:List (Option V)) (H:Hp) (s:Shared):Prop where
 ok:X.Ok
 os:s.os=X.s₀.os
 bare:AllBare s.gens
 base:Un X.fs X.ex X.H₀ H X.s₀.heap s.heap
 loc:∃m,s.heap.Ns X.env.locals m/\∀(i:Nat) (x:Str) (v:V),X.N[i]? =some x->σ[i]? =some (some v)->Vis X.env.scope x->∃u,a2_ v u/\vX_ X.env s.heap m x u
 cell:∀x c,X.env.cells.lookup x=some c->∃v,s.heap.IsCell c v
 free:H X.env.locals=none
 freeC:∀x c,X.env.cells.lookup x=some c->H c=none
 pin:∀p∈X.pn++pins,s.heap.get? p.1=some p.2/\H p.1=none/\p.1≠X.env.locals/\p.1∉X.fs/\∀v,p.2.data≠ .cell v
 hok:HOk X.prog X.w H s.heap
 len:σ.length=X.N.length
section
variable {X:Cx}{pins:List (Addr×Obj)}{σ:List (Option V)}{H H':Hp}{s:Shared}{h':Heap}
theorem Cx.Ok.nofr (ok:X.Ok) {b:Addr}{o:Obj} (e:X.base.get? b=some o):b∉X.fs:=fun hb=>by
 have:=(ok.funs.mem hb).1;rw [e] at this;cases this
theorem Inv.bs (I:Inv X pins σ H s):∀b o,X.base.get? b=some o->s.heap.get? b=some o/\H b=none:=fun b o e=>
 ⟨I.base.keep b o (I.ok.bs b o e).1 (I.ok.bs b o e).2 (I.ok.nofr e) (I.ok.noex b o e),I.base.free b o (I.ok.bs b o e).1 (I.ok.bs b o e).2 (I.ok.noex b o e)⟩
theorem Inv.bk (I:Inv X pins σ H s):∀b o,X.base.get? b=some o->s.heap.get? b=some o:=fun b o e=>(I.bs b o e).1
theorem Inv.mod (I:Inv X pins σ H s):Mod X.K X.mg X.base:=I.ok.mod
theorem Inv.kIn (I:Inv X pins σ H s):X.K.In s.heap:=I.ok.mod.kin.keeps I.bk
theorem Inv.lt (I:Inv X pins σ H s):X.env.locals<s.heap.objs.size:=let ⟨_,hn,_⟩:=I.loc;hn.lt
theorem Inv.sz (I:Inv X pins σ H s):X.s₀.heap.objs.size<=s.heap.objs.size:=B2 I.ok.above (Al I.lt)
theorem Inv.nofs (I:Inv X pins σ H s) {a:Addr} (h:s.heap.objs.size<=a):a∉X.fs:=fun hb=>by
 obtain⟨_,o,ho,_⟩:=I.ok.funs.mem hb;exact absurd (Af (AJ ho) (B2 I.sz h)) (Bs _)
theorem Inv.cne (I:Inv X pins σ H s):∀x c,X.env.cells.lookup x=some c->c≠X.env.locals:=fun x c e z=>by
 obtain⟨v,o,ho,hd⟩:=I.cell x c e;obtain⟨m,⟨o',es,ep,ho',hd',_⟩,_⟩:=I.loc;rw [z,ho'] at ho;cases ho;rw [hd'] at hd;cases hd
theorem Inv.funs (I:Inv X pins σ H s):s.heap.FunFrames X.base X.outer:=by
 have all:∀(l:List Env),(∀b∈frs l,b∈X.fs)->X.s₀.heap.FunFrames X.base l->s.heap.FunFrames X.base l:=by
  intro l;induction l with
  |nil=>intro _ _;trivial
  |cons env r ih=>
   intro hs hl;obtain⟨hk,⟨L,o,hf,hn,ho,hd⟩,hr⟩:=hl;have hL:L∈X.fs:=hs L (by unfold frs;rw [List.filterMap_cons,hf];exact AX);obtain⟨sl,e⟩:=I.base.slot L o ho (I.ok.frf L hL) hL fun z=>I.ok.exfs L z hL;exact⟨hk,⟨L,_,hf,hn,e,hd⟩,ih (fun b hb=>hs b (by unfold frs;rw [List.filterMap_cons,hf];exact AS _ hb)) hr⟩
 exact all X.outer (fun _ hb=>hb) I.ok.funs
theorem Inv.stack (I:Inv X pins σ H s):s.heap.FunFrames X.base X.stack:=by
 rcases I.ok.stk with e|⟨e,hf⟩
 .rw [e];exact I.funs
 .rw [e];obtain⟨m,hn,_⟩:=I.loc;refine .cons (by rw [I.ok.kind];decide) hf hn ?_ I.funs;exact Heap.get?_none_of_le (B2 I.ok.bsz I.ok.above)
theorem Inv.stkSub (I:Inv X pins σ H s):∀b∈frs X.stack,b∈X.env.locals::X.fs:=fun b hb=>by
 rcases I.ok.stk with e|⟨e,hf⟩
 .rw [e] at hb;exact AS _ hb
 .rw [e] at hb;unfold frs at hb;rw [List.filterMap_cons,hf] at hb;exact hb
theorem Inv.stkFree (I:Inv X pins σ H s):∀b∈frs X.stack,H b=none:=fun b hb=>by
 rcases AK.mp (I.stkSub b hb) with e|hb
 .rw [e];exact I.free
 .obtain⟨_,o,ho,_⟩:=I.ok.funs.mem hb;exact I.base.free b o ho (I.ok.frf b hb) fun z=>I.ok.exfs b z hb
theorem Inv.step {g':Array GenState}{t':Nat}{d':Drawn}{ch:List Addr} (I:Inv X pins σ H s)
  (hch:∀b∈ch,(b∈X.ex\/X.s₀.heap.objs.size<=b)/\b≠X.env.locals/\(∀x c,X.env.cells.lookup x=some c->c≠b)/\∀p∈X.pn++pins,p.1≠b)
  (keep:∀b o,b≠X.env.locals->b∉X.fs->b∉ch->s.heap.get? b=some o->H b=none->h'.get? b=some o)
  (slot:∀b o,b≠X.env.locals->b∈X.fs->b∉ch->s.heap.get? b=some o->H b=none->∃sl,h'.get? b=some {o with slots:=sl}) (free:∀b o,b∉ch->s.heap.get? b=some o->H b=none->H' b=none)
  (there:∀b o,b∉ch->s.heap.get? b=some o->∃o',h'.get? b=some o')
  (tups:∀b xs,H b=some (.tup xs)->H' b=some (.tup xs)) (frzs:∀b o u,H b=some (.frz o u)->H' b=some (.frz o u)) (tbls:∀b ps,H b=some (.tbl ps)->∃more,H' b=some (.tbl (ps++more)))
  (ns:∀m,s.heap.Ns X.env.locals m->h'.Ns X.env.locals m) (hok:HOk X.prog X.w H' h') (hg:AllBare g'):
  Inv X pins σ H' {s with heap:=h',gens:=g',drawn:=d',toks:=t'}:=by
 have neL:∀b o,X.s₀.heap.get? b=some o->b≠X.env.locals:=fun b o e=>AL (Af (AJ e) I.ok.above);have neC:∀b o,X.s₀.heap.get? b=some o->b∉X.ex->b∉ch:=fun b o e hx hb=>by
  rcases(hch b hb).1 with z|z
  .exact hx z
  .exact absurd (Af (AJ e) z) (Bs _)
 have cellK:∀x c,X.env.cells.lookup x=some c->∀v,s.heap.IsCell c v->h'.IsCell c v:=fun x c e v ⟨o,ho,hd⟩=>by
  have nch:c∉ch:=fun z=>(hch c z).2.2.1 x c e rfl;by_cases hc:c∈X.fs
  .obtain⟨sl,q⟩:=slot c o (I.cne x c e) hc nch ho (I.freeC x c e);exact⟨_,q,hd⟩
  .exact⟨o,keep c o (I.cne x c e) hc nch ho (I.freeC x c e),hd⟩
 refine⟨I.ok,I.os,hg,⟨fun b o e n hb hx=> ?_,fun b o e n hb hx=> ?_,fun b o e n hx=> ?_,fun b o e hx=> ?_,fun b xs e=>tups b xs (I.base.tups b xs e),fun b o xs e=>frzs b o xs (I.base.frzs b o xs e),fun b ps e=> ?_⟩, ?_,fun x c e=> ?_, ?_,fun x c e=> ?_,fun p hp=> ?_,hok,I.len⟩
 .exact keep b o (neL b o e) hb (neC b o e hx) (I.base.keep b o e n hb hx) (I.base.free b o e n hx)
 .obtain⟨sl,e1⟩:=I.base.slot b o e n hb hx;obtain⟨sl',e2⟩:=slot b _ (neL b o e) hb (neC b o e hx) e1 (I.base.free b o e n hx);exact⟨sl',e2⟩
 .obtain⟨o',e1⟩:=I.base.there b o e hx;exact free b o' (neC b o e hx) e1 (I.base.free b o e n hx)
 .obtain⟨o',e1⟩:=I.base.there b o e hx;exact there b o' (neC b o e hx) e1
 .obtain⟨m1,e1⟩:=I.base.tbls b ps e;obtain⟨m2,e2⟩:=tbls b _ e1;exact⟨m1++m2,by rw [e2,Array.append_assoc]⟩
 .obtain⟨m,hn,hl⟩:=I.loc;refine⟨m,ns m hn,fun i x v e1 e2 e3=> ?_⟩;obtain⟨u,r,l⟩:=hl i x v e1 e2 e3;refine⟨u,r, ?_⟩;rcases l with l|⟨k,c,e,z⟩
  .exact .inl l
  .exact .inr ⟨k,c,e,cellK x c e _ z⟩
 .obtain⟨v,z⟩:=I.cell x c e;exact⟨v,cellK x c e v z⟩
 .obtain⟨m,⟨o,_,_,ho,_⟩,_⟩:=I.loc;exact free _ o (fun z=>(hch _ z).2.1 rfl) ho I.free
 .obtain⟨v,o,ho,hd⟩:=I.cell x c e;exact free c o (fun z=>(hch c z).2.2.1 x c e rfl) ho (I.freeC x c e)
 .obtain⟨e,n,ne,nf,d⟩:=I.pin p hp;have nch:p.1∉ch:=fun z=>(hch p.1 z).2.2.2 p hp rfl;exact⟨keep p.1 p.2 ne nf nch e n,free p.1 p.2 nch e n,ne,nf,d⟩
theorem Inv.un {t':Nat} (I:Inv X pins σ H s) (u:Un X.fs [] H H' s.heap h') (hok:HOk X.prog X.w H' h'):Inv X pins σ H' {s with heap:=h',toks:=t'}:=by
 obtain⟨m,⟨o,es,ep,ho,r⟩,_⟩:=id I.loc;obtain⟨sl,hL⟩:=u.any ho I.free (by simp);exact I.step (g':=s.gens) (d':=s.drawn) (ch:=[]) (fun _ z=>nomatch z) (fun b o _ hb _ e n=>u.keep b o e n hb (by simp)) (fun b o _ hb _ e n=>u.slot b o e n hb (by simp)) (fun b o _ e n=>u.free b o e n (by simp)) (fun b o _ e=>u.there b o e (by simp)) u.tups u.frzs u.tbls (fun m' hm=>by
  obtain⟨o',es',ep',ho',r'⟩:=hm;rw [ho] at ho';cases ho';exact⟨_,es',ep',hL,r'⟩) hok I.bare
theorem Inv.call {g':Array GenState}{t':Nat}{d':Drawn}{ch:List Addr} (I:Inv X pins σ H s) (u:Un (frs X.stack) ch H H' s.heap h') (hok:HOk X.prog X.w H' h') (hg:AllBare g')
  (hch:∀b∈ch,(b∈X.ex\/X.s₀.heap.objs.size<=b)/\b≠X.env.locals/\(∀x c,X.env.cells.lookup x=some c->c≠b)/\∀p∈X.pn++pins,p.1≠b):
  Inv X pins σ H' {s with heap:=h',gens:=g',drawn:=d',toks:=t'}:=by
 obtain⟨m,⟨o,es,ep,ho,r⟩,_⟩:=id I.loc;obtain⟨sl,hL⟩:=u.any ho I.free fun z=>(hch _ z).2.1 rfl;exact I.step (ch:=ch) hch (fun b o hL hb hc e n=>u.keep b o e n (fun z=>(AK.mp (I.stkSub b z)).elim hL hb) hc) (fun b o _ _ hc e n=>u.any e n hc) (fun b o hc e n=>u.free b o e n hc) (fun b o hc e=>u.there b o e hc) u.tups u.frzs u.tbls (fun m' hm=>by
  obtain⟨o',es',ep',ho',r'⟩:=hm;rw [ho] at ho';cases ho';exact⟨_,es',ep',hL,r'⟩) hok hg
theorem Inv.turned {t':Nat}{it:Addr} (I:Inv X pins σ H s) (k:∀b o,b≠it->s.heap.get? b=some o->h'.get? b=some o) (hn:H it=none) (hL:it≠X.env.locals)
  (h1:it∈X.ex\/X.s₀.heap.objs.size<=it) (h2:∀x c,X.env.cells.lookup x=some c->c≠it) (h3:∀p∈X.pn++pins,p.1≠it):Inv X pins σ H {s with heap:=h',toks:=t'}:=by
 have nit:∀b u,H b=some u->b≠it:=fun b u e z=>by rw [z,hn] at e;cases e
 refine I.step (g':=s.gens) (d':=s.drawn) (ch:=[it]) (fun b hb=> ?_) (fun b o _ _ hc e _=>k b o (fun z=>hc (by simp [z])) e) (fun b o _ _ hc e _=>⟨o.slots,k b o (fun z=>hc (by simp [z])) e⟩) (fun _ _ _ _ n=>n)
  (fun b o hc e=>⟨o,k b o (fun z=>hc (by simp [z])) e⟩) (fun _ _ e=>e) (fun _ _ _ e=>e) (fun b ps e=>⟨#[],by rw [e];simp⟩) (fun m hm=> ?_) (fun b u e=> ?_) I.bare
 .have e:b=it:=by simpa using hb
  subst e;exact⟨h1,hL,h2,h3⟩
 .obtain⟨o,es,ep,ho,r⟩:=hm;exact⟨o,es,ep,k _ o (BM hL) ho,r⟩
 .refine(I.hok b u e).stay (fun c v hc q=>k c v ?_ q) (fun _ q=>q) fun _ _ q=>q;rcases hc with z|z
  .rw [z];exact nit b u e
  .exact nit c _ z
theorem Inv.tok (I:Inv X pins σ H s) (t:Nat):Inv X pins σ H {s with toks:=t}:=I.un (h':=s.heap) (t':=t) Un.refl I.hok
theorem Inv.kept {t':Nat} (I:Inv X pins σ H s) (k:∀b u,s.heap.get? b=some u->h'.get? b=some u):Inv X pins σ H {s with heap:=h',toks:=t'}:=I.un (Un.kept k) (I.hok.kept k)
theorem Inv.laid {a:Addr}{o:HO}{t':Nat} (I:Inv X pins σ H s) (k:∀b u,s.heap.get? b=some u->h'.get? b=some u) (hp:s.heap.objs.size<=a) (new:aG_ X.prog X.w (upd H a o) h' a o):
  Inv X pins σ (upd H a o) {s with heap:=h',toks:=t'}:=I.un (Un.laid k hp (I.hok.fresh hp)) (I.hok.laid k hp new)
theorem Inv.write {x e:Addr}{o:HO}{t':Nat} (I:Inv X pins σ H s) (mu:Mut (H x)) (he:e=x\/H e=some (.own x)) (k:∀b u,b≠e->s.heap.get? b=some u->h'.get? b=some u) (heo:∃u,h'.get? e=some u)
  (new:aG_ X.prog X.w (upd H x o) h' x o):Inv X pins σ (upd H x o) {s with heap:=h',toks:=t'}:=I.un (Un.write mu he k heo) (I.hok.write mu he k heo new)
theorem Inv.weak {σ':List (Option V)} (I:Inv X pins σ H s) (hl:σ'.length=σ.length) (w:∀(i:Nat) v,σ'[i]? =some (some v)->σ[i]? =some (some v)):Inv X pins σ' H s:=
 ⟨I.ok,I.os,I.bare,I.base,let ⟨m,hn,hl'⟩:=I.loc;⟨m,hn,fun i x v e1 e2 e3=>hl' i x v e1 (w i v e2) e3⟩,I.cell,I.free,I.freeC,I.pin,I.hok,hl.trans I.len⟩
theorem Inv.pins_of {pins':List (Addr×Obj)} (I:Inv X pins σ H s) (h:∀p∈pins',s.heap.get? p.1=some p.2/\H p.1=none/\p.1≠X.env.locals/\p.1∉X.fs/\∀v,p.2.data≠ .cell v):Inv X pins' σ H s:=
 ⟨I.ok,I.os,I.bare,I.base,I.loc,I.cell,I.free,I.freeC,fun p hp=>(BK.mp hp).elim (fun z=>I.pin p (Cv _ z)) (h p),I.hok,I.len⟩
theorem j5_ {N:List Str} (hN:N.Nodup) {i j:Nat}{x:Str} (a:N[i]? =some x) (b:N[j]? =some x):i=j:=by
 obtain⟨h1,e1⟩:=AD.mp a;obtain⟨h2,e2⟩:=AD.mp b;exact(List.getElem_inj hN).mp (e1.trans e2.symm)
theorem l3_ {M:Model}{A:Around}{E:Value->Shared->Prop}{i:Nat}{x:Str}{v:V}{u:Value}{Q:Unit->Shared->Prop} (I:Inv X pins σ H s) (hN:X.N.Nodup) (hi:X.N[i]? =some x) (hx:Loc X.env.scope x) (r:a2_ v u)
  (h:∀s',Inv X pins (σ.set i (some v)) H s'->(∃a,Heap.SameBut a s.heap s'.heap/\(a=X.env.locals\/X.env.cells.lookup x=some a))->Q () s') (hf:X.fn x=true\/X.env.scope.names.lookup x=some .local:=by first|exact .inl rfl|exact .inr rfl|assumption):wpAny M A (storeName X.env x u) Q E s:=by
 obtain⟨m,hn,hl⟩:=id I.loc;have hcls:(X.env.scope.kind== .class||(X.env.scope.kind== .module&&X.env.locals !=X.env.globals))=false:=by rw [I.ok.kind];rfl
 have hiσ:i<σ.length:=by rw [I.len];exact(AD.mp hi).1
 have cne:=I.cne;have tracked:∀{a:Addr}{h':Heap},(∃o,s.heap.get? a=some o/\H a=none)->Heap.SameBut a s.heap h'->HOk X.prog X.w H h':=fun{a h'} ha hs b ob e=>by
  obtain⟨_,_,hfree⟩:=ha;refine(I.hok b ob e).stay (fun c w' hc q=>(hs.2 c ?_).trans q) (fun _ q=>q) fun _ _ q=>q;rintro rfl;rcases hc with rfl|hc
  .rw [hfree] at e;cases e
  .rw [hfree] at hc;cases hc
 rcases hx with hk|hk
 .refine wpAny_storeName_local hk hn (fun h' hn' hs=> ?_) hcls;obtain⟨oL,_,_,hoL,_⟩:=id hn;refine h _ ⟨I.ok,I.os,I.bare,⟨fun b o e n hb hx=> ?_,fun b o e n hb hx=> ?_,I.base.free,fun b o e hx=> ?_,I.base.tups,I.base.frzs,I.base.tbls⟩,⟨_,hn',fun j y v' e1 e2 e3=> ?_⟩,fun y c e=> ?_,I.free,I.freeC,fun p hp=> ?_,tracked ⟨oL,hoL,I.free⟩ hs,by simpa using I.len⟩ ⟨_,hs, .inl rfl⟩
  .exact(hs.2 b (AL (Af (AJ e) I.ok.above))).trans (I.base.keep b o e n hb hx)
  .obtain⟨sl,e1⟩:=I.base.slot b o e n hb hx;exact⟨sl,(hs.2 b (AL (Af (AJ e) I.ok.above))).trans e1⟩
  .obtain⟨o',e1⟩:=I.base.there b o e hx;exact⟨o',(hs.2 b (AL (Af (AJ e) I.ok.above))).trans e1⟩
  .by_cases hj:j=i
   .subst hj;rw [hi] at e1;cases e1;rw [List.getElem?_set_self hiσ] at e2;cases e2;exact⟨u,r, .inl ⟨hk,by simp⟩⟩
   .rw [CP (BM hj)] at e2;obtain⟨u',r',q⟩:=hl j y v' e1 e2 e3;refine⟨u',r', ?_⟩;rcases q with⟨k,e⟩|⟨k,c,e,z⟩
    .refine .inl ⟨k, ?_⟩;have:y≠x:=fun e=>hj (j5_ hN e1 (e▸hi));simp [this,e]
    .exact .inr ⟨k,c,e,z.sameBut hs (cne y c e)⟩
  .obtain⟨w',z⟩:=I.cell y c e;exact⟨w',z.sameBut hs (cne y c e)⟩
  .obtain⟨e,n,ne,nf,d⟩:=I.pin p hp;exact⟨(hs.2 p.1 ne).trans e,n,ne,nf,d⟩
 .have hfn:X.fn x=true:=by
   rcases hf with z|z
   .exact z
   .rw [z] at hk;cases hk
  obtain⟨c,hc⟩:=I.ok.has x (.inl hk);obtain⟨w',z⟩:=I.cell x c hc;refine wpAny_storeName_cell I.ok.kind hk hc z (fun h' hc' hs=> ?_);obtain⟨oc,hoc,hocd⟩:=id z;refine h {s with heap:=h'} ⟨I.ok,I.os,I.bare,⟨fun b o e n hb hx=> ?_,fun b o e n hb hx=> ?_,I.base.free,fun b o e hx=> ?_,I.base.tups,I.base.frzs,I.base.tbls⟩,⟨m,hn.sameBut hs (BM (cne x c hc)),fun j y v' e1 e2 e3=> ?_⟩,fun y c' e=> ?_,I.free,I.freeC,fun p hp=> ?_,tracked ⟨oc,hoc,I.freeC x c hc⟩ hs,by simpa using I.len⟩ ⟨c,hs, .inr hc⟩
  .exact(hs.2 b (AL (Af (AJ e) (I.ok.cab x c hfn hc)))).trans (I.base.keep b o e n hb hx)
  .obtain⟨sl,e1⟩:=I.base.slot b o e n hb hx;exact⟨sl,(hs.2 b (AL (Af (AJ e) (I.ok.cab x c hfn hc)))).trans e1⟩
  .obtain⟨o',e1⟩:=I.base.there b o e hx;exact⟨o',(hs.2 b (AL (Af (AJ e) (I.ok.cab x c hfn hc)))).trans e1⟩
  .by_cases hj:j=i
   .subst hj;rw [hi] at e1;cases e1;rw [List.getElem?_set_self hiσ] at e2;cases e2;exact⟨u,r, .inr ⟨.inl hk,c,hc,hc'⟩⟩
   .rw [CP (BM hj)] at e2;obtain⟨u',r',q⟩:=hl j y v' e1 e2 e3;refine⟨u',r', ?_⟩;rcases q with q|⟨k,c',e,z'⟩
    .exact .inl q
    .refine .inr ⟨k,c',e,z'.sameBut hs ?_⟩;rintro rfl;exact hj (j5_ hN e1 (I.ok.inj _ _ _ e hc▸hi))
  .by_cases hcc:c'=c
   .subst hcc;exact⟨_,hc'⟩
   .obtain⟨w2,z2⟩:=I.cell y c' e;exact⟨w2,z2.sameBut hs hcc⟩
  .obtain⟨e,n,ne,nf,d⟩:=I.pin p hp;refine⟨(hs.2 p.1 ?_).trans e,n,ne,nf,d⟩;intro q;rw [q,hoc] at e;have q':oc=p.2:=Ad e;exact d w' (by rw [<-q'];exact hocd)
theorem dB_ {M:Model}{A:Around}{E:Value->Shared->Prop}{i:Nat}{x:Str}{v:V}{u:Value}{Q:Unit->Shared->Prop} (I:Inv X pins σ H s) (hN:X.N.Nodup) (hi:X.N[i]? =some x) (hx:Loc X.env.scope x) (r:a2_ v u)
  (h:∀s',Inv X pins (σ.set i (some v)) H s'->Q () s') (hf:X.fn x=true\/X.env.scope.names.lookup x=some .local:=by first|exact .inl rfl|exact .inr rfl|assumption):wpAny M A (storeName X.env x u) Q E s:=
 l3_ I hN hi hx r (fun s' I' _=>h s' I') hf
theorem Inv.call' {s':Shared}{ch:List Addr} (I:Inv X pins σ H s) (ho:s'.os=s.os) (u:Un (frs X.stack) ch H H' s.heap s'.heap) (hok:HOk X.prog X.w H' s'.heap) (hg:AllBare s'.gens)
  (hch:∀b∈ch,(b∈X.ex\/X.s₀.heap.objs.size<=b)/\b≠X.env.locals/\(∀x c,X.env.cells.lookup x=some c->c≠b)/\∀p∈X.pn++pins,p.1≠b):Inv X pins σ H' s':=by
 obtain⟨h',g',d',t',o'⟩:=s';have e:o'=s.os:=ho;subst e;exact I.call (g':=g') (t':=t') (d':=d') u hok hg hch
end
noncomputable abbrev XK:=Value->Option Addr->Hp->Prop
noncomputable abbrev St:=List (Option V)
noncomputable abbrev VK:=V->Hp->Prop
noncomputable abbrev TE:=St->Hp->VK->Prop
noncomputable abbrev TT:=St->Hp->(Bool->Hp->Prop)->Prop
noncomputable abbrev TA:=St->Hp->(List V->Hp->Prop)->Prop
structure Ends where
 nx:St->Hp->Prop
 rt:VK
 bk:St->Hp->Prop:=fun _ _=>False
 ct:St->Hp->Prop:=fun _ _=>False
noncomputable abbrev TS:=Ends->St->Hp->Prop
noncomputable def EP (X:Cx) (pins:List (Addr×Obj)) (σ:St) (Q:VK) (u:Value) (s':Shared):Prop:=∃v H',Inv X pins σ H' s'/\a2_ v u/\Q v H'
noncomputable def TP (X:Cx) (pins:List (Addr×Obj)) (σ:St) (Q:Bool->Hp->Prop) (b:Bool) (s':Shared):Prop:=∃H',Inv X pins σ H' s'/\Q b H'
noncomputable def AP (X:Cx) (pins:List (Addr×Obj)) (σ:St) (Q:List V->Hp->Prop) (us:List Value) (s':Shared):Prop:=∃vs H',Inv X pins σ H' s'/\aW_ vs us/\Q vs H'
noncomputable def SP (X:Cx) (pins:List (Addr×Obj)) (D:Ends) (f:Flow) (s':Shared):Prop:=
 match f with
 | .next=>∃σ' H',Inv X pins σ' H' s'/\D.nx σ' H'
 | .brk=>∃σ' H',Inv X pins σ' H' s'/\D.bk σ' H'
 | .cont=>∃σ' H',Inv X pins σ' H' s'/\D.ct σ' H'
 | .ret u=>∃v σ' H',Inv X pins σ' H' s'/\a2_ v u/\D.rt v H'
noncomputable def PE (X:Cx) (e:Expr) (t:TE):Prop:=
 ∀(pins:List (Addr×Obj)) (s:Shared) (σ:St) (H:Hp) (Q:VK),Inv X pins σ H s->t σ H Q->wpAny (model X.prog X.w) X.A (eval e X.env) (EP X pins σ Q) X.xe s
noncomputable def PT (X:Cx) (e:Expr) (t:TT):Prop:=
 ∀(pins:List (Addr×Obj)) (s:Shared) (σ:St) (H:Hp) (Q:Bool->Hp->Prop),Inv X pins σ H s->t σ H Q->wpAny (model X.prog X.w) X.A (isTrue e X.env (eval e X.env)) (TP X pins σ Q) X.xe s
noncomputable def PW (X:Cx) (e:Expr) (t:TT):Prop:=
 ∀(whole:Sem Value) (pins:List (Addr×Obj)) (s:Shared) (σ:St) (H:Hp) (Q:Bool->Hp->Prop),Inv X pins σ H s->t σ H Q->wpAny (model X.prog X.w) X.A (isTrue e X.env whole) (TP X pins σ Q) X.xe s
theorem PW.pt {X:Cx}{e:Expr}{t:TT} (h:PW X e t):PT X e t:=h _
noncomputable def PA (X:Cx) (es:List Expr) (t:TA):Prop:=
 ∀(pos:Pos) (pins:List (Addr×Obj)) (s:Shared) (σ:St) (H:Hp) (Q:List V->Hp->Prop),Inv X pins σ H s->t σ H Q->wpAny (model X.prog X.w) X.A (spliced (backTo pos (starEach es X.env))) (AP X pins σ Q) X.xe s
noncomputable def PS (X:Cx) (st:Stmt) (t:TS):Prop:=
 ∀(pins:List (Addr×Obj)) (s:Shared) (σ:St) (H:Hp) (D:Ends),Inv X pins σ H s->t D σ H->wpAny (model X.prog X.w) X.A (exec st X.env) (SP X pins D) X.xe s
noncomputable def PSs (X:Cx) (st:List Stmt) (t:TS):Prop:=
 ∀(pins:List (Addr×Obj)) (s:Shared) (σ:St) (H:Hp) (D:Ends),Inv X pins σ H s->t D σ H->wpAny (model X.prog X.w) X.A (execs st X.env) (SP X pins D) X.xe s
theorem thn {α:Type}{t:Sem α}{Q Q':α->Shared->Prop}{M:Model}{A:Around}{E:Value->Shared->Prop}{s:Shared} (h:wpAny M A t Q E s) (hQ:∀a s,Q a s->Q' a s):wpAny M A t Q' E s:=BP h hQ fun _ _ x=>x
end L2
namespace L2
open PySem PySem.Spec PyProof.Rows
section
variable {X:Cx}
noncomputable def tE_ (i:Nat):TE:=fun σ H Q=>∃v,σ[i]? =some (some v)/\Q v H
noncomputable def tC (v:V):TE:=fun _ H Q=>Q v H
theorem sy_ {i:Nat}{x:Str}{pos:Pos} (hN:X.N[i]? =some x) (hv:Vis X.env.scope x) (hd:(x==("__debug__":Str))=false:=by decide) (hcd:(x==("__classdict__":Str))=false:=by decide):PE X (.Name x pos) (tE_ i):=by
 intro pins s σ H Q I h;obtain⟨v,e,h⟩:=h;obtain⟨m,hn,hl⟩:=I.loc;obtain⟨u,r,l⟩:=hl i x v hN e hv;have fin:EP X pins σ Q u s:=⟨v,H,I,r,h⟩;rcases l with⟨hk,hm⟩|⟨hk,c,hc,hcell⟩
 .exact wpAny_Name (wpAny_loadName_local I.ok.kind hk hn hm fin) hd
 .rcases hk with hk|hk
  .exact wpAny_Name (wpAny_loadName_cell I.ok.kind hk hc hcell fin) hd
  .exact wpAny_Name (wpAny_loadName_free I.ok.kind hk hc hcell fin hcd) hd
theorem ad_ {i j pos}:PE X (.Constant (.int i) j pos) (tC (.int i)):=fun _ _ _ H _ I h=>wpAny_Constant_int ⟨.int i,H,I.tok _,⟨_,rfl⟩,h⟩
theorem i6_ {b j pos}:PE X (.Constant (.bool b) j pos) (tC (.bl b)):=fun _ _ _ H _ I h=>Constant_bool ⟨.bl b,H,I,rfl,h⟩
theorem sA_ {j pos}:PE X (.Constant .none j pos) (tC .non):=fun _ _ _ H _ I h=>Constant_none ⟨.non,H,I,rfl,h⟩
theorem mA_ {x j pos}:PE X (.Constant (.str x) j pos) (tC (.str x)):=fun _ _ _ H _ I h=>Calls.Constant_str ⟨.str x,H,I.tok _,⟨_,rfl⟩,h⟩
noncomputable def Gl (X:Cx) (x:Str):Prop:=X.env.kindOf x=some .globalImplicit
theorem gV_ {E:Value->Shared->Prop}{pins:List (Addr×Obj)}{s:Shared}{σ:St}{H:Hp}{x:Str}{u:Value}{pos:Pos}{Q:Value->Shared->Prop} (I:Inv X pins σ H s) (hg:Gl X x) (hm:X.mg x=some u) (h:Q u s)
  (hd:(x==("__debug__":Str))=false:=by decide):wpAny (model X.prog X.w) X.A (eval (.Name x pos) X.env) Q E s:=
 Calls.Name_function_global I.ok.kind hg (Calls.loadGlobal_global (by rw [I.ok.glob];exact I.mod.glob.keeps I.bk) hm h) hd
theorem co_ {E:Value->Shared->Prop}{pins:List (Addr×Obj)}{s:Shared}{σ:St}{H:Hp}{x:Str}{u:Value}{pos:Pos}{Q:Value->Shared->Prop} (I:Inv X pins σ H s) (hg:Gl X x) (hm:X.mg x=none) (hv:bootBuiltins x=some u) (h:Q u s)
  (hn:x≠"__name__":=by decide) (hd:(x==("__debug__":Str))=false:=by decide):wpAny (model X.prog X.w) X.A (eval (.Name x pos) X.env) Q E s:=by
 obtain⟨mb,h1,h2⟩:=I.mod.blt;exact Calls.Name_function_global I.ok.kind hg (Calls.loadGlobal_builtin (by rw [I.ok.glob];exact I.mod.glob.keeps I.bk) hm (by rw [I.ok.blt];exact h1.keeps I.bk) ((h2 x hn).trans hv) h) hd
theorem d4_ {x:Str}{v:V}{u:Value}{pos:Pos} (hg:Gl X x) (hm:X.mg x=some u) (r:a2_ v u) (hd:(x==("__debug__":Str))=false:=by decide):PE X (.Name x pos) (tC v):=
 fun _ _ _ H _ I h=>gV_ I hg hm ⟨v,H,I,r,h⟩ hd
theorem d6_ {x:Str}{v:V}{u:Value}{pos:Pos} (hg:Gl X x) (hm:X.mg x=none) (hv:bootBuiltins x=some u) (r:a2_ v u) (hn:x≠"__name__":=by decide) (hd:(x==("__debug__":Str))=false:=by decide):PE X (.Name x pos) (tC v):=
 fun _ _ _ H _ I h=>co_ I hg hm hv ⟨v,H,I,r,h⟩ hn hd
variable {a b:Expr}{ta tb:TE}{pos:Pos}
noncomputable def PC (X:Cx) (op:CmpOp) (a b:Expr) (t:TE):Prop:=
 ∀(pins:List (Addr×Obj)) (s:Shared) (σ:St) (H:Hp) (Q:VK),Inv X pins σ H s->t σ H Q->
  wpAny (model X.prog X.w) X.A (eval a X.env) (fun v s₁=>wpAny (model X.prog X.w) X.A (eval b X.env) (fun u s₂=>wpAny (model X.prog X.w) X.A (compareOp op v u) (EP X pins σ Q) X.xe s₂) X.xe s₁) X.xe s
theorem oG_ (b:Expr) {op:CmpOp} (h:op≠ .In) (h2:op≠ .NotIn):behindInMarks op b=false:=by
 have e1:(op==CmpOp.In)=false:=by cases op<;>first|rfl|exact absurd rfl h
 have e2:(op==CmpOp.NotIn)=false:=by cases op<;>first|rfl|exact absurd rfl h2
 cases b<;>simp [behindInMarks,e1,e2]
noncomputable def tB (t:TE):TT:=fun σ H Q=>t σ H fun x H1=>∃c,x= .bl c/\Q c H1
theorem sr_ {op:CmpOp}{t:TE} (h:PC X op a b t) (h1:behindInMarks op b=false:=by first|exact oG_ _ (by decide) (by decide)|rfl):PT X (.Compare a [op] [b] pos) (tB t):=by
 intro pins s σ H Q I hw;refine wpAny_isTrue_Compare1 (thn (h pins s σ H _ I hw) fun v s1 h1=>thn h1 fun u s2 h2=>thn h2 fun c s3 ⟨x,H1,I1,r1,q1⟩=> ?_) h1;obtain⟨d,rfl,q⟩:=q1;cases r1;exact Bq ⟨H1,I1,q⟩
theorem dG_ {e:Expr}{t:TE} (h:PE X e t) (he:∀whole,isTrue e X.env whole=(do let v<-whole;standAt e.pos;holding [v] (truthy v)):=by intro _;rfl):PT X e (tB t):=by
 intro pins s σ H Q I hw;refine isTrue_plain (thn (h pins s σ H _ I hw) fun v s1 ⟨x,H1,I1,r1,q1⟩=> ?_) (he _);obtain⟨d,rfl,q⟩:=q1;cases r1;exact Bq ⟨H1,I1,q⟩
variable {tA tB':TT}{cv_:List Expr}
noncomputable def vv_ (t u:TT):TT:=fun σ H Q=>t σ H fun c H1=>if c=true then u σ H1 Q else Q false H1
noncomputable def tOr (t u:TT):TT:=fun σ H Q=>t σ H fun c H1=>if c=true then Q true H1 else u σ H1 Q
noncomputable def vr_ (t:TT):TT:=fun σ H Q=>t σ H fun c H1=>Q (!c) H1
theorem qs_ (ha:PT X a tA):PW X (.BoolOp .And [a] pos) tA:=by
 intro wh pins s σ H Q I h;refine isTrue_and (thn (ha pins s σ H Q I h) fun c s1 e=> ?_);cases c with
 |true=>exact isTrue_and_nil e
 |false=>exact e
theorem fQ_ (ha:PT X a tA):PW X (.BoolOp .Or [a] pos) tA:=by
 intro wh pins s σ H Q I h;refine isTrue_or (thn (ha pins s σ H Q I h) fun c s1 e=> ?_);cases c with
 |false=>exact isTrue_or_nil e
 |true=>exact e
theorem sq_ (ha:PT X a tA) (hb:PW X (.BoolOp .And (b::cv_) pos) tB'):PW X (.BoolOp .And (a::b::cv_) pos) (vv_ tA tB'):=by
 intro wh pins s σ H Q I h;refine isTrue_and (thn (ha pins s σ H _ I h) fun c s1 ⟨H1,I1,q1⟩=> ?_);cases c with
 |true=>exact hb wh pins s1 σ H1 Q I1 q1
 |false=>exact⟨H1,I1,q1⟩
theorem hE_ (ha:PT X a tA) (hb:PW X (.BoolOp .Or (b::cv_) pos) tB'):PW X (.BoolOp .Or (a::b::cv_) pos) (tOr tA tB'):=by
 intro wh pins s σ H Q I h;refine isTrue_or (thn (ha pins s σ H _ I h) fun c s1 ⟨H1,I1,q1⟩=> ?_);cases c with
 |true=>exact⟨H1,I1,q1⟩
 |false=>exact hb wh pins s1 σ H1 Q I1 q1
theorem e1_ (ha:PT X a tA):PT X (.UnaryOp .Not a pos) (vr_ tA):=by
 intro pins s σ H Q I h;exact isTrue_not (ha pins s σ H (fun c H1=>Q (!c) H1) I h)
noncomputable def t4_ (ta tb:TE):TE:=fun σ H Q=>ta σ H fun x H1=>∃c,x= .bl c/\if c=true then tb σ H1 Q else Q (.bl false) H1
noncomputable def vq_ (ta tb:TE):TE:=fun σ H Q=>ta σ H fun x H1=>∃c,x= .bl c/\if c=true then Q (.bl true) H1 else tb σ H1 Q
noncomputable def tU_ (ta:TE):TE:=fun σ H Q=>ta σ H fun x H1=>∃c,x= .bl c/\Q (.bl (!c)) H1
theorem mB_ {op}{t:TE} (h:PE X a t):PE X (.BoolOp op [a] pos) t:=fun pins s σ H Q I hw=>BoolOp_one (h pins s σ H Q I hw)
theorem pr_ (ha:PE X a ta) (hb:PE X (.BoolOp .And (b::cv_) pos) tb):PE X (.BoolOp .And (a::b::cv_) pos) (t4_ ta tb):=by
 intro pins s σ H Q I h;refine BoolOp_and (thn (ha pins s σ H _ I h) fun v s1 ⟨x,H1,I1,r1,q1⟩=> ?_);obtain⟨c,rfl,q1⟩:=q1;cases r1;refine Bq ?_;cases c with
 |true=>exact hb pins s1 σ H1 Q I1 q1
 |false=>exact⟨.bl false,H1,I1,rfl,q1⟩
theorem uH_ (ha:PE X a ta) (hb:PE X (.BoolOp .Or (b::cv_) pos) tb):PE X (.BoolOp .Or (a::b::cv_) pos) (vq_ ta tb):=by
 intro pins s σ H Q I h;refine BoolOp_or (thn (ha pins s σ H _ I h) fun v s1 ⟨x,H1,I1,r1,q1⟩=> ?_);obtain⟨c,rfl,q1⟩:=q1;cases r1;refine Bq ?_;cases c with
 |false=>exact hb pins s1 σ H1 Q I1 q1
 |true=>exact⟨.bl true,H1,I1,rfl,q1⟩
theorem sz_ (ha:PE X a ta):PE X (.UnaryOp .Not a pos) (tU_ ta):=by
 intro pins s σ H Q I h;refine UnaryOp_ (thn (ha pins s σ H _ I h) fun v s1 ⟨x,H1,I1,r1,q1⟩=> ?_);obtain⟨c,rfl,q1⟩:=q1;cases r1;exact not_of (Bq ⟨.bl (!c),H1,I1,rfl,q1⟩)
noncomputable def tIf (t:TT) (ta tb:TE):TE:=fun σ H Q=>t σ H fun c H1=>if c=true then ta σ H1 Q else tb σ H1 Q
theorem ou_ {c:Expr} (hc:PT X c tA) (ha:PE X a ta) (hb:PE X b tb):PE X (.IfExp c a b pos) (tIf tA ta tb):=by
 intro pins s σ H Q I h;refine wpAny_IfExp (thn (hc pins s σ H _ I h) fun d s1 ⟨H1,I1,q1⟩=> ?_);cases d with
 |true=>exact ha pins s1 σ H1 Q I1 q1
 |false=>exact hb pins s1 σ H1 Q I1 q1
end
end L2
namespace L2
open PySem PySem.Spec PyProof.Rows
noncomputable def SqL (K:W.Frag) (H:Hp) (a:Addr) (xs:List V):Prop:=
 Rd H a (.lst xs)\/
  ∃(o:Obj) (its:Array Value) (n:Nat),K.lookup a=some o/\o.cls= .type "list"/\o.dict=none/\o.data= .seq its n/\its.size<=sizeLine/\aW_ xs its.toList
noncomputable def SqT (K:W.Frag) (H:Hp) (a:Addr) (xs:List V):Prop:=
 Rd H a (.tup xs)\/
  ∃(o:Obj) (its:Array Value) (n:Nat),K.lookup a=some o/\o.cls= .type "tuple"/\o.data= .seq its n/\its.size<=sizeLine/\aW_ xs its.toList
noncomputable def vU_:Value->Option V
 | .none=>some .non
 | .bool b=>some (.bl b)
 | .int i _=>some (.int i)
 | .str x _=>some (.str x)
 | .bytes b _=>some (.byt b)
 | .float b _=>some (.flt b)
 | .ref a=>some (.ref a)
 | .type n=>some (.ty n)
 |_=>none
theorem a2_.abs {x:V}{u:Value} (r:a2_ x u):vU_ u=some x:=by
 cases x with
 |non=>cases r;rfl
 |bl _=>cases r;rfl
 |int _=>obtain⟨t,rfl⟩:=r;rfl
 |str _=>obtain⟨t,rfl⟩:=r;rfl
 |byt _=>obtain⟨t,rfl⟩:=r;rfl
 |flt _=>obtain⟨t,rfl⟩:=r;rfl
 |ref _=>cases r;rfl
 |ty _=>cases r;rfl
theorem a2_.inj {x y:V}{u:Value} (r:a2_ x u) (q:a2_ y u):x=y:=Ad (r.abs.symm.trans q.abs)
theorem aW_.inj:∀{xs ys:List V}{us:List Value},aW_ xs us->aW_ ys us->xs=ys
 |_,_,_, .nil, .nil=>rfl
 |_,_,_, .cons r t, .cons r' t'=>by rw [r.inj r',aW_.inj t t']
section
variable {X:Cx}{pins:List (Addr×Obj)}{σ:St}{H:Hp}{s:Shared}{a:Addr}{xs ys:List V}
theorem SqL.of {K:W.Frag} (h:H a=some (.lst xs)):SqL K H a xs:= .inl (.inl h)
theorem SqT.of {K:W.Frag} (h:H a=some (.tup xs)):SqT K H a xs:= .inl (.inl h)
theorem Inv.list (I:Inv X pins σ H s) (h:SqL X.K H a xs):∃its:List Value,aW_ xs its/\PlainL s.heap a its.toArray/\xs.length<=sizeLine:=by
 rcases h with h|⟨o,its,n,hk,hc,hd,hs,hz,r⟩
 .obtain⟨z,its,n,r,e⟩:=h.ok I.hok;exact⟨its,r,⟨_,n,e,rfl,rfl,rfl⟩,z⟩
 .refine⟨its.toList,r,⟨o,n,I.kIn a o hk,hc,hd,by simpa using hs⟩, ?_⟩;have e:=r.length;simp only [Ao] at e;lia
theorem Inv.tuple (I:Inv X pins σ H s) (h:SqT X.K H a xs):∃its:List Value,aW_ xs its/\IsTup s.heap a its.toArray/\xs.length<=sizeLine:=by
 rcases h with h|⟨o,its,n,hk,hc,hs,hz,r⟩
 .obtain⟨z,its,r,p⟩:=h.ok I.hok;exact⟨its,r,p,z⟩
 .refine⟨its.toList,r,⟨o,I.kIn a o hk,hc,n,by simpa using hs⟩, ?_⟩;have e:=r.length;simp only [Ao] at e;lia
theorem Inv.list_inj (I:Inv X pins σ H s) (h:SqL X.K H a xs) (h':SqL X.K H a ys):xs=ys:=by
 obtain⟨its,r,⟨o,n,e,_,_,d⟩,_⟩:=I.list h;obtain⟨its',r',⟨o',n',e',_,_,d'⟩,_⟩:=I.list h';rw [e] at e';cases e';rw [d] at d';injection d' with d1 _;have:its=its':=by simpa using congrArg Array.toList d1
 subst this;exact r.inj r'
theorem Inv.tuple_inj (I:Inv X pins σ H s) (h:SqT X.K H a xs) (h':SqT X.K H a ys):xs=ys:=by
 obtain⟨its,r,⟨o,e,_,n,d⟩,_⟩:=I.tuple h;obtain⟨its',r',⟨o',e',_,n',d'⟩,_⟩:=I.tuple h';rw [e] at e';cases e';rw [d] at d';injection d' with d1 _;have:its=its':=by simpa using congrArg Array.toList d1
 subst this;exact r.inj r'
end
noncomputable abbrev Cx.wish (X:Cx) (E:Value->Shared->Prop):Cx:={X with xe:=E}
noncomputable abbrev Cx.nox (X:Cx):Cx:=X.wish fun _ _=>False
theorem Cx.Ok.wish {X:Cx} (ok:X.Ok) (E:Value->Shared->Prop):(X.wish E).Ok:=
 ⟨ok.mod,ok.kind,ok.glob,ok.blt,ok.above,ok.inj,ok.has,ok.cab,ok.hd,ok.frames,ok.stk,ok.exf,ok.bs,ok.bsz,ok.noex,ok.exfs,ok.funs,ok.frf⟩
theorem Cx.Ok.unwish {X:Cx}{E:Value->Shared->Prop} (ok:(X.wish E).Ok):X.Ok:=
 ⟨ok.mod,ok.kind,ok.glob,ok.blt,ok.above,ok.inj,ok.has,ok.cab,ok.hd,ok.frames,ok.stk,ok.exf,ok.bs,ok.bsz,ok.noex,ok.exfs,ok.funs,ok.frf⟩
section
variable {X:Cx}{pins:List (Addr×Obj)}{σ:St}{H:Hp}{s:Shared}{E:Value->Shared->Prop}
theorem Inv.wish (I:Inv X pins σ H s) (E:Value->Shared->Prop):Inv (X.wish E) pins σ H s:=⟨I.ok.wish E,I.os,I.bare,I.base,I.loc,I.cell,I.free,I.freeC,I.pin,I.hok,I.len⟩
theorem Inv.unwish (I:Inv (X.wish E) pins σ H s):Inv X pins σ H s:=⟨I.ok.unwish,I.os,I.bare,I.base,I.loc,I.cell,I.free,I.freeC,I.pin,I.hok,I.len⟩
theorem SP.unwish {D:Ends}{f:Flow}{s':Shared} (h:SP (X.wish E) pins D f s'):SP X pins D f s':=by
 cases f with
 |next=>obtain⟨σ',H',I,q⟩:=h;exact⟨σ',H',I.unwish,q⟩
 |brk=>obtain⟨σ',H',I,q⟩:=h;exact⟨σ',H',I.unwish,q⟩
 |cont=>obtain⟨σ',H',I,q⟩:=h;exact⟨σ',H',I.unwish,q⟩
 |ret u=>obtain⟨v,σ',H',I,r,q⟩:=h;exact⟨v,σ',H',I.unwish,r,q⟩
theorem PSs.nox {st:List Stmt}{t:TS} (h:PSs X.nox st t):PSs X st t:=fun pins s σ H D I hw=>
 BP (h pins s σ H D (I.wish _) hw) (fun _ _ q=>q.unwish) fun _ _ z=>False.elim z
end
section
variable {X:Cx}{st:Stmt}{cv_:List Stmt}{t u:TS}{e:Expr}{te:TE}{pos:Pos}
noncomputable def tW_:TS:=fun D σ H=>D.nx σ H
noncomputable def vo_ (t u:TS):TS:=fun D σ H=>t {D with nx:=u D} σ H
theorem aB_:PSs X [] tW_:=fun _ _ σ H _ I h=>wpAny_execs_nil ⟨σ,H,I,h⟩
theorem ac_ (h1:PS X st t) (h2:PSs X cv_ u):PSs X (st::cv_) (vo_ t u):=by
 intro pins s σ H D I h;refine wpAny_execs_cons (thn (h1 pins s σ H {D with nx:=u D} I h) fun f s1 q=> ?_);cases f with
 |next=>
  obtain⟨σ',H',I',q⟩:=q;exact h2 pins s1 σ' H' D I' q
 |ret v=>exact q
 |brk=>exact q
 |cont=>exact q
theorem ae_ (h1:PS X st t):PSs X [st] t:=by
 intro pins s σ H D I h;refine wpAny_execs_cons (thn (h1 pins s σ H D I h) fun f s1 q=> ?_);cases f with
 |next=>exact wpAny_execs_nil q
 |ret v=>exact q
 |brk=>exact q
 |cont=>exact q
theorem Inv.quiet {pins:List (Addr×Obj)}{σ:St}{H:Hp}{s:Shared} (I:Inv X pins σ H s):interactive X.env=false:=by simp [interactive,I.ok.kind]
noncomputable def t0_ (te:TE):TS:=fun D σ H=>te σ H fun _ H1=>D.nx σ H1
theorem aH_ (he:PE X e te) (hs:swapsWith e none pos.line X.env=pure false:=by rfl):PS X (.Expr e pos) (t0_ te):=by
 intro pins s σ H D I h;exact wpAny_Expr_any (thn (he pins s σ H _ I h) fun v s1 ⟨x,H1,I1,r1,q1⟩=>⟨σ,H1,I1,q1⟩) I.quiet hs
noncomputable def vp_ (te:TE):TS:=fun D σ H=>te σ H D.rt
theorem ap_ (he:PE X e te):PS X (.Return (some e) pos) (vp_ te):=by
 intro pins s σ H D I h;exact wpAny_Return_some (thn (he pins s σ H _ I h) fun v s1 ⟨x,H1,I1,r1,q1⟩=>⟨x,σ,H1,I1,r1,q1⟩)
noncomputable def vs_ (c:TT) (t u:TS):TS:=fun D σ H=>c σ H fun b H1=>if b=true then t D σ H1 else u D σ H1
theorem bl_ {c:Expr}{a b:List Stmt}{tc:TT} (hc:PT X c tc) (ha:PSs X a t) (hb:PSs X b u):PS X (.If c a b pos) (vs_ tc t u):=by
 intro pins s σ H D I h;refine wpAny_If (thn (hc pins s σ H _ I h) fun d s1 ⟨H1,I1,q1⟩=> ?_);cases d with
 |true=>exact ha pins s1 σ H1 D I1 q1
 |false=>exact hb pins s1 σ H1 D I1 q1
noncomputable def rZ_:TS:=fun _ _ _=>False
theorem gr_:PS X st rZ_:=fun _ _ _ _ _ _ h=>h.elim
end
noncomputable abbrev TG:=V->St->Hp->(St->Hp->Prop)->Prop
noncomputable abbrev TGs:=List V->St->Hp->(St->Hp->Prop)->Prop
noncomputable def PG (X:Cx) (target:Expr) (t:TG):Prop:=
 ∀(pins:List (Addr×Obj)) (s:Shared) (σ:St) (H:Hp) (v:V) (u:Value) (Q:St->Hp->Prop),Inv X pins σ H s->a2_ v u->t v σ H Q->
  wpAny (model X.prog X.w) X.A (assign target X.env u) (fun _ s'=>∃σ' H',Inv X pins σ' H' s'/\Q σ' H') X.xe s
noncomputable def PGs (X:Cx) (ts:List Expr) (t:TGs):Prop:=
 ∀(pins:List (Addr×Obj)) (s:Shared) (σ:St) (H:Hp) (vs:List V) (us:List Value) (Q:St->Hp->Prop),Inv X pins σ H s->aW_ vs us->t vs σ H Q->
  wpAny (model X.prog X.w) X.A (assignInOrder ((assignEach ts X.env).map (·.2)) us) (fun _ s'=>∃σ' H',Inv X pins σ' H' s'/\Q σ' H') X.xe s
noncomputable abbrev tz_:=V->V->V->Hp->(Hp->Prop)->Prop
noncomputable def va_ (X:Cx) (t:tz_):Prop:=
 ∀(pins:List (Addr×Obj)) (s:Shared) (σ:St) (H:Hp) (o i v:V) (ov iv u:Value) (Q:Hp->Prop),Inv X pins σ H s->a2_ o ov->a2_ i iv->a2_ v u->t o i v H Q->
  wpAny (model X.prog X.w) X.A (setItem ov iv u) (fun _ s'=>∃H',Inv X pins σ H' s'/\Q H') X.xe s
noncomputable abbrev TIp:=V->V->Hp->VK->Prop
noncomputable def PIp (X:Cx) (op:Operator) (t:TIp):Prop:=
 ∀(pins:List (Addr×Obj)) (s:Shared) (σ:St) (H:Hp) (x y:V) (v u:Value) (Q:VK),Inv X pins σ H s->a2_ x v->a2_ y u->t x y H Q->
  wpAny (model X.prog X.w) X.A (inplaceOp op v u) (EP X pins σ Q) X.xe s
section
variable {X:Cx}{pos:Pos}
noncomputable def dP_ (i:Nat):TG:=fun v σ H Q=>Q (σ.set i (some v)) H
theorem aj_ {i:Nat}{x:Str} (hN:X.N.Nodup) (hi:X.N[i]? =some x) (hx:Loc X.env.scope x) (hf:X.fn x=true\/X.env.scope.names.lookup x=some .local:=by first|exact .inl rfl|exact .inr rfl|assumption):PG X (.Name x pos) (dP_ i):=by
 intro pins s σ H v u Q I r h;exact wpAny_assign_Name (dB_ I hN hi hx r (fun s' I'=>⟨_,H,I',h⟩) hf)
noncomputable def tK_:TGs:=fun vs σ H Q=>vs=[]/\Q σ H
noncomputable def jq_ (t:TG) (u:TGs):TGs:=fun vs σ H Q=>∃v r,vs=v::r/\t v σ H fun σ' H'=>u r σ' H' Q
theorem bd_:PGs X [] tK_:=by
 intro pins s σ H vs us Q I r h;obtain⟨e,h⟩:=h;subst e;cases r;exact assignInOrder_nil ⟨σ,H,I,h⟩
theorem as_ {e:Expr}{es:List Expr}{t:TG}{u:TGs} (h1:PG X e t) (h2:PGs X es u)
  (hs:(assignEach (e::es) X.env).map (·.2)=assign e X.env::(assignEach es X.env).map (·.2):=by rfl):PGs X (e::es) (jq_ t u):=by
 intro pins s σ H vs us Q I r h;obtain⟨v,vr,e1,h⟩:=h;subst e1;cases r with
 |cons r rr=>
  rw [hs];refine assignInOrder_cons (thn (h1 pins s σ H _ _ _ I r h) fun _ s1 ⟨σ1,H1,I1,q1⟩=> ?_);exact h2 pins s1 σ1 H1 _ _ Q I1 rr q1
noncomputable def s8_ (K:W.Frag) (n:Nat) (t:TGs):TG:=fun v σ H Q=>∃a xs,v= .ref a/\SqT K H a xs/\xs.length=n/\t xs σ H Q
theorem cj_ {es:List Expr}{k:Nat}{t:TGs}{n:Nat} (hc:X.calm=true) (h:PGs X es t)
  (hn:(assignEach es X.env).length=n:=by rfl) (hst:(assignEach es X.env).findIdx? (·.1)=none:=by rfl):PG X (.Tuple es k pos) (s8_ X.K n t):=by
 intro pins s σ H v u Q I r hw;obtain⟨a,xs,e1,hq,hl,hw⟩:=hw;subst e1;cases r;obtain⟨its,rv,ht,hz⟩:=I.tuple hq;refine assign_Tuple_tuple (I.ok.hd hc) ht (by simp [hn,<-hl,rv.length]) hst fun h' hx=> ?_;have I1:Inv X pins σ H {s with heap:=h'}:=I.kept (t':=s.toks) fun b o e=>hx b o (AL (AJ e)) e;exact h pins _ σ H xs _ Q I1 (by simpa using rv) hw
noncomputable def vS_ (to ti:TE) (t:tz_):TG:=fun v σ H Q=>to σ H fun o H1=>ti σ H1 fun i H2=>t o i v H2 fun H3=>Q σ H3
theorem sw_ {o i:Expr}{to ti:TE}{t:tz_} (ho:PE X o to) (hi:PE X i ti) (hs:va_ X t)
  (ha:∀v,assign (.Subscript o i pos) X.env v=(do
   let ov<-holding [v] (eval o X.env)
   let iv<-holding [v,ov] (eval i X.env)
   standAt pos
   holding [v,ov,iv] (setItem ov iv v)
   release [v,ov,iv] []):=by intro _;rfl):PG X (.Subscript o i pos) (vS_ to ti t):=by
 intro pins s σ H v u Q I r h;rw [ha];refine A0 (Au (thn (ho pins s σ H _ I h) fun ov s1 ⟨x,H1,I1,r1,q1⟩=> ?_));refine A0 (Au (thn (hi pins s1 σ H1 _ I1 q1) fun iv s2 ⟨y,H2,I2,r2,q2⟩=> ?_));refine A0 (wpAny_standAt (A0 (Au (thn (hs pins s2 σ H2 x y v ov iv u _ I2 r1 r2 r q2) fun _ s3 ⟨H3,I3,q3⟩=> ?_))));exact wpAny_release ⟨σ,H3,I3,q3⟩
noncomputable def tF_ (te:TE) (g:TG):TS:=fun D σ H=>te σ H fun x H1=>g x σ H1 D.nx
theorem st_ {tg e:Expr}{te:TE}{g:TG} (he:PE X e te) (hg:PG X tg g) (hs:swapsWithSole [tg] e pos.line X.env=pure false:=by rfl) (hw:swappedStores [tg] e X.env=pure none:=by rfl)
  (h1:(assignEach [tg] X.env).map (·.2)=[assign tg X.env]:=by rfl):PS X (.Assign [tg] e pos) (tF_ te g):=by
 intro pins s σ H D I h;refine wpAny_Assign_stores (thn (he pins s σ H _ I h) fun v s1 ⟨x,H1,I1,r1,q1⟩=> ?_) hs hw;rw [h1];exact thn (hg pins s1 σ H1 x v _ I1 r1 q1) fun _ s2 q=>q
theorem aq_ {i:Nat}{x:Str}{e:Expr}{te:TE}{pos':Pos} (hN:X.N.Nodup) (hi:X.N[i]? =some x) (hx:Loc X.env.scope x) (he:PE X e te) (hs:swapsWith e (some (.Name x pos')) pos.line X.env=pure false:=by rfl) (hf:X.fn x=true\/X.env.scope.names.lookup x=some .local:=by first|exact .inl rfl|exact .inr rfl|assumption):
  PS X (.Assign [.Name x pos'] e pos) (tF_ te (dP_ i)):=by
 intro pins s σ H D I h;refine wpAny_Assign_Name (thn (he pins s σ H _ I h) fun v s1 ⟨y,H1,I1,r1,q1⟩=> ?_) hs;exact dB_ I1 hN hi hx r1 (fun s2 I2=>⟨_,H1,I2,q1⟩) hf
noncomputable def vu_ (i:Nat) (te:TE) (ti:TIp):TS:=fun D σ H=>∃x,σ[i]? =some (some x)/\te σ H fun y H1=>ti x y H1 fun z H2=>D.nx (σ.set i (some z)) H2
theorem jW_ {i:Nat}{x:Str}{e:Expr}{te:TE}{op:Operator}{ti:TIp}{pos':Pos} (hN:X.N.Nodup) (hi:X.N[i]? =some x) (hx:Loc X.env.scope x) (he:PE X e te) (ho:PIp X op ti) (hf:X.fn x=true\/X.env.scope.names.lookup x=some .local:=by first|exact .inl rfl|exact .inr rfl|assumption):
  PS X (.AugAssign (.Name x pos') op e pos) (vu_ i te ti):=by
 intro pins s σ H D I h;obtain⟨v,e1,h⟩:=h;obtain⟨m,hn,hl⟩:=I.loc;have vis:Vis X.env.scope x:=by rcases hx with k|k;exact .inl k;exact .inr (.inl k)
 obtain⟨u,r,l⟩:=hl i x v hi e1 vis;refine wpAny_AugAssign_Name ?_;have go:wpAny (model X.prog X.w) X.A (eval e X.env) (fun w s₂=>wpAny (model X.prog X.w) X.A (inplaceOp op u w) (fun r s₃=>wpAny (model X.prog X.w) X.A (storeName X.env x r) (fun _=>SP X pins D .next) X.xe s₃) X.xe s₂) X.xe s:=by
  refine thn (he pins s σ H _ I h) fun w s1 ⟨y,H1,I1,r1,q1⟩=> ?_;refine thn (ho pins s1 σ H1 v y u w _ I1 r r1 q1) fun z s2 ⟨zv,H2,I2,r2,q2⟩=> ?_;exact dB_ I2 hN hi hx r2 (fun s3 I3=>⟨_,H2,I3,q2⟩) hf
 rcases l with⟨hk,hm⟩|⟨hk,c,hc,hcell⟩
 .exact wpAny_loadName_local I.ok.kind hk hn hm go
 .rcases hk with hk|hk
  .exact wpAny_loadName_cell I.ok.kind hk hc hcell go
  .rcases hx with k|k
   .have:X.env.scope.names.lookup x=some .free:=hk;rw [k] at this;cases this
   .have:X.env.scope.names.lookup x=some .free:=hk;rw [k] at this;cases this
noncomputable def t3_ (to ti te:TE) (tget:V->V->Hp->VK->Prop) (tip:TIp) (tset:tz_):TS:=fun D σ H=>to σ H fun o H1=>ti σ H1 fun i H2=>tget o i H2 fun x H3=>te σ H3 fun y H4=>tip x y H4 fun z H5=>tset o i z H5 fun H6=>D.nx σ H6
noncomputable def vl_ (X:Cx) (t:V->V->Hp->VK->Prop):Prop:=
 ∀(pins:List (Addr×Obj)) (s:Shared) (σ:St) (H:Hp) (o i:V) (ov iv:Value) (Q:VK),Inv X pins σ H s->a2_ o ov->a2_ i iv->t o i H Q->
  wpAny (model X.prog X.w) X.A (getItem ov iv) (EP X pins σ Q) X.xe s
theorem mt_ {o i e:Expr}{to ti te:TE}{tget:V->V->Hp->VK->Prop}{tip:TIp}{tset:tz_}{op:Operator}{tpos:Pos} (ho:PE X o to) (hi:PE X i ti) (hg:vl_ X tget) (he:PE X e te) (hp:PIp X op tip) (hs:va_ X tset)
  (ha:∀ov iv new,augStore i ov iv new=(do holding [new,ov,iv] (setItem ov iv new);release [new,ov,iv] [];pure .next):=by intros;rfl):PS X (.AugAssign (.Subscript o i tpos) op e pos) (t3_ to ti te tget tip tset):=by
 intro pins s σ H D I h;refine wpAny_AugAssign_SubscriptAny (thn (ho pins s σ H _ I h) fun ov s1 ⟨x1,H1,I1,r1,q1⟩=> ?_) ha;refine thn (hi pins s1 σ H1 _ I1 q1) fun iv s2 ⟨x2,H2,I2,r2,q2⟩=> ?_;refine thn (hg pins s2 σ H2 x1 x2 ov iv _ I2 r1 r2 q2) fun old s3 ⟨x3,H3,I3,r3,q3⟩=> ?_;refine thn (he pins s3 σ H3 _ I3 q3) fun v s4 ⟨x4,H4,I4,r4,q4⟩=> ?_;refine thn (hp pins s4 σ H4 x3 x4 old v _ I4 r3 r4 q4) fun new s5 ⟨x5,H5,I5,r5,q5⟩=> ?_;exact thn (hs pins s5 σ H5 x1 x2 x5 ov iv new _ I5 r1 r2 r5 q5) fun _ s6 ⟨H6,I6,q6⟩=>⟨σ,H6,I6,q6⟩
noncomputable def ipI (f:Int->Int->Int):TIp:=fun x y H Q=>∃i j,x= .int i/\y= .int j/\Q (.int (f i j)) H
theorem pE_:PIp X .Add (ipI fun i j=>i+j):=by
 intro pins s σ H x y v u Q I r1 r2 h;obtain⟨i,j,e1,e2,q⟩:=h;subst e1;subst e2;obtain⟨t,rfl⟩:=r1;obtain⟨t',rfl⟩:=r2;exact iadd_int ⟨.int _,H,I.tok _,⟨_,rfl⟩,q⟩
theorem s3_:PIp X .Sub (ipI fun i j=>i-j):=by
 intro pins s σ H x y v u Q I r1 r2 h;obtain⟨i,j,e1,e2,q⟩:=h;subst e1;subst e2;obtain⟨t,rfl⟩:=r1;obtain⟨t',rfl⟩:=r2;exact isub_int ⟨.int _,H,I.tok _,⟨_,rfl⟩,q⟩
end
section
variable {X:Cx}{pos:Pos}
end
structure It where
 go:Nat->Hp->Prop
 yld:Nat->Hp->V->Hp->Prop
 stop:Nat->Hp->Prop
noncomputable def iG_ (X:Cx) (pins:List (Addr×Obj)) (H:Hp) (b:Addr):Prop:=
 H b=none/\b≠X.env.locals/\b∉X.fs/\(b∈X.ex\/X.s₀.heap.objs.size<=b)/\(∀x c,X.env.cells.lookup x=some c->c≠b)/\∀p∈X.pn++pins,p.1≠b
theorem Inv.fpOk {X:Cx}{pins:List (Addr×Obj)}{σ:St}{H H':Hp}{s:Shared}{b:Addr} (I:Inv X pins σ H s) (hb:s.heap.objs.size<=b) (hn:H' b=none):iG_ X pins H' b:=by
 refine⟨hn,BY (Af I.lt hb),I.nofs hb, .inr (B2 I.sz hb),fun x c e z=> ?_,fun p hp z=> ?_⟩
 .obtain⟨v,q⟩:=I.cell x c e;exact absurd (Af q.lt (by rw [z];exact hb)) (Bs _)
 .exact absurd (Af (AJ (I.pin p hp).1) (by rw [z];exact hb)) (Bs _)
structure Turn (P:Program) (w:World) (K:W.Frag) (tg:Expr) (J:It) (fp:List Addr) (it:Addr) (tn:Nat->Heap->Prop):Prop where
 mem:it∈fp
 obj:∀i h,tn i h->∀b∈fp,∃o,h.get? b=some o/\∀v,o.data≠ .cell v
 keep:∀i h h',tn i h->(∀b∈fp,∀o,h.get? b=some o->h'.get? b=some o)->tn i h'
 item:∀(X:Cx),X.prog=P->X.w=w->X.K=K->X.calm=true->∀(i:Nat) (pins:List (Addr×Obj)) (s:Shared) (σ:St) (H:Hp) (E:Value->Shared->Prop),Inv X pins σ H s->(∀b∈fp,iG_ X pins H b)->tn i s.heap->J.go i H->
  wpAny (model P w) X.A (pyNext (.ref it)) (fun r s1=>∃u,r=some u/\
   wpAny (model P w) X.A (letOwnedTupleGo tg (.ref it) u) (fun _ s2=>∃x H',Inv X pins σ H' s2/\a2_ x u/\J.yld i H x H'/\tn (i+1) s2.heap/\∀b∈fp,H' b=none) E s1) E s
 done:∀(X:Cx),X.prog=P->X.w=w->X.K=K->X.calm=true->∀(i:Nat) (pins:List (Addr×Obj)) (s:Shared) (σ:St) (H:Hp) (E:Value->Shared->Prop),Inv X pins σ H s->(∀b∈fp,iG_ X pins H b)->tn i s.heap->J.stop i H->
  wpAny (model P w) X.A (pyNext (.ref it)) (fun r s1=>r=none/\Inv X pins σ H s1) E s
 self:∀(A:Around) (i:Nat) (s:Shared) (Q:Value->Shared->Prop) (E:Value->Shared->Prop),tn i s.heap->Q (.ref it) s->wpAny (model P w) A (pyIter (.ref it)) Q E s
noncomputable abbrev TI:=St->Hp->(It->Hp->Prop)->Prop
noncomputable def PIE (X:Cx) (pins:List (Addr×Obj)) (σ:St) (tg:Expr) (R:It->Hp->Prop) (itv:Value) (s2:Shared):Prop:=
 ∃(it:Addr) (fp:List Addr) (tn:Nat->Heap->Prop) (J:It) (H':Hp),itv= .ref it/\Inv X pins σ H' s2/\Turn X.prog X.w X.K tg J fp it tn/\tn 0 s2.heap/\(∀b∈fp,iG_ X pins H' b)/\R J H'
noncomputable def PI (X:Cx) (tg iter:Expr) (wi:TI):Prop:=
 ∀(pins:List (Addr×Obj)) (s:Shared) (σ:St) (H:Hp) (R:It->Hp->Prop),Inv X pins σ H s->wi σ H R->
  wpAny (model X.prog X.w) X.A (eval iter X.env) (fun v s1=>wpAny (model X.prog X.w) X.A (pyIter v) (PIE X pins σ tg R) X.xe s1) X.xe s
theorem go_of {M : Model} {A : Around} {E : Value -> Shared -> Prop} {s : Shared} {tg : Expr} {it : Addr} {u : Value} {o : Obj} {n : String} {vs : Array Value} {Q : Unit -> Shared -> Prop} (ho : s.heap.get? it = some o) (hc : o.cls = .type n) (hd : o.data = .fields vs)
    (hn : ["enumerate", "zip", "dict_itemiterator", "dict_reverseitemiterator", "odict_iterator", "itertools.zip_longest", "itertools.pairwise"].contains n = false) (hQ : Q () s) : wpAny M A (letOwnedTupleGo tg (.ref it) u) Q E s := by
  unfold letOwnedTupleGo;cases tg <;> first
    | exact A2 hQ
    | (cases u <;> first
        | exact A2 hQ
        | (refine A0 (wpAny_load ho ?_)
           rw [hc, hd];show wpAny M A (if (["enumerate", "zip", "dict_itemiterator", "dict_reverseitemiterator", "odict_iterator", "itertools.zip_longest", "itertools.pairwise"].contains n && vs[0]? == some (rawInt _)) = true then _ else _) Q E s;rw [A3 (by intro h; rw [hn, Bool.false_and] at h; cases h)];exact A2 hQ))
noncomputable def Itl (K:W.Frag) (a:Addr):It:=
 ⟨fun i H=>∃xs x,SqL K H a xs/\xs[i]? =some x,fun i H x H'=>H'=H/\∀xs,SqL K H a xs->xs[i]? =some x,fun i H=>∃xs,SqL K H a xs/\xs.length<=i⟩
noncomputable def Itt (K:W.Frag) (a:Addr):It:=
 ⟨fun i H=>∃xs x,SqT K H a xs/\xs[i]? =some x,fun i H x H'=>H'=H/\∀xs,SqT K H a xs->xs[i]? =some x,fun i H=>∃xs,SqT K H a xs/\xs.length<=i⟩
noncomputable def Itr (lo:Int) (n:Nat):It:=⟨fun i _=>i<n,fun i H x H'=>H'=H/\x= .int (lo+i),fun i _=>n<=i⟩
theorem lU_ {P:Program}{w:World}{K:W.Frag}{tg:Expr} (a it:Addr):Turn P w K tg (Itl K a) [it] it (fun i h=>h.IsListIter it a i) where
 mem:=by simp
 obj:=fun i h st b hb=>by
  have e:b=it:=by simpa using hb
  subst e;obtain⟨o,e,c,d⟩:=st;exact⟨o,e,fun v z=>by rw [d] at z;cases z⟩
 keep:=fun i h h' st k=>st.at fun o e=>k it (by simp) o e
 item:=by
  intro X hP hw hK hc i pins s σ H E I hf st hg;subst hP hw hK;obtain⟨xs,x,hq,hx⟩:=hg;obtain⟨its,rv,p,hz⟩:=I.list hq;obtain⟨u,hu,ru⟩:=rv.get hx;obtain⟨f0,f1,f2,f3,f4,f5⟩:=hf it (by simp);refine wpAny_pyNext_list_item st p.isList (x:=u) (by simpa using hu) fun h' st' sb=> ?_;have I1:Inv X pins σ H {s with heap:=h'}:=I.turned (t':=s.toks) (fun b o hb e=>(sb.2 b hb).trans e) f0 f1 f3 f4 f5;obtain⟨o,e,c,d⟩:=id st';exact⟨u,rfl,go_of (s:={s with heap:=h'}) e c d (by decide) ⟨x,H,I1,ru,⟨rfl,fun ys hy=>by rw [I.list_inj hy hq];exact hx⟩,st',fun b hb=>(hf b hb).1⟩⟩
 done:=by
  intro X hP hw hK hc i pins s σ H E I hf st hg;subst hP hw hK;obtain⟨xs,hq,hx⟩:=hg;obtain⟨its,rv,p,hz⟩:=I.list hq;obtain⟨f0,f1,f2,f3,f4,f5⟩:=hf it (by simp);have hl:=rv.length;exact wpAny_pyNext_list_end (I.ok.hd hc) st p.isList (by simp;lia) fun h' eb=>⟨rfl,I.turned (t':=s.toks) (fun b o hb e=>eb b o hb e) f0 f1 f3 f4 f5⟩
 self:=fun _ _ _ _ _ st h=>wpAny_pyIter_listiter st h
theorem kT_ {P:Program}{w:World}{K:W.Frag}{tg:Expr} (a it:Addr):Turn P w K tg (Itt K a) [it] it (fun i h=>h.IsTupleIter it a i) where
 mem:=by simp
 obj:=fun i h st b hb=>by
  have e:b=it:=by simpa using hb
  subst e;obtain⟨o,e,c,d⟩:=st;exact⟨o,e,fun v z=>by rw [d] at z;cases z⟩
 keep:=fun i h h' st k=>st.at fun o e=>k it (by simp) o e
 item:=by
  intro X hP hw hK hc i pins s σ H E I hf st hg;subst hP hw hK;obtain⟨xs,x,hq,hx⟩:=hg;obtain⟨its,rv,p,hz⟩:=I.tuple hq;obtain⟨u,hu,ru⟩:=rv.get hx;obtain⟨f0,f1,f2,f3,f4,f5⟩:=hf it (by simp);refine wpAny_pyNext_tuple_item st (show s.heap.IsTuple a its.toArray from p) (x:=u) (by simpa using hu) fun h' st' sb=> ?_;have I1:Inv X pins σ H {s with heap:=h'}:=I.turned (t':=s.toks) (fun b o hb e=>(sb.2 b hb).trans e) f0 f1 f3 f4 f5;obtain⟨o,e,c,d⟩:=id st';exact⟨u,rfl,go_of (s:={s with heap:=h'}) e c d (by decide) ⟨x,H,I1,ru,⟨rfl,fun ys hy=>by rw [I.tuple_inj hy hq];exact hx⟩,st',fun b hb=>(hf b hb).1⟩⟩
 done:=by
  intro X hP hw hK hc i pins s σ H E I hf st hg;subst hP hw hK;obtain⟨xs,hq,hx⟩:=hg;obtain⟨its,rv,p,hz⟩:=I.tuple hq;obtain⟨f0,f1,f2,f3,f4,f5⟩:=hf it (by simp);have hl:=rv.length;exact wpAny_pyNext_tuple_end (I.ok.hd hc) st (show s.heap.IsTuple a its.toArray from p) (by simp;lia) fun h' eb=>⟨rfl,I.turned (t':=s.toks) (fun b o hb e=>eb b o hb e) f0 f1 f3 f4 f5⟩
 self:=fun _ _ _ _ _ st h=>wpAny_pyIter_tupleiter st h
theorem kU_ {P:Program}{w:World}{K:W.Frag}{tg:Expr} (it:Addr) (lo:Int) (n:Nat):Turn P w K tg (Itr lo n) [it] it (fun i h=>IsRangeIter h it (lo+(i:Nat)*1) ((n:Int)-(i:Nat)) 1) where
 mem:=by simp
 obj:=fun i h st b hb=>by
  have e:b=it:=by simpa using hb
  subst e;exact⟨_,st,fun v z=>by
   have z':Data.fields _=Data.cell v:=z;cases z'⟩
 keep:=fun i h h' st k=>k it (by simp) _ st
 item:=by
  intro X hP hw hK hc i pins s σ H E I hf st hg;subst hP hw hK;obtain⟨f0,f1,f2,f3,f4,f5⟩:=hf it (by simp);have Wq:=Walks.range (prog:=X.prog) (w:=X.w) (I.ok.hd hc) it lo 1 n;refine Wq.item i s _ _ hg st fun v h' tk hv st' kk=> ?_;obtain⟨t,rfl⟩:=hv;have I1:Inv X pins σ H {s with heap:=h',toks:=tk}:=I.turned (fun b o hb e=>kk b o (by simpa using hb) e) f0 f1 f3 f4 f5;refine⟨_,rfl,go_of (s:={s with heap:=h',toks:=tk}) (n:="range_iterator") st' rfl rfl (by decide) ⟨.int (lo+i),H,I1,⟨t, ?_⟩,⟨rfl,rfl⟩,st',fun b hb=>(hf b hb).1⟩⟩;rw [Int.mul_one]
 done:=by
  intro X hP hw hK hc i pins s σ H E I hf st hg;subst hP hw hK;obtain⟨f0,f1,f2,f3,f4,f5⟩:=hf it (by simp);exact wpAny_pyNext_range_end (I.ok.hd hc) st (by have:n<=i:=hg;lia) fun h' eb=>⟨rfl,I.turned (t':=s.toks) (fun b o hb e=>eb b o hb e) f0 f1 f3 f4 f5⟩
 self:=fun _ _ _ _ _ st h=>wpAny_pyIter_rangeiter st h
end L2
namespace L2
open PySem PySem.Spec PyProof.Rows
section
variable {X:Cx}{tg:Expr}
noncomputable def uX_ (K:W.Frag) (tl:TE):TI:=fun σ H R=>tl σ H fun x H1=>∃a,x= .ref a/\(∃xs,SqL K H1 a xs)/\R (Itl K a) H1
noncomputable def vR_ (K:W.Frag) (tl:TE):TI:=fun σ H R=>tl σ H fun x H1=>∃a,x= .ref a/\(∃xs,SqT K H1 a xs)/\R (Itt K a) H1
theorem aJ_ {l:Expr}{tl:TE} (hl:PE X l tl):PI X tg l (uX_ X.K tl):=by
 intro pins s σ H R I h;refine thn (hl pins s σ H _ I h) fun v s1 ⟨x,H1,I1,r1,q1⟩=> ?_;obtain⟨a,e,⟨xs,hq⟩,q⟩:=q1;subst e;cases r1;obtain⟨its,rv,p,hz⟩:=I1.list hq;refine wpAny_pyIter_list p.isList ?_;refine⟨s1.heap.objs.size,[s1.heap.objs.size],_,_,H1,rfl,I1.kept (t':=s1.toks) fun b o e=>A7 _ e,lU_ a _,⟨_,AH _ rfl,rfl,rfl⟩,fun b hb=> ?_,q⟩;have e:b=s1.heap.objs.size:=by simpa using hb
 subst e;exact I1.fpOk (A9 _) (I1.hok.fresh (A9 _))
theorem sv_ {l:Expr}{tl:TE} (hl:PE X l tl):PI X tg l (vR_ X.K tl):=by
 intro pins s σ H R I h;refine thn (hl pins s σ H _ I h) fun v s1 ⟨x,H1,I1,r1,q1⟩=> ?_;obtain⟨a,e,⟨xs,hq⟩,q⟩:=q1;subst e;cases r1;obtain⟨its,rv,p,hz⟩:=I1.tuple hq;refine Cp (show s1.heap.IsTuple a its.toArray from p) ?_;refine⟨s1.heap.objs.size,[s1.heap.objs.size],_,_,H1,rfl,I1.kept (t':=s1.toks) fun b o e=>A7 _ e,kT_ a _,⟨_,AH _ rfl,rfl,rfl⟩,fun b hb=> ?_,q⟩;have e:b=s1.heap.objs.size:=by simpa using hb
 subst e;exact I1.fpOk (A9 _) (I1.hok.fresh (A9 _))
theorem jV_ {pins:List (Addr×Obj)}{σ:St}{H:Hp}{s:Shared}{R:It->Hp->Prop}{E:Value->Shared->Prop}{lo hi:Int}{t u v:Tok}{tk:Nat} (I:Inv X pins σ H s) (h1: -(2^62)<=lo) (h2:lo<2^62) (h3: -(2^62)<=hi) (h4:hi<2^62)
  (q:R (Itr lo (hi-lo).toNat) H):wpAny (model X.prog X.w) X.A (pyIter (.ref s.heap.objs.size)) (PIE X pins σ tg R) E {s with heap:=s.heap.push {cls:= .type "range",data:= .fields #[.int lo t, .int hi u, .int 1 v]},toks:=tk}:=by
 refine wpAny_pyIter_range (IsRange.new ..) (small_one h1 h2 h3 h4) ?_;have I1:Inv X pins σ H {s with heap:=s.heap.push {cls:= .type "range",data:= .fields #[.int lo t, .int hi u, .int 1 v]},toks:=tk}:=I.kept fun b o e=>A7 _ e;refine⟨(s.heap.push {cls:= .type "range",data:= .fields #[.int lo t, .int hi u, .int 1 v]}).objs.size,[(s.heap.push {cls:= .type "range",data:= .fields #[.int lo t, .int hi u, .int 1 v]}).objs.size],_,_,H,rfl,
  I1.kept (t':=tk) fun b o e=>A7 _ e,kU_ _ lo (hi-lo).toNat, ?_,fun b hb=> ?_,q⟩
 .have e1:lo+((0:Nat):Int)*1=lo:=by simp
  have e2:(((hi-lo).toNat:Nat):Int)-((0:Nat):Int)=Builtin.Range.rangeSize lo hi 1:=by rw [rangeSize_one];split<;>lia
  show IsRangeIter _ _ (lo+((0:Nat):Int)*1) ((((hi-lo).toNat:Nat):Int)-((0:Nat):Int)) 1;rw [e1,e2];exact AH _ rfl
 .have e:b=(s.heap.push {cls:= .type "range",data:= .fields #[.int lo t, .int hi u, .int 1 v]}).objs.size:=by simpa using hb
  subst e;exact I1.fpOk (A9 _) (I1.hok.fresh (A9 _))
noncomputable def uW_ (ta:TA):TI:=fun σ H R=>ta σ H fun vs H1=>∃j:Int,vs=[.int j]/\-(2^62)<=j/\j<2^62/\R (Itr 0 j.toNat) H1
noncomputable def uV_ (ta:TA):TI:=fun σ H R=>ta σ H fun vs H1=>∃i j:Int,vs=[.int i, .int j]/\(-(2^62)<=i/\i<2^62/\-(2^62)<=j/\j<2^62)/\R (Itr i (j-i).toNat) H1
theorem ci_ {a:Expr}{ta:TA}{p pos:Pos} (hg:Gl X "range") (hm:X.mg "range"=none) (ha:PA X [a] ta) (hs:starEach [a] X.env=[(false,eval a X.env)]:=by rfl):PI X tg (.Call (.Name "range" p) [a] [] pos) (uW_ ta):=by
 intro pins s σ H R I h;refine Call_ (co_ I hg hm boot_range (B5 (thn (ha pos pins s σ H _ I h) fun us s1 ⟨vs,H1,I1,r1,q1⟩=> ?_) hs rfl));obtain⟨j,e,q1,q2,q⟩:=q1;subst e;cases r1 with
 |cons r rr=>
  cases rr;obtain⟨t,rfl⟩:=r;exact call_range_1 (jV_ I1 (by lia) (by lia) q1 q2 (by simpa using q))
theorem bT_ {a b:Expr}{ta:TA}{p pos:Pos} (hg:Gl X "range") (hm:X.mg "range"=none) (ha:PA X [a,b] ta) (hs:starEach [a,b] X.env=[(false,eval a X.env),(false,eval b X.env)]:=by rfl) (hs2:starEach [b] X.env=[(false,eval b X.env)]:=by rfl):
  PI X tg (.Call (.Name "range" p) [a,b] [] pos) (uV_ ta):=by
 intro pins s σ H R I h;refine Call_ (co_ I hg hm boot_range (B5 (thn (ha pos pins s σ H _ I h) fun us s1 ⟨vs,H1,I1,r1,q1⟩=> ?_) (by rw [hs,hs2]) (by rw [hs2];rfl)));obtain⟨i,j,e,⟨q1,q2,q3,q4⟩,q⟩:=q1;subst e;cases r1 with
 |cons r rr=>
  cases rr with
  |cons r' rr=>
   cases rr;obtain⟨t,rfl⟩:=r;obtain⟨t',rfl⟩:=r';exact call_range_2 (jV_ I1 q1 q2 q3 q4 q)
noncomputable def vt_ (wi:TI) (g:TG) (tb:TS):TS:=fun D σ H=>wi σ H fun J H1=>∃Wq:Nat->Nat->St->Hp->Prop,(∃m,Wq 0 m σ H1)/\∀i m σ H,Wq i m σ H->
 (J.stop i H/\D.nx σ H)\/(J.go i H/\∃N:St->Hp->Prop,(∀σ' H',N σ' H'->∃m',m'<m/\Wq (i+1) m' σ' H')/\∀x H',J.yld i H x H'->g x σ H' fun σ2 H2=>tb {D with nx:=N,ct:=N,bk:=D.nx} σ2 H2)
noncomputable def hF_ (fp:List Addr) (h:Heap):List (Addr×Obj):=fp.filterMap fun b=>(h.get? b).map fun o=>(b,o)
theorem c5_ {fp:List Addr}{h:Heap}{b:Addr}{o:Obj} (hb:b∈fp) (e:h.get? b=some o):(b,o)∈hF_ fp h:=D9.mpr ⟨b,hb,by rw [e];rfl⟩
theorem mN_ {fp:List Addr}{h:Heap}{p:Addr×Obj} (hp:p∈hF_ fp h):p.1∈fp/\h.get? p.1=some p.2:=by
 obtain⟨b,hb,e⟩:=D9.mp hp;cases q:h.get? b with
 |none=>rw [q] at e;cases e
 |some o=>
  rw [q] at e;have e':(b,o)=p:=Ad e;subst e';exact⟨hb,q⟩
theorem Inv.pinned {pins:List (Addr×Obj)}{σ:St}{H:Hp}{s:Shared}{fp:List Addr} (I:Inv X pins σ H s) (hf:∀b∈fp,iG_ X pins H b) (ho:∀b∈fp,∃o,s.heap.get? b=some o/\∀v,o.data≠ .cell v):Inv X (pins++hF_ fp s.heap) σ H s:=
 I.pins_of fun p hp=>(BK.mp hp).elim (fun z=>I.pin p (Ar _ z)) fun z=>by
  obtain⟨hb,e⟩:=mN_ z;obtain⟨f0,f1,f2,_⟩:=hf p.1 hb;obtain⟨o,e',d⟩:=ho p.1 hb;rw [e] at e';cases e';exact⟨e,f0,f1,f2,d⟩
theorem Inv.unpinned {pins pl:List (Addr×Obj)}{σ:St}{H:Hp}{s:Shared} (I:Inv X (pins++pl) σ H s):Inv X pins σ H s:=I.pins_of fun p hp=>I.pin p (Ar _ (Cv _ hp))
theorem aA_ {iter:Expr}{body:List Stmt}{wi:TI}{g:TG}{tb:TS}{pos:Pos} (hp:PassesOwn (model X.prog X.w) X.A X.env X.xe) (hc:X.calm=true) (hi:PI X tg iter wi) (hg:PG X tg g) (hb:PSs X body tb)
  (hs:∀x,foldedSetIterable iter X.env x=pure x:=by intro _;rfl):PS X (.For tg iter body [] pos) (vt_ wi g tb):=by
 intro pins s σ H D I h;refine wpAny_For (thn (hi pins s σ H _ I h) fun v s1 h1=>thn h1 fun itv s2 h2=> ?_) hs;obtain⟨it,fp,tn,J,H2,e,I2,T,st2,f2,Wq,⟨m0,w0⟩,turn⟩:=h2;subst e;have stat:∀{H':Hp},(∀b∈fp,H' b=none)->∀b∈fp,iG_ X pins H' b:=fun hn b hb=>⟨hn b hb,(f2 b hb).2⟩;refine codeAny_forLoop_any (fun n s'=>∃i σ' H',Inv X pins σ' H' s'/\tn i s'.heap/\(∀b∈fp,H' b=none)/\Wq i n σ' H') ?_ m0 ⟨0,σ,H2,I2,st2,fun b hb=>(f2 b hb).1,w0⟩;rintro n s3 ⟨i,σ3,H3,I3,st3,fr3,w3⟩;rcases turn i n σ3 H3 w3 with⟨stop,qn⟩|⟨go,N,hN,step⟩
 .refine DB hp (thn (T.done X rfl rfl rfl hc i pins s3 σ3 H3 X.xe I3 (stat fr3) st3 stop) fun r s4 ⟨hr,I4⟩=> ?_);subst hr;exact wpAny_execs_nil ⟨σ3,H3,I4,qn⟩
 .refine DB hp (thn (T.item X rfl rfl rfl hc i pins s3 σ3 H3 X.xe I3 (stat fr3) st3 go) fun r s4 ⟨u,hr,h4⟩=> ?_);subst hr;refine DB hp (thn h4 fun _ s5 ⟨x,H5,I5,r5,y5,st5,fr5⟩=> ?_);have I5':=I5.pinned (stat fr5) (T.obj _ _ st5);refine DB hp (thn (hg _ s5 σ3 H5 x u _ I5' r5 (step x H5 y5)) fun _ s6 ⟨σ6,H6,I6,q6⟩=> ?_);refine DB hp (thn (hb _ s6 σ6 H6 _ I6 q6) fun f s7 q7=> ?_);have again:∀{σ7:St}{H7:Hp},Inv X (pins++hF_ fp s5.heap) σ7 H7 s7->N σ7 H7->∃m,m<n/\∃i σ' H',Inv X pins σ' H' s7/\tn i s7.heap/\(∀b∈fp,H' b=none)/\Wq i m σ' H':=fun{σ7 H7} I7 n7=>by
   obtain⟨m',hm,w7⟩:=hN σ7 H7 n7;refine⟨m',hm,i+1,σ7,H7,I7.unpinned,T.keep _ _ _ st5 fun b hb o e=>(I7.pin (b,o) (Ar _ (Ar _ (c5_ hb e)))).1,fun b hb=> ?_,w7⟩;obtain⟨o,e,d⟩:=T.obj _ _ st5 b hb;exact(I7.pin (b,o) (Ar _ (Ar _ (c5_ hb e)))).2.1
  cases f with
  |next=>obtain⟨σ7,H7,I7,n7⟩:=q7;exact again I7 n7
  |cont=>obtain⟨σ7,H7,I7,n7⟩:=q7;exact again I7 n7
  |brk=>obtain⟨σ7,H7,I7,q7⟩:=q7;exact⟨σ7,H7,I7.unpinned,q7⟩
  |ret v=>obtain⟨x7,σ7,H7,I7,r7,q7⟩:=q7;exact⟨x7,σ7,H7,I7.unpinned,r7,q7⟩
end
theorem aL_ {K:W.Frag}{a:Addr}{xs:List V}{g:TG}{tb:TS}{D:Ends}{σ:St}{H:Hp} (Pv:Nat->St->Hp->Prop) (h0:Pv 0 σ H) (hl:∀i σ H,i<=xs.length->Pv i σ H->SqL K H a xs)
  (hs:∀i x σ H,xs[i]? =some x->Pv i σ H->g x σ H fun σ2 H2=>tb {D with nx:=Pv (i+1),ct:=Pv (i+1),bk:=D.nx} σ2 H2) (hd:∀σ H,Pv xs.length σ H->D.nx σ H):
  ∃Wq:Nat->Nat->St->Hp->Prop,(∃m,Wq 0 m σ H)/\∀i m σ H,Wq i m σ H->
   ((Itl K a).stop i H/\D.nx σ H)\/((Itl K a).go i H/\∃N:St->Hp->Prop,(∀σ' H',N σ' H'->∃m',m'<m/\Wq (i+1) m' σ' H')/\∀x H',(Itl K a).yld i H x H'->g x σ H' fun σ2 H2=>tb {D with nx:=N,ct:=N,bk:=D.nx} σ2 H2):=by
 refine⟨fun i m σ H=>m=xs.length-i/\i<=xs.length/\Pv i σ H,⟨xs.length,by simp,AO _,h0⟩, ?_⟩;rintro i m σ H ⟨rfl,hi,p⟩;have q:=hl i σ H hi p;by_cases hlt:i<xs.length
 .refine .inr ⟨⟨xs,xs[i],q,by simp [hlt]⟩,Pv (i+1),fun σ' H' p'=>⟨xs.length-(i+1),by lia,rfl,hlt,p'⟩,fun x H' y=> ?_⟩;obtain⟨e,y⟩:=y;subst e;exact hs i x σ _ (y xs q) p
 .have e:i=xs.length:=by lia
  subst e;exact .inl ⟨⟨xs,q,A9 _⟩,hd σ H p⟩
theorem rg_ {K:W.Frag}{a:Addr}{xs:List V}{g:TG}{tb:TS}{D:Ends}{σ:St}{H:Hp} (Pv:Nat->St->Hp->Prop) (h0:Pv 0 σ H) (hl:∀i σ H,i<=xs.length->Pv i σ H->SqT K H a xs)
  (hs:∀i x σ H,xs[i]? =some x->Pv i σ H->g x σ H fun σ2 H2=>tb {D with nx:=Pv (i+1),ct:=Pv (i+1),bk:=D.nx} σ2 H2) (hd:∀σ H,Pv xs.length σ H->D.nx σ H):
  ∃Wq:Nat->Nat->St->Hp->Prop,(∃m,Wq 0 m σ H)/\∀i m σ H,Wq i m σ H->
   ((Itt K a).stop i H/\D.nx σ H)\/((Itt K a).go i H/\∃N:St->Hp->Prop,(∀σ' H',N σ' H'->∃m',m'<m/\Wq (i+1) m' σ' H')/\∀x H',(Itt K a).yld i H x H'->g x σ H' fun σ2 H2=>tb {D with nx:=N,ct:=N,bk:=D.nx} σ2 H2):=by
 refine⟨fun i m σ H=>m=xs.length-i/\i<=xs.length/\Pv i σ H,⟨xs.length,by simp,AO _,h0⟩, ?_⟩;rintro i m σ H ⟨rfl,hi,p⟩;have q:=hl i σ H hi p;by_cases hlt:i<xs.length
 .refine .inr ⟨⟨xs,xs[i],q,by simp [hlt]⟩,Pv (i+1),fun σ' H' p'=>⟨xs.length-(i+1),by lia,rfl,hlt,p'⟩,fun x H' y=> ?_⟩;obtain⟨e,y⟩:=y;subst e;exact hs i x σ _ (y xs q) p
 .have e:i=xs.length:=by lia
  subst e;exact .inl ⟨⟨xs,q,A9 _⟩,hd σ H p⟩
theorem aY_ {lo:Int}{n:Nat}{g:TG}{tb:TS}{D:Ends}{σ:St}{H:Hp} (Pv:Nat->St->Hp->Prop) (h0:Pv 0 σ H)
  (hs:∀i σ H,i<n->Pv i σ H->g (.int (lo+i)) σ H fun σ2 H2=>tb {D with nx:=Pv (i+1),ct:=Pv (i+1),bk:=D.nx} σ2 H2) (hd:∀σ H,Pv n σ H->D.nx σ H):
  ∃Wq:Nat->Nat->St->Hp->Prop,(∃m,Wq 0 m σ H)/\∀i m σ H,Wq i m σ H->
   ((Itr lo n).stop i H/\D.nx σ H)\/((Itr lo n).go i H/\∃N:St->Hp->Prop,(∀σ' H',N σ' H'->∃m',m'<m/\Wq (i+1) m' σ' H')/\∀x H',(Itr lo n).yld i H x H'->g x σ H' fun σ2 H2=>tb {D with nx:=N,ct:=N,bk:=D.nx} σ2 H2):=by
 refine⟨fun i m σ H=>m=n-i/\i<=n/\Pv i σ H,⟨n,by simp,AO _,h0⟩, ?_⟩;rintro i m σ H ⟨rfl,hi,p⟩;by_cases hlt:i<n
 .refine .inr ⟨hlt,Pv (i+1),fun σ' H' p'=>⟨n-(i+1),by lia,rfl,hlt,p'⟩,fun x H' y=> ?_⟩;obtain⟨e,y⟩:=y;subst e y;exact hs i σ _ hlt p
 .have e:i=n:=by lia
  subst e;exact .inl ⟨A9 _,hd σ H p⟩
end L2
namespace L2
open PySem PySem.Spec PyProof.Rows
noncomputable abbrev R2:=V->V->Hp->VK->Prop
noncomputable def OpR (X:Cx) (f:Value->Value->Sem Value) (r:R2):Prop:=
 ∀(pins:List (Addr×Obj)) (s:Shared) (σ:St) (H:Hp) (x y:V) (v u:Value) (Q:VK),Inv X pins σ H s->a2_ x v->a2_ y u->r x y H Q->
  wpAny (model X.prog X.w) X.A (f v u) (EP X pins σ Q) X.xe s
noncomputable def UnR (X:Cx) (f:Value->Sem Value) (r:V->Hp->VK->Prop):Prop:=
 ∀(pins:List (Addr×Obj)) (s:Shared) (σ:St) (H:Hp) (x:V) (v:Value) (Q:VK),Inv X pins σ H s->a2_ x v->r x H Q->
  wpAny (model X.prog X.w) X.A (f v) (EP X pins σ Q) X.xe s
noncomputable def cc_ (X:Cx) (f:Value) (r:List V->Hp->VK->Prop):Prop:=
 ∀(pins:List (Addr×Obj)) (s:Shared) (σ:St) (H:Hp) (xs:List V) (us:List Value) (Q:VK),Inv X pins σ H s->aW_ xs us->r xs H Q->
  wpAny (model X.prog X.w) X.A (call f us) (EP X pins σ Q) X.xe s
noncomputable def tOp (r:R2) (ta tb:TE):TE:=fun σ H Q=>ta σ H fun x H1=>tb σ H1 fun y H2=>r x y H2 Q
noncomputable def tUn (r:V->Hp->VK->Prop) (ta:TE):TE:=fun σ H Q=>ta σ H fun x H1=>r x H1 Q
noncomputable def rI (C:Int->Int->Prop) (g:Int->Int->V):R2:=fun x y H Q=>∃i j,x= .int i/\y= .int j/\C i j/\Q (g i j) H
noncomputable def rI0 (g:Int->Int->V):R2:=fun x y H Q=>∃i j,x= .int i/\y= .int j/\Q (g i j) H
noncomputable def rU (g:Int->V):V->Hp->VK->Prop:=fun x H Q=>∃i,x= .int i/\Q (g i) H
section
variable {X:Cx}{a b c:Expr}{ta tb tc:TE}{pos:Pos}
theorem u5_ (ha:PE X a ta) (hb:PE X b tb) {pins:List (Addr×Obj)}{s:Shared}{σ:St}{H:Hp}{R:V->V->Hp->Prop} (I:Inv X pins σ H s)
  (h:ta σ H fun x H1=>tb σ H1 fun y H2=>R x y H2) {Q:Value->Shared->Prop}{f:Value->Value->Sem Value}
  (hf:∀v u s2 x y H2,Inv X pins σ H2 s2->a2_ x v->a2_ y u->R x y H2->wpAny (model X.prog X.w) X.A (f v u) Q X.xe s2):
  wpAny (model X.prog X.w) X.A (eval a X.env) (fun v s₁=>wpAny (model X.prog X.w) X.A (eval b X.env) (fun u s₂=>wpAny (model X.prog X.w) X.A (f v u) Q X.xe s₂) X.xe s₁) X.xe s:=by
 refine thn (ha pins s σ H _ I h) fun v s1 ⟨x,H1,I1,r1,q1⟩=> ?_;refine thn (hb pins s1 σ H1 _ I1 q1) fun u s2 ⟨y,H2,I2,r2,q2⟩=> ?_;exact hf v u s2 x y H2 I2 r1 r2 q2
theorem al_ {op:Operator}{r:R2} (ho:OpR X (binaryOp op) r) (ha:PE X a ta) (hb:PE X b tb):PE X (.BinOp a op b pos) (tOp r ta tb):=by
 intro pins s σ H Q I h;exact wpAny_BinOp (u5_ ha hb I h fun v u s2 x y H2 I2 rx ry q=>ho pins s2 σ H2 x y v u Q I2 rx ry q)
theorem qC_ {op:UnaryOp}{r:V->Hp->VK->Prop} (ho:UnR X (unaryOp op) r) (ha:PE X a ta):PE X (.UnaryOp op a pos) (tUn r ta):=by
 intro pins s σ H Q I h;exact UnaryOp_ (thn (ha pins s σ H _ I h) fun v s1 ⟨x,H1,I1,r1,q1⟩=>ho pins s1 σ H1 x v Q I1 r1 q1)
theorem opI {f:Value->Value->Sem Value}{C:Int->Int->Prop}{g:Int->Int->Int}
  (rule:∀(i j:Int) (t u:Tok) (s:Shared) (Q:Value->Shared->Prop) (E:Value->Shared->Prop),C i j->Q (.int (g i j) s.toks) {s with toks:=s.toks+1}->wpAny (model X.prog X.w) X.A (f (.int i t) (.int j u)) Q E s):
  OpR X f (rI C fun i j=> .int (g i j)):=by
 intro pins s σ H x y v u Q I rx ry h;obtain⟨i,j,rfl,rfl,hc,q⟩:=h;obtain⟨t,rfl⟩:=rx;obtain⟨t',rfl⟩:=ry;exact rule i j t t' s _ _ hc ⟨.int (g i j),H,I.tok _,⟨_,rfl⟩,q⟩
theorem vh_ {f:Value->Value->Sem Value}{g:Int->Int->Int}
  (rule:∀(i j:Int) (t u:Tok) (s:Shared) (Q:Value->Shared->Prop) (E:Value->Shared->Prop),Q (.int (g i j) s.toks) {s with toks:=s.toks+1}->wpAny (model X.prog X.w) X.A (f (.int i t) (.int j u)) Q E s):
  OpR X f (rI0 fun i j=> .int (g i j)):=by
 intro pins s σ H x y v u Q I rx ry h;obtain⟨i,j,rfl,rfl,q⟩:=h;obtain⟨t,rfl⟩:=rx;obtain⟨t',rfl⟩:=ry;exact rule i j t t' s _ _ ⟨.int (g i j),H,I.tok _,⟨_,rfl⟩,q⟩
theorem tI_ {f:Value->Value->Sem Value}{g:Int->Int->Bool}
  (rule:∀(i j:Int) (t u:Tok) (s:Shared) (Q:Value->Shared->Prop) (E:Value->Shared->Prop),Q (.bool (g i j)) s->wpAny (model X.prog X.w) X.A (f (.int i t) (.int j u)) Q E s):
  OpR X f (rI0 fun i j=> .bl (g i j)):=by
 intro pins s σ H x y v u Q I rx ry h;obtain⟨i,j,rfl,rfl,q⟩:=h;obtain⟨t,rfl⟩:=rx;obtain⟨t',rfl⟩:=ry;exact rule i j t t' s _ _ ⟨.bl (g i j),H,I,rfl,q⟩
noncomputable def v1_ (i j:Int):Prop:=0<j/\j<1073741824
noncomputable def v0_ (i j:Int):Prop:=0<=j/\j<=1000000/\i.natAbs<2^64
noncomputable def rN_ (i j:Int):Prop:=(-(2^64)<i/\i<2^64)\/(-(2^64)<j/\j<2^64)
theorem rN_.ok {i j:Int} (h:rN_ i j):IntMulOk i j:=by
 rcases h with⟨h1,h2⟩|⟨h1,h2⟩
 .exact .of_left (intBits_le_64 h1 h2)
 .exact .of_right (intBits_le_64 h1 h2)
theorem aC_:OpR X (binaryOp .Add) (rI0 fun i j=> .int (i+j)):=vh_ fun _ _ _ _ _ _ _ q=>add_int q
theorem aE_:OpR X (binaryOp .Sub) (rI0 fun i j=> .int (i-j)):=vh_ fun _ _ _ _ _ _ _ q=>sub_int q
theorem ba_:OpR X (binaryOp .Mult) (rI rN_ fun i j=> .int (i*j)):=opI fun _ _ _ _ _ _ _ hc q=>mul_int q hc.ok
theorem e7_:OpR X (binaryOp .FloorDiv) (rI v1_ fun i j=> .int (i/j)):=opI fun i j _ _ _ _ _ hc q=>by
 have h1:(0:Int)<j:=hc.1;have h2:j<1073741824:=hc.2;exact floordiv_int (by lia) (by rw [Int.fdiv_eq_ediv_of_nonneg i (by lia)];exact q) (.inl (PyProof.noPylong_small (by lia)))
theorem jZ_:OpR X (binaryOp .Mod) (rI (fun _ j=>0<j) fun i j=> .int (i%j)):=opI fun i j _ _ _ _ _ hc q=>by
 have h1:(0:Int)<j:=hc;exact mod_int' (by lia) (by rw [Int.fmod_eq_emod_of_nonneg i (by lia)];exact q)
theorem fR_:OpR X (binaryOp .Pow) (rI v0_ fun i j=> .int (i^j.toNat)):=opI fun _ _ _ _ _ _ _ hc q=>pow_int_small hc.1 hc.2.1 hc.2.2 q
theorem unI {f:Value->Sem Value}{g:Int->Int}
  (rule:∀(i:Int) (t:Tok) (s:Shared) (Q:Value->Shared->Prop) (E:Value->Shared->Prop),Q (.int (g i) s.toks) {s with toks:=s.toks+1}->wpAny (model X.prog X.w) X.A (f (.int i t)) Q E s):
  UnR X f (rU fun i=> .int (g i)):=by
 intro pins s σ H x v Q I rx h;obtain⟨i,rfl,q⟩:=h;obtain⟨t,rfl⟩:=rx;exact rule i t s _ _ ⟨.int (g i),H,I.tok _,⟨_,rfl⟩,q⟩
theorem lR_:UnR X (unaryOp .USub) (rU fun i=> .int (-i)):=unI fun _ _ _ _ _ q=>neg_int q
end
noncomputable def vg_:V->V->Bool
 | .non, .non=>true| .non, .int _=>true| .int _, .non=>true| .non, .bl _=>true| .bl _, .non=>true| .non, .str _=>true| .str _, .non=>true
 | .int _, .int _=>true| .bl _, .bl _=>true| .str _, .str _=>true| .byt _, .byt _=>true
 | .int _, .str _=>true| .str _, .int _=>true| .bl _, .str _=>true| .str _, .bl _=>true
 |_,_=>false
noncomputable def rEq:R2:=fun x y H Q=>vg_ x y=true/\Q (.bl (decide (x=y))) H
noncomputable def rNe:R2:=fun x y H Q=>vg_ x y=true/\Q (.bl (!decide (x=y))) H
theorem nw_ {i j:Int}:decide (V.int i=V.int j)=(i==j):=by
 rw [Bool.eq_iff_iff];simp
theorem pN_ {i j:Bool}:decide (V.bl i=V.bl j)=(i==j):=by
 rw [Bool.eq_iff_iff];simp
theorem nv_ {i j:Str}:decide (V.str i=V.str j)=(i==j):=by
 rw [Bool.eq_iff_iff];simp
theorem nx_ {i j:Array UInt8}:decide (V.byt i=V.byt j)=(i.toList==j.toList):=by
 rw [Bool.eq_iff_iff];cases i;cases j;simp
section
variable {X:Cx}{a b c:Expr}{ta tb tc:TE}{pos:Pos}
theorem aM_ {pins:List (Addr×Obj)}{σ:St}{H:Hp}{s:Shared}{Q:VK}{k k':Bool} (I:Inv X pins σ H s) (q:Q (.bl k) H) (e:k=k'):EP X pins σ Q (.bool k') s:=by
 subst e;exact⟨.bl k,H,I,rfl,q⟩
theorem et_:OpR X (compareOp .Eq) rEq:=by
 intro pins s σ H x y v u Q I rx ry h;obtain⟨hs,q⟩:=h;cases x with
 |non=>
  cases rx;cases y with
  |non=>cases ry;exact PySem.EqNone.eq_none_none (aM_ I q (by simp))
  |bl j=>cases ry;exact PySem.EqNone.eq_none_bool (aM_ I q (by simp))
  |int j=>obtain⟨t',rfl⟩:=ry;exact PySem.EqNone.eq_none_int (aM_ I q (by simp))
  |str j=>obtain⟨t',rfl⟩:=ry;exact PySem.EqNone.eq_none_str (aM_ I q (by simp))
  |_=>exact absurd (show false=true from hs) AT
 |bl i=>
  cases rx;cases y with
  |non=>cases ry;exact PySem.EqNone.eq_bool_none (aM_ I q (by simp))
  |bl j=>cases ry;exact eq_bool (aM_ I q pN_)
  |str j=>obtain⟨t',rfl⟩:=ry;exact PySem.EqMixed.eq_bool_str (aM_ I q (by simp))
  |_=>exact absurd (show false=true from hs) AT
 |int i=>
  obtain⟨t,rfl⟩:=rx;cases y with
  |non=>cases ry;exact PySem.EqNone.eq_int_none (aM_ I q (by simp))
  |int j=>obtain⟨t',rfl⟩:=ry;exact eq_int (aM_ I q nw_)
  |str j=>obtain⟨t',rfl⟩:=ry;exact PySem.EqMixed.eq_int_str (aM_ I q (by simp))
  |_=>exact absurd (show false=true from hs) AT
 |str i=>
  obtain⟨t,rfl⟩:=rx;cases y with
  |non=>cases ry;exact PySem.EqNone.eq_str_none (aM_ I q (by simp))
  |bl j=>cases ry;exact PySem.EqMixed.eq_str_bool (aM_ I q (by simp))
  |int j=>obtain⟨t',rfl⟩:=ry;exact PySem.EqMixed.eq_str_int (aM_ I q (by simp))
  |str j=>obtain⟨t',rfl⟩:=ry;exact eq_str (aM_ I q nv_)
  |_=>exact absurd (show false=true from hs) AT
 |byt i=>
  obtain⟨t,rfl⟩:=rx;cases y with
  |byt j=>obtain⟨t',rfl⟩:=ry;exact W.eq_bytes (aM_ I q nx_)
  |_=>exact absurd (show false=true from hs) AT
 |_=>cases y<;>exact absurd (show false=true from hs) AT
theorem sG_:OpR X (compareOp .NotEq) rNe:=by
 intro pins s σ H x y v u Q I rx ry h;obtain⟨hs,q⟩:=h;cases x with
 |non=>
  cases rx;cases y with
  |non=>cases ry;exact PySem.EqNone.ne_none_none (aM_ I q (by simp))
  |bl j=>cases ry;exact PySem.EqNone.ne_none_bool (aM_ I q (by simp))
  |int j=>obtain⟨t',rfl⟩:=ry;exact PySem.EqNone.ne_none_int (aM_ I q (by simp))
  |str j=>obtain⟨t',rfl⟩:=ry;exact PySem.EqNone.ne_none_str (aM_ I q (by simp))
  |_=>exact absurd (show false=true from hs) AT
 |bl i=>
  cases rx;cases y with
  |non=>cases ry;exact PySem.EqNone.ne_bool_none (aM_ I q (by simp))
  |bl j=>cases ry;exact ne_bool (aM_ I q (Bc not pN_))
  |str j=>obtain⟨t',rfl⟩:=ry;exact PySem.EqMixed.ne_bool_str (aM_ I q (by simp))
  |_=>exact absurd (show false=true from hs) AT
 |int i=>
  obtain⟨t,rfl⟩:=rx;cases y with
  |non=>cases ry;exact PySem.EqNone.ne_int_none (aM_ I q (by simp))
  |int j=>obtain⟨t',rfl⟩:=ry;exact ne_int (aM_ I q (Bc not nw_))
  |str j=>obtain⟨t',rfl⟩:=ry;exact PySem.EqMixed.ne_int_str (aM_ I q (by simp))
  |_=>exact absurd (show false=true from hs) AT
 |str i=>
  obtain⟨t,rfl⟩:=rx;cases y with
  |non=>cases ry;exact PySem.EqNone.ne_str_none (aM_ I q (by simp))
  |bl j=>cases ry;exact PySem.EqMixed.ne_str_bool (aM_ I q (by simp))
  |int j=>obtain⟨t',rfl⟩:=ry;exact PySem.EqMixed.ne_str_int (aM_ I q (by simp))
  |str j=>obtain⟨t',rfl⟩:=ry;exact ne_str (aM_ I q (Bc not nv_))
  |_=>exact absurd (show false=true from hs) AT
 |byt i=>
  obtain⟨t,rfl⟩:=rx;cases y with
  |byt j=>obtain⟨t',rfl⟩:=ry;exact W.ne_bytes (aM_ I q (Bc not nx_))
  |_=>exact absurd (show false=true from hs) AT
 |_=>cases y<;>exact absurd (show false=true from hs) AT
theorem i7_:OpR X (compareOp .Lt) (rI0 fun i j=> .bl (decide (i<j))):=tI_ fun _ _ _ _ _ _ _ q=>lt_int q
theorem mK_:OpR X (compareOp .LtE) (rI0 fun i j=> .bl (decide (i<=j))):=tI_ fun _ _ _ _ _ _ _ q=>le_int q
theorem mL_:OpR X (compareOp .Gt) (rI0 fun i j=> .bl (decide (j<i))):=tI_ fun _ _ _ _ _ _ _ q=>gt_int q
theorem qL_:OpR X (compareOp .GtE) (rI0 fun i j=> .bl (decide (j<=i))):=tI_ fun _ _ _ _ _ _ _ q=>ge_int q
theorem aI_ (b:Expr) {op:CmpOp} (h:op≠ .In:=by decide) (h2:op≠ .NotIn:=by decide):behindInMarks op b=false:=by
 have e1:(op==CmpOp.In)=false:=by cases op<;>first|rfl|exact absurd rfl h
 have e2:(op==CmpOp.NotIn)=false:=by cases op<;>first|rfl|exact absurd rfl h2
 cases b<;>simp [behindInMarks,e1,e2]
theorem mD_ {op:CmpOp}{r:R2} (ho:OpR X (compareOp op) r) (ha:PE X a ta) (hb:PE X b tb) (hm:behindInMarks op b=false):PE X (.Compare a [op] [b] pos) (tOp r ta tb):=by
 intro pins s σ H Q I h;exact wpAny_Compare1 (u5_ ha hb I h fun v u s2 x y H2 I2 rx ry q=>ho pins s2 σ H2 x y v u Q I2 rx ry q) hm
noncomputable def tR_ (t:TE):TT:=fun σ H Q=>t σ H fun x H'=>∃k,x= .bl k/\Q k H'
theorem ax_ {op:CmpOp}{r:R2} (ho:OpR X (compareOp op) r) (ha:PE X a ta) (hb:PE X b tb) (hm:behindInMarks op b=false):PT X (.Compare a [op] [b] pos) (tR_ (tOp r ta tb)):=by
 intro pins s σ H Q I h;refine wpAny_isTrue_Compare1 (thn (ha pins s σ H _ I h) fun v s1 ⟨x,H1,I1,r1,q1⟩=>thn (hb pins s1 σ H1 _ I1 q1) fun u s2 ⟨y,H2,I2,r2,q2⟩=>
  thn (ho pins s2 σ H2 x y v u _ I2 r1 r2 q2) fun c s3 ⟨z,H3,I3,r3,k,e,q3⟩=> ?_) hm
 subst e;cases r3;exact Bq ⟨H3,I3,q3⟩
theorem lm_ {xs:List V}{its:List Value} (r:aW_ xs its):(!its.toArray.isEmpty)= !xs.isEmpty:=by
 cases r<;>simp
theorem fY_:(sizeLine:Nat)<2^63:=by rw [B0];decide
theorem fx_ {x:V}{us:List Value} (r:aW_ [x] us):∃u,us=[u]/\a2_ x u:=by
 cases r with
 |cons r1 r2=>cases r2;exact⟨_,rfl,r1⟩
theorem lM_ {x y:V}{us:List Value} (r:aW_ [x,y] us):∃u w',us=[u,w']/\a2_ x u/\a2_ y w':=by
 cases r with
 |cons r1 r2=>
  cases r2 with
  |cons r3 r4=>cases r4;exact⟨_,_,rfl,r1,r3⟩
theorem nD_ (hc:X.calm=true):cc_ X (.builtin "min") (fun xs H Q=>∃i j,xs=[.int i, .int j]/\Q (.int (if j<i then j else i)) H):=by
 intro pins s σ H xs us Q I r h;obtain⟨i,j,rfl,q⟩:=h;obtain⟨u,w',rfl,⟨t,rfl⟩,⟨t',rfl⟩⟩:=lM_ r;refine min_two_ints (I.ok.hd hc) fun h' tk k=>⟨_,H,I.kept k, ?_,q⟩;by_cases hj:j<i
 .rw [A6 hj,A6 hj];exact⟨_,rfl⟩
 .rw [A3 hj,A3 hj];exact⟨_,rfl⟩
end
end L2
namespace L2
open PySem PySem.Spec PyProof.Rows
structure ObjM (h:Heap) (x dx C:Addr) (mA:Str->Option Value):Prop where
 obj:h.get? x=some (W.instObj C dx)
 ns:h.Ns1 dx mA
 ne:dx≠x
theorem mY_ {h:Heap}{dx:Addr}{mA:Str->Option Value} (n:h.Ns1 dx mA):∃od,h.get? dx=some od/\∀name,W.lookIn name od=some (mA name):=by
 obtain⟨o,es,ep,ho,hd,hk,_,hm⟩:=n;refine⟨o,ho,fun name=> ?_⟩;have e:=hm name;unfold nsFind findBy at e;rw [<-Array.find?_toList] at e;unfold W.lookIn;rw [hd];dsimp only;split
 .rename_i y q;rw [q] at e;exact Bc some e
 .rename_i q;rw [q] at e;have a:es.toList.any (·.refKey)=false:=by
   rw [List.any_eq_false];intro y hy;obtain⟨z,t,hkey⟩:=hk y (Array.mem_toList_iff.mp hy);simp [DictEntry.refKey,hkey]
  have a':¬es.toList.any (·.refKey)=true:=by rw [a];exact AT
  rw [A3 a'];exact Bc some e
theorem ObjM.look {h:Heap}{x dx C:Addr}{mA:Str->Option Value} (I:ObjM h x dx C mA):∃od,W.InstAt h x (W.instObj C dx) C (some od)/\∀name,W.lookIn name od=some (mA name):=
 let ⟨od,ho,hl⟩:=mY_ I.ns
 ⟨od,⟨I.obj,rfl,rfl,ho⟩,hl⟩
section
variable {prog:Program}{w:World}{A:Around}{E:Value->Shared->Prop}{s:Shared}{K:W.Frag}{x dx C f:Addr}{mA:Str->Option Value}{name:Str}{v:Value}
end
theorem jA_.some_of {v:V}{o:Option Value} (r:jA_ (some v) o):∃u,o=some u/\a2_ v u:=by
 cases o with
 |none=>exact(show False from r).elim
 |some u=>exact⟨u,rfl,r⟩
section
variable {P:Program}{w:World}{H H':Hp}{h h':Heap}{a C dx:Addr}{fs fs':List (Str×V)}
theorem q9_ (hok:HOk P w H h) (e:H a=some (.ins C dx fs)):∃mA,ObjM h a dx C mA/\(∀f,jA_ (fs.lookup f) (mA f))/\PySem.Within mA (fs.map (·.1))/\fs.length<=1000/\H dx=some (.own a):=by
 obtain⟨d,z,ne,ob,mA,n,r,q⟩:=(show aG_ P w H h a (.ins C dx fs) from hok a _ e);exact⟨mA,⟨ob,n,ne⟩,r,q,z,d⟩
end
structure Cls (K:W.Frag) (C:Addr):Prop where
 pg:W.plainGet K C Str.empty=true
 hd:W.hasDictIn K C=true
 po:W.plainOver K C=true
 sa:W.findIn K (.ref C) "__setattr__"=some (some (.builtin "object.__setattr__"))
theorem Cls.get {K:W.Frag}{C:Addr} (c:Cls K C) (f:Str):W.plainGet K C f=true:=c.pg
section
variable {X:Cx}{pins:List (Addr×Obj)}{σ:St}{H:Hp}{s:Shared}{a C dx:Addr}{fs:List (Str×V)}{f:Str}{v:V}{A:Around}{E:Value->Shared->Prop}
end
section
variable {X:Cx}{o e value:Expr}{f:Str}{pos pos' tpos:Pos}{ta tv:TE}
end
section
variable {X:Cx}{pins:List (Addr×Obj)}{σ:St}{H:Hp}{s:Shared}{A:Around}{E:Value->Shared->Prop}{Q:Value->Shared->Prop}{c:Value}{b:Bool}
inductive TyOf (K:W.Frag) (H:Hp):V->Value->Prop where
 |non:TyOf K H .non (.type "NoneType")
 |bl (x:Bool):TyOf K H (.bl x) (.type "bool")
 |int (i:Int):TyOf K H (.int i) (.type "int")
 |str (x:Str):TyOf K H (.str x) (.type "str")
 |flt (x:UInt64):TyOf K H (.flt x) (.type "float")
 |lst {a:Addr}{xs:List V} (e:H a=some (.lst xs)):TyOf K H (.ref a) (.type "list")
 |frz {a:Addr}{o:Obj}{xs:List V} (e:H a=some (.frz o (.lst xs))):TyOf K H (.ref a) (.type "list")
 |tup {a:Addr}{xs:List V} (e:H a=some (.tup xs)):TyOf K H (.ref a) (.type "tuple")
 |dK {a:Addr}{kvs:List (Key×V)} (e:H a=some (.dK kvs)):TyOf K H (.ref a) (.type "dict")
 |dT {a:Addr}{kvs:List (List Key×V)} (e:H a=some (.dT kvs)):TyOf K H (.ref a) (.type "dict")
 |ins {a C dx:Addr}{fs:List (Str×V)} (e:H a=some (.ins C dx fs)) (cl:Cls K C) (ha:W.findIn K (.ref C) "__class__"=some (some (.builtin "object.__class__")))
   (hn:W.specialIn K (.builtin "object.__class__") "__get__"=some (some (.builtin "getset_descriptor.__get__"))) (htk:W.takesIn K (.builtin "object.__class__")=some true)
   (hm:W.mroIn K C (.type "object")=some true):TyOf K H (.ref a) (.ref C)
theorem na_ {x:V}{u t:Value} (I:Inv X pins σ H s) (rx:a2_ x u) (ty:TyOf X.K H x t) (e:W.kitOne X.K t c=some b) (h:∀tk,Q (.bool b) {s with toks:=tk}):
  wpAny (model X.prog X.w) A (call (.builtin "isinstance") [u,c]) Q E s:=by
 cases ty with
 |non=>cases (show u=Value.none from rx);exact BX W.kitx_none I.kIn True.intro e (fun z=>nomatch z) h
 |bl y=>cases (show u=Value.bool y from rx);exact BX W.kitx_bool I.kIn True.intro e (fun z=>nomatch z) h
 |int i=>obtain⟨t,q⟩:=(show∃t,u=Value.int i t from rx);cases q;exact BX W.kitx_int I.kIn True.intro e (fun z=>nomatch z) h
 |str y=>obtain⟨t,q⟩:=(show∃t,u=Value.str y t from rx);cases q;exact BX W.kitx_str I.kIn True.intro e (fun z=>nomatch z) h
 |flt y=>obtain⟨t,q⟩:=(show∃t,u=Value.float y t from rx);cases q;exact BX W.kitx_float I.kIn True.intro e (fun z=>nomatch z) h
 | @lst a xs ea=>
  cases (show u=Value.ref a from rx);obtain⟨_,_,n,_,h1⟩:=(show aG_ X.prog X.w H s.heap a (.lst xs) from I.hok a _ ea);exact BX W.kitx_list I.kIn ⟨_,h1,rfl⟩ e (fun z=>nomatch z) h
 | @frz a ob xs ea=>
  cases (show u=Value.ref a from rx);obtain⟨_,_,_,n,_,h1⟩:=(show aG_ X.prog X.w H s.heap a (.frz ob (.lst xs)) from I.hok a _ ea);exact BX W.kitx_list I.kIn ⟨_,h1,rfl⟩ e (fun z=>nomatch z) h
 | @tup a xs ea=>
  cases (show u=Value.ref a from rx);obtain⟨_,_,_,p⟩:=(show aG_ X.prog X.w H s.heap a (.tup xs) from I.hok a _ ea);obtain⟨o,h1,h2,_⟩:=p;exact BX W.kitx_tuple I.kIn ⟨o,h1,h2⟩ e (fun z=>nomatch z) h
 | @dK a kvs ea=>
  cases (show u=Value.ref a from rx);obtain⟨_,_,vs,_,p⟩:=(show aG_ X.prog X.w H s.heap a (.dK kvs) from I.hok a _ ea);obtain⟨o,es,ep,h1,h2,_⟩:=p;exact BX W.kitx_dict I.kIn ⟨o,h1,h2.1⟩ e (fun z=>nomatch z) h
 | @dT a kvs ea=>
  cases (show u=Value.ref a from rx);obtain⟨_,_,xs,_,o,es,ep,h1,h2,_⟩:=(show aG_ X.prog X.w H s.heap a (.dT kvs) from I.hok a _ ea);exact BX W.kitx_dict I.kIn ⟨o,h1,h2.1⟩ e (fun z=>nomatch z) h
 | @ins a C dx fs ea cl ha hn htk hm=>
  cases (show u=Value.ref a from rx);obtain⟨mA,O,_⟩:=q9_ I.hok ea;obtain⟨od,J,_⟩:=O.look;exact BX (W.kitx_own (cl.get _) cl.hd ha hn htk hm) I.kIn J e (fun z=>nomatch z) h
end
end L2
namespace L2
open PySem PySem.Spec PyProof.Rows
structure Room (k:Nat) (A:Around):Prop where
 hd:A.handled=none
 dp:A.depth+3*k+5<recursionLimit
 un:A.units+16*k+200<cLine
theorem Room.mono {j k:Nat}{A:Around} (r:Room k A) (h:j<=k):Room j A:=⟨r.hd,by have:=r.dp;lia,by have:=r.un;lia⟩
theorem Room.deeper {k:Nat}{A:Around} (r:Room (k+1) A) (env:Env):Room k (A.deeper env):=
 ⟨r.hd,by have:=r.dp;show A.depth+1+3*k+5<_;lia,by have:=r.un;show A.units+3+16*k+200<_;lia⟩
theorem Room.depth {k:Nat}{A:Around} (r:Room k A):A.depth<recursionLimit:=by have:=r.dp;lia
theorem Room.units {k:Nat}{A:Around} (r:Room k A):A.units+64<cLine:=by have:=r.un;lia
noncomputable def vf_:TA:=fun _ H Q=>Q [] H
noncomputable def r6_ (ta:TE) (tr:TA):TA:=fun σ H Q=>ta σ H fun x H1=>tr σ H1 fun xs H2=>Q (x::xs) H2
section
variable {X:Cx}{e:Expr}{es:List Expr}{te:TE}{t:TA}{pos:Pos}
theorem ab_:PA X [] vf_:=fun _ _ _ _ H Q I h=>Calls.spliced_nil ⟨[],H,I, .nil,h⟩
theorem aa_ (ha:PE X e te) (hr:PA X es t) (hs:starEach (e::es) X.env=(false,eval e X.env)::starEach es X.env:=by rfl):PA X (e::es) (r6_ te t):=by
 intro pos pins s σ H Q I h;rw [hs];show wpAny _ _ (spliced ((false,eval e X.env)::backTo pos (starEach es X.env))) _ _ s;refine CL (thn (ha pins s σ H _ I h) fun u s1 ⟨x,H1,I1,r1,q1⟩=> ?_);exact thn (hr pos pins s1 σ H1 _ I1 q1) fun us s2 ⟨xs,H2,I2,r2,q2⟩=>⟨x::xs,H2,I2, .cons r1 r2,q2⟩
end
noncomputable abbrev Sp:=List V->Hp->VK->XK->Prop
noncomputable abbrev CXT:=List Env->Hp->Shared->XK->Value->Shared->Prop
structure Env0 (P:Program) (w:World) (K:W.Frag) (mg:Str->Option Value) (base:Heap) (A:Around) (outer:List Env) (s:Shared) (H:Hp):Prop where
 frames:A.frames=some outer
 mod:Mod K mg base
 bs:∀b o,base.get? b=some o->s.heap.get? b=some o/\H b=none
 bsz:base.objs.size<=s.heap.objs.size
 funs:s.heap.FunFrames base outer
 frf:∀b∈frs outer,H b=none
 hok:HOk P w H s.heap
 bare:AllBare s.gens
noncomputable def CE (outer:List Env) (P:Program) (w:World) (H:Hp) (s:Shared) (Q:VK) (u:Value) (s':Shared):Prop:=
 ∃v H',s'.os=s.os/\AllBare s'.gens/\Un (frs outer) [] H H' s.heap s'.heap/\HOk P w H' s'.heap/\a2_ v u/\Q v H'
noncomputable def CR (CX:CXT) (outer:List Env) (P:Program) (w:World) (H:Hp) (s:Shared) (Q:VK) (E:XK) (r:Result) (s':Shared):Prop:=
 match r with
 | .ok (.ret u)=>CE outer P w H s Q u s'
 | .ok _=>False
 | .error e=>CX outer H s E e s'
structure FnOk (P:Program) (w:World) (K:W.Frag) (mg:Str->Option Value) (base:Heap) (CX:CXT) (k:Nat) (f:Addr) (fd:FuncData) (ps:List Str) (sp:Sp):Prop where
 len:∀vs H Q E,sp vs H Q E->vs.length=ps.length
 run:∀(A:Around) (outer:List Env) (s:Shared) (H:Hp) (args:Args) (us:List Value) (vs:List V) (Q:VK) (E:XK),Room k A->Env0 P w K mg base A outer s H->BindsTo s fd args (ps.zip us)->aW_ vs us->sp vs H Q E->
  codeAny (model P w) A (.call (.ref f) args) (CR CX outer P w H s Q E) s
theorem FnOk.imp {P:Program}{w:World}{K:W.Frag}{mg:Str->Option Value}{base:Heap}{CX:CXT}{k:Nat}{f:Addr}{fd:FuncData}{ps:List Str}{sp sp':Sp} (F:FnOk P w K mg base CX k f fd ps sp)
  (h:∀vs H Q E,sp' vs H Q E->sp vs H Q E):FnOk P w K mg base CX k f fd ps sp':=
 ⟨fun vs H Q E q=>F.len vs H Q E (h _ _ _ _ q),fun A outer s H args us vs Q E hr he hb hv hs=>F.run A outer s H args us vs Q E hr he hb hv (h _ _ _ _ hs)⟩
section
variable {X:Cx}{pins:List (Addr×Obj)}{σ:St}{H:Hp}{s s':Shared}
theorem Inv.env0 (I:Inv X pins σ H s):Env0 X.prog X.w X.K X.mg X.base X.A X.stack s H:=
 ⟨I.ok.frames,I.ok.mod,I.bs,B2 I.ok.bsz I.sz,I.stack,I.stkFree,I.hok,I.bare⟩
theorem Inv.after {Q:VK}{u:Value} (I:Inv X pins σ H s) (h:CE X.stack X.prog X.w H s Q u s'):EP X pins σ Q u s':=by
 obtain⟨v,H',os,bare,un,hok,r,q⟩:=h;obtain⟨hh,g,d,t,os'⟩:=s';obtain rfl:os'=s.os:=os;exact⟨v,H',I.call (h':=hh) (g':=g) (d':=d) (t':=t) (ch:=[]) un hok bare (fun b z=>absurd z (by simp)),r,q⟩
end
noncomputable def t2_ (sp:Sp) (dvs:List V) (E:XK) (t:TA):TE:=fun σ H Q=>t σ H fun vs H1=>sp (vs++dvs) H1 Q E
noncomputable def lA_ (K:W.Frag) (fd:FuncData) (ps:List Str) (ds:List Value):Prop:=
 ∀(s:Shared) (us:List Value),K.In s.heap->(us++ds).length=ps.length->BindsTo s fd ⟨us,[]⟩ (ps.zip (us++ds))
theorem lA_.all {K:W.Frag}{fd:FuncData}{ps:List Str} (h:∀us:List Value,us.length=ps.length->bindArgs fd ⟨us,[]⟩=pure (ps.zip us)):lA_ K fd ps []:=fun s us _ hl=>by
 rw [B8] at hl⊢;exact .of_eq (h us hl)
noncomputable def er_ (CX:CXT) (X:Cx) (E:XK):Prop:=∀(pins:List (Addr×Obj)) (σ:St) (H:Hp) (s:Shared) (e:Value) (s':Shared),Inv X pins σ H s->CX X.stack H s E e s'->X.xe e s'
section
variable {X:Cx}{CX:CXT}{k:Nat}{f C:Addr}{fd:FuncData}{ps:List Str}{sp:Sp}{dvs:List V}{ds:List Value}{E:XK}{x m:Str}{p pos apos:Pos}{e o:Expr}{es:List Expr}{ta:TE}{t:TA}
theorem sn_ {pins:List (Addr×Obj)}{σ:St}{H:Hp}{s:Shared}{Q:VK}{us:List Value}{vs:List V} (F:FnOk X.prog X.w X.K X.mg X.base CX k f fd ps sp) (hr:Room k X.A) (hb:lA_ X.K fd ps ds) (hd:aW_ dvs ds) (hx:er_ CX X E)
  (I:Inv X pins σ H s) (r:aW_ vs us) (h:sp (vs++dvs) H Q E):wpAny (model X.prog X.w) X.A (call (.ref f) us) (EP X pins σ Q) X.xe s:=by
 have r2:aW_ (vs++dvs) (us++ds):=r.append hd;have hl:(us++ds).length=ps.length:=by rw [<-r2.length];exact F.len _ _ _ _ h
 refine wpAny_call (DE (F.run X.A X.stack s H ⟨us,[]⟩ (us++ds) (vs++dvs) Q E hr I.env0 (hb s us I.kIn hl) r2 h) fun r s' hq=> ?_);cases r with
 |error e=>exact hx pins σ H s e s' I hq
 |ok fl=>
  cases fl with
  |ret u=>exact I.after hq
  |next=>exact False.elim hq
  |brk=>exact False.elim hq
  |cont=>exact False.elim hq
theorem ah_ (F:FnOk X.prog X.w X.K X.mg X.base CX k f fd ps sp) (hr:Room k X.A) (hg:Gl X x) (hm:X.mg x=some (.ref f)) (hk:W.keepIn X.K (.ref f)=true) (hb:lA_ X.K fd ps ds) (hd:aW_ dvs ds) (hx:er_ CX X E)
  (ha:PA X (e::es) t) (hdb:(x==("__debug__":Str))=false:=by decide) (he:starEach (e::es) X.env=(false,eval e X.env)::starEach es X.env:=by rfl) (hpl:(backTo pos (starEach es X.env)).any (·.1)=false:=by rfl):
  PE X (.Call (.Name x p) (e::es) [] pos) (t2_ sp dvs E t):=by
 intro pins s σ H Q I h;refine BQ (gV_ I hg hm ?_ hdb);refine W.callWith_K (h₀:=X.base) I.ok.mod.kin hk (thn (ha pos pins s σ H _ I h) fun us s1 ⟨vs,H1,I1,r,q⟩=>⟨I1.kIn, ?_⟩) he hpl;exact sn_ F hr hb hd hx I1 r q
end
section
variable {X:Cx}{CX:CXT}{k:Nat}{f C:Addr}{fd:FuncData}{ps ks:List Str}{sp:Sp}{E:XK}{x m:Str}{p pos apos kpos:Pos}{e o:Expr}{es:List Expr}{kws:List Keyword}{te ta:TE}{t tk:TA}{nm:Option Str}
variable {g:List Value->List Value->List Value}{gV:List V->List V->List V}
end
structure FnScope (N P:List Str) (sc:Scope):Prop where
 kind:sc.kind= .function
 co:sc.isCoroutine=false
 gen:sc.isGenerator=false
 nd:N.Nodup
 pre:N.take P.length=P
 par:∀x∈P,sc.names.lookup x=some .local\/sc.names.lookup x=some .cell
 nofree:∀y∈sc.names,y.2≠ .free
theorem it_ {kindOf:Str->Option NameKind}{x:Str}:∀{binds:List (Str×Value)}{m:Str->Option Value},(∀v,(x,v)∉binds)->bindL kindOf binds m x=m x
 |[],_,_=>rfl
 |(n,v)::r,m,h=>by
  unfold bindL;rw [it_ fun w hw=>h w (AS _ hw)];split
  .have:x≠n:=by rintro rfl;exact h v AX
   simp [this]
  .rfl
theorem iv_ {kindOf:Str->Option NameKind}{x:Str}:∀{binds:List (Str×Value)}{m:Str->Option Value},(∀v,(x,v)∉binds)->bindC kindOf binds m x=m x
 |[],_,_=>rfl
 |(n,v)::r,m,h=>by
  unfold bindC;rw [iv_ fun w hw=>h w (AS _ hw)];split
  .rfl
  .have:x≠n:=by rintro rfl;exact h v AX
   simp [this]
theorem iu_ {kindOf:Str->Option NameKind}{x:Str}{v:Value}:∀{P:List Str}{vs:List Value}{i:Nat}{m:Str->Option Value},P.Nodup->P[i]? =some x->vs[i]? =some v->kindOf x=some .local->
  bindL kindOf (P.zip vs) m x=some v
 |[],_,_,_,_,h,_,_=>by simp at h
 |_::_,[],_,_,_,_,h,_=>by simp at h
 |p::P,w::vs,0,m,nd,h1,h2,hk=>by
  simp at h1 h2;subst h1;subst h2;show bindL kindOf ((p,w)::P.zip vs) m p=_;unfold bindL;rw [it_ fun v hv=>(BB.mp nd).1 (List.of_mem_zip hv).1,A6 hk];simp
 |p::P,w::vs,i+1,m,nd,h1,h2,hk=>by
  show bindL kindOf ((p,w)::P.zip vs) m x=_;unfold bindL;exact iu_ (i:=i) (BB.mp nd).2 (by simpa using h1) (by simpa using h2) hk
theorem iw_ {kindOf:Str->Option NameKind}{x:Str}{v:Value}:∀{P:List Str}{vs:List Value}{i:Nat}{m:Str->Option Value},P.Nodup->P[i]? =some x->vs[i]? =some v->kindOf x≠some .local->
  bindC kindOf (P.zip vs) m x=some v
 |[],_,_,_,_,h,_,_=>by simp at h
 |_::_,[],_,_,_,_,h,_=>by simp at h
 |p::P,w::vs,0,m,nd,h1,h2,hk=>by
  simp at h1 h2;subst h1;subst h2;show bindC kindOf ((p,w)::P.zip vs) m p=_;unfold bindC;rw [iv_ fun v hv=>(BB.mp nd).1 (List.of_mem_zip hv).1,A3 hk];simp
 |p::P,w::vs,i+1,m,nd,h1,h2,hk=>by
  show bindC kindOf ((p,w)::P.zip vs) m x=_;unfold bindC;exact iw_ (i:=i) (BB.mp nd).2 (by simpa using h1) (by simpa using h2) hk
noncomputable def start (N:List Str) (vs:List V):St:=vs.map some++List.replicate (N.length-vs.length) none
noncomputable def lC_ (CX:CXT) (P:Program) (w:World) (K:W.Frag) (mg:Str->Option Value) (base:Heap) (N:List Str) (qual:Str) (scope:Scope) (f:Addr) (cd:Value) (A:Around) (outer:List Env) (s:Shared) (H:Hp) (E:XK):Cx where
 prog:=P
 w:=w
 K:=K
 mg:=mg
 base:=base
 A:=A.deeper (envOfC qual scope s.heap.objs.size f cd)
 N:=N
 s₀:=s
 H₀:=H
 env:=envOfC qual scope s.heap.objs.size f cd
 outer:=outer
 stack:=envOfC qual scope s.heap.objs.size f cd::outer
 ex:=[]
 calm:=true
 fn:=fun _=>true
 pn:=[]
 xe:=fun e s'=>wpAny (model P w) (A.deeper (envOfC qual scope s.heap.objs.size f cd)) (leaving (envOfC qual scope s.heap.objs.size f cd) e) (fun _ s''=>CX outer H s E e s'') (fun e' s''=>CX outer H s E e' s'') s'
theorem kO_ {sc:Scope}{n:Nat}{x:Str} (h:sc.names.lookup x=some .cell):∃c,(cellsFrom n sc.names []).lookup x=some c:=by
 have q:=W.cellsFrom_some sc.names n [] (.inl h);exact Option.isSome_iff_exists.mp q
theorem nc_ {CX:CXT}{P:Program}{w:World}{K:W.Frag}{mg:Str->Option Value}{base:Heap}{N ps:List Str}{qual:Str}{scope:Scope}{f:Addr}{cd:Value}{A:Around}{outer:List Env}{s s1:Shared}{H:Hp}{E:XK}{us:List Value}{vs:List V}
  (S:FnScope N ps scope) (hd:A.handled=none) (e0:Env0 P w K mg base A outer s H) (hl:vs.length=ps.length) (r:aW_ vs us)
  (x:InCallC s s.heap.objs.size (bindL (envOfC qual scope s.heap.objs.size f cd).kindOf (ps.zip us) fun _=>none) (cellsFrom (s.heap.objs.size+1) scope.names []) (bindC (envOfC qual scope s.heap.objs.size f cd).kindOf (ps.zip us) fun _=>none) s1):
  Inv (lC_ CX P w K mg base N qual scope f cd A outer s H E) [] (start N vs) H s1:=by
 have hpl:ps.length<=N.length:=by have:=Bc List.length S.pre;rw [Az] at this;lia
 obtain⟨h1,tk,rfl,hk⟩:=x.done;have noA:∀b:Addr,b∉(lC_ CX P w K mg base N qual scope f cd A outer s H E).ex:=fun b z=>absurd (show b∈([]:List Addr) from z) (by simp);refine⟨⟨e0.mod,S.kind,rfl,rfl,A9 _,fun y z c h1 h2=> ?_,fun y hy=> ?_,fun y c _ h=> ?_,fun _=>hd,Around.frames_deeper e0.frames, .inr ⟨rfl,rfl⟩,fun b z=>absurd z (noA b),e0.bs,e0.bsz,fun b _ _=>noA b,fun b z=>absurd z (noA b),e0.funs,e0.frf⟩,
  rfl,e0.bare,Un.kept hk,⟨_,x.toInCall.ns,fun i y v h1 h2 h3=> ?_⟩,fun y c h=>⟨_,x.cell y c h⟩,e0.hok.fresh (A9 _),fun y c h=> ?_,fun p hp=>absurd (show p∈([]:List (Addr×Obj)) from hp) (by simp),e0.hok.kept hk, ?_⟩
 .exact name_of_addr x.apart (Bo h1) (Bo h2)
 .have hy:scope.names.lookup y=some .cell\/scope.names.lookup y=some .free:=hy;rcases hy with hy|hy
  .exact kO_ hy
  .exact absurd rfl (S.nofree _ (Bo hy))
 .exact Al (x.above y c (Bo h))
 .have hi:i<vs.length:=by
   unfold start at h2;by_cases hi:i<vs.length
   .exact hi
   .rw [CQ (by simpa using hi)] at h2;rw [List.getElem?_replicate] at h2;split at h2<;>cases h2
  have ha:vs[i]? =some v:=by
   unfold start at h2;rw [List.getElem?_append_left (by simpa using hi),A8] at h2;cases e:vs[i]? with
   |none=>rw [e] at h2;cases h2
   |some a=>rw [e] at h2;cases h2;rfl
  obtain⟨u,hu,rv⟩:=r.get ha;have hp:ps[i]? =some y:=by
   rw [<-S.pre,List.getElem?_take_of_lt (by lia)];exact h1
  have ndP:ps.Nodup:=by rw [<-S.pre];exact S.nd.sublist (List.take_sublist _ _)
  refine⟨u,rv, ?_⟩;rcases S.par y (AR hp) with k|k
  .exact .inl ⟨k,iu_ ndP hp hu k⟩
  .obtain⟨c,e⟩:=kO_ (n:=s.heap.objs.size+1) k;refine .inr ⟨.inl k,c,e, ?_⟩;have q:=x.cell y c e;rw [iw_ ndP hp hu (by show scope.names.lookup y≠_;rw [k];decide)] at q;exact q
 .exact e0.hok.fresh (Al (x.above y c (Bo h)))
 .unfold start;show _=N.length;rw [AF,A1,BF];lia
theorem ta_ {CX:CXT}{P:Program}{w:World}{K:W.Frag}{mg:Str->Option Value}{base:Heap}{k:Nat}{f:Addr}{name qual:Str}{params:Arguments}{body:List Stmt}{scope:Scope}{dV kV doc pm cdv ct oc:Value}{an od:Option Addr}
  {osl:Array (Option Value)}{N ps:List Str}{sp:Sp} (lk:K.lookup f=some ⟨oc,od, .func (W.fnOf name qual params body scope dV kV doc pm an cdv ct),osl⟩) (hcd:W.codeIn K cdv qual=true) (S:FnScope N ps scope)
  (len:∀vs H Q E,sp vs H Q E->vs.length=ps.length)
  (hbody:∀(A:Around) (outer:List Env) (s:Shared) (H:Hp) (vs:List V) (Q:VK) (E:XK),Room k (A.deeper (envOfC qual scope s.heap.objs.size f cdv))->sp vs H Q E->
   ∃t,PSs (lC_ CX P w K mg base N qual scope f cdv A outer s H E) body t/\t {nx:=fun _ H'=>Q .non H',rt:=Q} (start N vs) H):
  FnOk P w K mg base CX (k+1) f (W.fnOf name qual params body scope dV kV doc pm an cdv ct) ps sp:=by
 refine⟨len,fun A outer s H args us vs Q E hr e0 hb r hsp=> ?_⟩;have hl:=len _ _ _ _ hsp;have KX:K.In s.heap:=e0.mod.kin.keeps fun b o e=>(e0.bs b o e).1;have lim:s.heap.NoLimit:=e0.mod.nolimit.keeps fun b o e=>(e0.bs b o e).1;have hkind:∀y∈ps.zip us,scope.names.lookup y.1=some .local\/(scope.names.lookup y.1=some .cell/\((cellsFrom (s.heap.objs.size+1) scope.names []).lookup y.1).isSome=true):=fun⟨n,v⟩ hy=>by
  rcases S.par n (List.of_mem_zip hy).1 with q|q
  .exact .inl q
  .exact .inr ⟨q,W.cellsFrom_some _ _ _ (.inl q)⟩
 refine codeAny_call_function hr.depth (KX _ _ lk) rfl S.co S.gen rfl (W.codeRec_of KX hcd) (hb _ _ _ _ ?_);refine wpAny_newFunctionEnv_cells S.kind hkind fun env he s1 x=> ?_;subst he;refine⟨lim.keeps x.toInCall.keep,codeAny_func ?_⟩;obtain⟨t,ht,hq⟩:=hbody A outer s H vs Q E (hr.deeper _) hsp;have I:Inv (lC_ CX P w K mg base N qual scope f cdv A outer s H E) [] (start N vs) H s1:=nc_ S hr.hd e0 hl r x;refine BP (ht [] s1 (start N vs) H _ I hq) (fun fl s' hs=> ?_) fun e s' hs=>hs;have fin:∀{σ':St}{H':Hp}{v:V}{u:Value},Inv (lC_ CX P w K mg base N qual scope f cdv A outer s H E) [] σ' H' s'->a2_ v u->Q v H'->CE outer P w H s Q u s':=
  fun{σ' H' v u} J rv q=>⟨v,H',J.os,J.bare,J.base,J.hok,rv,q⟩
 cases fl with
 |ret u=>
  obtain⟨v,σ',H',J,rv,q⟩:=hs;exact fin J rv q
 |next=>
  obtain⟨σ',H',J,q⟩:=hs;exact fin (v:=V.non) (u:=Value.none) J rfl q
 |brk=>
  obtain⟨_,_,_,q⟩:=hs;exact False.elim q
 |cont=>
  obtain⟨_,_,_,q⟩:=hs;exact False.elim q
end L2
namespace L2
open PySem PySem.Spec PyProof.Rows
section
variable {X:Cx}{x:Str}{p pos:Pos}{e:Expr}{es:List Expr}{t:TA}{id T:String}{r:List V->Hp->VK->Prop}
noncomputable def tCB (r:List V->Hp->VK->Prop) (t:TA):TE:=fun σ H Q=>t σ H fun vs H1=>r vs H1 Q
theorem aF_ (hc:cc_ X (.builtin id) r) (hg:Gl X x) (hm:X.mg x=none) (hv:bootBuiltins x=some (.builtin id)) (ha:PA X (e::es) t) (hn:x≠"__name__":=by decide) (hdb:(x==("__debug__":Str))=false:=by decide)
  (he:starEach (e::es) X.env=(false,eval e X.env)::starEach es X.env:=by rfl) (hpl:(backTo pos (starEach es X.env)).any (·.1)=false:=by rfl):PE X (.Call (.Name x p) (e::es) [] pos) (tCB r t):=by
 intro pins s σ H Q I h;refine BQ (co_ I hg hm hv ?_ hn hdb);exact Cr (thn (ha pos pins s σ H _ I h) fun us s1 ⟨vs,H1,I1,r1,q1⟩=>hc pins s1 σ H1 vs us Q I1 r1 q1) he hpl
theorem e2_ (hc:cc_ X (.type T) r) (hg:Gl X x) (hm:X.mg x=none) (hv:bootBuiltins x=some (.type T)) (ha:PA X (e::es) t) (hn:x≠"__name__":=by decide) (hdb:(x==("__debug__":Str))=false:=by decide)
  (he:starEach (e::es) X.env=(false,eval e X.env)::starEach es X.env:=by rfl) (hpl:(backTo pos (starEach es X.env)).any (·.1)=false:=by rfl):PE X (.Call (.Name x p) (e::es) [] pos) (tCB r t):=by
 intro pins s σ H Q I h;refine BQ (co_ I hg hm hv ?_ hn hdb);exact B5 (thn (ha pos pins s σ H _ I h) fun us s1 ⟨vs,H1,I1,r1,q1⟩=>hc pins s1 σ H1 vs us Q I1 r1 q1) he hpl
end
end L2
namespace HT
open PySem PyProof.Rows
section
open PySem.SeqAt
open PySem.AutoSeq1 (wpAny_loadPart')
open PySem.MeetsSeq PySem.MeetsSeq2 PySem.MeetsSeq3
end
section
variable {prog:Program}{w:World}{A:Around}{E:Value->Shared->Prop}{s:Shared}
theorem cat_tup {t b:Addr}{vs ws:List Value}{Q:Value->Shared->Prop} (ht:IsTup s.heap t vs.toArray) (hb:IsTup s.heap b ws.toArray) (hv:vs≠[])
  (h1:ws=[]->Q (.ref t) s) (h2:ws≠[]->Q (.ref s.heap.objs.size) {s with heap:=s.heap.push {cls:= .type "tuple",data:= .seq (vs++ws).toArray}})
  (hsz:vs.length+ws.length<=sizeLine):wpAny (model prog w) A (binaryOp .Add (.ref t) (.ref b)) Q E s:=by
 obtain⟨⟨cls,dd,data,sl⟩,ho,hc,n,hd⟩:=id ht;obtain⟨⟨cls2,dd2,data2,sl2⟩,ho2,hc2,n2,hd2⟩:=id hb;simp only at hc hd hc2 hd2;subst hc hd hc2 hd2;have e:vs.toArray++ws.toArray=(vs++ws).toArray:=by simp
 by_cases hw:ws=[]
 .exact concat_meets ⟨_,ho,rfl⟩ ⟨_,ho2,rfl⟩ noFill_tuple_add seq_tuple_add PySem.F.slot_tuple_add PySem.F.entry_tuple_add (PySem.F.args_tuple_add_2 _ _)
   (tuple_addW1 t b vs.toArray ws.toArray n n2 dd dd2 sl sl2 (by simpa using hv) (by simp [hw])) ⟨ho,ho2,h1 hw⟩
 .refine concat_meets ⟨_,ho,rfl⟩ ⟨_,ho2,rfl⟩ noFill_tuple_add seq_tuple_add PySem.F.slot_tuple_add PySem.F.entry_tuple_add (PySem.F.args_tuple_add_2 _ _)
   (tuple_addW2 t b vs.toArray ws.toArray n n2 dd dd2 sl sl2 (by simpa using hv) (by simpa using hw) (by rw [AE,AE];exact hsz)) ⟨ho,ho2, ?_⟩
  rw [e];exact h2 hw
noncomputable def sIx (n d:Nat):Option Int->Nat
 |none=>d
 |some v=>if v<0 then(v+(n:Int)).toNat else min v.toNat n
theorem sIx_none (n d:Nat):sIx n d none=d:=rfl
theorem sIx_nat (n d k:Nat):sIx n d (some (k:Int))=min k n:=by
 show(if(k:Int)<0 then((k:Int)+(n:Int)).toNat else min (k:Int).toNat n)=min k n;rw [A3 (by lia),An]
theorem sm_ (n d:Nat) (hd:d<=n) (o:Option Int):sIx n d o<=n:=by
 cases o with
 |none=>exact hd
 |some v=>
  show(if v<0 then(v+(n:Int)).toNat else min v.toNat n)<=n;by_cases hv:v<0
  .rw [A6 hv];lia
  .rw [A3 hv];exact Nat.min_le_right _ _
theorem nB_ (v:Int) (n d:Nat):(if v<0 then max (v+(n:Int)) 0 else min v (n:Int))=((sIx n d (some v):Nat):Int):=by
 show(if v<0 then max (v+(n:Int)) 0 else min v (n:Int))=(((if v<0 then(v+(n:Int)).toNat else min v.toNat n):Nat):Int);by_cases hv:v<0
 .simp only [A6 hv];lia
 .simp only [A3 hv];lia
theorem lz_ (lo hi:Option Int) (n:Nat):Builtin.Slice.sliceAdjust lo hi 1 (n:Int)=(((sIx n 0 lo:Nat):Int),((sIx n n hi:Nat):Int)):=by
 have h1:¬((1:Int)<0):=by lia
 unfold Builtin.Slice.sliceAdjust;simp only [h1,Am];refine Prod.ext ?_ ?_
 .cases lo with
  |none=>rfl
  |some v=>exact nB_ v n 0
 .cases hi with
  |none=>rfl
  |some v=>exact nB_ v n n
theorem lb_ (i j:Nat):Builtin.Slice.slicePlaces (i:Int) (j:Int) 1=j-i:=by
 unfold Builtin.Slice.slicePlaces;have h1:(1:Int)>0:=by lia
 simp only [h1,C4,Int.ediv_one];split<;>lia
theorem fN_ {v:Value}{o:Option Int}{Q:Option Int->Shared->Prop} (p:IsPart v o) (h:Q o s):wpAny (model prog w) A (Builtin.Slice.slicePartIndex v) Q E s:=by
 cases p with
 |none=>exact slicePart_none h
 |int i t=>exact slicePart_int h
theorem cE_ {sl:Addr}{vl vu:Value}{lo hi:Option Int}{n:Nat}{Q:Int×Int×Nat->Shared->Prop} (hs:s.heap.IsSliceOf sl vl vu .none) (pl:IsPart vl lo) (pu:IsPart vu hi)
  (h:Q (((sIx n 0 lo:Nat):Int),1,sIx n n hi-sIx n 0 lo) s):wpAny (model prog w) A (Builtin.Slice.sliceApplied (.ref sl) (pure (n:Int))) Q E s:=by
 obtain⟨os,hos,hcs,hds⟩:=id hs;unfold Builtin.Slice.sliceApplied Builtin.Slice.sliceFields;refine A0 (A0 (BZ hos hds (x:=vl) rfl (A0 (BZ hos hds (x:=vu) rfl (A0 (BZ hos hds (x:= .none) rfl (A2 ?_)))))));refine A0 (slicePart_none ?_);show wpAny _ _ (if((1:Int)==0)=true then _ else _) _ _ s;rw [A3 (by decide)];refine A0 (fN_ pl (A0 (fN_ pu (A0 (A2 ?_)))));show wpAny _ _ (match Builtin.Slice.sliceAdjust lo hi 1 (n:Int) with|(lo,hi)=>pure (lo,(1:Int),Builtin.Slice.slicePlaces lo hi 1)) _ _ s;rw [lz_ lo hi n];show wpAny _ _ (pure (((sIx n 0 lo:Nat):Int),(1:Int),Builtin.Slice.slicePlaces ((sIx n 0 lo:Nat):Int) ((sIx n n hi:Nat):Int) 1)) _ _ s;rw [lb_];exact A2 h
theorem ot_ (xs:Array Value) (i k:Nat):((List.range k).filterMap fun(m:Nat)=>xs[((i:Int)+(m:Int)*1).toNat]?).toArray=((xs.toList.drop i).take k).toArray:=by
 have e:(fun(m:Nat)=>xs[((i:Int)+(m:Int)*1).toNat]?)=fun m=>xs[i+m]? :=by
  funext m
  have:((i:Int)+(m:Int)*1).toNat=i+m:=by lia
  rw [this]
 rw [e];have:=pick_run xs i k;rw [List.filterMap_map] at this;have e2:((fun x=>xs[x]?)∘fun x=>i+x)=fun m=>xs[i+m]? :=rfl;rw [e2] at this;rw [this]
theorem getItem_tuple_cut {t sl:Addr}{items:Array Value}{vl vu:Value}{lo hi:Option Int}{Q:Value->Shared->Prop} (ht:IsTup s.heap t items) (hs:s.heap.IsSliceOf sl vl vu .none) (pl:IsPart vl lo) (pu:IsPart vu hi)
  (hw:¬(sIx items.size 0 lo=0/\sIx items.size items.size hi=items.size))
  (h:Q (.ref s.heap.objs.size) {s with heap:=s.heap.push {cls:= .type "tuple",data:= .seq ((items.toList.drop (sIx items.size 0 lo)).take (sIx items.size items.size hi-sIx items.size 0 lo)).toArray}})
  (hsz:items.size<=sizeLine):wpAny (model prog w) A (getItem (.ref t) (.ref sl)) Q E s:=by
 have htake:sizeOk (.seq ((items.toList.drop (sIx items.size 0 lo)).take (sIx items.size items.size hi-sIx items.size 0 lo)).toArray):=by
  show((items.toList.drop (sIx items.size 0 lo)).take (sIx items.size items.size hi-sIx items.size 0 lo)).toArray.size<=sizeLine;rw [AE,Az,List.length_drop,Ao];lia
 have hj:sIx items.size items.size hi<=items.size:=sm_ _ _ (A9 _) hi;obtain⟨os,hos,hcs,hds⟩:=id hs;have hTs:s.TypeIs (.ref sl) "slice":=⟨os,hos,hcs⟩;unfold getItem;try with_reducible refine Au ?_
 first|refine A0 (A2 ?_)|skip
 refine A0 (wpAny_sequenceKey ht.typeIs (by decide) ?_);refine A0 (Ax (name:=Str.ofString "__getitem__") ht.typeIs BH
  (Ag BH ht.typeIs entry_tuple_getitem ?_ (args_tuple_getitem _ _)))
 show wpAny _ _ (Builtin.Tuple.tupleItemsOf (.ref t)>>=_) _ _ s;refine A0 (tupleItemsOf_ ht ?_);refine A0 (DD hTs ?_);rw [A6 (by decide)];refine A0 (cE_ hs pl pu ?_);have hno:¬((((sIx items.size 0 lo:Nat):Int)==0&&(1:Int)==1&&(sIx items.size items.size hi-sIx items.size 0 lo)==items.size)=true):=by
  intro q;rw [AM,AM] at q;have q1:((sIx items.size 0 lo:Nat):Int)=0:=eq_of_beq q.1.1;have q2:sIx items.size items.size hi-sIx items.size 0 lo=items.size:=eq_of_beq q.2;exact hw ⟨by lia,by lia⟩
 show wpAny _ _ (if(((sIx items.size 0 lo:Nat):Int)==0&&(1:Int)==1&&(sIx items.size items.size hi-sIx items.size 0 lo)==items.size)=true then _ else _) _ _ s;rw [A3 hno,ot_];first
  |exact A0 (m:=Builtin.Tuple.tupleExact _) (Aq (A2 ⟨_,rfl,A2 h⟩) htake)
  |exact A0 (m:=Builtin.Tuple.tupleExact _) (Aq (A0 (A2 (A2 ⟨_,rfl,A2 h⟩))) htake)
  |exact A0 (A0 (m:=Builtin.Tuple.tupleExact _) (Aq (A2 (A2 ⟨_,rfl,A2 h⟩)) htake))
  |exact A0 (A0 (m:=Builtin.Tuple.tupleExact _) (Aq (A2 ⟨_,rfl,A2 h⟩) htake))
end
end HT
namespace L2
open PySem PySem.Spec PyProof.Rows
noncomputable abbrev TO:=St->Hp->(Option Int->Hp->Prop)->Prop
noncomputable def PO (X:Cx) (e:Option Expr) (t:TO):Prop:=
 ∀(pins:List (Addr×Obj)) (s:Shared) (σ:St) (H:Hp) (Q:Option Int->Hp->Prop),Inv X pins σ H s->t σ H Q->
  wpAny (model X.prog X.w) X.A (evalPart e X.env) (fun u s'=>∃o H',Inv X pins σ H' s'/\IsPart u o/\Q o H') X.xe s
noncomputable def p9_:TO:=fun _ H Q=>Q none H
noncomputable def tT_ (t:TE):TO:=fun σ H Q=>t σ H fun x H1=>∃i,x= .int i/\Q (some i) H1
theorem ei_ {ns:List Int}:∀{us:List Value},aW_ (ns.map V.int) us->IntsAre us ns:=by
 induction ns with
 |nil=>intro us r;rw [D4] at r;cases r;exact .nil
 |cons n ns ih=>
  intro us r;rw [AI] at r;cases r with
  |cons r1 r2=>
   obtain⟨t,e⟩:=r1;subst e;exact .cons n t (ih r2)
section
variable {X:Cx}{e:Expr}{te:TE}{lo hi:Option Expr}{tl th:TO}{pos p2:Pos}
theorem i3_:PO X none p9_:=by
 intro pins s σ H Q I h;rw [evalPart_none];exact A2 ⟨none,H,I, .none,h⟩
theorem i2_ (h:PE X e te):PO X (some e) (tT_ te):=by
 intro pins s σ H Q I hw;rw [evalPart_some];refine thn (h pins s σ H _ I hw) fun u s1 ⟨x,H1,I1,r1,q1⟩=> ?_;obtain⟨i,rfl,q⟩:=q1;obtain⟨t,rfl⟩:=r1;exact⟨some i,H1,I1, .int i t,q⟩
noncomputable def SlR (X:Cx) (r:V->Option Int->Option Int->Hp->VK->Prop):Prop:=
 ∀(pins:List (Addr×Obj)) (s:Shared) (σ:St) (H:Hp) (x:V) (v vl vu:Value) (lo hi:Option Int) (sl:Addr) (Q:VK),Inv X pins σ H s->a2_ x v->s.heap.IsSliceOf sl vl vu .none->IsPart vl lo->IsPart vu hi->r x lo hi H Q->
  ∃T id,typeLookup (.type T) "__getitem__"=pure (some (.builtin id))/\s.TypeIs v T/\wpAny (model X.prog X.w) X.A (getItem v (.ref sl)) (EP X pins σ Q) X.xe s
noncomputable def tSl (r:V->Option Int->Option Int->Hp->VK->Prop) (te:TE) (tl th:TO):TE:=fun σ H Q=>te σ H fun x H1=>tl σ H1 fun l H2=>th σ H2 fun u H3=>r x l u H3 Q
theorem gx_ {r:V->Option Int->Option Int->Hp->VK->Prop} (hr:SlR X r) (he:PE X e te) (hl:PO X lo tl) (hu:PO X hi th):PE X (.Subscript e (.Slice lo hi none p2) pos) (tSl r te tl th):=by
 intro pins s σ H Q I h;refine Subscript_ (thn (he pins s σ H _ I h) fun v s1 ⟨x,H1,I1,r1,q1⟩=> ?_);refine wpAny_Slice (thn (hl pins s1 σ H1 _ I1 q1) fun vl s2 ⟨l,H2,I2,pl,q2⟩=>thn (hu pins s2 σ H2 _ I2 q2) fun vu s3 ⟨u,H3,I3,pu,q3⟩=> ?_);rw [evalPart_none];refine A2 ?_;have I4:Inv X pins σ H3 {s3 with heap:=s3.heap.push {cls:= .type "slice",data:= .fields #[vl,vu, .none]}}:=I3.kept (t':=s3.toks) fun b ob q=>A7 _ q;obtain⟨T,id,hT,ht,hg⟩:=hr pins {s3 with heap:=s3.heap.push {cls:= .type "slice",data:= .fields #[vl,vu, .none]}} σ H3 x v vl vu l u s3.heap.objs.size Q I4 r1 (Heap.IsSliceOf.new ..) pl pu q3;show wpAny (model X.prog X.w) X.A (subscriptTail e (.Slice lo hi none p2) v (.ref s3.heap.objs.size)) (EP X pins σ Q) X.xe {s3 with heap:=s3.heap.push {cls:= .type "slice",data:= .fields #[vl,vu, .none]}};exact tail_any (ops:=[.ref s3.heap.objs.size,v]) ht hT hg (by with_unfolding_all rfl)
noncomputable def kJ_ (xs:List V) (lo hi:Option Int):List V:=(xs.drop (HT.sIx xs.length 0 lo)).take (HT.sIx xs.length xs.length hi-HT.sIx xs.length 0 lo)
theorem fs_ (xs:List V) (lo hi:Option Int):(kJ_ xs lo hi).length<=xs.length:=by
 unfold kJ_;rw [Az,List.length_drop];lia
noncomputable def vG_ (K:W.Frag):V->Option Int->Option Int->Hp->VK->Prop:=fun x lo hi H Q=>∃a xs,x= .ref a/\SqT K H a xs/\
 ¬(HT.sIx xs.length 0 lo=0/\HT.sIx xs.length xs.length hi=xs.length)/\∀p,H p=none->Q (.ref p) (upd H p (.tup (kJ_ xs lo hi)))
theorem sk_:SlR X (vG_ X.K):=by
 intro pins s σ H x v vl vu lo hi sl Q I rx hs pl pu h;obtain⟨a,xs,rfl,hx,hw,q⟩:=h;cases rx;obtain⟨its,r,ht,hz⟩:=I.tuple hx;have hlen:its.toArray.size=xs.length:=by rw [AE];exact r.length.symm
 refine⟨"tuple",_,BH.lookup,ht.typeIs, ?_⟩;refine HT.getItem_tuple_cut ht hs pl pu (by rw [hlen];exact hw) ?_ (by rw [hlen];exact hz);rw [hlen];refine⟨.ref s.heap.objs.size,_,I.laid (t':=s.toks) (o:= .tup (kJ_ xs lo hi)) (fun b ob q=>A7 _ q) (A9 _) ?_,rfl,q _ (I.hok.fresh (A9 _))⟩;exact⟨B2 (fs_ xs lo hi) hz,_,(r.drop (HT.sIx xs.length 0 lo)).take (HT.sIx xs.length xs.length hi-HT.sIx xs.length 0 lo),IsTup.new _ _⟩
noncomputable def uC_ (K:W.Frag):R2:=fun x y H Q=>∃a b xs ys,x= .ref a/\y= .ref b/\SqT K H a xs/\SqT K H b ys/\xs≠[]/\xs.length+ys.length<=sizeLine/\
 (ys=[]->Q (.ref a) H)/\(ys≠[]->∀p,H p=none->Q (.ref p) (upd H p (.tup (xs++ys))))
theorem aW_.nil_iff {xs:List V}{us:List Value} (r:aW_ xs us):us=[]↔xs=[]:=by
 cases r with
 |nil=>simp
 |cons _ _=>simp
theorem qM_:OpR X (binaryOp .Add) (uC_ X.K):=by
 intro pins s σ H x y v u Q I rx ry h;obtain⟨a,b,xs,ys,rfl,rfl,ha,hb,hx,hz,q1,q2⟩:=h;cases rx;cases ry;obtain⟨its,r1,p1,_⟩:=I.tuple ha;obtain⟨its2,r2,p2,_⟩:=I.tuple hb;refine HT.cat_tup p1 p2 (fun z=>hx (r1.nil_iff.mp z)) (fun z=>⟨.ref a,H,I,rfl,q1 (r2.nil_iff.mp z)⟩) (fun z=> ?_) (by rw [<-r1.length,<-r2.length];exact hz);refine⟨.ref s.heap.objs.size,_,I.laid (t':=s.toks) (o:= .tup (xs++ys)) (fun b ob q=>A7 _ q) (A9 _) ?_,rfl,q2 (fun w=>z (r2.nil_iff.mpr w)) _ (I.hok.fresh (A9 _))⟩;exact⟨by rw [AF];exact hz,_,r1.append r2,IsTup.new _ _⟩
end
end L2
namespace L2
open PySem PySem.Spec PyProof.Rows
noncomputable def ixN (n:Nat) (i:Int):Option Nat:=if 0<=i then(if i<n then some i.toNat else none) else if -(n:Int)<=i then some (i+n).toNat else none
noncomputable def atI {α:Type} (xs:List α) (i:Int):Option α:=(ixN xs.length i).bind fun j=>xs[j]?
theorem m8_ {n:Nat}{i:Int}{j:Nat} (h:ixN n i=some j):seqIndex? i n=some j/\j<n/\-(n:Int)<=i/\i<n:=by
 unfold ixN at h;by_cases h0:0<=i
 .rw [A6 h0] at h;by_cases h1:i<n
  .rw [A6 h1] at h;have e:i.toNat=j:=Ad h;exact⟨by rw [seqIndex_of h0 h1,e],by lia,by lia,h1⟩
  .rw [A3 h1] at h;cases h
 .rw [A3 h0] at h;by_cases h1: -(n:Int)<=i
  .rw [A6 h1] at h;have e:(i+n).toNat=j:=Ad h;exact⟨by rw [seqIndex_neg (by lia) h1,e],by lia,h1,by lia⟩
  .rw [A3 h1] at h;cases h
theorem nL_ {α:Type}{xs:List α}{i:Int}{v:α} (h:atI xs i=some v):∃j,seqIndex? i xs.length=some j/\xs[j]? =some v/\j<xs.length/\-(xs.length:Int)<=i/\i<xs.length:=by
 unfold atI at h;cases e:ixN xs.length i with
 |none=>rw [e] at h;cases h
 |some j=>
  rw [e] at h;obtain⟨h1,h2,h3,h4⟩:=m8_ e;exact⟨j,h1,h,h2,h3,h4⟩
theorem nK_ {α:Type}{xs:List α}{j:Nat}{v:α} (h:xs[j]? =some v):atI xs (j:Int)=some v:=by
 have hj:j<xs.length:=(AD.mp h).1;have e:ixN xs.length (j:Int)=some j:=by
  unfold ixN;rw [A6 (by lia),A6 (by lia)];simp
 unfold atI;rw [e];exact h
noncomputable def rx_ (b:Expr):Prop:=∀o i,subscripted b false o i=operate [o,i] (getItem o i)
noncomputable def IxR (X:Cx) (r:R2):Prop:=
 ∀(value slice:Expr) (pins:List (Addr×Obj)) (s:Shared) (σ:St) (H:Hp) (x y:V) (v u:Value) (Q:VK),Inv X pins σ H s->a2_ x v->a2_ y u->r x y H Q->
  subscripted slice false v u=operate [v,u] (getItem v u)->wpAny (model X.prog X.w) X.A (subscriptTail value slice v u) (EP X pins σ Q) X.xe s
noncomputable def MtR (X:Cx) (id:String) (r:V->List V->Hp->VK->Prop):Prop:=
 ∀(pins:List (Addr×Obj)) (s:Shared) (σ:St) (H:Hp) (x:V) (xs:List V) (v:Value) (us:List Value) (Q:VK),Inv X pins σ H s->a2_ x v->aW_ xs us->r x xs H Q->
  wpAny (model X.prog X.w) X.A (call (.builtin id) (v::us)) (EP X pins σ Q) X.xe s
section
variable {X:Cx}{a b:Expr}{ta tb:TE}{pos:Pos}
theorem bg_ {r:R2} (hr:IxR X r) (ha:PE X a ta) (hb:PE X b tb) (hs:rx_ b):PE X (.Subscript a b pos) (tOp r ta tb):=by
 intro pins s σ H Q I h;exact Subscript_ (u5_ ha hb I h fun v u s2 x y H2 I2 rx ry q=>hr a b pins s2 σ H2 x y v u Q I2 rx ry q (hs _ _))
noncomputable def vL_ (K:W.Frag):R2:=fun x y H Q=>∃p xs i v,x= .ref p/\y= .int i/\SqL K H p xs/\atI xs i=some v/\Q v H
noncomputable def vK_ (K:W.Frag):R2:=fun x y H Q=>∃p xs i v,x= .ref p/\y= .int i/\SqT K H p xs/\atI xs i=some v/\Q v H
theorem cX_:IxR X (vL_ X.K):=by
 intro value slice pins s σ H x y v u Q I rx ry h hs;obtain⟨p,xs,i,z,rfl,rfl,hq,he,q⟩:=h;cases rx;obtain⟨t,rfl⟩:=ry;obtain⟨its,r,pl,hz⟩:=I.list hq;obtain⟨j,h1,h2,h3,h4,h5⟩:=nL_ he;obtain⟨w,ew,rw'⟩:=r.get h2;have hl:=r.length;have hn:=fY_;have fin:EP X pins σ Q w s:=⟨z,H,I,rw',q⟩;by_cases h0:0<=i
 .have hj:i.toNat=j:=by
   rw [seqIndex_of h0 h5] at h1;exact Ad h1
  exact item_listR pl.isList h0 (by lia) (by rw [hj];simpa using ew) fin hs
 .have hj:(i+(its.toArray.size:Int)).toNat=j:=by
   rw [seqIndex_neg (by lia) h4] at h1;rw [AE,<-hl];exact Ad h1
  exact subscriptTail_builtinR (x:=w) pl.isList.typeIs slot_list_getitem.lookup
   (wpAny_getItem_list_neg (Q:=fun r s'=>r=w/\EP X pins σ Q r s') pl.isList (by lia) (by rw [AE]<;>lia) (by lia) (by rw [hj];simpa using ew) ⟨rfl,fin⟩) hs
theorem s2_:IxR X (vK_ X.K):=by
 intro value slice pins s σ H x y v u Q I rx ry h hs;obtain⟨p,xs,i,z,rfl,rfl,hq,he,q⟩:=h;cases rx;obtain⟨t,rfl⟩:=ry;obtain⟨its,r,pl,hz⟩:=I.tuple hq;obtain⟨j,h1,h2,h3,h4,h5⟩:=nL_ he;obtain⟨w,ew,rw'⟩:=r.get h2;have hl:=r.length;have hn:=fY_;have fin:EP X pins σ Q w s:=⟨z,H,I,rw',q⟩;exact subscriptTail_builtinR (x:=w) pl.typeIs slot_tuple_getitem.lookup
  (getItem_tuple (j:=j) (Q:=fun r s'=>r=w/\EP X pins σ Q r s') pl (by lia) (by lia) (by rw [AE,<-hl];exact h1) (by simpa using ew) ⟨rfl,fin⟩) hs
theorem li_ (its:List Value) (n j:Nat) (u:Value):Obj.mapSeq (·.setIfInBounds j u) {cls:= .type "list",data:= .seq its.toArray n}={cls:= .type "list",data:= .seq (its.set j u).toArray n}:=by
 simp [Obj.mapSeq]
theorem Inv.lst {pins:List (Addr×Obj)}{σ:St}{H:Hp}{s:Shared}{p:Addr}{xs:List V} (I:Inv X pins σ H s) (h:H p=some (.lst xs)):
  ∃(its:List Value) (n:Nat),aW_ xs its/\s.heap.get? p=some {cls:= .type "list",data:= .seq its.toArray n}/\xs.length<=sizeLine:=by
 obtain⟨z,its,n,r,e⟩:=I.hok p _ h;exact⟨its,n,r,e,z⟩
theorem Inv.lstUpd {pins:List (Addr×Obj)}{σ:St}{H:Hp}{s:Shared}{p:Addr}{xs ys:List V}{its its':List Value}{n n':Nat}{f:Obj->Obj} (I:Inv X pins σ H s) (h:H p=some (.lst xs))
  (ho:s.heap.get? p=some {cls:= .type "list",data:= .seq its.toArray n}) (hf:f {cls:= .type "list",data:= .seq its.toArray n}={cls:= .type "list",data:= .seq its'.toArray n'}) (r:aW_ ys its') (hz:ys.length<=sizeLine) (t:Nat):
  Inv X pins σ (upd H p (.lst ys)) {s with heap:=s.heap.update p f,toks:=t}:=by
 have e:(s.heap.update p f).get? p=some {cls:= .type "list",data:= .seq its'.toArray n'}:=by
  rw [C7 f ho (by rw [hf]<;>rfl),hf]
 refine I.write (x:=p) (e:=p) (by rw [h];trivial) (.inl rfl) (fun b u hb q=>(Heap.get?_update_other _ _ (BM hb)).trans q) ⟨_,e⟩ ?_;exact⟨hz,its',n',r,e⟩
noncomputable def uz_:V->V->V->Hp->(Hp->Prop)->Prop:=fun o i v H Q=>∃p xs k j,o= .ref p/\i= .int k/\H p=some (.lst xs)/\ixN xs.length k=some j/\Q (upd H p (.lst (xs.set j v)))
theorem gh_:va_ X uz_:=by
 intro pins s σ H o i v ov iv u Q I ro ri rv h;obtain⟨p,xs,k,j,rfl,rfl,hp,hj,q⟩:=h;cases ro;obtain⟨t,rfl⟩:=ri;obtain⟨its,n,r,ho,hz⟩:=I.lst hp;obtain⟨h1,h2,h3,h4⟩:=m8_ hj;have hl:=r.length;have hn:=fY_;have I':Inv X pins σ (upd H p (.lst (xs.set j v))) {s with heap:=s.heap.update p (Obj.mapSeq (·.setIfInBounds j u))}:=
  I.lstUpd hp ho (li_ its n j u) (r.set rv j) (by rw [Bm];exact hz) s.toks
 by_cases h0:0<=k
 .have hk:k.toNat=j:=by
   rw [seqIndex_of h0 h4] at h1;exact Ad h1
  exact W.ki_setAt ho h0 (by lia) (by rw [AE,<-hl];exact h4) (by rw [hk];exact⟨_,I',q⟩)
 .have hk:(k+(its.toArray.size:Int)).toNat=j:=by
   rw [seqIndex_neg (by lia) h3] at h1;rw [AE,<-hl];exact Ad h1
  exact W.ki_setBack ho (by lia) (by rw [AE,<-hl];exact h3) (by lia) (by rw [hk];exact⟨_,I',q⟩)
theorem hr_ (lo hi:Option Int) (n:Nat):(sliceBounds lo hi none n).1=((HT.sIx n 0 lo:Nat):Int)/\(sliceBounds lo hi none n).2.1=((HT.sIx n n hi:Nat):Int)/\(sliceBounds lo hi none n).2.2=1:=by
 refine⟨?_, ?_,rfl⟩
 .cases lo with
  |none=>simp [sliceBounds,HT.sIx]
  |some i=>
   simp only [sliceBounds,HT.sIx,Option.getD_none,show(1:Int)>0 by decide,C4];by_cases h:i<0
   .simp only [h,C4]<;>lia
   .simp only [h,Am]<;>lia
 .cases hi with
  |none=>simp [sliceBounds,HT.sIx]
  |some i=>
   simp only [sliceBounds,HT.sIx,Option.getD_none,show(1:Int)>0 by decide,C4];by_cases h:i<0
   .simp only [h,C4]<;>lia
   .simp only [h,Am]<;>lia
theorem gg_ (its:List Value) (lo hi:Option Int):slicePick its.toArray lo hi none=((its.drop (HT.sIx its.length 0 lo)).take (HT.sIx its.length its.length hi-HT.sIx its.length 0 lo)).toArray:=by
 obtain⟨h1,h2,h3⟩:=hr_ lo hi its.toArray.size;unfold slicePick;rw [h1,h2,h3];simp only [sliceRange_one,pick_run,AE]<;>rfl
noncomputable def vH_ (K:W.Frag):V->Option Int->Option Int->Hp->VK->Prop:=fun x lo hi H Q=>∃a xs,x= .ref a/\SqL K H a xs/\∀p,H p=none->Q (.ref p) (upd H p (.lst (kJ_ xs lo hi)))
theorem qj_:SlR X (vH_ X.K):=by
 intro pins s σ H x v vl vu lo hi sl Q I rx hs pl pu h;obtain⟨a,xs,rfl,hx,q⟩:=h;cases rx;obtain⟨its,r,ht,hz⟩:=I.list hx;have hlen:=r.length;refine⟨"list",_,slot_list_getitem.lookup,ht.isList.typeIs, ?_⟩;refine wpAny_getItem_list_slice ht.isList hs pl pu .none (by simp) ?_ (by rw [AE]<;>lia)
 rw [gg_,<-hlen];refine⟨.ref s.heap.objs.size,_,I.laid (t':=s.toks) (o:= .lst (kJ_ xs lo hi)) (fun b ob q=>A7 _ q) (A9 _) ?_,rfl,q _ (I.hok.fresh (A9 _))⟩;exact⟨B2 (fs_ xs lo hi) hz,_,0,(r.drop (HT.sIx xs.length 0 lo)).take (HT.sIx xs.length xs.length hi-HT.sIx xs.length 0 lo),AH _ rfl⟩
theorem b6_:cc_ X (.builtin "len") (fun xs H Q=>∃p ys,xs=[.ref p]/\(SqL X.K H p ys\/SqT X.K H p ys)/\Q (.int ys.length) H):=by
 intro pins s σ H xs us Q I r h;obtain⟨p,ys,rfl,hq,q⟩:=h;obtain⟨u,rfl,rx⟩:=fx_ r;cases rx;have hn:=fY_;rcases hq with hq|hq
 .obtain⟨its,r',pl,hz⟩:=I.list hq;have hlen:=r'.length;exact Calls.call_len_list pl.isList (by simp only [AE]<;>lia) ⟨.int ys.length,H,I.tok _,⟨s.toks+1,by rw [AE,hlen]⟩,q⟩
 .obtain⟨its,r',pl,hz⟩:=I.tuple hq;have hlen:=r'.length;exact len_tuple pl (by simp only [AE]<;>lia) ⟨.int ys.length,H,I.tok _,⟨s.toks+1,by rw [AE,hlen]⟩,q⟩
theorem hc_:cc_ X (.type "tuple") (fun xs H Q=>∃p ys,xs=[.ref p]/\((SqL X.K H p ys/\∀l,H l=none->Q (.ref l) (upd H l (.tup ys)))\/(SqT X.K H p ys/\Q (.ref p) H))):=by
 intro pins s σ H xs us Q I r h;obtain⟨p,ys,rfl,h⟩:=h;obtain⟨u,rfl,rx⟩:=fx_ r;cases rx;rcases h with⟨hq,q⟩|⟨hq,q⟩
 .obtain⟨its,r',pl,hz⟩:=I.list hq;have hlen:=r'.length;refine call_tuple_list pl.isList (fun h' kp=> ?_) (by simp only [AE]<;>lia)
  have I1:Inv X pins σ H {s with heap:=h'}:=I.kept (t':=s.toks) kp;have I2:Inv X pins σ (upd H h'.objs.size (.tup ys)) {s with heap:=h'.push {cls:= .type "tuple",data:= .seq its.toArray}}:=
   I1.laid (t':=s.toks) (fun b o e=>A7 _ e) (A9 _) (show aG_ X.prog X.w _ _ _ (.tup ys) from⟨hz,its,r',IsTup.new _ _⟩)
  exact⟨.ref h'.objs.size,_,I2,rfl,q _ (I1.hok.fresh (A9 _))⟩
 .obtain⟨its,r',pl,hz⟩:=I.tuple hq;exact call_tuple_same pl ⟨.ref p,H,I,rfl,q⟩
noncomputable def tyV (K:W.Frag) (T:String) (x:V) (H:Hp):Prop:=match x with
 | .str _=>T="str"
 | .int _=>T="int"
 | .ref p=>(T="list"/\∃xs,SqL K H p xs)\/(T="tuple"/\∃o,K.lookup p=some o/\o.cls= .type "tuple"/\o.dict=none)\/
   (T="dict"/\((∃kvs,H p=some (.dK kvs))\/∃kvs,H p=some (.dT kvs)))\/(T="set"/\∃S n,H p=some (.set S n))
 |_=>False
theorem rU_ {pins:List (Addr×Obj)}{σ:St}{H:Hp}{s:Shared}{T:String}{x:V}{v:Value} (I:Inv X pins σ H s) (r:a2_ x v) (ty:tyV X.K T x H):
  s.TypeIs v T/\∀a,v= .ref a->∃ob,s.heap.get? a=some ob/\ob.dict=none:=by
 cases x with
 |str z=>
  obtain⟨t,rfl⟩:=r;cases (show T="str" from ty);exact⟨typeIs_str s z t,fun _ e=>nomatch e⟩
 |int i=>
  obtain⟨t,rfl⟩:=r;cases (show T="int" from ty);exact⟨typeIs_int s i t,fun _ e=>nomatch e⟩
 |ref p=>
  cases r;rcases ty with⟨rfl,xs,hq⟩|⟨rfl,o,hk,hc,hd⟩|⟨rfl,hk⟩|⟨rfl,S,n,hk⟩
  .obtain⟨its,_,pl,_⟩:=I.list hq;refine⟨pl.isList.typeIs,fun a e=> ?_⟩;cases e;obtain⟨o,n,e,c,hd,_⟩:=pl;exact⟨o,e,hd⟩
  .refine⟨⟨o,I.kIn p o hk,hc⟩,fun a e=> ?_⟩;cases e;exact⟨o,I.kIn _ o hk,hd⟩
  .have z:∃o,s.heap.get? p=some o/\o.ExactDict:=by
    rcases hk with⟨kvs,hk⟩|⟨kvs,hk⟩
    .obtain⟨_,_,_,_,o,_,_,e,ex,_⟩:=I.hok p _ hk;exact⟨o,e,ex⟩
    .obtain⟨_,_,_,_,o,_,_,e,ex,_⟩:=I.hok p _ hk;exact⟨o,e,ex⟩
   obtain⟨o,e,ex⟩:=z;refine⟨⟨o,e,ex.1⟩,fun a e2=> ?_⟩;cases e2;exact⟨o,e,ex.2.1⟩
  .obtain⟨o,_,_,_,e,ex,_⟩:=I.hok p _ hk;refine⟨⟨o,e,ex.1⟩,fun a e2=> ?_⟩;cases e2;exact⟨o,e,ex.2.1⟩
 |_=>exact False.elim ty
noncomputable def tBM (K:W.Frag) (T:String) (r:V->List V->Hp->VK->Prop) (to:TE) (t:TA):TE:=fun σ H Q=>to σ H fun x H1=>tyV K T x H1/\t σ H1 fun xs H2=>r x xs H2 Q
variable {o e:Expr}{es:List Expr}{to:TE}{t:TA}{name:Str}{apos cpos:Pos}{T id:String}{r:V->List V->Hp->VK->Prop}
theorem d5_ (pa:PlainAttrs T) (slot:Slot T name id) (hty:typeOf (.builtin id)=pure (.type "method_descriptor")) (hm:MtR X id r) (ho:PE X o to) (ha:PA X (e::es) t)
  (hbase:attributeBase o name X.env (eval o X.env)=eval o X.env:=by rfl)
  (hfew:((backTo cpos (starEach (e::es) X.env)).all (fun x=> !x.1)&&(backToKw cpos (keywordEach [] X.env)).all (fun x=>x.1.isSome)
   &&decide ((e::es).length+([]:List Keyword).length+(if([]:List Keyword).isEmpty then 0 else 1)<30))=true:=by rfl)
  (hline:(apos.endLine==cpos.line)=true:=by rfl) (hs:starEach (e::es) X.env=(false,eval e X.env)::starEach es X.env:=by rfl) (hplain:(backTo cpos (starEach es X.env)).any (·.1)=false:=by rfl):
  PE X (.Call (.Attribute o name apos) (e::es) [] cpos) (tBM X.K T r to t):=by
 intro pins s σ H Q I h;refine wpAny_Call_method_late hbase hfew hline rfl (thn (ho pins s σ H _ I h) fun v s1 ⟨x,H1,I1,r1,ty,q1⟩=> ?_);obtain⟨h1,h2⟩:=rU_ I1 r1 ty;refine⟨T,id,pa,slot,hty,h1,h2, ?_⟩;have hA:=ha cpos pins s1 σ H1 _ I1 q1;rw [hs] at hA⊢;refine Calls.callWith_builtin (by show(false||(backTo cpos (starEach es X.env)).any (·.1))=false;rw [hplain]<;>rfl) (Calls.evalArgs_plain ?_)
 exact thn hA fun us s2 ⟨vs,H2,I2,r2,q2⟩=>hm pins s2 σ H2 x vs v us Q I2 r1 r2 q2
end
end L2
namespace L2
open PySem PySem.Spec PyProof.Rows
noncomputable def MtM (X:Cx) (id:String) (r:V->List V->Hp->VK->Prop):Prop:=
 ∀(pins:List (Addr×Obj)) (s:Shared) (σ:St) (H:Hp) (x:V) (xs:List V) (v:Value) (us:List Value) (Q:VK),Inv X pins σ H s->a2_ x v->aW_ xs us->r x xs H Q->
  wpAny (model X.prog X.w) X.A (call (.builtin id) (v::us)) (EP X pins σ Q) X.xe s
theorem aW_.one:∀{x:V}{us:List Value},aW_ [x] us->∃u,us=[u]/\a2_ x u
 |_,_, .cons r .nil=>⟨_,rfl,r⟩
theorem aW_.rep {xs:List V}{us:List Value} (h:aW_ xs us):∀k:Nat,aW_ (List.replicate k xs).flatten (List.replicate k us).flatten
 |0=> .nil
 |k+1=>by
  rw [BD,BD,Ck,Ck];exact aW_.append h (aW_.rep h k)
theorem id_ (its:List Value):∀(k:Nat) (acc:List Value),
  List.foldl (fun x1 x2=>x1++x2) acc.toArray (List.replicate k its.toArray)=(acc++(List.replicate k its).flatten).toArray
 |0,acc=>by simp
 |k+1,acc=>by
  have e:acc.toArray++its.toArray=(acc++its).toArray:=by simp
  have e2:(acc++its)++(List.replicate k its).flatten=acc++(List.replicate (k+1) its).flatten:=by
   rw [BD,Ck,BG]
  rw [<-e2,<-id_ its k (acc++its),<-e,BD,CI]
section
variable {X:Cx}{pins:List (Addr×Obj)}{σ:St}{H:Hp}{s:Shared}{l b:Addr}{xs ys zs:List V}
theorem Inv.lset {its its':List Value}{n:Nat}{f:Array Value->Array Value}{t':Nat} (I:Inv X pins σ H s) (hH:H l=some (.lst xs))
  (e:s.heap.get? l=some {cls:= .type "list",data:= .seq its.toArray n}) (hf:f its.toArray=its'.toArray) (hv:aW_ ys its') (hz:ys.length<=sizeLine):
  Inv X pins σ (upd H l (.lst ys)) {s with heap:=s.heap.update l (Obj.mapSeq f),toks:=t'}:=by
 have q:=PySem.IsL.update e f;rw [hf] at q;refine I.write (x:=l) (e:=l) (by rw [hH];exact trivial) (.inl rfl) (fun b' u hb hu=>(Heap.get?_update_other s.heap (Obj.mapSeq f) (BM hb)).trans hu) ⟨_,q⟩ ?_;exact⟨hz,its',_,hv,q⟩
theorem Inv.lnew {its:List Value}{t':Nat} (I:Inv X pins σ H s) (hv:aW_ ys its) (hz:ys.length<=sizeLine):
  Inv X pins σ (upd H s.heap.objs.size (.lst ys)) {s with heap:=s.heap.push {cls:= .type "list",data:= .seq its.toArray},toks:=t'}:=
 I.laid (fun _ _ q=>A7 _ q) (A9 _) ⟨hz,its,0,hv,AH _ rfl⟩
theorem Inv.fresh (I:Inv X pins σ H s):H s.heap.objs.size=none:=I.hok.fresh (A9 _)
theorem Inv.lstM (I:Inv X pins σ H s) (hH:H l=some (.lst xs)):xs.length<=sizeLine/\∃(its:List Value) (n:Nat),aW_ xs its/\xs.length=its.length/\s.heap.get? l=some {cls:= .type "list",data:= .seq its.toArray n}:=by
 obtain⟨z,its,n,r,e⟩:=I.hok l _ hH;exact⟨z,its,n,r,r.length,e⟩
theorem j3_ {n:Nat} (h:n<=sizeLine):Builtin.List.listTooLong n=false:=by
 unfold Builtin.List.listTooLong;exact Ai (by lia)
end
section
variable {X:Cx}
noncomputable def d3_:V->List V->Hp->VK->Prop:=fun x vs H Q=>∃l xs y,x= .ref l/\vs=[y]/\H l=some (.lst xs)/\xs.length<sizeLine/\Q .non (upd H l (.lst (xs++[y])))
theorem bC_:MtM X "list.append" d3_:=by
 intro pins s σ H x vs v us Q I rx rv h;obtain⟨l,xs,y,rfl,rfl,hH,hz,q⟩:=h;cases rx;obtain⟨u,rfl,ru⟩:=rv.one;obtain⟨z,its,n,r,hl,e⟩:=I.lstM hH;refine call_meets F.slot_list_append ⟨_,e,rfl⟩ F.entry_list_append (F.args_list_append_2 _ _) (PySem.list_append l its.toArray n u (by rw [AE];lia)) ⟨e, ?_⟩;refine⟨.non,_,I.lset (its':=its++[u]) hH e (by simp) (r.append (.cons ru .nil)) ?_,rfl,q⟩;rw [AF,BU];lia
noncomputable def qp_:V->List V->Hp->VK->Prop:=fun x vs H Q=>∃l b xs zs,x= .ref l/\vs=[.ref b]/\H l=some (.lst xs)/\H b=some (.lst zs)/\xs.length+zs.length<=sizeLine/\Q .non (upd H l (.lst (xs++zs)))
theorem cW_:MtM X "list.extend" qp_:=by
 intro pins s σ H x vs v us Q I rx rv h;obtain⟨l,b,xs,zs,rfl,rfl,hH,hB,hz,q⟩:=h;cases rx;obtain⟨u,rfl,ru⟩:=rv.one;cases ru;obtain⟨z,its,n,r,hl,e⟩:=I.lstM hH;obtain⟨z2,its2,n2,r2,hl2,e2⟩:=I.lstM hB;have hsz:its.toArray.size+its2.toArray.size<=sizeLine:=by rw [AE,AE];lia
 have hlong:¬(!its.toArray.isEmpty&&Builtin.List.listTooLong (its.toArray.size+its2.toArray.size))=true:=by
  rw [j3_ hsz,D'];exact AT
 refine call_meets F.slot_list_extend ⟨_,e,rfl⟩ F.entry_list_extend (F.args_list_extend_2 _ _)
  (AutoSeq1.list_extend_list_list_0 l its.toArray n b its2.toArray n2 hlong (by rw [AE];lia) (by lia)) ⟨e,e2, ?_⟩
 refine⟨.non,_,I.lset (its':=its++its2) hH e (by simp) (r.append r2) ?_,rfl,q⟩;rw [AF];lia
noncomputable def vM_:R2:=fun x y H Q=>∃l b xs zs,x= .ref l/\y= .ref b/\H l=some (.lst xs)/\H b=some (.lst zs)/\xs.length+zs.length<=sizeLine/\∀p,H p=none->Q (.ref p) (upd H p (.lst (xs++zs)))
theorem pv_:OpR X (binaryOp .Add) vM_:=by
 intro pins s σ H x y v u Q I rx ry h;obtain⟨l,b,xs,zs,rfl,rfl,hH,hB,hz,q⟩:=h;cases rx;cases ry;obtain⟨z,its,n,r,hl,e⟩:=I.lstM hH;obtain⟨z2,its2,n2,r2,hl2,e2⟩:=I.lstM hB;refine PySem.P.add_list e e2 ?_ (by rw [AE,AE];lia);have ea:its.toArray++its2.toArray=(its++its2).toArray:=by simp
 rw [ea];exact⟨.ref _,_,I.lnew (t':=s.toks) (r.append r2) (by rw [AF];lia),rfl,q _ I.fresh⟩
noncomputable def vJ_:R2:=fun x y H Q=>∃l k xs,x= .ref l/\y= .int k/\H l=some (.lst xs)/\-(2^63)<=k/\k<2^63/\xs.length*k.toNat<=sizeLine/\
 ∀p,H p=none->Q (.ref p) (upd H p (.lst (List.replicate k.toNat xs).flatten))
theorem q1_ {α:Type} (xs:List α) (k:Nat):(List.replicate k xs).flatten.length=k*xs.length:=by
 induction k with
 |zero=>simp
 |succ k ih=>rw [BD,Ck,AF,ih,CT,Nat.add_comm]
theorem sF_:OpR X (binaryOp .Mult) vJ_:=by
 intro pins s σ H x y v u Q I rx ry h;obtain⟨l,k,xs,rfl,rfl,hH,h1,h2,hz,q⟩:=h;cases rx;obtain⟨t,rfl⟩:=ry;obtain⟨z,its,n,r,hl,e⟩:=I.lstM hH;have hlen:its.toArray.size*k.toNat<=sizeLine:=by rw [AE,<-hl];exact hz
 have hcap:¬its.toArray.size*k.toNat>(2^63-1)/8:=by
  have:(sizeLine:Nat)<=(2^63-1)/8:=by decide
  lia
 have hfit:¬(!Builtin.List.listFitsIndex k)=true:=by
  rw [fitsIndex_both h1 h2];exact AT
 have hlong:¬Builtin.List.listTooLong (its.toArray.size*k.toNat)=true:=by
  rw [j3_ hlen];exact AT
 have hnew:List.foldl (fun x1 x2=>x1++x2) #[] (List.replicate (if its.toArray.isEmpty=true then 0 else k.toNat) its.toArray)=(List.replicate k.toNat its).flatten.toArray:=by
  have f0:∀m:Nat,List.foldl (fun x1 x2=>x1++x2) #[] (List.replicate m its.toArray)=(List.replicate m its).flatten.toArray:=fun m=>by
   have:=id_ its m [];rw [List.nil_append] at this;exact this
  rw [f0];cases its with
  |nil=>simp
  |cons a r'=>rw [A3 (by simp)]
 refine wpAny_binaryOp_repeat_ref (T:="list") (U:="int") (by decide) ⟨_,e,rfl⟩ (fun s'=>typeIs_int s' k t) noFill_list_mul F.fills_int_mul F.slot_int_rmul repeat_list F.slot_int_index.lookup
  (call_meets F.slot_int_rmul (typeIs_int s k t) F.entry_int_rmul (F.args_int_rmul_2 _ _) (int___rmul___int_list k t l its.toArray n)
   ⟨e,rfl,⟨_,e,rfl⟩,call_meets F.slot_list_mul ⟨_,e,rfl⟩ F.entry_list_mul (F.args_list_mul_2 _ _) (AutoListH.list___mul___list_int_3 l its.toArray n k t hfit hcap hlong) ⟨e, ?_⟩⟩)
 rw [hnew];exact⟨.ref _,_,I.lnew (t':=s.toks) (r.rep k.toNat) (by rw [q1_,Nat.mul_comm];exact hz),rfl,q _ I.fresh⟩
end
section
variable {prog:Program}{w:World}{A:Around}{E:Value->Shared->Prop}{s:Shared}
end
section
variable {X:Cx}
end
end L2
namespace Att
open PySem PySem.W PySem.Calls PyProof.Rows
theorem fm_ {P:Params}{h:Heap}:∀(ns:List Int) (vs:List Value),WellAll P h vs (ns.map WData.int)->IntsAre vs ns:=by
 intro ns;induction ns with
 |nil=>
  intro vs w;rw [D4] at w;cases w;exact .nil
 |cons n ns ih=>
  intro vs w;rw [AI] at w;cases w with
  |cons a b=>
   cases a;exact .cons _ _ (ih _ b)
theorem ma_ {l:OpenLaw}{n:Nat} (hn:l.most=some n) {P:Params}{h:Heap}{args:List WData}{vals:List Value}
  (hpre:l.row.toRowW.claim.pre args=true) (hwl:WellAll P h vals args):
  ∃a vs ns,vals=[Value.ref a]/\args=[WData.list (ns.map WData.int)]/\h.get? a=some {cls:= .type "list",data:= .seq vs.toArray}/\IntsAre vs ns/\ns.length<=n:=by
 have hsh:WShape.hasAll [] args [.list .int]=true:=(pre_splitW hpre).1;have hc:l.pre.holds [] {args:=args}=true:=(pre_splitW hpre).2;obtain⟨d,r,rfl,h1,h2⟩:=hasAllW_cons hsh;obtain rfl:=hasAllW_nil h2;obtain⟨xs,rfl,h3⟩:=hasW_list h1;obtain⟨ns,rfl⟩:=items_int h3;have hlen:ns.length<=n:=by
  unfold OpenLaw.pre at hc;have h4:(WTm.not (.lt (.lit (.int (n:Int))) (.len (.arg 0)))).holds [] {args:=[.list (ns.map .int)]}=true:=by
   have h4:=(holds_andW hc).1;rw [hn] at h4;exact h4
  have h5:=condW_of h4 (w_not (w_lt w_lit (w_len_list (w_arg rfl))));rw [A1] at h5;refine Nat.le_of_not_lt fun q=> ?_;have q':(n:Int)<((ns.length:Nat):Int):=by lia
  first
   |(rw [B9 q'] at h5;exact absurd h5 (by decide))
   |(simp at h5;lia)
 cases hwl with
 |cons w1 w2=>
  cases w2;cases w1 with
  |list ho hall=>exact⟨_,_,ns,rfl,rfl,ho,fm_ ns _ hall,hlen⟩
theorem mx_ (l:OpenLaw) (args:List WData):l.row.toRowW.claim.post args (.bool true) args=true:=
 postW_of (r:=l.row.toRowW) (X:=(true==true))
  (show WShape.has [] (.bool true) .bool=true by first|rfl|decide|simp [WShape.has,WShape.arms,WShape.armsAll])
  (show(WTm.eq .res (.lit (.bool true))).value [] {args:=args,res:=some (.bool true),after:=args}=some (.bool (true==true)) from w_eq_bool (w_res rfl) w_lit) rfl
theorem attach_call {l:OpenLaw}{n:Nat}{q:Program}{loose:List Str}{XP:(Str->Option Value)->Heap->Prop}{YP:World->Heap->Prop}{d:DefRec}
  (hn:l.most=some n) (hdf:d.params.defaults=[])
  (call:∀(w:World) (s₀ s₁:Shared) (mg mb:Str->Option Value) (fa:Addr) (o:Obj) (pm cd doc:Value) (a:Addr) (vs:List Value) (ns:List Int),
   Ground q loose [] XP w s₀ mg mb s₁.heap->YP w s₁.heap->
   s₁.heap.get? fa=some o->o.data= .func (docDef d.name d.params d.body d.scope pm cd doc)->s₁.heap.CodeRec cd d.name->mg d.name=some (.ref fa)->
   s₁.heap.get? a=some {cls:= .type "list",data:= .seq vs.toArray}->IntsAre vs ns->ns.length<=n->s₁.gens= #[]->
   codeAny (model l.prog w) callerA (.call (.ref fa) ⟨[.ref a],[]⟩) (fun r s'=>r= .ok (.ret (.bool true))/\OldK s₁.heap s'.heap/\s'.os=s₁.os/\AllBare s'.gens) s₁):
  WalkO q loose XP YP l.row.toRowW d [] (fun f vs=>PySem.call f vs):=by
 intro w s₀ s₁ mg mb G Y fa o pm cd doc dV kV ho hd hcd hD hmg hg args vals as hpre hlay hrd hwl hlo;obtain rfl:dV= .none:=Dflts.none hD hdf;obtain rfl:kV= .none:=Dflts.noKw hD;obtain⟨a,vs,ns,rfl,rfl,hobj,hints,hlen⟩:=ma_ hn hpre hwl;refine enter_call (DE (call w s₀ s₁ mg mb fa o pm cd doc a vs ns G Y ho (fd_plain hd) hcd hmg hobj hints hlen hg) fun r s' hq=> ?_);obtain⟨rfl,h2,h3,h4⟩:=hq;exact⟨.inl ⟨.bool true, .bool true,[],rfl,fun _=>rfl, .bool true,mx_ l _,fun _=>⟨List.Pairwise.nil,fun _ hm=>(nomatch hm)⟩⟩,h2,h3,h4⟩
section
variable {prog:Program}{w:World}{A:Around}{E:Value->Shared->Prop}{s:Shared}{K:Frag}
noncomputable def vk_ (h:Heap) (L d:Addr):List (Addr×Obj):=(List.range h.objs.size).filterMap fun a=>if a=L\/a=d then none else(h.get? a).map fun o=>(a,o)
end
end Att
namespace L2
open PySem PySem.Spec PyProof.Rows
theorem hl_:∀{vs:List Value}{ns:List Int},IntsAre vs ns->aW_ (ns.map V.int) vs
 |_,_, .nil=> .nil
 |_,_, .cons n t h=> .cons ⟨t,rfl⟩ (hl_ h)
noncomputable def vb_ (H:Hp):Prop:=∀b,H b=none\/∃o xs,H b=some (.frz o (.lst xs))
theorem oO_ {P:Program}{w:World}{K:W.Frag}{mg mb:Str->Option Value}{CX:CXT}{k:Nat}{fa a:Addr}{fd:FuncData}{x:Str}{sp:Sp}{s₁:Shared}{vs:List Value}{ns:List Int}
  (KX:K.In s₁.heap) (hns:s₁.heap.Ns mainGlobals mg) (hb:s₁.heap.Ns builtinsNs mb) (hbb:∀x:Str,x≠"__name__"->mb x=bootBuiltins x) (hlim:s₁.heap.NoLimit) (hg:s₁.gens= #[])
  (ha:s₁.heap.get? a=some {cls:= .type "list",data:= .seq vs.toArray}) (hi:IntsAre vs ns) (hl:ns.length<=sizeLine) (hr:Room k callerA)
  (F:∀base:Heap,K.In base->base.Ns mainGlobals mg->FnOk P w K mg base CX k fa fd [x] sp) (hbind:∀(s:Shared) (u:Value),BindsTo s fd ⟨[u],[]⟩ [(x,u)])
  (hsp:∀H:Hp,vb_ H->SqL K H a (ns.map V.int)->sp [.ref a] H (fun v _=>v= .bl true) fun _ _ _=>False)
  (hCX:∀H e s',CX [] H s₁ (fun _ _ _=>False) e s'->False):
  codeAny (model P w) callerA (.call (.ref fa) ⟨[.ref a],[]⟩) (fun r s'=>r= .ok (.ret (.bool true))/\OldK s₁.heap s'.heap/\s'.os=s₁.os/\AllBare s'.gens) s₁:=by
 have rv:=hl_ hi;have lenV:=hi.length;have core:∀H:Hp,vb_ H->SqL K H a (ns.map V.int)->HOk P w H s₁.heap->(∀b,H b≠none->b=a)->(H a≠none->K.lookup a=none)->
   codeAny (model P w) callerA (.call (.ref fa) ⟨[.ref a],[]⟩) (fun r s'=>r= .ok (.ret (.bool true))/\OldK s₁.heap s'.heap/\s'.os=s₁.os/\AllBare s'.gens) s₁:=by
  intro H hO hS hok hA hK;have base_of:∀{b:Addr}{o:Obj},s₁.heap.get? b=some o->H b=none->(oX_ s₁.heap H).get? b=some o:=fun e n=>oW_ e n;have noA:∀{b:Addr}{o:Obj}{es:Array DictEntry}{ep:Nat},s₁.heap.get? b=some o->o.data= .dict es ep->H b=none:=fun{b o es ep} e d=>by
   cases q:H b with
   |none=>rfl
   |some u=>
    have e':b=a:=hA b (by rw [q];simp);subst e';rw [ha] at e;cases e;have d':Data.seq vs.toArray _=Data.dict es ep:=d;cases d'
  have nsK:∀{b:Addr}{m:Str->Option Value},s₁.heap.Ns b m->(oX_ s₁.heap H).Ns b m:=fun{b m} ⟨o,es,ep,e,d,r⟩=>⟨o,es,ep,base_of e (noA e d),d,r⟩;have hKb:K.In (oX_ s₁.heap H):=fun b o e=>base_of (KX b o e) (by
   cases q:H b with
   |none=>rfl
   |some u=>
    have e':b=a:=hA b (by rw [q];simp);subst e';rw [hK (by rw [q];simp)] at e;cases e)
  have hM:Mod K mg (oX_ s₁.heap H):=⟨hKb,nsK hns,⟨mb,nsK hb,hbb⟩,let ⟨mc,h1,h2⟩:=hlim;⟨mc,nsK h1,h2⟩⟩;have e0:Env0 P w K mg (oX_ s₁.heap H) callerA [] s₁ H:=⟨rfl,hM,fun b o e=>qP_ e,Nat.le_of_eq (ni_ _ _),trivial,fun b hb=>absurd (show b∈([]:List Addr) from hb) (by simp),hok, .of_eq hg⟩;refine DE ((F _ hKb (nsK hns)).run callerA [] s₁ H ⟨[.ref a],[]⟩ [.ref a] [.ref a] _ _ hr e0 (hbind s₁ (.ref a)) (.cons rfl .nil) (hsp H hO hS)) fun r s' h=> ?_;cases r with
  |error e=>exact(hCX H e s' h).elim
  |ok fl=>
   cases fl with
   |next=>exact False.elim h
   |brk=>exact False.elim h
   |cont=>exact False.elim h
   |ret u=>
    obtain⟨v,H',os,bare,un,hok',r',q⟩:=h;have q':v= .bl true:=q;subst q';obtain rfl:u=Value.bool true:=r';refine⟨rfl,OldK.of_keep fun b o e=> ?_,os,bare⟩;cases q:H b with
    |none=>exact un.keep b o e q (by intro z;exact absurd (show b∈([]:List Addr) from z) (by simp)) (by simp)
    |some u=>
     rcases hO b with z|⟨ob,xs,z⟩
     .rw [q] at z;cases z
     .have z2:=un.frzs b ob _ z;obtain⟨e1,_⟩:=hok b _ z;obtain⟨e2,_⟩:=hok' b _ z2;rw [e] at e1;cases e1;exact e2
 cases hk:K.lookup a with
 |some o=>
  have e:=KX a o hk;rw [ha] at e;cases e;refine core (fun _=>none) (fun _=> .inl rfl) (.inr ⟨_,vs.toArray,_,hk,rfl,rfl,rfl,by rw [AE,lenV];exact hl,by simpa using rv⟩) (fun b u z=>by have z':(none:Option HO)=some u:=z;cases z') (fun b z=>absurd rfl z) fun z=>absurd rfl z
 |none=>
  refine core (fun b=>if b=a then some (.frz {cls:= .type "list",data:= .seq vs.toArray} (.lst (ns.map V.int))) else none) (fun b=> ?_) (.inl (.inr ⟨{cls:= .type "list",data:= .seq vs.toArray},A6 rfl⟩)) (fun b u z=> ?_) (fun b z=> ?_) fun _=>hk
  .by_cases hb:b=a
   .exact .inr ⟨_,_,A6 hb⟩
   .exact .inl (A3 hb)
  .by_cases hb:b=a
   .have z':=(A6 hb).symm.trans z;cases z';subst hb;exact⟨ha,by rw [A1];exact hl,vs,_,rv,ha⟩
   .have z':=(A3 hb).symm.trans z;cases z'
  .by_cases hb:b=a
   .exact hb
   .exact absurd (A3 hb) z
end L2
namespace L2
open PySem PySem.Spec PyProof.Rows
theorem p1_ {l:W.OpenLaw}{n k:Nat}{q:Program}{loose:List Str}{XP:(Str->Option Value)->Heap->Prop}{YP:World->Heap->Prop}{d:DefRec}{K:Params->W.Frag}{CX:World->CXT}{sp:World->Sp}{x:Str}
  (hn:l.most=some n) (hn2:n<=sizeLine) (hdf:d.params.defaults=[]) (hr:Room k callerA)
  (hY:∀(w:World) (h:Heap),YP w h->(K w.params).In h)
  (F:∀(w:World) (mg:Str->Option Value) (fa:Addr) (h:Heap),(K w.params).In h->h.Ns mainGlobals mg->mg d.name=some (.ref fa)->
   ∃fd:FuncData,(∀(s:Shared) (u:Value),BindsTo s fd ⟨[u],[]⟩ [(x,u)])/\
    ∀base:Heap,(K w.params).In base->base.Ns mainGlobals mg->FnOk l.prog w (K w.params) mg base (CX w) k fa fd [x] (sp w))
  (hsp:∀(w:World) (H:Hp) (a:Addr) (ns:List Int),ns.length<=n->vb_ H->SqL (K w.params) H a (ns.map V.int)->sp w [.ref a] H (fun v _=>v= .bl true) fun _ _ _=>False)
  (hCX:∀(w:World) (H:Hp) (s:Shared) (e:Value) (s':Shared),CX w [] H s (fun _ _ _=>False) e s'->False):
  W.WalkO q loose XP YP l.row.toRowW d [] (fun f vs=>PySem.call f vs):=by
 refine Att.attach_call hn hdf fun w s₀ s₁ mg mb fa o pm cd doc a vs ns G Y ho hd hcd hmg hobj hints hlen hg=> ?_;have KX:=hY w _ Y;obtain⟨fd,hb,hF⟩:=F w mg fa _ KX G.T.g hmg;exact oO_ KX G.T.g G.T.b G.T.builtins G.T.nolimit hg hobj hints (B2 hlen hn2) hr hF hb (fun H hO hS=>hsp w H a ns hlen hO hS) fun H e s'=>hCX w H s₁ e s'
end L2
namespace L2
open PySem PySem.Spec PyProof.Rows
noncomputable def cB_ (s:Stmt):Arguments:=match s with
 | .FunctionDef _ a _ _ _ _ _ _ _ _=>a
 |_=>{posonlyargs:=[],args:=[],vararg:=none,kwonlyargs:=[],kw_defaults:=[],kwarg:=none,defaults:=[]}
noncomputable def bH_ (s:Stmt):List Stmt:=match s with
 | .FunctionDef _ _ b _ _ _ _ _ _ _=>b
 |_=>[]
noncomputable def af_ (s:Stmt):Scope:=match s with
 | .FunctionDef _ _ _ _ _ _ sc _ _ _=>sc
 |_=>{kind:= .function,names:=[],isGenerator:=false,isCoroutine:=false}
noncomputable abbrev CX0:CXT:=fun _ _ _ _ _ _=>False
noncomputable abbrev E0:XK:=fun _ _ _=>False
theorem ar_ {X:Cx}:er_ CX0 X E0:=fun _ _ _ _ _ _ _ h=>h.elim
structure Fun (K:W.Frag) (x qual:Str) (st:Stmt) (f:Addr) (fd:FuncData):Prop where
 ex:∃(oc:Value) (od:Option Addr) (kV doc pm:Value) (an:Option Addr) (cdv ct:Value) (osl:Array (Option Value)),
  fd=W.fnOf x qual (cB_ st) (bH_ st) (af_ st) .none kV doc pm an cdv ct/\K.lookup f=some ⟨oc,od, .func fd,osl⟩/\W.codeIn K cdv qual=true
 kp:W.keepIn K (.ref f)=true
section
variable {P:Program}{w:World}{K:W.Frag}{mg:Str->Option Value}{base:Heap}
theorem Fun.ok {x qual:Str}{st:Stmt}{f:Addr}{fd:FuncData}{N ps:List Str}{k:Nat}{sp:Sp} (F:Fun K x qual st f fd) (S:FnScope N ps (af_ st)) (len:∀vs H Q E,sp vs H Q E->vs.length=ps.length)
  (hbody:∀(cdv:Value) (A:Around) (outer:List Env) (s:Shared) (H:Hp) (vs:List V) (Q:VK) (E:XK),Room k (A.deeper (envOfC qual (af_ st) s.heap.objs.size f cdv))->sp vs H Q E->
   ∃t,PSs (lC_ CX0 P w K mg base N qual (af_ st) f cdv A outer s H E).nox (bH_ st) t/\t {nx:=fun _ H'=>Q .non H',rt:=Q} (start N vs) H):FnOk P w K mg base CX0 (k+1) f fd ps sp:=by
 obtain⟨oc,od,kV,doc,pm,an,cdv,ct,osl,rfl,lk,hcd⟩:=F.ex;refine ta_ lk hcd S len fun A outer s H vs Q E hr hsp=> ?_;obtain⟨t,h,q⟩:=hbody cdv A outer s H vs Q E hr hsp;exact⟨t,h.nox,q⟩
theorem Fun.binds {x qual:Str}{st:Stmt}{f:Addr}{fd:FuncData}{ps:List Str} (F:Fun K x qual st f fd)
  (h:∀(kV doc pm:Value) (an:Option Addr) (cdv ct:Value) (us:List Value),us.length=ps.length->bindArgs (W.fnOf x qual (cB_ st) (bH_ st) (af_ st) .none kV doc pm an cdv ct) ⟨us,[]⟩=pure (ps.zip us)):lA_ K fd ps []:=by
 obtain⟨oc,od,kV,doc,pm,an,cdv,ct,osl,rfl,lk,hcd⟩:=F.ex;exact .all (h kV doc pm an cdv ct)
theorem s9_ {x qual:Str}{st:Stmt}{f:Addr}{oc:Value}{od an:Option Addr}{osl:Array (Option Value)}{kV doc pm cdv ct:Value} (l:K.lookup f=some ⟨oc,od, .func (W.fnOf x qual (cB_ st) (bH_ st) (af_ st) .none kV doc pm an cdv ct),osl⟩)
  (c:W.codeIn K cdv qual=true) (k:W.keepIn K (.ref f)=true):Fun K x qual st f (W.fnOf x qual (cB_ st) (bH_ st) (af_ st) .none kV doc pm an cdv ct):=⟨⟨oc,od,kV,doc,pm,an,cdv,ct,osl,rfl,l,c⟩,k⟩
end
theorem bP_ {A:Around}{k:Nat} (hr:Room k A):A.units+1<cLine:=Nat.lt_of_le_of_lt (Nat.add_le_add_left (by decide:1<=64) _) hr.units
theorem an_ {n:Nat} (h:n<=1000):n<sizeLine:=Nat.lt_of_le_of_lt h (by decide)
section
variable {X:Cx}
theorem pv (i:Nat) {x:Str}{pos:Pos} (hN:X.N[i]? =some x:=by rfl) (hv:Vis X.env.scope x:=by first|exact Or.inl rfl|exact Or.inr (Or.inl rfl)|exact Or.inr (Or.inr rfl)) (hd:(x==("__debug__":Str))=false:=by decide)
  (hcd:(x==("__classdict__":Str))=false:=by decide):PE X (.Name x pos) (tE_ i):=sy_ hN hv hd hcd
end
theorem h8_ {A B:Prop} (h:B):if false=true then A else B:=by
 rw [A3 AT];exact h
theorem oT_ {A B:Prop} (h:A):if true=true then A else B:=by
 rw [A6 rfl];exact h
theorem uQ_ {c A B:Prop} [Decidable c] (hc:c) (h:B):if(!decide c)=true then A else B:=by
 rw [B9 hc];exact h8_ h
noncomputable def ao_ (H H':Hp):Prop:=∀b o,H b=some o->H' b=some o
theorem ao_.refl (H:Hp):ao_ H H:=fun _ _ h=>h
theorem ao_.trans {H H1 H2:Hp} (a:ao_ H H1) (b:ao_ H1 H2):ao_ H H2:=fun c o h=>b c o (a c o h)
theorem ao_.free {H H':Hp} (e:ao_ H H') {l:Addr} (h:H' l=Option.none):H l=Option.none:=by
 cases q:H l with
 |none=>rfl
 |some o=>
  rw [e l o q] at h;cases h
end L2
set_option maxHeartbeats 4000000
namespace L2
open PySem PySem.Spec PyProof.Rows
section
variable {κ:Type} [DecidableEq κ]
noncomputable def cH_ (kvs:List (κ×V)) (k:κ):Option V:=(kvs.find? fun kv=>decide (kv.1=k)).map (·.2)
noncomputable def c2_ (kvs:List (κ×V)) (k:κ) (v:V):List (κ×V):=
 if(kvs.any fun kv=>decide (kv.1=k))=true then kvs.map (fun kv=>if kv.1=k then(kv.1,v) else kv) else kvs++[(k,v)]
theorem bv_ {p:κ×V}{r:List (κ×V)}{k:κ} (e:p.1=k):cH_ (p::r) k=some p.2:=by simp [cH_,BL,e]
theorem bh_ {p:κ×V}{r:List (κ×V)}{k:κ} (e:¬p.1=k):cH_ (p::r) k=cH_ r k:=by simp [cH_,BL,e]
theorem c0_ (k:κ):∀kvs:List (κ×V),(kvs.any fun kv=>decide (kv.1=k))=(cH_ kvs k).isSome
 |[]=>rfl
 |p::r=>by
  rw [List.any_cons];by_cases e:p.1=k
  .simp only [bv_ e,B9 e,Bool.true_or,Option.isSome_some]
  .rw [bh_ e,Ai e,Bool.false_or];exact c0_ k r
theorem hm_ (k j:κ) (y:V):∀kvs:List (κ×V),cH_ kvs k=none->cH_ (kvs++[(k,y)]) j=if j=k then some y else cH_ kvs j
 |[],_=>by
  by_cases e:k=j
  .rw [A6 e.symm];exact bv_ (p:=(k,y)) e
  .rw [A3 (fun z=>e z.symm)];exact bh_ (p:=(k,y)) e
 |p::r,hn=>by
  rw [List.cons_append];have hk:¬p.1=k:=fun z=>by rw [bv_ z] at hn;cases hn
  rw [bh_ hk] at hn;have ih:=hm_ k j y r hn;by_cases e:p.1=j
  .rw [bv_ e,bv_ e,A3 (fun z=>hk (e.trans z))]
  .rw [bh_ e,bh_ e,ih]
theorem dx_ (kvs:List (κ×V)) (k:κ) (v:V):(c2_ kvs k v).length<=kvs.length+1:=by
 unfold c2_;split
 .rw [A1];lia
 .rw [AF,AY,Cz];lia
theorem op_ {kvs:List (κ×V)}{k:κ} (v:V) (h:cH_ kvs k=none):c2_ kvs k v=kvs++[(k,v)]:=by
 unfold c2_;rw [c0_,h];exact A3 (by decide)
theorem jA_.isSome_eq {o:Option V}{u:Option Value} (r:jA_ o u):o.isSome=u.isSome:=by
 cases o with
 |none=>cases u with
  |none=>rfl
  |some _=>exact(show False from r).elim
 |some _=>cases u with
  |none=>exact(show False from r).elim
  |some _=>rfl
theorem jA_.getD {o:Option V}{u:Option Value}{d:V}{d':Value} (r:jA_ o u) (rd:a2_ d d'):a2_ (o.getD d) (u.getD d'):=by
 cases o with
 |none=>cases u with
  |none=>exact rd
  |some _=>exact(show False from r).elim
 |some _=>cases u with
  |none=>exact(show False from r).elim
  |some _=>exact r
theorem KV.val {kvs:List (κ×V)}{vs:List (κ×Value)} (r:KV kvs vs) (k:κ):jA_ (cH_ kvs k) (valueAt vs k):=by
 unfold KV at r;induction r with
 |nil=>exact True.intro
 | @cons p q ps qs h t ih=>
  obtain⟨h1,h2⟩:=h;by_cases e:p.1=k
  .have e':q.1=k:=h1.symm.trans e;have b:valueAt (q::qs) k=some q.2:=by simp [valueAt,BL,e']
   rw [bv_ e,b];exact h2
  .have e':¬q.1=k:=fun z=>e (h1.trans z);have b:valueAt (q::qs) k=valueAt qs k:=by simp [valueAt,BL,e']
   rw [bh_ e,b];exact ih
theorem KV.any {kvs:List (κ×V)}{vs:List (κ×Value)} (r:KV kvs vs) (k:κ):(kvs.any fun kv=>decide (kv.1=k))=vs.any fun kv=>decide (kv.1=k):=by
 unfold KV at r;induction r with
 |nil=>rfl
 |cons h t ih=>rw [List.any_cons,List.any_cons,ih,h.1]
theorem KV.repl {kvs:List (κ×V)}{vs:List (κ×Value)} (r:KV kvs vs) (k:κ) {y:V}{u:Value} (ry:a2_ y u):
  KV (kvs.map fun kv=>if kv.1=k then(kv.1,y) else kv) (vs.map fun kv=>if kv.1=k then(kv.1,u) else kv):=by
 unfold KV at r⊢;induction r with
 |nil=>exact .nil
 | @cons p q ps qs h t ih=>
  rw [AI,AI];refine .cons ?_ ih;obtain⟨h1,h2⟩:=h;by_cases e:p.1=k
  .rw [A6 e,A6 (h1.symm.trans e)];exact⟨h1,ry⟩
  .rw [A3 e,A3 (fun z=>e (h1.trans z))];exact⟨h1,h2⟩
theorem KV.put {kvs:List (κ×V)}{vs:List (κ×Value)} (r:KV kvs vs) (k:κ) {y:V}{u:Value} (ry:a2_ y u):KV (c2_ kvs k y) (stored vs k u):=by
 unfold c2_ stored;rw [r.any k];by_cases e:(vs.any fun kv=>decide (kv.1=k))=true
 .rw [A6 e,A6 e];exact r.repl k ry
 .rw [A3 e,A3 e];exact Paired.snoc r ⟨rfl,ry⟩
theorem KV.length {kvs:List (κ×V)}{vs:List (κ×Value)} (r:KV kvs vs):kvs.length=vs.length:=Bh r
end
theorem oR_ {P:Program}{w:World}{k:Key}{u:Value} (r:a2_ (kV k) u):(aV_ P w).is k u=true:=by
 cases k with
 |inl i=>obtain⟨t,e⟩:=(show∃t,u=Value.int i t from r);subst e;exact jh_ P w i t
 |inr x=>obtain⟨t,e⟩:=(show∃t,u=Value.str x t from r);subst e;exact jg_ P w x t
theorem h7_ {P:Program}{w:World}:∀{ks:List Key}{us:List Value},aW_ (ks.map kV) us->ItemsAre (aV_ P w) ks us
 |[],_,r=>by rw [D4] at r;cases r;exact .nil
 |k::ks,_,r=>by
  rw [AI] at r;cases r with
  |cons h t=>exact .cons (oR_ h) (h7_ t)
noncomputable abbrev KT (H:Hp):List (List Key×V)->List (List Key×Addr×Value)->Prop:=Paired fun p q=>p.1=q.1/\H q.2.1=some (.tup (p.1.map kV))/\a2_ p.2 q.2.2
theorem KT.val {H:Hp}{kvs:List (List Key×V)}{xs:List (List Key×Addr×Value)} (r:KT H kvs xs) (k:List Key):jA_ (cH_ kvs k) ((atKey xs k).map (·.2)):=by
 induction r with
 |nil=>exact True.intro
 | @cons p q ps qs h t ih=>
  obtain⟨h1,_,h2⟩:=h;by_cases e:p.1=k
  .have e':q.1=k:=h1.symm.trans e;have b:atKey (q::qs) k=some q.2:=by simp [atKey,BL,e']
   rw [bv_ e,b];exact h2
  .have e':¬q.1=k:=fun z=>e (h1.trans z);have b:atKey (q::qs) k=atKey qs k:=by simp [atKey,BL,e']
   rw [bh_ e,b];exact ih
theorem KT.repl {H:Hp}{kvs:List (List Key×V)}{xs:List (List Key×Addr×Value)} (r:KT H kvs xs) (k:List Key) {y:V}{u:Value} (ry:a2_ y u):
  KT H (kvs.map fun kv=>if kv.1=k then(kv.1,y) else kv) (xs.map (putAt k u)):=by
 induction r with
 |nil=>exact .nil
 | @cons p q ps qs h t ih=>
  rw [AI,AI];refine .cons ?_ ih;obtain⟨h1,h2,h3⟩:=h;unfold putAt;by_cases e:p.1=k
  .rw [A6 e,A6 (h1.symm.trans e)];exact⟨h1,h2,ry⟩
  .rw [A3 e,A3 (fun z=>e (h1.trans z))];exact⟨h1,h2,h3⟩
theorem KT.put {H:Hp}{kvs:List (List Key×V)}{xs:List (List Key×Addr×Value)} (r:KT H kvs xs) (k:List Key) {b:Addr}{y:V}{u:Value} (hb:H b=some (.tup (k.map kV))) (ry:a2_ y u):
  KT H (c2_ kvs k y) (storedH xs k b u):=by
 have e:(kvs.any fun kv=>decide (kv.1=k))=(atKey xs k).isSome:=by
  rw [c0_,(r.val k).isSome_eq,Option.isSome_map]
 unfold c2_ storedH;rw [e];by_cases q:(atKey xs k).isSome=true
 .rw [A6 q,A6 q];exact r.repl k ry
 .rw [A3 q,A3 q];exact Paired.snoc r ⟨rfl,hb,ry⟩
theorem KT.keeps {H H':Hp}{kvs:List (List Key×V)}{xs:List (List Key×Addr×Value)} (r:KT H kvs xs) (ht:∀b ys,H b=some (.tup ys)->H' b=some (.tup ys)):KT H' kvs xs:=
 Paired.mapP r fun _ _ z=>⟨z.1,ht _ _ z.2.1,z.2.2⟩
section
variable {P:Program}{w:World}{H:Hp}{h:Heap}{a:Addr}
theorem mp_ {u:HO} (ok:HOk P w H h) (e:Rd H a u):aG_ P w H h a u:=e.ok ok
theorem lq_ {kvs:List (Key×V)} (ok:HOk P w H h) (e:Rd H a (.dK kvs)):kvs.length<=sizeLine/\(a==sysModules)=false/\∃vs,KV kvs vs/\h.DictOf (aV_ P w) a vs:=
 show aG_ P w H h a (.dK kvs) from mp_ ok e
theorem u2_ {kvs:List (Key×V)} (ok:HOk P w H h) (e:H a=some (.dK kvs)):kvs.length<=sizeLine/\(a==sysModules)=false/\∃vs,KV kvs vs/\h.DictOf (aV_ P w) a vs:=lq_ ok (.inl e)
theorem h4_ {ks:List Key} (ok:HOk P w H h) (e:H a=some (.tup (ks.map kV))):(tupleKind (aV_ P w)).is h ks a:=by
 obtain⟨_,its,r,o,h1,h2,n,h3⟩:=(show aG_ P w H h a (.tup (ks.map kV)) from ok a _ e);exact⟨o,its.toArray,n,h1,h2,h3,by simpa using h7_ r⟩
theorem nt_ {kvs:List (List Key×V)} (ok:HOk P w H h) (e:Rd H a (.dT kvs)):kvs.length<=sizeLine/\(a==sysModules)=false/\
  ∃xs,KT H kvs xs/\h.DictOfH (tupleKind (aV_ P w)) a xs:=by
 obtain⟨z,y,xs,r,o,es,ep,h1,h2,h3,h4,h5⟩:=(show aG_ P w H h a (.dT kvs) from mp_ ok e);refine⟨z,y,xs,r,o,es,ep,h1,h2,h3,h4,fun x hx=> ?_,h5⟩;have all:∀{l:List (List Key×V)}{m:List (List Key×Addr×Value)},KT H l m->∀x∈m,(tupleKind (aV_ P w)).is h x.1 x.2.1:=by
  intro l m q;induction q with
  |nil=>intro x hx;exact nomatch hx
  | @cons p q ps qs hq t ih=>
   intro x hx;rcases AK.mp hx with e|hx
   .subst e;exact h4_ ok (by rw [<-hq.1];exact hq.2.1)
   .exact ih x hx
 exact all r x hx
theorem te_ {kvs:List (List Key×V)} (ok:HOk P w H h) (e:H a=some (.dT kvs)):kvs.length<=sizeLine/\(a==sysModules)=false/\
  ∃xs,KT H kvs xs/\h.DictOfH (tupleKind (aV_ P w)) a xs:=nt_ ok (.inl e)
end
noncomputable def jB_ (H:Hp) (a:Addr) (y:V) (r:Option V):Prop:=
 (∃kvs k,Rd H a (.dK kvs)/\y=kV k/\r=cH_ kvs k)\/∃kvs k b,Rd H a (.dT kvs)/\y= .ref b/\H b=some (.tup (k.map kV))/\r=cH_ kvs k
noncomputable def kR_ (H:Hp) (a:Addr) (y v:V) (H':Hp):Prop:=
 (∃kvs k,H a=some (.dK kvs)/\y=kV k/\kvs.length<sizeLine/\H'=upd H a (.dK (c2_ kvs k v)))\/
 ∃kvs k b,H a=some (.dT kvs)/\y= .ref b/\H b=some (.tup (k.map kV))/\kvs.length<sizeLine/\H'=upd H a (.dT (c2_ kvs k v))
theorem jB_.k {H:Hp}{a:Addr}{kvs:List (Key×V)}{k:Key} (e:H a=some (.dK kvs)):jB_ H a (kV k) (cH_ kvs k):= .inl ⟨kvs,k, .inl e,rfl,rfl⟩
theorem jB_.t {H:Hp}{a b:Addr}{kvs:List (List Key×V)}{k:List Key} (e:H a=some (.dT kvs)) (eb:H b=some (.tup (k.map kV))):jB_ H a (.ref b) (cH_ kvs k):= .inr ⟨kvs,k,b, .inl e,rfl,eb,rfl⟩
theorem kR_.k {H:Hp}{a:Addr}{kvs:List (Key×V)}{k:Key}{v:V} (e:H a=some (.dK kvs)) (hl:kvs.length<sizeLine):kR_ H a (kV k) v (upd H a (.dK (c2_ kvs k v))):= .inl ⟨kvs,k,e,rfl,hl,rfl⟩
theorem kR_.t {H:Hp}{a b:Addr}{kvs:List (List Key×V)}{k:List Key}{v:V} (e:H a=some (.dT kvs)) (eb:H b=some (.tup (k.map kV))) (hl:kvs.length<sizeLine):
  kR_ H a (.ref b) v (upd H a (.dT (c2_ kvs k v))):= .inr ⟨kvs,k,b,e,rfl,eb,hl,rfl⟩
section
variable {X:Cx}{pins:List (Addr×Obj)}{σ:St}{H:Hp}{s:Shared}{a:Addr}{y v:V}{u r:Value}{o:Option V}{A:Around}{E:Value->Shared->Prop}
theorem Inv.big (I:Inv X pins σ H s):sysModules<s.heap.objs.size:=by
 have h:mainGlobals<s.heap.objs.size:=(I.mod.glob.keeps I.bk).lt;exact Nat.lt_trans (by decide) h
theorem nz_ {Q:Value->Shared->Prop} (hu:A.units+1<cLine) (I:Inv X pins σ H s) (g:jB_ H a y (some v)) (ry:a2_ y u) (h:∀w' s',Inv X pins σ H s'->a2_ v w'->Q w' s'):
  wpAny (model X.prog X.w) A (getItem (.ref a) u) Q E s:=by
 rcases g with⟨kvs,k,e,ey,l⟩|⟨kvs,k,b,e,ey,eb,l⟩
 .subst ey;obtain⟨z,hd,vs,rel,dd⟩:=lq_ I.hok e;obtain⟨w',hw,rw'⟩:=jA_.some_of (v:=v) (o:=valueAt vs k) (by rw [l];exact rel.val k);exact wpAny_getItem_of (oR_ ry) dd.mapOf hw (h w' _ (I.tok _) rw')
 .subst ey;cases (show u=Value.ref b from ry);obtain⟨z,hd,xs,rel,dd⟩:=nt_ I.hok e;obtain⟨w',hw,rw'⟩:=jA_.some_of (v:=v) (o:=(atKey xs k).map (·.2)) (by rw [l];exact rel.val k);obtain⟨p,hp,hp2⟩:=A5.mp hw;refine wpAny_getItem_heap (tupleKind_room_in1 hu) (h4_ I.hok eb) dd hp ?_;rw [hp2];exact h w' _ (I.tok _) rw'
theorem ej_ {h':Heap}{t':Nat}{ob:HO} (I:Inv X pins σ H s) (mu:Mut (H a)) (hs:Heap.SameBut a s.heap h') (he:∃q,h'.get? a=some q) (new:aG_ X.prog X.w (upd H a ob) h' a ob):
  Inv X pins σ (upd H a ob) {s with heap:=h',toks:=t'}:=
 I.write (x:=a) (e:=a) mu (.inl rfl) (fun b q hb z=>(hs.2 b hb).trans z) he new
theorem pM_ {P:Program}{w:World}{H':Hp}{h':Heap}{kvs:List (Key×V)}{vs:List (Key×Value)} (z:kvs.length<=sizeLine) (hd:(a==sysModules)=false) (rel:KV kvs vs) (dd:h'.DictOf (aV_ P w) a vs):
  aG_ P w H' h' a (.dK kvs):=⟨z,hd,vs,rel,dd⟩
theorem ny_ {H':Hp}{Q:Unit->Shared->Prop} (hu:A.units+1<cLine) (I:Inv X pins σ H s) (g:kR_ H a y v H') (ry:a2_ y u) (rv:a2_ v r) (h:∀s',Inv X pins σ H' s'->Q () s'):
  wpAny (model X.prog X.w) A (setItem (.ref a) u r) Q E s:=by
 rcases g with⟨kvs,k,e,ey,l,eH⟩|⟨kvs,k,b,e,ey,eb,l,eH⟩
 .subst ey eH;obtain⟨z,hd,vs,rel,dd⟩:=u2_ I.hok e;have hz:vs.length<=sizeLine:=by rw [<-rel.length];exact z
  have hl:(c2_ kvs k v).length<=sizeLine:=by have:=dx_ kvs k v;lia
  refine wpAny_setItem_pairs (hsz:=hz) (oR_ ry) dd fun h' dd' hs=>h _ ?_;have he:∃q,h'.get? a=some q:=let ⟨q,_,_,hq,_⟩:=dd';⟨q,hq⟩;exact ej_ I (by rw [e];exact True.intro) hs he (pM_ hl hd (rel.put k rv) dd')
 .subst ey eH;cases (show u=Value.ref b from ry);obtain⟨z,hd,xs,rel,dd⟩:=te_ I.hok e;have hz:xs.length<=sizeLine:=by rw [<-Bh rel];exact z
  have hl:(c2_ kvs k v).length<=sizeLine:=by have:=dx_ kvs k v;lia
  refine wpAny_setItem_heap (hsz:=hz) (tupleKind_room_in1 hu) (h4_ I.hok eb) dd fun h' dd' hs=>h _ ?_;obtain⟨q,es,ep,hq,h2,h3,h4,_,h5⟩:=dd';refine ej_ I (by rw [e];exact True.intro) hs ⟨q,hq⟩ ⟨hl,hd,_,(rel.put k eb rv).keeps fun c ys ec=> ?_,q,es,ep,hq,h2,h3,h4,h5⟩;rw [ak_ (qU_ ec e (fun z=>nomatch z))];exact ec
end
section
variable {X:Cx}{pins:List (Addr×Obj)}{σ:St}{H:Hp}{s:Shared}{a:Addr}{kvs:List (Key×V)}{k:Key}{u:Value}{A:Around}{E:Value->Shared->Prop}
end
noncomputable def tL_ (i:Expr):Prop:=∀ov iv,subscripted i false ov iv=operate [ov,iv] (getItem ov iv)
theorem iP_ {prog:Program}{w:World}{A:Around}{E:Value->Shared->Prop}{s:Shared}{env:Env}{value slice:Expr}{pos:Pos}{T id:String}{Q:Value->Shared->Prop}
  (hl:typeLookup (.type T) "__getitem__"=pure (some (.builtin id))) (hs:tL_ slice)
  (h:wpAny (model prog w) A (eval value env) (fun o s₁=>wpAny (model prog w) A (eval slice env) (fun i s₂=>s₂.TypeIs o T/\wpAny (model prog w) A (getItem o i) Q E s₂) E s₁) E s):
  wpAny (model prog w) A (eval (.Subscript value slice pos) env) Q E s:=by
 refine Subscript_ (BP h (fun o s₁ h₁=>BP h₁ (fun i s₂ h₂=> ?_) fun _ _ x=>x) fun _ _ x=>x);obtain⟨hT,h₂⟩:=h₂;unfold subscriptTail;refine A0 ?_;rw [getitemInPython_of_ne hT.not_modules];refine A0 (CM hT hl ?_);have fin:wpAny (model prog w) A (subscripted slice false o i) (fun r s₃=>wpAny (model prog w) A (letTemporaryGo value o r>>=fun _=>pure r) Q E s₃) E s₂:=by
  rw [hs o i];exact wpAny_operating (BP h₂ (fun r s₃ h₃=>A0 (wpAny_letTemporaryGo (A2 h₃))) fun _ _ x=>x)
 first
  |exact A2 (A0 fin)
  |exact A0 (A2 (A0 fin))
  |exact A0 fin
theorem ju_ {X:Cx}{pins:List (Addr×Obj)}{σ:St}{H:Hp}{s:Shared}{a:Addr}{y:V}{o:Option V} (I:Inv X pins σ H s) (g:jB_ H a y o):s.TypeIs (.ref a) "dict":=by
 rcases g with⟨kvs,k,e,_,_⟩|⟨kvs,k,b,e,_,_,_⟩
 .obtain⟨_,_,vs,_,dd⟩:=lq_ I.hok e;exact dd.typeIs
 .obtain⟨_,_,xs,_,dd⟩:=nt_ I.hok e;exact dd.typeIs
noncomputable def t1_ (td ty:TE):TE:=fun σ H Q=>td σ H fun x H1=>ty σ H1 fun y H2=>∃a v,x= .ref a/\jB_ H2 a y (some v)/\Q v H2
noncomputable def ux_ (td ty tv:TE):TS:=fun D σ H=>tv σ H fun v H1=>td σ H1 fun x H2=>ty σ H2 fun y H3=>∃a H4,x= .ref a/\kR_ H3 a y v H4/\D.nx σ H4
section
variable {X:Cx}{o i e value:Expr}{pos pos' tpos:Pos}{td ty tv:TE}
theorem bu_ (hu:X.A.units+1<cLine) (ho:PE X o td) (hi:PE X i ty) (hs:tL_ i):PE X (.Subscript o i pos) (t1_ td ty):=by
 intro pins s σ H Q I h;refine iP_ PySem.F.slot_dict_getitem.lookup hs (thn (ho pins s σ H _ I h) fun u s1 ⟨x,H1,I1,rx,q1⟩=>thn (hi pins s1 σ H1 _ I1 q1) fun iv s2 ⟨y,H2,I2,ry,a,v,ex,g,q2⟩=> ?_);subst ex;obtain rfl:u=Value.ref a:=rx;exact⟨ju_ I2 g,nz_ hu I2 g ry fun w' s3 I3 rw'=>⟨v,H2,I3,rw',q2⟩⟩
theorem ds_ (hu:X.A.units+1<cLine) (ho:PE X o td) (hi:PE X i ty) (hv:PE X value tv) (hs:swapsWith value (some (.Subscript o i pos')) pos.line X.env=pure false):
  PS X (.Assign [.Subscript o i pos'] value pos) (ux_ td ty tv):=by
 intro pins s σ H D I h;refine wpAny_Assign_Subscript (thn (hv pins s σ H _ I h) fun r s1 ⟨v,H1,I1,rv,q1⟩=>thn (ho pins s1 σ H1 _ I1 q1) fun u s2 ⟨x,H2,I2,rx,q2⟩=>thn (hi pins s2 σ H2 _ I2 q2) fun iv s3 ⟨y,H3,I3,ry,a,H4,ex,g,q3⟩=> ?_) hs;subst ex;obtain rfl:u=Value.ref a:=rx;exact ny_ hu I3 g ry rv fun s4 I4=>⟨σ,H4,I4,q3⟩
end
theorem o7_ {P:Program}{w:World}{H:Hp} (h:Heap) (hb:sysModules<h.objs.size):aG_ P w H (h.push {cls:= .type "dict",data:= .dict #[]}) h.objs.size (.dK []):=
 ⟨AO _,CA.mpr (BM (AL hb)),[], .nil,Heap.DictOf.new h⟩
theorem kE_ {P:Program}{w:World}{H:Hp} (h:Heap) (hb:sysModules<h.objs.size):aG_ P w H (h.push {cls:= .type "dict",data:= .dict #[]}) h.objs.size (.dT []):=
 ⟨AO _,CA.mpr (BM (AL hb)),[], .nil,_, #[],0,AH _ rfl,⟨rfl,rfl,rfl⟩,rfl,rfl,List.nodup_nil⟩
noncomputable def r3_:TE:=fun _ H Q=>∀p,H p=none->Q (.ref p) (upd H p (.dK []))
noncomputable def r2_:TE:=fun _ H Q=>∀p,H p=none->Q (.ref p) (upd H p (.dT []))
section
variable {X:Cx}{pos:Pos}
theorem eB_:PE X (.Dict [] [] pos) r3_:=fun pins s σ H Q I h=>
 wpAny_Dict_empty ⟨.ref s.heap.objs.size,_,I.laid (a:=s.heap.objs.size) (o:= .dK []) (t':=s.toks) (fun _ _ q=>A7 _ q) (A9 _) (o7_ s.heap I.big),rfl,h _ (I.hok.fresh (A9 _))⟩
theorem ov_:PE X (.Dict [] [] pos) r2_:=fun pins s σ H Q I h=>
 wpAny_Dict_empty ⟨.ref s.heap.objs.size,_,I.laid (a:=s.heap.objs.size) (o:= .dT []) (t':=s.toks) (fun _ _ q=>A7 _ q) (A9 _) (kE_ s.heap I.big),rfl,h _ (I.hok.fresh (A9 _))⟩
end
structure M2 (X:Cx) (o:Expr) (m:Str) (apos:Pos) (e f:Expr) (cpos:Pos):Prop where
 base:attributeBase o m X.env (eval o X.env)=eval o X.env
 few:((backTo cpos (starEach [e,f] X.env)).all (fun x=> !x.1)&&(backToKw cpos (keywordEach [] X.env)).all (fun x=>x.1.isSome)
  &&decide (([e,f]:List Expr).length+([]:List Keyword).length+(if([]:List Keyword).isEmpty then 0 else 1)<30))=true
 line:(apos.endLine==cpos.line)=true
 trees:backTo cpos (starEach [e,f] X.env)=[(false,eval e X.env),(false,eval f X.env)]
noncomputable def IsD (H:Hp) (a:Addr):Prop:=(∃kvs,Rd H a (.dK kvs))\/∃kvs,Rd H a (.dT kvs)
theorem pD_ {X:Cx}{pins:List (Addr×Obj)}{σ:St}{H:Hp}{s:Shared}{a:Addr} (I:Inv X pins σ H s) (d:IsD H a):
  s.TypeIs (.ref a) "dict"/\(∀b,Value.ref a= .ref b->∃ob,s.heap.get? b=some ob/\ob.dict=none)/\(a==sysModules)=false:=by
 rcases d with⟨kvs,e⟩|⟨kvs,e⟩
 .obtain⟨_,hd,vs,_,dd⟩:=lq_ I.hok e;refine⟨dd.typeIs,fun b q=> ?_,hd⟩;cases q;obtain⟨ob,_,_,h1,h2,_⟩:=dd;exact⟨ob,h1,h2.2.1⟩
 .obtain⟨_,hd,xs,_,dd⟩:=nt_ I.hok e;refine⟨dd.typeIs,fun b q=> ?_,hd⟩;cases q;obtain⟨ob,_,_,h1,h2,_⟩:=dd;exact⟨ob,h1,h2.2.1⟩
section
variable {X:Cx}{pins:List (Addr×Obj)}{σ:St}{H:Hp}{s:Shared}{a:Addr}{y d:V}{u r:Value}{o:Option V}{A:Around}{E:Value->Shared->Prop}
theorem th_ {Q:Value->Shared->Prop} (hu:A.units+1<cLine) (I:Inv X pins σ H s) (g:jB_ H a y o) (ry:a2_ y u) (rd:a2_ d r) (h:∀w' s',Inv X pins σ H s'->a2_ (o.getD d) w'->Q w' s'):
  wpAny (model X.prog X.w) A (call (.builtin "dict.get") [.ref a,u,r]) Q E s:=by
 rcases g with⟨kvs,k,e,ey,l⟩|⟨kvs,k,b,e,ey,eb,l⟩
 .subst ey;obtain⟨z,hd,vs,rel,dd⟩:=lq_ I.hok e;refine call_meetsIn PySem.F.slot_dict_get dd.typeIs PySem.F.entry_dict_get (PySem.F.args_dict_get_3 _ _ _) (meets_dict_get_default (aV_ X.prog X.w) a (oR_ ry) hd r) ⟨_,dd.mapOf,h _ _ (I.tok _) ?_⟩;rw [l];exact(rel.val k).getD rd
 .subst ey;cases (show u=Value.ref b from ry);obtain⟨z,hd,xs,rel,dd⟩:=nt_ I.hok e;refine call_meetsIn PySem.F.slot_dict_get dd.typeIs PySem.F.entry_dict_get (PySem.F.args_dict_get_3 _ _ _) (meetsH_dict_get_default (tupleKind (aV_ X.prog X.w)) a b hd r) ⟨tupleKind_room_in1 hu,k,xs,h4_ I.hok eb,dd,h _ _ (I.tok _) ?_⟩;rw [l];exact(rel.val k).getD rd
end
noncomputable def r5_ (td ty tx:TE):TE:=fun σ H Q=>td σ H fun x H1=>∃a,x= .ref a/\IsD H1 a/\ty σ H1 fun y H2=>tx σ H2 fun z H3=>∃o,jB_ H3 a y o/\Q (o.getD z) H3
section
variable {X:Cx}{o e f:Expr}{apos cpos:Pos}{td ty tx:TE}
theorem gy_ (hu:X.A.units+1<cLine) (ho:PE X o td) (he:PE X e ty) (hf:PE X f tx) (m:M2 X o "get" apos e f cpos):PE X (.Call (.Attribute o "get" apos) [e,f] [] cpos) (r5_ td ty tx):=by
 intro pins s σ H Q I h;refine wpAny_Call_method m.base m.few m.line PySem.F.plainAttrs_dict PySem.F.slot_dict_get PySem.F.type_dict_get (thn (ho pins s σ H _ I h) fun u s1 ⟨x,H1,I1,rx,a,ex,d,q1⟩=> ?_);subst ex;obtain rfl:u=Value.ref a:=rx;obtain⟨t1,t2,_⟩:=pD_ I1 d;refine⟨t1,t2, ?_⟩;rw [m.trees];refine Calls.callWith_builtin rfl (Calls.evalArgs_plain (CL (thn (he pins s1 σ H1 _ I1 q1) fun iv s2 ⟨y,H2,I2,ry,q2⟩=>
  CL (thn (hf pins s2 σ H2 _ I2 q2) fun fv s3 ⟨z,H3,I3,rz,ov,g,q3⟩=>Calls.spliced_nil ?_))))
 exact th_ hu I3 g ry rz fun w' s4 I4 rw'=>⟨_,H3,I4,rw',q3⟩
end
section
variable {X:Cx}{pins:List (Addr×Obj)}{σ:St}{H:Hp}{s:Shared}{a:Addr}{kvs:List (Key×V)}{A:Around}{E:Value->Shared->Prop}
theorem o8_ {Q:Value->Shared->Prop} (I:Inv X pins σ H s) (e:Rd H a (.dK kvs)) (h:∀p s',H p=none->Inv X pins σ (upd H p (.dK kvs)) s'->Q (.ref p) s'):wpAny (model X.prog X.w) A (call (.type "dict") [.ref a]) Q E s:=by
 obtain⟨z,hd,vs,rel,dd⟩:=lq_ I.hok e;refine kt_call_dict hd dd (by rw [<-rel.length];exact z) fun h' dd' hs=> ?_;refine h _ _ (I.hok.fresh (A9 _)) (I.laid (a:=s.heap.objs.size) (o:= .dK kvs) (t':=s.toks) (fun b q hq=> ?_) (A9 _) (pM_ z (CA.mpr (BM (AL I.big))) rel dd'));exact(hs.2 b (AL (AJ hq))).trans (A7 _ hq)
end
section
variable {X:Cx}{pins:List (Addr×Obj)}{σ:St}{H:Hp}{s:Shared}{a:Addr}{y:V}{u:Value}{A:Around}{E:Value->Shared->Prop}
end
end L2
namespace L2
open PySem PySem.Spec PyProof.Rows
section
variable {X:Cx}{pos:Pos}{a b c d:Expr}{ta tb tc td:TE}
theorem dS_:cc_ X (.builtin "isinstance") (fun xs H Q=>∃x n t b,xs=[x, .ty n]/\TyOf X.K H x t/\W.kitOne X.K t (.type n)=some b/\Q (.bl b) H):=by
 intro pins s σ H xs us Q I r h;obtain⟨x,n,t,b,rfl,ty,e,q⟩:=h;obtain⟨u,w',rfl,ru,rw'⟩:=lM_ r;obtain rfl:w'=Value.type n:=rw';exact na_ I ru ty e fun tk=>⟨.bl b,H,I.tok tk,rfl,q⟩
end
section
open PySem.W
variable {K:Frag}
theorem kh_ {t:String}:kitOne K (.type t) (.type t)=some true:=by
 unfold kitOne;rw [A6 (by simp)]
theorem f1_ {t c:String}{b:Bool} (h1:(Value.type t==Value.type c)=false) (h2:kitMeta c=true) (h3:(fastBuiltinMro t).map (·.contains (Value.type c))=some b):kitOne K (.type t) (.type c)=some b:=by
 unfold kitOne;rw [A3 (by rw [h1];decide)];unfold kitCls;show(if kitMeta c=true then subIn K (.type t) (.type c) else none)=some b;rw [A6 h2];exact h3
theorem h1_:kitOne K (.type "int") (.type "bool")=some false:=f1_ (by ac_nf) (by ac_nf) (by ac_nf)
theorem h2_:kitOne K (.type "bool") (.type "int")=some true:=f1_ (by ac_nf) (by ac_nf) (by ac_nf)
end
theorem g0_ {c A B:Prop} [Decidable c] (h1:c->A) (h2:¬c->B):if decide c=true then A else B:=by
 by_cases h:c
 .rw [A6 (B9 h)];exact h1 h
 .rw [A3 (by rw [Ai h];decide)];exact h2 h
theorem uS_ {c A B:Prop} [Decidable c] (h1:¬c->A) (h2:c->B):if(!decide c)=true then A else B:=by
 by_cases h:c
 .rw [A3 (by rw [B9 h];decide)];exact h2 h
 .rw [A6 (by rw [Ai h];rfl)];exact h1 h
theorem lB_ {A B:Prop}{i j:Int} (h1:i=j->A) (h2:i≠j->B):if decide (V.int i=V.int j)=true then A else B:=g0_ (fun h=>h1 (V.int.inj h)) fun h=>h2 fun e=>h (Bc V.int e)
theorem uR_ {A B:Prop}{i j:Int} (h1:i≠j->A) (h2:i=j->B):if(!decide (V.int i=V.int j))=true then A else B:=uS_ (fun h=>h1 fun e=>h (Bc V.int e)) fun h=>h2 (V.int.inj h)
theorem ao_.put {H H1:Hp}{l:Addr}{o:HO} (s:ao_ H H1) (n:H l=none):ao_ H (upd H1 l o):=fun b u e=>by
 rw [ak_ (aw_ e n)];exact s b u e
theorem ao_.new {H:Hp}{l:Addr}{o:HO} (n:H l=none):ao_ H (upd H l o):=(ao_.refl H).put n
end L2
namespace L2
open PySem PySem.Spec PyProof.Rows
theorem nA_ {prog:Program}{w:World}{A:Around}{R:Result->Shared->Prop}{s:Shared}{elt target iter:Expr}{ifs:List Expr}{scope:Scope}{pos:Pos}{it acc:Value}{env:Env} (I:Nat->Shared->Prop)
  (turn:∀n s,I n s->wpAny (model prog w) A (pyNext it) (fun r s₁=>match r with
   |none=>R (.ok .next) s₁
   |some v=>wpAny (model prog w) A (letOwnedTupleGo target it v) (fun _ s₁'=>wpAny (model prog w) A (assign target env v) (fun _ s₂=>
     wpAny (model prog w) A (forIn ifs true fun c r=>if r=true then do let ok<-isTrue c env (eval c env);pure (ForInStep.yield ok) else pure (ForInStep.yield r)) (fun ok s₃=>
      if ok=true then wpAny (model prog w) A (eval elt env) (fun x s₄=>
       wpAny (model prog w) A (call (.builtin "list.append") [acc,x]) (fun _ s₅=>∃m,m<n/\I m s₅) (notedBy (model prog w) A env fun e s'=>R (.error e) s') s₄) (notedBy (model prog w) A env fun e s'=>R (.error e) s') s₃
      else∃m,m<n/\I m s₃) (notedBy (model prog w) A env fun e s'=>R (.error e) s') s₂) (notedBy (model prog w) A env fun e s'=>R (.error e) s') s₁') (notedBy (model prog w) A env fun e s'=>R (.error e) s') s₁) (notedBy (model prog w) A env fun e s'=>R (.error e) s') s)
  (n:Nat) (h:I n s):
  codeAny (model prog w) A (.compLoop (.ListComp elt [⟨target,iter,ifs,0⟩] scope pos) 0 it acc env) R s:=by
 refine codeAny_loop rfl I (fun n s hI=> ?_) n h;show wpAny _ A ((compTurn (.ListComp elt [⟨target,iter,ifs,0⟩] scope pos) 0 it acc env).onRaise (fun x=>do noteFrame x env;theTreesLotGoes x)) _ _ s;refine wpAny_noted ?_;rw [compTurn_list];refine A0 (wpAny_standAt (A0 (BP (turn n s hI) (fun r s₁ h₁=> ?_) fun _ _ h'=>h')));cases r with
 |none=>exact A2 h₁
 |some v=>
  refine A0 (BP h₁ (fun _ s₁' h₁'=>A0 (BP h₁' (fun _ s₂ h₂=>A0 (BP h₂ (fun ok s₃ h₃=> ?_) fun _ _ h'=>h')) fun _ _ h'=>h')) fun _ _ h'=>h');cases ok with
  |false=>exact A2 ⟨rfl,h₃⟩
  |true=>
   exact A0 (A0 (BP h₃ (fun x s₄ h₄=>A0 (BP h₄ (fun _ s₅ h₅=>A2 (A2 ⟨rfl,h₅⟩)) fun _ _ h'=>h')) fun _ _ h'=>h'))
noncomputable def jw_ (env:Env):List (Str×NameKind)->List (Str×Addr)->List (Str×Addr)
 |[],cs=>cs
 |(n,k)::r,cs=>jw_ env r (if k= .free then(n,(env.cells.lookup n).getD 0)::cs else cs)
theorem ha_ {env:Env}:∀(ns:List (Str×NameKind)) (cs:List (Str×Addr)),(∀y∈ns,y.2= .free->∃c,env.cells.lookup y.1=some c)->
  (forIn ns cs fun(x:Str×NameKind) (r:List (Str×Addr))=>(if(x.2== .free)=true then do let c<-cellOf env x.1;pure (ForInStep.yield ((x.1,c)::r)) else pure (ForInStep.yield r):Sem (ForInStep (List (Str×Addr)))))=(pure (jw_ env ns cs):Sem _)
 |[],cs,_=>rfl
 |(n,k)::r,cs,h=>by
  have hr:=fun y hy=>h y (AS _ hy);by_cases hk:k= .free
  .obtain⟨c,hc⟩:=h (n,k) AX hk;subst hk;rw [CZ];have e:cellOf env n=pure c:=by unfold cellOf;rw [hc]
   simp only [beq_self_eq_true,C4,e,pure_bind];rw [ha_ r _ hr];show _=pure (jw_ env r (if NameKind.free=NameKind.free then(n,(env.cells.lookup n).getD 0)::cs else cs));rw [A6 rfl,show env.cells.lookup n=some c from hc];rfl
  .have hb:(k==NameKind.free)=false:=by simpa using hk
   rw [CZ];simp only [hb,AG,Am,pure_bind];rw [ha_ r _ hr];show _=pure (jw_ env r (if k=NameKind.free then(n,(env.cells.lookup n).getD 0)::cs else cs));rw [A3 hk]
theorem lu_ {env:Env}{scope:Scope} (h:∀y∈scope.names,y.2= .free->∃c,env.cells.lookup y.1=some c):closureFor scope env=pure (jw_ env scope.names []):=by
 unfold closureFor;have e:=ha_ scope.names [] h;simp only [bind_pure] at e⊢;exact e
theorem ft_ {env:Env}{x:Str}{c:Addr}:∀(ns:List (Str×NameKind)) (cs:List (Str×Addr)),(∀y∈ns,y.2= .free->∃c,env.cells.lookup y.1=some c)->(∀x c,cs.lookup x=some c->env.cells.lookup x=some c)->
  (jw_ env ns cs).lookup x=some c->env.cells.lookup x=some c
 |[],cs,_,hc,e=>hc x c e
 |(n,k)::r,cs,h,hc,e=>by
  unfold jw_ at e;refine ft_ r _ (fun y hy=>h y (AS _ hy)) (fun x' c' e'=> ?_) e;by_cases hk:k= .free
  .rw [A6 hk] at e';obtain⟨c0,h0⟩:=h (n,k) AX hk;rw [h0] at e';rw [CB] at e';by_cases q:x'==n
   .rw [q] at e';cases e';rw [Cq.mp q];exact h0
   .have q':(x'==n)=false:=by simpa using q
    rw [q'] at e';exact hc x' c' e'
  .rw [A3 hk] at e';exact hc x' c' e'
theorem in_ {env:Env}{x:Str}:∀(ns:List (Str×NameKind)) (cs:List (Str×Addr)),(∃c,cs.lookup x=some c)->∃c,(jw_ env ns cs).lookup x=some c
 |[],cs,h=>h
 |(n,k)::r,cs,h=>by
  unfold jw_;refine in_ r _ ?_;by_cases hk:k= .free
  .rw [A6 hk,CB];by_cases q:x==n
   .rw [q];exact⟨_,rfl⟩
   .have q':(x==n)=false:=by simpa using q
    rw [q'];exact h
  .rw [A3 hk];exact h
theorem hb_ {env:Env}{x:Str}:∀(ns:List (Str×NameKind)) (cs:List (Str×Addr)),(x,NameKind.free)∈ns->∃c,(jw_ env ns cs).lookup x=some c
 |(n,k)::r,cs,h=>by
  unfold jw_;rcases AK.mp h with e|e
  .cases e;rw [A6 rfl];exact in_ r _ ⟨_,by rw [CB,beq_self_eq_true]⟩
  .exact hb_ r _ e
noncomputable def Cx.comp (X:Cx) (scope:Scope) (C:Addr) (N:List Str) (s₀:Shared) (H₀:Hp) (ex:List Addr) (E:Value->Shared->Prop):Cx where
 prog:=X.prog
 w:=X.w
 K:=X.K
 mg:=X.mg
 base:=X.base
 A:=X.A
 N:=N
 s₀:=s₀
 H₀:=H₀
 env:=compEnvC scope (jw_ X.env scope.names []) C X.env
 outer:=X.stack
 stack:=X.stack
 ex:=ex
 fn:=fun _=>false
 calm:=X.calm
 pn:=[]
 xe:=E
noncomputable def ry_ (X:Cx) (ifs:List Expr) (t:TT):Prop:=
 ∀(pins:List (Addr×Obj)) (s:Shared) (σ:St) (H:Hp) (Q:Bool->Hp->Prop),Inv X pins σ H s->t σ H Q->
  wpAny (model X.prog X.w) X.A (forIn ifs true fun c r=>if r=true then do let ok<-isTrue c X.env (eval c X.env);pure (ForInStep.yield ok) else pure (ForInStep.yield r)) (TP X pins σ Q) X.xe s
noncomputable def tD_:TT:=fun _ H Q=>Q true H
theorem cw_ {X:Cx}:ry_ X [] tD_:=fun _ _ _ H _ I h=>wpAny_tests_nil ⟨H,I,h⟩
theorem gu_ {X:Cx}{c:Expr}{t:TT} (h:PT X c t):ry_ X [c] t:=fun pins s σ H Q I q=>wpAny_tests_one (h pins s σ H Q I q)
noncomputable def lD_ (own:Nat) (js:List Nat) (σ:St):St:=List.replicate own none++js.map fun j=>(σ[j]?).getD none
noncomputable def nS_ (J:It) (own:Nat) (js:List Nat) (g:TG) (ti:TT) (te:TE) (σ:St) (H1:Hp) (acc:Addr) (Q:VK):Prop:=
 ∃Wq:Nat->Nat->Hp->Prop,(∃m,Wq 0 m (upd H1 acc (.lst [])))/\∀i m H2,Wq i m H2->
  (J.stop i H2/\Q (.ref acc) H2)\/(J.go i H2/\∀x H3,J.yld i H2 x H3->g x (lD_ own js σ) H3 fun σ4 H4=>ti σ4 H4 fun b H5=>
   if b=true then te σ4 H5 fun y H6=>d3_ (.ref acc) [y] H6 fun _ H7=>∃m',m'<m/\Wq (i+1) m' H7 else∃m',m'<m/\Wq (i+1) m' H5)
noncomputable def l1_ (own:Nat) (js:List Nat) (wi:TI) (g:TG) (ti:TT) (te:TE):TE:=fun σ H Q=>wi σ H fun J H1=>∀acc,H1 acc=none->nS_ J own js g ti te σ H1 acc Q
end L2
namespace L2
open PySem PySem.Spec PyProof.Rows
theorem p6_ {α:Type}{t:Sem α}{Q Q':α->Shared->Prop}{M:Model}{A:Around}{E:Value->Shared->Prop}{s:Shared} (h:wpAny M A t Q (fun _ _=>False) s) (hQ:∀a s,Q a s->Q' a s):wpAny M A t Q' E s:=BP h hQ fun _ _ f=>f.elim
theorem cT_ {scope:Scope}{env:Env}{x:Str}:∀{names:List (Str×NameKind)},((names.map fun(n,k)=>if(k==NameKind.free&&env.scope.kind== .function&&env.kindOf n==some .cell) then(n,NameKind.cell) else(n,k)).lookup x=some .cell\/
  (names.map fun(n,k)=>if(k==NameKind.free&&env.scope.kind== .function&&env.kindOf n==some .cell) then(n,NameKind.cell) else(n,k)).lookup x=some .free)->(∀y∈names,y.2≠ .cell)->(x,NameKind.free)∈names
 |[],h,_=>by simp at h
 |(n,k)::r,h,hc=>by
  have hr:∀y∈r,y.2≠ .cell:=fun y hy=>hc y (AS _ hy);have h0:k≠ .cell:=hc (n,k) AX;rw [AI,CB] at h;by_cases hb:(k==NameKind.free&&env.scope.kind== .function&&env.kindOf n==some .cell)=true
  .rw [A6 hb] at h;dsimp only at h;by_cases q:x==n
   .have hk:k= .free:=by simp only [AM,Cq] at hb;exact hb.1.1
    rw [Cq.mp q,hk];exact AX
   .have q':(x==n)=false:=by simpa using q
    rw [q'] at h;exact AS _ (cT_ (scope:=scope) h hr)
  .rw [A3 hb] at h;dsimp only at h;by_cases q:x==n
   .rw [q] at h;dsimp only at h;have hk:k= .free:=by
     rcases h with h|h
     .exact absurd (Ad h) h0
     .exact Ad h
    rw [Cq.mp q,hk];exact AX
   .have q':(x==n)=false:=by simpa using q
    rw [q'] at h;exact AS _ (cT_ (scope:=scope) h hr)
noncomputable def rz_ (own:Nat) (g:TG):Prop:=∀v σ H (Q:St->Hp->Prop),g v σ H Q->g v σ H fun σ' H'=>Q σ' H'/\σ'.length=σ.length/\∀i,own<=i->σ'[i]? =σ[i]?
theorem bU_ {i own:Nat} (h:i<own):rz_ own (dP_ i):=fun v σ H Q q=>⟨q,Bm ..,fun j hj=>by rw [CP (by lia)]⟩
theorem jx_ (own:Nat) (js:List Nat) (σ:St):(lD_ own js σ).length=own+js.length:=by simp [lD_]
theorem io_ {own:Nat}{js:List Nat}{σ:St}{i:Nat}{v:V} (h:(lD_ own js σ)[i]? =some (some v)):own<=i/\∃j,js[i-own]? =some j/\σ[j]? =some (some v):=by
 unfold lD_ at h;by_cases hi:i<own
 .rw [List.getElem?_append_left (by simpa using hi),List.getElem?_replicate,A6 hi] at h;cases h
 .rw [CQ (by simpa using hi),BF,A8] at h;refine⟨by lia, ?_⟩;cases e:js[i-own]? with
  |none=>rw [e] at h;cases h
  |some j=>
   rw [e] at h;refine⟨j,rfl, ?_⟩;have h':(σ[j]?).getD none=some v:=Ad h;cases e2:σ[j]? with
   |none=>rw [e2] at h';cases h'
   |some o=>rw [e2] at h';exact Bc some h'
theorem ik_ {X:Cx}{elt tg iter:Expr}{ifs:List Expr}{scope:Scope}{pos ps:Pos}{N:List Str}{own:Nat}{js:List Nat}{wi:TI}{g:TG}{ti:TT}{te:TE} (hc:X.calm=true)
  (hcell:∀y∈scope.names,y.2≠ .cell) (hkind:scope.kind= .function) (hnames:∀y∈scope.names,y.2= .local->scope.names.lookup y.1=some .local)
  (hfree:∀y∈scope.names,y.2= .free->X.env.kindOf y.1=some .cell\/X.env.kindOf y.1=some .free) (hlen:N.length=own+js.length)
  (hcap:∀(i j:Nat) (x:Str),js[i]? =some j->N[own+i]? =some x->X.N[j]? =some x/\(x,NameKind.free)∈scope.names/\(X.env.kindOf x=some .cell\/X.env.kindOf x=some .free)/\((relabel scope X.env).names.lookup x=some .cell\/(relabel scope X.env).names.lookup x=some .free))
  (hi:PI X tg iter wi) (hg:∀C s₀ H₀ ex,PG (X.comp scope C N s₀ H₀ ex fun _ _=>False) tg g) (ho:rz_ own g) (ht:∀C s₀ H₀ ex,ry_ (X.comp scope C N s₀ H₀ ex fun _ _=>False) ifs ti) (he:∀C s₀ H₀ ex,PE (X.comp scope C N s₀ H₀ ex fun _ _=>False) elt te)
  {pins:List (Addr×Obj)}{s:Shared}{σ:St}{H:Hp}{Q:VK}{use:Option (Value->Sem Unit)}{RQ:Value->Shared->Prop} (I:Inv X pins σ H s) (h:l1_ own js wi g ti te σ H Q)
  (fin:∀(acc C:Addr) (H3:Hp) (s4:Shared) (m:Str->Option Value),Inv X pins σ H3 s4->s4.heap.Ns C m->H3 C=none->C≠X.env.locals->C∉X.fs->X.s₀.heap.objs.size<=C->(∀x c,X.env.cells.lookup x=some c->c≠C)->(∀p∈X.pn++pins,p.1≠C)->
   Q (.ref acc) H3->compPost (model X.prog X.w) X.A X.xe use RQ (.ref acc) C (.ok .next) s4)
  (hs:∀x,foldedSetIterable iter X.env x=pure x:=by intro _;rfl):
  wpAny (model X.prog X.w) X.A (comprehension (.ListComp elt [⟨tg,iter,ifs,0⟩] scope pos) scope X.env ps (newList []) false (eval iter X.env) use) RQ X.xe s:=by
 have hcl:∀y∈scope.names,y.2= .free->∃c,X.env.cells.lookup y.1=some c:=fun y hy hf=>I.ok.has y.1 (hfree y hy hf);refine wpAny_comprehension_free (use:=use) rfl hs (lu_ hcl) hkind hnames (thn (hi pins s σ H _ I h) fun v s1 h1=>thn h1 fun itv s2 h2=> ?_);obtain⟨it,fp,tn,J,H2,e,I2,T,st2,f2,q⟩:=h2;subst e;have nf:H2 s2.heap.objs.size=none:=I2.hok.fresh (A9 _);obtain⟨Wq,⟨m0,w0⟩,turn⟩:=q s2.heap.objs.size nf;refine Aq (wpAny_newFunctionEnv hcell (by intro y hy;simp at hy) (fun h₁ hns₁ hsb₁=> ?_) hkind);dsimp only at hns₁ hsb₁⊢;generalize hP2:s2.heap.push {cls:= .type "list",dict:=none,data:= .seq ([]:List Value).toArray}=P2 at hns₁ hsb₁⊢;have hC:P2.objs.size=s2.heap.objs.size+1:=by rw [<-hP2,Aw]
 have hC1:s2.heap.objs.size<P2.objs.size:=by rw [hC];exact BN _
 have kp:∀b o,s2.heap.get? b=some o->h₁.get? b=some o:=fun b o e=>hsb₁.extBut b o (AL (Nat.lt_trans (AJ e) hC1)) (A7 _ (hP2▸A7 _ e));have hacc:h₁.get? s2.heap.objs.size=some {cls:= .type "list",dict:=none,data:= .seq ([]:List Value).toArray}:=hsb₁.extBut _ _ (AL hC1) (A7 _ (hP2▸AH _ rfl));have lkc:∀x c,(jw_ X.env scope.names []).lookup x=some c->X.env.cells.lookup x=some c:=fun x c e=>ft_ scope.names [] hcl (fun _ _ z=>by simp at z) e;have cne:∀x c,(jw_ X.env scope.names []).lookup x=some c->c<s2.heap.objs.size/\H2 c=none:=fun x c e=>by
  obtain⟨v,o,ho,hd⟩:=I2.cell x c (lkc x c e);exact⟨AJ ho,I2.freeC x c (lkc x c e)⟩
 have fpl:∀b∈fp,b<s2.heap.objs.size:=fun b hb=>by
  obtain⟨o,e,_⟩:=T.obj 0 _ st2 b hb;exact AJ e
 have hX:(X.comp scope P2.objs.size N s2 H2 fp fun _ _=>False).Ok:={
  mod:=I.ok.mod
  kind:=hkind
  glob:=I.ok.glob
  blt:=I.ok.blt
  above:=Al hC1
  inj:=fun x y c a b=>I.ok.inj x y c (lkc x c a) (lkc y c b)
  has:=fun x hx=>hb_ scope.names [] (cT_ (scope:=scope) (env:=X.env) hx hcell)
  cab:=fun x c a _=>by cases (show false=true from a)
  hd:=I.ok.hd
  frames:=I.ok.frames
  stk:= .inl rfl
  exf:=fun b hb=>⟨AL (Nat.lt_trans (fpl b hb) hC1),fun x c a=>(f2 b hb).2.2.2.2.1 x c (lkc x c a)⟩
  bs:=I2.bs
  bsz:=B2 I.ok.bsz I2.sz
  noex:=fun b o e hb=>by
   rcases(f2 b hb).2.2.2.1 with z|z
   .exact I.ok.noex b o e z
   .exact absurd (Af (Af (AJ e) I.ok.bsz) z) (Bs _)
  exfs:=fun b hb z=>by
   rcases AK.mp (I2.stkSub b z) with z|z
   .exact(f2 b hb).2.1 z
   .exact(f2 b hb).2.2.1 z
  funs:=I2.stack
  frf:=I2.stkFree}
 have I3:∀tk,Inv (X.comp scope P2.objs.size N s2 H2 fp fun _ _=>False) [] (lD_ own js σ) (upd H2 s2.heap.objs.size (.lst [])) {s2 with heap:=h₁,toks:=tk}:=fun tk=>{
  ok:=hX
  os:=rfl
  bare:=I2.bare
  base:=Un.laid kp (A9 _) nf
  loc:=⟨_,hns₁,fun i x v a b c=>by
   obtain⟨hio,j,hj,hv⟩:=io_ b;obtain⟨h3,h4,h5,h6⟩:=hcap (i-own) j x hj (by rw [show own+(i-own)=i by lia];exact a);obtain⟨m,hn,hl⟩:=I2.loc;obtain⟨u,ru,lk⟩:=hl j x v h3 hv (.inr h5);refine⟨u,ru, .inr ⟨h6, ?_⟩⟩;rcases lk with⟨z,_⟩|⟨_,c0,z1,z2⟩
   .rcases h5 with h5|h5<;>(rw [h5] at z;cases z)
   .obtain⟨c1,hc1⟩:=hb_ (env:=X.env) scope.names [] h4;have:=lkc x c1 hc1;rw [z1] at this;cases this;obtain⟨o,ho,hd⟩:=z2;exact⟨c0,hc1,o,kp _ _ ho,hd⟩⟩
  cell:=fun x c a=>by
   obtain⟨v,o,ho,hd⟩:=I2.cell x c (lkc x c a);exact⟨v,o,kp _ _ ho,hd⟩
  free:=by
   show upd H2 _ _ P2.objs.size=none;rw [ak_ (BY hC1)];exact I2.hok.fresh (Al hC1)
  freeC:=fun x c a=>by
   rw [ak_ (AL (cne x c a).1)];exact(cne x c a).2
  pin:=fun p hp=>absurd (show p∈([]:List (Addr×Obj)) from hp) (by simp)
  hok:=I2.hok.laid kp (A9 _) ⟨AO _,[],0, .nil,hacc⟩
  len:=by rw [jx_];exact hlen.symm}
 have fr0:∀b∈fp,upd H2 s2.heap.objs.size (.lst []) b=none:=fun b hb=>by
  rw [ak_ (AL (fpl b hb))];exact(f2 b hb).1
 have st3:tn 0 h₁:=T.keep 0 _ _ st2 fun b _ o e=>kp b o e;have stat:∀{H':Hp},(∀b∈fp,H' b=none)->∀b∈fp,iG_ (X.comp scope P2.objs.size N s2 H2 fp fun _ _=>False) [] H' b:=fun hn b hb=>
  ⟨hn b hb,(hX.exf b hb).1,hX.exfs b hb, .inl hb,fun x c a=>(hX.exf b hb).2 x c a,fun p hp=>absurd (show p∈([]:List (Addr×Obj)) from hp) (by simp)⟩
 have loop:∀s₃:Shared,s₃={s2 with heap:=h₁,toks:=s2.toks+([]:List (Str×Value)).length}->
   codeAny (model X.prog X.w) X.A (.compLoop (.ListComp elt [⟨tg,iter,ifs,0⟩] scope pos) 0 (.ref it) (.ref s2.heap.objs.size) (compEnvC scope (jw_ X.env scope.names []) P2.objs.size X.env))
    (compPost (model X.prog X.w) X.A X.xe use RQ (.ref s2.heap.objs.size) P2.objs.size) s₃:=by
  rintro s₃ rfl;refine nA_ (fun n s'=>∃i H',Inv (X.comp scope P2.objs.size N s2 H2 fp fun _ _=>False) [] (lD_ own js σ) H' s'/\tn i s'.heap/\(∀b∈fp,H' b=none)/\Wq i n H') ?_ m0 ⟨0,_,I3 _,st3,fr0,w0⟩;rintro n s3 ⟨i,H3,J3,t3,fr3,w3⟩;rcases turn i n H3 w3 with⟨stop,qd⟩|⟨go,step⟩
  .refine p6_ (T.done (X.comp scope P2.objs.size N s2 H2 fp fun _ _=>False) rfl rfl rfl hc i [] s3 _ H3 _ J3 (stat fr3) t3 stop) fun r s4 ⟨hr,J4⟩=> ?_;subst hr;obtain⟨m,hn,_⟩:=J4.loc;have B:Un (frs X.stack) fp H2 H3 s2.heap s4.heap:=J4.base;have I5:Inv X pins σ H3 s4:=I2.call' J4.os B J4.hok J4.bare fun b hb=>by
    obtain⟨a1,a2,a3,a4,a5,a6⟩:=f2 b hb;exact⟨a4,a2,a5,a6⟩
   have hp:=I2.fpOk (H':=H3) (b:=P2.objs.size) (Al hC1) J4.free;obtain⟨a1,a2,a3,a4,a5,a6⟩:=hp;exact fin s2.heap.objs.size P2.objs.size H3 s4 m I5 hn a1 a2 a3 (B2 I2.sz (Al hC1)) a5 a6 qd
  .refine p6_ (T.item (X.comp scope P2.objs.size N s2 H2 fp fun _ _=>False) rfl rfl rfl hc i [] s3 _ H3 _ J3 (stat fr3) t3 go) fun r s4 ⟨u,hr,h4⟩=> ?_;subst hr;refine p6_ h4 fun _ s5 ⟨x,H5,J5,r5,y5,t5,fr5⟩=> ?_;have J5':=J5.pinned (stat fr5) (T.obj _ _ t5);refine p6_ (hg _ _ _ _ _ s5 _ H5 x u _ J5' r5 (ho _ _ _ _ (step x H5 y5))) fun _ s6 ⟨σ6,H6,J6,q6,hl6,ho6⟩=> ?_;have again:∀{s7:Shared}{H7:Hp},Inv (X.comp scope P2.objs.size N s2 H2 fp fun _ _=>False) ([]++hF_ fp s5.heap) σ6 H7 s7->(∃m',m'<n/\Wq (i+1) m' H7)->
     ∃m,m<n/\∃i H',Inv (X.comp scope P2.objs.size N s2 H2 fp fun _ _=>False) [] (lD_ own js σ) H' s7/\tn i s7.heap/\(∀b∈fp,H' b=none)/\Wq i m H':=fun{s7 H7} J7 z=>by
    obtain⟨m',hm,w7⟩:=z;refine⟨m',hm,i+1,H7,J7.unpinned.weak (by rw [hl6]) (fun k v z=> ?_),T.keep _ _ _ t5 fun b hb o e=>(J7.pin (b,o) (Ar _ (Ar _ (c5_ hb e)))).1,fun b hb=> ?_,w7⟩
    .rw [ho6 k (io_ z).1];exact z
    .obtain⟨o,e,d⟩:=T.obj _ _ t5 b hb;exact(J7.pin (b,o) (Ar _ (Ar _ (c5_ hb e)))).2.1
   refine p6_ (ht _ _ _ _ _ s6 σ6 H6 _ J6 q6) fun ok s7 ⟨H7,J7,q7⟩=> ?_;cases ok with
   |false=>exact again J7 q7
   |true=>
    refine p6_ (he _ _ _ _ _ s7 σ6 H7 _ J7 q7) fun y s8 ⟨yv,H8,J8,r8,q8⟩=> ?_;exact p6_ (bC_ _ s8 σ6 H8 (.ref s2.heap.objs.size) [yv] (.ref s2.heap.objs.size) [y] _ J8 rfl (.cons r8 .nil) q8) fun _ s9 ⟨_,H9,J9,_,q9⟩=>again J9 q9
 exact codeAny_compStart_list (loop _ rfl) (T.self X.A 0 _ _ _ st3 (loop _ rfl))
theorem qJ_ {X:Cx}{elt tg iter:Expr}{ifs:List Expr}{scope:Scope}{pos:Pos}{N:List Str}{own:Nat}{js:List Nat}{wi:TI}{g:TG}{ti:TT}{te:TE} (hc:X.calm=true)
  (hcell:∀y∈scope.names,y.2≠ .cell) (hkind:scope.kind= .function) (hnames:∀y∈scope.names,y.2= .local->scope.names.lookup y.1=some .local)
  (hfree:∀y∈scope.names,y.2= .free->X.env.kindOf y.1=some .cell\/X.env.kindOf y.1=some .free) (hlen:N.length=own+js.length)
  (hcap:∀(i j:Nat) (x:Str),js[i]? =some j->N[own+i]? =some x->X.N[j]? =some x/\(x,NameKind.free)∈scope.names/\(X.env.kindOf x=some .cell\/X.env.kindOf x=some .free)/\((relabel scope X.env).names.lookup x=some .cell\/(relabel scope X.env).names.lookup x=some .free))
  (hi:PI X tg iter wi) (hg:∀C s₀ H₀ ex,PG (X.comp scope C N s₀ H₀ ex fun _ _=>False) tg g) (ho:rz_ own g) (ht:∀C s₀ H₀ ex,ry_ (X.comp scope C N s₀ H₀ ex fun _ _=>False) ifs ti) (he:∀C s₀ H₀ ex,PE (X.comp scope C N s₀ H₀ ex fun _ _=>False) elt te)
  (hs:∀x,foldedSetIterable iter X.env x=pure x:=by intro _;rfl):PE X (.ListComp elt [⟨tg,iter,ifs,0⟩] scope pos) (l1_ own js wi g ti te):=by
 intro pins s σ H Q I h;rw [eval_ListComp];refine ik_ hc hcell hkind hnames hfree hlen hcap hi hg ho ht he I h (use:=none) (fun acc C H3 s4 m I5 hn c1 c2 c3 c4 c5 c6 q=> ?_) hs;refine⟨m,hn,fun h' sb=>⟨.ref acc,H3, ?_,rfl,q⟩⟩;exact I5.turned (t':=s4.toks) (it:=C) (fun b o hb e=>(sb.2 b hb).trans e) c1 c2 (.inr c4) c5 c6
theorem qu_ {X:Cx}{i:Nat}{y:Str}{py spos:Pos}{elt tg iter:Expr}{ifs:List Expr}{scope:Scope}{pos:Pos}{N:List Str}{own:Nat}{js:List Nat}{wi:TI}{g:TG}{ti:TT}{te:TE} (hN:X.N.Nodup) (hi':X.N[i]? =some y) (hy:Loc X.env.scope y) (hf:X.fn y=true\/X.env.scope.names.lookup y=some .local)
  (hc:X.calm=true)
  (hcell:∀y∈scope.names,y.2≠ .cell) (hkind:scope.kind= .function) (hnames:∀y∈scope.names,y.2= .local->scope.names.lookup y.1=some .local)
  (hfree:∀y∈scope.names,y.2= .free->X.env.kindOf y.1=some .cell\/X.env.kindOf y.1=some .free) (hlen:N.length=own+js.length)
  (hcap:∀(i j:Nat) (x:Str),js[i]? =some j->N[own+i]? =some x->X.N[j]? =some x/\(x,NameKind.free)∈scope.names/\(X.env.kindOf x=some .cell\/X.env.kindOf x=some .free)/\((relabel scope X.env).names.lookup x=some .cell\/(relabel scope X.env).names.lookup x=some .free))
  (hi:PI X tg iter wi) (hg:∀C s₀ H₀ ex,PG (X.comp scope C N s₀ H₀ ex fun _ _=>False) tg g) (ho:rz_ own g) (ht:∀C s₀ H₀ ex,ry_ (X.comp scope C N s₀ H₀ ex fun _ _=>False) ifs ti) (he:∀C s₀ H₀ ex,PE (X.comp scope C N s₀ H₀ ex fun _ _=>False) elt te)
  (hsw:swapsWith (.ListComp elt [⟨tg,iter,ifs,0⟩] scope pos) (some (.Name y py)) spos.line X.env=pure true:=by rfl)
  (hs:∀x,foldedSetIterable iter X.env x=pure x:=by intro _;rfl):PS X (.Assign [.Name y py] (.ListComp elt [⟨tg,iter,ifs,0⟩] scope pos) spos) (tF_ (l1_ own js wi g ti te) (dP_ i)):=by
 intro pins s σ H D I h;rw [exec_Assign_Name_used _ _ _ _ hsw];refine A0 (wpAny_standAt (A0 ?_));show wpAny _ X.A (do let _<-comprehension (.ListComp elt [⟨tg,iter,ifs,0⟩] scope pos) scope X.env _ (newList []) false (eval iter X.env) (some (assign (.Name y py) X.env))) _ _ s;refine A0 (BP (ik_ hc hcell hkind hnames hfree hlen hcap hi hg ho ht he I h (use:=some (assign (.Name y py) X.env)) (RQ:=fun _ s'=>SP X pins D .next s') (fun acc C H3 s4 m I5 hn c1 c2 c3 c4 c5 c6 q=> ?_) hs) (fun _ s' hq=>A2 (A2 hq)) fun _ _ e=>e);show wpAny _ X.A (assign (.Name y py) X.env (.ref acc)) _ _ _;obtain⟨o,es,ep,ho',hd,hr⟩:=hn;have I6:Inv X (pins++[(C,o)]) σ H3 s4:=I5.pins_of fun p hp=>by
  rcases BK.mp hp with z|z
  .exact I5.pin p (Ar _ z)
  .rw [Ah.mp z];exact⟨ho',c1,c2,c3,fun v z=>by rw [hd] at z;cases z⟩
 refine wpAny_assign_Name (dB_ I6 hN hi' hy (v:= .ref acc) rfl (fun s' I7=> ?_) hf);have hp:=I7.pin (C,o) (Ar _ (Ar _ (by simp)));refine⟨m,⟨o,es,ep,hp.1,hd,hr⟩,fun h' sb=>⟨_,H3, ?_,q⟩⟩;exact I7.unpinned.turned (t':=s'.toks) (it:=C) (fun b o hb e=>(sb.2 b hb).trans e) c1 c2 (.inr c4) c5 c6
end L2
namespace L2
open PySem PySem.Spec PyProof.Rows
noncomputable def kK_ (XN:List Str) (sc scope:Scope) (own:Nat) (js:List Nat) (N:List Str):Bool:=
 (scope.names.all fun y=>decide (y.2≠ .cell)&&(decide (y.2≠ .local)||decide (scope.names.lookup y.1=some .local))&&(decide (y.2≠ .free)||decide (sc.names.lookup y.1=some .cell)||decide (sc.names.lookup y.1=some .free)))&&
  decide (scope.kind= .function)&&decide (N.length=own+js.length)&&
  (List.range js.length).all fun i=>match js[i]?,N[own+i]? with
   |some j,some x=>decide (XN[j]? =some x)&&decide (scope.names.lookup x=some .free)&&(decide (sc.names.lookup x=some .cell)||decide (sc.names.lookup x=some .free))
   |_,_=>false
theorem be_ {env:Env}:∀{names:List (Str×NameKind)}{x:Str},names.lookup x=some .free->
  (names.map fun(n,k)=>if(k==NameKind.free&&env.scope.kind== .function&&env.kindOf n==some .cell) then(n,NameKind.cell) else(n,k)).lookup x=some .cell\/
  (names.map fun(n,k)=>if(k==NameKind.free&&env.scope.kind== .function&&env.kindOf n==some .cell) then(n,NameKind.cell) else(n,k)).lookup x=some .free
 |[],_,h=>by simp at h
 |(n,k)::r,x,h=>by
  have ih:= @be_ env r x;rw [AI,CB];rw [CB] at h;by_cases hc:(k==NameKind.free&&env.scope.kind== .function&&env.kindOf n==some .cell)=true
  .rw [A6 hc];dsimp only;cases hx:x==n with
   |true=>exact .inl rfl
   |false=>
    rw [hx] at h;exact ih h
  .rw [A3 hc];dsimp only;cases hx:x==n with
   |true=>
    rw [hx] at h;exact .inr h
   |false=>
    rw [hx] at h;exact ih h
structure CompOk (XN:List Str) (sc scope:Scope) (own:Nat) (js:List Nat) (N:List Str):Prop where
 cell:∀y∈scope.names,y.2≠ .cell
 names:∀y∈scope.names,y.2= .local->scope.names.lookup y.1=some .local
 free:∀y∈scope.names,y.2= .free->sc.names.lookup y.1=some .cell\/sc.names.lookup y.1=some .free
 kind:scope.kind= .function
 len:N.length=own+js.length
 cap:∀(i j:Nat) (x:Str),js[i]? =some j->N[own+i]? =some x->XN[j]? =some x/\scope.names.lookup x=some .free/\(sc.names.lookup x=some .cell\/sc.names.lookup x=some .free)
theorem il_ {XN:List Str}{sc scope:Scope}{own:Nat}{js:List Nat}{N:List Str} (h:kK_ XN sc scope own js N=true):CompOk XN sc scope own js N:=by
 unfold kK_ at h;rw [AM,AM,AM] at h;obtain⟨⟨⟨h1,h2⟩,h3⟩,h4⟩:=h;rw [AZ] at h1 h4;refine⟨fun y hy=> ?_,fun y hy e=> ?_,fun y hy e=> ?_,As h2,As h3,fun i j x a b=> ?_⟩
 .have:=h1 y hy;rw [AM,AM] at this;exact As this.1.1
 .have:=h1 y hy;rw [AM,AM,Ca] at this;rcases this.1.2 with z|z
  .exact absurd e (As z)
  .exact As z
 .have:=h1 y hy;rw [AM,AM,Ca,Ca,Ca] at this;rcases this.2 with(z|z)|z
  .exact absurd e (As z)
  .exact .inl (As z)
  .exact .inr (As z)
 .have hi:i<js.length:=(AD.mp a).1;have:=h4 i (AW.mpr hi);rw [a,b] at this;dsimp only at this;rw [AM,AM,Ca] at this;exact⟨As this.1.1,As this.1.2,this.2.imp As As⟩
section
variable {X:Cx}{XN:List Str}{sc scope:Scope}{elt tg iter:Expr}{ifs:List Expr}{pos:Pos}{N:List Str}{own:Nat}{js:List Nat}{wi:TI}{g:TG}{ti:TT}{te:TE}
theorem bN_ (hc:X.calm=true) (ok:kK_ XN sc scope own js N=true) (hsc:X.env.scope=sc) (hXN:X.N=XN) (hi:PI X tg iter wi) (hg:∀C s₀ H₀ ex,PG (X.comp scope C N s₀ H₀ ex fun _ _=>False) tg g) (ho:rz_ own g)
  (ht:∀C s₀ H₀ ex,ry_ (X.comp scope C N s₀ H₀ ex fun _ _=>False) ifs ti) (he:∀C s₀ H₀ ex,PE (X.comp scope C N s₀ H₀ ex fun _ _=>False) elt te)
  (hs:∀x,foldedSetIterable iter X.env x=pure x:=by intro _;rfl):PE X (.ListComp elt [⟨tg,iter,ifs,0⟩] scope pos) (l1_ own js wi g ti te):=by
 obtain⟨h1,h2,h3,h4,h5,h6⟩:=il_ ok;subst hsc hXN;refine qJ_ hc h1 h4 h2 h3 h5 (fun i j x a b=> ?_) hi hg ho ht he hs;obtain⟨z1,z2,z3⟩:=h6 i j x a b;exact⟨z1,Bo z2,z3,be_ z2⟩
theorem oq_ {i:Nat}{y:Str}{py spos:Pos} (hN:X.N.Nodup) (hi':X.N[i]? =some y) (hy:Loc X.env.scope y) (hf:X.fn y=true\/X.env.scope.names.lookup y=some .local) (hc:X.calm=true) (ok:kK_ XN sc scope own js N=true) (hsc:X.env.scope=sc) (hXN:X.N=XN) (hi:PI X tg iter wi)
  (hg:∀C s₀ H₀ ex,PG (X.comp scope C N s₀ H₀ ex fun _ _=>False) tg g) (ho:rz_ own g)
  (ht:∀C s₀ H₀ ex,ry_ (X.comp scope C N s₀ H₀ ex fun _ _=>False) ifs ti) (he:∀C s₀ H₀ ex,PE (X.comp scope C N s₀ H₀ ex fun _ _=>False) elt te)
  (hsw:swapsWith (.ListComp elt [⟨tg,iter,ifs,0⟩] scope pos) (some (.Name y py)) spos.line X.env=pure true:=by rfl)
  (hs:∀x,foldedSetIterable iter X.env x=pure x:=by intro _;rfl):PS X (.Assign [.Name y py] (.ListComp elt [⟨tg,iter,ifs,0⟩] scope pos) spos) (tF_ (l1_ own js wi g ti te) (dP_ i)):=by
 obtain⟨h1,h2,h3,h4,h5,h6⟩:=il_ ok;subst hsc hXN;refine qu_ hN hi' hy hf hc h1 h4 h2 h3 h5 (fun i j x a b=> ?_) hi hg ho ht he hsw hs;obtain⟨z1,z2,z3⟩:=h6 i j x a b;exact⟨z1,Bo z2,z3,be_ z2⟩
end
theorem lr_ {lo:Int}{n:Nat}{own:Nat}{js:List Nat}{g:TG}{ti:TT}{te:TE}{σ:St}{H1:Hp}{acc:Addr}{Q:VK} (Pv:Nat->Hp->Prop) (h0:Pv 0 (upd H1 acc (.lst [])))
  (hs:∀i H2,i<n->Pv i H2->g (.int (lo+i)) (lD_ own js σ) H2 fun σ4 H4=>ti σ4 H4 fun b H5=>if b=true then te σ4 H5 fun y H6=>d3_ (.ref acc) [y] H6 fun _ H7=>Pv (i+1) H7 else Pv (i+1) H5) (hd:∀H2,Pv n H2->Q (.ref acc) H2)
  (mono:∀σ H (R R':St->Hp->Prop) x,(∀σ' H',R σ' H'->R' σ' H')->g x σ H R->g x σ H R') (monoT:∀σ H (R R':Bool->Hp->Prop),(∀b H',R b H'->R' b H')->ti σ H R->ti σ H R') (monoE:∀σ H (R R':VK),(∀v H',R v H'->R' v H')->te σ H R->te σ H R'):
  nS_ (Itr lo n) own js g ti te σ H1 acc Q:=by
 refine⟨fun i m H2=>m=n-i/\i<=n/\Pv i H2,⟨n,by simp,AO _,h0⟩, ?_⟩;rintro i m H2 ⟨rfl,hi,p⟩;by_cases hlt:i<n
 .refine .inr ⟨hlt,fun x H3 y=> ?_⟩;obtain⟨e1,e2⟩:=y;subst e1 e2;refine mono _ _ _ _ _ (fun σ4 H4 q=>monoT _ _ _ _ (fun b H5 q=> ?_) q) (hs i _ hlt p);cases b with
  |true=>
   refine monoE _ _ _ _ (fun v H6 q=> ?_) q;obtain⟨l,xs,y,a1,a2,a3,a4,a5⟩:=q;exact⟨l,xs,y,a1,a2,a3,a4,n-(i+1),by lia,rfl,hlt,a5⟩
  |false=>exact⟨n-(i+1),by lia,rfl,hlt,q⟩
 .have e:i=n:=by lia
  subst e;exact .inl ⟨A9 _,hd H2 p⟩
theorem bZ_ {K:W.Frag}{a:Addr}{xs:List V}{own:Nat}{js:List Nat}{g:TG}{ti:TT}{te:TE}{σ:St}{H1:Hp}{acc:Addr}{Q:VK} (Pv:Nat->Hp->Prop) (h0:Pv 0 (upd H1 acc (.lst []))) (hl:∀i H2,i<=xs.length->Pv i H2->SqL K H2 a xs)
  (hs:∀i x H2,xs[i]? =some x->Pv i H2->g x (lD_ own js σ) H2 fun σ4 H4=>ti σ4 H4 fun b H5=>if b=true then te σ4 H5 fun y H6=>d3_ (.ref acc) [y] H6 fun _ H7=>Pv (i+1) H7 else Pv (i+1) H5) (hd:∀H2,Pv xs.length H2->Q (.ref acc) H2)
  (mono:∀σ H (R R':St->Hp->Prop) x,(∀σ' H',R σ' H'->R' σ' H')->g x σ H R->g x σ H R') (monoT:∀σ H (R R':Bool->Hp->Prop),(∀b H',R b H'->R' b H')->ti σ H R->ti σ H R') (monoE:∀σ H (R R':VK),(∀v H',R v H'->R' v H')->te σ H R->te σ H R'):
  nS_ (Itl K a) own js g ti te σ H1 acc Q:=by
 refine⟨fun i m H2=>m=xs.length-i/\i<=xs.length/\Pv i H2,⟨xs.length,by simp,AO _,h0⟩, ?_⟩;rintro i m H2 ⟨rfl,hi,p⟩;have q:=hl i H2 hi p;by_cases hlt:i<xs.length
 .refine .inr ⟨⟨xs,xs[i],q,by simp [hlt]⟩,fun x H3 y=> ?_⟩;obtain⟨e1,y⟩:=y;subst e1;refine mono _ _ _ _ _ (fun σ4 H4 q=>monoT _ _ _ _ (fun b H5 q=> ?_) q) (hs i x _ (y xs q) p);cases b with
  |true=>
   refine monoE _ _ _ _ (fun v H6 q=> ?_) q;obtain⟨l,xs,y,a1,a2,a3,a4,a5⟩:=q;exact⟨l,xs,y,a1,a2,a3,a4,_,by lia,rfl,hlt,a5⟩
  |false=>exact⟨_,by lia,rfl,hlt,q⟩
 .have e:i=xs.length:=by lia
  subst e;exact .inl ⟨⟨xs,q,A9 _⟩,hd H2 p⟩
theorem bX_ {i:Nat}:∀(σ:St) (H:Hp) (R R':St->Hp->Prop) (x:V),(∀σ' H',R σ' H'->R' σ' H')->dP_ i x σ H R->dP_ i x σ H R':=fun _ _ _ _ _ k h=>k _ _ h
theorem tB_ {A B:St->Hp->Prop}{i:Nat}{x:V}{σ:St}{H:Hp} (h:A (σ.set i (some x)) H):dP_ i x σ H fun σ4 H4=>tD_ σ4 H4 fun b H5=>if b=true then A σ4 H5 else B σ4 H5:=by
 show if true=true then A (σ.set i (some x)) H else B (σ.set i (some x)) H
 rw [A6 rfl];exact h
theorem m9_ {n i:Nat} (h:i<n):ixN n (i:Int)=some i:=by
 unfold ixN;rw [A6 (by lia),A6 (by lia),An]
theorem cA_:∀(σ:St) (H:Hp) (R R':Bool->Hp->Prop),(∀b H',R b H'->R' b H')->tD_ σ H R->tD_ σ H R':=fun _ _ _ _ k h=>k _ _ h
end L2
namespace L2
open PySem PySem.Spec PyProof.Rows
section
variable {X:Cx}{K:W.Frag}
end
end L2
namespace L2
open PySem PySem.Spec PyProof.Rows
inductive EqR (K:W.Frag) (H:Hp):Nat->V->V->Bool->Prop where
 |int (d:Nat) (i j:Int):EqR K H d (.int i) (.int j) (decide (i=j))
 |lists {d:Nat}{a b:Addr}{xs ys:List V} (es:Nat->Bool) (h1:SqL K H a xs) (h2:SqL K H b ys) (hl:xs.length=ys.length) (he:∀(j:Nat) x y,xs[j]? =some x->ys[j]? =some y->EqR K H d x y (es j)):EqR K H (d+1) (.ref a) (.ref b) ((List.range xs.length).all es)
 |lens {d:Nat}{a b:Addr}{xs ys:List V} (h1:SqL K H a xs) (h2:SqL K H b ys) (hl:xs.length≠ys.length):EqR K H (d+1) (.ref a) (.ref b) false
 |tuples {d:Nat}{a b:Addr}{xs ys:List V} (es:Nat->Bool) (h1:SqT K H a xs) (h2:SqT K H b ys) (he:∀(j:Nat) x y,xs[j]? =some x->ys[j]? =some y->EqR K H d x y (es j)):EqR K H (d+1) (.ref a) (.ref b) ((List.range (min xs.length ys.length)).all es&&xs.length==ys.length)
section
variable {X:Cx}{pins:List (Addr×Obj)}{σ:St}{H:Hp}{s:Shared}
theorem EqR.same (I:Inv X pins σ H s) {d:Nat}{x y:V}{e:Bool} (h:EqR X.K H d x y e):x=y->e=true:=by
 induction h with
 |int d i j=>intro q;cases q;simp
 |lists es h1 h2 hl he ih=>
  intro q;cases q;have z:=I.list_inj h1 h2;subst z;rw [AZ];intro j hj;rw [AW] at hj;have hx:=A4 hj;exact ih j _ _ hx hx rfl
 |lens h1 h2 hl=>
  intro q;cases q;exact absurd (Bc List.length (I.list_inj h1 h2)) hl
 | @tuples d a b xs ys es h1 h2 he ih=>
  intro q;cases q;have z:=I.tuple_inj h1 h2;subst z;rw [AM];refine⟨?_,by simp⟩;rw [AZ];intro j hj;rw [AW,Nat.min_self] at hj;have hx:=A4 hj;exact ih j _ _ hx hx rfl
theorem aK_ (A:Around):A.in1.units=A.units+1:=rfl
theorem EqR.at_ (I:Inv X pins σ H s) {d:Nat}{x y:V}{e:Bool} (h:EqR X.K H d x y e):∀{A:Around}{u v:Value},A.units+d<cLine->a2_ x u->a2_ y v->SeqAt.RcAt A s u v e/\SeqAt.RcNeAt A s u v (!e)/\SeqAt.EqAt A s u v e:=by
 induction h with
 |int d i j=>
  intro A u v hu ru rv;obtain⟨t,rfl⟩:=ru;obtain⟨t',rfl⟩:=rv;have e:decide (i=j)=(i==j):=by rw [Bool.beq_eq_decide_eq]
  rw [e];exact⟨SeqAt.RcAt.int_int i t j t',SeqAt.RcNeAt.int_int i t j t',SeqAt.EqAt.int_int i t j t'⟩
 | @lists d a b xs ys es h1 h2 hl he ih=>
  intro A u v hu ru rv;obtain rfl:u=Value.ref a:=ru;obtain rfl:v=Value.ref b:=rv;obtain⟨is,r1,p1,z1⟩:=I.list h1;obtain⟨js,r2,p2,z2⟩:=I.list h2;have l1:=r1.length;have l2:=r2.length;have ln:xs.length=is.toArray.size:=by simpa using l1
  have sz:is.toArray.size=js.toArray.size:=by simp only [AE];lia
  have it:∀j (q1:j<is.toArray.size) (q2:j<js.toArray.size),SeqAt.EqAt A.in1 s is.toArray[j] js.toArray[j] (es j):=fun j q1 q2=>by
   simp only [AE] at q1 q2;have hx:xs[j]? =some xs[j]:=A4 (by lia);have hy:ys[j]? =some ys[j]:=A4 (by lia);obtain⟨u1,e1,ru1⟩:=r1.get hx;obtain⟨u2,e2,ru2⟩:=r2.get hy;have g1:is.toArray[j]=u1:=by
    rw [A4 q1] at e1;simpa using Option.some.inj e1
   have g2:js.toArray[j]=u2:=by
    rw [A4 q2] at e2;simpa using Option.some.inj e2
   rw [g1,g2];exact(ih j _ _ hx hy (by rw [aK_];lia) ru1 ru2).2.2
  rw [ln];have R:=SeqAt.RcAt.lists (A:=A) p1.isList p2.isList sz (by lia) it;refine⟨R,SeqAt.RcNeAt.lists p1.isList p2.isList sz (by lia) it, ?_⟩;by_cases q:a=b
  .subst q;have:=(EqR.lists es h1 h2 hl he).same I rfl;rw [ln] at this;rw [this];exact SeqAt.EqAt.same _
  .exact SeqAt.EqAt.of_refs q R
 | @lens d a b xs ys h1 h2 hl=>
  intro A u v hu ru rv;obtain rfl:u=Value.ref a:=ru;obtain rfl:v=Value.ref b:=rv;obtain⟨is,r1,p1,z1⟩:=I.list h1;obtain⟨js,r2,p2,z2⟩:=I.list h2;have l1:=r1.length;have l2:=r2.length;have sz:(is.toArray.size !=js.toArray.size)=true:=by
   simp only [AE,bne_iff_ne,ne_eq];lia
  have R:=SeqAt.RcAt.lists_lengths (A:=A) p1.isList p2.isList sz (by lia);refine⟨R,SeqAt.RcNeAt.lists_lengths p1.isList p2.isList sz (by lia), ?_⟩;by_cases q:a=b
  .subst q;exact absurd (Bc List.length (I.list_inj h1 h2)) hl
  .exact SeqAt.EqAt.of_refs q R
 | @tuples d a b xs ys es h1 h2 he ih=>
  intro A u v hu ru rv;obtain rfl:u=Value.ref a:=ru;obtain rfl:v=Value.ref b:=rv;obtain⟨is,r1,p1,z1⟩:=I.tuple h1;obtain⟨js,r2,p2,z2⟩:=I.tuple h2;have l1:=r1.length;have l2:=r2.length;have ln:xs.length=is.toArray.size:=by simpa using l1
  have ln2:ys.length=js.toArray.size:=by simpa using l2
  have it:∀j (q1:j<is.toArray.size) (q2:j<js.toArray.size),SeqAt.EqAt A.in1 s is.toArray[j] js.toArray[j] (es j):=fun j q1 q2=>by
   simp only [AE] at q1 q2;have hx:xs[j]? =some xs[j]:=A4 (by lia);have hy:ys[j]? =some ys[j]:=A4 (by lia);obtain⟨u1,e1,ru1⟩:=r1.get hx;obtain⟨u2,e2,ru2⟩:=r2.get hy;have g1:is.toArray[j]=u1:=by
    rw [A4 q1] at e1;simpa using Option.some.inj e1
   have g2:js.toArray[j]=u2:=by
    rw [A4 q2] at e2;simpa using Option.some.inj e2
   rw [g1,g2];exact(ih j _ _ hx hy (by rw [aK_];lia) ru1 ru2).2.2
  rw [ln,ln2];have R:=SeqAt.RcAt.tuples (A:=A) (show s.heap.IsTuple a is.toArray from p1) (show s.heap.IsTuple b js.toArray from p2) (by lia) it;refine⟨R,SeqAt.RcNeAt.tuples (show s.heap.IsTuple a is.toArray from p1) (show s.heap.IsTuple b js.toArray from p2) (by lia) it, ?_⟩;by_cases q:a=b
  .subst q;have:=(EqR.tuples es h1 h2 he).same I rfl;rw [ln,ln2] at this;rw [this];exact SeqAt.EqAt.same _
  .exact SeqAt.EqAt.of_refs q R
theorem dR_ (hc:X.calm=true):cc_ X (.builtin "sum") (fun xs H Q=>∃(p:Addr) (ns:List Int),xs=[.ref p]/\SqL X.K H p (ns.map V.int)/\Q (.int ns.sum) H):=by
 intro pins s σ H xs us Q I r h;obtain⟨p,ns,rfl,hq,q⟩:=h;obtain⟨u,rfl,rx⟩:=fx_ r;cases rx;obtain⟨its,r',pl,hz⟩:=I.list hq;have hi:IntsAre its ns:=ei_ r';obtain⟨ys,e⟩:=hi.allInts.items;have hl:=pl.isList;rw [e] at hl;refine sum_intListG (I.ok.hd hc) hl fun h' tk t' hk=>⟨.int ns.sum,H,I.kept hk,⟨t', ?_⟩,q⟩;have n1:=hi.numsOf;rw [show its=its.toArray.toList from rfl,e,nums_intItems] at n1;rw [preSum_eq,List.take_of_length_le (by simp),n1]
noncomputable def CDB (_ j:Int):Prop:=j≠0/\j.natAbs<2^512
theorem oB_:OpR X (binaryOp .FloorDiv) (rI CDB fun i j=> .int (i.fdiv j)):=opI fun i j _ _ _ _ _ hc q=>floordiv_int hc.1 q (.inl (PyProof.noPylong_of_log2 (by
 have h0:j.natAbs≠0:=by have:=hc.1;lia
 have:=(Nat.log2_lt h0).mpr hc.2;lia)))
end
end L2
namespace L2
open PySem PySem.Spec PyProof.Rows
section
variable {prog:Program}{w:World}{A:Around}{E:Value->Shared->Prop}{s:Shared}
end
section
variable {X:Cx}{e:Expr}{te:TE}{p1 p2 p3 pos:Pos}
end
end L2
namespace L2
open PySem PySem.Spec PyProof.Rows
noncomputable def Ite (K:W.Frag) (a:Addr):It:=
 ⟨fun i H=>∃xs x,SqL K H a xs/\xs[i]? =some x,fun i H v H'=>∃x p,(∀xs,SqL K H a xs->xs[i]? =some x)/\v= .ref p/\H p=none/\H'=upd H p (.tup [.int i,x]),fun i H=>∃xs,SqL K H a xs/\xs.length<=i⟩
theorem lV_ {P:Program}{w:World}{K:W.Frag}{elts:List Expr}{k:Nat}{pos:Pos} (a e it:Addr) (hne:e≠it):
  Turn P w K (.Tuple elts k pos) (Ite K a) [e,it] e (fun i h=>(∃old,IsEnum h e it (i:Nat) old)/\h.IsListIter it a i) where
 mem:=by simp
 obj:=fun i h st b hb=>by
  obtain⟨⟨old,h1⟩,o,h2,h3,h4⟩:=st;rcases AK.mp hb with z|z
  .subst z;exact⟨_,h1,fun v y=>by cases y⟩
  .rw [Ah.mp z];exact⟨o,h2,fun v y=>by rw [h4] at y;cases y⟩
 keep:=fun i h h' st kk=>⟨st.1.imp fun old z=>kk e (by simp) _ z,st.2.at fun o z=>kk it (by simp) o z⟩
 item:=by
  intro X hP hw hK hc i pins s σ H E I hf st hg;subst hP hw hK;obtain⟨xs,x,hq,hx⟩:=hg;obtain⟨its,rv,p,hz⟩:=I.list hq;obtain⟨u,hu,ru⟩:=rv.get hx;obtain⟨⟨old,he⟩,hit⟩:=st;have nf:H s.heap.objs.size=none:=I.hok.fresh (A9 _);have ltE:e<s.heap.objs.size:=AJ he;refine wpAny_pyNext_enum_item he hit p.isList (x:=u) (by simpa using hu) hne fun h' ho hit' hT hsz hk=>⟨.ref s.heap.objs.size,rfl, ?_⟩;refine wpAny_letOwnedTupleGo_enum ho fun h2 he2 sb=> ?_;have k2:∀b o,b≠e->b≠it->s.heap.get? b=some o->h2.get? b=some o:=fun b o n1 n2 z=>(sb.2 b n1).trans (hk b o n1 n2 z);have hT2:h2.get? s.heap.objs.size=some {cls:= .type "tuple",data:= .seq #[.int i s.toks,u]}:=(sb.2 _ (BY ltE)).trans hT;have hch:∀b,b∉[e,it]->b≠e/\b≠it:=fun b z=>⟨fun y=>z (by simp [y]),fun y=>z (by simp [y])⟩;refine⟨.ref s.heap.objs.size,upd H s.heap.objs.size (.tup [.int i,x]), ?_,rfl,⟨x,_,fun ys hy=>by rw [I.list_inj hy hq];exact hx,rfl,nf,rfl⟩,⟨⟨u,by simpa using he2⟩,hit'.at fun o z=>(sb.2 it hne.symm).trans z⟩,fun b hb=> ?_⟩
  .refine I.step (s:=s) (h':=h2) (g':=s.gens) (d':=s.drawn) (t':=s.toks+1) (ch:=[e,it]) (fun b hb=> ?_) (fun b o _ _ c z _=>k2 b o (hch b c).1 (hch b c).2 z) (fun b o _ _ c z _=>⟨o.slots,k2 b o (hch b c).1 (hch b c).2 z⟩)
    (fun b o c z n=> ?_) (fun b o c z=>⟨o,k2 b o (hch b c).1 (hch b c).2 z⟩) (fun b ys z=> ?_) (fun b o v z=> ?_) (fun b ps z=>⟨#[], ?_⟩) (fun m hm=> ?_) (fun b v z=> ?_) I.bare
   .obtain⟨a1,a2,a3,a4,a5,a6⟩:=hf b hb;exact⟨a4,a2,a5,a6⟩
   .rw [ak_ (AL (AJ z))];exact n
   .rw [ak_ (aw_ z nf)];exact z
   .rw [ak_ (aw_ z nf)];exact z
   .rw [ak_ (aw_ z nf),z];simp
   .obtain⟨o,es,ep,ho',r⟩:=hm;exact⟨o,es,ep,k2 _ o (fun y=>(hf e (by simp)).2.1 y.symm) (fun y=>(hf it (by simp)).2.1 y.symm) ho',r⟩
   .by_cases hb:b=s.heap.objs.size
    .subst hb;rw [ag_] at z;cases z;exact⟨by show 2<=sizeLine;decide,[.int i s.toks,u], .cons ⟨_,rfl⟩ (.cons ru .nil),⟨_,hT2,rfl,_,rfl⟩⟩
    .rw [ak_ hb] at z;refine(I.hok b v z).stay (fun c o hc y=>k2 c o ?_ ?_ y) (fun c y=> ?_) fun c ys y=> ?_
     .rcases hc with q|q
      .rw [q];exact fun y=>by rw [y,(hf e (by simp)).1] at z;cases z
      .exact fun y=>by rw [y,(hf e (by simp)).1] at q;cases q
     .rcases hc with q|q
      .rw [q];exact fun y=>by rw [y,(hf it (by simp)).1] at z;cases z
      .exact fun y=>by rw [y,(hf it (by simp)).1] at q;cases q
     .rw [ak_ (aw_ y nf)];exact y
     .rw [ak_ (aw_ y nf)];exact y
  .obtain⟨o,z,_⟩:=(show∃o,s.heap.get? b=some o/\True from by
    rcases AK.mp hb with q|q
    .rw [q];exact⟨_,he,trivial⟩
    .rw [Ah.mp q];obtain⟨o,y,_⟩:=hit;exact⟨o,y,trivial⟩)
   rw [ak_ (AL (AJ z))];exact(hf b hb).1
 done:=by
  intro X hP hw hK hc i pins s σ H E I hf st hg;subst hP hw hK;obtain⟨xs,hq,hx⟩:=hg;obtain⟨its,rv,p,hz⟩:=I.list hq;obtain⟨⟨old,he⟩,hit⟩:=st;have hl:=rv.length;obtain⟨f0,f1,f2,f3,f4,f5⟩:=hf it (by simp);exact wpAny_pyNext_enum_end (I.ok.hd hc) he hit p.isList (by simp;lia) fun h' eb=>⟨rfl,I.turned (t':=s.toks) (fun b o hb z=>eb b o hb z) f0 f1 f3 f4 f5⟩
 self:=fun _ _ _ _ _ st h=>let ⟨⟨_,z⟩,_⟩:=st;wpAny_pyIter_enum z h
section
variable {X:Cx}{elts:List Expr}{k:Nat}{tpos p pos:Pos}{e:Expr}{te:TE}
noncomputable def uY_ (K:W.Frag) (tl:TE):TI:=fun σ H R=>tl σ H fun x H1=>∃a,x= .ref a/\(∃xs,SqL K H1 a xs)/\R (Ite K a) H1
theorem i4_ (hg:Gl X "enumerate") (hm:X.mg "enumerate"=none) (hl:PE X e te) (he:starEach [e] X.env=[(false,eval e X.env)]:=by rfl):PI X (.Tuple elts k tpos) (.Call (.Name "enumerate" p) [e] [] pos) (uY_ X.K te):=by
 intro pins s σ H R I h;refine BQ (co_ I hg hm boot_enumerate ?_);refine B5 (thn ((aa_ hl ab_ he) _ pins s σ H (fun vs H1=>match vs with|[x]=>(∃a,x= .ref a/\(∃xs,SqL X.K H1 a xs)/\R (Ite X.K a) H1)|_=>False) I h) fun us s1 ⟨vs,H1,I1,r1,q1⟩=> ?_) he (by rfl)
 match vs,q1,r1 with
 |[x],q1,r1=>
 obtain⟨a,rfl,⟨xs,hq⟩,q⟩:=q1;obtain⟨u,rfl,ru⟩:=fx_ r1;obtain rfl:u=Value.ref a:=ru;obtain⟨its,rv,pl,hz⟩:=I1.list hq;refine call_enumerate_list pl.isList fun h' hen hit hsz hk=> ?_;refine wpAny_pyIter_enum hen ?_;refine⟨_,[_,_],_,_,H1,rfl,I1.kept (t':=s1.toks) hk,lV_ a _ _ (BY (BN _)),⟨⟨_,by simpa using hen⟩,hit⟩,fun b hb=> ?_,q⟩;have fr:∀b,s1.heap.objs.size<=b->iG_ X pins H1 b:=fun b z=>I1.fpOk z (I1.hok.fresh z);rcases AK.mp hb with z|z
 .rw [z];exact fr _ (Cf _)
 .rw [Ah.mp z];exact fr _ (A9 _)
end
theorem kz_ {K:W.Frag}{a:Addr}{xs:List V}{g:TG}{tb:TS}{D:Ends}{σ:St}{H:Hp} (Pv:Nat->St->Hp->Prop) (h0:Pv 0 σ H) (hl:∀i σ H,i<=xs.length->Pv i σ H->SqL K H a xs)
  (hs:∀i x σ H p,xs[i]? =some x->Pv i σ H->H p=none->g (.ref p) σ (upd H p (.tup [.int i,x])) fun σ2 H2=>tb {D with nx:=Pv (i+1),ct:=Pv (i+1),bk:=D.nx} σ2 H2) (hd:∀σ H,Pv xs.length σ H->D.nx σ H):
  ∃Wq:Nat->Nat->St->Hp->Prop,(∃m,Wq 0 m σ H)/\∀i m σ H,Wq i m σ H->
   ((Ite K a).stop i H/\D.nx σ H)\/((Ite K a).go i H/\∃N:St->Hp->Prop,(∀σ' H',N σ' H'->∃m',m'<m/\Wq (i+1) m' σ' H')/\∀x H',(Ite K a).yld i H x H'->g x σ H' fun σ2 H2=>tb {D with nx:=N,ct:=N,bk:=D.nx} σ2 H2):=by
 refine⟨fun i m σ H=>m=xs.length-i/\i<=xs.length/\Pv i σ H,⟨xs.length,by simp,AO _,h0⟩, ?_⟩;rintro i m σ H ⟨rfl,hi,p⟩;have q:=hl i σ H hi p;by_cases hlt:i<xs.length
 .refine .inr ⟨⟨xs,xs[i],q,by simp [hlt]⟩,Pv (i+1),fun σ' H' p'=>⟨xs.length-(i+1),by lia,rfl,hlt,p'⟩,fun x H' y=> ?_⟩;obtain⟨z,pp,e1,e2,e3,e4⟩:=y;subst e2 e4;exact hs i z σ H pp (e1 xs q) p e3
 .have e:i=xs.length:=by lia
  subst e;exact .inl ⟨⟨xs,q,A9 _⟩,hd σ H p⟩
noncomputable def uB_ (K:W.Frag):V->V->Hp->VK->Prop:=fun o i H Q=>∃(p:Addr) (xs:List V) (j:Nat) (k:Int) (v:V),o= .ref p/\i= .int k/\k=j/\SqL K H p xs/\xs[j]? =some v/\Q v H
theorem kv_ {X:Cx}:vl_ X (uB_ X.K):=by
 intro pins s σ H o i ov iv Q I r1 r2 h;obtain⟨p,xs,j,k,v,rfl,rfl,e,hq,hx,q⟩:=h;cases r1;obtain⟨t,rfl⟩:=r2;obtain⟨its,r,pl,hz⟩:=I.list hq;obtain⟨w,ew,rw'⟩:=r.get hx;have hl:=r.length;have hn:=fY_;have hj:j<xs.length:=(AD.mp hx).1;exact wpAny_getItem_list pl.isList (by lia) (by lia) (by rw [e,An];simpa using ew) ⟨v,H,I,rw',q⟩
end L2
namespace L2
open PySem PySem.Spec PyProof.Rows
section
variable {X:Cx}{e:Expr}{te:TE}{st:Expr}{ts:TO}{pos p2:Pos}
end
section
variable {X:Cx}{st:Stmt}{t:TS}
end
end L2
namespace L2
open PySem PySem.Spec PyProof.Rows
inductive D where
 |i (n:Int)|l (xs:List D)|t (xs:List D)
mutual
noncomputable def Is (H:Hp):D->V->Prop
 | .i n,v=>v= .int n
 | .l xs,v=>∃a vs,v= .ref a/\H a=some (.lst vs)/\Iss H xs vs
 | .t xs,v=>∃a vs,v= .ref a/\H a=some (.tup vs)/\Iss H xs vs
noncomputable def Iss (H:Hp):List D->List V->Prop
 |[],vs=>vs=[]
 |x::xs,vs=>∃u us,vs=u::us/\Is H x u/\Iss H xs us
end
theorem ex_ {H:Hp}{n:Int}:Is H (.i n) (.int n):=by unfold Is;rfl
theorem c8_ {H:Hp}{a:Addr}{xs:List D}{vs:List V} (h:H a=some (.lst vs)) (k:Iss H xs vs):Is H (.l xs) (.ref a):=by unfold Is;exact⟨a,vs,rfl,h,k⟩
theorem g1_ {H:Hp}{a:Addr}{xs:List D}{vs:List V} (h:H a=some (.tup vs)) (k:Iss H xs vs):Is H (.t xs) (.ref a):=by unfold Is;exact⟨a,vs,rfl,h,k⟩
theorem c4_ {H:Hp}{n:Int}{v:V} (h:Is H (.i n) v):v= .int n:=by unfold Is at h;exact h
theorem cn_ {H:Hp}{xs:List D}{v:V} (h:Is H (.l xs) v):∃a vs,v= .ref a/\H a=some (.lst vs)/\Iss H xs vs:=by unfold Is at h;exact h
theorem hj_ {H:Hp}{xs:List D}{v:V} (h:Is H (.t xs) v):∃a vs,v= .ref a/\H a=some (.tup vs)/\Iss H xs vs:=by unfold Is at h;exact h
theorem am_ {H:Hp}:Iss H [] []:=by unfold Iss;rfl
theorem ai_ {H:Hp}{x:D}{xs:List D}{u:V}{us:List V} (h:Is H x u) (k:Iss H xs us):Iss H (x::xs) (u::us):=by unfold Iss;exact⟨u,us,rfl,h,k⟩
theorem ay_ {H:Hp}{x:D}{xs:List D}{vs:List V} (h:Iss H (x::xs) vs):∃u us,vs=u::us/\Is H x u/\Iss H xs us:=by unfold Iss at h;exact h
theorem bm_ {H:Hp}{vs:List V} (h:Iss H [] vs):vs=[]:=by unfold Iss at h;exact h
mutual
theorem Is.mono {H H':Hp} (s:ao_ H H'):∀{d:D}{v:V},Is H d v->Is H' d v
 | .i _,_,h=>by rw [c4_ h];exact ex_
 | .l xs,_,h=>by
  obtain⟨a,vs,e,q,r⟩:=cn_ h;rw [e];exact c8_ (s _ _ q) (Iss.mono s r)
 | .t xs,_,h=>by
  obtain⟨a,vs,e,q,r⟩:=hj_ h;rw [e];exact g1_ (s _ _ q) (Iss.mono s r)
theorem Iss.mono {H H':Hp} (s:ao_ H H'):∀{xs:List D}{vs:List V},Iss H xs vs->Iss H' xs vs
 |[],_,h=>by rw [bm_ h];exact am_
 |x::xs,_,h=>by
  obtain⟨u,us,e,q,r⟩:=ay_ h;rw [e];exact ai_ (Is.mono s q) (Iss.mono s r)
end
theorem Iss.length {H:Hp}:∀{xs:List D}{vs:List V},Iss H xs vs->vs.length=xs.length
 |[],_,h=>by rw [bm_ h];rfl
 |x::xs,_,h=>by
  obtain⟨u,us,rfl,_,r⟩:=ay_ h;rw [AY,AY,r.length]
theorem Iss.get {H:Hp}:∀{xs:List D}{vs:List V}{j:Nat}{x:D},Iss H xs vs->xs[j]? =some x->∃v,vs[j]? =some v/\Is H x v
 |[],_,_,_,_,e=>by simp at e
 |x::xs,_,0,_,h,e=>by
  obtain⟨u,us,rfl,q,_⟩:=ay_ h;simp at e;subst e;exact⟨u,rfl,q⟩
 |x::xs,_,j+1,_,h,e=>by
  obtain⟨u,us,rfl,_,r⟩:=ay_ h;obtain⟨v,e',k⟩:=r.get (j:=j) (by simpa using e);exact⟨v,by simpa using e',k⟩
theorem Iss.of_get {H:Hp}{xs:List D}{vs:List V}{j:Nat}{v:V} (h:Iss H xs vs) (e:vs[j]? =some v):∃x,xs[j]? =some x/\Is H x v:=by
 have hj:j<vs.length:=(AD.mp e).1;have hj':j<xs.length:=by rw [<-h.length];exact hj
 obtain⟨u,e1,k⟩:=h.get (A4 hj');rw [e] at e1;cases e1;exact⟨_,A4 hj',k⟩
theorem Iss.append {H:Hp}:∀{xs ys:List D}{vs ws:List V},Iss H xs vs->Iss H ys ws->Iss H (xs++ys) (vs++ws)
 |[],_,_,_,h,k=>by rw [bm_ h];exact k
 |x::xs,_,_,_,h,k=>by
  obtain⟨u,us,rfl,q,r⟩:=ay_ h;exact ai_ q (r.append k)
theorem Iss.take {H:Hp}:∀{xs:List D}{vs:List V} (n:Nat),Iss H xs vs->Iss H (xs.take n) (vs.take n)
 |[],_,n,h=>by rw [bm_ h];simp;exact am_
 |x::xs,_,0,h=>by simp;exact am_
 |x::xs,_,n+1,h=>by
  obtain⟨u,us,rfl,q,r⟩:=ay_ h;exact ai_ q (r.take n)
theorem Iss.drop {H:Hp}:∀{xs:List D}{vs:List V} (n:Nat),Iss H xs vs->Iss H (xs.drop n) (vs.drop n)
 |[],_,n,h=>by rw [bm_ h];simp;exact am_
 |x::xs,_,0,h=>h
 |x::xs,_,n+1,h=>by
  obtain⟨u,us,rfl,q,r⟩:=ay_ h;exact r.drop n
theorem Iss.rep {H:Hp}{x:D}{v:V} (h:Is H x v):∀n:Nat,Iss H (List.replicate n x) (List.replicate n v)
 |0=>am_
 |n+1=>by rw [BD,BD];exact ai_ h (Iss.rep h n)
mutual
noncomputable def Kin:D->D->Prop
 | .i _, .i _=>True
 | .l xs, .l ys=>nQ_ xs ys
 | .t xs, .t ys=>nQ_ xs ys
 |_,_=>False
noncomputable def nQ_:List D->List D->Prop
 |x::xs,y::ys=>Kin x y/\nQ_ xs ys
 |_,_=>True
end
mutual
noncomputable def eqD:D->D->Bool
 | .i a, .i b=>decide (a=b)
 | .l xs, .l ys=>kC_ xs ys
 | .t xs, .t ys=>kC_ xs ys
 |_,_=>false
noncomputable def kC_:List D->List D->Bool
 |[],[]=>true
 |x::xs,y::ys=>eqD x y&&kC_ xs ys
 |_,_=>false
end
mutual
noncomputable def dep:D->Nat
 | .i _=>0
 | .l xs=>nY_ xs+1
 | .t xs=>nY_ xs+1
noncomputable def nY_:List D->Nat
 |[]=>0
 |x::xs=>max (dep x) (nY_ xs)
end
mutual
theorem rk_:∀{a b:D},eqD a b=true↔a=b
 | .i a, .i b=>by simp [eqD]
 | .i _, .l _=>by simp [eqD]
 | .i _, .t _=>by simp [eqD]
 | .l _, .i _=>by simp [eqD]
 | .l xs, .l ys=>by simp [eqD,eG_ (xs:=xs) (ys:=ys)]
 | .l _, .t _=>by simp [eqD]
 | .t _, .i _=>by simp [eqD]
 | .t _, .l _=>by simp [eqD]
 | .t xs, .t ys=>by simp [eqD,eG_ (xs:=xs) (ys:=ys)]
theorem eG_:∀{xs ys:List D},kC_ xs ys=true↔xs=ys
 |[],[]=>by simp [kC_]
 |[],_::_=>by simp [kC_]
 |_::_,[]=>by simp [kC_]
 |x::xs,y::ys=>by simp [kC_,rk_ (a:=x) (b:=y),eG_ (xs:=xs) (ys:=ys)]
end
theorem g7_:∀{xs ys:List D},xs.length=ys.length->kC_ xs ys=(List.range xs.length).all fun j=>eqD (xs.getD j (.i 0)) (ys.getD j (.i 0))
 |[],[],_=>by simp [kC_]
 |x::xs,y::ys,h=>by
  have ih:=g7_ (xs:=xs) (ys:=ys) (by simpa using h);rw [kC_,ih,AY,List.range_succ_eq_map];simp [List.all_map,Function.comp_def]
theorem kB_ {xs ys:List D} (h:xs.length≠ys.length):kC_ xs ys=false:=by
 cases e:kC_ xs ys with
 |false=>rfl
 |true=>exact absurd (Bc List.length (eG_.mp e)) h
mutual
theorem Is.eqr {K:W.Frag}{H:Hp}:∀{d e:D}{v w:V}{n:Nat},dep d<=n->Kin d e->Is H d v->Is H e w->EqR K H n v w (eqD d e)
 | .i a, .i b,_,_,n,_,_,h,k=>by
  rw [c4_ h,c4_ k,eqD];exact EqR.int n a b
 | .l xs, .l ys,_,_,0,hn,_,_,_=>absurd hn (by unfold dep;lia)
 | .l xs, .l ys,_,_,n+1,hn,hk,h,k=>by
  obtain⟨a,vs,rfl,ha,ra⟩:=cn_ h;obtain⟨b,ws,rfl,hb,rb⟩:=cn_ k;have hn':nY_ xs<=n:=by unfold dep at hn;lia
  have hk':nQ_ xs ys:=by unfold Kin at hk;exact hk
  have l1:=ra.length;have l2:=rb.length;rw [eqD];by_cases hl:xs.length=ys.length
  .rw [g7_ hl,<-l1];exact EqR.lists _ (SqL.of ha) (SqL.of hb) (by lia) fun j x y hx hy=>Iss.eqr hn' hk' ra rb hx hy
  .rw [kB_ hl];exact EqR.lens (SqL.of ha) (SqL.of hb) (by lia)
 | .t xs, .t ys,_,_,0,hn,_,_,_=>absurd hn (by unfold dep;lia)
 | .t xs, .t ys,_,_,n+1,hn,hk,h,k=>by
  obtain⟨a,vs,rfl,ha,ra⟩:=hj_ h;obtain⟨b,ws,rfl,hb,rb⟩:=hj_ k;have hn':nY_ xs<=n:=by unfold dep at hn;lia
  have hk':nQ_ xs ys:=by unfold Kin at hk;exact hk
  have l1:=ra.length;have l2:=rb.length;rw [eqD];have q:=EqR.tuples (d:=n) (fun j=>eqD (xs.getD j (.i 0)) (ys.getD j (.i 0))) (SqT.of (K:=K) ha) (SqT.of (K:=K) hb) fun j x y hx hy=>Iss.eqr hn' hk' ra rb hx hy;by_cases hl:xs.length=ys.length
  .rw [g7_ hl];rw [l1,l2,<-hl,Nat.min_self] at q;simpa using q
  .rw [kB_ hl];have z:(vs.length==ws.length)=false:=by rw [l1,l2];simpa using hl
   rw [z,D'] at q;exact q
 | .i _, .l _,_,_,_,_,hk,_,_=>by unfold Kin at hk;exact hk.elim
 | .i _, .t _,_,_,_,_,hk,_,_=>by unfold Kin at hk;exact hk.elim
 | .l _, .i _,_,_,_,_,hk,_,_=>by unfold Kin at hk;exact hk.elim
 | .l _, .t _,_,_,_,_,hk,_,_=>by unfold Kin at hk;exact hk.elim
 | .t _, .i _,_,_,_,_,hk,_,_=>by unfold Kin at hk;exact hk.elim
 | .t _, .l _,_,_,_,_,hk,_,_=>by unfold Kin at hk;exact hk.elim
theorem Iss.eqr {K:W.Frag}{H:Hp}:∀{xs ys:List D}{vs ws:List V}{n:Nat},nY_ xs<=n->nQ_ xs ys->Iss H xs vs->Iss H ys ws->∀{j:Nat}{x y:V},vs[j]? =some x->ws[j]? =some y->
  EqR K H n x y (eqD (xs.getD j (.i 0)) (ys.getD j (.i 0)))
 |[],_,_,_,_,_,_,h,_,_,_,_,e,_=>by rw [bm_ h] at e;simp at e
 |_::_,[],_,_,_,_,_,_,k,_,_,_,_,e=>by rw [bm_ k] at e;simp at e
 |x::xs,y::ys,_,_,n,hn,hk,h,k,0,u,w,e1,e2=>by
  obtain⟨u',us,rfl,q,_⟩:=ay_ h;obtain⟨w',ws,rfl,q',_⟩:=ay_ k;simp at e1 e2;subst e1 e2;have hk':Kin x y/\nQ_ xs ys:=by unfold nQ_ at hk;exact hk
  have hd:dep x<=n:=by unfold nY_ at hn;lia
  exact Is.eqr (d:=x) (e:=y) hd hk'.1 q q'
 |x::xs,y::ys,_,_,n,hn,hk,h,k,j+1,u,w,e1,e2=>by
  obtain⟨u',us,rfl,_,r⟩:=ay_ h;obtain⟨w',ws,rfl,_,r'⟩:=ay_ k;have hk':Kin x y/\nQ_ xs ys:=by unfold nQ_ at hk;exact hk
  have hd:nY_ xs<=n:=by unfold nY_ at hn;lia
  have:=Iss.eqr (K:=K) hd hk'.2 r r' (j:=j) (by simpa using e1) (by simpa using e2);simpa using this
end
noncomputable abbrev Pt:=Int×Int
noncomputable def pt (p:Pt):D:= .t [.i p.1, .i p.2]
noncomputable def pts (ps:List Pt):D:= .l (ps.map pt)
theorem uL_ {H:Hp}{p:Pt}{v:V} (h:Is H (pt p) v):∃a,v= .ref a/\H a=some (.tup [.int p.1, .int p.2]):=by
 obtain⟨a,vs,e,q,r⟩:=hj_ h;obtain⟨u,us,rfl,h1,r⟩:=ay_ r;obtain⟨u',us',rfl,h2,r⟩:=ay_ r;rw [bm_ r,c4_ h1,c4_ h2] at q;exact⟨a,e,q⟩
theorem uT_ {H:Hp}{p:Pt}{a:Addr} (h:H a=some (.tup [.int p.1, .int p.2])):Is H (pt p) (.ref a):=g1_ h (ai_ ex_ (ai_ ex_ am_))
theorem sK_ {H:Hp}{ps:List Pt}{v:V} (h:Is H (pts ps) v):∃a vs,v= .ref a/\H a=some (.lst vs)/\Iss H (ps.map pt) vs:=cn_ h
noncomputable def hid (H:Hp) (a:Addr):Hp:=fun b=>if b=a then none else H b
theorem ku_ {H:Hp}{a b:Addr} (h:b≠a):hid H a b=H b:=by unfold hid;rw [A3 h]
theorem oV_ {H:Hp}{a:Addr}:hid H a a=none:=by unfold hid;rw [A6 rfl]
theorem kt_ {H:Hp}{a:Addr}:ao_ (hid H a) H:=fun b o e=>by
 unfold hid at e;split at e
 .cases e
 .exact e
theorem c6_ {H H':Hp}{a:Addr} (s:ao_ H H'):ao_ (hid H a) (hid H' a):=fun b o e=>by
 unfold hid at e⊢;split at e
 .cases e
 .rename_i h;rw [A3 h];exact s b o e
theorem ra_ {H:Hp}{a:Addr}{o:HO}:hid (upd H a o) a=hid H a:=by
 funext b
 unfold hid;split
 .rfl
 .rename_i h;exact ak_ h
noncomputable def rC_ (H:Hp) (a:Addr) (xs:List D):Prop:=∃vs,H a=some (.lst vs)/\Iss (hid H a) xs vs
theorem rC_.start {H:Hp}{a:Addr}:rC_ (upd H a (.lst [])) a []:=⟨[],ag_,am_⟩
theorem rC_.is {H:Hp}{a:Addr}{xs:List D} (g:rC_ H a xs):Is H (.l xs) (.ref a):=let ⟨_,e,h⟩:=g;c8_ e (h.mono kt_)
theorem oZ_ {H:Hp}{a:Addr}{xs:List D}{x:D}{vs:List V}{v:V} (h:Iss (hid H a) xs vs) (k:Is (hid H a) x v):rC_ (upd H a (.lst (vs++[v]))) a (xs++[x]):=
 ⟨_,ag_,by rw [ra_];exact h.append (ai_ k am_)⟩
end L2
namespace L2
open PySem PySem.Spec PyProof.Rows
section
variable {X:Cx}{es:List Expr}{t:TA}{pos:Pos}
noncomputable def New (H:Hp) (o:HO) (Q:VK):Prop:=∀p H2,H p=none->ao_ H H2->H2 p=some o->Q (.ref p) H2
theorem New.at {H:Hp}{o:HO}{Q:VK} (q:New H o Q) {p:Addr} (np:H p=none):Q (.ref p) (upd H p o):=q p _ np (ao_.new np) ag_
noncomputable def tQ_ (t:TA):TE:=fun σ H Q=>t σ H fun xs H1=>xs.length<=sizeLine/\New H1 (.tup xs) Q
noncomputable def tZ_ (t:TA):TE:=fun σ H Q=>t σ H fun xs H1=>xs.length<=sizeLine/\New H1 (.lst xs) Q
theorem aT_ {x1} (h:PA X es t):PE X (.Tuple es x1 pos) (tQ_ t):=by
 intro pins s σ H Q I hq;refine wpAny_Tuple_spliced (thn (h pos pins s σ H _ I hq) fun us s1 ⟨xs,H1,I1,r,z,q⟩=>⟨by rw [<-r.length];exact z, ?_⟩);refine⟨.ref s1.heap.objs.size,upd H1 s1.heap.objs.size (.tup xs),I1.laid (t':=s1.toks) (fun b u e=>A7 _ e) (A9 _) ?_,rfl,q.at (I1.hok.fresh (A9 _))⟩;exact⟨z,us,r,⟨_,AH _ rfl,rfl,_,rfl⟩⟩
theorem au_ (h:PA X es t):PE X (.List es pos) (tZ_ t):=by
 intro pins s σ H Q I hq;refine wpAny_List_spliced (thn (h pos pins s σ H _ I hq) fun us s1 ⟨xs,H1,I1,r,z,q⟩=>⟨by rw [<-r.length];exact z, ?_⟩);refine⟨.ref s1.heap.objs.size,upd H1 s1.heap.objs.size (.lst xs),I1.laid (t':=s1.toks) (fun b u e=>A7 _ e) (A9 _) ?_,rfl,q.at (I1.hok.fresh (A9 _))⟩;exact⟨z,us,0,r,AH _ rfl⟩
theorem OpR.imp {f:Value->Value->Sem Value}{r r':R2} (h:OpR X f r) (k:∀x y H Q,r' x y H Q->r x y H Q):OpR X f r':=fun pins s σ H x y v u Q I rx ry q=>h pins s σ H x y v u Q I rx ry (k _ _ _ _ q)
theorem cc_.imp {f:Value}{r r':List V->Hp->VK->Prop} (h:cc_ X f r) (k:∀xs H Q,r' xs H Q->r xs H Q):cc_ X f r':=fun pins s σ H xs us Q I rs q=>h pins s σ H xs us Q I rs (k _ _ _ q)
theorem e8_:OpR X (binaryOp .Add) (fun x y H Q=>∃xs zs,Is H (.l xs) x/\Is H (.l zs) y/\xs.length+zs.length<=sizeLine/\∀p H2,H p=none->ao_ H H2->Is H2 (.l (xs++zs)) (.ref p)->Q (.ref p) H2):=
 pv_.imp fun x y H Q ⟨xs,zs,hx,hz,hl,q⟩=>by
  obtain⟨a,vs,rfl,ha,ra⟩:=cn_ hx;obtain⟨b,ws,rfl,hb,rb⟩:=cn_ hz;exact⟨a,b,vs,ws,rfl,rfl,ha,hb,by rw [ra.length,rb.length];exact hl,fun p np=>q p _ np (ao_.new np) (c8_ ag_ ((ra.append rb).mono (ao_.new np)))⟩
theorem mo_ {α:Type}{x:α}:∀n:Nat,(List.replicate n [x]).flatten=List.replicate n x
 |0=>rfl
 |n+1=>by rw [BD,Ck,mo_ n,BD];rfl
theorem e6_:OpR X (binaryOp .Mult) (fun x y H Q=>∃d n,Is H (.l [d]) x/\y= .int n/\-(2^63)<=n/\n<2^63/\n.toNat<=sizeLine/\∀p H2,H p=none->ao_ H H2->Is H2 (.l (List.replicate n.toNat d)) (.ref p)->Q (.ref p) H2):=
 sF_.imp fun x y H Q ⟨d,n,hx,ey,h1,h2,hl,q⟩=>by
  obtain⟨a,vs,rfl,ha,ra⟩:=cn_ hx;obtain⟨u,us,rfl,hu,ru⟩:=ay_ ra;rw [bm_ ru] at ha;refine⟨a,n,_,rfl,ey,ha,h1,h2,by rw [BU,Nat.one_mul];exact hl,fun p np=>q p _ np (ao_.new np) ?_⟩;rw [mo_];exact c8_ ag_ ((Iss.rep hu _).mono (ao_.new np))
theorem dh_:cc_ X (.type "tuple") (fun vs H Q=>∃v xs,vs=[v]/\Is H (.l xs) v/\∀p H2,H p=none->ao_ H H2->Is H2 (.t xs) (.ref p)->Q (.ref p) H2):=
 hc_.imp fun vs H Q ⟨v,xs,ev,hx,q⟩=>by
  subst ev;obtain⟨a,ws,rfl,ha,ra⟩:=cn_ hx;exact⟨a,ws,rfl, .inl ⟨SqL.of ha,fun p np=>q p _ np (ao_.new np) (g1_ ag_ (ra.mono (ao_.new np)))⟩⟩
theorem tJ_ {α:Type}{xs:List α}{i:Int}{j:Nat}{x:α} (e:i=j) (h:xs[j]? =some x):atI xs i=some x:=by rw [e];exact nK_ h
theorem Iss.atI {H:Hp}{xs:List D}{vs:List V}{i:Int}{x:D} (h:Iss H xs vs) (e:L2.atI xs i=some x):∃u,L2.atI vs i=some u/\Is H x u:=by
 unfold L2.atI at e⊢;rw [h.length];cases q:ixN xs.length i with
 |none=>rw [q] at e;cases e
 |some j=>
  rw [q] at e;obtain⟨u,e1,k⟩:=h.get (j:=j) e;exact⟨u,e1,k⟩
theorem aN_:IxR X (fun x y H Q=>∃xs i d,Is H (.t xs) x/\y= .int i/\atI xs i=some d/\∀u,Is H d u->Q u H):=by
 intro value slice pins s σ H x y v u Q I rx ry h hs;obtain⟨xs,i,d,hx,ey,e,q⟩:=h;obtain⟨a,vs,rfl,ha,ra⟩:=hj_ hx;obtain⟨z,ez,hz⟩:=ra.atI e;exact s2_ value slice pins s σ H (.ref a) y v u Q I rx ry ⟨a,vs,i,z,rfl,ey,SqT.of ha,ez,q z hz⟩ hs
theorem nF_:cc_ X (.builtin "len") (fun vs H Q=>∃v xs,vs=[v]/\(Is H (.l xs) v\/Is H (.t xs) v)/\Q (.int xs.length) H):=
 b6_.imp fun vs H Q ⟨v,xs,ev,hx,q⟩=>by
  subst ev;rcases hx with hx|hx
  .obtain⟨a,ws,rfl,ha,ra⟩:=cn_ hx;exact⟨a,ws,rfl, .inl (SqL.of ha),by rw [ra.length];exact q⟩
  .obtain⟨a,ws,rfl,ha,ra⟩:=hj_ hx;exact⟨a,ws,rfl, .inr (SqT.of ha),by rw [ra.length];exact q⟩
end
end L2
namespace L2
open PySem PySem.Spec PyProof.Rows
section
variable {P:Program}{w:World}{H:Hp}{h:Heap}{a:Addr}{o:HO}
theorem aG_.obj (x:aG_ P w H h a o):∃ob,h.get? a=some ob:=by
 cases o with
 |lst xs=>obtain⟨_,_,_,_,e⟩:=x;exact⟨_,e⟩
 |tup xs=>obtain⟨_,_,_,_,e,_⟩:=x;exact⟨_,e⟩
 |dK kvs=>obtain⟨_,_,_,_,_,_,_,e,_⟩:=x;exact⟨_,e⟩
 |dT kvs=>obtain⟨_,_,_,_,_,_,_,e,_⟩:=x;exact⟨_,e⟩
 |set S n=>obtain⟨_,_,_,_,e,_⟩:=x;exact⟨_,e⟩
 |ins C dx fs=>obtain⟨_,_,_,e,_⟩:=x;exact⟨_,e⟩
 |own y=>exact x
 |xd fs=>obtain⟨_,⟨_,_,_,e,_⟩,_⟩:=x;exact⟨_,e⟩
 |rng lo hi=>obtain⟨_,_,_,e⟩:=x;exact⟨_,e⟩
 |frz ob u=>exact⟨_,x.1⟩
 |tbl ps=>exact⟨_,x⟩
 |met f y=>exact⟨_,x⟩
 |ext φ=>exact x.2.1
end
noncomputable def CX1 (P:Program) (w:World):CXT:=fun outer H s E e s'=>
 ∃(a C:Addr) (H':Hp) (B:Heap) (a0:Value),e= .ref a/\E (.ref C) none H'/\s'.os=s.os/\AllBare s'.gens/\Un (frs outer) [] H H' s.heap s'.heap/\HOk P w H' B/\H' a=none/\
  Heap.FlyingW B outer a (.ref C) a0 s'.heap/\(∀b o,s.heap.get? b=some o->H b=none->b∉frs outer->B.get? b=some o)/\(∀b o,s.heap.get? b=some o->b∉frs outer->∃o',B.get? b=some o')
noncomputable def nO_ (X:Cx) (E:XK):Prop:=∀(pins:List (Addr×Obj)) (σ:St) (H:Hp) (s:Shared) (h':Heap) (e C:Addr) (args:List Value),Inv X pins σ H s->Heap.MadeExcOf s.heap h' e (.ref C) args->E (.ref C) none H->X.xe (.ref e) {s with heap:=h'}
theorem sC_ {X:Cx}{P:Program}{w:World}:er_ (CX1 P w) X E0:=fun _ _ _ _ _ _ _ ⟨_,_,_,_,_,_,z,_⟩=>z.elim
section
variable {X:Cx}{pins:List (Addr×Obj)}{σ:St}{H H':Hp}{s s':Shared}{B h':Heap}{l:List Env}
theorem lS_ (u:Un (frs l) [] H H' s.heap s'.heap) (fl:s'.heap.FunFrames B l) (kB:∀b o,s.heap.get? b=some o->H b=none->b∉frs l->B.get? b=some o) (tB:∀b o,s.heap.get? b=some o->b∉frs l->∃o',B.get? b=some o')
  (st:B.StaysIn h') (up:s'.heap.UpToSlots h'):Un (frs l) [] H H' s.heap h' where
 keep:=fun b o e n hb _=>st b o (kB b o e n hb)
 slot:=fun b o e n hb hx=>by
  obtain⟨sl,e1⟩:=u.slot b o e n hb hx;obtain⟨_,o',e2,d⟩:=fl.mem hb;rw [e1] at e2;cases e2;obtain⟨sl',e3⟩:=up b _ e1 d;exact⟨sl',e3⟩
 free:=u.free
 there:=fun b o e hx=>by
  by_cases hb:b∈frs l
  .obtain⟨_,o',e2,d⟩:=fl.mem hb;obtain⟨sl',e3⟩:=up b _ e2 d;exact⟨_,e3⟩
  .obtain⟨o',e2⟩:=tB b o e hb;exact⟨o',st b o' e2⟩
 tups:=u.tups
 frzs:=u.frzs
 tbls:=u.tbls
theorem Inv.nstk (I:Inv X pins σ H s) {b:Addr}{o:Obj} (e:X.s₀.heap.get? b=some o) (hb:b∉X.fs):b∉frs X.stack:=fun z=>by
 rcases AK.mp (I.stkSub b z) with q|q
 .exact absurd q (AL (Af (AJ e) I.ok.above))
 .exact hb q
theorem pH_ {env:Env}{b:Addr} (he:env∈l) (hf:env.frame=some b):b∈frs l:=D9.mpr ⟨env,he,hf⟩
theorem Inv.hidden (I:Inv X pins σ H s):HOk X.prog X.w H (W.hideAll s.heap (frs X.stack)):=fun a o e=>by
 refine(I.hok a o e).stay (fun b u hb q=>W.hideAll_get _ q fun z=> ?_) (fun _ q=>q) fun _ _ q=>q;have n:=I.stkFree b z;rcases hb with rfl|hb
 .rw [n] at e;cases e
 .rw [n] at hb;cases hb
structure Fnc (X:Cx):Prop where
 ex:X.ex=[]
 stk:X.stack=X.env::X.outer
 fr:X.env.frame=some X.env.locals
theorem CX1.mk {E:XK}{e C:Addr}{a0:Value} (F:Fnc X) (I:Inv X pins σ H s) (os:s'.os=s.os) (bare:AllBare s'.gens) (u:Un (frs X.stack) [] H H' s.heap s'.heap) (hB:HOk X.prog X.w H' B) (hE:E (.ref C) none H') (hn:H' e=none)
  (fl:Heap.FlyingW B X.outer e (.ref C) a0 s'.heap) (kB:∀b o,s.heap.get? b=some o->H b=none->b∉frs X.stack->B.get? b=some o) (tB:∀b o,s.heap.get? b=some o->b∉frs X.stack->∃o',B.get? b=some o'):
  CX1 X.prog X.w X.outer X.H₀ X.s₀ E (.ref e) s':=by
 have J:Inv X pins σ H' s':=I.call' (ch:=[]) os u (hB.kept fl.1) bare fun _ z=>absurd z (by simp);have ub:Un X.fs X.ex X.H₀ H' X.s₀.heap s'.heap:=J.base;have nx:∀b:Addr,b∉X.ex:=fun b=>by rw [F.ex];simp
 rw [F.ex] at ub;refine⟨e,C,H',B,a0,rfl,hE,J.os,J.bare,ub,hB,hn,fl,fun b o q n hb=> ?_,fun b o q hb=> ?_⟩
 .exact kB b o (I.base.keep b o q n hb (nx b)) (I.base.free b o q n (nx b)) (I.nstk q hb)
 .obtain⟨o',q'⟩:=I.base.there b o q (nx b);exact tB b o' q' (I.nstk q hb)
theorem mr_ {CX:CXT}{E:XK} (F:Fnc X) (hcx:CX=CX1 X.prog X.w) (hxe:X.xe=fun e s'=>wpAny (model X.prog X.w) X.A (leaving X.env e) (fun _ s''=>CX X.outer X.H₀ X.s₀ E e s'') (fun e' s''=>CX X.outer X.H₀ X.s₀ E e' s'') s'):nO_ X E:=by
 intro pins σ H s h' e C args I hx hE;subst hcx;rw [hxe];have fb:=I.stack;have hl:s.heap.FunFrames (W.hideAll s.heap (frs X.stack)) (X.env::X.outer):=by
  rw [F.stk] at fb⊢;exact W.funFrames_hide fb fun env he b hb=>pH_ he hb
 refine wpAny_leaves_madeW (base:=W.hideAll s.heap (frs X.stack)) (by rw [I.ok.frames,F.stk]) F.fr (fun b o q=>W.of_hideAll _ q) hl hx fun h'' t fl _ _ up=> ?_;have kB:∀b o,s.heap.get? b=some o->b∉frs X.stack->(W.hideAll s.heap (frs X.stack)).get? b=some o:=fun b o q n=>W.hideAll_get _ q n;have hn:H e=none:=by
  cases q:H e with
  |none=>rfl
  |some o=>
   obtain⟨ob,z⟩:=(I.hok e o q).obj;rw [hx.new] at z;cases z
 have u0:Un (frs X.stack) [] H H s.heap h':=Un.kept hx.keeps;have fl':h'.FunFrames (W.hideAll s.heap (frs X.stack)) X.stack:=by
  rw [F.stk];rw [F.stk] at hl;exact hl.of_keeps fun b o q _=>⟨o,hx.keeps b o q,rfl⟩
 have u:Un (frs X.stack) [] H H s.heap h'':=lS_ (s':={s with heap:=h'}) u0 fl' (fun b o q _ n=>kB b o q n) (fun b o q n=>⟨o,kB b o q n⟩) fl.1 up;exact CX1.mk (s':={s with heap:=h''}) F I rfl I.bare u I.hidden hE hn fl (fun b o q _ n=>kB b o q n) (fun b o q n=>⟨o,kB b o q n⟩)
theorem mF_ {CX:CXT}{E:XK} (F:Fnc X) (hcx:CX=CX1 X.prog X.w) (hxe:X.xe=fun e s'=>wpAny (model X.prog X.w) X.A (leaving X.env e) (fun _ s''=>CX X.outer X.H₀ X.s₀ E e s'') (fun e' s''=>CX X.outer X.H₀ X.s₀ E e' s'') s'):er_ (CX1 X.prog X.w) X E:=by
 intro pins σ H s e s' I hc;subst hcx;rw [hxe];obtain⟨a,C,H',B,a0,rfl,hE,os,bare,u,hB,hn,fl,kB,tB⟩:=hc;refine wpAny_leaves_onW (by rw [I.ok.frames,F.stk]) F.fr (by rw [<-F.stk];exact fl) fun h'' fl'' up=> ?_;exact CX1.mk (s':={s' with heap:=h''}) F I os bare (lS_ u fl.2.2.1 kB tB fl''.1 up) hB hE hn fl'' kB tB
end
theorem Fun.okx {P:Program}{w:World}{K:W.Frag}{mg:Str->Option Value}{base:Heap}{x qual:Str}{st:Stmt}{f:Addr}{fd:FuncData}{N ps:List Str}{k:Nat}{sp:Sp} (F:Fun K x qual st f fd) (S:FnScope N ps (af_ st)) (len:∀vs H Q E,sp vs H Q E->vs.length=ps.length)
  (hbody:∀(cdv:Value) (A:Around) (outer:List Env) (s:Shared) (H:Hp) (vs:List V) (Q:VK) (E:XK),Room k (A.deeper (envOfC qual (af_ st) s.heap.objs.size f cdv))->sp vs H Q E->
   nO_ (lC_ (CX1 P w) P w K mg base N qual (af_ st) f cdv A outer s H E) E->er_ (CX1 P w) (lC_ (CX1 P w) P w K mg base N qual (af_ st) f cdv A outer s H E) E->
   ∃t,PSs (lC_ (CX1 P w) P w K mg base N qual (af_ st) f cdv A outer s H E) (bH_ st) t/\t {nx:=fun _ H'=>Q .non H',rt:=Q} (start N vs) H):FnOk P w K mg base (CX1 P w) (k+1) f fd ps sp:=by
 obtain⟨oc,od,kV,doc,pm,an,cdv,ct,osl,rfl,lk,hcd⟩:=F.ex;refine ta_ lk hcd S len fun A outer s H vs Q E hr hsp=> ?_;have Fn:Fnc (lC_ (CX1 P w) P w K mg base N qual (af_ st) f cdv A outer s H E):=⟨rfl,rfl,rfl⟩;exact hbody cdv A outer s H vs Q E hr hsp (mr_ Fn rfl rfl) (mF_ Fn rfl rfl)
theorem Fun.oky {P:Program}{w:World}{K:W.Frag}{mg:Str->Option Value}{base:Heap}{x qual:Str}{st:Stmt}{f:Addr}{fd:FuncData}{N ps:List Str}{k:Nat}{sp:Sp} (F:Fun K x qual st f fd) (S:FnScope N ps (af_ st)) (len:∀vs H Q E,sp vs H Q E->vs.length=ps.length)
  (hbody:∀(cdv:Value) (A:Around) (outer:List Env) (s:Shared) (H:Hp) (vs:List V) (Q:VK) (E:XK),Room k (A.deeper (envOfC qual (af_ st) s.heap.objs.size f cdv))->sp vs H Q E->
   Fnc (lC_ CX0 P w K mg base N qual (af_ st) f cdv A outer s H E).nox->
   ∃t,PSs (lC_ CX0 P w K mg base N qual (af_ st) f cdv A outer s H E).nox (bH_ st) t/\t {nx:=fun _ H'=>Q .non H',rt:=Q} (start N vs) H):FnOk P w K mg base CX0 (k+1) f fd ps sp:=
 F.ok S len fun cdv A outer s H vs Q E hr hsp=>hbody cdv A outer s H vs Q E hr hsp ⟨rfl,rfl,rfl⟩
section
variable {X:Cx}{pos np cpos:Pos}{x:Str}{C:Addr}{E:XK}{e:Expr}{es:List Expr}{t:TA}
noncomputable abbrev bmV:List Value:=[.type "ValueError", .type "Exception", .type "BaseException", .type "object"]
theorem ri_ {K:W.Frag}{h:Heap}{bmB:List Value}{newId:String} (Y:K.In h) (q:W.excIn K C bmB newId=true):
  ∃bm N nm qn bs hdct sn sub ab col dd k0 k1 k2 k3 k5 mN,h.get? C=some (excClassObj nm qn C N bs bm hdct sn sub ab col dd k0 k1 k2 k3 k5 newId)/\h.Ns N mN/\mN "__init__"=none/\OwnTail h bmB bm:=by
 unfold W.excIn at q;split at q
 case h_2=>cases q
 rename_i dd cd sl ho;split at q
 case h_2=>cases q
 rename_i C' bm k0 k1 k2 k3 n k5 hm hs;rw [AM,AM,AM,AM,AM,Cq,Cq,Cq,Bool.not_eq_true'] at q;obtain⟨⟨⟨⟨⟨e1,e2⟩,e3⟩,e4⟩,e5⟩,e6⟩:=q;subst e1 e2;rcases cd with⟨nm,bs,mro,ns,qn,hd,sn,sub,ab,col,del⟩;dsimp only at hm e3 e5 e6;subst hm e3;have hsl:sl= #[k0,k1,k2,k3,some (.builtin n),k5]:=by
  rcases sl with⟨l⟩;have hs':l=_:=hs;rw [hs']
 subst hsl;exact⟨bm,ns,nm,qn,bs,hd,sn,sub,ab,col,dd,k0,k1,k2,k3,k5,_,Y _ _ ho, .of_isNs (W.isNs_of_in Y e5),W.nsMap_none_of_in Y e5 e6,W.tail_of_in Y e4⟩
noncomputable def pj_ (C:Addr) (E:XK) (t:TA):TS:=fun _ σ H=>t σ H fun vs H1=>vs.length<=sizeLine/\E (.ref C) none H1
theorem or_ (hR:nO_ X E) (hg:Gl X x) (hm:X.mg x=some (.ref C)) (hC:W.excIn X.K C bmV "ValueError.__new__"=true) (hc:X.calm=true) (ha:PA X (e::es) t) (hdb:(x==("__debug__":Str))=false:=by decide)
  (he:starEach (e::es) X.env=(false,eval e X.env)::starEach es X.env:=by rfl) (hpl:(backTo cpos (starEach es X.env)).any (·.1)=false:=by rfl):
  PS X (.Raise (some (.Call (.Name x np) (e::es) [] cpos)) none pos) (pj_ C E t):=by
 intro pins s σ H D I h;have hcl:=I.ok.mod.kin;obtain⟨bm',N',nm',qn',bs',hdct',sn',sub',ab',col',dd',k0',k1',k2',k3',k5',mN',hCb,hNb,hnib,TLb⟩:=ri_ hcl hC;refine wpAny_Raise_call_subT (q:=qn') (N:=N') (bs:=bs') (bm:=bm') (hdct:=hdct') (sn:=sn') (sub:=sub') (ab:=ab') (col:=col') (dd:=dd') (k0:=k0') (k1:=k1') (k2:=k2') (k3:=k3') (k5:=k5') (nm:=nm') (mN:=mN') PySem.F.excBase_ValueError
  (TLb.hasType (by ac_nf)) (I.ok.hd hc) (by rw [he];show(false||(backTo cpos (starEach es X.env)).any (·.1))=false;rw [hpl];rfl) hnib (gV_ I hg hm ⟨rfl, ?_⟩ hdb)
 have h2:=ha cpos pins s σ H _ I h;rw [he] at h2⊢;refine Calls.evalArgs_plain (thn h2 fun us s1 ⟨vs,H1,I1,r,hz,hE⟩=>⟨rfl,by rw [<-r.length];exact hz,I1.bk _ _ hCb,hNb.keeps I1.bk,TLb.keeps I1.bk,fun h' e' hx=> ?_⟩);exact hR pins σ H1 s1 h' e' C us I1 hx hE
end
section
variable {X:Cx}{pos:Pos}{e v:Expr}{es:List Expr}{te:TE}
noncomputable abbrev TJ:=Str->St->Hp->VK->Prop
noncomputable def PJ (X:Cx) (es:List Expr) (t:TJ):Prop:=∀(out:Str) (pins:List (Addr×Obj)) (s:Shared) (σ:St) (H:Hp) (Q:VK),Inv X pins σ H s->t out σ H Q->wpAny (model X.prog X.w) X.A (joinParts out (evalEach es X.env)) (EP X pins σ Q) X.xe s
noncomputable def tJn:TJ:=fun out _ H Q=>out.length<=sizeLine/\Q (.str out) H
noncomputable def tJc (te:TE) (tr:TJ):TJ:=fun out σ H Q=>te σ H fun x H1=>∃y,x= .str y/\(out++y).length<=sizeLine/\tr (out++y) σ H1 Q
theorem su_:PJ X [] tJn:=fun out pins s σ H Q I h=>joinParts_nil ⟨.str out,H,I.tok _,⟨_,rfl⟩,h.2⟩ h.1
theorem gt_ {tr:TJ} (he:PE X e te) (hr:PJ X es tr):PJ X (e::es) (tJc te tr):=by
 intro out pins s σ H Q I h;show wpAny _ _ (joinParts out (eval e X.env::evalEach es X.env)) _ _ _;refine joinParts_cons (thn (he pins s σ H _ I h) fun u s1 ⟨x,H1,I1,r1,y,ex,hz,q1⟩=> ?_);subst ex;obtain⟨tk,rfl⟩:=r1;exact⟨hz,hr (out++y) pins s1 σ H1 Q I1 q1⟩
theorem qI_ {v2:Expr}{t:TJ} (h:PJ X (e::v2::es) t):PE X (.JoinedStr (e::v2::es) pos) (fun σ H Q=>t Str.empty σ H Q):=fun pins s σ H Q I hq=>JoinedStr_many (h Str.empty pins s σ H Q I hq)
theorem mC_ (hv:PE X v te):PE X (.FormattedValue v (-1) none pos) (fun σ H Q=>te σ H fun x H1=>∃i,x= .int i/\i.natAbs.log2<1920/\Q (.str (toString i)) H1):=by
 intro pins s σ H Q I h;refine FormattedValue_plain (thn (hv pins s σ H _ I h) fun u s1 ⟨x,H1,I1,r1,i,ex,hz,q1⟩=> ?_);subst ex;obtain⟨tk,rfl⟩:=r1;exact formatField_int_small hz ⟨.str _,H1,I1.tok _,⟨_,rfl⟩,q1⟩
end
section
variable {X:Cx}{CX:CXT}{ps:List Str}{sp:Sp}{E:XK}{x:Str}{p pos:Pos}{e:Expr}{es:List Expr}{t:TA}{i:Nat}
end
end L2
namespace L2
open PySem PySem.Calls PyProof.Rows PySem.W Builtin Builtin.ObjectAttr Builtin.Getset_descriptor
structure XC (K:Frag) (C:Addr):Prop where
 cl:(clsIn K C).isSome=true
 ga:findIn K (.ref C) "__getattribute__"=some (some (.builtin "BaseException.__getattribute__"))
 gt:findIn K (.ref C) "__getattr__"=some none
 ca:findIn K (.ref C) "__class__"=some (some (.builtin "object.__class__"))
 gn:specialIn K (.builtin "object.__class__") "__get__"=some (some (.builtin "getset_descriptor.__get__"))
 tk:takesIn K (.builtin "object.__class__")=some true
 ob:mroIn K C (.type "object")=some true
 be:mroIn K C (.type "BaseException")=some true
section
variable {prog:Program}{w:World}{A:Around}{E:Value->Shared->Prop}{K:Frag}{x C:Addr}{h:Heap}{g:Array GenState}{d:Drawn}{t:Nat}{os:OsState}
theorem iH_ {M:Model}{o:Obj} (e:h.get? x=some o) (c:o.cls= .ref C):Looks M h (typeOf (.ref x)) (.ref C):=c▸(Looks.ld e).andThen .now
theorem rO_ {R:Result->Shared->Prop}{tp:Value} (Y:K.In h) (F:XC K C) (LT:∀M:Model,Looks M h (typeOf (.ref x)) (.ref C)) (q:R (.ok (.ret (.ref C))) ⟨h,g,d,t,os⟩):
  codeAny (model prog w) A (.call (.builtin "getset_descriptor.__get__") ⟨[.builtin "object.__class__", .ref x,tp],[]⟩) R ⟨h,g,d,t,os⟩:=by
 have L0:=LT (model prog w);have L1:=looks_mroIn (M:=model prog w) Y F.ob;refine codeAny_call_builtin KF.slot_gs.plain KF.entry_gs (KF.slot_gs.check _ _ _ _ _ _ _ _ KF.type_class (KF.args_gs _ _ _) ?_);unfold Builtin.«getset_descriptor.__get__» descrGet;rw [dga_obj];refine A0 (A2 ?_);unfold descrGetter descrCheckInstance descrNameAndClass isInstance;simp only [KF.owner_class]
 repeat lk
 refine⟨Code.quiet_builtin _ (by ac_nf),Bt KF.entry_class ?_⟩;unfold Builtin.«object.__class__» shownTypeOf
 repeat lk
 exact q
theorem pZ_ {M:Model} (Y:K.In h) (F:XC K C):Looks M h (find (.ref x) (.ref C) "__class__") (.bind (.builtin "getset_descriptor.__get__") (.builtin "object.__class__")):=by
 have L1:=looks_findIn (M:=M) Y F.ca;have L2:Looks M h (getOf (some (.builtin "object.__class__"))) (some (.builtin "getset_descriptor.__get__")):=looks_specialIn Y F.gn;have L3:=looks_takesIn (M:=M) Y F.tk;exact L1.andThen (L2.andThen ((show Looks M h (dataDescriptor? (some (.builtin "object.__class__")) (some (.builtin "getset_descriptor.__get__"))) (some (.builtin "getset_descriptor.__get__", .builtin "object.__class__")) from L3.andThen .now).andThen (Looks.tag .now)))
theorem n1_ {tk:Tok}{Q:Fin->Shared->Prop} (Y:K.In h) (F:XC K C) (LT:∀M:Model,Looks M h (typeOf (.ref x)) (.ref C)) (q:Q (.done (.ret (.ref C))) ⟨h,g,d,t,os⟩):
  wpAny (model prog w) A (Builtin.«object.__getattribute__» ⟨[.ref x, .str "__class__" tk],[]⟩) Q E ⟨h,g,d,t,os⟩:=by
 have L0:=LT (model prog w);have L1:=pZ_ (x:=x) (M:=model prog w) Y F;refine A0 (A2 (A0 (A2 (A0 (L0.at (A0 (L1.at ?_)))))));show wpAny _ _ (holding [.builtin "object.__class__"] (call (.builtin "getset_descriptor.__get__") [.builtin "object.__class__", .ref x, .ref C])>>=ret) _ _ _;exact A0 (Au (wpAny_call (rO_ Y F LT (A2 q))))
theorem n2_ {nameV:Value}{M:Model}{Q:Unit->Shared->Prop} (Y:K.In h) (F:XC K C) (LT:∀M:Model,Looks M h (typeOf (.ref x)) (.ref C)) (q:Q () ⟨h,g,d,t,os⟩):
  wpAny M A (checkBuiltinCall "BaseException.__getattribute__" ⟨[.ref x,nameV],[]⟩) Q E ⟨h,g,d,t,os⟩:=by
 have e1:builtinKind "BaseException.__getattribute__"=some .slot:=by ac_nf
 have e2:splitId "BaseException.__getattribute__"=some ("BaseException","__getattribute__"):=by ac_nf
 have ha:=PySem.F.args_bexc_ga (.ref x) nameV;have L0:=LT M;have L1:=looks_mroIn (M:=M) Y F.be;simp only [checkBuiltinCall,e1,e2];refine A0 ?_;unfold isInstance
 repeat (first|lk|wp_step)
 exact q
theorem p0_ {Q:Option Value->Shared->Prop} (Y:K.In h) (F:XC K C) (LT:∀M:Model,Looks M h (typeOf (.ref x)) (.ref C)) (q:Q (some (.ref C)) ⟨h,g,d,t+1,os⟩):wpAny (model prog w) A (getAttr? (.ref x) "__class__") Q E ⟨h,g,d,t,os⟩:=by
 have L0:=LT (model prog w);have L1:=looks_findIn (M:=model prog w) Y F.ga;have L2:=looks_findIn (M:=model prog w) Y F.gt;have e2:(Value.builtin "BaseException.__getattribute__"==Value.builtin "object.__getattribute__")=false:=by ac_nf
 have e1:(onTheHeap (Value.ref C)&&Value.builtin "BaseException.__getattribute__"==Value.builtin "object.__getattribute__")=false:=by rw [e2];rfl
 have f3:=PySem.F.excAttr_ValueError.ga.bind (.ref x);unfold getAttr? getAttrBy? getAttrBy;refine A0 (wpAny_mkText (A0 (Bz (Au (A0 (L0.at (A0 (L1.at ?_))))))));dsimp only;rw [e1];simp only [AG,Am]
 repeat (any_goals (first|assumption|with_reducible refine L2.at ?_|wp_step))
 refine codeAny_call_builtin PySem.F.excAttr_ValueError.ga.plain PySem.F.entry_bexc_ga (n2_ Y F LT (n1_ Y F LT ?_))
 repeat (any_goals (first|assumption|lk|wp_step))
theorem kf_ (F:XC K C):KitX K (.ref x) (.ref C) (fun h=>∃o,h.get? x=some o/\o.cls= .ref C) where
 ty:=fun _ _ _ ⟨_,e,c⟩=>iH_ e c
 it:=fun _ _ Y _=>by
  have z:=F.cl;unfold clsIn at z;split at z
  .rename_i ho;intro A' Q' E' s' k q;unfold isType loadHead;exact A0 (wpAny_loadPart (k _ _ (Y _ _ ho)) (A2 q))
  .cases z
 ne:=fun h tp dd its n sl Y htp=>by
  have z:=F.cl;unfold clsIn at z;split at z
  .rename_i ho;refine Bool.eq_false_iff.mpr fun q=> ?_;have e:C=tp:=Value.ref.inj (Cq.mp q);subst e;have y:=(Y _ _ ho).symm.trans htp;cases y
  .cases z
 ca:=fun{_ _ _ _ _ s} Y ⟨_,e,c⟩ k=>by
  obtain⟨hh,g,d,t,os⟩:=s;exact p0_ Y F (fun M=>iH_ e c) k
end
noncomputable def o3_ (C a:Addr):HO:= .ext fun h=>∃o,h.get? a=some o/\o.cls= .ref C
theorem rj_ {P:Program}{w:World}{H:Hp}{h:Heap}{a C:Addr} (e:∃o,h.get? a=some o/\o.cls= .ref C):aG_ P w H h a (o3_ C a):=
 ⟨e,e.elim fun o q=>⟨o,q.1⟩,fun _ _ ⟨o,q,c⟩ k=>⟨o,k o q,c⟩⟩
noncomputable def rL_:V->Option Value
 | .ty n=>some (.type n)
 | .ref c=>some (.ref c)
 |_=>none
theorem kM_ {v:V}{c u:Value} (e:rL_ v=some c) (r:a2_ v u):u=c:=by
 cases v<;>first|(cases e;exact r)|cases e
section
variable {X:Cx}
theorem pc_:cc_ X (.builtin "isinstance") (fun xs H Q=>∃a C v c b,xs=[.ref a,v]/\H a=some (o3_ C a)/\XC X.K C/\rL_ v=some c/\kitOne X.K (.ref C) c=some b/\Q (.bl b) H):=by
 intro pins s σ H xs us Q I r h;obtain⟨a,C,v,c,b,rfl,ha,F,ev,e,q⟩:=h;obtain⟨u,w',rfl,ru,rw'⟩:=lM_ r;obtain rfl:u=Value.ref a:=ru;obtain rfl:=kM_ ev rw';exact kia_one (kf_ F) I.kIn (I.hok a _ ha).1 e (fun z=>nomatch z) fun tk=>⟨.bl b,H,I.tok tk,rfl,q⟩
theorem ir_ {K:Frag} (hK:X.K=K):cc_ X (.builtin "isinstance") (fun xs H Q=>∃a C v c b,xs=[.ref a,v]/\H a=some (o3_ C a)/\XC K C/\rL_ v=some c/\kitOne K (.ref C) c=some b/\Q (.bl b) H):=hK▸pc_
theorem im_:∀{vs:List V}{cs its:List Value},vs.mapM rL_=some cs->aW_ vs its->its=cs
 |[],_,_,e, .nil=>by cases e;rfl
 |v::vs,cs,_,e, .cons r t=>by
  rw [List.mapM_cons] at e;obtain⟨c,e1,e⟩:=AB.mp e;obtain⟨cs',e2,e⟩:=AB.mp e;cases e;rw [kM_ e1 r,im_ e2 t]
theorem nG_:cc_ X (.builtin "isinstance") (fun xs H Q=>∃a C p vs cs b,xs=[.ref a, .ref p]/\H a=some (o3_ C a)/\XC X.K C/\H p=some (.tup vs)/\vs.mapM rL_=some cs/\kitAny X.K (.ref C) cs=some b/\Q (.bl b) H):=by
 intro pins s σ H xs us Q I r h;obtain⟨a,C,p,vs,cs,b,rfl,ha,F,hp,ev,e,q⟩:=h;obtain⟨u,w',rfl,ru,rw'⟩:=lM_ r;obtain rfl:u=Value.ref a:=ru;obtain rfl:w'=Value.ref p:=rw';obtain⟨_,its,rv,⟨oc,od,dt,sl⟩,ho,hc,n,hd⟩:=(show aG_ X.prog X.w H s.heap p (.tup vs) from I.hok p _ hp);simp only at hc hd;subst hc hd;obtain rfl:=im_ ev rv;exact kia_tup (kf_ F) I.kIn (I.hok a _ ha).1 ho e (fun z=>nomatch z) fun tk=>⟨.bl b,H,I.tok tk,rfl,q⟩
theorem lv_ {K:Frag} (hK:X.K=K):cc_ X (.builtin "isinstance") (fun xs H Q=>∃a C p vs cs b,xs=[.ref a, .ref p]/\H a=some (o3_ C a)/\XC K C/\H p=some (.tup vs)/\vs.mapM rL_=some cs/\kitAny K (.ref C) cs=some b/\Q (.bl b) H):=hK▸nG_
end
end L2
namespace L2
open PySem PySem.Spec PyProof.Rows PySem.W
noncomputable abbrev Cx.inTry (X:Cx) (pn:List (Addr×Obj)) (z:Value->Shared->Prop):Cx:={X with pn:=pn,xe:=z}
noncomputable abbrev Cx.inSuite (X:Cx) (e:Addr):Cx:={X with A:=X.A.mark (some (.ref e)),calm:=false,xe:=fun _ _=>False}
noncomputable def eb_ (σ:St):St:=σ.map fun _=>none
theorem fW_ {σ:St}{i:Nat}{v:V} (h:(eb_ σ)[i]? =some (some v)):False:=by
 unfold eb_ at h;rw [A8] at h;cases e:σ[i]? with
 |none=>rw [e] at h;cases h
 |some a=>rw [e] at h;cases h
section
variable {X:Cx}{pins pn:List (Addr×Obj)}{σ:St}{H H':Hp}{s s':Shared}{z:Value->Shared->Prop}{e:Addr}
theorem Inv.toTry (I:Inv X pins σ H s):Inv (X.inTry (X.pn++pins) z) [] σ H s:=
 ⟨⟨I.ok.mod,I.ok.kind,I.ok.glob,I.ok.blt,I.ok.above,I.ok.inj,I.ok.has,I.ok.cab,I.ok.hd,I.ok.frames,I.ok.stk,I.ok.exf,I.ok.bs,I.ok.bsz,I.ok.noex,I.ok.exfs,I.ok.funs,I.ok.frf⟩,
  I.os,I.bare,I.base,I.loc,I.cell,I.free,I.freeC,fun p hp=>I.pin p (by rw [B8] at hp;exact hp),I.hok,I.len⟩
theorem Inv.unTry {pins':List (Addr×Obj)} (I:Inv (X.inTry (X.pn++pins) z) pins' σ H s):Inv X pins σ H s:=
 ⟨⟨I.ok.mod,I.ok.kind,I.ok.glob,I.ok.blt,I.ok.above,I.ok.inj,I.ok.has,I.ok.cab,I.ok.hd,I.ok.frames,I.ok.stk,I.ok.exf,I.ok.bs,I.ok.bsz,I.ok.noex,I.ok.exfs,I.ok.funs,I.ok.frf⟩,
  I.os,I.bare,I.base,I.loc,I.cell,I.free,I.freeC,fun p hp=>I.pin p (Cv _ hp),I.hok,I.len⟩
theorem Inv.toSuite (I:Inv X pins σ H s):Inv (X.inSuite e) pins σ H s:=
 ⟨⟨I.ok.mod,I.ok.kind,I.ok.glob,I.ok.blt,I.ok.above,I.ok.inj,I.ok.has,I.ok.cab,fun q=>absurd q AT,I.ok.frames,I.ok.stk,I.ok.exf,I.ok.bs,I.ok.bsz,I.ok.noex,I.ok.exfs,I.ok.funs,I.ok.frf⟩,
  I.os,I.bare,I.base,I.loc,I.cell,I.free,I.freeC,I.pin,I.hok,I.len⟩
theorem Inv.unSuite (hd:X.calm=true->X.A.handled=none) (I:Inv (X.inSuite e) pins σ H s):Inv X pins σ H s:=
 ⟨⟨I.ok.mod,I.ok.kind,I.ok.glob,I.ok.blt,I.ok.above,I.ok.inj,I.ok.has,I.ok.cab,hd,I.ok.frames,I.ok.stk,I.ok.exf,I.ok.bs,I.ok.bsz,I.ok.noex,I.ok.exfs,I.ok.funs,I.ok.frf⟩,
  I.os,I.bare,I.base,I.loc,I.cell,I.free,I.freeC,I.pin,I.hok,I.len⟩
theorem SP.unTry {D:Ends}{f:Flow} (h:SP (X.inTry (X.pn++pins) z) [] D f s'):SP X pins D f s':=by
 cases f with
 |next=>obtain⟨σ',H',I,q⟩:=h;exact⟨σ',H',I.unTry,q⟩
 |brk=>obtain⟨σ',H',I,q⟩:=h;exact⟨σ',H',I.unTry,q⟩
 |cont=>obtain⟨σ',H',I,q⟩:=h;exact⟨σ',H',I.unTry,q⟩
 |ret u=>obtain⟨v,σ',H',I,r,q⟩:=h;exact⟨v,σ',H',I.unTry,r,q⟩
theorem Inv.goes {h':Heap}{m':Str->Option Value}{t':Nat} (I:Inv X pins σ H s) (hn:h'.Ns X.env.locals m') (hs:Heap.SameBut X.env.locals s.heap h'):Inv X pins (eb_ σ) H {s with heap:=h',toks:=t'}:=by
 have lt:∀{b:Addr}{o:Obj},X.s₀.heap.get? b=some o->b≠X.env.locals:=fun e=>AL (Af (AJ e) I.ok.above);refine⟨I.ok,I.os,I.bare,⟨fun b o e n hb hx=> ?_,fun b o e n hb hx=> ?_,I.base.free,fun b o e hx=> ?_,I.base.tups,I.base.frzs,I.base.tbls⟩,⟨m',hn,fun i x v _ e2 _=>(fW_ e2).elim⟩,fun y c e=> ?_,I.free,I.freeC,fun p hp=> ?_,fun b ob e=> ?_, ?_⟩
 .exact(hs.2 b (lt e)).trans (I.base.keep b o e n hb hx)
 .obtain⟨sl,e1⟩:=I.base.slot b o e n hb hx;exact⟨sl,(hs.2 b (lt e)).trans e1⟩
 .obtain⟨o',e1⟩:=I.base.there b o e hx;exact⟨o',(hs.2 b (lt e)).trans e1⟩
 .obtain⟨w',q⟩:=I.cell y c e;exact⟨w',q.sameBut hs (I.cne y c e)⟩
 .obtain⟨e,n,ne,nf,d⟩:=I.pin p hp;exact⟨(hs.2 p.1 ne).trans e,n,ne,nf,d⟩
 .refine(I.hok b ob e).stay (fun c v hc q=>(hs.2 c fun ec=> ?_).trans q) (fun _ q=>q) fun _ _ q=>q;have fr:=I.free;rw [<-ec] at fr;rcases hc with rfl|hc
  .rw [fr] at e;cases e
  .rw [fr] at hc;cases hc
 .unfold eb_;rw [A1];exact I.len
theorem Inv.nones (I:Inv X pins σ H s):Inv X pins (L2.eb_ σ) H s:=I.weak (by unfold L2.eb_;rw [A1]) fun i v e=>(fW_ e).elim
theorem Inv.hold {C:Addr} (I:Inv X pins σ H s) (hn:H e=none) (hL:e≠X.env.locals) (hnew:X.s₀.heap.get? e=none/\(∀x c,X.env.cells.lookup x=some c->c≠e)/\(∀p∈X.pn++pins,p.1≠e)) (ho:∃o,s.heap.get? e=some o/\o.cls= .ref C):
  Inv X pins σ (upd H e (o3_ C e)) s:=by
 obtain⟨n0,nc,np⟩:=hnew;have ne0:∀{b:Addr}{o:Obj},X.s₀.heap.get? b=some o->b≠e:=fun{b o} q z=>by rw [z,n0] at q;cases q
 have neh:∀{b:Addr}{o:HO},H b=some o->b≠e:=fun q=>aw_ q hn;refine⟨I.ok,I.os,I.bare,⟨I.base.keep,I.base.slot,fun b o q n hx=> ?_,I.base.there,fun b xs q=> ?_,fun b o u q=> ?_,fun b ps q=> ?_⟩,I.loc,I.cell, ?_,fun x c q=> ?_,fun p hp=> ?_,fun b o q=> ?_,I.len⟩
 .rw [ak_ (ne0 q)];exact I.base.free b o q n hx
 .have z:=I.base.tups b xs q;rw [ak_ (neh z)];exact z
 .have z:=I.base.frzs b o u q;rw [ak_ (neh z)];exact z
 .obtain⟨more,z⟩:=I.base.tbls b ps q;exact⟨more,by rw [ak_ (neh z)];exact z⟩
 .rw [ak_ (BM hL)];exact I.free
 .rw [ak_ (nc x c q)];exact I.freeC x c q
 .obtain⟨a1,a2,a3⟩:=I.pin p hp;exact⟨a1,by rw [ak_ (np p hp)];exact a2,a3⟩
 .by_cases hb:b=e
  .subst hb;rw [ag_] at q;cases q;exact rj_ ho
  .rw [ak_ hb] at q;exact(I.hok b o q).stay (fun _ _ _ q=>q) (fun c q=>by rw [ak_ (neh q)];exact q) fun c xs q=>by rw [ak_ (neh q)];exact q
end
noncomputable def Ends.forget (D:Ends) (n:Nat):Ends:={nx:=fun _ H=>D.nx (List.replicate n none) H,rt:=D.rt,bk:=fun _ H=>D.bk (List.replicate n none) H,ct:=fun _ H=>D.ct (List.replicate n none) H}
theorem hN_ {σ:St}:eb_ σ=List.replicate σ.length none:=by
 unfold eb_;induction σ with
 |nil=>rfl
 |cons a r ih=>rw [AI,ih,AY,BD]
noncomputable def vn_ (K:Frag) (hc:Addr) (i n:Nat) (tb:XK->TS) (ts:TS):TS:=fun D σ H=>∃E:XK,tb E D σ H/\
 ∀(C e:Addr) (H':Hp),E (.ref C) none H'->H' e=none->exmOne K (.ref C) (.ref hc)=some true/\ts (D.forget n) ((List.replicate n none).set i (some (.ref e))) (upd H' e (o3_ C e))
theorem ss_ {X:Cx}{x n:Str}{hc:Addr}{i len:Nat}{body suite:List Stmt}{b₀:Stmt}{tb:XK->TS}{ts:TS}{np hpos pos:Pos} (F:Fnc X) (hl:X.N.length=len) (hN:X.N.Nodup) (hi:X.N[i]? =some n) (hx:Loc X.env.scope n) (hloc:X.env.kindOf n=some .local) (hg:Gl X x) (hm:X.mg x=some (.ref hc))
  (hb:∀(E:XK) pn z,er_ (CX1 X.prog X.w) (X.inTry pn z) E->PSs (X.inTry pn z) body (tb E)) (hs:∀e,PSs (X.inSuite e) (b₀::suite) ts) (hf:X.fn n=true\/X.env.scope.names.lookup n=some .local:=by first|exact .inl rfl|exact .inr rfl) (hdb:(x==("__debug__":Str))=false:=by decide):
  PS X (.Try body [.ExceptHandler (some (.Name x np)) (some n) (b₀::suite) hpos] [] [] pos) (vn_ X.K hc i len tb ts):=by
 intro pins s σ H D I ⟨E,hw,hE⟩;have hP:er_ (CX1 X.prog X.w) (X.inTry (X.pn++pins) fun e s'=>∃σ' H s,Inv X pins σ' H s/\CX1 X.prog X.w X.stack H s E e s') E:=fun pins' σ' H1 s1 e s' J q=>⟨σ',H1,s1,J.unTry,q⟩;refine wpAny_Try_except (BP (hb E _ _ hP [] s σ H D I.toTry hw) (fun f s1 q=> ?_) fun ev s1 q=> ?_)
 .have q':=SP.unTry q;cases f with
  |next=>exact wpAny_execs_nil q'
  |ret u=>exact q'
  |brk=>exact q'
  |cont=>exact q'
 obtain⟨σ1,H1,s0,I0,a,C,H',B,a0,rfl,hEE,os,bare,u,hB,hn,fl,kB,tB⟩:=q;obtain⟨hmt,hts⟩:=hE C a H' hEE hn;have nfr:a∉frs X.stack:=fun z=>by
  obtain⟨_,o,e1,d⟩:=fl.2.2.1.mem z;obtain⟨oe,vs,e2,_,dd,_⟩:=fl.first;rw [e1] at e2;cases e2;exact d _ dd
 have at_:∀{h5:Heap},B.StaysIn h5->s1.heap.UpToSlots h5->Inv X pins σ1 H' {s1 with heap:=h5}:=fun{h5} st up=>
  I0.call' (s':={s1 with heap:=h5}) (ch:=[]) os (lS_ u fl.2.2.1 kB tB st up) (hB.kept st) bare fun _ z=>absurd z (by simp)
 have bn:=fl.2.1;have new0:s0.heap.get? a=none:=by
  cases q:s0.heap.get? a with
  |none=>rfl
  |some o=>
   obtain⟨o',z⟩:=tB a o q nfr;rw [bn] at z;cases z
 have hnL:a≠X.env.locals:=fun z=>nfr (by rw [F.stk,z];exact pH_ (AX ..) F.fr);have new:X.s₀.heap.get? a=none/\(∀x c,X.env.cells.lookup x=some c->c≠a)/\(∀p∈X.pn++pins,p.1≠a):=by
  refine⟨?_,fun y c q z=> ?_,fun p hp z=> ?_⟩
  .cases q:X.s₀.heap.get? a with
   |none=>rfl
   |some o=>
    obtain⟨o',z⟩:=I0.base.there a o q (by rw [F.ex];simp);rw [new0] at z;cases z
  .obtain⟨v,o,q1,_⟩:=I0.cell y c q;rw [z,new0] at q1;cases q1
  .have q1:=(I0.pin p hp).1;rw [z,new0] at q1;cases q1
 refine wpAny_looks_onW (by rw [I.ok.frames,F.stk]) F.fr (by rw [<-F.stk];exact fl) fun h4 held4 up4=> ?_;refine wpAny_landsW held4 fun h5 fl5 up5=> ?_;have I5:Inv (X.inSuite a) pins σ1 H' {s1 with heap:=h5}:=(at_ fl5.1 (up4.trans up5)).toSuite;refine wpAny_handleBy_cons (codeAny_handlers_test (gV_ I5 hg hm ?_ hdb)) (by intro q;cases q);obtain⟨ob,ho,hcl⟩:=fl5.there;refine(exm_one (K:=X.K) I5.kIn (iH_ ho hcl) hmt).here ?_;refine codeAny_handlers_suite_as ?_;refine lands_againW fl5 fun h6 fl6 up6=> ?_;obtain⟨ob6,ho6,hcl6⟩:=fl6.there;have I6:Inv X pins (eb_ σ1) (upd H' a (o3_ C a)) {s1 with heap:=h6}:=((at_ fl6.1 ((up4.trans up5).trans up6)).nones).hold hn hnL new ⟨ob6,ho6,hcl6⟩;have es:(eb_ σ1)=List.replicate len none:=by rw [hN_,I0.len,hl]
 rw [es] at I6;refine dB_ (X:=X.inSuite a) (v:= .ref a) I6.toSuite hN hi hx rfl (fun s7 I7=> ?_) hf;refine BP (hs a pins s7 _ _ _ I7 hts) (fun f s8 q=> ?_) fun _ _ z=>z.elim;have go:∀{σ8:St}{H8:Hp},Inv (X.inSuite a) pins σ8 H8 s8->(∀s9,Inv X pins (List.replicate len none) H8 s9->SP X pins D f s9)->
   wpAny (model X.prog X.w) X.A (do bindName X.env n .none;unbindBehindTheSuite X.env n hpos) (fun _ s9=>SP X pins D f s9) X.xe s8:=fun{σ8 H8} I8 k=>by
  obtain⟨m,hns,_⟩:=I8.loc;refine wpAny_nameGoes hloc hns (by rw [I.ok.kind];rfl) fun h9 m9 hn9 hs9=> ?_;have J:=(Inv.unSuite I.ok.hd I8).goes (t':=s8.toks+1) hn9 hs9;have e8:(eb_ σ8)=List.replicate len none:=by rw [hN_,I8.len];exact Bc (fun k=>List.replicate k none) hl
  rw [e8] at J;exact k _ J
 cases f with
 |next=>obtain⟨σ8,H8,I8,q⟩:=q;exact go I8 fun s9 J=>⟨_,_,J,q⟩
 |brk=>obtain⟨σ8,H8,I8,q⟩:=q;exact go I8 fun s9 J=>⟨_,_,J,q⟩
 |cont=>obtain⟨σ8,H8,I8,q⟩:=q;exact go I8 fun s9 J=>⟨_,_,J,q⟩
 |ret u=>obtain⟨v,σ8,H8,I8,r,q⟩:=q;exact go I8 fun s9 J=>⟨v,_,_,J,r,q⟩
end L2
namespace L2
open PySem PySem.Spec PyProof.Rows
section
variable {X:Cx}{tg:Expr}
end
end L2
namespace L2
open PySem PySem.Spec PyProof.Rows
noncomputable def cJ_ (H:Hp) (v:V):Prop:=(∃i,v= .int i)\/(∃b,v= .bl b)\/v= .non\/(∃x,v= .str x)\/(∃a xs,v= .ref a/\H a=some (.lst xs))\/(∃a xs,v= .ref a/\H a=some (.tup xs))
noncomputable def isI (v:V):Bool:=match v with
 | .int _=>true
 |_=>false
noncomputable def Within (lo hi:Int) (v:V):Prop:=∃i,v= .int i/\lo<=i/\i<=hi
theorem kS_ {lo hi:Int}{v:V} (h:Within lo hi v):isI v=true:=by obtain⟨i,rfl,_⟩:=h;rfl
theorem hZ_ {K:W.Frag}:W.kitOne K (.type "NoneType") (.type "int")=some false:=f1_ (by ac_nf) (by ac_nf) (by ac_nf)
theorem jm_ {K:W.Frag}:W.kitOne K (.type "str") (.type "int")=some false:=f1_ (by ac_nf) (by ac_nf) (by ac_nf)
theorem h0_ {K:W.Frag}:W.kitOne K (.type "list") (.type "int")=some false:=f1_ (by ac_nf) (by ac_nf) (by ac_nf)
theorem gX_ {K:W.Frag}:W.kitOne K (.type "tuple") (.type "int")=some false:=f1_ (by ac_nf) (by ac_nf) (by ac_nf)
noncomputable def ob_:Sp:=fun vs H Q _=>∃v,vs=[v]/\cJ_ H v/\Q (.bl (isI v)) H
end L2
namespace L2
open PySem PySem.Spec PyProof.Rows
section
variable {X:Cx}{pins:List (Addr×Obj)}{σ:St}{H:Hp}{s:Shared}{h':Heap}{ch:List Addr}{t':Nat}
theorem iG_.chs (hf:∀b∈ch,iG_ X pins H b):∀b∈ch,(b∈X.ex\/X.s₀.heap.objs.size<=b)/\b≠X.env.locals/\(∀x c,X.env.cells.lookup x=some c->c≠b)/\∀p∈X.pn++pins,p.1≠b:=fun b hb=>by
 obtain⟨_,a2,_,a4,a5,a6⟩:=hf b hb;exact⟨a4,a2,a5,a6⟩
theorem Inv.turnAll (I:Inv X pins σ H s) (hf:∀b∈ch,iG_ X pins H b) (k:∀b o,b∉ch->s.heap.get? b=some o->h'.get? b=some o):Inv X pins σ H {s with heap:=h',toks:=t'}:=by
 have nin:∀{b u},H b=some u->b∉ch:=fun e z=>by rw [(hf _ z).1] at e;cases e
 refine I.step (g':=s.gens) (d':=s.drawn) (ch:=ch) (iG_.chs hf) (fun b o _ _ c e _=>k b o c e) (fun b o _ _ c e _=>⟨o.slots,k b o c e⟩) (fun _ _ _ _ n=>n) (fun b o c e=>⟨o,k b o c e⟩) (fun _ _ e=>e) (fun _ _ _ e=>e) (fun b ps e=>⟨#[],by rw [e];simp⟩) (fun m hm=> ?_) (fun b u e=> ?_) I.bare
 .obtain⟨o,es,ep,ho,r⟩:=hm;exact⟨o,es,ep,k _ o (fun z=>(hf _ z).2.1 rfl) ho,r⟩
 .refine(I.hok b u e).stay (fun c v hc q=>k c v ?_ q) (fun _ q=>q) fun _ _ q=>q;rcases hc with z|z
  .rw [z];exact nin e
  .exact nin z
theorem Inv.turnNew {o:HO} (I:Inv X pins σ H s) (hf:∀b∈ch,iG_ X pins H b) (k:∀b ob,b∉ch->s.heap.get? b=some ob->h'.get? b=some ob) (new:aG_ X.prog X.w (upd H s.heap.objs.size o) h' s.heap.objs.size o):
  Inv X pins σ (upd H s.heap.objs.size o) {s with heap:=h',toks:=t'}:=by
 have nf:H s.heap.objs.size=none:=I.hok.fresh (A9 _);have nin:∀{b u},H b=some u->b∉ch:=fun e z=>by rw [(hf _ z).1] at e;cases e
 refine I.step (g':=s.gens) (d':=s.drawn) (ch:=ch) (iG_.chs hf) (fun b o _ _ c e _=>k b o c e) (fun b o _ _ c e _=>⟨o.slots,k b o c e⟩) (fun b ob c e n=> ?_) (fun b o c e=>⟨o,k b o c e⟩) (fun b ys e=> ?_) (fun b o u e=> ?_) (fun b ps e=>⟨#[], ?_⟩) (fun m hm=> ?_) (fun b u e=> ?_) I.bare
 .rw [ak_ (AL (AJ e))];exact n
 .rw [ak_ (aw_ e nf)];exact e
 .rw [ak_ (aw_ e nf)];exact e
 .rw [ak_ (aw_ e nf),e];simp
 .obtain⟨o,es,ep,ho,r⟩:=hm;exact⟨o,es,ep,k _ o (fun z=>(hf _ z).2.1 rfl) ho,r⟩
 .by_cases hb:b=s.heap.objs.size
  .subst hb;rw [ag_] at e;cases e;exact new
  .rw [ak_ hb] at e;refine(I.hok b u e).stay (fun c v hc q=>k c v ?_ q) (fun c q=> ?_) fun c ys q=> ?_
   .rcases hc with z|z
    .rw [z];exact nin e
    .exact nin z
   .rw [ak_ (aw_ q nf)];exact q
   .rw [ak_ (aw_ q nf)];exact q
end
section
variable {X:Cx}{elts:List Expr}{k:Nat}{tpos p pos:Pos}{e f:Expr}{te tf:TE}
end
theorem e5_ {K:W.Frag}:rz_ 2 (s8_ K 2 (jq_ (dP_ 0) (jq_ (dP_ 1) tK_))):=by
 intro v σ H Q ⟨a,xs,e,hq,hl,x,r,ex,y,r2,er,en,q⟩;refine⟨a,xs,e,hq,hl,x,r,ex,y,r2,er,en,q, ?_,fun i hi=> ?_⟩
 .rw [Bm,Bm]
 .rw [CP (by lia),CP (by lia)]
theorem ff_ {K:W.Frag}:∀(σ:St) (H:Hp) (R R':St->Hp->Prop) (x:V),(∀σ' H',R σ' H'->R' σ' H')->s8_ K 2 (jq_ (dP_ 0) (jq_ (dP_ 1) tK_)) x σ H R->s8_ K 2 (jq_ (dP_ 0) (jq_ (dP_ 1) tK_)) x σ H R':=
 fun σ H R R' v k ⟨a,xs,e,hq,hl,x,r,ex,y,r2,er,en,q⟩=>⟨a,xs,e,hq,hl,x,r,ex,y,r2,er,en,k _ _ q⟩
theorem i5_ {X:Cx}{es:List Expr}{k:Nat}{pos:Pos}{t:TGs}{n:Nat}{K:W.Frag} (hK:X.K=K) (hc:X.calm=true) (h:PGs X es t)
  (hn:(assignEach es X.env).length=n:=by rfl) (hst:(assignEach es X.env).findIdx? (·.1)=none:=by rfl):PG X (.Tuple es k pos) (s8_ K n t):=hK▸cj_ hc h hn hst
end L2
namespace PySem.SeqAt
open AutoSeq1 (wpAny_loadPart')
open MeetsSeq MeetsSeq2 MeetsSeq3 SeqRoads2
noncomputable def LtAt (A:Around) (s:Shared) (y x:Value) (b:Bool):Prop:=
 ∀(prog:Program) (w:World) (E:Value->Shared->Prop) (Q:Value->Shared->Prop),Q (.bool b) s->wpAny (model prog w) A (richCompare .Lt y x) Q E s
noncomputable def lex (e f:Nat->Bool) (m n:Nat):Nat->Nat->Bool
 |0,_=>decide (m<n)
 |k+1,i=>if e i=true then lex e f m n k (i+1) else f i
theorem mV_ (l b:Addr) (items items2:Array Value) (n n2:Nat) (dd dd2:Option Addr) (sl sl2:Array (Option Value)) (e f:Nat->Bool) (k:Nat):
  ∀i:Nat,min items.size items2.size-i=k->Meets (Builtin.«list.__eq__.loop» ⟨[.ref l, .ref b,rawInt i,rawInt 0],[]⟩)
   (fun A R s=>s.heap.get? l=some {cls:= .type "list",dict:=dd,data:= .seq items n,slots:=sl}/\s.heap.get? b=some {cls:= .type "list",dict:=dd2,data:= .seq items2 n2,slots:=sl2}/\
    (∀j (h1:j<items.size) (h2:j<items2.size),EqAt A.in1 s items[j] items2[j] (e j))/\(∀j (h1:j<items.size) (h2:j<items2.size),e j=false->LtAt A.in1 s items[j] items2[j] (f j))/\
    R (.ok (.ret (.bool (lex e f items.size items2.size k i)))) s):=by
 induction k with
 |zero=>
  intro i hk prog w A R s h;obtain⟨hp,g,d,tk,os⟩:=s;obtain⟨hl,hb,he,hf,h⟩:=h
  wp_walk using wpAny_loadPart' hl,CN hb
  rcases(by lia:items.size<=i\/(i<items.size/\items2.size<=i)) with q|⟨q1,q2⟩
  .have hi1:items[((i:Nat):Int).toNat]? =none:=by simp;lia
   rw [hi1]
   wp_walk using wpAny_loadPart' hl,CN hb
   exact h
  .have hi1:items[((i:Nat):Int).toNat]? =some items[i]:=by simp [q1]
   have hi2:items2[((i:Nat):Int).toNat]? =none:=by simp;lia
   rw [hi1,hi2]
   wp_walk using wpAny_loadPart' hl,CN hb
   exact h
 |succ k ih=>
  intro i hk prog w A R s h;obtain⟨hp,g,d,tk,os⟩:=s;obtain⟨hl,hb,he,hf,h⟩:=h
  wp_walk using wpAny_loadPart' hl,CN hb
  have hlt:i<items.size:=by lia
  have hlt2:i<items2.size:=by lia
  have hi1:items[((i:Nat):Int).toNat]? =some items[i]:=by simp [hlt]
  have hi2:items2[((i:Nat):Int).toNat]? =some items2[i]:=by simp [hlt2]
  have hc:((i:Int)+1)=((i+1:Nat):Int):=by push_cast;rfl
  unfold lex at h;rw [hi1,hi2];refine A0 (he i hlt hlt2 prog w _ _ ?_);cases hb':e i with
  |true=>
   rw [hb',A6 rfl] at h
   wp_walk
   rw [hc];exact⟨D6 plain_eq_loop _,Bt entry_eq_loop (by
    rw [Bp plain_eq_loop _];exact ih (i+1) (by lia) prog w A R _ ⟨hl,hb,he,hf,h⟩)⟩
  |false=>
   rw [hb',A3 (by simp)] at h
   wp_walk using wpAny_loadPart' hl,CN hb
   rw [hi1,hi2];refine A0 (hf i hlt hlt2 hb' prog w _ _ ?_)
   wp_walk
   exact h
theorem hT_ (l b:Addr) (items items2:Array Value) (n n2:Nat) (dd dd2:Option Addr) (sl sl2:Array (Option Value)) (e f:Nat->Bool):
  Meets (Builtin.«list.__lt__» ⟨[.ref l, .ref b],[]⟩)
   (fun A R s=>s.heap.get? l=some {cls:= .type "list",dict:=dd,data:= .seq items n,slots:=sl}/\s.heap.get? b=some {cls:= .type "list",dict:=dd2,data:= .seq items2 n2,slots:=sl2}/\
    (∀j (h1:j<items.size) (h2:j<items2.size),EqAt A.in1 s items[j] items2[j] (e j))/\(∀j (h1:j<items.size) (h2:j<items2.size),e j=false->LtAt A.in1 s items[j] items2[j] (f j))/\
    R (.ok (.ret (.bool (lex e f items.size items2.size (min items.size items2.size) 0)))) s):=by
 intro prog w A R s h;obtain⟨hp,g,d,tk,os⟩:=s;obtain⟨hl,hb,he,hf,h⟩:=h;have f3:=AutoSeq1.sub_list_list
 wp_walk using wpAny_loadPart' hl,CN hb
 exact⟨D6 plain_eq_loop _,Bt entry_eq_loop (by
  rw [Bp plain_eq_loop _];exact mV_ l b items items2 n n2 dd dd2 sl sl2 e f _ 0 rfl prog w A R _ ⟨hl,hb,he,hf,by simpa using h⟩)⟩
theorem kX_ (l b:Addr) (items items2:Array Value) (n n2:Nat) (dd dd2:Option Addr) (sl sl2:Array (Option Value)) (e f:Nat->Bool):
  Meets (Builtin.«tuple.__lt__» ⟨[.ref l, .ref b],[]⟩)
   (fun A R s=>s.heap.get? l=some {cls:= .type "tuple",dict:=dd,data:= .seq items n,slots:=sl}/\s.heap.get? b=some {cls:= .type "tuple",dict:=dd2,data:= .seq items2 n2,slots:=sl2}/\
    (∀j (h1:j<items.size) (h2:j<items2.size),EqAt A.in1 s items[j] items2[j] (e j))/\(∀j (h1:j<items.size) (h2:j<items2.size),e j=false->LtAt A.in1 s items[j] items2[j] (f j))/\
    R (.ok (.ret (.bool (lex e f items.size items2.size (min items.size items2.size) 0)))) s):=
 .of_wp fun prog w A R s h=>by
  obtain⟨hp,g,d,tk,os⟩:=s;obtain⟨hl,hb,he,hf,h⟩:=h;have f2:=AutoSeq1.sub_tuple_tuple;have hZ:(items.toList.zip items2.toList).length=min items.size items2.size:=by simp
  wp_walk using wpAny_loadPart' hl,CN hb,C1 _ (fun cv_ b s'=>b.1=none/\s'=⟨hp,g,d,tk,os⟩/\∃i,cv_=(items.toList.zip items2.toList).drop i/\i<=min items.size items2.size/\
   R (.ok (.ret (.bool (lex e f items.size items2.size (min items.size items2.size-i) i)))) ⟨hp,g,d,tk,os⟩) _
  case turn=>
   rintro⟨y,x⟩ cv_ b s' ⟨hb',rfl,i,hz,hile,hR⟩;have hlt:i<(items.toList.zip items2.toList).length:=by
    rcases Bd i (items.toList.zip items2.toList).length with h'|h'
    .exact h'
    .rw [List.drop_of_length_le h'] at hz;cases hz
   have hm:i<min items.size items2.size:=hZ▸hlt;have h1:i<items.size:=Af hm (Nat.min_le_left _ _);have h2:i<items2.size:=Af hm (Nat.min_le_right _ _);rw [Bi hlt] at hz;injection hz with hyx hrest;have hy:y=items[i]:=by have:=Bc Prod.fst hyx;simpa using this
   have hx:x=items2[i]:=by have:=Bc Prod.snd hyx;simpa using this
   subst hy hx;rw [show min items.size items2.size-i=(min items.size items2.size-(i+1))+1 by lia,lex] at hR;refine A0 (he i h1 h2 prog w _ _ ?_);cases hy:e i with
   |true=>
    rw [hy,A6 rfl] at hR
    wp_walk
    exact⟨rfl,rfl,i+1,hrest,by lia,hR⟩
   |false=>
    rw [hy,A3 (by simp)] at hR;rw [A6 (show(!false)=true from rfl)];refine A0 (CF ?_);refine A0 (hf i h1 h2 hy prog w _ _ ?_)
    wp_walk
    exact⟨_,rfl,hR⟩
  case fin=>
   rintro⟨b1,b2⟩ s' ⟨hb',rfl,i,hz,hile,hR⟩;simp only at hb';subst hb';have hi:i=min items.size items2.size:=by
    rcases Bd i (items.toList.zip items2.toList).length with h'|h'
    .rw [Bi h'] at hz;cases hz
    .lia
   subst hi;rw [Nat.sub_self] at hR
   wp_walk
   exact⟨_,rfl,hR⟩
  case h=>
   exact⟨rfl,rfl,0,rfl,AO _,by simpa using h⟩
section
variable {A:Around}{s:Shared}
theorem LtAt.int_int (i:Int) (t:Tok) (j:Int) (u:Tok):LtAt A s (.int i t) (.int j u) (decide (i<j)):=fun prog w E Q h=>wpAny_lt_int h
theorem LtAt.lists {l b:Addr}{items items2:Array Value}{e f:Nat->Bool} (hl:s.heap.IsList l items) (hb:s.heap.IsList b items2) (hu:A.units<cLine)
  (he:∀j (h1:j<items.size) (h2:j<items2.size),EqAt A.in1 s items[j] items2[j] (e j)) (hf:∀j (h1:j<items.size) (h2:j<items2.size),e j=false->LtAt A.in1 s items[j] items2[j] (f j)):
  LtAt A s (.ref l) (.ref b) (lex e f items.size items2.size (min items.size items2.size) 0):=fun prog w E Q h=>by
 obtain⟨⟨cls,dd,data,sl⟩,ho,hc,n,hd⟩:=id hl;obtain⟨⟨cls2,dd2,data2,sl2⟩,ho2,hc2,n2,hd2⟩:=id hb;simp only at hc hd hc2 hd2;subst hc hd hc2 hd2;exact richCompare_meets_room (op:= .Lt) ⟨_,ho,rfl⟩ ⟨_,ho2,rfl⟩ F.slot_list_lt F.entry_list_lt (F.args_list_lt_2 _ _) (hT_ l b items items2 n n2 dd dd2 sl sl2 e f)
  ⟨ho,ho2,he,hf,show Value.bool (lex e f items.size items2.size (min items.size items2.size) 0)≠Value.notImplemented/\Q (.bool (lex e f items.size items2.size (min items.size items2.size) 0)) s from⟨(fun x=>nomatch x),h⟩⟩ hu
theorem LtAt.tuples {l b:Addr}{items items2:Array Value}{e f:Nat->Bool} (hl:s.heap.IsTuple l items) (hb:s.heap.IsTuple b items2) (hu:A.units<cLine)
  (he:∀j (h1:j<items.size) (h2:j<items2.size),EqAt A.in1 s items[j] items2[j] (e j)) (hf:∀j (h1:j<items.size) (h2:j<items2.size),e j=false->LtAt A.in1 s items[j] items2[j] (f j)):
  LtAt A s (.ref l) (.ref b) (lex e f items.size items2.size (min items.size items2.size) 0):=fun prog w E Q h=>by
 obtain⟨⟨cls,dd,data,sl⟩,ho,hc,n,hd⟩:=id hl;obtain⟨⟨cls2,dd2,data2,sl2⟩,ho2,hc2,n2,hd2⟩:=id hb;simp only at hc hd hc2 hd2;subst hc hd hc2 hd2;exact richCompare_meets_room (op:= .Lt) ⟨_,ho,rfl⟩ ⟨_,ho2,rfl⟩ F.slot_tuple_lt F.entry_tuple_lt (F.args_tuple_lt_2 _ _) (kX_ l b items items2 n n2 dd dd2 sl sl2 e f)
  ⟨ho,ho2,he,hf,show Value.bool (lex e f items.size items2.size (min items.size items2.size) 0)≠Value.notImplemented/\Q (.bool (lex e f items.size items2.size (min items.size items2.size) 0)) s from⟨(fun x=>nomatch x),h⟩⟩ hu
theorem key_lists {prog:Program}{w:World}{E:Value->Shared->Prop}{l b:Addr}{items items2:Array Value}{e f:Nat->Bool}{Q:Bool->Shared->Prop} (hl:s.heap.IsList l items) (hb:s.heap.IsList b items2) (hu:A.units<cLine)
  (he:∀j (h1:j<items.size) (h2:j<items2.size),EqAt A.in1 s items[j] items2[j] (e j)) (hf:∀j (h1:j<items.size) (h2:j<items2.size),e j=false->LtAt A.in1 s items[j] items2[j] (f j))
  (h:Q (lex e f items.size items2.size (min items.size items2.size) 0) s):wpAny (model prog w) A (PyProof.Rows.keyLt' PyProof.Rows.oneType' (.ref l) (.ref b)) Q E s:=by
 rw [PyProof.Rows.keyLt'_oneType,PyProof.Rows.oneLt'_eq];simp only [C4];refine A0 (wpAny_cRoomFor hu ?_);obtain⟨⟨cls,dd,data,sl⟩,ho,hc,n,hd⟩:=id hl;obtain⟨⟨cls2,dd2,data2,sl2⟩,ho2,hc2,n2,hd2⟩:=id hb;simp only at hc hd hc2 hd2;subst hc hd hc2 hd2;refine A0 (wpAny_callSpecialIfBound?_slot (T:="list") ⟨_,ho,rfl⟩ F.slot_list_lt (call_meets F.slot_list_lt ⟨_,ho,rfl⟩ F.entry_list_lt (F.args_list_lt_2 _ _) (hT_ l b items items2 n n2 dd dd2 sl sl2 e f) ⟨ho,ho2,he,hf, ?_⟩));exact Bq h
end
end PySem.SeqAt
namespace L2
open PySem PySem.Spec PyProof.Rows
inductive LtR (K:W.Frag) (H:Hp):Nat->V->V->Bool->Prop where
 |int (d:Nat) (i j:Int):LtR K H d (.int i) (.int j) (decide (i<j))
 |lists {d:Nat}{a b:Addr}{xs ys:List V} (es fs:Nat->Bool) (h1:SqL K H a xs) (h2:SqL K H b ys) (he:∀(j:Nat) x y,xs[j]? =some x->ys[j]? =some y->EqR K H d x y (es j)) (hf:∀(j:Nat) x y,xs[j]? =some x->ys[j]? =some y->es j=false->LtR K H d x y (fs j)):
  LtR K H (d+1) (.ref a) (.ref b) (SeqAt.lex es fs xs.length ys.length (min xs.length ys.length) 0)
 |tuples {d:Nat}{a b:Addr}{xs ys:List V} (es fs:Nat->Bool) (h1:SqT K H a xs) (h2:SqT K H b ys) (he:∀(j:Nat) x y,xs[j]? =some x->ys[j]? =some y->EqR K H d x y (es j)) (hf:∀(j:Nat) x y,xs[j]? =some x->ys[j]? =some y->es j=false->LtR K H d x y (fs j)):
  LtR K H (d+1) (.ref a) (.ref b) (SeqAt.lex es fs xs.length ys.length (min xs.length ys.length) 0)
section
variable {X:Cx}{pins:List (Addr×Obj)}{σ:St}{H:Hp}{s:Shared}
theorem cG_ {xs:List V}{is:List Value}{j:Nat} (r:aW_ xs is) (q:j<is.toArray.size):∃x,xs[j]? =some x/\a2_ x is.toArray[j]:=by
 have l:=r.length;have q':j<is.length:=by simpa using q
 have hx:xs[j]? =some xs[j]:=A4 (by lia);obtain⟨u,e,ru⟩:=r.get hx;refine⟨_,hx, ?_⟩;have g:is.toArray[j]=u:=by
  rw [A4 q'] at e;simpa using Option.some.inj e
 rw [g];exact ru
theorem LtR.at_ (I:Inv X pins σ H s) {d:Nat}{x y:V}{b:Bool} (h:LtR X.K H d x y b):∀{A:Around}{u v:Value},A.units+d<cLine->a2_ x u->a2_ y v->SeqAt.LtAt A s u v b:=by
 induction h with
 |int d i j=>
  intro A u v hu ru rv;obtain⟨t,rfl⟩:=ru;obtain⟨t',rfl⟩:=rv;exact SeqAt.LtAt.int_int i t j t'
 | @lists d a b xs ys es fs h1 h2 he hf ih=>
  intro A u v hu ru rv;obtain rfl:u=Value.ref a:=ru;obtain rfl:v=Value.ref b:=rv;obtain⟨is,r1,p1,z1⟩:=I.list h1;obtain⟨js,r2,p2,z2⟩:=I.list h2;have l1:xs.length=is.toArray.size:=by have:=r1.length;simpa using this
  have l2:ys.length=js.toArray.size:=by have:=r2.length;simpa using this
  rw [l1,l2];refine SeqAt.LtAt.lists p1.isList p2.isList (by lia) (fun j q1 q2=> ?_) (fun j q1 q2 z=> ?_)
  .obtain⟨x,hx,rx⟩:=cG_ r1 q1;obtain⟨y,hy,ry⟩:=cG_ r2 q2;exact((he j _ _ hx hy).at_ I (by rw [aK_];lia) rx ry).2.2
  .obtain⟨x,hx,rx⟩:=cG_ r1 q1;obtain⟨y,hy,ry⟩:=cG_ r2 q2;exact ih j _ _ hx hy z (by rw [aK_];lia) rx ry
 | @tuples d a b xs ys es fs h1 h2 he hf ih=>
  intro A u v hu ru rv;obtain rfl:u=Value.ref a:=ru;obtain rfl:v=Value.ref b:=rv;obtain⟨is,r1,p1,z1⟩:=I.tuple h1;obtain⟨js,r2,p2,z2⟩:=I.tuple h2;have l1:xs.length=is.toArray.size:=by have:=r1.length;simpa using this
  have l2:ys.length=js.toArray.size:=by have:=r2.length;simpa using this
  rw [l1,l2];refine SeqAt.LtAt.tuples (show s.heap.IsTuple a is.toArray from p1) (show s.heap.IsTuple b js.toArray from p2) (by lia) (fun j q1 q2=> ?_) (fun j q1 q2 z=> ?_)
  .obtain⟨x,hx,rx⟩:=cG_ r1 q1;obtain⟨y,hy,ry⟩:=cG_ r2 q2;exact((he j _ _ hx hy).at_ I (by rw [aK_];lia) rx ry).2.2
  .obtain⟨x,hx,rx⟩:=cG_ r1 q1;obtain⟨y,hy,ry⟩:=cG_ r2 q2;exact ih j _ _ hx hy z (by rw [aK_];lia) rx ry
theorem LtR.key (I:Inv X pins σ H s) {d:Nat}{a b:Addr}{xs ys:List V}{es fs:Nat->Bool} (h1:SqL X.K H a xs) (h2:SqL X.K H b ys) (he:∀(j:Nat) x y,xs[j]? =some x->ys[j]? =some y->EqR X.K H d x y (es j)) (hf:∀(j:Nat) x y,xs[j]? =some x->ys[j]? =some y->es j=false->LtR X.K H d x y (fs j))
  {A:Around} (hu:A.units+(d+1)<cLine) {prog:Program}{w:World}{E:Value->Shared->Prop}{Q:Bool->Shared->Prop} (q:Q (SeqAt.lex es fs xs.length ys.length (min xs.length ys.length) 0) s):
  wpAny (model prog w) A (keyLt' oneType' (.ref a) (.ref b)) Q E s:=by
 obtain⟨is,r1,p1,z1⟩:=I.list h1;obtain⟨js,r2,p2,z2⟩:=I.list h2;have l1:xs.length=is.toArray.size:=by have:=r1.length;simpa using this
 have l2:ys.length=js.toArray.size:=by have:=r2.length;simpa using this
 rw [l1,l2] at q;refine SeqAt.key_lists p1.isList p2.isList (by lia) (fun j q1 q2=> ?_) (fun j q1 q2 z=> ?_) q
 .obtain⟨x,hx,rx⟩:=cG_ r1 q1;obtain⟨y,hy,ry⟩:=cG_ r2 q2;exact((he j _ _ hx hy).at_ I (by rw [aK_];lia) rx ry).2.2
 .obtain⟨x,hx,rx⟩:=cG_ r1 q1;obtain⟨y,hy,ry⟩:=cG_ r2 q2;exact(hf j _ _ hx hy z).at_ I (by rw [aK_];lia) rx ry
end
end L2
namespace L2
open PySem PySem.Spec PyProof.Rows
noncomputable def sQ_ (ns:List Int):Int:=ns.getD (argBest (fun i j=>decide (ns.getD i 0<ns.getD j 0)) (ns.length-1)) 0
section
variable {X:Cx}
theorem j2_ {ys:Array (Int×Tok)}{ns:List Int} (h:ys.toList.map (·.1)=ns) (i:Nat):numAt ys i=ns.getD i 0:=by
 subst h;unfold numAt;rw [List.getD,A8,By]
theorem nE_ (hc:X.calm=true):cc_ X (.builtin "min") (fun xs H Q=>∃(p:Addr) (ns:List Int),xs=[.ref p]/\SqL X.K H p (ns.map V.int)/\0<ns.length/\Q (.int (sQ_ ns)) H):=by
 intro pins s σ H xs us Q I r h;obtain⟨p,ns,rfl,hq,h0,q⟩:=h;obtain⟨u,rfl,rx⟩:=fx_ r;cases rx;obtain⟨its,r',pl,hz⟩:=I.list hq;have hi:IntsAre its ns:=ei_ r';obtain⟨ys,e⟩:=hi.allInts.items;have n1:=hi.numsOf;rw [show its=its.toArray.toList from rfl,e,nums_intItems] at n1;have hsz:ys.size=ns.length:=by rw [<-n1];simp
 have hl:=pl.isList;rw [e] at hl;refine min_intList (I.ok.hd hc) hl (by lia) fun v h' tk hv hk=> ?_;obtain⟨t,rfl⟩:=intItems_at hv;refine⟨.int (sQ_ ns),H,I.kept hk,⟨t, ?_⟩,q⟩;unfold sQ_;rw [j2_ n1,hsz];simp only [j2_ n1]
noncomputable def ipM:TIp:=fun x y H Q=>∃i j,x= .int i/\y= .int j/\rN_ i j/\Q (.int (i*j)) H
theorem jo_:PIp X .Mult ipM:=by
 intro pins s σ H x y v u Q I r1 r2 h;obtain⟨i,j,e1,e2,c,q⟩:=h;subst e1;subst e2;obtain⟨t,rfl⟩:=r1;obtain⟨t',rfl⟩:=r2;exact imul_int ⟨.int _,H,I.tok _,⟨_,rfl⟩,q⟩ c.ok
end
end L2
namespace L2
open PySem PySem.Spec PyProof.Rows
section
variable {X:Cx}{a b:Expr}{ta:TA}{p1 p2 p3 pos:Pos}
noncomputable def fP_ (i:Int) (n:Nat):List V:=(List.range n).map fun k:Nat=>V.int (i+(k:Int))
theorem jF_ {i:Int}:∀(n:Nat) (acc:List Value) (o:Nat),acc.length=n->(∀k v,acc[k]? =some v->∃t,v=Value.int (i+(o+k:Nat)*1) t)->aW_ ((List.range' o n).map fun k:Nat=>V.int (i+(k:Int))) acc
 |0,acc,o,h,_=>by
  obtain rfl:acc=[]:=CC.mp h;exact .nil
 |n+1,acc,o,h,hv=>by
  cases acc with
  |nil=>simp at h
  |cons v acc=>
   rw [List.range'_succ,AI];obtain⟨t,rfl⟩:=hv 0 v rfl;refine .cons ⟨t,by congr 1;simp⟩ (jF_ n acc (o+1) (by simpa using h) fun k v e=> ?_);obtain⟨t,e2⟩:=hv (k+1) v (by simpa using e);exact⟨t,by rw [e2];congr 1;lia⟩
noncomputable def n9_ (ta:TA):TE:=fun σ H Q=>ta σ H fun vs H1=>∃i j:Int,vs=[.int i, .int j]/\(-(2^62)<=i/\i<2^62/\-(2^62)<=j/\j<2^62)/\(j-i).toNat<=1000/\∀l,H1 l=none->Q (.ref l) (upd H1 l (.lst (fP_ i (j-i).toNat)))
theorem lc_ (hc:X.calm=true) (hg1:Gl X "list") (hm1:X.mg "list"=none) (hg2:Gl X "range") (hm2:X.mg "range"=none) (ha:PA X [a,b] ta)
  (he1:starEach [.Call (.Name "range" p2) [a,b] [] p3] X.env=[(false,eval (.Call (.Name "range" p2) [a,b] [] p3) X.env)]:=by rfl)
  (hs:starEach [a,b] X.env=[(false,eval a X.env),(false,eval b X.env)]:=by rfl) (hs2:starEach [b] X.env=[(false,eval b X.env)]:=by rfl):
  PE X (.Call (.Name "list" p1) [.Call (.Name "range" p2) [a,b] [] p3] [] pos) (n9_ ta):=by
 intro pins s σ H Q I h;refine BQ (co_ I hg1 hm1 boot_list ?_);refine B5 ?_ he1 (by rfl);rw [he1];show wpAny _ _ (spliced [(false,eval (.Call (.Name "range" p2) [a,b] [] p3) X.env)]) _ _ s;refine CL ?_;refine Call_ (co_ I hg2 hm2 boot_range (B5 (thn (ha p3 pins s σ H _ I h) fun us s1 ⟨vs,H1,I1,r1,q1⟩=> ?_) (by rw [hs,hs2]) (by rw [hs2];rfl)));obtain⟨i,j,e,⟨q1,q2,q3,q4⟩,hn,q⟩:=q1;subst e;cases r1 with
 |cons r rr=>
  cases rr with
  |cons r' rr=>
   cases rr;obtain⟨t,rfl⟩:=r;obtain⟨t',rfl⟩:=r';refine call_range_2 ?_;refine Calls.spliced_nil ?_;refine call_list_range (n:=(j-i).toNat) (I1.ok.hd hc) (IsRange.new ..) (small_one q1 q2 q3 q4) (by rw [rangeSize_one];split<;>lia) (by lia) fun h' tk acc' c' hk hS hacc=> ?_
   have ne:∀b o,s1.heap.get? b=some o->h'.get? b=some o:=fun b o z=>hk b o (A7 _ z);obtain⟨z1,z2⟩:=hacc;have vv:aW_ (fP_ i (j-i).toNat) acc'.toList:=by
    unfold fP_;rw [List.range_eq_range'];exact jF_ (j-i).toNat acc'.toList 0 (by simpa using z1) fun k v e=>by
     obtain⟨t,e2⟩:=z2 k v (by simpa using e);exact⟨t,by rw [e2];simp⟩
   have le:s1.heap.objs.size<=(s1.heap.push {cls:= .type "range",data:= .fields #[.int i t, .int j t', .int 1 s1.toks]}).objs.size:=by rw [Aw];exact Cf _
   exact⟨.ref _,_,I1.laid (t':=tk) ne le (show aG_ X.prog X.w _ h' _ (.lst (fP_ i (j-i).toNat)) from⟨by unfold fP_;rw [A1,B',B0];lia,acc'.toList,c',vv,hS⟩),rfl,q _ (I1.hok.fresh le)⟩
end
end L2
namespace L2
open PySem PySem.Spec PyProof.Rows
noncomputable def tI (xs:List Int):D:= .t (xs.map .i)
theorem eF_ {H:Hp}:∀{xs:List Int}{vs:List V},Iss H (xs.map .i) vs->vs=xs.map V.int
 |[],vs,h=>h
 |x::xs,vs,h=>by
  obtain⟨u,us,rfl,h1,h2⟩:=h;rw [c4_ h1,eF_ h2];rfl
theorem g2_ {H:Hp}:∀(xs:List Int),Iss H (xs.map .i) (xs.map V.int)
 |[]=>rfl
 |x::xs=>⟨_,_,rfl,ex_,g2_ xs⟩
theorem cz_ {H:Hp}{xs:List Int}{v:V} (h:Is H (tI xs) v):∃a,v= .ref a/\H a=some (.tup (xs.map V.int)):=by
 obtain⟨a,vs,rfl,ha,hi⟩:=hj_ h;rw [eF_ hi] at ha;exact⟨a,rfl,ha⟩
theorem h9_ {H:Hp}{xs:List Int}{a:Addr} (h:H a=some (.tup (xs.map V.int))):Is H (tI xs) (.ref a):=g1_ h (g2_ xs)
end L2
namespace L2
open PySem PySem.Spec PyProof.Rows PySem.W
section
variable {n:Nat}
noncomputable def Ord (n:Nat) (p:Array Nat):Prop:=p.Perm (List.range n).toArray
theorem Ord.size {p:Array Nat} (h:Ord n p):p.size=n:=by
 have:=(DA.mp h).length_eq;simpa using this
theorem Ord.lt {p:Array Nat} (h:Ord n p) {i:Nat} (hi:i∈p.toList):i<n:=by
 have:=(DA.mp h).mem_iff.mp hi;simpa using this
theorem Ord.bubble {p:Array Nat} (h:Ord n p) (i j:Nat):Ord n (PyProof.Rows.bubble p i j):=(bubble_perm p i j).trans h
theorem Ord.kas {p:Array Nat} (h:Ord n p) (i j:Nat):Ord n (kas_rev p i j):=(mirror_perm p i j _).trans h
theorem Ord.getD {p:Array Nat} (h:Ord n p) (hn:0<n) (i:Nat):p.getD i 0<n:=by
 by_cases hi:i<p.size
 .have e:p.getD i 0=p[i]:=by simp [Array.getD,hi]
  rw [e];exact h.lt (by simp)
 .have e:p.getD i 0=0:=by simp [Array.getD,hi]
  rw [e];exact hn
noncomputable def bb_ (n:Nat) {α:Type} (R:α->Prop):KasT α->Prop
 | .ret a=>R a
 | .ask i j k=>i<n/\j<n/\∀b,bb_ n R (k b)
theorem bb_.bind {α β:Type}{R:α->Prop}{R':β->Prop}{f:α->KasT β} (hf:∀a,R a->bb_ n R' (f a)):∀{t:KasT α},bb_ n R t->bb_ n R' (t.bind f)
 | .ret a,h=>hf a h
 | .ask i j k,h=>⟨h.1,h.2.1,fun b=>bb_.bind hf (h.2.2 b)⟩
variable (hn:0<n)
include hn
theorem mU_ {p:Array Nat} (h:Ord n p):∀f m,bb_ n (fun _=>True) (kas_asc p f m)
 |0,m=>trivial
 |f+1,m=>⟨h.getD hn _,h.getD hn _,fun b=>by
  cases b with
  |true=>exact trivial
  |false=>exact mU_ h f (m+1)⟩
theorem gL_:∀(f:Nat) (p:Array Nat) (m q:Nat),Ord n p->bb_ n (fun r=>Ord n r.1) (kas_desc f p m q)
 |0,p,m,q,h=>h
 |f+1,p,m,q,h=>⟨h.getD hn _,h.getD hn _,fun b=>by
  cases b with
  |true=>
   show bb_ n _ (if q>0 then kas_desc f (kas_rev p (m-(q+1)) m) (m+1) 0 else kas_desc f p (m+1) 0);by_cases hq:q>0
   .rw [A6 hq];exact gL_ f _ _ _ (h.kas _ _)
   .rw [A3 hq];exact gL_ f _ _ _ h
  |false=>
   refine(show bb_ n _ (KasT.ask (p.getD (m-1) 0) (p.getD m 0) fun d=>if d=true then KasT.ret (p,m,q) else kas_desc f p (m+1) (q+1)) from⟨h.getD hn _,h.getD hn _,fun b=> ?_⟩);cases b with
   |true=>exact h
   |false=>exact gL_ f _ _ _ h⟩
theorem mS_ {p:Array Nat} (h:Ord n p) (m k:Nat):bb_ n (fun r=>Ord n r.2) (kas_tail3 m k p):=by
 unfold kas_tail3;refine bb_.bind (fun a _=> ?_) (mU_ hn (h.kas 0 m) _ _);exact h.kas 0 m
theorem mT_ {p:Array Nat} (h:Ord n p) (m k:Nat):bb_ n (fun r=>Ord n r.2) (kas_descPart m k p):=by
 refine(gL_ hn _ _ _ _ h).bind fun r hr=> ?_;by_cases hq:r.2.2>0
 .rw [A6 hq];exact mS_ hn (hr.kas _ _) _ _
 .rw [A3 hq];exact mS_ hn hr _ _
theorem oL_ {p:Array Nat} (h:Ord n p) (k:Nat):bb_ n (fun r=>Ord n r.2) (kas_count k p):=by
 refine(mU_ hn h _ _).bind fun m _=> ?_;by_cases h1:(m==k)=true
 .rw [A6 h1];exact h
 .rw [A3 h1];by_cases h2:m>1
  .rw [A6 h2];refine⟨h.getD hn _,h.getD hn _,fun b=> ?_⟩;cases b with
   |true=>exact h
   |false=>exact mT_ hn (h.kas _ _) _ _
  .rw [A3 h2];exact mT_ hn h _ _
theorem gK_ {p:Array Nat} (h:Ord n p) (k:Nat):∀f l r,bb_ n (fun _=>True) (kas_place p k f l r)
 |0,l,r=>trivial
 |f+1,l,r=>by
  unfold kas_place;by_cases h1:l>=r
  .rw [A6 h1];exact trivial
  .rw [A3 h1];refine⟨h.getD hn _,h.getD hn _,fun b=> ?_⟩;cases b with
   |true=>exact gK_ h k f _ _
   |false=>exact gK_ h k f _ _
theorem pz_:∀(f:Nat) (p:Array Nat) (k:Nat),Ord n p->bb_ n (Ord n) (kas_bin f p k)
 |0,p,k,h=>h
 |f+1,p,k,h=>(gK_ hn h k _ _ _).bind fun l _=>pz_ f _ _ (h.bubble _ _)
theorem qY_:bb_ n (Ord n) (kas_sort n):=by
 refine(oL_ hn (show Ord n (List.range n).toArray from Array.Perm.refl _) n).bind fun r hr=> ?_;by_cases h:r.1<n
 .rw [A6 h];exact pz_ hn _ _ _ hr
 .rw [A3 h];exact hr
end
section
variable {prog:Program}{w:World}{A:Around}{E:Value->Shared->Prop}{s:Shared}
noncomputable def gb_ (vs:List Value) (i:Nat):Keyed:=(vs.getD i .none,vs.getD i .none)
noncomputable abbrev aO_ (h:Heap) (a:Addr) (vs:List Value):Heap:=((h.update a (Obj.mapSeq fun _=>(#[]:Array Value))).push (seqObj "tuple" vs.toArray 0)).push (seqObj "list" #[] 0)
theorem iL_ (vs:List Value):(List.toArray (List.range vs.length)).map (gb_ vs)=vs.toArray.zip vs.toArray:=by
 refine Array.ext (by simp) fun i h1 h2=> ?_;have hi:i<vs.length:=by simpa using h1
 simp [gb_,hi]
noncomputable abbrev dC_ (h:Heap) (vs:List Value):Heap:=aO_ (((h.push (seqObj "list" #[] 0)).update h.objs.size (Obj.mapSeq (· ++vs.toArray))).push (seqObj "list" vs.toArray 0)) (h.objs.size+1) vs
theorem hp_ {h:Heap}{vs:List Value}{b:Addr}{o:Obj} (hb:h.get? b=some o):(dC_ h vs).get? b=some o:=by
 have hlt:b<h.objs.size:=AJ hb;have sz:(((h.push (seqObj "list" #[] 0)).update h.objs.size (Obj.mapSeq (· ++vs.toArray))).push (seqObj "list" vs.toArray 0)).objs.size=h.objs.size+2:=by rw [Br,B3,Br]
 have n0:b≠h.objs.size:=AL hlt;have n1:b≠h.objs.size+1:=AL (Ac hlt);have n2:b≠h.objs.size+2:=AL (Ac (Ac hlt));have n3:b≠h.objs.size+2+1:=AL (Ac (Ac (Ac hlt)));rw [B4 _ _ _ (by rw [Br,B3,sz];exact n3),B4 _ _ _ (by rw [B3,sz];exact n2),DC _ _ _ _ n1,
  B4 _ _ _ (by rw [B3,Br];exact n1),DC _ _ _ _ n0,B4 _ _ _ n0]
 exact hb
end
section
variable {prog:Program}{w:World}{A:Around}{E:Value->Shared->Prop}{s:Shared}
theorem jR_ {a:Addr}{vs:List Value}{n:Nat}{P:PySem.Fin->Shared->Prop} (ho:s.heap.get? a=some (seqObj "list" vs.toArray n)) (h2:vs.length<2)
  (h:P (.done (.ret .none)) {s with heap:=sortedHeap s.heap a vs vs.toArray}):wpAny (model prog w) A (Builtin.«list.sort» ⟨[.ref a],[]⟩) P E s:=by
 rw [list_sort_plain];have ha:a<s.heap.objs.size:=AJ ho;refine A0 (listItems_at ho rfl ?_);refine A0 (Cb ho rfl ?_ (by rw [AE,B0];lia) (AO _));obtain⟨e1,ho1⟩:∃e1,(s.heap.update a (Obj.mapSeq fun _=>(#[]:Array Value))).get? a=some (seqObj "list" #[] e1):=⟨_,CY ho (fun _=> #[])⟩;refine A0 (seqEpoch_at ho1 rfl ?_);refine A0 (wpAny_newTuple ?_ (by show vs.length<=_;rw [B0];lia));refine A0 (D5 ?_ (AO _));refine Au ?_;have ho6:(aO_ s.heap a vs).get? a=some (seqObj "list" #[] e1):=by
  rw [B4 _ _ _ (by rw [Br,B3];exact AL (Ac ha)),B4 _ _ _ (by rw [B3];exact AL ha)];exact ho1
 show wpAny (model prog w) A _ P E {s with heap:=aO_ s.heap a vs};dsimp only;have hn2:vs.toArray.size<2:=by rw [AE];lia
 rw [A6 hn2,A6 hn2];refine A0 (A2 ?_);rw [StateT.run_pure];refine A0 (A2 ?_);dsimp only;have eo:(vs.toArray.zip vs.toArray).map (·.2)=vs.toArray:=by
  refine Array.ext (by simp) fun i h1 h2=> ?_;simp
 refine A0 (seqEpoch_at ho6 rfl ?_);rw [eo];refine A0 (Cb ho6 rfl ?_ (AO _) (by rw [AE,B0];lia));simp only [Cj,AG,Am];exact A2 h
theorem k4_ {l:Addr}{vs:List Value}{Q:Value->Shared->Prop} (hl:s.heap.IsList l vs.toArray) (h2:vs.length<2)
  (h:Q (.ref (s.heap.objs.size+1)) {s with heap:=sortedAll s.heap vs vs.toArray}):wpAny (model prog w) A (call (.builtin "sorted") [.ref l]) Q E s:=by
 refine Calls.call_function_entry kind_sorted plain_sorted entry_sorted (args_sorted1 _) ?_;unfold Builtin.«sorted»;refine A0 (m:=checkCount "sorted" 1 1 _) (A2 ?_);refine A0 (collect_list hl ?_ (by rw [B0];lia));refine A0 (D5 ?_ (by rw [B0];lia));have hsz:((s.heap.push (seqObj "list" #[] 0)).update s.heap.objs.size (Obj.mapSeq (· ++vs.toArray))).objs.size=s.heap.objs.size+1:=by
  rw [B3,Br]
 have hoL:(((s.heap.push (seqObj "list" #[] 0)).update s.heap.objs.size (Obj.mapSeq (· ++vs.toArray))).push (seqObj "list" vs.toArray 0)).get? (s.heap.objs.size+1)=some (seqObj "list" vs.toArray 0):=by
  rw [<-hsz];exact AH _ rfl
 show wpAny _ _ _ _ _ {s with heap:=((s.heap.push (seqObj "list" #[] 0)).update s.heap.objs.size (Obj.mapSeq (· ++vs.toArray))).push (seqObj "list" vs.toArray 0)};rw [hsz];refine A0 (Au (Ag slot_list_sort ⟨_,hoL,rfl⟩ entry_list_sort (jR_ (s:={s with heap:=((s.heap.push (seqObj "list" #[] 0)).update s.heap.objs.size (Obj.mapSeq (· ++vs.toArray))).push (seqObj "list" vs.toArray 0)}) hoL h2 ⟨_,rfl, ?_⟩) (args_list_sort _)));exact A2 ⟨_,rfl,h⟩
end
section
variable {X:Cx}
theorem eM_ {rs:List V}{its:List Value} (r:aW_ rs its):∀(l:List Nat),(∀i∈l,i<rs.length)->aW_ (l.map fun i=>rs.getD i .non) (l.map fun i=>its.getD i .none)
 |[],_=> .nil
 |i::l,h=>by
  have hi:i<rs.length:=h i (by simp);have e:rs[i]? =some rs[i]:=A4 hi;obtain⟨u,hu,ru⟩:=r.get e;rw [AI,AI];refine .cons ?_ (eM_ r l fun j hj=>h j (by simp [hj]));rw [List.getD,List.getD,e,hu];exact ru
end
noncomputable def lk_ (fin:Bool):List Int->List Int->Bool
 |x::xs,y::ys=>if x=y then lk_ fin xs ys else decide (x<y)
 |_,_=>fin
noncomputable def ltI (xs ys:List Int):Bool:=lk_ (decide (xs.length<ys.length)) xs ys
section
variable {prog:Program}{w:World}{A:Around}{E:Value->Shared->Prop}{s:Shared}
theorem kc_ {fin:Bool}{Q:Bool->Shared->Prop}:∀{xs ys:List Int}{is js:List Value} (i:Nat),aW_ (xs.map V.int) is->aW_ (ys.map V.int) js->Q (lk_ fin xs ys) s->KatLex prog w A true fin Q (is.zip js) i s
 |[],ys,is,js,i,h1,h2,q=>by
  cases h1;rw [List.zip_nil_left];exact kat_nil (by cases ys<;>exact q)
 |x::xs,[],is,js,i,h1,h2,q=>by
  cases h2;rw [List.zip_nil_right];exact kat_nil q
 |x::xs,y::ys,is,js,i,h1,h2,q=>by
  cases h1 with
  |cons r1 h1=>
  cases h2 with
  |cons r2 h2=>
  obtain⟨t,rfl⟩:=r1;obtain⟨t',rfl⟩:=r2;rw [List.zip_cons_cons];refine kat_cons ?_;refine wpAny_eqBool_int ?_;unfold lk_ at q;by_cases e:x=y
  .rw [A6 e] at q;rw [show(x==y)=true by simp [e]];exact kat_yes (kc_ (i+1) h1 h2 q)
  .rw [A3 e] at q;rw [show(x==y)=false by simp [e]];refine kat_no ?_;cases hb:(true&&i==0) with
   |true=>exact oneLt_int q
   |false=>exact kat_one _ _ (SeqAt.LtAt.int_int x t y t' prog w _ _ q)
end
theorem oI_ (xss:List (List Int)):(List.range xss.length).map (fun i=>xss.getD i [])=xss:=by
 refine List.ext_getElem (by simp) fun i h1 h2=> ?_;simp [List.getD,h2]
theorem kq_ {H:Hp}{xss:List (List Int)}{rs:List V} (h:Iss H (xss.map tI) rs):∀(l:List Nat),(∀i∈l,i<xss.length)->Iss H ((l.map fun i=>xss.getD i []).map tI) (l.map fun i=>rs.getD i .non)
 |[],_=>rfl
 |i::l,hl=>by
  have hi:i<xss.length:=hl i (by simp);have hr:i<rs.length:=by rw [h.length,A1];exact hi
  refine⟨_,_,rfl, ?_,kq_ h l fun j hj=>hl j (by simp [hj])⟩;obtain⟨d,hd,h1⟩:=h.of_get (A4 hr);rw [A8,A4 hi] at hd;cases hd;show Is H (tI (xss.getD i [])) (rs.getD i .non);rw [AA,AA,A4 hi,A4 hr];exact h1
section
variable {X:Cx}{pins:List (Addr×Obj)}{σ:St}{H:Hp}{s:Shared}
theorem kl_ (I:Inv X pins σ H s):∀{xss:List (List Int)}{rs:List V}{its:List Value},Iss H (xss.map tI) rs->aW_ rs its->(∀xs∈xss,xs≠[])->∃fs:List Value,KatTups s.heap its fs/\fs.length=its.length/\∀f∈fs,∃z t,f=Value.int z t
 |[],rs,its,h,r,_=>by
  obtain rfl:rs=[]:=h;cases r;exact⟨[],KatTups.nil,rfl,fun _ h=>nomatch h⟩
 |xs::xss,rs,its,h,r,hne=>by
  obtain⟨u,us,rfl,h1,h2⟩:=h;cases r with
  |cons r1 r2=>
  rename_i v its;obtain⟨fs,k1,k2,k3⟩:=kl_ I h2 r2 fun ys hy=>hne ys (by simp [hy]);obtain⟨a,rfl,ha⟩:=cz_ h1;obtain rfl:v=Value.ref a:=r1;obtain⟨is,q1,q2,q3⟩:=I.tuple (SqT.of (K:=X.K) ha);obtain⟨o,ho,hc,n,hd⟩:=(show s.heap.IsTuple a is.toArray from q2)
  match xs,hne xs (by simp) with
  |x::xs',_=>
  cases q1 with
  |cons q0 q1=>
  obtain⟨t,rfl⟩:=q0;refine⟨.int x t::fs,KatTups.cons ho hc hd (by simp) k1,by simp [k2],fun f hf=> ?_⟩;rcases AK.mp hf with rfl|hf
  .exact⟨_,_,rfl⟩
  .exact k3 f hf
theorem oP_ (I:Inv X pins σ H s) {a b:Addr}{xs ys:List Int} (h1:SqT X.K H a (xs.map V.int)) (h2:SqT X.K H b (ys.map V.int)) {A:Around}{prog:Program}{w:World}{E:Value->Shared->Prop}{Q:Bool->Shared->Prop} (q:Q (ltI xs ys) s):
  wpAny (model prog w) A (keyLt' (tuples' true) (.ref a) (.ref b)) Q E s:=by
 obtain⟨is,r1,p1,z1⟩:=I.tuple h1;obtain⟨js,r2,p2,z2⟩:=I.tuple h2;obtain⟨o1,ho1,hc1,n1,hd1⟩:=(show s.heap.IsTuple a is.toArray from p1);obtain⟨o2,ho2,hc2,n2,hd2⟩:=(show s.heap.IsTuple b js.toArray from p2);refine kat_lt ho1 hd1 ho2 hd2 ?_;have l1:is.toArray.size=xs.length:=by have:=r1.length;simp at this⊢;lia
 have l2:js.toArray.size=ys.length:=by have:=r2.length;simp at this⊢;lia
 rw [l1,l2];exact kc_ 0 r1 r2 q
end
end L2
namespace L2
open PySem PySem.Spec PyProof.Rows
noncomputable def oU_ (v:Value) (k:Int):Bool:=match v with
 | .int i _=>decide (i=k)
 |_=>false
noncomputable def g8_:List DictEntry->List (Int×Int)->Bool
 |[],[]=>true
 |e::es,p::kvs=>oU_ e.key p.1&&decide (e.hash=hashInt p.1)&&oU_ e.val p.2&&g8_ es kvs
 |_,_=>false
noncomputable def sL_ (o:Obj) (kvs:List (Int×Int)):Bool:=match o.cls,o.dict,o.data with
 | .type c,none, .dict es _=>c=="dict"&&o.slots.isEmpty&&g8_ es.toList kvs
 |_,_,_=>false
noncomputable def kD_ (K:W.Frag) (a:Addr) (kvs:List (Int×Int)):Bool:=match K.lookup a with
 |some o=>sL_ o kvs
 |none=>false
theorem ks_ {v:Value}{k:Int} (h:oU_ v k=true):∃t,v= .int k t:=by
 unfold oU_ at h;split at h
 .rename_i i t;exact⟨t,by rw [As h]⟩
 .cases h
theorem f8_ {e:DictEntry}{es:List DictEntry}{p:Int×Int}{kvs:List (Int×Int)} (h:g8_ (e::es) (p::kvs)=true):(∃t,e.key= .int p.1 t)/\e.hash=hashInt p.1/\(∃t,e.val= .int p.2 t)/\g8_ es kvs=true:=by
 unfold g8_ at h;rw [AM,AM,AM] at h;exact⟨ks_ h.1.1.1,As h.1.1.2,ks_ h.1.2,h.2⟩
theorem f6_:∀{es:List DictEntry}{kvs:List (Int×Int)},g8_ es kvs=true->∀e∈es,∃k,Value.isInt k e.key=true/\e.hash=hashInt k
 |[],_,_,e,he=>nomatch he
 |e::es,[],h,_,_=>by unfold g8_ at h;cases h
 |e::es,p::kvs,h,e',he=>by
  obtain⟨⟨t,h1⟩,h2,_,h4⟩:=f8_ h;rcases AK.mp he with rfl|he
  .exact⟨p.1,by rw [h1];simp [Value.isInt],h2⟩
  .exact f6_ h4 e' he
theorem f7_ {k v:Int}:∀{es:List DictEntry}{kvs:List (Int×Int)},g8_ es kvs=true->kvs.lookup k=some v->∃t,(es.find? fun e=>Value.isInt k e.key).map (·.val)=some (.int v t)
 |_,[],_,hv=>nomatch hv
 |[],p::kvs,h,_=>by unfold g8_ at h;cases h
 |e::es,p::kvs,h,hv=>by
  obtain⟨⟨t,h1⟩,h2,⟨u,h3⟩,h4⟩:=f8_ h;rw [CB] at hv;rw [BL];by_cases q:k=p.1
  .have b:(k==p.1)=true:=by simp [q]
   rw [b] at hv;have hv':p.2=v:=Ad hv;have i:Value.isInt k e.key=true:=by rw [h1,q];simp [Value.isInt]
   rw [i];exact⟨u,by rw [<-hv',<-h3];rfl⟩
  .have b:(k==p.1)=false:=by simp [q]
   rw [b] at hv;have i:Value.isInt k e.key=false:=by rw [h1];simp [Value.isInt];exact fun z=>q z.symm
   rw [i];exact f7_ h4 hv
noncomputable def r4_ (K:W.Frag) (td ty:TE):TE:=fun σ H Q=>td σ H fun x H1=>ty σ H1 fun y H2=>∃a kvs k v,x= .ref a/\kD_ K a kvs=true/\y= .int k/\kvs.lookup k=some v/\Q (.int v) H2
theorem ox_ {X:Cx}{o i:Expr}{pos:Pos}{td ty:TE} (ho:PE X o td) (hi:PE X i ty) (hs:tL_ i):PE X (.Subscript o i pos) (r4_ X.K td ty):=by
 intro pins s σ H Q I h;refine iP_ PySem.F.slot_dict_getitem.lookup hs (thn (ho pins s σ H _ I h) fun u s1 ⟨x,H1,I1,rx,q1⟩=>thn (hi pins s1 σ H1 _ I1 q1) fun iv s2 ⟨y,H2,I2,ry,a,kvs,k,v,ex,hd,ey,hv,q2⟩=> ?_);subst ex ey;obtain rfl:u=Value.ref a:=rx;obtain⟨t,rfl⟩:=ry;unfold kD_ at hd;split at hd
 .rename_i ob hob;have hg:=I2.kIn a ob hob;unfold sL_ at hd;split at hd
  .rename_i c es ep hc hdi hda;rw [AM,AM] at hd;obtain⟨⟨d1,d2⟩,d3⟩:=hd;have hc':ob.cls= .type "dict":=by rw [hc,eq_of_beq d1]
   obtain⟨t',ht⟩:=f7_ d3 hv;have mp:s2.heap.MapOf (intKind X.prog X.w) a (findBy Value.isInt es):=⟨ob,es,ep,hg,⟨hc',hdi,Array.isEmpty_iff.mp d2⟩,hda,fun e he=>f6_ d3 e (by simpa using he),fun _=>rfl⟩;refine⟨⟨ob,hg,hc'⟩,wpAny_getItem_of (knd:=intKind X.prog X.w) (k:=k) (by simp [intKind,Value.isInt]) mp (v:= .int v t') ?_ ⟨.int v,H2,I2.tok _,⟨_,rfl⟩,q2⟩⟩;show findBy Value.isInt es k=_;unfold findBy;obtain⟨l⟩:=es;simpa using ht
  .cases hd
 .cases hd
end L2
namespace L2
open PySem PySem.Spec PyProof.Rows
noncomputable def u9_ (K:W.Frag) (H:Hp) (n:Nat) (xs:List V) (x:V) (es:Nat->Bool):Prop:=n<=8/\(∀(j:Nat) z,xs[j]? =some z->(∃a,z= .ref a)/\EqR K H n z x (es j))/\∀(i j:Nat) z,xs[i]? =some z->xs[j]? =some z->es i=es j
section
variable {X:Cx}{pins:List (Addr×Obj)}{σ:St}{H:Hp}{s:Shared}
open Classical in
noncomputable def ih_ (its:List Value) (es:Nat->Bool) (u:Value):Bool:=decide (∃j:Nat,its[j]? =some u/\es j=true)
end
section
variable {X:Cx}
end
end L2
namespace L2
open PySem PySem.Spec PyProof.Rows PySem.W
noncomputable def Ask (K:W.Frag) (H:Hp) (x y:V) (b:Bool):Prop:=∃(a1 a2:Addr) (xs ys:List V) (d:Nat) (es fs:Nat->Bool),x= .ref a1/\y= .ref a2/\SqL K H a1 xs/\SqL K H a2 ys/\d<=4/\
 (∀(j:Nat) x y,xs[j]? =some x->ys[j]? =some y->EqR K H d x y (es j))/\(∀(j:Nat) x y,xs[j]? =some x->ys[j]? =some y->es j=false->LtR K H d x y (fs j))/\b=SeqAt.lex es fs xs.length ys.length (min xs.length ys.length) 0
section
variable {X:Cx}
end
section
variable {K:W.Frag}{H:Hp}
end
end L2
namespace L2
open PySem PySem.Spec PyProof.Rows PyProof
section
variable {prog:Program}{w:World}{A:Around}{R:Result->Shared->Prop}{I:Addr}{fp wr:List Addr}{n:Nat}{P:Nat->Value->Prop}{St:Nat->Heap->Prop}{nm:Str}{dv:Value}
end
section
variable {prog:Program}{w:World}{A:Around}{E:Value->Shared->Prop}{s:Shared}
end
section
variable {X:Cx}{e e2:Expr}{p pos kpos:Pos}{ta tk:TA}
end
end L2
namespace L2
open PySem PySem.Spec PyProof.Rows PySem.W
noncomputable def cI_ (c:Nat->Nat->Bool) {α:Type}:KasT α->α
 | .ret a=>a
 | .ask i j k=>cI_ c (k (c i j))
theorem cp_ {c:Nat->Nat->Bool}{α β:Type}{f:α->KasT β}:∀(t:KasT α),cI_ c (t.bind f)=cI_ c (f (cI_ c t))
 | .ret _=>rfl
 | .ask i j k=>cp_ (k (c i j))
structure Ordr (c:Nat->Nat->Bool):Prop where
 asym:∀a b,c a b=true->c b a=false
 tr:∀a b d,c b a=false->c d b=false->c d a=false
section
variable {c:Nat->Nat->Bool}
noncomputable abbrev at0 (p:Array Nat) (i:Nat):Nat:=p.getD i 0
noncomputable def Up (c:Nat->Nat->Bool) (p:Array Nat) (m:Nat):Prop:=∀i j,i<j->j<m->c (at0 p j) (at0 p i)=false
noncomputable def Dn (c:Nat->Nat->Bool) (p:Array Nat) (m:Nat):Prop:=∀i j,i<j->j<m->c (at0 p i) (at0 p j)=false
theorem Up.more (O:Ordr c) {p:Array Nat}{m:Nat} (h:Up c p m) (hm:0<m) (e:c (at0 p m) (at0 p (m-1))=false):Up c p (m+1):=by
 intro i j hij hj;by_cases hjm:j<m
 .exact h i j hij hjm
 .obtain rfl:j=m:=by lia
  by_cases hi:i=j-1
  .subst hi;exact e
  .exact O.tr _ _ _ (h i (j-1) (by lia) (by lia)) e
theorem Dn.more (O:Ordr c) {p:Array Nat}{m:Nat} (h:Dn c p m) (hm:0<m) (e:c (at0 p (m-1)) (at0 p m)=false):Dn c p (m+1):=by
 intro i j hij hj;by_cases hjm:j<m
 .exact h i j hij hjm
 .obtain rfl:j=m:=by lia
  by_cases hi:i=j-1
  .subst hi;exact e
  .exact O.tr _ _ _ e (h i (j-1) (by lia) (by lia))
theorem gW_ (O:Ordr c) {p:Array Nat}:∀(f m:Nat),0<m->Up c p m->m<=cI_ c (kas_asc p f m)/\cI_ c (kas_asc p f m)<=m+f/\Up c p (cI_ c (kas_asc p f m))/\(cI_ c (kas_asc p f m)<m+f->c (at0 p (cI_ c (kas_asc p f m))) (at0 p (cI_ c (kas_asc p f m)-1))=true)
 |0,m,hm,h=>⟨A9 _,A9 _,h,fun z=>absurd z (Bs _)⟩
 |f+1,m,hm,h=>by
  unfold kas_asc cI_;cases e:c (p.getD m 0) (p.getD (m-1) 0) with
  |true=>
   dsimp only;rw [A6 rfl];exact⟨A9 _,by show m<=_;lia,h,fun _=>e⟩
  |false=>
   dsimp only;rw [A3 (by decide)];obtain⟨h1,h2,h3,h4⟩:=gW_ O f (m+1) (by lia) (h.more O hm e);exact⟨by lia,by lia,h3,fun z=>h4 (by lia)⟩
theorem db_ {p:Array Nat}{i j:Nat} (hj:j<=p.size) (k:Nat):at0 (kas_rev p i j) k=if i<=k/\k<j then at0 p (i+j-1-k) else at0 p k:=by
 have h:=getElem?_mirror_all (xs:=p) (i:=i) hj k;have e:∀q:Array Nat,∀k,at0 q k=(q[k]?).getD 0:=fun q k=>by simp [at0,Array.getD];split<;>simp [*]
 rw [e,e,e];unfold kas_rev;rw [h];split<;>rfl
theorem cu_ (p:Array Nat) (i j:Nat):(kas_rev p i j).size=p.size:=mirror_size _ _ _ _
theorem Dn.rev_all {p:Array Nat}{m:Nat} (h:Dn c p m) (hm:m<=p.size):Up c (kas_rev p 0 m) m:=by
 intro i j hij hj;rw [db_ hm,db_ hm,A6 ⟨by lia,hj⟩,A6 ⟨by lia,by lia⟩];exact h _ _ (by lia) (by lia)
theorem Up.rev_all {p:Array Nat}{m:Nat} (h:Up c p m) (hm:m<=p.size):Dn c (kas_rev p 0 m) m:=by
 intro i j hij hj;rw [db_ hm,db_ hm,A6 ⟨by lia,by lia⟩,A6 ⟨by lia,hj⟩];exact h _ _ (by lia) (by lia)
theorem Dn.rev_blk {p:Array Nat}{m q:Nat} (h:Dn c p m) (hm:m<=p.size) (hq:q+1<=m) (hb:∀i j,m-(q+1)<=i->i<m->m-(q+1)<=j->j<m->c (at0 p i) (at0 p j)=false):Dn c (kas_rev p (m-(q+1)) m) m:=by
 intro i j hij hj;rw [db_ hm,db_ hm];by_cases h1:m-(q+1)<=i
 .rw [A6 ⟨h1,by lia⟩,A6 ⟨by lia,hj⟩];exact hb _ _ (by lia) (by lia) (by lia) (by lia)
 .rw [A3 (by lia)];by_cases h2:m-(q+1)<=j
  .rw [A6 ⟨h2,hj⟩];exact h _ _ (by lia) (by lia)
  .rw [A3 (by lia)];exact h _ _ hij hj
noncomputable def Blk (c:Nat->Nat->Bool) (p:Array Nat) (m q:Nat):Prop:=q+1<=m/\∀i j,m-(q+1)<=i->i<m->m-(q+1)<=j->j<m->c (at0 p i) (at0 p j)=false
theorem dN_ (O:Ordr c):∀(f:Nat) (p:Array Nat) (m q:Nat),m+f<=p.size->0<m->Dn c p m->Blk c p m q->∀r,r=cI_ c (kas_desc f p m q)->r.1.size=p.size/\m<=r.2.1/\r.2.1<=m+f/\Dn c r.1 r.2.1/\Blk c r.1 r.2.1 r.2.2
 |0,p,m,q,_,_,hd,hb,r,e=>by
  subst e;exact⟨rfl,A9 _,A9 _,hd,hb⟩
 |f+1,p,m,q,hs,hm,hd,hb,r,e=>by
  unfold kas_desc cI_ at e;cases e1:c (p.getD m 0) (p.getD (m-1) 0) with
  |true=>
   rw [e1] at e;dsimp only at e;rw [A6 rfl] at e;have e2:=O.asym _ _ e1;by_cases hq:q>0
   .rw [A6 hq] at e;have hd2:=hd.rev_blk (by lia) hb.1 hb.2;have at_m:at0 (kas_rev p (m-(q+1)) m) m=at0 p m:=by rw [db_ (by lia),A3 (by lia)]
    have at_m1:at0 (kas_rev p (m-(q+1)) m) (m-1)=at0 p (m-(q+1)+m-1-(m-1)):=by rw [db_ (by lia),A6 ⟨by have:=hb.1;lia,by lia⟩]
    have e3:c (at0 (kas_rev p (m-(q+1)) m) (m-1)) (at0 (kas_rev p (m-(q+1)) m) m)=false:=by
     rw [at_m,at_m1];have b1:=hb.1;exact O.tr _ _ _ e2 (hb.2 _ (m-1) (by lia) (by lia) (by lia) (by lia))
    have hd3:=hd2.more O hm e3;have hb3:Blk c (kas_rev p (m-(q+1)) m) (m+1) 0:=⟨by lia,fun i j h1 h2 h3 h4=>by
     obtain rfl:i=m:=by lia
     obtain rfl:j=i:=by lia
     cases h:c (at0 (kas_rev p (j-(q+1)) j) j) (at0 (kas_rev p (j-(q+1)) j) j) with
     |false=>rfl
     |true=>have:=O.asym _ _ h;rw [h] at this;cases this⟩
    obtain⟨r1,r2,r3,r4,r5⟩:=dN_ O f _ (m+1) 0 (by rw [cu_];lia) (by lia) hd3 hb3 r e;exact⟨by rw [r1,cu_],by lia,by lia,r4,r5⟩
   .rw [A3 hq] at e;have hd3:=hd.more O hm e2;have hb3:Blk c p (m+1) 0:=⟨by lia,fun i j h1 h2 h3 h4=>by
     obtain rfl:i=m:=by lia
     obtain rfl:j=i:=by lia
     cases h:c (at0 p j) (at0 p j) with
     |false=>rfl
     |true=>have:=O.asym _ _ h;rw [h] at this;cases this⟩
    obtain⟨r1,r2,r3,r4,r5⟩:=dN_ O f _ (m+1) 0 (by lia) (by lia) hd3 hb3 r e;exact⟨r1,by lia,by lia,r4,r5⟩
  |false=>
   rw [e1] at e;dsimp only at e;rw [A3 (by decide)] at e;unfold cI_ at e;cases e2:c (p.getD (m-1) 0) (p.getD m 0) with
   |true=>
    rw [e2] at e;dsimp only at e;rw [A6 rfl] at e;subst e;exact⟨rfl,A9 _,by show m<=_;lia,hd,hb⟩
   |false=>
    rw [e2] at e;dsimp only at e;rw [A3 (by decide)] at e;have hd3:=hd.more O hm e2;have b1:=hb.1;have hb3:Blk c p (m+1) (q+1):=⟨by lia,fun i j h1 h2 h3 h4=>by
     by_cases hi:i=m
     .by_cases hj:j=m
      .subst hi;subst hj;cases h:c (at0 p j) (at0 p j) with
       |false=>rfl
       |true=>have:=O.asym _ _ h;rw [h] at this;cases this
      .subst hi;exact O.tr _ _ _ (hb.2 _ _ (by lia) (by lia) (by lia) (by lia)) e1
     .by_cases hj:j=m
      .subst hj;exact O.tr _ _ _ e2 (hb.2 _ _ (by lia) (by lia) (by lia) (by lia))
      .exact hb.2 _ _ (by lia) (by lia) (by lia) (by lia)⟩
    obtain⟨r1,r2,r3,r4,r5⟩:=dN_ O f _ (m+1) (q+1) (by lia) (by lia) hd3 hb3 r e;exact⟨r1,by lia,by lia,r4,r5⟩
theorem hX_ (O:Ordr c) {p:Array Nat}{m n:Nat} (hn:n<=p.size) (hm:m<=n) (h0:0<m) (hd:Dn c p m):∀r,r=cI_ c (kas_tail3 m n p)->r.2.size=p.size/\0<r.1/\r.1<=n/\Up c r.2 r.1:=by
 intro r e;unfold kas_tail3 at e;rw [cp_] at e;subst e;obtain⟨h1,h2,h3,_⟩:=gW_ O (n-m) m h0 (hd.rev_all (by lia));exact⟨cu_ _ _ _,by show 0<cI_ c _;lia,by show cI_ c _<=n;lia,h3⟩
theorem hY_ (O:Ordr c) {p:Array Nat}{m n:Nat} (hn:n<=p.size) (hm:m<n) (h0:0<m) (hd:Dn c p m) (e:c (at0 p m) (at0 p (m-1))=true):∀r,r=cI_ c (kas_descPart m n p)->r.2.size=p.size/\0<r.1/\r.1<=n/\Up c r.2 r.1:=by
 intro r er;unfold kas_descPart at er;rw [cp_] at er;have hd1:=hd.more O h0 (O.asym _ _ e);have hb1:Blk c p (m+1) 0:=⟨by lia,fun i j h1 h2 h3 h4=>by
  obtain rfl:i=m:=by lia
  obtain rfl:j=i:=by lia
  cases h:c (at0 p j) (at0 p j) with
  |false=>rfl
  |true=>have:=O.asym _ _ h;rw [h] at this;cases this⟩
 obtain⟨r1,r2,r3,r4,r5⟩:=dN_ O (n-(m+1)) p (m+1) 0 (by lia) (by lia) hd1 hb1 _ rfl;generalize cI_ c (kas_desc (n-(m+1)) p (m+1) 0)=d at*
 split at er
 .obtain⟨t1,t2,t3,t4⟩:=hX_ O (p:=kas_rev d.1 (d.2.1-(d.2.2+1)) d.2.1) (m:=d.2.1) (n:=n) (by rw [cu_];lia) (by lia) (by lia) (r4.rev_blk (by lia) r5.1 r5.2) r er;exact⟨by rw [t1,cu_,r1],t2,t3,t4⟩
 .obtain⟨t1,t2,t3,t4⟩:=hX_ O (p:=d.1) (m:=d.2.1) (n:=n) (by lia) (by lia) (by lia) r4 r er;exact⟨by rw [t1,r1],t2,t3,t4⟩
theorem ll_ (O:Ordr c) {p:Array Nat}{n:Nat} (hn:n<=p.size) (h0:0<n):∀r,r=cI_ c (kas_count n p)->r.2.size=p.size/\0<r.1/\r.1<=n/\Up c r.2 r.1:=by
 intro r er;unfold kas_count at er;rw [cp_] at er;obtain⟨h1,h2,h3,h4⟩:=gW_ O (p:=p) (n-1) 1 (by decide) (fun i j a b=>absurd b (by lia));generalize cI_ c (kas_asc p (n-1) 1)=m at*
 by_cases hm:m=n
 .subst hm;rw [A6 (by simp)] at er;subst er;exact⟨rfl,h0,A9 _,h3⟩
 .rw [A3 (by simp [hm])] at er;have st:=h4 (by lia);by_cases h5:m>1
  .rw [A6 h5] at er;unfold cI_ at er;cases e1:c (p.getD 0 0) (p.getD (m-1) 0) with
   |true=>
    rw [e1] at er;dsimp only at er;rw [A6 rfl] at er;subst er;exact⟨rfl,by show 0<m;lia,by show m<=n;lia,h3⟩
   |false=>
    rw [e1] at er;dsimp only at er;rw [A3 (by decide)] at er;have hd:=h3.rev_all (by lia:m<=p.size);obtain⟨t1,t2,t3,t4⟩:=hY_ O (p:=kas_rev p 0 m) (m:=m) (n:=n) (by rw [cu_];exact hn) (by lia) (by lia) hd (by
     rw [db_ (by lia),db_ (by lia),A3 (by lia),A6 ⟨by lia,by lia⟩,show 0+m-1-(m-1)=0 by lia];cases h:c (at0 p m) (at0 p 0) with
     |true=>rfl
     |false=>have:=O.tr _ _ _ e1 h;rw [st] at this;cases this) r er
    exact⟨by rw [t1,cu_],t2,t3,t4⟩
  .rw [A3 h5] at er;obtain rfl:m=1:=by lia
   exact hY_ O hn (by lia) (by decide) (fun i j a b=>absurd b (by lia)) st r er
theorem ef_ (O:Ordr c) {p:Array Nat}{k:Nat} (hu:Up c p k):∀(f l r:Nat),r-l<=f->l<=r->r<=k->(∀i,i<l->c (at0 p k) (at0 p i)=false)->(∀i,r<=i->i<k->c (at0 p k) (at0 p i)=true)->
  cI_ c (kas_place p k f l r)<=k/\(∀i,i<cI_ c (kas_place p k f l r)->c (at0 p k) (at0 p i)=false)/\(∀i,cI_ c (kas_place p k f l r)<=i->i<k->c (at0 p k) (at0 p i)=true)
 |0,l,r,hf,hl,hr,h1,h2=>by
  obtain rfl:l=r:=by lia
  exact⟨hr,h1,h2⟩
 |f+1,l,r,hf,hl,hr,h1,h2=>by
  unfold kas_place;by_cases h:l>=r
  .rw [A6 h];obtain rfl:l=r:=by lia
   exact⟨hr,h1,h2⟩
  .rw [A3 h];unfold cI_;cases e:c (p.getD k 0) (p.getD ((l+r)/2) 0) with
   |true=>
    dsimp only;rw [A6 rfl];refine ef_ O hu f l ((l+r)/2) (by lia) (by lia) (by lia) h1 fun i a b=> ?_;by_cases hi:i=(l+r)/2
    .subst hi;exact e
    .cases q:c (at0 p k) (at0 p i) with
     |true=>rfl
     |false=>have:=O.tr _ _ _ (hu ((l+r)/2) i (by lia) b) q;rw [e] at this;cases this
   |false=>
    dsimp only;rw [A3 (by decide)];refine ef_ O hu f ((l+r)/2+1) r (by lia) (by lia) hr (fun i a=> ?_) h2;by_cases hi:i=(l+r)/2
    .subst hi;exact e
    .exact O.tr _ _ _ (hu i ((l+r)/2) (by lia) (by lia)) e
theorem pV_ {p:Array Nat}{k d:Nat} (hk:k<p.size) (hd:d<=k) (i:Nat):at0 (bubble p k d) i=if i=k-d then at0 p k else if k-d<i/\i<=k then at0 p (i-1) else at0 p i:=by
 have h:=getElem?_bubble hk d hd i;have e:∀q:Array Nat,∀k,at0 q k=(q[k]?).getD 0:=fun q k=>by simp [at0,Array.getD];split<;>simp [*]
 rw [e,e,e,e,h];split
 .rfl
 .split<;>rfl
theorem ke_ (O:Ordr c):∀(f:Nat) (p:Array Nat) (k:Nat),0<k->k+f<=p.size->Up c p k->Up c (cI_ c (kas_bin f p k)) (k+f)
 |0,p,k,_,_,h=>h
 |f+1,p,k,h0,hs,hu=>by
  unfold kas_bin;rw [cp_];obtain⟨a1,a2,a3⟩:=ef_ O hu k 0 k (by lia) (by lia) (A9 _) (fun i z=>absurd z (by lia)) (fun i z1 z2=>absurd z2 (by lia));generalize cI_ c (kas_place p k k 0 k)=l at*
  have hu2:Up c (bubble p k (k-l)) (k+1):=by
   intro i j hij hj;rw [pV_ (by lia) (by lia),pV_ (by lia) (by lia),show k-(k-l)=l by lia];by_cases j1:j=l
   .rw [A6 j1,A3 (by lia),A3 (by lia)];exact a2 i (by lia)
   .rw [A3 j1];by_cases j2:l<j/\j<=k
    .rw [A6 j2];by_cases i1:i=l
     .rw [A6 i1];exact O.asym _ _ (a3 (j-1) (by lia) (by lia))
     .rw [A3 i1];by_cases i2:l<i/\i<=k
      .rw [A6 i2];exact hu _ _ (by lia) (by lia)
      .rw [A3 i2];exact hu _ _ (by lia) (by lia)
    .rw [A3 j2,A3 (by lia),A3 (by lia)];exact hu _ _ hij (by lia)
  have:=ke_ O f (bubble p k (k-l)) (k+1) (by lia) (by rw [bubble_size];lia) hu2;rw [show k+(f+1)=k+1+f by lia];exact this
theorem m4_ (O:Ordr c) {n:Nat} (h0:0<n):Up c (cI_ c (kas_sort n)) n:=by
 unfold kas_sort;rw [cp_];obtain⟨r1,r2,r3,r4⟩:=ll_ O (p:=List.toArray (List.range n)) (n:=n) (by simp) h0 _ rfl;generalize cI_ c (kas_count n (List.toArray (List.range n)))=r at*
 have sz:r.2.size=n:=by rw [r1];simp
 by_cases h:r.1<n
 .rw [A6 h];have em:max r.1 1=r.1:=by lia
  rw [em];have:=ke_ O (n-r.1) r.2 r.1 r2 (by lia) r4;rw [show r.1+(n-r.1)=n by lia] at this;exact this
 .rw [A3 h];have:r.1=n:=by lia
  rw [this] at r4;exact r4
end
end L2
namespace L2
open PySem PySem.Spec PyProof.Rows PySem.W
theorem bb_.wpc {n:Nat}{c:Nat->Nat->Bool}{α:Type}{R:α->Prop}{cmp:Nat->Nat->(Bool->Shared->Prop)->Shared->Prop}{Q:α->Shared->Prop}{s:Shared} (hc:∀i j,i<n->j<n->∀C:Bool->Shared->Prop,C (c i j) s->cmp i j C s):∀{t:KasT α},(R (cI_ c t)->Q (cI_ c t) s)->bb_ n R t->t.kasWp cmp Q s
 | .ret a,hq,h=>hq h
 | .ask i j k,hq,h=>hc i j h.1 h.2.1 _ (bb_.wpc hc (t:=k (c i j)) hq (h.2.2 (c i j)))
theorem m1_:∀{xs ys zs:List Int},xs.length=ys.length->ys.length=zs.length->lk_ false ys xs=false->lk_ false zs ys=false->lk_ false zs xs=false
 |[],[],[],_,_,_,_=>rfl
 |x::xs,y::ys,z::zs,h1,h2,a,b=>by
  unfold lk_ at a b⊢;by_cases e1:y=x
  .rw [A6 e1] at a;by_cases e2:z=y
   .rw [A6 e2] at b;rw [A6 (e2.trans e1)];exact m1_ (by simpa using h1) (by simpa using h2) a b
   .rw [A3 e2] at b;have:=of_decide_eq_false b;rw [A3 (by lia)];exact Ai (by lia)
  .rw [A3 e1] at a;have a:=of_decide_eq_false a;by_cases e2:z=y
   .rw [A3 (by lia)];exact Ai (by lia)
   .rw [A3 e2] at b;have:=of_decide_eq_false b;rw [A3 (by lia)];exact Ai (by lia)
theorem hW_:∀{xs ys:List Int},xs.length=ys.length->lk_ false xs ys=true->lk_ false ys xs=false
 |[],[],_,h=>nomatch h
 |x::xs,y::ys,hl,h=>by
  unfold lk_ at h⊢;by_cases e:x=y
  .rw [A6 e] at h;rw [A6 e.symm];exact hW_ (by simpa using hl) h
  .rw [A3 e] at h;have:=As h;rw [A3 (by lia)];exact Ai (by lia)
theorem j8_ {xs ys:List Int} (h:xs.length=ys.length):ltI xs ys=lk_ false xs ys:=by
 unfold ltI;rw [Ai (by lia)]
noncomputable def rI_ (xss:List (List Int)) (i:Nat):List Int:=xss.getD i (xss.headD [])
noncomputable def rG_ (xss:List (List Int)) (i j:Nat):Bool:=ltI (rI_ xss i) (rI_ xss j)
theorem m7_ {xss:List (List Int)}{i:Nat} (h:i<xss.length):rI_ xss i=xss.getD i []:=by
 unfold rI_;rw [AA,AA,A4 h];rfl
theorem mJ_ {xss:List (List Int)}{i j:Nat} (hi:i<xss.length) (hj:j<xss.length):rG_ xss i j=ltI (xss.getD i []) (xss.getD j []):=by
 unfold rG_;rw [m7_ hi,m7_ hj]
theorem oQ_ {xss:List (List Int)}{m:Nat} (h0:0<xss.length) (h:∀xs∈xss,xs.length=m) (i:Nat):(rI_ xss i).length=m:=by
 unfold rI_;rw [AA];cases e:xss[i]? with
 |some x=>exact h x (AR e)
 |none=>
  cases xss with
  |nil=>cases h0
  |cons x xs=>exact h x (by simp)
theorem qK_ {xss:List (List Int)}{m:Nat} (h0:0<xss.length) (h:∀xs∈xss,xs.length=m):Ordr (rG_ xss):=by
 have k:=oQ_ h0 h;refine⟨fun a b e=> ?_,fun a b d e1 e2=> ?_⟩
 .unfold rG_ at e⊢;rw [j8_ (by rw [k,k])] at e⊢;exact hW_ (by rw [k,k]) e
 .unfold rG_ at e1 e2⊢;rw [j8_ (by rw [k,k])] at e1 e2⊢;exact m1_ (by rw [k,k]) (by rw [k,k]) e1 e2
section
variable {prog:Program}{w:World}{A:Around}{E:Value->Shared->Prop}{s:Shared}
theorem l6_ {c:Nat->Nat->Bool}{kd:SortKind}{a:Addr}{vs:List Value}{n:Nat}{P:PySem.Fin->Shared->Prop} (ho:s.heap.get? a=some (seqObj "list" vs.toArray n)) (h2:2<=vs.length) (h64:vs.length<64)
  (hkd:∀(R:SortKind->Shared->Prop),R kd {s with heap:=aO_ s.heap a vs}->wpAny (model prog w) A (keyKind' vs.toArray) R E {s with heap:=aO_ s.heap a vs})
  (hc:∀i j,i<vs.length->j<vs.length->∀C:Bool->Shared->Prop,C (c i j) {s with heap:=aO_ s.heap a vs}->wpAny (model prog w) A (keyLt' kd (vs.getD i .none) (vs.getD j .none)) C (fun _ _=>False) {s with heap:=aO_ s.heap a vs})
  (h:∀p,Ord vs.length p->p=cI_ c (kas_sort vs.length)->P (.done (.ret .none)) {s with heap:=sortedHeap s.heap a vs (p.map fun i=>vs.getD i .none)}):wpAny (model prog w) A (Builtin.«list.sort» ⟨[.ref a],[]⟩) P E s:=by
 rw [list_sort_plain];have ha:a<s.heap.objs.size:=AJ ho;refine A0 (listItems_at ho rfl ?_);refine A0 (Cb ho rfl ?_ (by rw [AE,B0];lia) (AO _));obtain⟨e1,ho1⟩:∃e1,(s.heap.update a (Obj.mapSeq fun _=>(#[]:Array Value))).get? a=some (seqObj "list" #[] e1):=⟨_,CY ho (fun _=> #[])⟩;refine A0 (seqEpoch_at ho1 rfl ?_);refine A0 (wpAny_newTuple ?_ (by show vs.length<=_;rw [B0];lia));refine A0 (D5 ?_ (AO _));refine Au ?_;have ho6:(aO_ s.heap a vs).get? a=some (seqObj "list" #[] e1):=by
  rw [B4 _ _ _ (by rw [Br,B3];exact AL (Ac ha)),B4 _ _ _ (by rw [B3];exact AL ha)];exact ho1
 show wpAny (model prog w) A _ P E {s with heap:=aO_ s.heap a vs};dsimp only;have hn2:¬vs.toArray.size<2:=by rw [AE];lia
 rw [A3 hn2,A3 hn2];refine A0 (hkd _ ?_);have est:kas_st kd (pairsOf vs) (List.toArray (List.range vs.length))=SortSt.mk' kd (vs.toArray.zip vs.toArray) #[] 7 none:=by
  have e:=kas_range (pairsOf vs);rw [pairsOf_size] at e;show SortSt.mk' kd ((List.toArray (List.range vs.length)).map (kas_item (pairsOf vs))) #[] 7 none=SortSt.mk' kd (pairsOf vs) #[] 7 none;rw [e]
 have ask:(kas_sort vs.length).kasWp (kas_cmp prog w A kd (pairsOf vs)) (fun p s'=>s'={s with heap:=aO_ s.heap a vs}/\Ord vs.length p/\p=cI_ c (kas_sort vs.length)) {s with heap:=aO_ s.heap a vs}:=by
  refine bb_.wpc (c:=c) (fun i j hi hj C hC=> ?_) (fun hp=>⟨rfl,hp,rfl⟩) (qY_ (by lia));rw [<-kas_ask_eq];exact hc i j hi hj C hC
 have run:=kas_runs (E:=E) (Q:=fun _ st' s'=>∃p,s'={s with heap:=aO_ s.heap a vs}/\(Ord vs.length p/\p=cI_ c (kas_sort vs.length))/\arrOf st'=p.map (kas_item (pairsOf vs))/\failedOf st'=none) h2 h64 (fun p' st' s' _ a2 a3 a4=>⟨p',a4.1,a4.2,a2,a3⟩) ask;rw [est] at run;refine A0 (BP run ?_ fun _ _ e=>e);rintro⟨⟨⟩,st'⟩ s' ⟨p,rfl,⟨hp,hpc⟩,har,hf⟩;dsimp only at har hf⊢;have eo:(arrOf st').map (·.2)=p.map fun i=>vs.getD i .none:=by
  rw [har,Array.map_map];refine Array.map_congr_left fun i _=> ?_;show(kas_item (pairsOf vs) i).2=_;rw [kas_item_eq]
 rw [eo];refine A0 (seqEpoch_at ho6 rfl ?_);refine A0 (Cb ho6 rfl ?_ (AO _) (by rw [Array.size_map,B0,hp.size];lia));rw [hf];simp only [Cj,AG,Am];exact A2 (h p hp hpc)
end
section
variable {X:Cx}{pins:List (Addr×Obj)}{σ:St}{H:Hp}{s:Shared}
end
end L2
namespace L2
open PySem PySem.Spec PyProof.Rows
section
variable {X:Cx}{K:W.Frag}
end
end L2
namespace HT
open PySem PySem.Spec PyProof.Rows
section
variable {prog:Program}{w:World}{A:Around}{E:Value->Shared->Prop}{s:Shared}
theorem getItem_tuple_all {t sl:Addr}{items:Array Value}{vl vu:Value}{lo hi:Option Int}{Q:Value->Shared->Prop} (ht:IsTup s.heap t items) (hs:s.heap.IsSliceOf sl vl vu .none) (pl:IsPart vl lo) (pu:IsPart vu hi)
  (hw:sIx items.size 0 lo=0/\sIx items.size items.size hi=items.size) (h:Q (.ref t) s):wpAny (model prog w) A (getItem (.ref t) (.ref sl)) Q E s:=by
 obtain⟨os,hos,hcs,hds⟩:=id hs;have hTs:s.TypeIs (.ref sl) "slice":=⟨os,hos,hcs⟩;unfold getItem;try with_reducible refine Au ?_
 first|refine A0 (A2 ?_)|skip
 refine A0 (wpAny_sequenceKey ht.typeIs (by decide) ?_);refine A0 (Ax (name:=Str.ofString "__getitem__") ht.typeIs BH
  (Ag BH ht.typeIs entry_tuple_getitem ?_ (args_tuple_getitem _ _)))
 show wpAny _ _ (Builtin.Tuple.tupleItemsOf (.ref t)>>=_) _ _ s;refine A0 (tupleItemsOf_ ht ?_);refine A0 (DD hTs ?_);rw [A6 (by decide)];refine A0 (cE_ hs pl pu ?_);have hyes:(((sIx items.size 0 lo:Nat):Int)==0&&(1:Int)==1&&(sIx items.size items.size hi-sIx items.size 0 lo)==items.size)=true:=by
  rw [hw.1,hw.2];simp
 show wpAny _ _ (if(((sIx items.size 0 lo:Nat):Int)==0&&(1:Int)==1&&(sIx items.size items.size hi-sIx items.size 0 lo)==items.size)=true then _ else _) _ _ s;rw [A6 hyes];unfold Builtin.Tuple.tupleIsExact;refine A0 (A0 (DD ht.typeIs (A2 ?_)));rw [A6 (by decide)];refine A0 (CF ?_);exact A2 ⟨_,rfl,A2 h⟩
end
end HT
namespace L2
open PySem PySem.Spec PyProof.Rows
section
variable {X:Cx}
noncomputable def vI_ (K:W.Frag):V->Option Int->Option Int->Hp->VK->Prop:=fun x lo hi H Q=>∃a xs,x= .ref a/\SqT K H a xs/\
 ((HT.sIx xs.length 0 lo=0/\HT.sIx xs.length xs.length hi=xs.length)->Q (.ref a) H)/\(¬(HT.sIx xs.length 0 lo=0/\HT.sIx xs.length xs.length hi=xs.length)->∀p,H p=none->Q (.ref p) (upd H p (.tup (kJ_ xs lo hi))))
theorem qi_:SlR X (vI_ X.K):=by
 intro pins s σ H x v vl vu lo hi sl Q I rx hs pl pu h;obtain⟨a,xs,rfl,hx,q1,q2⟩:=h;by_cases hw:HT.sIx xs.length 0 lo=0/\HT.sIx xs.length xs.length hi=xs.length
 .cases rx;obtain⟨its,r,ht,hz⟩:=I.tuple hx;have hlen:its.toArray.size=xs.length:=by rw [AE];exact r.length.symm
  refine⟨"tuple",_,BH.lookup,ht.typeIs, ?_⟩;exact HT.getItem_tuple_all ht hs pl pu (by rw [hlen];exact hw) ⟨.ref a,H,I,rfl,q1 hw⟩
 .exact sk_ pins s σ H _ v vl vu lo hi sl Q I rx hs pl pu ⟨a,xs,rfl,hx,hw,q2 hw⟩
end
end L2
namespace L2
open PySem PySem.Spec PyProof.Rows PySem.W
section
variable {c:Nat->Nat->Bool}
end
section
variable {X:Cx}{pins:List (Addr×Obj)}{σ:St}{H:Hp}{s:Shared}
noncomputable def bvs (bs:List Bool):Array Value:=(bs.map Value.bool).toArray
noncomputable def EqT (K:W.Frag) (H:Hp) (n:Nat) (x y:V) (e:Bool):Prop:=∀(X:Cx) (pins:List (Addr×Obj)) (σ:St) (s:Shared),X.K=K->Inv X pins σ H s->∀(A:Around) (u v:Value),A.units+n<cLine->a2_ x u->a2_ y v->SeqAt.EqAt A s u v e
theorem EqR.told {K:W.Frag}{n:Nat}{x y:V}{e:Bool} (h:EqR K H n x y e):EqT K H n x y e:=fun X pins σ s hk I A u v hu ru rv=>by
 subst hk;exact(h.at_ I (A:=A) hu ru rv).2.2
noncomputable def rw_ (K:W.Frag) (H:Hp) (n:Nat) (xs:List V) (x:V) (es:Nat->Bool):Prop:=n<=8/\(∀(j:Nat) z,xs[j]? =some z->(∃a,z= .ref a)/\EqT K H n z x (es j))/\∀(i j:Nat) z,xs[i]? =some z->xs[j]? =some z->es i=es j
open Classical in
theorem ig_ {n:Nat}{xs:List V}{x:V}{es:Nat->Bool}{its:List Value} (t:rw_ X.K H n xs x es) (r:aW_ xs its) {j:Nat}{u:Value} (hu:its[j]? =some u):ih_ its es u=es j:=by
 have same:∀i:Nat,its[i]? =some u->es i=es j:=fun i hi=>by
  have li:=(AD.mp hi).1;have lj:=(AD.mp hu).1;have ln:=r.length;have xi:xs[i]? =some xs[i]:=A4 (by lia);have xj:xs[j]? =some xs[j]:=A4 (by lia);obtain⟨u1,e1,r1⟩:=r.get xi;obtain⟨u2,e2,r2⟩:=r.get xj;rw [hi] at e1;rw [hu] at e2;cases e1;cases e2;obtain⟨⟨a,ea⟩,_⟩:=t.2.1 i _ xi;obtain⟨⟨b,eb⟩,_⟩:=t.2.1 j _ xj;rw [ea] at r1 xi;rw [eb] at r2 xj;obtain rfl:u=Value.ref a:=r1;have:Value.ref a=Value.ref b:=r2;cases this;exact t.2.2 i j _ xi xj
 unfold ih_;cases h:es j with
 |true=>exact B9 ⟨j,hu,h⟩
 |false=>exact Ai fun⟨i,hi,e⟩=>by rw [same i hi,h] at e;cases e
noncomputable def qr_ (K:W.Frag):V->List V->Hp->VK->Prop:=fun o vs H Q=>∃(p:Addr) (xs:List V) (x:V) (n:Nat) (es:Nat->Bool),o= .ref p/\vs=[x]/\SqL K H p xs/\rw_ K H n xs x es/\Q (.int (((List.range xs.length).countP es:Nat):Int)) H
theorem mP_ {k:Nat} (hr:Room k X.A):MtM X "list.count" (qr_ X.K):=by
 intro pins s σ H o vs v us Q I ro rv h;obtain⟨p,xs,x,n,es,rfl,rfl,hq,t,q⟩:=h;cases ro;obtain⟨u,rfl,ru⟩:=aW_.one rv;have hu:=hr.un;have t8:=t.1;obtain⟨its,r,pl,hz⟩:=I.list hq;have ln:=r.length;obtain⟨⟨cls,dd,data,sl⟩,ho,hc,m,hd⟩:=pl.isList;simp only at hc hd;subst hc hd;have ec:its.toArray.toList.countP (ih_ its es)=(List.range xs.length).countP es:=by
  have e1:its=(List.range its.length).map fun i=>its.getD i .none:=by
   refine List.ext_getElem (by simp) fun i h1 h2=> ?_;simp [h1]
  have e2:its.countP (ih_ its es)=((List.range its.length).map fun i=>its.getD i .none).countP (ih_ its es):=by rw [<-e1]
  show its.countP (ih_ its es)=_;rw [e2,List.countP_map,ln];refine List.countP_congr fun i hi=> ?_;have hi':i<its.length:=by simpa using hi
  have:ih_ its es (its.getD i .none)=es i:=ig_ t r (by rw [AA,A4 hi'];rfl);simp only [Function.comp_apply,this]
 refine call_meets F.slot_list_count ⟨_,ho,rfl⟩ F.entry_list_count (F.args_list_count_2 _ _) (SeqAt.list_countAt p its.toArray m dd sl u (ih_ its es)) ⟨ho,fun y hy=> ?_, ?_⟩
 .obtain⟨j,hj,e⟩:=C5.mp (by simpa using hy);have ej:its[j]? =some y:=by rw [A4 hj,e]
  have xj:xs[j]? =some xs[j]:=A4 (by lia);obtain⟨u2,e2,r2⟩:=r.get xj;rw [ej] at e2;cases e2;rw [ig_ t r ej];exact(t.2.1 j _ xj).2 X pins σ s rfl I _ _ _ (by rw [aK_];lia) r2 ru
 rw [ec];exact⟨.int _,H,I.tok _,⟨_,rfl⟩,q⟩
end
end L2
namespace L2
open PySem PySem.SetTable
noncomputable def b0_ (m:Nat) (p:Probe):Probe:=advance {mask:=m,place:= #[],dummies:= #[],finger:=0,led:=true,moves:=0,plain:=true} p
noncomputable def pAt (m:Nat) (h:Int):Nat->Probe
 |0=>probeStart {mask:=m,place:= #[],dummies:= #[],finger:=0,led:=true,moves:=0,plain:=true} h
 |n+1=>b0_ m (pAt m h n)
noncomputable def sl (m:Nat) (h:Int) (n:Nat):Nat:=(pAt m h n).j
theorem tx_ (t:SetTable) (p:Probe):advance t p=b0_ t.mask p:=rfl
theorem e3_ {m:Nat}{p:Probe} (h:p.dummy=none):(b0_ m p).dummy=none:=by
 unfold b0_ advance;split<;>exact h
theorem e4_ (m:Nat) (h:Int):∀n,(pAt m h n).dummy=none
 |0=>rfl
 |n+1=>e3_ (e4_ m h n)
noncomputable def Ris (xs:Array Nat):Prop:=∀i j,i<j->j<xs.size->xs.getD i 0<xs.getD j 0
theorem ky_ {xs:Array Nat}{i:Nat} (h:i<xs.size) (a b:Nat):xs.getD i a=xs.getD i b:=by simp [Array.getD,h]
theorem hf_ {xs:Array Nat}{j:Nat} (r:Ris xs):∀(f lo hi:Nat),hi-lo<=f->lo<=hi->hi<=xs.size->(∀i,i<lo->xs.getD i 0<j)->(∀i,hi<=i->i<xs.size->j<=xs.getD i 0)->
  lo<=below.go xs j f lo hi/\below.go xs j f lo hi<=hi/\(∀i,i<below.go xs j f lo hi->xs.getD i 0<j)/\(∀i,below.go xs j f lo hi<=i->i<xs.size->j<=xs.getD i 0)
 |0,lo,hi,hf,hl,hh,h1,h2=>by
  unfold below.go;have:lo=hi:=by lia
  subst this;exact⟨A9 _,A9 _,h1,h2⟩
 |f+1,lo,hi,hf,hl,hh,h1,h2=>by
  unfold below.go;by_cases c:lo<hi
  .rw [A6 c];dsimp only;have hm:(lo+hi)/2<xs.size:=by lia
   by_cases c2:xs.getD ((lo+hi)/2) j<j
   .rw [A6 c2];rw [ky_ hm j 0] at c2;obtain⟨a,b,c,d⟩:=hf_ r f ((lo+hi)/2+1) hi (by lia) (by lia) hh (fun i hi'=>by
     by_cases e:i=(lo+hi)/2
     .rw [e];exact c2
     .exact Nat.lt_trans (r i _ (by lia) hm) c2) h2
    exact⟨by lia,b,c,d⟩
   .rw [A3 c2];rw [ky_ hm j 0] at c2;obtain⟨a,b,c,d⟩:=hf_ r f lo ((lo+hi)/2) (by lia) (by lia) (by lia) h1 (fun i h3 h4=>by
     by_cases e:i=(lo+hi)/2
     .rw [e];lia
     .have:=r ((lo+hi)/2) i (by lia) h4;lia)
    exact⟨a,by lia,c,d⟩
  .rw [A3 c];have:lo=hi:=by lia
   subst this;exact⟨A9 _,A9 _,h1,h2⟩
theorem dT_ {xs:Array Nat} (r:Ris xs) (j:Nat):below xs j<=xs.size/\(∀i,i<below xs j->xs.getD i 0<j)/\(∀i,below xs j<=i->i<xs.size->j<=xs.getD i 0):=by
 obtain⟨_,b,c,d⟩:=hf_ (j:=j) r xs.size 0 xs.size (by lia) (AO _) (A9 _) (fun i h=>absurd h (by lia)) (fun i h1 h2=>by lia);exact⟨b,c,d⟩
noncomputable def In (xs:Array Nat) (j:Nat):Prop:=∃i,i<xs.size/\xs.getD i 0=j
theorem kP_ {xs:Array Nat} (r:Ris xs) {i:Nat} (hi:i<xs.size):below xs (xs.getD i 0)=i:=by
 obtain⟨a,b,c⟩:=dT_ r (xs.getD i 0);by_cases h:below xs (xs.getD i 0)<i
 .have:=c _ (A9 _) (by lia);have:=r _ _ h hi;lia
 .by_cases h2:i<below xs (xs.getD i 0)
  .have:=b i h2;lia
  .lia
theorem hq_ {t:SetTable} (r:Ris t.place) {i:Nat} (hi:i<t.place.size):t.slot (t.place.getD i 0)= .live i:=by
 unfold slot;dsimp only;rw [kP_ r hi,A6];simp [Array.getD,hi]
theorem nk_ (j:Nat):has #[] j=false:=by unfold has;simp
theorem k5_ {t:SetTable} (r:Ris t.place) (hd:t.dummies= #[]) {j:Nat} (h:¬In t.place j):t.slot j= .empty:=by
 unfold slot;dsimp only;have e:(t.place[below t.place j]? ==some j)=false:=by
  cases q:t.place[below t.place j]? with
  |none=>rfl
  |some x=>
   obtain⟨hl,e⟩:=Bw.mp q;have:x≠j:=fun z=>h ⟨_,hl,by simp [Array.getD,hl,e,z]⟩;simpa using this
 rw [e,hd,nk_];rfl
theorem pG_ (xs:Array Nat) (j:Nat):In xs j\/¬In xs j:=Classical.em _
theorem probe_go {t : SetTable} (r : Ris t.place) (hd : t.dummies = #[]) (hashAt : Nat -> Int) (h : Int) : ∀ (f n0 : Nat), (∃ n1, n0 <= n1 /\ n1 < n0 + f /\ ¬ In t.place (sl t.mask h n1)) ->
    ∃ n, n0 <= n /\ (∀ k, n0 <= k -> k < n -> ∃ i, i < t.place.size /\ t.place.getD i 0 = sl t.mask h k /\ (hashAt i == h) = false) /\
      ((¬ In t.place (sl t.mask h n) /\ probe.go t hashAt h f (pAt t.mask h n0) = some (.empty (sl t.mask h n) none)) \/
       ∃ i, i < t.place.size /\ t.place.getD i 0 = sl t.mask h n /\ (hashAt i == h) = true /\ probe.go t hashAt h f (pAt t.mask h n0) = some (.candidate (sl t.mask h n) i (pAt t.mask h (n + 1))))
  | 0, n0, ⟨n1, h1, h2, _⟩ => absurd h2 (by lia)
  | f + 1, n0, ⟨n1, h1, h2, h3⟩ => by
    unfold probe.go;rcases pG_ t.place (sl t.mask h n0) with c | c
    . obtain ⟨i, hi, e⟩ := c
      have sl' : t.slot (pAt t.mask h n0).j = .live i := by
        show t.slot (sl t.mask h n0) = _;rw [<- e]; exact hq_ r hi
      rw [sl'];dsimp only;cases q : (hashAt i == h) with
      | true =>
        refine ⟨n0, A9 _, fun k h1 h2 => absurd h2 (by lia), .inr ⟨i, hi, e, q, ?_⟩⟩;rw [A6 rfl];rfl
      | false =>
        have ne : n0 ≠ n1 := by rintro rfl; exact h3 ⟨i, hi, e⟩
        obtain ⟨n, a, b, c⟩ := probe_go r hd hashAt h f (n0 + 1) ⟨n1, by lia, by lia, h3⟩;refine ⟨n, by lia, fun k k1 k2 => ?_, ?_⟩
        . by_cases ek : k = n0
          . subst ek; exact ⟨i, hi, e, q⟩
          . exact b k (by lia) k2
        . rw [A3 (by simp), tx_]
          exact c
    . have sl' : t.slot (pAt t.mask h n0).j = .empty := k5_ r hd c
      rw [sl'];refine ⟨n0, A9 _, fun k h1 h2 => absurd h2 (by lia), .inl ⟨c, ?_⟩⟩;dsimp only;rw [e4_];rfl
noncomputable def pB_ (m:Nat) (q:Nat×Nat):Nat×Nat:=leap m q.1 q.2
noncomputable def fC_ (m:Nat) (q:Nat×Nat):Probe:={j:=q.1,more:=runEnd m q.1-q.1,i:=q.1,perturb:=q.2,dummy:=none}
noncomputable def bp_ (m:Nat) (q:Nat×Nat):Nat->Nat×Nat
 |0=>q
 |n+1=>pB_ m (bp_ m q n)
theorem mh_ (m i:Nat):runEnd m i-i<=9:=by unfold runEnd;split<;>lia
noncomputable def dv_ (m:Nat) (p:Probe):Nat->Probe
 |0=>p
 |n+1=>b0_ m (dv_ m p n)
theorem fe_ (m:Nat) (p:Probe) (a:Nat):∀b,dv_ m p (a+b)=dv_ m (dv_ m p a) b
 |0=>rfl
 |b+1=>by show b0_ m (dv_ m p (a+b))=_;rw [fe_ m p a b];rfl
theorem dI_ (m:Nat) (h:Int) (a:Nat):∀b,pAt m h (a+b)=dv_ m (pAt m h a) b
 |0=>rfl
 |b+1=>by show b0_ m (pAt m h (a+b))=_;rw [dI_ m h a b];rfl
theorem gn_ (m:Nat):∀(k:Nat) (p:Probe),p.more=k->p.dummy=none->dv_ m p (k+1)=fC_ m (pB_ m (p.i,p.perturb))
 |0,p,hm,hd=>by
  show b0_ m p=_;unfold b0_ advance;rw [A3 (by lia)];obtain⟨j,mo,i,pe,du⟩:=p;dsimp only at hm hd;subst hm hd;rfl
 |k+1,p,hm,hd=>by
  have e:dv_ m p (k+1+1)=dv_ m (b0_ m p) (k+1):=by rw [show k+1+1=1+(k+1) by lia,fe_];rfl
  have en:b0_ m p={p with j:=p.j+1,more:=p.more-1}:=by
   unfold b0_ advance;rw [A6 (by lia)]
  rw [e,gn_ m k (b0_ m p) (by rw [en];show p.more-1=k;lia) (e3_ hd),en]
theorem far (m:Nat):∀(L:Nat) (p:Probe),p.more<=9->p.dummy=none->∃n,n<=10*(L+1)/\dv_ m p n=fC_ m (bp_ m (p.i,p.perturb) (L+1))
 |0,p,h9,hd=>⟨p.more+1,by lia,gn_ m p.more p rfl hd⟩
 |L+1,p,h9,hd=>by
  obtain⟨n,hn,e⟩:=far m L p h9 hd;have:=mh_ m (bp_ m (p.i,p.perturb) (L+1)).1;refine⟨n+(runEnd m (bp_ m (p.i,p.perturb) (L+1)).1-(bp_ m (p.i,p.perturb) (L+1)).1+1),by lia, ?_⟩;rw [fe_,e];exact gn_ m _ (fC_ m (bp_ m (p.i,p.perturb) (L+1))) rfl rfl
noncomputable def Tm (m i:Nat):Nat:=(i*5+1)%(m+1)
noncomputable def Tn (m i:Nat):Nat->Nat
 |0=>i
 |n+1=>Tm m (Tn m i n)
theorem iA_ (m i a:Nat):∀b,Tn m i (a+b)=Tn m (Tn m i a) b
 |0=>rfl
 |b+1=>by show Tm m (Tn m i (a+b))=_;rw [iA_ m i a b];rfl
theorem dO_ (m:Nat) (q:Nat×Nat) (a:Nat):∀b,bp_ m q (a+b)=bp_ m (bp_ m q a) b
 |0=>rfl
 |b+1=>by show pB_ m (bp_ m q (a+b))=_;rw [dO_ m q a b];rfl
theorem eh_ (m:Nat) (q:Nat×Nat):∀n,(bp_ m q n).2=q.2/32^n
 |0=>by simp [bp_]
 |n+1=>by
  show(bp_ m q n).2/32=_;rw [eh_ m q n,Nat.div_div_eq_div_mul,Nat.pow_succ]
theorem eg_ (m:Nat) (i:Nat):∀n,bp_ m (i,0) n=(Tn m i n,0)
 |0=>rfl
 |n+1=>by
  show pB_ m (bp_ m (i,0) n)=_;rw [eg_ m i n];unfold pB_ leap;simp [Tn,Tm]
noncomputable def Msk (m:Nat):Prop:=m=7\/m=31\/m=127
noncomputable def orb (m:Nat):Nat->Nat->List Nat
 |0,_=>[]
 |n+1,i=>i::orb m n (Tm m i)
theorem pu_ (m:Nat):∀(n i e:Nat),e∈orb m n i->∃k,k<n/\Tn m i k=e
 |0,_,_,h=>by simp [orb] at h
 |n+1,i,e,h=>by
  rcases AK.mp h with h|h
  .exact⟨0,by lia,h.symm⟩
  .obtain⟨k,hk,e⟩:=pu_ m n (Tm m i) e h;exact⟨k+1,by lia,by rw [show k+1=1+k by lia,iA_];exact e⟩
theorem vP_:(List.range 8).all (fun e=>(orb 7 8 0).contains e)=true:=by ac_nf
theorem uK_:(List.range 32).all (fun e=>(orb 31 32 0).contains e)=true:=by ac_nf
theorem sE_:(List.range 128).all (fun e=>(orb 127 128 0).contains e)=true:=by ac_nf
theorem vO_:Tn 7 0 8=0:=by ac_nf
theorem uG_:Tn 31 0 32=0:=by ac_nf
theorem sx_:Tn 127 0 128=0:=by ac_nf
theorem uJ_ {m:Nat} (hm:Msk m):(∀e,e<=m->∃k,k<=m/\Tn m 0 k=e)/\Tn m 0 (m+1)=0:=by
 have go:∀n,(List.range (n+1)).all (fun e=>(orb n (n+1) 0).contains e)=true->∀e,e<=n->∃k,k<=n/\Tn n 0 k=e:=fun n h e he=>by
  have:=AZ.mp h e (by simp;lia);obtain⟨k,hk,e⟩:=pu_ n (n+1) 0 e (by simpa using this);exact⟨k,by lia,e⟩
 rcases hm with rfl|rfl|rfl
 .exact⟨go 7 vP_,vO_⟩
 .exact⟨go 31 uK_,uG_⟩
 .exact⟨go 127 sE_,sx_⟩
theorem pR_ {m:Nat} (hm:Msk m) {i e:Nat} (hi:i<=m) (he:e<=m):∃k,k<=m/\Tn m i k=e:=by
 obtain⟨o,p⟩:=uJ_ hm;obtain⟨a,ha,rfl⟩:=o i hi;obtain⟨b,hb,rfl⟩:=o e he;by_cases c:a<=b
 .exact⟨b-a,by lia,by rw [<-iA_];congr 1;lia⟩
 .refine⟨m+1-a+b,by lia, ?_⟩;rw [<-iA_,show a+(m+1-a+b)=m+1+b by lia,iA_,p]
theorem nI_ (h:Int):bits h<2^64:=by unfold bits;lia
theorem uO_ {m:Nat} (hm:Msk m) {p:Probe} (h9:p.more<=9) (hd:p.dummy=none) (hp:p.perturb<2^64) {e:Nat} (he:e<=m):∃n,n<10*turns m/\(dv_ m p n).j=e:=by
 have z:∀L,13<=L->(bp_ m (p.i,p.perturb) L).2=0:=fun L hL=>by
  rw [eh_];apply Nat.div_eq_of_lt;have h1:(32:Nat)^13<=32^L:=CO (by decide) hL;have h2:(2:Nat)^64<32^13:=by decide
  show p.perturb<_;lia
 have j13:(bp_ m (p.i,p.perturb) 13).1<=m:=by
  show(leap m _ _).1<=m;unfold leap;have:=D8 ((bp_ m (p.i,p.perturb) 12).1*5+1+(bp_ m (p.i,p.perturb) 12).2/32) (show 0<m+1 by lia);dsimp only;lia
 obtain⟨k,hk,ek⟩:=pR_ hm j13 he;obtain⟨n,hn,en⟩:=far m (12+k) p h9 hd;refine⟨n,by unfold turns;lia, ?_⟩;rw [en,show 12+k+1=13+k by lia,dO_];have e13:bp_ m (p.i,p.perturb) 13=((bp_ m (p.i,p.perturb) 13).1,0):=Prod.ext rfl (z 13 (A9 _));rw [e13,eg_];exact ek
theorem mG_ (m:Nat) (h:Int):∀n,(pAt m h n).more<=9/\(pAt m h n).perturb<2^64
 |0=>⟨mh_ m _,nI_ h⟩
 |n+1=>by
  obtain⟨a,b⟩:=mG_ m h n;show(b0_ m (pAt m h n)).more<=9/\(b0_ m (pAt m h n)).perturb<2^64;unfold b0_ advance;split
  .exact⟨by show(pAt m h n).more-1<=9;lia,b⟩
  .unfold leap;dsimp only;exact⟨mh_ _ _,by lia⟩
theorem vj_ {m:Nat} (hm:Msk m) (h:Int) (n0:Nat) {e:Nat} (he:e<=m):∃n1,n0<=n1/\n1<n0+10*turns m/\sl m h n1=e:=by
 obtain⟨n,hn,e⟩:=uO_ hm (mG_ m h n0).1 (e4_ m h n0) (mG_ m h n0).2 he;exact⟨n0+n,by lia,by lia,by unfold sl;rw [dI_];exact e⟩
theorem em_:∀(k N:Nat) (f:Nat->Nat),(∀j,j<N->∃i,i<k/\f i=j)->N<=k
 |0,N,f,h=>by
  rcases Nat.eq_zero_or_pos N with e|e
  .lia
  .obtain⟨i,hi,_⟩:=h 0 e;lia
 |k+1,N,f,h=>by
  by_cases c:f k<N
  .have:=em_ k (N-1) (fun i=>if f k<f i then f i-1 else f i) fun j hj=>by
    by_cases e:j<f k
    .obtain⟨i,hi,ei⟩:=h j (by lia);refine⟨i, ?_, ?_⟩
     .by_cases z:i=k
      .subst z;lia
      .lia
     .rw [A3 (by lia)];exact ei
    .obtain⟨i,hi,ei⟩:=h (j+1) (by lia);refine⟨i, ?_, ?_⟩
     .by_cases z:i=k
      .subst z;lia
      .lia
     .rw [A6 (by lia)];lia
   lia
  .have:=em_ k N f fun j hj=>by
    obtain⟨i,hi,ei⟩:=h j hj;refine⟨i, ?_,ei⟩;by_cases z:i=k
    .subst z;lia
    .lia
   lia
noncomputable def hAt (es:Array (Int×Value)) (i:Nat):Int:=(es[i]?.map (·.1)).getD 0
structure Tb (t:SetTable) (es:Array (Int×Value)):Prop where
 mask:Msk t.mask
 dum:t.dummies= #[]
 size:t.place.size=es.size
 ris:Ris t.place
 bnd:∀i,i<t.place.size->t.place.getD i 0<=t.mask
 reach:∀i,i<es.size->∃n,sl t.mask (hAt es i) n=t.place.getD i 0/\∀k,k<n->In t.place (sl t.mask (hAt es i) k)
theorem Tb.free {t:SetTable}{es:Array (Int×Value)} (b:Tb t es) (h:es.size<=t.mask):∃e,e<=t.mask/\¬In t.place e:=by
 refine C2 fun z=> ?_;have:=em_ t.place.size (t.mask+1) (fun i=>t.place.getD i 0) fun j hj=>by
  rcases pG_ t.place j with c|c
  .exact c
  .exact absurd ⟨j,by lia,c⟩ z
 have:=b.size;lia
theorem Tb.probe {t : SetTable} {es : Array (Int × Value)} (b : Tb t es) (hs : es.size <= t.mask) (hashAt : Nat -> Int) (h : Int) (n0 : Nat) :
    ∃ n, n0 <= n /\ (∀ k, n0 <= k -> k < n -> ∃ i, i < t.place.size /\ t.place.getD i 0 = sl t.mask h k /\ (hashAt i == h) = false) /\
      ((¬ In t.place (sl t.mask h n) /\ t.probe hashAt h (pAt t.mask h n0) = some (.empty (sl t.mask h n) none)) \/
       ∃ i, i < t.place.size /\ t.place.getD i 0 = sl t.mask h n /\ (hashAt i == h) = true /\ t.probe hashAt h (pAt t.mask h n0) = some (.candidate (sl t.mask h n) i (pAt t.mask h (n + 1)))) := by
  obtain ⟨e, he, hn⟩ := b.free hs;obtain ⟨n1, h1, h2, h3⟩ := vj_ b.mask h n0 he;exact probe_go b.ris b.dum hashAt h _ n0 ⟨n1, h1, h2, by rw [h3]; exact hn⟩
theorem eq_ {α:Type}{xs:Array α}{p:Nat} (hp:p<=xs.size) (x:α) (i:Nat):(insertAt xs p x)[i]? =if i<p then xs[i]? else if i=p then some x else xs[i-1]? :=by
 unfold insertAt;have s1:(xs.extract 0 p).size=p:=by simp;lia
 have s2:((xs.extract 0 p).push x).size=p+1:=by simp;lia
 by_cases h1:i<p
 .rw [A6 h1,Array.getElem?_append_left (by rw [s2];lia),Array.getElem?_push,A3 (by rw [s1];lia)];simp [Array.getElem?_extract];lia
 .rw [A3 h1];by_cases h2:i=p
  .rw [A6 h2,Array.getElem?_append_left (by rw [s2];lia),Array.getElem?_push,A6 (by rw [s1];exact h2)]
  .rw [A3 h2,Array.getElem?_append_right (by rw [s2];lia),s2];simp only [Array.getElem?_extract];by_cases h3:i-(p+1)<xs.size-p
   .rw [A6 (by lia)];congr 1
    lia
   .rw [A3 (by lia)];symm;rw [Array.getElem?_eq_none_iff];lia
theorem bq_ {α:Type}{xs:Array α}{p:Nat} (hp:p<=xs.size) (x:α):(insertAt xs p x).size=xs.size+1:=by
 unfold insertAt;simp;lia
theorem g5_ (xs:Array Nat) (i:Nat):xs.getD i 0=(xs[i]?).getD 0:=by
 by_cases h:i<xs.size<;>simp [Array.getD,h]
theorem b5_ {xs:Array Nat}{p:Nat} (hp:p<=xs.size) (x i:Nat):(insertAt xs p x).getD i 0=if i<p then xs.getD i 0 else if i=p then x else xs.getD (i-1) 0:=by
 rw [g5_,eq_ hp,g5_,g5_];split
 .rfl
 .split<;>rfl
theorem s4_ {xs:Array Nat}{p:Nat} (hp:p<=xs.size) (x j:Nat):In (insertAt xs p x) j↔In xs j\/j=x:=by
 constructor
 .rintro⟨i,hi,e⟩;rw [bq_ hp] at hi;rw [b5_ hp] at e;by_cases h1:i<p
  .rw [A6 h1] at e;exact .inl ⟨i,by lia,e⟩
  .rw [A3 h1] at e;by_cases h2:i=p
   .rw [A6 h2] at e;exact .inr e.symm
   .rw [A3 h2] at e;exact .inl ⟨i-1,by lia,e⟩
 .rintro(⟨i,hi,e⟩|rfl)
  .by_cases h1:i<p
   .exact⟨i,by rw [bq_ hp];lia,by rw [b5_ hp,A6 h1];exact e⟩
   .exact⟨i+1,by rw [bq_ hp];lia,by rw [b5_ hp,A3 (by lia),A3 (by lia)];exact e⟩
  .exact⟨p,by rw [bq_ hp];lia,by rw [b5_ hp,A3 (Bs _),A6 rfl]⟩
theorem q8_ {xs:Array Nat} (r:Ris xs) {j:Nat} (h:¬In xs j):Ris (insertAt xs (below xs j) j):=by
 obtain⟨a,b,c⟩:=dT_ r j;have c':∀i,below xs j<=i->i<xs.size->j<xs.getD i 0:=fun i h1 h2=>by
  have:=c i h1 h2;have:xs.getD i 0≠j:=fun z=>h ⟨i,h2,z⟩;lia
 intro i k hik hk;rw [bq_ a] at hk;rw [b5_ a,b5_ a];by_cases h1:k<below xs j
 .rw [A6 h1,A6 (by lia)];exact r i k hik (by lia)
 .rw [A3 h1];by_cases h2:k=below xs j
  .rw [A6 h2,A6 (by lia)];exact b i (by lia)
  .rw [A3 h2];by_cases h3:i<below xs j
   .rw [A6 h3];exact Nat.lt_trans (b i h3) (c' (k-1) (by lia) (by lia))
   .rw [A3 h3];by_cases h4:i=below xs j
    .rw [A6 h4];exact c' (k-1) (by lia) (by lia)
    .rw [A3 h4];exact r (i-1) (k-1) (by lia) (by lia)
theorem pq_ (t:SetTable) (hd:t.dummies= #[]) (j:Nat):t.put j=({t with place:=insertAt t.place (below t.place j) j},below t.place j):=by
 unfold put;dsimp only;rw [hd,nk_];obtain⟨a,b,c,d,e,f,g⟩:=t;dsimp only at hd;subst hd;rfl
theorem Tb.add {t:SetTable}{es:Array (Int×Value)} (b:Tb t es) (h:Int) (x:Value) (n:Nat) (hn:¬In t.place (sl t.mask h n)) (hm:sl t.mask h n<=t.mask) (hk:∀k,k<n->In t.place (sl t.mask h k)):
  Tb (t.put (sl t.mask h n)).1 (insertAt es (t.put (sl t.mask h n)).2 (h,x)):=by
 rw [pq_ t b.dum];obtain⟨a1,a2,a3⟩:=dT_ b.ris (sl t.mask h n);have a1':below t.place (sl t.mask h n)<=es.size:=by rw [<-b.size];exact a1
 refine⟨b.mask,b.dum, ?_,q8_ b.ris hn, ?_, ?_⟩
 .rw [bq_ a1,bq_ a1',b.size]
 .intro i hi;dsimp only at hi⊢;rw [bq_ a1] at hi;rw [b5_ a1];split
  .exact b.bnd i (by lia)
  .split
   .exact hm
   .exact b.bnd (i-1) (by lia)
 .intro i hi;dsimp only at hi⊢;rw [bq_ a1'] at hi;have sub:∀j,In t.place j->In (insertAt t.place (below t.place (sl t.mask h n)) (sl t.mask h n)) j:=fun j hj=>(s4_ a1 _ j).mpr (.inl hj);have eh:hAt (insertAt es (below t.place (sl t.mask h n)) (h,x)) i=if i<below t.place (sl t.mask h n) then hAt es i else if i=below t.place (sl t.mask h n) then h else hAt es (i-1):=by
   unfold hAt;rw [eq_ a1'];split
   .rfl
   .split<;>rfl
  rw [b5_ a1,eh];by_cases h1:i<below t.place (sl t.mask h n)
  .rw [A6 h1,A6 h1];obtain⟨m,e,q⟩:=b.reach i (by lia);exact⟨m,e,fun k hk=>sub _ (q k hk)⟩
  .rw [A3 h1,A3 h1];by_cases h2:i=below t.place (sl t.mask h n)
   .rw [A6 h2,A6 h2];exact⟨n,rfl,fun k hk'=>sub _ (hk k hk')⟩
   .rw [A3 h2,A3 h2];obtain⟨m,e,q⟩:=b.reach (i-1) (by lia);exact⟨m,e,fun k hk=>sub _ (q k hk)⟩
theorem iY_ {m i:Nat} (h:i<=m):i+(runEnd m i-i)<=m:=by unfold runEnd;split<;>lia
theorem mH_ (m:Nat) (h:Int):∀n,(pAt m h n).j+(pAt m h n).more<=m
 |0=>by
  have:=D8 (bits h) (show 0<m+1 by lia);exact iY_ (m:=m) (i:=bits h%(m+1)) (by lia)
 |n+1=>by
  have a:=mH_ m h n;show(b0_ m (pAt m h n)).j+(b0_ m (pAt m h n)).more<=m;unfold b0_ advance;split
  .show(pAt m h n).j+1+((pAt m h n).more-1)<=m;lia
  .unfold leap;dsimp only;have:=D8 ((pAt m h n).i*5+1+(pAt m h n).perturb/32) (show 0<m+1 by lia);exact iY_ (by lia)
theorem sl_ (m:Nat) (h:Int) (n:Nat):sl m h n<=m:=by
 have:=mH_ m h n;unfold sl;lia
noncomputable abbrev Own:=Array (Option Nat)
noncomputable def Occ (o:Own) (j:Nat):Prop:=∃k,o[j]? =some (some k)
theorem jU_ (m:Nat) (q:Nat×Nat):∀k,k<=runEnd m q.1-q.1->(dv_ m (fC_ m q) k).j=q.1+k/\(dv_ m (fC_ m q) k).more=runEnd m q.1-q.1-k
 |0,_=>⟨rfl,rfl⟩
 |k+1,h=>by
  obtain⟨a,b⟩:=jU_ m q k (by lia);show(b0_ m (dv_ m (fC_ m q) k)).j=_/\(b0_ m (dv_ m (fC_ m q) k)).more=_;unfold b0_ advance;rw [A6 (by lia)];dsimp only;rw [a,b];exact⟨by lia,by lia⟩
theorem f4_ {p:Nat->Bool}:∀(n:Nat),((List.range n).find? p=none/\∀i,i<n->p i=false)\/∃k,k<n/\(List.range n).find? p=some k/\p k=true/\∀i,i<k->p i=false
 |0=> .inl ⟨rfl,fun i h=>absurd h (by lia)⟩
 |n+1=>by
  rw [Av,List.find?_append];rcases f4_ (p:=p) n with⟨a,b⟩|⟨k,h1,h2,h3,h4⟩
  .rw [a];cases c:p n with
   |true=>exact .inr ⟨n,by lia,by simp [c],c,b⟩
   |false=>
    refine .inl ⟨by simp [c],fun i hi=> ?_⟩;by_cases e:i=n
    .rw [e];exact c
    .exact b i (by lia)
  .rw [h2];exact .inr ⟨k,by lia,rfl,h3,h4⟩
theorem nn_ {m:Nat}{o:Own} (hs:o.size=m+1) (h:Int):∀(f:Nat) (q:Nat×Nat) (n:Nat),q.1<=m->pAt m h n=fC_ m q->(∀k,k<n->Occ o (sl m h k))->(∃L,L<f/\¬Occ o (bp_ m q L).1)->
  ∃n',layClean.free m o f q.1 q.2=some (sl m h n')/\¬Occ o (sl m h n')/\∀k,k<n'->Occ o (sl m h k)
 |0,q,n,hq,hp,ho,⟨L,hL,_⟩=>absurd hL (by lia)
 |f+1,q,n,hq,hp,ho,⟨L,hL,hf⟩=>by
  unfold layClean.free;have run:∀k,k<runEnd m q.1+1-q.1->sl m h (n+k)=q.1+k:=fun k hk=>by
   unfold sl;rw [dI_,hp];exact(jU_ m q k (by lia)).1
  have rb:=iY_ hq;have rl:q.1<=runEnd m q.1:=by unfold runEnd;split<;>lia
  have no:∀j,j<=m->(((o.getD j (some 0)).isNone=false->Occ o j)/\((o.getD j (some 0)).isNone=true->¬Occ o j)):=fun j hj=>by
   have hj':j<o.size:=by lia
   have e:o[j]? =some (o.getD j (some 0)):=by simp [Array.getD,hj']
   constructor
   .intro z;cases c:o.getD j (some 0) with
    |none=>rw [c] at z;cases z
    |some k=>exact⟨k,by rw [e,c]⟩
   .rintro z ⟨k,hk⟩;rw [e] at hk;rw [Ad hk] at z;cases z
  rcases f4_ (p:=fun k=>(o.getD (q.1+k) (some 0)).isNone) (runEnd m q.1+1-q.1) with⟨a,b⟩|⟨k,h1,h2,h3,h4⟩
  .rw [a];dsimp only;have all:∀k,k<n+(runEnd m q.1-q.1+1)->Occ o (sl m h k):=fun k hk=>by
    by_cases c:k<n
    .exact ho k c
    .have e:k=n+(k-n):=by lia
     rw [e,run (k-n) (by lia)];exact(no _ (by lia)).1 (b (k-n) (by lia))
   have hj:(pB_ m q).1<=m:=by
    show(leap m _ _).1<=m;unfold leap;have:=D8 (q.1*5+1+q.2/32) (show 0<m+1 by lia);dsimp only;lia
   have hp':pAt m h (n+(runEnd m q.1-q.1+1))=fC_ m (pB_ m q):=by
    rw [dI_,hp];exact gn_ m _ (fC_ m q) rfl rfl
   have hL0:L≠0:=by
    rintro rfl;apply hf;have:=(no q.1 hq).1 (b 0 (by unfold runEnd;split<;>lia))
    exact this
   obtain⟨L',rfl⟩:∃L',L=L'+1:=⟨L-1,by lia⟩;exact nn_ hs h f (pB_ m q) _ hj hp' all ⟨L',by lia,by
    rw [show L'+1=1+L' by lia,dO_] at hf;exact hf⟩
  .rw [h2];dsimp only;refine⟨n+k,by rw [run k h1], ?_,fun k' hk'=> ?_⟩
   .rw [run k h1];exact(no _ (by lia)).2 h3
   .by_cases c:k'<n
    .exact ho k' c
    .have e:k'=n+(k'-n):=by lia
     rw [e,run (k'-n) (by lia)];exact(no _ (by lia)).1 (h4 (k'-n) (by lia))
theorem sR_ {m:Nat} (hm:Msk m) (q:Nat×Nat) (hp:q.2<2^64) {e:Nat} (he:e<=m):∃L,L<turns m/\(bp_ m q L).1=e:=by
 have z:(bp_ m q 13).2=0:=by
  rw [eh_];apply Nat.div_eq_of_lt;have h2:(2:Nat)^64<32^13:=by decide
  lia
 have j13:(bp_ m q 13).1<=m:=by
  show(leap m _ _).1<=m;unfold leap;have:=D8 ((bp_ m q 12).1*5+1+(bp_ m q 12).2/32) (show 0<m+1 by lia);dsimp only;lia
 obtain⟨k,hk,ek⟩:=pR_ hm j13 he;refine⟨13+k,by unfold turns;lia, ?_⟩;rw [dO_];have e13:bp_ m q 13=((bp_ m q 13).1,0):=Prod.ext rfl z;rw [e13,eg_];exact ek
structure Lay (m:Nat) (hs:List Int) (o:Own) (ss:Nat->Nat):Prop where
 size:o.size=m+1
 at_:∀i,i<hs.length->ss i<=m/\o[ss i]? =some (some i)
 of_:∀j k,o[j]? =some (some k)->k<hs.length/\ss k=j
 reach:∀(i:Nat) h,hs[i]? =some h->∃n,sl m h n=ss i/\∀k,k<n->Occ o (sl m h k)
theorem Lay.step {m:Nat} (hm:Msk m) {hs:List Int}{o:Own}{ss:Nat->Nat} (l:Lay m hs o ss) (h:Int) (hl:hs.length<=m):
  ∃j,layClean.free m o (turns m) (bits h%(m+1)) (bits h)=some j/\∃ss',Lay m (hs++[h]) (o.setIfInBounds j (some hs.length)) ss':=by
 obtain⟨e,he,hne⟩:∃e,e<=m/\¬Occ o e:=by
  refine C2 fun z=> ?_;have:=em_ hs.length (m+1) ss fun j hj=>by
   rcases Classical.em (Occ o j) with⟨k,hk⟩|c
   .exact⟨k,(l.of_ j k hk).1,(l.of_ j k hk).2⟩
   .exact absurd ⟨j,by lia,c⟩ z
  lia
 obtain⟨L,hL,eL⟩:=sR_ hm (bits h%(m+1),bits h) (nI_ h) he;have i0:=D8 (bits h) (show 0<m+1 by lia);obtain⟨n,e1,e2,e3⟩:=nn_ l.size h (turns m) (bits h%(m+1),bits h) 0 (by lia) rfl (fun k hk=>absurd hk (by lia)) ⟨L,hL,by rw [eL];exact hne⟩;have jm:=sl_ m h n;have js:sl m h n<o.size:=by rw [l.size];lia
 refine⟨sl m h n,e1,fun i=>if i=hs.length then sl m h n else ss i, ?_⟩;have set_:∀j,(o.setIfInBounds (sl m h n) (some hs.length))[j]? =if j=sl m h n then some (some hs.length) else o[j]? :=fun j=>by
  rw [Array.getElem?_setIfInBounds];by_cases c:sl m h n=j
  .rw [A6 c,A6 c.symm];simp [<-c,js]
  .rw [A3 c,A3 fun z=>c z.symm]
 have sub:∀j,Occ o j->Occ (o.setIfInBounds (sl m h n) (some hs.length)) j:=fun j ⟨k,hk⟩=>by
  refine⟨k, ?_⟩;rw [set_,A3]
  .exact hk
  .rintro rfl;exact e2 ⟨k,hk⟩
 refine⟨by rw [Array.size_setIfInBounds];exact l.size,fun i hi=> ?_,fun j k hk=> ?_,fun i h' hh'=> ?_⟩
 .rw [AF,BU] at hi;by_cases c:i=hs.length
  .rw [A6 c,set_,A6 rfl,c];exact⟨jm,rfl⟩
  .rw [A3 c,set_];obtain⟨a,b⟩:=l.at_ i (by lia);refine⟨a, ?_⟩;rw [A3]
   .exact b
   .intro z;rw [z] at b;exact e2 ⟨i,b⟩
 .rw [set_] at hk;rw [AF,BU];by_cases c:j=sl m h n
  .rw [A6 c] at hk;cases hk;exact⟨by lia,by rw [A6 rfl];exact c.symm⟩
  .rw [A3 c] at hk;obtain⟨a,b⟩:=l.of_ j k hk;exact⟨by lia,by rw [A3 (by lia)];exact b⟩
 .by_cases c:i<hs.length
  .rw [List.getElem?_append_left c] at hh';obtain⟨n',a,b⟩:=l.reach i h' hh';rw [A3 (by lia)];exact⟨n',a,fun k hk=>sub _ (b k hk)⟩
  .have hlt:=(AD.mp hh').1;rw [AF,BU] at hlt;obtain rfl:i=hs.length:=by lia
   rw [CQ (A9 _),Nat.sub_self] at hh';cases hh';rw [A6 rfl];exact⟨n,rfl,fun k hk=>sub _ (e3 k hk)⟩
noncomputable def fi_ (m:Nat) (acc:Option (Own×Nat)) (h:Int):Option (Own×Nat):=do
 let (owner,k)<-acc
 let j<-layClean.free m owner (turns m) (bits h%(m+1)) (bits h)
 pure (owner.setIfInBounds j (some k),k+1)
theorem kd_ {m:Nat} (hm:Msk m):∀(more hs:List Int) (o:Own) (ss:Nat->Nat),Lay m hs o ss->hs.length+more.length<=m+1->
  ∃o' ss',more.foldl (fi_ m) (some (o,hs.length))=some (o',(hs++more).length)/\Lay m (hs++more) o' ss'
 |[],hs,o,ss,l,_=>⟨o,ss,by simp,by simpa using l⟩
 |h::more,hs,o,ss,l,hl=>by
  rw [AY] at hl;obtain⟨j,e,ss',l'⟩:=l.step hm h (by lia);obtain⟨o',ss2,e2,l2⟩:=kd_ hm more (hs++[h]) _ ss' l' (by rw [AF,BU];lia);rw [BG,List.singleton_append] at e2 l2;refine⟨o',ss2, ?_,l2⟩;rw [CI];have es:fi_ m (some (o,hs.length)) h=some (o.setIfInBounds j (some hs.length),(hs++[h]).length):=by
   unfold fi_;simp only [Option.bind_eq_bind,Option.bind_some,e];simp
  rw [es];exact e2
theorem m3_ {m:Nat} (hm:Msk m) (hs:Array Int) (hl:hs.size<=m+1):∃o ss,layClean m hs=some o/\Lay m hs.toList o ss:=by
 have l0:Lay m [] (Array.replicate (m+1) none) (fun _=>0):=⟨by simp,fun i hi=>absurd hi (by simp),fun j k hk=>(by
  rw [Array.getElem?_replicate] at hk;split at hk<;>cases hk),fun i h e=>by simp at e⟩
 obtain⟨o,ss,e,l⟩:=kd_ hm hs.toList [] _ _ l0 (by simpa using hl);refine⟨o,ss, ?_,by simpa using l⟩;unfold layClean;have:hs.foldl (init:=some (Array.replicate (m+1) none,0)) (fi_ m)=some (o,([]++hs.toList).length):=by
  rw [<-Array.foldl_toList];exact e
 have e2:(hs.foldl (init:=some (Array.replicate (m+1) none,0)) fun acc h=>do
  let (owner,k)<-acc
  let j<-layClean.free m owner (turns m) (bits h%(m+1)) (bits h)
  pure (owner.setIfInBounds j (some k),k+1))=hs.foldl (init:=some (Array.replicate (m+1) none,0)) (fi_ m):=rfl
 rw [e2,this];rfl
noncomputable def bo_ (m:Nat) (o:Own):List (Nat×Nat):=(List.range (m+1)).filterMap fun j=>(o.getD j none).map (j, ·)
theorem gS_ {m:Nat}{o:Own} (hs:o.size=m+1) (j k:Nat):(j,k)∈bo_ m o↔o[j]? =some (some k):=by
 unfold bo_;rw [D9];constructor
 .rintro⟨a,ha,e⟩;obtain⟨k',e1,e2⟩:=A5.mp e;cases e2;have hj:j<o.size:=by rw [hs];simpa using ha
  have e:o[j]? =some (o.getD j none):=by simp [Array.getD,hj]
  rw [e,e1]
 .intro e;obtain⟨hj,e2⟩:=Bw.mp e;refine⟨j,by simpa [hs] using hj, ?_⟩;have:o.getD j none=some k:=by simp [Array.getD,hj,e2]
  rw [this];rfl
theorem q0_ (m:Nat) (o:Own):(bo_ m o).Pairwise fun a b=>a.1<b.1:=by
 unfold bo_;rw [List.pairwise_filterMap];refine List.Pairwise.imp ?_ (List.pairwise_lt_range (n:=m+1));intro a b hab x hx y hy;obtain⟨_,_,e1⟩:=A5.mp hx;obtain⟨_,_,e2⟩:=A5.mp hy;rw [<-e1,<-e2];exact hab
structure Laid (m:Nat) (hs:Array Int) (pl od:Array Nat):Prop where
 ps:pl.size=hs.size
 os:od.size=hs.size
 ris:Ris pl
 bnd:∀i,i<pl.size->pl.getD i 0<=m
 lt:∀i,i<hs.size->od.getD i 0<hs.size
 inj:∀i j,i<hs.size->j<hs.size->od.getD i 0=od.getD j 0->i=j
 sur:∀k,k<hs.size->∃i,i<hs.size/\od.getD i 0=k
 reach:∀i,i<hs.size->∃n,sl m (hs.getD (od.getD i 0) 0) n=pl.getD i 0/\∀k,k<n->In pl (sl m (hs.getD (od.getD i 0) 0) k)
theorem q4_ {m:Nat} (hm:Msk m) (fg mv:Nat) (led plain:Bool) (hs:Array Int) (hl:hs.size<=m+1):
  ∃pl od,laid m fg mv led plain hs=some ({mask:=m,place:=pl,dummies:= #[],finger:=fg,led:=led,moves:=mv,plain:=plain},od)/\Laid m hs pl od:=by
 obtain⟨o,ss,e,l⟩:=m3_ hm hs hl;have ln:hs.toList.length=hs.size:=Ao;refine⟨((bo_ m o).map (·.1)).toArray,((bo_ m o).map (·.2)).toArray, ?_, ?_⟩
 .unfold laid;rw [e];rfl
 have at_:∀i (h:i<(bo_ m o).length),((bo_ m o).map (·.1)).toArray.getD i 0=(bo_ m o)[i].1/\((bo_ m o).map (·.2)).toArray.getD i 0=(bo_ m o)[i].2/\o[(bo_ m o)[i].1]? =some (some (bo_ m o)[i].2):=fun i h=>by
  refine⟨by simp [Array.getD,h],by simp [Array.getD,h],(gS_ l.size _ _).mp ?_⟩;exact List.getElem_mem h
 have ris:Ris ((bo_ m o).map (·.1)).toArray:=fun i j hij hj=>by
  have hj':j<(bo_ m o).length:=by simpa using hj
  rw [(at_ i (by lia)).1,(at_ j hj').1];exact CV.mp (q0_ m o) i j (by lia) hj' hij
 have sur:∀k,k<hs.size->∃i,∃h:i<(bo_ m o).length,(bo_ m o)[i].2=k/\(bo_ m o)[i].1=ss k:=fun k hk=>by
  have:=(gS_ l.size (ss k) k).mpr (l.at_ k (by rw [ln];exact hk)).2;obtain⟨i,hi,e⟩:=C5.mp this;exact⟨i,hi,by rw [e],by rw [e]⟩
 have size:(bo_ m o).length=hs.size:=by
  have h1:=em_ (bo_ m o).length hs.size (fun i=>((bo_ m o).map (·.2)).toArray.getD i 0) fun k hk=>by
   obtain⟨i,hi,e,_⟩:=sur k hk;exact⟨i,hi,by rw [(at_ i hi).2.1,e]⟩
  have h2:=em_ hs.size (bo_ m o).length (fun k=>below ((bo_ m o).map (·.1)).toArray (ss k)) fun i hi=>by
   obtain⟨a1,a2,a3⟩:=at_ i hi;obtain⟨b1,b2⟩:=l.of_ _ _ a3;refine⟨(bo_ m o)[i].2,by lia, ?_⟩;rw [b2,<-a1];exact kP_ ris (by simpa using hi)
  lia
 have inOcc:∀j,Occ o j->In ((bo_ m o).map (·.1)).toArray j:=fun j ⟨k,hk⟩=>by
  obtain⟨i,hi,e⟩:=C5.mp ((gS_ l.size j k).mpr hk);exact⟨i,by simpa using hi,by rw [(at_ i hi).1,e]⟩
 refine⟨by simpa using size,by simpa using size,ris,fun i hi=> ?_,fun i hi=> ?_,fun i j hi hj e=> ?_,fun k hk=> ?_,fun i hi=> ?_⟩
 .have hi':i<(bo_ m o).length:=by simpa using hi
  obtain⟨a1,a2,a3⟩:=at_ i hi';rw [a1];have:=(Bw.mp a3).1;have:=l.size;lia
 .obtain⟨a1,a2,a3⟩:=at_ i (by lia);rw [a2];have:=(l.of_ _ _ a3).1;lia
 .obtain⟨a1,a2,a3⟩:=at_ i (by lia);obtain⟨b1,b2,b3⟩:=at_ j (by lia);rw [a2,b2] at e;have e1:=(l.of_ _ _ a3).2;have e2:=(l.of_ _ _ b3).2;rw [e,e2] at e1;by_cases c:i<j
  .have:=ris i j c (by simp;lia);lia
  .by_cases c2:j<i
   .have:=ris j i c2 (by simp;lia);lia
   .lia
 .obtain⟨i,hi,e,_⟩:=sur k hk;exact⟨i,by lia,by rw [(at_ i hi).2.1,e]⟩
 .obtain⟨a1,a2,a3⟩:=at_ i (by lia);obtain⟨b1,b2⟩:=l.of_ _ _ a3;have hk:(bo_ m o)[i].2<hs.size:=by lia
  have eh:hs.toList[(bo_ m o)[i].2]? =some (hs.getD (bo_ m o)[i].2 0):=by simp [Array.getD,hk]
  obtain⟨n,e,q⟩:=l.reach _ _ eh;rw [a1,a2];exact⟨n,by rw [e,b2],fun k hk=>inOcc _ (q k hk)⟩
theorem pI_ {α β:Type}{f:α->Option β}{g:α->β}:∀(l:List α),(∀a∈l,f a=some (g a))->l.filterMap f=l.map g
 |[],_=>rfl
 |a::l,h=>by
  rw [List.filterMap_cons_some (h a (by simp)),AI,pI_ l fun b hb=>h b (by simp [hb])]
theorem rv_:sizeAbove 20=32:=by decide
theorem ru_:sizeAbove 76=128:=by decide
theorem Tb.again {t:SetTable}{es:Array (Int×Value)} (hm:(t.mask=7/\es.size=5)\/(t.mask=31/\es.size=19)):
  ∃pl od,t.relaid (es.map (·.1)) (grown es.size)=some ({mask:=sizeAbove (grown es.size)-1,place:=pl,dummies:= #[],finger:=t.finger,led:=t.led,moves:=t.movedTo (sizeAbove (grown es.size)-1),plain:=t.plain},od)/\
   Tb {mask:=sizeAbove (grown es.size)-1,place:=pl,dummies:= #[],finger:=t.finger,led:=t.led,moves:=t.movedTo (sizeAbove (grown es.size)-1),plain:=t.plain} (od.filterMap (es[·]?))/\
   (od.filterMap (es[·]?)).size=es.size/\(∀i,i<es.size->∃k,k<es.size/\(od.filterMap (es[·]?))[i]? =es[k]? /\k=od.getD i 0)/\
   (∀i j,i<es.size->j<es.size->od.getD i 0=od.getD j 0->i=j)/\(∀k,k<es.size->∃i,i<es.size/\od.getD i 0=k)/\
   es.size*5<(sizeAbove (grown es.size)-1)*3/\sizeAbove (grown es.size)<=sizeLine:=by
 have hM:Msk (sizeAbove (grown es.size)-1)/\es.size<=sizeAbove (grown es.size)-1+1/\es.size*5<(sizeAbove (grown es.size)-1)*3/\sizeAbove (grown es.size)<=sizeLine:=by
  rcases hm with⟨_,e⟩|⟨_,e⟩
  .rw [e,show grown 5=20 from rfl,rv_];exact⟨.inr (.inl rfl),by decide,by decide,by decide⟩
  .rw [e,show grown 19=76 from rfl,ru_];exact⟨.inr (.inr rfl),by decide,by decide,by decide⟩
 have sz:(es.map (·.1)).size=es.size:=Array.size_map;obtain⟨pl,od,e,L⟩:=q4_ hM.1 t.finger (t.movedTo (sizeAbove (grown es.size)-1)) t.led t.plain (es.map (·.1)) (by rw [sz];exact hM.2.1);have odlt:∀i,i<es.size->od.getD i 0<es.size:=fun i hi=>by have:=L.lt i (by rw [sz];exact hi);rw [sz] at this;exact this
 have ods:od.size=es.size:=by rw [L.os,sz]
 have fm:od.filterMap (es[·]?)=od.map fun k=>es.getD k (0, .none):=by
  apply Array.toList_inj.mp;rw [Array.toList_filterMap,Array.toList_map];refine pI_ _ fun k hk=> ?_;obtain⟨i,hi,ei⟩:=C5.mp hk;have hi':i<od.size:=by simpa using hi
  have:k<es.size:=by
   have:=odlt i (by lia);simp only [Array.getD,hi',dite_true] at this;simp only [Array.getElem_toList] at ei;rw [<-ei];exact this
  simp [Array.getD,this]
 have fs:(od.filterMap (es[·]?)).size=es.size:=by rw [fm,Array.size_map,ods]
 have fat:∀i,i<es.size->(od.filterMap (es[·]?))[i]? =es[od.getD i 0]? :=fun i hi=>by
  have h2:=odlt i hi;have hi':i<od.size:=by lia
  rw [fm,Array.getElem?_map];have e1:od[i]? =some (od.getD i 0):=by simp [Array.getD,hi']
  rw [e1];simp only [Option.map_some];generalize od.getD i 0=k at h2⊢;simp [Array.getD,h2]
 refine⟨pl,od,e,⟨hM.1,rfl,by rw [fs];show pl.size=_;rw [L.ps,sz],L.ris,L.bnd,fun i hi=> ?_⟩,fs,fun i hi=>⟨od.getD i 0,odlt i hi,fat i hi,rfl⟩,fun i j hi hj=>L.inj i j (by rw [sz];exact hi) (by rw [sz];exact hj),fun k hk=> ?_,hM.2.2⟩
 .rw [fs] at hi;obtain⟨n,e1,e2⟩:=L.reach i (by rw [sz];exact hi);have eh:(es.map (·.1)).getD (od.getD i 0) 0=hAt (od.filterMap (es[·]?)) i:=by
   unfold hAt;rw [fat i hi];have h2:=odlt i hi;generalize od.getD i 0=k at h2⊢;simp [Array.getD,h2]
  rw [eh] at e1 e2;exact⟨n,e1,e2⟩
 .obtain⟨i,hi,ei⟩:=L.sur k (by rw [sz];exact hk);exact⟨i,by rw [sz] at hi;exact hi,ei⟩
end L2
namespace L2
open PySem PySem.SetTable PySem.Spec PyProof.Rows
section
variable {prog:Program}{w:World}{A:Around}{E:Value->Shared->Prop}{s:Shared}
theorem km_ {k:List Int}{vs:List Value} (h:ItemsAre (intKind prog w) k vs):∀v∈vs,∃n t,v= .int n t:=by
 induction h with
 |nil=>intro v hv;simp at hv
 | @cons k v' ks vs h1 _ ih=>
  intro v hv;rcases AK.mp hv with rfl|hv
  .cases v with
   |int n t=>exact⟨n,t,rfl⟩
   |_=>exact absurd h1 (by simp [intKind,Value.isInt])
  .exact ih v hv
theorem fd_ {k:List Int}{x:Addr}{Q:Bool->Shared->Prop} (hx:IsTupleKey (intKind prog w) s.heap k x) (h:Q false s):
  wpAny (model prog w) A (ofAClassStatement 8 (.ref x)) Q E s:=by
 have hT:=hx.typeIs;obtain⟨o,items,n,ho,hc,hd,hi⟩:=hx;unfold ofAClassStatement;refine A0 (DD hT ?_);show wpAny _ _ ((if("tuple"=="tuple")=true then pure true else isSubtype (.type "tuple") (.type "tuple"))>>=_) _ _ s;refine A0 (A2 ?_);simp only [BA,AG,Am];refine A0 (Bj ho hd ?_);refine A0 ?_;show wpAny _ _ (forIn items _ _) _ _ s;rw [<-Ce];refine C1 _ (fun cv_ r s'=>r.1=none/\s'=s/\∀v∈cv_,∃n t,v=Value.int n t) _ ?_ ?_ _ _ ⟨rfl,rfl,km_ hi⟩
 .rintro v cv_ r s' ⟨hr,rfl,hall⟩;obtain⟨n,t,rfl⟩:=hall v AX;refine A0 (D7 (show ofAClassStatement 7 (.int n t)=pure false from by unfold ofAClassStatement;rfl) (A2 ?_));simp only [AG,Am];exact⟨trivial,trivial,fun u hu'=>hall u (AS _ hu')⟩
 .rintro⟨r1,r2⟩ s' ⟨hr,rfl,_⟩;simp only at hr;subst hr;exact A2 h
theorem oh_ {k:List Int}{x:Addr}{Q:Bool->Shared->Prop} (hx:IsTupleKey (intKind prog w) s.heap k x) (ys:List Value)
  (hy:∀y∈ys,∃b j,y= .ref b/\IsTupleKey (intKind prog w) s.heap j b) (h:Q false s):
  wpAny (model prog w) A (searchCouldBeSeen (.ref x) ys) Q E s:=by
 unfold searchCouldBeSeen;refine A0 ?_;refine C1 _ (fun cv_ r s'=>r.1=none/\s'=s/\∀v∈cv_,∃b j,v=Value.ref b/\IsTupleKey (intKind prog w) s.heap j b) _ ?_ ?_ _ _ ⟨rfl,rfl,hy⟩
 .rintro v cv_ r s' ⟨hr,rfl,hall⟩;obtain⟨b,j,rfl,hj⟩:=hall v AX;have hall':∀u∈cv_,∃b j,u=Value.ref b/\IsTupleKey (intKind prog w) s'.heap j b:=fun u hu'=>hall u (AS _ hu');dsimp only;split
  .exact A2 ⟨rfl,rfl,hall'⟩
  .refine A0 (wpAny_eqIsQuiet_tuple hx ?_);simp only [BA,AG,Am];refine A0 (wpAny_eqIsQuiet_tuple hj ?_);simp only [BA,AG,Am];refine A0 (fd_ hx ?_);simp only [AG,Am];refine A0 (fd_ hj ?_);simp only [AG,Am];exact A2 ⟨rfl,rfl,hall'⟩
 .rintro⟨r1,r2⟩ s' ⟨hr,rfl,_⟩;simp only at hr;subst hr;exact A2 h
structure Ent (prog:Program) (w:World) (h:Heap) (es:Array (Int×Value)):Prop where
 ent:∀i,i<es.size->∃k b,es[i]? =some (tupleKeyHash (intKind prog w) k, .ref b)/\IsTupleKey (intKind prog w) h k b
 dis:∀(i j:Nat) (k:List Int) (b c:Addr) (g g':Int),es[i]? =some (g,Value.ref b)->es[j]? =some (g',Value.ref c)->IsTupleKey (intKind prog w) h k b->IsTupleKey (intKind prog w) h k c->i=j
noncomputable def rB_ (prog:Program) (w:World) (h:Heap) (es:Array (Int×Value)) (k:List Int):Prop:=∃(i:Nat) (b:Addr),es[i]? =some (tupleKeyHash (intKind prog w) k, .ref b)/\IsTupleKey (intKind prog w) h k b
theorem l9_ (a:Addr) (x:Value) (h:Int) (adding:Bool) (fuel:Nat) (stand:Option Probe):setSearchFrom a x h adding (fuel+1) stand=(do
  let (es,_,t)<-setState a
  if t.gaveWay then unsupported "set:on-a-table-that-gave-way"
  let some met:=t.probe (hAt es) h (stand.getD (t.probeStart h))|unsupported "internal:set-table-without-an-empty-slot"
  match met with
  | .empty j dummy=>
   match dummy with
   |none=>return .free j false
   |some d=>
    if adding&&t.slot d != .dummy then rule "set.search.the-dummy-was-taken";return<-setSearchFrom a x h adding fuel none
    return .free d true
  | .candidate j i next=>
   if !t.led then
    if<-searchCouldBeSeen x ((es.filter (·.1==h)).toList.map (·.2)) then unsupported "set:the-search-would-show-the-table"
   let some (_,y):=es[i]? |unsupported "internal:set-entry"
   let equal<-holding [y] (eqBool y x)
   let (es',_,t')<-setState a
   if adding&&equal then return .there none
   let some same:=t'.sameMemory t.moves t.mask|unsupported "set.changed-during-lookup:is-the-new-block-at-the-old-address"
   let still<-match(if same then t'.slot j else .empty) with
    | .live i'=>match es'[i']? with
     |some (_,y')=>do pure (if<-isSame y' y then some i' else none)
     |none=>pure none
    |_=>pure none
   match still with
   |none=>rule "set.search.anew";setSearchFrom a x h adding fuel none
   |some i'=>if equal then return .there (some i') else setSearchFrom a x h adding fuel (some next)):=rfl
theorem kj_ {h:Heap}{es:Array (Int×Value)} (e:Ent prog w h es) {i:Nat} (hi:i<es.size) {k:List Int}{b:Addr}{g:Int} (he:es[i]? =some (g, .ref b)) (hk:IsTupleKey (intKind prog w) h k b):
  g=tupleKeyHash (intKind prog w) k:=by
 obtain⟨k',b',e',hk'⟩:=e.ent i hi;rw [e'] at he;simp only [B1,BJ,Bu] at he;obtain⟨rfl,rfl⟩:=he;rw [hk.inj hk']
theorem dg_ {α:Type}{xs:Array α}{i:Nat}{a:α} (h:xs[i]? =some a):i<xs.size:=by
 rcases Bd i xs.size with c|c
 .exact c
 .rw [Be c] at h;exact nomatch h
theorem dj_ {es:Array (Int×Value)}{t:SetTable} (b:Tb t es) (hs:es.size<=t.mask):t.fits es.size=true:=by
 have h1:t.fill<=t.mask:=by
  unfold SetTable.fill;rw [b.dum,b.size];exact hs
 unfold SetTable.fits;rw [b.size,B9 h1];simp
theorem fO_ {a:Addr}{o:Obj}{es:Array (Int×Value)}{ep:Nat}{t:SetTable} (ho:s.heap.get? a=some o) (hd:o.data= .set es ep t) (b:Tb t es) (hs:es.size<=t.mask)
  (hu:A.units<cLine) (en:Ent prog w s.heap es) {k:List Int}{x:Addr} (hx:IsTupleKey (intKind prog w) s.heap k x) {Q:SetFound->Shared->Prop}
  (hT:rB_ prog w s.heap es k->Q (.there none) s)
  (hF:∀n,¬In t.place (sl t.mask (tupleKeyHash (intKind prog w) k) n)->(∀j,j<n->In t.place (sl t.mask (tupleKeyHash (intKind prog w) k) j))->¬rB_ prog w s.heap es k->
   Q (.free (sl t.mask (tupleKeyHash (intKind prog w) k) n) false) s):
  ∀(fuel n0:Nat) (stand:Option Probe),(∃N,n0<=N/\N<n0+fuel/\¬In t.place (sl t.mask (tupleKeyHash (intKind prog w) k) N))->
   (∀j,j<n0->∃i,i<t.place.size/\t.place.getD i 0=sl t.mask (tupleKeyHash (intKind prog w) k) j/\∀g c,es[i]? =some (g,Value.ref c)->¬IsTupleKey (intKind prog w) s.heap k c)->
   stand.getD (t.probeStart (tupleKeyHash (intKind prog w) k))=pAt t.mask (tupleKeyHash (intKind prog w) k) n0->
   wpAny (model prog w) A (setSearchFrom a (.ref x) (tupleKeyHash (intKind prog w) k) true fuel stand) Q E s
 |0,n0,_,⟨N,h1,h2,_⟩,_,_=>absurd h2 (by lia)
 |fuel+1,n0,stand,⟨N,h1,h2,h3⟩,hp,hst=>by
  have hf:t.fits es.size=true:=dj_ b hs;have hw:t.gaveWay=false:=by
   unfold SetTable.gaveWay;rcases b.mask with e|e|e<;>rw [e]<;>rfl
  rw [l9_];refine A0 (BI ho hd hf ?_);dsimp only;rw [hw,hst];simp only [AG,Am];obtain⟨n,hn,hq,hr⟩:=b.probe hs (hAt es) (tupleKeyHash (intKind prog w) k) n0;have hp':∀j,j<n->∃i,i<t.place.size/\t.place.getD i 0=sl t.mask (tupleKeyHash (intKind prog w) k) j/\∀g c,es[i]? =some (g,Value.ref c)->¬IsTupleKey (intKind prog w) s.heap k c:=by
   intro j hj;rcases Bd j n0 with c|c
   .exact hp j c
   .obtain⟨i,hi,ei,eh⟩:=hq j c hj;refine⟨i,hi,ei,fun g c e hk=> ?_⟩;have:=kj_ en (by rw [<-b.size];exact hi) e hk;unfold hAt at eh;rw [e] at eh;simp [this] at eh
  rcases hr with⟨r1,r2⟩|⟨i,hi,ei,eh,r2⟩
  .rw [r2];refine A2 (hF n r1 (fun j hj=> ?_) fun⟨i,c,e,hk⟩=> ?_)
   .obtain⟨i,hi,ei,_⟩:=hp' j hj;exact⟨i,hi,ei⟩
   .have hil:=dg_ e;obtain⟨m,em,hm⟩:=b.reach i hil;have eha:hAt es i=tupleKeyHash (intKind prog w) k:=by unfold hAt;rw [e];rfl
    rw [eha] at em hm;have hmn:m<n:=by
     rcases Bd m n with c|c
     .exact c
     .exfalso;rcases Bd n m with d|d
      .exact r1 (hm n d)
      .have:m=n:=by lia
       subst this;exact r1 ⟨i,by rw [b.size];exact hil,em.symm⟩
    obtain⟨i',hi',ei',hno⟩:=hp' m hmn;have:i'=i:=by
     rcases Nat.lt_trichotomy i' i with c|c|c
     .have:=b.ris i' i c (by rw [b.size];exact hil);lia
     .exact c
     .have:=b.ris i i' c hi';lia
    subst this;exact hno _ _ e hk
  .rw [r2];dsimp only;have hil:i<es.size:=by rw [<-b.size];exact hi
   obtain⟨k',y,ey,hy⟩:=en.ent i hil;have hSeen:∀y∈(es.filter (fun e=>e.1==tupleKeyHash (intKind prog w) k)).toList.map (·.2),∃b j,y=Value.ref b/\IsTupleKey (intKind prog w) s.heap j b:=by
    intro y hy;obtain⟨e,he,rfl⟩:=Ab.mp hy;have he':e∈es:=by
     have:=Array.mem_toList_iff.mp he;exact(Array.mem_filter.mp this).1
    obtain⟨i,hi,ei⟩:=Array.mem_iff_getElem.mp he';obtain⟨k',y,ey,hy'⟩:=en.ent i hi;rw [Ak hi,ei] at ey;simp only [B1] at ey;subst ey;exact⟨y,k',rfl,hy'⟩
   have goal2:wpAny (model prog w) A (do
     let some (_,y):=es[i]? |unsupported "internal:set-entry"
     let equal<-holding [y] (eqBool y (.ref x))
     let (es',_,t')<-setState a
     if true&&equal then return SetFound.there none
     let some same:=t'.sameMemory t.moves t.mask|unsupported "set.changed-during-lookup:is-the-new-block-at-the-old-address"
     let still<-match(if same then t'.slot (sl t.mask (tupleKeyHash (intKind prog w) k) n) else .empty) with
      | .live i'=>match es'[i']? with
       |some (_,y')=>do pure (if<-isSame y' y then some i' else none)
       |none=>pure none
      |_=>pure none
     match still with
     |none=>rule "set.search.anew";setSearchFrom a (.ref x) (tupleKeyHash (intKind prog w) k) true fuel none
     |some i'=>if equal then return SetFound.there (some i') else setSearchFrom a (.ref x) (tupleKeyHash (intKind prog w) k) true fuel (some (pAt t.mask (tupleKeyHash (intKind prog w) k) (n+1)))) Q E s:=by
    rw [ey];dsimp only;refine A0 (Au (wpAny_eqBool_tuple hu hy hx ?_));refine A0 (BI ho hd hf ?_);dsimp only;by_cases hkk:k'=k
    .subst hkk;rw [B9 rfl];simp only [Bool.true_and,C4];exact A2 (hT ⟨i,y,ey,hy⟩)
    .rw [Ai hkk];simp only [D',AG,Am];have hsm:t.sameMemory t.moves t.mask=some true:=by unfold SetTable.sameMemory;simp
     rw [hsm];dsimp only;rw [A6 rfl,<-ei,hq_ b.ris hi];dsimp only;rw [ey];dsimp only;refine A0 ?_;refine wpAny_isSame_ref_self ?_;simp only [C4];refine fO_ ho hd b hs hu en hx hT hF fuel (n+1) _ ⟨N, ?_,by lia,h3⟩ ?_ rfl
     .have:n≠N:=fun e=>h3 (by rw [<-e];exact⟨i,hi,ei⟩);have:¬N<n:=fun c=>by
       obtain⟨i',hi',ei',_⟩:=hp' N c;exact h3 ⟨i',hi',ei'⟩
      lia
     .intro j hj;rcases Bd j n with c|c
      .exact hp' j c
      .have:j=n:=by lia
       subst this;refine⟨i,hi,ei,fun g c e hk=>hkk ?_⟩;rw [ey] at e;simp only [B1,BJ,Bu] at e;obtain⟨_,rfl⟩:=e;exact hy.inj hk
   cases hl:t.led with
   |true=>simpa only [BA,AG,Am] using goal2
   |false=>
    simp only [Cm,C4];refine A0 (oh_ hx _ hSeen ?_);simp only [AG,Am];exact goal2
noncomputable def nZ_ (h:Heap) (S:Addr) (led:Bool) (es:Array (Int×Value)):Prop:=
 ∃ep t,h.get? S=some {cls:= .type "set",dict:=none,data:= .set es ep t}/\Tb t es/\t.led=led/\t.plain=true/\es.size*5<t.mask*3
theorem iB_ {h:Heap}{a:Addr}{es:Array (Int×Value)}{ep:Nat}{t:SetTable} (ho:h.get? a=some {cls:= .type "set",dict:=none,data:= .set es ep t}) (es':Array (Int×Value)) (t':SetTable):
  (h.update a (Obj.putSet es' t')).get? a=some {cls:= .type "set",dict:=none,data:= .set es' (ep+1) t'}:=by
 have:=C7 (Obj.putSet es' t') ho (by rw [putSet_of es' t' rfl];rfl);rw [putSet_of es' t' rfl] at this;exact this
theorem pA_ {h h':Heap}{S:Addr}{o o':Obj}{es es':Array (Int×Value)}{ep ep':Nat}{t t':SetTable} (q:Heap.SameBut S h h') (e:h.get? S=some o) (hd:o.data= .set es ep t)
  (e':h'.get? S=some o') (hd':o'.data= .set es' ep' t') (k:List Int) (x:Addr):
  IsTupleKey (intKind prog w) h k x↔IsTupleKey (intKind prog w) h' k x:=by
 constructor
 .rintro⟨o,items,n,ho,hc,hdd,hi⟩;refine⟨o,items,n,(q.2 x fun z=> ?_).trans ho,hc,hdd,hi⟩;subst z;rw [ho,B1] at e;subst e;rw [hd] at hdd;exact nomatch hdd
 .rintro⟨o,items,n,ho,hc,hdd,hi⟩;refine⟨o,items,n,(q.2 x fun z=> ?_).symm.trans ho,hc,hdd,hi⟩;subst z;rw [ho,B1] at e';subst e';rw [hd'] at hdd;exact nomatch hdd
theorem jy_ {k:List Int}{x:Addr}{Q:Bool->Shared->Prop} (hx:IsTupleKey (intKind prog w) s.heap k x) (h:Q true s):
  wpAny (model prog w) A (hashByValue 8 (.ref x)) Q E s:=by
 have hT:=hx.typeIs;obtain⟨o,items,n,ho,hc,hd,hi⟩:=hx;unfold hashByValue;refine A0 (CM hT Cw.lookup ?_);dsimp only;refine A0 (Bj ho hd ?_);refine A0 ?_;show wpAny _ _ (forIn items _ _) _ _ s;rw [<-Ce];refine C1 _ (fun cv_ r s'=>r.1=none/\s'=s/\∀v∈cv_,∃n t,v=Value.int n t) _ ?_ ?_ _ _ ⟨rfl,rfl,km_ hi⟩
 .rintro v cv_ r s' ⟨hr,rfl,hall⟩;obtain⟨n,t,rfl⟩:=hall v AX;refine A0 (D7 (show hashByValue 7 (.int n t)=pure true from by unfold hashByValue;rfl) (A2 ?_));simp only [BA,AG,Am];exact⟨trivial,trivial,fun u hu'=>hall u (AS _ hu')⟩
 .rintro⟨r1,r2⟩ s' ⟨hr,rfl,_⟩;simp only at hr;subst hr;exact A2 h
theorem Ent.perm {h h':Heap}{es es':Array (Int×Value)} (en:Ent prog w h es) (hk:∀k x,IsTupleKey (intKind prog w) h k x↔IsTupleKey (intKind prog w) h' k x) (f:Nat->Nat)
  (hf:∀i,i<es'.size->f i<es.size/\es'[i]? =es[f i]?) (hj:∀i j,i<es'.size->j<es'.size->f i=f j->i=j):Ent prog w h' es':=by
 refine⟨fun i hi=> ?_,fun i j k b c g g' e1 e2 k1 k2=> ?_⟩
 .obtain⟨k,b,e,q⟩:=en.ent (f i) (hf i hi).1;exact⟨k,b,by rw [(hf i hi).2];exact e,(hk _ _).mp q⟩
 .have l1:=dg_ e1;have l2:=dg_ e2;rw [(hf i l1).2] at e1;rw [(hf j l2).2] at e2;exact hj i j l1 l2 (en.dis _ _ k b c g g' e1 e2 ((hk _ _).mpr k1) ((hk _ _).mpr k2))
theorem Ent.insert {h h':Heap}{es:Array (Int×Value)} (en:Ent prog w h es) (hk:∀k x,IsTupleKey (intKind prog w) h k x↔IsTupleKey (intKind prog w) h' k x) {p:Nat} (hp:p<=es.size) {k:List Int}{x:Addr}
  (hx:IsTupleKey (intKind prog w) h k x) (hno:¬rB_ prog w h es k):Ent prog w h' (insertAt es p (tupleKeyHash (intKind prog w) k, .ref x)):=by
 have old:∀(i:Nat) (k':List Int) (b:Addr) (g:Int),es[i]? =some (g,Value.ref b)->IsTupleKey (intKind prog w) h k' b->k'≠k:=by
  rintro i k' b g e q rfl;exact hno ⟨i,b,by rw [e,kj_ en (dg_ e) e q],q⟩
 refine⟨fun i hi=> ?_,fun i j k' b c g g' e1 e2 k1 k2=> ?_⟩
 .rw [bq_ hp] at hi;rw [eq_ hp];by_cases c1:i<p
  .rw [A6 c1];obtain⟨k',b,e,q⟩:=en.ent i (by lia);exact⟨k',b,e,(hk _ _).mp q⟩
  .rw [A3 c1];by_cases c2:i=p
   .rw [A6 c2];exact⟨k,x,rfl,(hk _ _).mp hx⟩
   .rw [A3 c2];obtain⟨k',b,e,q⟩:=en.ent (i-1) (by lia);exact⟨k',b,e,(hk _ _).mp q⟩
 .rw [eq_ hp] at e1 e2;have k1':=(hk _ _).mpr k1;have k2':=(hk _ _).mpr k2;have new:∀(b:Addr) (g:Int),some (tupleKeyHash (intKind prog w) k,Value.ref x)=some (g,Value.ref b)->IsTupleKey (intKind prog w) h k' b->k'=k:=by
   intro b g e q;simp only [B1,BJ,Bu] at e;obtain⟨_,rfl⟩:=e;exact q.inj hx
  by_cases a1:i<p
  .rw [A6 a1] at e1;by_cases b1:j<p
   .rw [A6 b1] at e2;exact en.dis _ _ _ _ _ _ _ e1 e2 k1' k2'
   .rw [A3 b1] at e2;by_cases b2:j=p
    .rw [A6 b2] at e2;exact absurd (new _ _ e2 k2') (old _ _ _ _ e1 k1')
    .rw [A3 b2] at e2;have:=en.dis _ _ _ _ _ _ _ e1 e2 k1' k2';lia
  .rw [A3 a1] at e1;by_cases a2:i=p
   .rw [A6 a2] at e1;by_cases b1:j<p
    .rw [A6 b1] at e2;exact absurd (new _ _ e1 k1') (old _ _ _ _ e2 k2')
    .rw [A3 b1] at e2;by_cases b2:j=p
     .lia
     .rw [A3 b2] at e2;exact absurd (new _ _ e1 k1') (old _ _ _ _ e2 k2')
   .rw [A3 a2] at e1;by_cases b1:j<p
    .rw [A6 b1] at e2;have:=en.dis _ _ _ _ _ _ _ e1 e2 k1' k2';lia
    .rw [A3 b1] at e2;by_cases b2:j=p
     .rw [A6 b2] at e2;exact absurd (new _ _ e2 k2') (old _ _ _ _ e1 k1')
     .rw [A3 b2] at e2;have:=en.dis _ _ _ _ _ _ _ e1 e2 k1' k2';lia
theorem nd_ {es:Array (Int×Value)}{p:Nat} (hp:p<=es.size) (x v:Int×Value):(∃i:Nat,(insertAt es p x)[i]? =some v)↔(∃i:Nat,es[i]? =some v)\/v=x:=by
 constructor
 .rintro⟨i,e⟩;rw [eq_ hp] at e;split at e
  .exact .inl ⟨_,e⟩
  .split at e
   .rw [B1] at e;exact .inr e.symm
   .exact .inl ⟨_,e⟩
 .rintro(⟨i,e⟩|rfl)
  .by_cases c:i<p
   .exact⟨i,by rw [eq_ hp,A6 c];exact e⟩
   .exact⟨i+1,by rw [eq_ hp,A3 (by lia),A3 (by lia)];exact e⟩
  .exact⟨p,by rw [eq_ hp,A3 (by lia),A6 rfl]⟩
theorem om_ (a:Addr) (wanted:Nat):setRelay a wanted=(do
  let (es,_,t)<-setState a
  if SetTable.sizeAbove wanted>sizeLine then unsupported "set:memory"
  let (es,t)<-(do
   let some (t,order):=t.relaid (es.map (·.1)) wanted|unsupported "internal:set-table-without-room"
   let es':=order.filterMap (es[·]?)
   if es'.size !=es.size then unsupported "internal:set-table-lost-an-element"
   pure (es',t):Sem (Array (Int×Value)×SetTable))
  storeSet a es t):=rfl
theorem rt_ {S:Addr}{led:Bool}{es:Array (Int×Value)} (hS:nZ_ s.heap S led es) (en:Ent prog w s.heap es) {k:List Int}{x:Addr} (hx:IsTupleKey (intKind prog w) s.heap k x)
  (hu:A.units<cLine) (h64:es.size<64) {Q:Bool->Shared->Prop}
  (h:∀b h' es',Heap.SameBut S s.heap h'->nZ_ h' S led es'->Ent prog w h' es'->
   (rB_ prog w s.heap es k/\es'=es\/¬rB_ prog w s.heap es k/\es'.size=es.size+1/\∀v,(∃i:Nat,es'[i]? =some v)↔(∃i:Nat,es[i]? =some v)\/v=(tupleKeyHash (intKind prog w) k, .ref x))->Q b {s with heap:=h'}):
  wpAny (model prog w) A (setAddHashed S (.ref x) (tupleKeyHash (intKind prog w) k)) Q E s:=by
 have hS0:=hS;obtain⟨ep,t,ho,b,hl,hp,hr⟩:=hS;have hs:es.size<=t.mask:=by lia
 have hf:=dj_ b hs;unfold setAddHashed setAddHashedIn;refine Au (A0 (BI ho rfl hf ?_));dsimp only;have hsc:byScan (.ref x) es=false:=by unfold byScan;simp [Value.scannable]
 rw [hsc];simp only [AG,Am];unfold setSearch;obtain⟨e,he,hn⟩:=b.free hs;obtain⟨n1,h1,h2,h3⟩:=vj_ b.mask (tupleKeyHash (intKind prog w) k) 0 he;have ht:10*turns t.mask<100000:=by
  unfold turns;rcases b.mask with e|e|e<;>rw [e]<;>decide
 refine A0 (fO_ ho rfl b hs hu en hx (fun hk=> ?_) (fun n ha hb hno=> ?_) 100000 0 none ⟨n1,h1,by lia,by rw [h3];exact hn⟩ (fun j hj=>absurd hj (by lia)) rfl)
 .exact A2 (h false s.heap es (Heap.SameBut.refl _ _) hS0 en (.inl ⟨hk,rfl⟩))
 .dsimp only;refine A0 (BI ho rfl hf ?_);dsimp only;have T1:=b.add (tupleKeyHash (intKind prog w) k) (.ref x) n ha (sl_ _ _ _) hb;have hpl:below t.place (sl t.mask (tupleKeyHash (intKind prog w) k) n)<=es.size:=by rw [<-b.size];exact(dT_ b.ris _).1
  have put:=pq_ t b.dum (sl t.mask (tupleKeyHash (intKind prog w) k) n);rw [put] at T1⊢;dsimp only at T1⊢;rw [A6 hp];refine A0 (jy_ hx ?_);simp only [C4];generalize hpp:below t.place (sl t.mask (tupleKeyHash (intKind prog w) k) n)=p at T1 hpl⊢;generalize htt:({t with place:=insertAt t.place p (sl t.mask (tupleKeyHash (intKind prog w) k) n)}:SetTable)=t1 at T1⊢;have tm:t1.mask=t.mask:=by rw [<-htt]
  have tl:t1.led=led:=by rw [<-htt];exact hl
  have tp:t1.plain=true:=by rw [<-htt];exact hp
  have z1:(insertAt es p (tupleKeyHash (intKind prog w) k,Value.ref x)).size=es.size+1:=bq_ hpl _;have hsl:sizeLine>=4096:=by rw [B0];decide
  refine A0 (wpAny_storeSet_of ho rfl ?_ (by rw [z1];lia));have ho1:=(iB_ ho (insertAt es p (tupleKeyHash (intKind prog w) k,Value.ref x)) t1);have sb1:=B6 s.heap S (Obj.putSet (insertAt es p (tupleKeyHash (intKind prog w) k,Value.ref x)) t1);generalize s.heap.update S (Obj.putSet (insertAt es p (tupleKeyHash (intKind prog w) k,Value.ref x)) t1)=h1 at ho1 sb1⊢;have s1:t1.place.size=es.size+1:=by rw [T1.size,z1]
  have fl:t1.fill=es.size+1:=by unfold SetTable.fill;rw [T1.dum,s1];rfl
  have hk1:∀k x,IsTupleKey (intKind prog w) s.heap k x↔IsTupleKey (intKind prog w) h1 k x:=fun k x=>pA_ sb1 ho rfl ho1 rfl k x;have en1:=en.insert hk1 hpl hx hno;by_cases full:t1.tooFull=true
  .rw [full];simp only [Cm,Bool.and_self,C4];have fe:(es.size+1)*5>=t.mask*3:=by
    unfold SetTable.tooFull at full;rw [fl,tm] at full;simpa using full
   have hm:(t1.mask=7/\(insertAt es p (tupleKeyHash (intKind prog w) k,Value.ref x)).size=5)\/(t1.mask=31/\(insertAt es p (tupleKeyHash (intKind prog w) k,Value.ref x)).size=19):=by
    rw [z1,tm];rcases b.mask with e|e|e<;>lia
   obtain⟨pl,od,r1,r2,r3,r4,r5,r6,r7,r8⟩:=Tb.again hm;rw [<-z1,om_];have hf1:t1.fits (insertAt es p (tupleKeyHash (intKind prog w) k,Value.ref x)).size=true:=dj_ T1 (by rcases hm with⟨e1,e2⟩|⟨e1,e2⟩<;>lia)
   refine A0 ?_;refine A0 (BI (s:={s with heap:=h1}) ho1 rfl hf1 ?_);dsimp only;rw [A3 (by lia)];rw [r1];dsimp only;rw [show((od.filterMap ((insertAt es p (tupleKeyHash (intKind prog w) k,Value.ref x))[·]?)).size !=(insertAt es p (tupleKeyHash (intKind prog w) k,Value.ref x)).size)=false from by rw [r3];simp];simp only [AG,Am];refine A0 (A2 ?_);refine wpAny_storeSet_of (s:={s with heap:=h1}) ho1 rfl ?_ (by rw [r3,z1];lia);have ho2:=(iB_ ho1 (od.filterMap ((insertAt es p (tupleKeyHash (intKind prog w) k,Value.ref x))[·]?)) {mask:=sizeAbove (grown (insertAt es p (tupleKeyHash (intKind prog w) k,Value.ref x)).size)-1,place:=pl,dummies:= #[],finger:=t1.finger,led:=t1.led,moves:=t1.movedTo (sizeAbove (grown (insertAt es p (tupleKeyHash (intKind prog w) k,Value.ref x)).size)-1),plain:=t1.plain});have sb2:=B6 h1 S (Obj.putSet (od.filterMap ((insertAt es p (tupleKeyHash (intKind prog w) k,Value.ref x))[·]?)) {mask:=sizeAbove (grown (insertAt es p (tupleKeyHash (intKind prog w) k,Value.ref x)).size)-1,place:=pl,dummies:= #[],finger:=t1.finger,led:=t1.led,moves:=t1.movedTo (sizeAbove (grown (insertAt es p (tupleKeyHash (intKind prog w) k,Value.ref x)).size)-1),plain:=t1.plain});dsimp only at ho2 sb2⊢;generalize h1.update S _=h2 at ho2 sb2⊢;have hk2:∀k x,IsTupleKey (intKind prog w) h1 k x↔IsTupleKey (intKind prog w) h2 k x:=fun k x=>pA_ sb2 ho1 rfl ho2 rfl k x;refine A2 (h true h2 _ (sb1.trans sb2) ⟨_,_,ho2,r2,tl,tp,by rw [r3];exact r7⟩ (en1.perm hk2 (fun i=>od.getD i 0) (fun i hi=> ?_) fun i j hi hj e=>r5 i j (by rw [<-r3];exact hi) (by rw [<-r3];exact hj) e) (.inr ⟨hno,by rw [r3,z1],fun v=> ?_⟩))
   .rw [r3] at hi;obtain⟨q,q1,q2,q3⟩:=r4 i hi;rw [<-q3];exact⟨q1,q2⟩
   .rw [<-nd_ hpl];constructor
    .rintro⟨i,e⟩;obtain⟨q,q1,q2,q3⟩:=r4 i (by rw [<-r3];exact dg_ e);exact⟨q,by rw [<-q2];exact e⟩
    .rintro⟨i,e⟩;obtain⟨i',hi',e'⟩:=r6 i (dg_ e);obtain⟨q,q1,q2,q3⟩:=r4 i' hi';exact⟨i',by rw [q2,q3,e'];exact e⟩
  .rw [show t1.tooFull=false from by simpa using full];simp only [Cm,D',AG,Am];have fe:(es.size+1)*5<t1.mask*3:=by
    unfold SetTable.tooFull at full;rw [fl] at full;simpa using full
   exact A2 (h true h1 _ sb1 ⟨_,_,ho1,T1,tl,tp,by rw [z1];exact fe⟩ en1 (.inr ⟨hno,z1,fun v=>nd_ hpl _ _⟩))
end
end L2
namespace L2
open PySem PySem.SetTable PySem.Spec PyProof.Rows
section
variable {prog:Program}{w:World}{A:Around}{E:Value->Shared->Prop}{s:Shared}
theorem Ent.mv {h h':Heap}{es:Array (Int×Value)} (en:Ent prog w h es) (hk:∀(i:Nat) (k:List Int) (g:Int) (x:Addr),es[i]? =some (g,Value.ref x)->IsTupleKey (intKind prog w) h k x->IsTupleKey (intKind prog w) h' k x):Ent prog w h' es:=by
 refine⟨fun i hi=> ?_,fun i j k b c g g' e1 e2 k1 k2=> ?_⟩
 .obtain⟨k,b,e,q⟩:=en.ent i hi;exact⟨k,b,e,hk i k _ b e q⟩
 .obtain⟨k',b',e1',q1⟩:=en.ent i (dg_ e1);obtain⟨k'',b'',e2',q2⟩:=en.ent j (dg_ e2);rw [e1] at e1';rw [e2] at e2';simp only [B1,BJ,Bu] at e1' e2';obtain⟨rfl,rfl⟩:=e1';obtain⟨rfl,rfl⟩:=e2';have:=k1.inj (hk i k' _ b e1 q1);subst this;have:=k2.inj (hk j k'' _ c e2 q2);subst this;exact en.dis i j _ _ _ _ _ e1 e2 q1 q2
structure Made (prog:Program) (w:World) (kk:Nat->List Int) (ad:Nat->Addr) (i:Nat) (es:Array (Int×Value)):Prop where
 size:es.size<=i
 from_:∀(p:Nat) (v:Int×Value),es[p]? =some v->∃j,j<i/\v=(tupleKeyHash (intKind prog w) (kk j),Value.ref (ad j))
 all:∀j,j<i->∃(p j':Nat),j'<i/\kk j'=kk j/\es[p]? =some (tupleKeyHash (intKind prog w) (kk j'),Value.ref (ad j'))
theorem Made.step {kk:Nat->List Int}{ad:Nat->Addr}{i:Nat}{es es':Array (Int×Value)}{h:Heap} (m:Made prog w kk ad i es) (en:Ent prog w h es) (hkk:∀j,j<=i->IsTupleKey (intKind prog w) h (kk j) (ad j))
  (c:rB_ prog w h es (kk i)/\es'=es\/¬rB_ prog w h es (kk i)/\es'.size=es.size+1/\∀v,(∃p:Nat,es'[p]? =some v)↔(∃p:Nat,es[p]? =some v)\/v=(tupleKeyHash (intKind prog w) (kk i), .ref (ad i))):
  Made prog w kk ad (i+1) es':=by
 rcases c with⟨⟨p,b,e,q⟩,rfl⟩|⟨_,z,mem⟩
 .refine⟨Nat.le_succ_of_le m.size,fun p v e=> ?_,fun j hj=> ?_⟩
  .obtain⟨j,hj,ev⟩:=m.from_ p v e;exact⟨j,by lia,ev⟩
  .by_cases c:j<i
   .obtain⟨p,j',hj',ek,ev⟩:=m.all j c;exact⟨p,j',by lia,ek,ev⟩
   .have:j=i:=by lia
    subst this;obtain⟨j',hj',ev⟩:=m.from_ p _ e;simp only [BJ,Bu] at ev;obtain⟨_,rfl⟩:=ev;have:=q.inj (hkk j' (by lia));exact⟨p,j',by lia,this.symm,by rw [e,this]⟩
 .refine⟨by rw [z];have:=m.size;lia,fun p v e=> ?_,fun j hj=> ?_⟩
  .rcases(mem v).mp ⟨p,e⟩ with⟨p',e'⟩|e'
   .obtain⟨j,hj,ev⟩:=m.from_ p' v e';exact⟨j,by lia,ev⟩
   .exact⟨i,by lia,e'⟩
  .by_cases c:j<i
   .obtain⟨p,j',hj',ek,ev⟩:=m.all j c;obtain⟨p',e'⟩:=(mem _).mpr (.inl ⟨p,ev⟩);exact⟨p',j',by lia,ek,e'⟩
   .have:j=i:=by lia
    subst this;obtain⟨p',e'⟩:=(mem _).mpr (.inr rfl);exact⟨p',j,by lia,rfl,e'⟩
theorem nZ_.mv {h h':Heap}{S:Addr}{led:Bool}{es:Array (Int×Value)} (a:nZ_ h S led es) (e:∀o,h.get? S=some o->h'.get? S=some o):nZ_ h' S led es:=by
 obtain⟨ep,t,ho,r⟩:=a;exact⟨ep,t,e _ ho,r⟩
theorem h5_ {h h':Heap}{k:List Int}{x:Addr} (q:IsTupleKey (intKind prog w) h k x) (e:∀o,h.get? x=some o->h'.get? x=some o):IsTupleKey (intKind prog w) h' k x:=by
 obtain⟨o,items,n,ho,r⟩:=q;exact⟨o,items,n,e _ ho,r⟩
theorem n6_ {R:Result->Shared->Prop}{I:Addr}{fp wr:List Addr}{G:Array GenState->Array GenState->Prop}{n:Nat}{P:Nat->Value->Prop}{St:Nat->Shared->Prop}
  (Wq:WalksS prog w A.in1 I fp wr G n P St) (S:Addr) (hSf:S∉fp) (hu:A.in1.units<cLine) (led:Bool)
  (kk:Nat->List Int) (ad:Nat->Addr) (hval:∀i v,P i v->v= .ref (ad i)) (hwr:∀i,i<n->ad i∉wr) (hb:n<64):
  ∀(k i:Nat) (s:Shared) (es:Array (Int×Value)),n-i=k->i<=n->St i s->nZ_ s.heap S led es->Ent prog w s.heap es->Made prog w kk ad i es->(∀j,j<n->IsTupleKey (intKind prog w) s.heap (kk j) (ad j))->
   (∀s' es',Moved (S::wr) G s s'->nZ_ s'.heap S led es'->Ent prog w s'.heap es'->Made prog w kk ad n es'->R (.ok (.ret .none)) s')->
   codeAny (model prog w) A (.builtin "set.update.loop" ⟨[.ref S, .ref I],[]⟩) R s:=by
 have hSw:S∉wr:=fun h=>hSf (Wq.sub _ h);have hsub:∀b∈wr,b∈S::wr:=fun b hb=>AS _ hb;intro k;induction k with
 |zero=>
  intro i s es hk hi hst hS en mk hkk hR;have hin:i=n:=by lia
  subst hin;refine Bt F.entry_set_update_loop ?_;rw [Bp F.plain_set_update_loop _];show wpAny _ A.in1 (pyNext (.ref I)>>=_) _ _ s;refine A0 (Wq.done s _ _ hst fun s' hm=> ?_);show wpAny _ A.in1 (ret Value.none) _ _ s';refine A2 (hR s' es (hm.mono hsub) (hS.mv fun o e=>hm.heap S o hSw e) (en.mv fun p k g x e q=>h5_ q fun o e'=> ?_) mk);obtain⟨j,hj,ev⟩:=mk.from_ p _ e;simp only [BJ,Bu] at ev;obtain⟨_,rfl⟩:=ev;exact hm.heap _ o (hwr j hj) e'
 |succ k ih=>
  intro i s es hk hi hst hS en mk hkk hR;have hlt:i<n:=by lia
  refine Bt F.entry_set_update_loop ?_;rw [Bp F.plain_set_update_loop _];show wpAny _ A.in1 (pyNext (.ref I)>>=_) _ _ s;refine A0 (Wq.item i s _ _ hlt hst fun v s' hP hst' hm=> ?_);obtain rfl:=hval i v hP;have hS':nZ_ s'.heap S led es:=hS.mv fun o e=>hm.heap S o hSw e;have hkk':∀j,j<n->IsTupleKey (intKind prog w) s'.heap (kk j) (ad j):=fun j hj=>h5_ (hkk j hj) fun o e=>hm.heap _ o (hwr j hj) e;have en':Ent prog w s'.heap es:=en.mv fun p k g x e q=>h5_ q fun o e'=>by
   obtain⟨j,hj,ev⟩:=mk.from_ p _ e;simp only [BJ,Bu] at ev;obtain⟨_,rfl⟩:=ev;exact hm.heap _ o (hwr j (by lia)) e'
  show wpAny _ A.in1 (holding [Value.ref (ad i)] (setAdd S (.ref (ad i)))>>=_) _ _ s';refine A0 (Au ?_);unfold setAdd;refine Au ?_;refine A0 (wpAny_pyHash_tuple hu (hkk' i hlt) ?_);refine rt_ (s:={s' with toks:=s'.toks+((kk i).length+1)}) hS' en' (hkk' i hlt) hu (by have:=mk.size;lia) fun b h' es' hsb hS2 en2 c=> ?_;have hkS:∀j,j<n->ad j≠S:=by
   intro j hj e;obtain⟨o,items,m,ho,_,hd,_⟩:=hkk' j hj;obtain⟨ep,t,ho',_⟩:=hS';rw [e,ho',B1] at ho;subst ho;exact nomatch hd
  refine A2 ⟨D6 F.plain_set_update_loop _,ih (i+1) _ es' (by lia) hlt (Wq.frame _ s' _ _ hst' (Nat.le_add_right _ _) fun b hb o e=> ?_) hS2 en2 (mk.step en' (fun j hj=>hkk' j (by lia)) c) (fun j hj=>h5_ (hkk' j hj) fun o e=> ?_) fun s'' es'' hm'' hS'' en'' mk''=> ?_⟩
  .rw [hsb.2 b (fun h:b=S=>hSf (by rw [<-h];exact hb))];exact e
  .show h'.get? _=_;rw [hsb.2 _ (hkS j hj)];exact e
  .refine hR s'' es'' (Moved.trans Wq.gtrans ((hm.mono hsub).then_heap (Nat.le_add_right _ _) fun b o hb e=> ?_) hm'') hS'' en'' mk'';rw [hsb.2 b (fun h:b=S=>hb (by rw [h];exact AX))];exact e
theorem qT_ (a:Value) {Q₁:Value->Shared->Prop}
  (h:Q₁ (.ref s.heap.objs.size) {s with heap:=s.heap.push {cls:= .type "set",dict:=none,data:= .set #[] 0 (.fresh 0 0 (!w.params.followText "set-order"))}}):
  codeAny (model prog w) A (.call (.builtin "set.__new__") ⟨[.type "set",a],[]⟩) (wants Q₁ E) s:=by
 refine codeAny_of_tree ?_;show wpAny _ A.in1 (do checkBuiltinCall "set.__new__" ⟨[.type "set",a],[]⟩;again (.builtin "set.__new__" ⟨[.type "set",a],[]⟩)) _ _ s;refine A0 (D7 (F.newCall_set_1 a) (A2 ⟨D6 F.plain_set_new _,Bt F.entry_set_new ?_⟩));rw [Bp F.plain_set_new _];unfold Builtin.«set.__new__» Builtin.Frozenset.newClass;have hsub:=sub_set_self;obtain⟨hp,g,d,tk,os⟩:=s;dsimp only
 wp_walk
 refine D3 (A2 ?_);dsimp only;simp only [newObj];refine A0 (wpAny_alloc (A2 ?_));exact A2 h
theorem o0_ (led:Bool):Tb (.fresh 0 0 led) #[]:=
 ⟨.inl rfl,rfl,rfl,fun i j _ h=>absurd h (by show¬j<0;lia),fun i h=>absurd h (by show¬i<0;lia),fun i h=>absurd h (by show¬i<0;lia)⟩
set_option maxHeartbeats 3200000 in
theorem iq_ {l:Addr}{items:Array Value}{kk:Nat->List Int}{ad:Nat->Addr}{Q:Value->Shared->Prop}
  (hh:A.handled=none) (hu:A.units+8<cLine) (hl:s.heap.IsList l items) (hn:items.size<64)
  (hk:∀i,i<items.size->items[i]? =some (.ref (ad i))/\IsTupleKey (intKind prog w) s.heap (kk i) (ad i))
  (h:∀(h':Heap) (tk:Nat) (es:Array (Int×Value)),nZ_ h' s.heap.objs.size (!w.params.followText "set-order") es->Ent prog w h' es->Made prog w kk ad items.size es->
   (∀b o,b<s.heap.objs.size->s.heap.get? b=some o->h'.get? b=some o)->Q (.ref s.heap.objs.size) {s with heap:=h',toks:=tk}):
  wpAny (model prog w) A (call (.type "set") [.ref l]) Q E s:=by
 obtain⟨c,tl,hmro⟩:=Cd.mro;have hmade:=Cd.made;have hsub:=Cd.sub;refine wpAny_call (codeAny_of_tree ?_);show wpAny _ _ (callAny (.type "set") _) _ _ _;refine A2 ⟨Code.quiet_builtin _ (by ac_nf),Bt F.entry_type_call ?_⟩;rw [Around.under_plain (weight_type_call_type "set" [.ref l] []) rfl];have h1:=Cd.notType;have h2:=Cd.canCreate;have hct:=F.typeCall_set_1 (.ref l)
 repeat (any_goals (first|assumption|wp_step))
 refine DE (qT_ (.ref l) (E:=E) (Q₁:=fun obj s₁=>obj= .ref s.heap.objs.size/\s₁={s with heap:=s.heap.push {cls:= .type "set",dict:=none,data:= .set #[] 0 (.fresh 0 0 (!w.params.followText "set-order"))}}) ⟨rfl,rfl⟩) fun r s₁ hr=> ?_;generalize (!w.params.followText "set-order")=led at h hr;cases r with
 |error e=>exact hr
 |ok fl=>
  cases fl with
  |ret obj=>
   obtain⟨rfl,rfl⟩:=hr;have hS:(s.heap.push {cls:= .type "set",dict:=none,data:= .set #[] 0 (.fresh 0 0 led)}).get? s.heap.objs.size=some {cls:= .type "set",dict:=none,data:= .set #[] 0 (.fresh 0 0 led)}:=AH _ rfl;have hT:Shared.TypeIs {s with heap:=s.heap.push {cls:= .type "set",dict:=none,data:= .set #[] 0 (.fresh 0 0 led)}} (.ref s.heap.objs.size) "set":=⟨_,hS,rfl⟩;have hli:=Cd.init.lookup;have hbi:=Cd.init.bind (.ref s.heap.objs.size)
   repeat (any_goals (first|assumption|wp_step))
   refine DE (codeAny_call_builtin (R:=wants (fun r s₂=>r= .none/\∃h' tk es,s₂={s with heap:=h',toks:=tk}/\
     nZ_ h' s.heap.objs.size led es/\Ent prog w h' es/\Made prog w kk ad items.size es/\
     (∀b o,b<s.heap.objs.size->s.heap.get? b=some o->h'.get? b=some o)) E) Cd.init.plain F.entry_set_init (check_set_init_1 hT ?_)) fun r₂ s₂ hr₂=> ?_
   .obtain⟨ol,hol,hcl,nl,hdl⟩:=hl;obtain⟨ocls,odict,odata,oslots⟩:=ol;simp only at hcl hdl;subst hcl;subst hdl;have hol':(s.heap.push {cls:= .type "set",dict:=none,data:= .set #[] 0 (.fresh 0 0 led)}).get? l=some {cls:= .type "list",dict:=odict,data:= .seq items nl,slots:=oslots}:=A7 _ hol;have hsls:=F.sub_list_set;have hslf:=F.sub_list_frozenset;have hne:(Value.type "list"==Value.type "dict")=false:=by decide
    have hl1:(s.heap.push {cls:= .type "set",dict:=none,data:= .set #[] 0 (.fresh 0 0 led)}).IsList l items:=⟨_,hol',rfl,nl,rfl⟩;unfold Builtin.«set.__init__» noKeywords Builtin.Frozenset.updateFrom;generalize hPI:pyIter=PI
    wp_walk
    subst hPI;refine wpAny_pyIter_list hl1 ?_;refine A0 (wpAny_runValue ?_);have hlS:l<s.heap.objs.size:=AJ hol;have hh3:A.in1.in1.in1.handled=none:=by simp [hh]
    have hneI:l≠(s.heap.push {cls:= .type "set",dict:=none,data:= .set #[] 0 (.fresh 0 0 led)}).objs.size:=by
     rw [Aw];exact AL (Ac hlS)
    have hSf:s.heap.objs.size∉[(s.heap.push {cls:= .type "set",dict:=none,data:= .set #[] 0 (.fresh 0 0 led)}).objs.size,l]:=by
     rw [Aw];simp only [AK,Ah,At,Bn,not_or];exact⟨AL (BN _),BY hlS⟩
    refine n6_ ((Walks.list hh3 _ l hneI items).toS) s.heap.objs.size
     hSf ?hu led kk ad ?hval ?hwr hn (items.size-0) 0 _ #[] (by lia) (AO _)
     ⟨⟨_,AH _ rfl,rfl,rfl⟩,(hl1.push _)⟩ ?hS0 ?hE0 ?hM0 ?hkk ?hR
    case hu=>show A.units+3<cLine;lia
    case hval=>
     intro i v hv;have hi:i<items.size:=dg_ hv;rw [(hk i hi).1,B1] at hv;exact hv.symm
    case hwr=>
     intro i hi;obtain⟨o,_,_,ho,_⟩:=(hk i hi).2;have:=AJ ho;rw [Aw];simp only [AK,At,Bn];exact AL (Ac this)
    case hS0=>exact⟨_,_,A7 _ hS,o0_ led,rfl,rfl,by show 0*5<7*3;decide⟩
    case hE0=>exact⟨fun i hi=>absurd hi (by show¬i<0;lia),fun i j k b c g g' e=>by simp at e⟩
    case hM0=>exact⟨A9 0,fun p v e=>by simp at e,fun j hj=>absurd hj (by lia)⟩
    case hkk=>exact fun j hj=>h5_ (hk j hj).2 fun o e=>A7 _ (A7 _ e)
    case hR=>
     intro s' es' hm hS' en' mk';obtain⟨h',g',d',tk',os'⟩:=s';have eg:g'=s.gens:=hm.gens;have ed:d'=s.drawn:=hm.drawn;have eo:os'=s.os:=hm.os;subst eg;subst ed;subst eo;show wpAny _ _ _ _ _ _;refine A2 ?_;show wpAny _ _ (ret Value.none) _ _ _;refine A2 ⟨rfl,h',tk',es',rfl,hS',en',mk',fun b o hb e=> ?_⟩;have hb1:b≠s.heap.objs.size:=AL hb;have hb2:b≠(s.heap.push {cls:= .type "set",dict:=none,data:= .set #[] 0 (.fresh 0 0 led)}).objs.size:=by
      rw [Aw];exact AL (Ac hb)
     exact hm.heap b o (by simp only [AK,Ah,At,Bn,not_or];exact⟨hb1,hb2⟩) (A7 _ (A7 _ e))
   .cases r₂ with
    |error e=>exact hr₂
    |ok fl₂=>
     cases fl₂ with
     |ret r=>
      obtain⟨rfl,h',tk,es,rfl,hS',en',mk',hk'⟩:=hr₂
      repeat (any_goals (first|assumption|wp_step))
      exact h _ _ _ hS' en' mk' hk'
     |_=>exact hr₂.elim
  |_=>exact hr.elim
end
end L2
namespace L2
open PySem PySem.SetTable PySem.Spec PyProof.Rows
theorem fq_:entryFor table "set.__iter__"=some Builtin.«frozenset.__iter__»:=
 entryFor_alias (id':="frozenset.__iter__") (by kernel_rfl) rfl (by ac_nf) (by kernel_rfl)
theorem da_:Slot "set_iterator" "__iter__" "set_iterator.__iter__":=
 .of (owner:="set_iterator") (n:="__iter__") (by rw [typeLookup_type,builtinLookup_eq_fast];kernel_rfl) (by ac_nf) (by ac_nf) (by ac_nf)
  (by first|exact .inl (by ac_nf)|exact .inr (by ac_nf)) (by rw [isSubtype_type];kernel_rfl)
theorem fp_:entryFor table "set_iterator.__iter__"=some Builtin.«dict_keyiterator.__iter__»:=
 entryFor_alias (id':="dict_keyiterator.__iter__") (by kernel_rfl) rfl (by ac_nf) (by kernel_rfl)
theorem fI_ (a:Value):argsOk "set_iterator.__iter__" ⟨[a],[]⟩:=by unfold argsOk;kernel_rfl
theorem aZ_:Slot "set_iterator" "__next__" "set_iterator.__next__":=
 .of (owner:="set_iterator") (n:="__next__") (by rw [typeLookup_type,builtinLookup_eq_fast];kernel_rfl) (by ac_nf) (by ac_nf) (by ac_nf)
  (by first|exact .inl (by ac_nf)|exact .inr (by ac_nf)) (by rw [isSubtype_type];kernel_rfl)
theorem cY_:entryFor table "set_iterator.__next__"=some Builtin.«set_iterator.__next__»:=entryFor_of_tree (by kernel_rfl)
theorem di_ (a:Value):argsOk "set_iterator.__next__" ⟨[a],[]⟩:=by unfold argsOk;kernel_rfl
theorem nr_ {α:Type}:∀(l:List α) (i:Nat) (h:i<l.length),([l[i]]++l.eraseIdx i).Perm l
 |[],i,h=>absurd h (by simp)
 |a::l,0,h=>by simp
 |a::l,i+1,h=>by
  have hi:i<l.length:=by simpa using h
  have:=nr_ l i hi;simp only [List.getElem_cons_succ,List.eraseIdx_cons_succ,List.singleton_append] at this⊢;exact(List.Perm.swap a l[i] _).trans (this.cons a)
theorem mz_ {α:Type} (next:Nat->Nat):∀(f k:Nat) (left:List α) (out:Array α),left.length=f->(pickOrder.go next f k left out).toList.Perm (out.toList++left)
 |0,k,left,out,e=>by
  have:left=[]:=CC.mp e;subst this;unfold pickOrder.go;simp
 |f+1,k,left,out,e=>by
  have hp:next k%left.length<left.length:=D8 _ (by lia);unfold pickOrder.go;rw [A4 hp];dsimp only;refine(mz_ next f (k+1) _ _ (by rw [List.length_eraseIdx_of_lt hp];lia)).trans ?_;rw [Array.toList_push,BG];refine List.Perm.append_left _ ?_;exact nr_ left _ hp
theorem my_ {α:Type} (next:Nat->Nat) (xs:Array α):(pickOrder next xs).toList.Perm xs.toList:=by
 unfold pickOrder;simpa using mz_ next xs.size 0 xs.toList #[] (by simp)
noncomputable def n4_ (w:World) (a:Addr) (ep:Nat) (es:Array (Int×Value)):Array (Int×Value):=if w.params.followText "set-order" then pickOrder (w.params.setOrder a ep) es else es
theorem lI_ (w:World) (a:Addr) (ep:Nat) (es:Array (Int×Value)):(n4_ w a ep es).toList.Perm es.toList:=by
 unfold n4_;split
 .exact my_ _ _
 .exact List.Perm.refl _
theorem iJ_ (w:World) (a:Addr) (ep:Nat) (es:Array (Int×Value)):(n4_ w a ep es).size=es.size:=by
 have:=(lI_ w a ep es).length_eq;simpa using this
noncomputable def fw_ (w:World) (t:SetTable) (i:Nat):Nat:=if w.params.followText "set-order" then 0 else if i=0 then 0 else t.place.getD (i-1) 0+1
theorem ix_ {xs:Array Nat} (r:Ris xs) {j p:Nat} (hp:p<=xs.size) (h1:∀i,i<p->xs.getD i 0<j) (h2:∀i,p<=i->i<xs.size->j<=xs.getD i 0):below xs j=p:=by
 obtain⟨a1,a2,a3⟩:=dT_ r j;rcases Nat.lt_trichotomy (below xs j) p with c|c|c
 .have:=h1 _ c;have:=a3 _ (A9 _) (by lia);lia
 .exact c
 .have:=a2 _ c;have:=h2 p (A9 _) (by lia);lia
theorem pd_ {t:SetTable} (r:Ris t.place) {i:Nat} (hi:i<=t.place.size):below t.place (if i=0 then 0 else t.place.getD (i-1) 0+1)=i:=by
 by_cases z:i=0
 .subst z;exact ix_ r (AO _) (fun i h=>absurd h (by lia)) fun i _ _=>AO _
 .rw [A3 z];refine ix_ r hi (fun j hj=> ?_) fun j h1 h2=> ?_
  .rcases Bd j (i-1) with c|c
   .have:=r j (i-1) c (by lia);lia
   .have:j=i-1:=by lia
    subst this;lia
  .have:=r (i-1) j (by lia) h2;lia
section
variable {prog:Program}{w:World}{A:Around}{E:Value->Shared->Prop}{s:Shared}
theorem qS_ (a:Addr) (slot given epochThen:Nat):setNext a slot given epochThen=(do
  let (es,epoch,t)<-setState a
  if<-setsByText then
   if epoch !=epochThen then unsupported "set_iterator.__next__:elements-changed"
   return ((<-setWalk a)[given]?).map fun e=>(e.2,slot)
  if !t.plain&&es.size>1 then unsupported "set_iterator.__next__:the-table-is-plain-no-more"
  (do if !t.led&& !es.isEmpty then unsupported "set:maker-not-led":Sem Unit)
  let i:=SetTable.below t.place slot
  return match es[i]?,t.place[i]? with
   |some (_,x),some j=>some (x,j+1)
   |_,_=>none):=rfl
theorem jS_ {S:Addr}{es:Array (Int×Value)}{ep:Nat}{t:SetTable}{i:Nat}{Q:Option (Value×Nat)->Shared->Prop}
  (ho:s.heap.get? S=some {cls:= .type "set",dict:=none,data:= .set es ep t}) (b:Tb t es) (hs:es.size<=t.mask) (hl:t.led= !w.params.followText "set-order") (hp:t.plain=true) (hi:i<=es.size)
  (h:Q (((n4_ w S ep es)[i]?).map fun e=>(e.2,fw_ w t (i+1))) s):wpAny (model prog w) A (setNext S (fw_ w t i) i ep) Q E s:=by
 have hf:=dj_ b hs;rw [qS_];refine A0 (BI ho rfl hf ?_);dsimp only;unfold setsByText;refine A0 (A0 (D3 (A2 ?_)));show wpAny _ _ (if(w.params.followText "set-order")=true then _ else _) _ _ s;unfold n4_ fw_ at h;unfold fw_;cases ht:w.params.followText "set-order" with
 |true=>
  rw [ht] at h;simp only [C4] at h⊢;simp only [Cj,AG,Am];unfold setWalk;refine A0 (A0 (BI ho rfl hf ?_));dsimp only;unfold setsByText;refine A0 (A0 (D3 (A2 ?_)));show wpAny _ _ (if(w.params.followText "set-order")=true then _ else _) _ _ s;rw [ht];simp only [C4];refine A0 (D3 (A2 ?_));exact A2 h
 |false=>
  rw [ht] at h hl;simp only [AG,Am] at h⊢;rw [hp,hl];simp only [BA,Cm,Bool.false_and,AG,Am];refine A0 (A2 ?_);rw [pd_ b.ris (by rw [b.size];exact hi)];refine A2 ?_;rcases Bd i es.size with c|c
  .have c':i<t.place.size:=by rw [b.size];exact c
   have e2:t.place.getD (i+1-1) 0=t.place[i]:=by simp [Array.getD,c']
   rw [Ak c] at h⊢;rw [Ak c'];rw [A3 (by lia),e2] at h;exact h
  .rw [Be c] at h⊢;exact h
noncomputable def fJ_ (h:Heap) (it S:Addr) (slot i n ep:Nat):Prop:=∃o,h.get? it=some o/\o.cls= .type "set_iterator"/\o.data= .fields #[.int slot 0, .int i 0, .ref S, .int n 0, .int ep 0]
theorem fJ_.typeIs {it S:Addr}{slot i n ep:Nat} (x:fJ_ s.heap it S slot i n ep):s.TypeIs (.ref it) "set_iterator":=let ⟨o,ho,hc,_⟩:=x;⟨o,ho,hc⟩
theorem fJ_.mv {h h':Heap}{it S:Addr}{slot i n ep:Nat} (x:fJ_ h it S slot i n ep) (e:∀o,h.get? it=some o->h'.get? it=some o):fJ_ h' it S slot i n ep:=let ⟨o,ho,r⟩:=x;⟨o,e _ ho,r⟩
theorem oS_ {S:Addr}{es:Array (Int×Value)}{ep:Nat}{t:SetTable}{Q:Value->Shared->Prop}
  (ho:s.heap.get? S=some {cls:= .type "set",dict:=none,data:= .set es ep t}) (b:Tb t es) (hs:es.size<=t.mask) (hp:t.plain=true)
  (h:Q (.ref s.heap.objs.size) {s with heap:=s.heap.push {cls:= .type "set_iterator",data:= .fields #[.int (fw_ w t 0:Nat) 0, .int (0:Nat) 0, .ref S, .int es.size 0, .int ep 0]}}):
  wpAny (model prog w) A (pyIter (.ref S)) Q E s:=by
 have hT:s.TypeIs (.ref S) "set":=⟨_,ho,rfl⟩;have hf:=dj_ b hs;refine wpAny_pyIter_slot hT F.slot_set_iter (Ag F.slot_set_iter hT fq_ ?_ (F.args_set_iter_1 _));unfold Builtin.«frozenset.__iter__» Builtin.Frozenset.slot0 slotArgs;simp only [List.isEmpty_nil,BA,AG,↓reduceIte,bind_assoc,Cz,Cj];unfold Builtin.Frozenset.addrOf Builtin.Frozenset.sizeOf setEntries;refine A0 (A2 ?_);try dsimp only
 refine A0 (A2 ?_);refine A0 (A0 (A0 (BI ho rfl hf (A2 (A2 ?_)))));have hdr:∀{Q':Bool->Shared->Prop},Q' false s->wpAny (model prog w) A.in1 (setDrawn S) Q' E s:=by
  intro Q' q;unfold setDrawn;refine A0 (BI ho rfl hf ?_);dsimp only;unfold setsByText;refine A0 (A0 (D3 (A2 ?_)));refine A2 ?_;have:(!t.plain&&decide (es.size>1))=false:=by rw [hp];rfl
  show Q' (!w.params.followText "set-order"&&(!t.plain&&decide (es.size>1))) s;rw [this,D'];exact q
 refine A0 (hdr ?_);simp only [AG,Am];refine A0 (A2 ?_);refine A0 (wpAny_setEpoch_of ho rfl hf ?_);unfold newFields;refine A0 (Aq (A2 ⟨_,rfl,"set_iterator",_,⟨_,AH _ rfl,rfl⟩,aZ_.lookup, ?_⟩));have e0:fw_ w t 0=0:=by unfold fw_;split<;>rfl
 rw [e0] at h;simpa [rawInt] using h
theorem f5_ {h:Heap}{a:Addr}{o:Obj}{vs:Array Value} (ho:h.get? a=some o) (hd:o.data= .fields vs) (f:Array Value->Array Value):
  ∃o',(h.update a (Obj.mapFields f)).get? a=some o'/\o'.cls=o.cls/\o'.data= .fields (f vs):=
 ⟨_,C7 _ ho (D2 (Bl hd _)),Obj.cls_mapFields ..,Bl hd _⟩
theorem l8_ {it S:Addr}{es:Array (Int×Value)}{ep:Nat}{t:SetTable}{i:Nat}{e:Int×Value}{Q:Option Value->Shared->Prop} (hit:fJ_ s.heap it S (fw_ w t i) i es.size ep)
  (ho:s.heap.get? S=some {cls:= .type "set",dict:=none,data:= .set es ep t}) (b:Tb t es) (hs:es.size<=t.mask) (hl:t.led= !w.params.followText "set-order") (hp:t.plain=true) (hi:i<es.size)
  (he:(n4_ w S ep es)[i]? =some e) (hQ:∀h',fJ_ h' it S (fw_ w t (i+1)) (i+1) es.size ep->Heap.SameBut it s.heap h'->Q (some e.2) {s with heap:=h'}):
  wpAny (model prog w) A (pyNext (.ref it)) Q E s:=by
 obtain⟨o,hoi,hc,hd⟩:=id hit;have hf:=dj_ b hs;unfold pyNext;refine A0 (Bz (Ax (name:=Str.ofString "__next__") hit.typeIs aZ_
  (Ag aZ_ hit.typeIs cY_ ?_ (di_ _))))
 show wpAny _ _ (fieldsOf (.ref it)>>=_) _ _ s;refine A0 (Ct hoi hd ?_);dsimp only;unfold setEntries;refine A0 (A0 (BI ho rfl hf (A2 ?_)));dsimp only;rw [A3 (by simp)];simp only [An];refine A0 (jS_ ho b hs hl hp (Al hi) ?_);rw [he];dsimp only [Option.map_some];refine A0 (C3 hoi hd (by simp) ?_);obtain⟨o1,ho1,hc1,hd1⟩:=f5_ hoi hd (·.setIfInBounds 0 (rawInt (fw_ w t (i+1):Nat)));have sb1:=B6 s.heap it (Obj.mapFields (·.setIfInBounds 0 (rawInt (fw_ w t (i+1):Nat))));generalize s.heap.update it (Obj.mapFields (·.setIfInBounds 0 (rawInt (fw_ w t (i+1):Nat))))=h1 at ho1 sb1⊢;refine A0 (C3 (s:={s with heap:=h1}) ho1 hd1 (by simp) ?_);obtain⟨o2,ho2,hc2,hd2⟩:=f5_ ho1 hd1 (·.setIfInBounds 1 (rawInt ((i:Int)+1)));have sb2:=B6 h1 it (Obj.mapFields (·.setIfInBounds 1 (rawInt ((i:Int)+1))));dsimp only;generalize h1.update it (Obj.mapFields (·.setIfInBounds 1 (rawInt ((i:Int)+1))))=h2 at ho2 sb2⊢;refine A2 ⟨_,rfl,A2 (hQ _ ⟨o2,ho2,by rw [hc2,hc1,hc], ?_⟩ (sb1.trans sb2))⟩;rw [hd2];simp [rawInt]
theorem oe_ {it S:Addr}{es:Array (Int×Value)}{ep:Nat}{t:SetTable}{Q:Option Value->Shared->Prop} (hh:A.handled=none) (hit:fJ_ s.heap it S (fw_ w t es.size) es.size es.size ep)
  (ho:s.heap.get? S=some {cls:= .type "set",dict:=none,data:= .set es ep t}) (b:Tb t es) (hs:es.size<=t.mask) (hl:t.led= !w.params.followText "set-order") (hp:t.plain=true)
  (hQ:∀h',Heap.ExtBut it s.heap h'->Q none {s with heap:=h'}):
  wpAny (model prog w) A (pyNext (.ref it)) Q E s:=by
 obtain⟨o,hoi,hc,hd⟩:=id hit;have hf:=dj_ b hs;unfold pyNext;refine A0 (Bz (Ax (name:=Str.ofString "__next__") hit.typeIs aZ_
  (Ag aZ_ hit.typeIs cY_ ?_ (di_ _))))
 show wpAny _ _ (fieldsOf (.ref it)>>=_) _ _ s;refine A0 (Ct hoi hd ?_);dsimp only;unfold setEntries;refine A0 (A0 (BI ho rfl hf (A2 ?_)));dsimp only;rw [A3 (by simp)];simp only [An];refine A0 (jS_ ho b hs hl hp (A9 _) ?_);rw [Be (by rw [iJ_];exact A9 _)];dsimp only [Option.map_none];refine A0 (C3 hoi hd (by simp) ?_);show wpAny _ _ (newExc (.type "StopIteration") []>>=_) _ _ _;refine A0 ?_;simp only [newExc,newTuple];refine A0 (Aq ?_ (by size_fits));refine A0 (m:=firstArgMember _ _) (D7 (a:=Value.none) (by first|rfl|(simp only [firstArgMember];rfl)) ?_);refine Aq ?_ (by size_fits);simp only [raiseNew];refine A0 (wpAny_handled ?_);rw [show A.in1.handled=none from hh];refine A0 (A2 (wpAny_throw ?_));refine A0 (C0 (T:="StopIteration") (b:=true) ⟨_,AH _ rfl,rfl⟩ isSubtype_stop ?_);exact A2 (hQ _ (((B6 ..).extBut.push _).push _))
theorem n5_ (hh:A.handled=none) (I S:Addr) (hne:S≠I) {es:Array (Int×Value)}{ep:Nat}{t:SetTable} (b:Tb t es) (hs:es.size<=t.mask) (hl:t.led= !w.params.followText "set-order") (hp:t.plain=true):
  Walks prog w A I [I,S] [I] es.size (fun i v=>∃e,(n4_ w S ep es)[i]? =some e/\v=e.2) (fun i h=>fJ_ h I S (fw_ w t i) i es.size ep/\h.get? S=some {cls:= .type "set",dict:=none,data:= .set es ep t}) where
 sub:=fun b hb=>by simp at hb;simp [hb]
 frame:=fun _ _ _ st hk=>⟨st.1.mv fun o e=>hk I (by simp) o e,hk S (by simp) _ st.2⟩
 item:=fun i s Q E hi st hQ=>by
  have hi':i<(n4_ w S ep es).size:=by rw [iJ_];exact hi
  refine l8_ st.1 st.2 b hs hl hp hi (Ak hi') fun h' hit' hs'=> ?_;exact hQ _ h' s.toks ⟨_,Ak hi',rfl⟩ ⟨hit',hs'.extBut S _ hne st.2⟩ fun b o hb e=>hs'.extBut b o (fun h=>hb (by simp [h])) e
 done:=fun s Q E st hQ=>oe_ hh st.1 st.2 b hs hl hp fun h' he'=>hQ h' s.toks fun b o hb e=>he' b o (fun h=>hb (by simp [h])) e
 self:=fun _ s _ _ st hQ=>by
  refine wpAny_pyIter_slot st.1.typeIs da_ (Ag da_ st.1.typeIs fp_ ?_ (fI_ _));show wpAny _ _ (ret (.ref I)) _ _ s;exact A2 ⟨_,rfl,"set_iterator",_,st.1.typeIs,aZ_.lookup,hQ⟩
end
end L2
namespace L2
open PySem PySem.SetTable PySem.Spec PyProof.Rows PySem.W
section
variable {prog:Program}{w:World}{A:Around}{E:Value->Shared->Prop}{s:Shared}
theorem jv_ {S:Addr}{es:Array (Int×Value)}{ep:Nat}{t:SetTable}{Q:List Value->Shared->Prop} (hh:A.handled=none)
  (ho:s.heap.get? S=some {cls:= .type "set",dict:=none,data:= .set es ep t}) (b:Tb t es) (hs:es.size<=t.mask) (hl:t.led= !w.params.followText "set-order") (hp:t.plain=true)
  (hQ:∀h' tk vs,(∀b o,s.heap.get? b=some o->h'.get? b=some o)->s.heap.objs.size<=h'.objs.size->vs.Perm (es.toList.map (·.2))->Q vs {s with heap:=h',toks:=tk}):
  wpAny (model prog w) A (collect (.ref S)) Q E s:=by
 unfold collect;refine A0 (wpAny_runValue (Bt F.entry_proto_collect ?_));rw [Bp F.plain_proto_collect _];show wpAny _ A.in1 (newList []>>=fun l=>again (.builtin "list.__iadd__" ⟨[l, .ref S],[]⟩)) _ _ s;refine A0 (Aq ?_);refine A2 ⟨D6 F.plain_list_iadd _,Bt F.entry_list_iadd ?_⟩;rw [Bp F.plain_list_iadd _];show wpAny _ A.in1 (Builtin.List.listExtendWith (.ref s.heap.objs.size) (.ref S) (.ref s.heap.objs.size)) _ _ _;have hS:S<s.heap.objs.size:=AJ ho;have ho1:(s.heap.push {cls:= .type "list",data:= .seq ([]:List Value).toArray}).get? S=some {cls:= .type "set",dict:=none,data:= .set es ep t}:=A7 _ ho;have hT:Shared.TypeIs {s with heap:=s.heap.push {cls:= .type "list",data:= .seq ([]:List Value).toArray}} (.ref S) "set":=⟨_,ho1,rfl⟩;unfold Builtin.List.listExtendWith;refine A0 (DD hT ?_);have h1:Builtin.List.listSameRef (.ref s.heap.objs.size) (.ref S)=false:=by
  show(s.heap.objs.size==S)=false;exact CA.mpr (BY hS)
 have h2:(Value.type "set"==Value.type "list")=false:=by decide
 have h3:(Value.type "set"==Value.type "tuple")=false:=by decide
 simp only [h1,h2,h3,Bool.or_false,AG,Am];refine A0 (oS_ ho1 b hs hp ?_);refine A0 (Au ?_);unfold Builtin.List.listLengthHint;generalize hH:s.heap.push {cls:= .type "list",data:= .seq ([]:List Value).toArray}=H at ho1 hT⊢;have hHs:H.objs.size=s.heap.objs.size+1:=by rw [<-hH,Aw]
 have hT2:Shared.TypeIs {s with heap:=H.push {cls:= .type "set_iterator",data:= .fields #[.int (fw_ w t 0:Nat) 0, .int (0:Nat) 0, .ref S, .int es.size 0, .int ep 0]}} (.ref S) "set":=⟨_,A7 _ ho1,rfl⟩;refine A0 (CM hT2 F.slot_set_len.lookup ?_)
 wp_delta
 refine A0 (C0 (b:=true) hT2 (by rw [isSubtype_type];kernel_rfl) ?_);show wpAny _ A.in1 (typeOf (.ref S)>>=_) _ _ _;refine A0 (DD hT2 ?_);refine A2 ?_;rw [A6 (by decide)];refine A0 (CF ?_);unfold Builtin.List.listTouch;have hne:S≠H.objs.size:=by rw [hHs];exact AL (Ac hS)
 have hI0:fJ_ (H.push {cls:= .type "set_iterator",data:= .fields #[.int (fw_ w t 0:Nat) 0, .int (0:Nat) 0, .ref S, .int es.size 0, .int ep 0]}) H.objs.size S (fw_ w t 0) 0 es.size ep:=⟨_,AH _ rfl,rfl,rfl⟩;have hL:(H.push {cls:= .type "set_iterator",data:= .fields #[.int (fw_ w t 0:Nat) 0, .int (0:Nat) 0, .ref S, .int es.size 0, .int ep 0]}).get? s.heap.objs.size=some (seqObj "list" #[] 0):=A7 _ (hH▸AH _ rfl);have hS2:(H.push {cls:= .type "set_iterator",data:= .fields #[.int (fw_ w t 0:Nat) 0, .int (0:Nat) 0, .ref S, .int es.size 0, .int ep 0]}).get? S=some {cls:= .type "set",dict:=none,data:= .set es ep t}:=A7 _ ho1;have hold:∀b o,s.heap.get? b=some o->(H.push {cls:= .type "set_iterator",data:= .fields #[.int (fw_ w t 0:Nat) 0, .int (0:Nat) 0, .ref S, .int es.size 0, .int ep 0]}).get? b=some o:=fun b o e=>A7 _ (hH▸A7 _ e);have hsz:(H.push {cls:= .type "set_iterator",data:= .fields #[.int (fw_ w t 0:Nat) 0, .int (0:Nat) 0, .ref S, .int es.size 0, .int ep 0]}).objs.size=s.heap.objs.size+2:=by rw [Aw,hHs]
 generalize H.push {cls:= .type "set_iterator",data:= .fields #[.int (fw_ w t 0:Nat) 0, .int (0:Nat) 0, .ref S, .int es.size 0, .int ep 0]}=H1 at hI0 hL hS2 hold hsz⊢;refine A0 (A0 (Cb (s:={s with heap:=H1}) hL rfl ?_ (AO _) (by decide)));have hL1:=CY hL (fun x=>x.push Value.none);have hu1:∀b,b≠s.heap.objs.size->(H1.update s.heap.objs.size (Obj.mapSeq fun x=>x.push Value.none)).get? b=H1.get? b:=(B6 H1 s.heap.objs.size _).2;dsimp only;generalize H1.update s.heap.objs.size (Obj.mapSeq fun x=>x.push Value.none)=H2 at hL1 hu1⊢;refine Cb (s:={s with heap:=H2}) hL1 rfl ?_ (by simp [B0]) (by simp);have hL2:=CY hL1 (fun x=>x.pop);have hu2:∀b,b≠s.heap.objs.size->(H2.update s.heap.objs.size (Obj.mapSeq fun x=>x.pop)).get? b=H2.get? b:=(B6 H2 s.heap.objs.size _).2;dsimp only;generalize H2.update s.heap.objs.size (Obj.mapSeq fun x=>x.pop)=H3 at hL2 hu2⊢;have hk3:∀b o,b≠s.heap.objs.size->H1.get? b=some o->H3.get? b=some o:=fun b o hb e=>by rw [hu2 b hb,hu1 b hb];exact e
 have hSf:s.heap.objs.size∉[H.objs.size,S]:=by
  rw [hHs];simp only [AK,At,Bn,not_or];exact⟨AL (BN _),BY hS⟩
 have hSn:S≠s.heap.objs.size:=AL hS;have hHn:H.objs.size≠s.heap.objs.size:=by rw [hHs];exact BY (BN _)
 refine A2 ⟨D6 F.plain_extend_loop _,codeAny_extend_loopS (n5_ (A:=A.in1) (ep:=ep) hh H.objs.size S hne b hs hl hp).toS ?_ _ hSf _ es.size 0 _ _ _ rfl (AO _) ⟨hI0.mv fun o e=>hk3 _ o hHn e,hk3 S _ hSn hS2⟩ hL2 (ItemsOf.nil _) fun s' acc' c' hm hS' hacc=> ?_⟩
 .have:es.size<=127:=by rcases b.mask with e|e|e<;>lia
  rw [B0];lia
 show wpAny _ A (load s.heap.objs.size>>=_) _ _ s';refine A0 (wpAny_load hS' ?_);obtain⟨h',g',d',tk',os'⟩:=s';have eg:g'=s.gens:=hm.gens;have ed:d'=s.drawn:=hm.drawn;have eo:os'=s.os:=hm.os;subst eg;subst ed;subst eo;refine A2 (hQ h' tk' acc'.toList (fun b o e=> ?_) (Al (AJ hS')) ?_)
 .have hlt:=AJ e;refine hm.heap b o (fun hb=> ?_) (hk3 b o (AL hlt) (hold b o e));simp only [AK,At,Bn] at hb;rcases hb with hb|hb
  .exact absurd hlt (by rw [hb];exact Bs _)
  .rw [hb,hHs] at hlt;exact absurd hlt (Nat.not_lt.mpr (Cf _))
 .have:acc'.toList=(n4_ w S ep es).toList.map (·.2):=by
   apply List.ext_getElem?;intro i;rw [A8,By,By];rcases Bd i es.size with c|c
   .have hi:i<acc'.size:=by rw [hacc.1];exact c
    obtain⟨e,he,hv⟩:=hacc.2 i _ (Ak hi);rw [Ak hi,hv,he];rfl
   .rw [Be (by rw [hacc.1];exact c),Be (by rw [iJ_];exact c)];rfl
  rw [this];exact(lI_ w S ep es).map _
noncomputable abbrev lsH (h:Heap) (vs:List Value):Heap:=h.push (seqObj "list" vs.toArray 0)
theorem hQ_ (h:Heap) (vs:List Value):(lsH h vs).get? h.objs.size=some (seqObj "list" vs.toArray 0):=AH _ rfl
theorem gP_ {h:Heap}{vs:List Value}{b:Addr}{o:Obj} (hb:h.get? b=some o):(aO_ (lsH h vs) h.objs.size vs).get? b=some o:=by
 have hlt:b<h.objs.size:=AJ hb;have n0:b≠h.objs.size:=AL hlt;have n1:b≠h.objs.size+1:=AL (Ac hlt);have n2:b≠h.objs.size+1+1:=AL (Ac (Ac hlt));rw [B4 _ _ _ (by rw [Br,B3,Br];exact n2),B4 _ _ _ (by rw [B3,Br];exact n1),DC _ _ _ _ n0,B4 _ _ _ n0];exact hb
theorem hP_ {h:Heap}{vs:List Value}{out:Array Value}{b:Addr}{o:Obj} (hb:h.get? b=some o):(sortedHeap (lsH h vs) h.objs.size vs out).get? b=some o:=by
 unfold sortedHeap;rw [DC _ _ _ _ (AL (AJ hb))];exact gP_ hb
theorem j9_ (h:Heap) (vs:List Value) (out:Array Value):∃e,(sortedHeap (lsH h vs) h.objs.size vs out).get? h.objs.size=some (seqObj "list" out e):=by
 obtain⟨e1,ho1⟩:∃e1,((lsH h vs).update h.objs.size (Obj.mapSeq fun _=>(#[]:Array Value))).get? h.objs.size=some (seqObj "list" #[] e1):=⟨_,CY (hQ_ h vs) (fun _=> #[])⟩;have ho6:(aO_ (lsH h vs) h.objs.size vs).get? h.objs.size=some (seqObj "list" #[] e1):=by
  rw [B4 _ _ _ (by rw [Br,B3,Br];exact AL (Ac (BN _))),B4 _ _ _ (by rw [B3,Br];exact AL (BN _))];exact ho1
 exact⟨_,CY ho6 (fun _=>out)⟩
theorem k3_ {v:Value}{pY_:List Value->Shared->Prop}{Q:Value->Shared->Prop} (hcol:wpAny (model prog w) A.in1 (collect v) pY_ E s)
  (h:∀vs s1,pY_ vs s1->vs.length<64/\(vs.length<2->Q (.ref s1.heap.objs.size) {s1 with heap:=sortedHeap (lsH s1.heap vs) s1.heap.objs.size vs vs.toArray})/\
   (2<=vs.length->∃(c:Nat->Nat->Bool) (kd:SortKind),
    (∀(R:SortKind->Shared->Prop) (E:Value->Shared->Prop),R kd {s1 with heap:=aO_ (lsH s1.heap vs) s1.heap.objs.size vs}->wpAny (model prog w) A.in1.in1 (keyKind' vs.toArray) R E {s1 with heap:=aO_ (lsH s1.heap vs) s1.heap.objs.size vs})/\
    (∀i j,i<vs.length->j<vs.length->∀C:Bool->Shared->Prop,C (c i j) {s1 with heap:=aO_ (lsH s1.heap vs) s1.heap.objs.size vs}->wpAny (model prog w) A.in1.in1 (keyLt' kd (vs.getD i .none) (vs.getD j .none)) C (fun _ _=>False) {s1 with heap:=aO_ (lsH s1.heap vs) s1.heap.objs.size vs})/\
    ∀p,Ord vs.length p->p=cI_ c (kas_sort vs.length)->Q (.ref s1.heap.objs.size) {s1 with heap:=sortedHeap (lsH s1.heap vs) s1.heap.objs.size vs (p.map fun i=>vs.getD i .none)})):
  wpAny (model prog w) A (call (.builtin "sorted") [v]) Q E s:=by
 refine Calls.call_function_entry kind_sorted plain_sorted entry_sorted (args_sorted1 _) ?_;unfold Builtin.«sorted»;refine A0 (m:=checkCount "sorted" 1 1 _) (A2 ?_);refine A0 (thn hcol fun vs s1 g=> ?_);obtain⟨h64,few,many⟩:=h vs s1 g;refine A0 (D5 ?_ (by rw [B0];lia));show wpAny _ _ _ _ _ {s1 with heap:=lsH s1.heap vs};by_cases h2:vs.length<2
 .refine A0 (Au (Ag slot_list_sort ⟨_,hQ_ s1.heap vs,rfl⟩ entry_list_sort (jR_ (s:={s1 with heap:=lsH s1.heap vs}) (hQ_ s1.heap vs) h2 ⟨_,rfl, ?_⟩) (args_list_sort _)));exact A2 ⟨_,rfl,few h2⟩
 .obtain⟨c,kd,hkd,hc,hq⟩:=many (by lia);refine A0 (Au (Ag slot_list_sort ⟨_,hQ_ s1.heap vs,rfl⟩ entry_list_sort (l6_ (c:=c) (s:={s1 with heap:=lsH s1.heap vs}) (hQ_ s1.heap vs) (by lia) h64 (fun R=>hkd R _) hc fun p hp hpc=>⟨_,rfl, ?_⟩) (args_list_sort _)));exact A2 ⟨_,rfl,hq p hp hpc⟩
end
section
variable {X:Cx}{pins:List (Addr×Obj)}{σ:St}{H:Hp}{s:Shared}
theorem jG_:∀{xs:List Int}{vs:List Value},aW_ (xs.map V.int) vs->∀(prog:Program) (w:World),ItemsAre (intKind prog w) xs vs
 |[],_, .nil,_,_=> .nil
 |x::xs,_, .cons r1 r2,prog,w=>by
  obtain⟨t,rfl⟩:=r1;exact .cons (intKind_is prog w x t) (jG_ r2 prog w)
theorem lX_ (I:Inv X pins σ H s) {a:Addr}{xs:List Int} (h:SqT X.K H a (xs.map V.int)):IsTupleKey (intKind X.prog X.w) s.heap xs a:=by
 obtain⟨its,r,p,z⟩:=I.tuple h;obtain⟨o,ho,hc,n,hd⟩:=p;exact⟨o,_,n,ho,hc,hd,jG_ r _ _⟩
theorem s7_ {A:Around}{k:Nat} (hr:Room k A):A.units+8<cLine:=Nat.lt_of_le_of_lt (Nat.add_le_add_left (by decide:8<=64) _) hr.units
noncomputable def uA_:List V->Hp->VK->Prop:=fun vs H Q=>∃(v:V) (xss:List (List Int)) (m:Nat),vs=[v]/\Is H (.l (xss.map tI)) v/\0<m/\(∀xs∈xss,xs.length=m)/\xss.length<64/\
 ∀(yss:List (List Int)) (q:Addr) (H':Hp),yss.Nodup->(∀z,z∈yss↔z∈xss)->(∀i j,i<j->j<yss.length->ltI (yss.getD j []) (yss.getD i [])=false)->H q=none->ao_ H H'->Is H' (.l (yss.map tI)) (.ref q)->Q (.ref q) H'
theorem l5_ (I:Inv X pins σ H s) {rs:List V}{xss:List (List Int)}{m:Nat}{vs:List Value} (hi:Iss H (xss.map tI) rs) (r':aW_ rs vs) (hm:0<m) (hne':∀xs∈xss,xs.length=m) (hlen:xss.length<64) {Q:VK}
  (q:∀(yss:List (List Int)) (q:Addr) (H':Hp),yss.Perm xss->(∀i j,i<j->j<yss.length->ltI (yss.getD j []) (yss.getD i [])=false)->H q=none->ao_ H H'->Is H' (.l (yss.map tI)) (.ref q)->Q (.ref q) H') (A:Around):
  vs.length<64/\(vs.length<2->EP X pins σ Q (.ref s.heap.objs.size) {s with heap:=sortedHeap (lsH s.heap vs) s.heap.objs.size vs vs.toArray})/\
   (2<=vs.length->∃(c:Nat->Nat->Bool) (kd:SortKind),
    (∀(R:SortKind->Shared->Prop) (E:Value->Shared->Prop),R kd {s with heap:=aO_ (lsH s.heap vs) s.heap.objs.size vs}->wpAny (model X.prog X.w) A.in1.in1 (keyKind' vs.toArray) R E {s with heap:=aO_ (lsH s.heap vs) s.heap.objs.size vs})/\
    (∀i j,i<vs.length->j<vs.length->∀C:Bool->Shared->Prop,C (c i j) {s with heap:=aO_ (lsH s.heap vs) s.heap.objs.size vs}->wpAny (model X.prog X.w) A.in1.in1 (keyLt' kd (vs.getD i .none) (vs.getD j .none)) C (fun _ _=>False) {s with heap:=aO_ (lsH s.heap vs) s.heap.objs.size vs})/\
    ∀p,Ord vs.length p->p=cI_ c (kas_sort vs.length)->EP X pins σ Q (.ref s.heap.objs.size) {s with heap:=sortedHeap (lsH s.heap vs) s.heap.objs.size vs (p.map fun i=>vs.getD i .none)}):=by
 have hne:∀xs∈xss,xs≠[]:=fun xs hx z=>by have:=hne' xs hx;rw [z] at this;exact absurd this (by show¬0=m;lia)
 have hrs:rs.length=xss.length:=by rw [hi.length,A1]
 have ln:=r'.length;have lns:vs.length=xss.length:=by lia
 refine⟨by lia,fun h2=> ?_,fun h2=>⟨rG_ xss,tuples' true,fun R E hR=> ?_,fun i j hi' hj' C hC=> ?_,fun p ho hpc=> ?_⟩⟩
 .obtain⟨e,he⟩:=j9_ s.heap vs vs.toArray;have fr:=I.hok.fresh (a:=s.heap.objs.size) (A9 _);exact⟨.ref s.heap.objs.size,_,I.laid (t':=s.toks) (fun _ _=>hP_) (A9 _) (show aG_ X.prog X.w _ _ _ (.lst rs) from⟨by rw [B0];lia,vs,e,r',he⟩),rfl,q xss _ _ (List.Perm.refl _) (fun i j a b=>absurd b (by lia)) fr (ao_.new fr) (c8_ ag_ (hi.mono (ao_.new fr)))⟩
 .have I2:Inv X pins σ H {s with heap:=aO_ (lsH s.heap vs) s.heap.objs.size vs}:=I.kept (t':=s.toks) fun b o e=>gP_ e;obtain⟨fs,k1,k2,k3⟩:=kl_ I2 hi r' hne;exact kat_kind (T:= .type "int") k1 (by lia) (fun f hf=>by obtain⟨z,t,rfl⟩:=k3 f hf;exact .now) rfl hR
 .have I2:Inv X pins σ H {s with heap:=aO_ (lsH s.heap vs) s.heap.objs.size vs}:=I.kept (t':=s.toks) fun b o e=>gP_ e;have g:∀i,i<xss.length->∃a,vs.getD i .none= .ref a/\SqT X.K H a ((xss.getD i []).map V.int):=fun i h=>by
   have hr:i<rs.length:=by lia
   obtain⟨d,hd,h1⟩:=hi.of_get (A4 hr);rw [A8,A4 h] at hd;cases hd;obtain⟨a,ea,ha⟩:=cz_ h1;obtain⟨u,hu1,ru⟩:=r'.get (A4 hr);rw [ea] at ru;obtain rfl:u=Value.ref a:=ru;refine⟨a, ?_, ?_⟩
   .rw [AA,hu1];rfl
   .rw [AA,A4 h];exact SqT.of ha
  obtain⟨a1,e1,s1⟩:=g i (by lia);obtain⟨a2,e2,s2⟩:=g j (by lia);rw [e1,e2];rw [mJ_ (by lia) (by lia)] at hC;exact oP_ I2 s1 s2 hC
 .rw [lns] at ho hpc;have hpl:∀i∈p.toList,i<xss.length:=fun i hi=>ho.lt hi;obtain⟨e,he⟩:=j9_ s.heap vs (p.map fun i=>vs.getD i .none);have en:(p.map fun i=>vs.getD i .none)=List.toArray (p.toList.map fun i=>vs.getD i .none):=by
   apply Array.toList_inj.mp;simp
  rw [en] at he⊢;have fr:=I.hok.fresh (a:=s.heap.objs.size) (A9 _);refine⟨.ref s.heap.objs.size,_,I.laid (t':=s.toks) (fun _ _=>hP_) (A9 _) (show aG_ X.prog X.w _ _ _ (.lst (p.toList.map fun i=>rs.getD i .non)) from⟨?_,_,e,eM_ r' p.toList (fun i hi=>by rw [hrs];exact hpl i hi),he⟩),rfl,q (p.toList.map fun i=>xss.getD i []) _ _ ?_ ?_ fr (ao_.new fr) (c8_ ag_ ((kq_ hi p.toList hpl).mono (ao_.new fr)))⟩
  .rw [A1,Ao,B0,ho.size];lia
  .have pp:=(DA.mp ho).map fun i=>xss.getD i [];rw [show(List.range xss.length).toArray.toList=List.range xss.length from rfl,oI_] at pp;exact pp
  .intro i j hij hj;rw [A1,Ao,ho.size] at hj;have up:=m4_ (qK_ (xss:=xss) (m:=m) (by lia) hne') (n:=xss.length) (by lia) i j hij hj;rw [<-hpc] at up;have g:∀i,i<xss.length->(p.toList.map fun i=>xss.getD i []).getD i []=xss.getD (at0 p i) []/\at0 p i<xss.length:=fun i h=>by
    have hs:i<p.size:=by rw [ho.size];exact h
    have e:at0 p i=p[i]:=by simp [at0,Array.getD,hs]
    rw [e];refine⟨?_,ho.lt (by simp)⟩;rw [AA,A8];simp [hs]
   obtain⟨g1,g2⟩:=g i (by lia);obtain⟨g3,g4⟩:=g j hj;rw [g1,g3];rw [mJ_ g4 g2] at up;exact up
theorem dw_ {α β:Type}{f:β->α}{P:β->Prop}:∀(vs:List α),(∀v∈vs,∃j,P j/\v=f j)->∃js:List β,vs=js.map f/\∀j∈js,P j
 |[],_=>⟨[],rfl,fun _ h=>nomatch h⟩
 |v::vs,h=>by
  obtain⟨j,pj,e⟩:=h v (by simp);obtain⟨js,es,ps⟩:=dw_ vs fun u hu=>h u (by simp [hu]);exact⟨j::js,by rw [e,es];rfl,fun i hi=>by rcases AK.mp hi with rfl|hi;exact pj;exact ps i hi⟩
theorem hk_ (ad:Nat->Addr):∀js:List Nat,aW_ (js.map fun j=>V.ref (ad j)) (js.map fun j=>Value.ref (ad j))
 |[]=> .nil
 |j::js=> .cons rfl (hk_ ad js)
theorem kn_ {H:Hp} (kk:Nat->List Int) (ad:Nat->Addr):∀js:List Nat,(∀j∈js,H (ad j)=some (.tup ((kk j).map V.int)))->Iss H ((js.map kk).map tI) (js.map fun j=>V.ref (ad j))
 |[],_=>am_
 |j::js,h=>ai_ (h9_ (h j (by simp))) (kn_ kk ad js fun i hi=>h i (by simp [hi]))
theorem og_ {prog:Program}{w:World}{h':Heap}{kk:Nat->List Int}{ad:Nat->Addr}{n:Nat}{es:Array (Int×Value)}{vs:List Value} (en:Ent prog w h' es) (mk:Made prog w kk ad n es)
  (hkey:∀j,j<n->IsTupleKey (intKind prog w) h' (kk j) (ad j)) (hp:vs.Perm (es.toList.map (·.2))):
  ∃js:List Nat,vs=js.map (fun j=>Value.ref (ad j))/\(∀j∈js,j<n)/\(js.map kk).Nodup/\∀j,j<n->kk j∈js.map kk:=by
 have vmem:∀v,v∈vs↔∃p g,es[p]? =some (g,v):=fun v=>by
  rw [hp.mem_iff,Ab];constructor
  .rintro⟨⟨g,v'⟩,he,rfl⟩;obtain⟨p,hp,e⟩:=Array.mem_iff_getElem.mp (Array.mem_toList_iff.mp he);exact⟨p,g,by rw [Ak hp,e]⟩
  .rintro⟨p,g,e⟩;have hp:=dg_ e;rw [Ak hp,B1] at e;exact⟨(g,v),by rw [<-e];simp,rfl⟩
 obtain⟨js,ev,pj⟩:=dw_ (f:=fun j=>Value.ref (ad j)) (P:=fun j=>j<n/\∃p g,es[p]? =some (g,Value.ref (ad j))) vs fun v hv=>by
  obtain⟨p,g,e⟩:=(vmem v).mp hv;obtain⟨j,hj,e'⟩:=mk.from_ p _ e;simp only [BJ] at e';obtain⟨_,rfl⟩:=e';exact⟨j,⟨hj,p,g,e⟩,rfl⟩
 have nd:vs.Nodup:=by
  rw [hp.nodup_iff];unfold List.Nodup;rw [List.pairwise_map,CV];intro i j hi hj hij e;rw [Ao] at hi hj;obtain⟨k,b,e1,q1⟩:=en.ent i hi;obtain⟨k',b',e2,q2⟩:=en.ent j hj;have z1:es.toList[i].2=Value.ref b:=by
   rw [Ak hi,B1] at e1;simp [e1]
  have z2:es.toList[j].2=Value.ref b':=by
   rw [Ak hj,B1] at e2;simp [e2]
  rw [z1,z2,Bu] at e;subst e;have:=en.dis i j k b b _ _ e1 e2 q1 q1;lia
 refine⟨js,ev,fun j hj=>(pj j hj).1, ?_,fun j hj=> ?_⟩
 .rw [ev] at nd;unfold List.Nodup at nd⊢;rw [List.pairwise_map] at nd⊢;refine List.Pairwise.imp_of_mem (fun{a b} ha hb hne e=>hne ?_) nd;obtain⟨la,p,g,ea⟩:=pj a ha;obtain⟨lb,p',g',eb⟩:=pj b hb;have:=en.dis p p' (kk a) _ _ _ _ ea eb (hkey a la) (by rw [e];exact hkey b lb);subst this;rw [ea] at eb;simp only [B1,BJ] at eb;exact eb.2
 .obtain⟨p,j',hj',ek,e⟩:=mk.all j hj;have:=(vmem _).mpr ⟨p,_,e⟩;rw [ev] at this;obtain⟨i,hi,ei⟩:=Ab.mp this;simp only [Bu] at ei;have q1:=hkey i (pj i hi).1;rw [ei] at q1;have:=q1.inj (hkey j' hj');rw [<-ek,<-this];exact List.mem_map_of_mem hi
theorem qE_ {e:Expr}{ta:TA}{p p2 pos pos2:Pos} (hu:X.A.units+8<cLine) (hh:X.A.handled=none) (hg:Gl X "sorted") (hm:X.mg "sorted"=none) (hg2:Gl X "set") (hm2:X.mg "set"=none)
  (ha:PA X [e] ta) (he:starEach [e] X.env=(false,eval e X.env)::starEach [] X.env:=by rfl)
  (he2:starEach [Expr.Call (.Name "set" p2) [e] [] pos2] X.env=(false,eval (Expr.Call (.Name "set" p2) [e] [] pos2) X.env)::starEach [] X.env:=by rfl):
  PE X (.Call (.Name "sorted" p) [.Call (.Name "set" p2) [e] [] pos2] [] pos) (tCB uA_ ta):=by
 intro pins s σ H Q I h;refine BQ (co_ I hg hm (by first|exact boot_sorted|rfl|ac_nf) ?_ (by decide) (by decide));refine Cr ?_ he2 (by rfl);rw [he2];show wpAny _ _ (spliced ((false,eval (Expr.Call (.Name "set" p2) [e] [] pos2) X.env)::backTo pos (starEach [] X.env))) _ _ s;refine CL ?_;refine BQ (co_ I hg2 hm2 (by first|rfl|ac_nf) ?_ (by decide) (by decide));refine B5 (thn (ha pos2 pins s σ H _ I h) fun us s1 ⟨vs,H1,I1,r1,q1⟩=> ?_) he (by rfl);obtain⟨v,xss,m,rfl,hv,hm',hne',hlen,q⟩:=q1;obtain⟨l,rs,rfl,hl,hi⟩:=cn_ hv;have hrs:rs.length=xss.length:=by rw [hi.length,A1]
 obtain⟨u,rfl,rx⟩:=fx_ r1;cases rx;obtain⟨its,r',pl,hz⟩:=I1.list (SqL.of (K:=X.K) hl);have ln:=r'.length;have g:∀i,∃a,i<xss.length->its[i]? =some (.ref a)/\rs[i]? =some (.ref a)/\H1 a=some (.tup ((xss.getD i []).map V.int)):=fun i=>by
  by_cases h:i<xss.length
  .have hr:i<rs.length:=by lia
   obtain⟨d,hd,h1⟩:=hi.of_get (A4 hr);rw [A8,A4 h] at hd;cases hd;obtain⟨a,ea,ha⟩:=cz_ h1;obtain⟨u,hu1,ru⟩:=r'.get (A4 hr);rw [ea] at ru;obtain rfl:u=Value.ref a:=ru;refine⟨a,fun _=>⟨hu1,by rw [A4 hr,ea], ?_⟩⟩;rw [AA,A4 h];exact ha
  .exact⟨0,fun c=>absurd c h⟩
 let ad:Nat->Addr:=fun i=>Classical.choose (g i)
 have hg:∀i,i<xss.length->its[i]? =some (.ref (ad i))/\rs[i]? =some (.ref (ad i))/\H1 (ad i)=some (.tup ((xss.getD i []).map V.int)):=fun i hi=>Classical.choose_spec (g i) hi;generalize ad=ad at hg;refine iq_ (kk:=fun i=>xss.getD i []) (ad:=ad) (items:=its.toArray) hh (by lia) pl.isList (by rw [AE];lia) (fun i hi=> ?_) fun h' tk es hS en mk hk=> ?_
 .rw [AE] at hi;have hg':=hg i (by lia);exact⟨by rw [List.getElem?_toArray];exact hg'.1,lX_ I1 (SqT.of hg'.2.2)⟩
 .have I2:Inv X pins σ H1 {s1 with heap:=h',toks:=tk}:=I1.kept fun b o e=>hk b o (AJ e) e;refine A2 ?_;show wpAny _ _ (call (.builtin "sorted") [.ref s1.heap.objs.size]) _ _ {s1 with heap:=h',toks:=tk};obtain⟨ep,t,ho,tb,tl,tp,tr⟩:=hS;refine k3_ (jv_ (s:={s1 with heap:=h',toks:=tk}) (A:=X.A.in1) hh ho tb (by lia) tl tp fun h'' tk' vs hk' hsz hp=> ?_) fun vs s' g=>g;have hkey:∀j,j<its.toArray.size->IsTupleKey (intKind X.prog X.w) h' (xss.getD j []) (ad j):=fun j hj=>by
   rw [AE] at hj;exact lX_ I2 (SqT.of (hg j (by lia)).2.2)
  obtain⟨js,ev,lt,nd,all⟩:=og_ en mk hkey hp;have I3:Inv X pins σ H1 {s1 with heap:=h'',toks:=tk'}:=I2.kept hk';have lt':∀j∈js,j<xss.length:=fun j hj=>by have:=lt j hj;rw [AE] at this;lia
  subst ev;have mem:∀z,z∈js.map (fun i=>xss.getD i [])↔z∈xss:=fun z=>by
   constructor
   .intro hz;obtain⟨j,hj,rfl⟩:=Ab.mp hz;rw [AA,A4 (lt' j hj)];exact List.getElem_mem _
   .intro hz;obtain⟨j,hj,e⟩:=List.getElem_of_mem hz;have:=all j (by rw [AE];lia);rw [AA,A4 hj,e] at this;exact this
  have bound:(js.map fun i=>xss.getD i []).length<=xss.length:=by
   have e1:js.length=es.size:=by have:=hp.length_eq;simpa using this
   have e2:es.size<=its.length:=by have:=mk.size;simpa using this
   rw [A1];lia
  refine l5_ I3 (rs:=js.map fun j=>V.ref (ad j)) (xss:=js.map fun i=>xss.getD i []) (kn_ _ ad js fun j hj=>(hg j (lt' j hj)).2.2) (hk_ ad js) hm' (fun xs hx=>hne' xs ((mem xs).mp hx)) (by lia) (fun yss q' H' pm srt hq sm his=> ?_) X.A;exact q yss q' H' (pm.nodup_iff.mpr nd) (fun z=>by rw [pm.mem_iff];exact mem z) srt hq sm his
end
end L2
namespace L2
open PySem PySem.Spec PyProof.Rows PySem.W
section
variable {prog:Program}{w:World}{A:Around}{E:Value->Shared->Prop}{s:Shared}
theorem kF_ {d:Addr}{o:Obj}{es:Array DictEntry}{ep:Nat}{Q:Value->Shared->Prop} (hd:(d==sysModules)=false) (ho:s.heap.get? d=some o) (hc:o.ExactDict) (hdat:o.data= .dict es ep)
  (hQ:Q (.ref s.heap.objs.size) {s with heap:=s.heap.push {cls:= .type "dict_keyiterator",data:= .fields #[.ref d, .int 0 0, .int es.size 0, .int ep 0]}}):
  wpAny (model prog w) A (pyIter (.ref d)) Q E s:=by
 have hT:s.TypeIs (.ref d) "dict":=⟨o,ho,hc.1⟩;refine wpAny_pyIter_slot hT PySem.F.slot_dict_iter (Ag PySem.F.slot_dict_iter hT PySem.F.entry_dict_iter ?_ (PySem.F.args_dict_iter_1 _));unfold Builtin.«dict.__iter__»;refine A0 ?_;unfold Builtin.Dict.dictSlotNone;refine A0 (wpAny_notOrdered_dict hT ?_);show wpAny _ _ (pure (Value.ref d)) _ _ s;refine A2 ?_;show wpAny _ _ (Builtin.Dict.showsAll d>>=_) _ _ s;unfold Builtin.Dict.showsAll;rw [A3 (by rw [hd];exact AT)];refine A0 (A2 ?_);refine A0 (CU ho hdat ?_);refine A0 (Cn ho hdat ?_);refine A0 (Aq (A2 ⟨_,rfl,"dict_keyiterator",_,⟨_,AH _ rfl,rfl⟩,Ba.lookup, ?_⟩));simpa [rawInt] using hQ
theorem kG_ {it d:Addr}{o:Obj}{es:Array DictEntry}{i ep:Nat}{e:DictEntry}{Q:Option Value->Shared->Prop} (hit:s.heap.IsKeyIter it d i es.size ep) (hod:s.heap.get? d=some o) (hdd:o.data= .dict es ep) (he:es[i]? =some e)
  (hQ:∀h',h'.IsKeyIter it d (i+1) es.size ep->Heap.SameBut it s.heap h'->Q (some e.key) {s with heap:=h'}):wpAny (model prog w) A (pyNext (.ref it)) Q E s:=by
 obtain⟨oi,ho,hc,hd⟩:=id hit;have hlt:i<es.size:=(Bw.mp he).1;unfold pyNext;refine A0 (Bz (Ax (name:=Str.ofString "__next__") hit.typeIs Ba (Ag Ba hit.typeIs PySem.F.entry_dict_keyiterator_next ?_ (PySem.F.args_dict_keyiterator_next_1 _))));refine A0 (A2 ?_);refine A0 ?_;refine A0 ?_;first|refine A0 (CK hit.typeIs (A2 ?_));skip|refine A0 (Ci hit.typeIs (A2 ?_));skip
 refine A0 (Ct ho hd ?_);have hown:Builtin.Dict_items.ownsTuple "dict_keyiterator"=false:=by decide
 simp only [hown,AG,Am];show wpAny _ _ (if(Value.ref d==Value.none)=true then _ else _) _ _ s;rw [A3 (show¬((Value.ref d==Value.none)=true) from AT)];refine A0 (A2 ?_);refine A0 (CU hod hdd ?_);rw [A3 (by simp)];refine A0 (A2 ?_);refine A0 (Cn hod hdd ?_);rw [A3 (by simp)];refine A2 ?_;simp only [show¬((i:Int)<0) from by lia,Am,An,he];refine A0 ?_;first|refine A0 (CK hit.typeIs (A2 ?_));skip|refine A0 (Ci hit.typeIs (A2 ?_));skip
 refine A0 (wpAny_isOneOf_keyiter hit.typeIs ?_);show wpAny _ _ (setField (.ref it) 1 (rawInt ((i:Int)+1))>>=_) _ _ s;refine A0 (C3 ho hd (by simp) ?_);have st':(s.heap.update it (Obj.mapFields (·.setIfInBounds 1 (rawInt ((i:Int)+1))))).IsKeyIter it d (i+1) es.size ep:=⟨_,C7 _ ho (D2 (Bl hd _)),(Obj.cls_mapFields ..).trans hc,by rw [Bl hd];simp [rawInt]⟩;refine A0 (Au ?_);refine A0 (wpAny_isOneOf_keyiter (s:={s with heap:=s.heap.update it (Obj.mapFields (·.setIfInBounds 1 (rawInt ((i:Int)+1))))}) st'.typeIs ?_);show wpAny _ _ (pure e.key) _ _ _;exact A2 (A2 ⟨_,rfl,A2 (hQ _ st' (B6 ..))⟩)
theorem nu_ {it d:Addr}{o:Obj}{es:Array DictEntry}{i ep:Nat}{Q:Option Value->Shared->Prop} (hh:A.handled=none) (hit:s.heap.IsKeyIter it d i es.size ep) (hod:s.heap.get? d=some o) (hdd:o.data= .dict es ep) (he:es.size<=i)
  (hQ:∀h',Heap.ExtBut it s.heap h'->Q none {s with heap:=h'}):wpAny (model prog w) A (pyNext (.ref it)) Q E s:=by
 obtain⟨oi,ho,hc,hd⟩:=id hit;unfold pyNext;refine A0 (Bz (Ax (name:=Str.ofString "__next__") hit.typeIs Ba (Ag Ba hit.typeIs PySem.F.entry_dict_keyiterator_next ?_ (PySem.F.args_dict_keyiterator_next_1 _))));refine A0 (A2 ?_);refine A0 ?_;refine A0 ?_;first|refine A0 (CK hit.typeIs (A2 ?_));skip|refine A0 (Ci hit.typeIs (A2 ?_));skip
 refine A0 (Ct ho hd ?_);have hown:Builtin.Dict_items.ownsTuple "dict_keyiterator"=false:=by decide
 simp only [hown,AG,Am];show wpAny _ _ (if(Value.ref d==Value.none)=true then _ else _) _ _ s;rw [A3 (show¬((Value.ref d==Value.none)=true) from AT)];refine A0 (A2 ?_);refine A0 (CU hod hdd ?_);rw [A3 (by simp)];refine A0 (A2 ?_);refine A0 (Cn hod hdd ?_);rw [A3 (by simp)];refine A2 ?_;simp only [show¬((i:Int)<0) from by lia,Am,An,Be he];refine A0 ?_;first|refine A0 (CK hit.typeIs (A2 ?_));skip|refine A0 (Ci hit.typeIs (A2 ?_));skip
 show wpAny _ _ (setField (.ref it) 0 .none>>=_) _ _ s;refine A0 (C3 ho hd (by simp) ?_);show wpAny _ _ (newExc (.type "StopIteration") []>>=_) _ _ _;refine A0 ?_;simp only [newExc,newTuple];refine A0 (Aq ?_ (by size_fits));refine A0 (m:=firstArgMember _ _) (D7 (a:=Value.none) (by first|rfl|(simp only [firstArgMember];rfl)) ?_);refine Aq ?_ (by size_fits);simp only [raiseNew];refine A0 (wpAny_handled ?_);rw [show A.in1.handled=none from hh];refine A0 (A2 (wpAny_throw ?_));refine A0 (C0 (T:="StopIteration") (b:=true) ⟨_,AH _ rfl,rfl⟩ isSubtype_stop ?_);exact A2 (hQ _ (((B6 ..).extBut.push _).push _))
end
section
variable {prog:Program}{w:World}{A:Around}{E:Value->Shared->Prop}{s:Shared}
theorem rn_ {d:Addr}{o:Obj}{Q:Value->Shared->Prop} (hd:(d==sysModules)=false) (ho:s.heap.get? d=some o) (hc:o.ExactDict)
  (hQ:Q (.ref s.heap.objs.size) {s with heap:=s.heap.push {cls:= .type "dict_values",data:= .fields #[.ref d]}}):wpAny (model prog w) A (call (.builtin "dict.values") [.ref d]) Q E s:=by
 have hT:s.TypeIs (.ref d) "dict":=⟨o,ho,hc.1⟩;refine Ag PySem.F.slot_dict_values hT PySem.F.entry_dict_values ?_ (PySem.F.args_dict_values_1 _);refine A0 ?_;unfold Builtin.Dict.noArgs;refine A0 (wpAny_notOrdered_dict hT ?_);show wpAny _ _ (pure d) _ _ s;refine A2 ?_;show wpAny _ _ (Builtin.Dict.showsAll d>>=_) _ _ s;unfold Builtin.Dict.showsAll;rw [A3 (by rw [hd];exact AT)];refine A0 (A2 ?_);exact A0 (Aq (A2 ⟨_,rfl,hQ⟩))
theorem rl_ {v d:Addr}{o:Obj}{es:Array DictEntry}{ep:Nat}{Q:Value->Shared->Prop} (hv:s.heap.IsValuesView v d) (ho:s.heap.get? d=some o) (hdat:o.data= .dict es ep)
  (hQ:Q (.ref s.heap.objs.size) {s with heap:=s.heap.push {cls:= .type "dict_valueiterator",data:= .fields #[.ref d, .int 0 0, .int es.size 0, .int ep 0]}}):
  wpAny (model prog w) A (pyIter (.ref v)) Q E s:=by
 obtain⟨ov,hov,hcv,hdv⟩:=id hv;refine wpAny_pyIter_slot hv.typeIs PySem.F.slot_dict_values_iter (Ag PySem.F.slot_dict_values_iter hv.typeIs PySem.F.entry_dict_values_iter ?_ (PySem.F.args_dict_values_iter_1 _));unfold Builtin.«dict_values.__iter__»;refine A0 (A2 ?_);refine A0 ?_;unfold Builtin.Dict_items.dictOf;refine A0 (BZ hov hdv (x:= .ref d) rfl (A2 ?_));refine A0 ?_;unfold Builtin.Dict_items.newIterator;refine A0 (CU ho hdat ?_);refine A0 (Cn ho hdat ?_);have hown:Builtin.Dict_items.ownsTuple "dict_valueiterator"=false:=by decide
 simp only [hown,AG,Am];refine Aq (A2 ⟨_,rfl,"dict_valueiterator",_,⟨_,AH _ rfl,rfl⟩,BR.lookup, ?_⟩);simpa [rawInt] using hQ
theorem rm_ {it d:Addr}{o:Obj}{es:Array DictEntry}{i ep:Nat}{e:DictEntry}{Q:Option Value->Shared->Prop} (hit:s.heap.IsValIter it d i es.size ep) (hod:s.heap.get? d=some o) (hdd:o.data= .dict es ep) (he:es[i]? =some e)
  (hQ:∀h',h'.IsValIter it d (i+1) es.size ep->Heap.SameBut it s.heap h'->Q (some e.val) {s with heap:=h'}):wpAny (model prog w) A (pyNext (.ref it)) Q E s:=by
 obtain⟨oi,ho,hc,hd⟩:=id hit;have hlt:i<es.size:=(Bw.mp he).1;unfold pyNext;refine A0 (Bz (Ax (name:=Str.ofString "__next__") hit.typeIs BR (Ag BR hit.typeIs PySem.F.entry_dict_valueiterator_next ?_ (PySem.F.args_dict_valueiterator_next_1 _))));refine A0 (A2 ?_);refine A0 ?_;refine A0 ?_;first|refine A0 (CJ hit.typeIs (A2 ?_));skip|refine A0 (Ch hit.typeIs (A2 ?_));skip
 refine A0 (Ct ho hd ?_);have hown:Builtin.Dict_items.ownsTuple "dict_valueiterator"=false:=by decide
 simp only [hown,AG,Am];show wpAny _ _ (if(Value.ref d==Value.none)=true then _ else _) _ _ s;rw [A3 (show¬((Value.ref d==Value.none)=true) from AT)];refine A0 (A2 ?_);refine A0 (CU hod hdd ?_);rw [A3 (by simp)];refine A0 (A2 ?_);refine A0 (Cn hod hdd ?_);rw [A3 (by simp)];refine A2 ?_;simp only [show¬((i:Int)<0) from by lia,Am,An,he];refine A0 ?_;first|refine A0 (CJ hit.typeIs (A2 ?_));skip|refine A0 (Ch hit.typeIs (A2 ?_));skip
 refine A0 (wpAny_isOneOf_valiter hit.typeIs ?_);show wpAny _ _ (setField (.ref it) 1 (rawInt ((i:Int)+1))>>=_) _ _ s;refine A0 (C3 ho hd (by simp) ?_);have st':(s.heap.update it (Obj.mapFields (·.setIfInBounds 1 (rawInt ((i:Int)+1))))).IsValIter it d (i+1) es.size ep:=⟨_,C7 _ ho (D2 (Bl hd _)),(Obj.cls_mapFields ..).trans hc,by rw [Bl hd];simp [rawInt]⟩;refine A0 (Au ?_);refine A0 (wpAny_isOneOf_valiter (s:={s with heap:=s.heap.update it (Obj.mapFields (·.setIfInBounds 1 (rawInt ((i:Int)+1))))}) st'.typeIs ?_);refine A0 (wpAny_isOneOf_valiter (s:={s with heap:=s.heap.update it (Obj.mapFields (·.setIfInBounds 1 (rawInt ((i:Int)+1))))}) st'.typeIs ?_);show wpAny _ _ (pure e.val) _ _ _;exact A2 (A2 ⟨_,rfl,A2 (hQ _ st' (B6 ..))⟩)
theorem td_ {it d:Addr}{o:Obj}{es:Array DictEntry}{i ep:Nat}{Q:Option Value->Shared->Prop} (hh:A.handled=none) (hit:s.heap.IsValIter it d i es.size ep) (hod:s.heap.get? d=some o) (hdd:o.data= .dict es ep) (he:es.size<=i)
  (hQ:∀h',Heap.ExtBut it s.heap h'->Q none {s with heap:=h'}):wpAny (model prog w) A (pyNext (.ref it)) Q E s:=by
 obtain⟨oi,ho,hc,hd⟩:=id hit;unfold pyNext;refine A0 (Bz (Ax (name:=Str.ofString "__next__") hit.typeIs BR (Ag BR hit.typeIs PySem.F.entry_dict_valueiterator_next ?_ (PySem.F.args_dict_valueiterator_next_1 _))));refine A0 (A2 ?_);refine A0 ?_;refine A0 ?_;first|refine A0 (CJ hit.typeIs (A2 ?_));skip|refine A0 (Ch hit.typeIs (A2 ?_));skip
 refine A0 (Ct ho hd ?_);have hown:Builtin.Dict_items.ownsTuple "dict_valueiterator"=false:=by decide
 simp only [hown,AG,Am];show wpAny _ _ (if(Value.ref d==Value.none)=true then _ else _) _ _ s;rw [A3 (show¬((Value.ref d==Value.none)=true) from AT)];refine A0 (A2 ?_);refine A0 (CU hod hdd ?_);rw [A3 (by simp)];refine A0 (A2 ?_);refine A0 (Cn hod hdd ?_);rw [A3 (by simp)];refine A2 ?_;simp only [show¬((i:Int)<0) from by lia,Am,An,Be he];refine A0 ?_;first|refine A0 (CJ hit.typeIs (A2 ?_));skip|refine A0 (Ch hit.typeIs (A2 ?_));skip
 show wpAny _ _ (setField (.ref it) 0 .none>>=_) _ _ s;refine A0 (C3 ho hd (by simp) ?_);show wpAny _ _ (newExc (.type "StopIteration") []>>=_) _ _ _;refine A0 ?_;simp only [newExc,newTuple];refine A0 (Aq ?_ (by size_fits));refine A0 (m:=firstArgMember _ _) (D7 (a:=Value.none) (by first|rfl|(simp only [firstArgMember];rfl)) ?_);refine Aq ?_ (by size_fits);simp only [raiseNew];refine A0 (wpAny_handled ?_);rw [show A.in1.handled=none from hh];refine A0 (A2 (wpAny_throw ?_));refine A0 (C0 (T:="StopIteration") (b:=true) ⟨_,AH _ rfl,rfl⟩ isSubtype_stop ?_);exact A2 (hQ _ (((B6 ..).extBut.push _).push _))
theorem lL_ (hh:A.handled=none) (I d:Addr) (hne:d≠I) {o:Obj}{es:Array DictEntry}{ep:Nat} (hdat:o.data= .dict es ep):
  Walks prog w A I [I,d] [I] es.size (fun i v=>∃e,es[i]? =some e/\v=e.val) (fun i h=>h.IsValIter I d i es.size ep/\h.get? d=some o) where
 sub:=fun b hb=>by simp at hb;simp [hb]
 frame:=fun _ _ _ st hk=>⟨st.1.at fun o e=>hk I (by simp) o e,hk d (by simp) _ st.2⟩
 item:=fun i s Q E hi st hQ=>rm_ st.1 st.2 hdat (Ak hi) fun h' hit' hs'=>hQ _ h' s.toks ⟨_,Ak hi,rfl⟩ ⟨hit',hs'.extBut d _ hne st.2⟩ fun b o hb e=>hs'.extBut b o (fun h=>hb (by simp [h])) e
 done:=fun s Q E st hQ=>td_ hh st.1 st.2 hdat (A9 _) fun h' he'=>hQ h' s.toks fun b o hb e=>he' b o (fun h=>hb (by simp [h])) e
 self:=fun _ _ _ _ st hQ=>wpAny_pyIter_valiter st.1 hQ
theorem mv_ (ns:List Int):∀k,k<=ns.length->preSum (fun i=>ns.getD i 0) k=(ns.take k).sum
 |0,_=>by simp [preSum]
 |k+1,h=>by
  have hk:k<ns.length:=by lia
  have g:ns.getD k 0=ns[k]:=by simp [List.getD,hk]
  rw [preSum,mv_ ns k (by lia),AV,A4 hk,Bg];show _+ns.getD k 0=_+[ns[k]].sum;rw [g];simp
end
theorem c3_ {α β:Type}{R:α->β->Prop}:∀{xs:List α}{ys:List β}{i:Nat}{x:α},Paired R xs ys->xs[i]? =some x->∃y,ys[i]? =some y/\R x y
 |_,_,i,x, .nil,h=>by simp at h
 |_,_,0,x, .cons r _,h=>by simp at h;subst h;exact⟨_,rfl,r⟩
 |_,_,i+1,x, .cons _ t,h=>by simp at h;obtain⟨y,e,r⟩:=c3_ t h;exact⟨y,by simpa using e,r⟩
noncomputable def Itk (d:Addr) (o:Obj) (kvs:List (List Key×V)):It:=
 ⟨fun i H=>H d=some (.frz o (.dT kvs))/\i<kvs.length,fun i H x H'=>H'=H/\∃b k v,x= .ref b/\kvs[i]? =some (k,v)/\H b=some (.tup (k.map kV)),fun i H=>H d=some (.frz o (.dT kvs))/\kvs.length<=i⟩
noncomputable def uZ_ (td:TE):TI:=fun σ H R=>td σ H fun x H1=>∃(d:Addr) (kvs:List (List Key×V)),x= .ref d/\Rd H1 d (.dT kvs)/\∀(o:Obj) (H2:Hp),H2 d=some (.frz o (.dT kvs))->(∀b,b≠d->H2 b=H1 b)->R (Itk d o kvs) H2
theorem lW_ {P:Program}{w:World}{K:W.Frag}{tg:Expr} (d it:Addr) (o:Obj) (kvs:List (List Key×V)) (ep:Nat) (hep:∀es' ep',o.data= .dict es' ep'->ep'=ep):Turn P w K tg (Itk d o kvs) [it] it (fun i h=>h.IsKeyIter it d i kvs.length ep) where
 mem:=by simp
 obj:=fun i h st b hb=>by
  have e:b=it:=by simpa using hb
  subst e;obtain⟨o,e,c,d⟩:=st;exact⟨o,e,fun v z=>by rw [d] at z;cases z⟩
 keep:=fun i h h' st k=>st.at fun o e=>k it (by simp) o e
 item:=by
  intro X hP hw hK hc i pins s σ H E I hf st hg;subst hP hw hK;obtain⟨hq,hi⟩:=hg;obtain⟨ho,z,y,xs,rel,o',es,ep',h1,h2,h3,h4,h5⟩:=(show aG_ X.prog X.w H s.heap d (.frz o (.dT kvs)) from I.hok d _ hq);obtain rfl:o=o':=Ad (ho.symm.trans h1);obtain rfl:ep'=ep:=hep _ _ h3;have hx:kvs[i]? =some kvs[i]:=A4 hi;obtain⟨q,hq1,e1,e2,e3⟩:=c3_ rel hx;have hsz:es.size=kvs.length:=by rw [<-Ao,h4,A1,<-Bh rel]
  have he:es[i]? =some (entryOfKey (tupleKind (aV_ X.prog X.w)) q):=by rw [<-By,h4,A8,hq1];rfl
  obtain⟨f0,f1,f2,f3,f4,f5⟩:=hf it (by simp);rw [<-hsz] at st;refine kG_ st ho h3 he fun h' st' sb=> ?_;have I1:Inv X pins σ H {s with heap:=h'}:=I.turned (t':=s.toks) (fun b o hb e=>(sb.2 b hb).trans e) f0 f1 f3 f4 f5;obtain⟨oo,e,c,d'⟩:=id st';rw [hsz] at st';exact⟨_,rfl,go_of (s:={s with heap:=h'}) e c d' (by decide) ⟨.ref q.2.1,H,I1,rfl,⟨rfl,q.2.1,kvs[i].1,kvs[i].2,rfl,hx,e2⟩,st',fun b hb=>(hf b hb).1⟩⟩
 done:=by
  intro X hP hw hK hc i pins s σ H E I hf st hg;subst hP hw hK;obtain⟨hq,hi⟩:=hg;obtain⟨ho,z,y,xs,rel,o',es,ep',h1,h2,h3,h4,h5⟩:=(show aG_ X.prog X.w H s.heap d (.frz o (.dT kvs)) from I.hok d _ hq);obtain rfl:o=o':=Ad (ho.symm.trans h1);obtain rfl:ep'=ep:=hep _ _ h3;have hsz:es.size=kvs.length:=by rw [<-Ao,h4,A1,<-Bh rel]
  obtain⟨f0,f1,f2,f3,f4,f5⟩:=hf it (by simp);rw [<-hsz] at st;exact nu_ (I.ok.hd hc) st ho h3 (by lia) fun h' eb=>⟨rfl,I.turned (t':=s.toks) (fun b o hb e=>eb b o hb e) f0 f1 f3 f4 f5⟩
 self:=fun _ _ _ _ _ st h=>wpAny_pyIter_keyiter st h
section
variable {X:Cx}{tg:Expr}
theorem ro_ {P:Program}{w:World}{H H':Hp}{h:Heap}{d:Addr}{kvs:List (List Key×V)} (q:aG_ P w H h d (.dT kvs)) (k:∀b ys,H b=some (.tup ys)->H' b=some (.tup ys)):aG_ P w H' h d (.dT kvs):=by
 obtain⟨z,y,xs,rel,r⟩:=q;exact⟨z,y,xs,KT.keeps rel fun c ys ec=>k c ys ec,r⟩
theorem qB_ {l:Expr}{tl:TE} (hl:PE X l tl):PI X tg l (uZ_ tl):=by
 intro pins s σ H R I h;refine thn (hl pins s σ H _ I h) fun v s1 ⟨x,H1,I1,r1,q1⟩=> ?_;obtain⟨d,kvs,rfl,hq,q⟩:=q1;cases r1;have hob:aG_ X.prog X.w H1 s1.heap d (.dT kvs):=mp_ I1.hok hq;obtain⟨z,y,xs,rel,o,es,ep,h1,h2,h3,h4,h5⟩:=id hob;have hsz:es.size=kvs.length:=by rw [<-Ao,h4,A1,<-Bh rel]
 obtain⟨H2,I2,e2,k2⟩:∃H2,Inv X pins σ H2 s1/\H2 d=some (.frz o (.dT kvs))/\∀b,b≠d->H2 b=H1 b:=by
  rcases hq with hq|⟨o',hq⟩
  .exact⟨_,ej_ (t':=s1.toks) I1 (by rw [hq];exact True.intro) (Heap.SameBut.refl _ _) ⟨o,h1⟩ (show aG_ X.prog X.w (upd H1 d (.frz o (.dT kvs))) s1.heap d (.frz o (.dT kvs)) from⟨h1,ro_ hob fun b ys e=>by rw [ak_ (qU_ e hq (fun z=>nomatch z))];exact e⟩),ag_,fun b hb=>ak_ hb⟩
  .obtain⟨ho',_⟩:=(show aG_ X.prog X.w H1 s1.heap d (.frz o' (.dT kvs)) from I1.hok d _ hq);obtain rfl:o'=o:=Ad (ho'.symm.trans h1);exact⟨H1,I1,hq,fun _ _=>rfl⟩
 refine kF_ y h1 h2 h3 ?_;rw [hsz];refine⟨s1.heap.objs.size,[s1.heap.objs.size],_,_,_,rfl,I2.kept (t':=s1.toks) fun b o e=>A7 _ e,lW_ d _ o kvs ep (fun es' ep' e=>by rw [h3] at e;cases e;rfl),⟨_,AH _ rfl,rfl,rfl⟩,fun b hb=> ?_,q o H2 e2 k2⟩;have e:b=s1.heap.objs.size:=by simpa using hb
 subst e;exact I2.fpOk (A9 _) (I2.hok.fresh (A9 _))
theorem o2_ {d:Addr}{o:Obj}{kvs:List (List Key×V)}{g:TG}{tb:TS}{D:Ends}{σ:St}{H:Hp} (Pv:Nat->St->Hp->Prop) (h0:Pv 0 σ H) (hl:∀i σ H,i<=kvs.length->Pv i σ H->H d=some (.frz o (.dT kvs)))
  (hs:∀i k v b σ H,kvs[i]? =some (k,v)->Pv i σ H->H b=some (.tup (k.map kV))->g (.ref b) σ H fun σ2 H2=>tb {D with nx:=Pv (i+1),ct:=Pv (i+1),bk:=D.nx} σ2 H2) (hd:∀σ H,Pv kvs.length σ H->D.nx σ H):
  ∃Wq:Nat->Nat->St->Hp->Prop,(∃m,Wq 0 m σ H)/\∀i m σ H,Wq i m σ H->
   ((Itk d o kvs).stop i H/\D.nx σ H)\/((Itk d o kvs).go i H/\∃N:St->Hp->Prop,(∀σ' H',N σ' H'->∃m',m'<m/\Wq (i+1) m' σ' H')/\∀x H',(Itk d o kvs).yld i H x H'->g x σ H' fun σ2 H2=>tb {D with nx:=N,ct:=N,bk:=D.nx} σ2 H2):=by
 refine⟨fun i m σ H=>m=kvs.length-i/\i<=kvs.length/\Pv i σ H,⟨kvs.length,by simp,AO _,h0⟩, ?_⟩;rintro i m σ H ⟨rfl,hi,p⟩;have q:=hl i σ H hi p;by_cases hlt:i<kvs.length
 .refine .inr ⟨⟨q,hlt⟩,Pv (i+1),fun σ' H' p'=>⟨kvs.length-(i+1),by lia,rfl,hlt,p'⟩, ?_⟩;rintro x H' ⟨rfl,b,k,v,rfl,e,hb⟩;exact hs i k v b σ _ e p hb
 .obtain rfl:i=kvs.length:=by lia
  exact .inl ⟨⟨q,A9 _⟩,hd σ H p⟩
noncomputable def r1_ (tk tv:TE):TE:=fun σ H Q=>∀p,H p=none->tk σ (upd H p (.dT [])) fun x H1=>tv σ H1 fun y H2=>H2 p=some (.dT [])/\∃k b,x= .ref b/\H2 b=some (.tup (k.map kV))/\Q (.ref p) (upd H2 p (.dT (c2_ [] k y)))
theorem ow_ {ek ev:Expr}{tk tv:TE}{pos:Pos} (hu:X.A.units+1<cLine) (hk:PE X ek tk) (hv:PE X ev tv):PE X (.Dict [some ek] [ev] pos) (r1_ tk tv):=by
 intro pins s σ H Q I q;have hn:=I.hok.fresh (A9 s.heap.objs.size);have I1:=I.laid (a:=s.heap.objs.size) (o:= .dT []) (h':=s.heap.push {cls:= .type "dict",data:= .dict #[]}) (t':=s.toks) (fun _ _ q=>A7 _ q) (A9 _) (kE_ s.heap I.big);rw [arm_eval_Dict,zip_pairTrees [some ek] [ev] X.env pos rfl rfl,dictDisplay_pairs (pairTrees [some ek] [ev] X.env pos) (by intro z;cases z) (show 1<17 by decide)];refine A0 (wpAny_standAt (A0 ?_));unfold subDict;refine A0 (wpAny_alloc ?_);refine A0 (Au ?_);rw [A6 (show(pairTrees [some ek] [ev] X.env pos).length<=15 from(by decide:1<=15))];refine A0 (pairTrees_cons_walk (thn (hk pins _ σ _ _ I1 (q _ hn)) fun u s1 ⟨x,H1,I2,rx,q1⟩=>thn (hv pins s1 σ H1 _ I2 q1) fun w2 s2 ⟨y,H2,I3,ry,e,k,b,ex,eb,q2⟩=>pairTrees_nil_walk ?_));subst ex;cases (show u=Value.ref b from rx);obtain⟨z,hd,xs,rel,dd⟩:=te_ I3.hok e;cases rel;refine wpAny_holding (wpAny_bind ?_);rw [List.forIn_cons];dsimp only;refine A0 (A0 (wpAny_dictSet_heap (knd:=tupleKind (aV_ X.prog X.w)) (show X.A.units<cLine by lia) (h4_ I3.hok eb) dd (fun h' dd' hs=>A2 ?_) (AO _)));dsimp only;rw [List.forIn_nil];refine wpAny_pure (wpAny_pure (wpAny_pure (wpAny_pure ?_)));obtain⟨o,es,ep,hq,h2,h3,h4,_,h5⟩:=dd';refine⟨.ref s.heap.objs.size,_,ej_ I3 (by rw [e];exact True.intro) hs ⟨o,hq⟩ (show aG_ X.prog X.w (upd H2 s.heap.objs.size (.dT (c2_ [] k y))) h' s.heap.objs.size (.dT (c2_ [] k y)) from⟨(by show 1<=sizeLine;decide),hd,_,KT.keeps (KT.put .nil k eb ry) fun c ys ec=> ?_,o,es,ep,hq,h2,h3,h4,h5⟩),rfl,q2⟩;rw [ak_ (qU_ ec e (fun z=>nomatch z))];exact ec
noncomputable def tS_ (td:TE):TE:=fun σ H Q=>td σ H fun x H1=>∃(d:Addr) (kvs:List (List Key×V)) (ns:List Int),x= .ref d/\Rd H1 d (.dT kvs)/\kvs.map (·.2)=ns.map V.int/\Q (.int ns.sum) H1
theorem qD_ {e:Expr}{td:TE}{p apos cpos pos:Pos} (hc:X.calm=true) (hg:Gl X "sum") (hm:X.mg "sum"=none) (he:PE X e td)
  (he2:starEach [Expr.Call (.Attribute e "values" apos) [] [] cpos] X.env=(false,eval (Expr.Call (.Attribute e "values" apos) [] [] cpos) X.env)::starEach [] X.env:=by rfl)
  (hbase:attributeBase e "values" X.env (eval e X.env)=eval e X.env:=by rfl) (hline:(apos.endLine==cpos.line)=true:=by rfl):
  PE X (.Call (.Name "sum" p) [.Call (.Attribute e "values" apos) [] [] cpos] [] pos) (tS_ td):=by
 intro pins s σ H Q I h;refine BQ (co_ I hg hm (by first|exact boot_sum|rfl|ac_nf) ?_ (by decide) (by decide));refine Cr ?_ he2 (by rfl);rw [he2];show wpAny _ _ (spliced ((false,eval (Expr.Call (.Attribute e "values" apos) [] [] cpos) X.env)::backTo pos (starEach [] X.env))) _ _ s;refine CL ?_;refine wpAny_Call_method0_late hbase hline (thn (he pins s σ H _ I h) fun v s1 ⟨x,H1,I1,r1,q1⟩=> ?_);obtain⟨d,kvs,ns,rfl,hrd,hns,q⟩:=q1;cases r1;obtain⟨hT,hdi,hsys⟩:=pD_ I1 (.inr ⟨kvs,hrd⟩);obtain⟨z,y,xs,rel,o,es,ep,h1,h2,h3,h4,h5⟩:=(show aG_ X.prog X.w H1 s1.heap d (.dT kvs) from mp_ I1.hok hrd);refine⟨"dict","dict.values",PySem.F.plainAttrs_dict,PySem.F.slot_dict_values,PySem.F.type_dict_values,hT,hdi,Calls.callWith_builtin rfl (PySem.evalArgs_none (rn_ hsys h1 h2 (A2 ?_)))⟩;show wpAny _ _ (call (.builtin "sum") [.ref s1.heap.objs.size]) _ _ _;have h1':(s1.heap.push {cls:= .type "dict_values",data:= .fields #[.ref d]}).get? d=some o:=A7 _ h1;have hdl:d<s1.heap.objs.size:=AJ h1;have hsz:es.size=kvs.length:=by rw [<-Ao,h4,A1,<-Bh rel]
 have hnl:ns.length=kvs.length:=by have:=Bc List.length hns;simpa using this.symm
 refine call_sum_walkAnyS (rl_ (s:={s1 with heap:=s1.heap.push {cls:= .type "dict_values",data:= .fields #[.ref d]}}) ⟨_,AH _ rfl,rfl,rfl⟩ h1' h3 ?_);refine⟨_,_,_,_,_,_,_,fun i=>ns.getD i 0,rfl,(lL_ (A:=X.A.in1) (I.ok.hd hc) (s1.heap.push {cls:= .type "dict_values",data:= .fields #[.ref d]}).objs.size d (by rw [Aw];exact AL (Ac hdl)) h3).toS,⟨⟨_,AH _ rfl,rfl,rfl⟩,A7 _ h1'⟩, ?_, ?_, ?_⟩
 .intro b hb;simp only [AK,At,Bn] at hb;rcases hb with rfl|rfl
  .show _<(Heap.push (s1.heap.push _) _).objs.size;rw [Aw (s1.heap.push _)];exact BN _
  .show _<(Heap.push (s1.heap.push _) _).objs.size;rw [Aw,Aw];exact Ac (Ac hdl)
 .rintro i v ⟨e,hei,rfl⟩;rw [<-By,h4,A8] at hei;obtain⟨q',hq',rfl⟩:=A5.mp hei;have hi:i<kvs.length:=by rw [Bh rel];exact(AD.mp hq').1
  obtain⟨q2,hq2,e1,e2,e3⟩:=c3_ rel (A4 hi);rw [hq'] at hq2;cases hq2;have:kvs[i].2=V.int (ns.getD i 0):=by
   have z1:(kvs.map (·.2))[i]? =some kvs[i].2:=by rw [A8,A4 hi];rfl
   rw [hns,A8,A4 (by lia)] at z1;simp only [Option.map_some,B1] at z1;rw [<-z1,AA,A4 (by lia)];rfl
  rw [this] at e3;exact e3
 .intro s' t' hm';obtain⟨h',g',d',tk',os'⟩:=s';have eg:g'=s1.gens:=hm'.gens;have ed:d'=s1.drawn:=hm'.drawn;have eo:os'=s1.os:=hm'.os;subst eg;subst ed;subst eo;have es:preSum (fun i=>ns.getD i 0) es.size=ns.sum:=by rw [hsz,<-hnl,mv_ ns ns.length (A9 _),AU]
  rw [es];refine⟨.int ns.sum,H1,I1.kept fun b o e=>hm'.heap b o (fun hb=> ?_) (A7 _ (A7 _ e)),⟨t',rfl⟩,q⟩;simp only [AK,At,Bn] at hb;have:=AJ e;rw [hb,Aw] at this;exact absurd this (Nat.not_lt.mpr (Cf _))
end
end L2
namespace L2
open PySem PySem.Spec PyProof.Rows
section
variable {X:Cx}
theorem i8_:OpR X (binaryOp .Add) (fun x y H Q=>∃xs ys,Is H (.t xs) x/\Is H (.t ys) y/\xs.length+ys.length<=sizeLine/\∀v H2,ao_ H H2->Is H2 (.t (xs++ys)) v->Q v H2):=by
 intro pins s σ H x y v u Q I rx ry h;obtain⟨xs,ys,hx,hy,hz,q⟩:=h;obtain⟨a,vs,rfl,ha,ra⟩:=hj_ hx;obtain⟨b,ws,rfl,hb,rb⟩:=hj_ hy;have l1:=ra.length;have l2:=rb.length;by_cases h1:vs=[]
 .subst h1;have hx0:xs=[]:=CC.mp (by rw [<-l1];rfl);subst hx0;cases rx;cases ry;obtain⟨its,r1,p1,_⟩:=I.tuple (SqT.of (K:=X.K) ha);obtain⟨its2,r2,p2,_⟩:=I.tuple (SqT.of (K:=X.K) hb);cases r1;obtain⟨⟨cls,dd,data,sl⟩,ho,hc,n,hd⟩:=p1;obtain⟨⟨cls2,dd2,data2,sl2⟩,ho2,hc2,n2,hd2⟩:=p2;simp only at hc hd hc2 hd2;subst hc hd hc2 hd2;exact concat_meets ⟨_,ho,rfl⟩ ⟨_,ho2,rfl⟩ noFill_tuple_add seq_tuple_add PySem.F.slot_tuple_add PySem.F.entry_tuple_add (PySem.F.args_tuple_add_2 _ _) (tuple_addW0 a b _ _ n n2 dd dd2 sl sl2 (by simp)) ⟨ho,ho2,⟨.ref b,H,I,rfl,q _ H (ao_.refl H) hy⟩⟩
 .refine qM_ pins s σ H (.ref a) (.ref b) v u Q I rx ry ⟨a,b,vs,ws,rfl,rfl,SqT.of ha,SqT.of hb,h1,by lia,fun e=> ?_,fun _ p np=> ?_⟩
  .have:ys=[]:=CC.mp (by rw [<-l2,e];rfl);subst this;exact q _ H (ao_.refl H) (by rw [B8];exact hx)
  .exact q _ _ (ao_.new np) (g1_ ag_ ((ra.append rb).mono (ao_.new np)))
theorem l7_:SlR X (fun x lo hi H Q=>∃xs xs',Is H (.t xs) x/\(∀(H':Hp) (vs:List V),Iss H' xs vs->Iss H' xs' (kJ_ vs lo hi))/\(∀vs:List V,vs.length=xs.length->(HT.sIx vs.length 0 lo=0/\HT.sIx vs.length vs.length hi=vs.length)->xs'=xs)/\∀v H2,ao_ H H2->Is H2 (.t xs') v->Q v H2):=by
 intro pins s σ H x v vl vu lo hi sl Q I rx hs pl pu h;obtain⟨xs,xs',hx,hc,hw,q⟩:=h;obtain⟨a,vs,rfl,ha,ra⟩:=hj_ hx;refine qi_ pins s σ H (.ref a) v vl vu lo hi sl Q I rx hs pl pu ⟨a,vs,rfl,SqT.of ha,fun e=> ?_,fun e p np=> ?_⟩
 .have:=hw vs ra.length e;subst this;exact q _ H (ao_.refl H) hx
 .exact q _ _ (ao_.new np) (g1_ ag_ ((hc _ _ ra).mono (ao_.new np)))
end
noncomputable def LTS (H H':Hp):Prop:=(∀b xs,H b=some (.lst xs)->H' b=some (.lst xs))/\∀b xs,H b=some (.tup xs)->H' b=some (.tup xs)
theorem LTS.dict {H:Hp}{d:Addr}{kvs:List (List Key×V)}{o:HO} (h:H d=some (.dT kvs)):LTS H (upd H d o):=
 ⟨fun b xs e=>by rw [ak_ (by rintro rfl;rw [h] at e;cases e)];exact e,fun b xs e=>by rw [ak_ (by rintro rfl;rw [h] at e;cases e)];exact e⟩
theorem LTS.rd {H H':Hp}{d:Addr}{kvs:List (List Key×V)} (h:Rd H d (.dT kvs)) (k:∀b,b≠d->H' b=H b):LTS H H':=by
 have nd:∀b o,H b=some o->(∀kvs,o≠ .dT kvs)->(∀ob u,o≠ .frz ob u)->b≠d:=by
  rintro b o e n1 n2 rfl;rcases h with h|⟨ob,h⟩
  .rw [h] at e;cases e;exact n1 _ rfl
  .rw [h] at e;cases e;exact n2 _ _ rfl
 exact⟨fun b xs e=>by rw [k b (nd b _ e (fun _ z=>nomatch z) fun _ _ z=>nomatch z)];exact e,fun b xs e=>by rw [k b (nd b _ e (fun _ z=>nomatch z) fun _ _ z=>nomatch z)];exact e⟩
mutual
theorem Is.lts {H H':Hp} (s:LTS H H'):∀{d:D}{v:V},Is H d v->Is H' d v
 | .i _,_,h=>by rw [c4_ h];exact ex_
 | .l xs,_,h=>by
  obtain⟨a,vs,e,q,r⟩:=cn_ h;rw [e];exact c8_ (s.1 _ _ q) (Iss.lts s r)
 | .t xs,_,h=>by
  obtain⟨a,vs,e,q,r⟩:=hj_ h;rw [e];exact g1_ (s.2 _ _ q) (Iss.lts s r)
theorem Iss.lts {H H':Hp} (s:LTS H H'):∀{xs:List D}{vs:List V},Iss H xs vs->Iss H' xs vs
 |[],_,h=>by rw [bm_ h];exact am_
 |x::xs,_,h=>by
  obtain⟨u,us,e,q,r⟩:=ay_ h;rw [e];exact ai_ (Is.lts s q) (Iss.lts s r)
end
end L2
namespace L2
open PySem PySem.Spec PyProof.Rows PySem.W
theorem k8_ {k:Key}{v:Value} (h:h6_ k v=true):a2_ (kV k) v:=by
 rcases aP_ h with⟨i,t,rfl,rfl⟩|⟨x,t,rfl,rfl⟩
 .exact⟨t,rfl⟩
 .exact⟨t,rfl⟩
theorem dH_ {P:Program}{w:World}:∀{es:List DictEntry}{vs:List (Key×Value)},Pairs (aV_ P w) es vs->es.length=vs.length
 |_,_, .nil=>rfl
 |_,_, .cons _ _ t=>by rw [AY,AY,dH_ t]
theorem hG_ {P:Program}{w:World}:∀{es:List DictEntry}{vs:List (Key×Value)}{i:Nat}{x:Key×Value},Pairs (aV_ P w) es vs->vs[i]? =some x->∃e,es[i]? =some e/\h6_ x.1 e.key=true
 |_,_,i,x, .nil,h=>by simp at h
 |_,_,0,x, .cons k _ _,h=>by simp at h;subst h;exact⟨_,rfl,k⟩
 |_,_,i+1,x, .cons _ _ t,h=>by simp at h;obtain⟨e,q,r⟩:=hG_ t h;exact⟨e,by simpa using q,r⟩
noncomputable def Iti (d:Addr) (o:Obj) (kvs:List (Key×V)):It:=
 ⟨fun i H=>H d=some (.frz o (.dK kvs))/\i<kvs.length,fun i H x H'=>H'=H/\∃k v,x=kV k/\kvs[i]? =some (k,v),fun i H=>H d=some (.frz o (.dK kvs))/\kvs.length<=i⟩
noncomputable def s6_ (td:TE):TI:=fun σ H R=>td σ H fun x H1=>∃(d:Addr) (kvs:List (Key×V)),x= .ref d/\Rd H1 d (.dK kvs)/\∀(o:Obj) (H2:Hp),H2 d=some (.frz o (.dK kvs))->(∀b,b≠d->H2 b=H1 b)->R (Iti d o kvs) H2
theorem kW_ {P:Program}{w:World}{K:W.Frag}{tg:Expr} (d it:Addr) (o:Obj) (kvs:List (Key×V)) (ep:Nat) (hep:∀es' ep',o.data= .dict es' ep'->ep'=ep):Turn P w K tg (Iti d o kvs) [it] it (fun i h=>h.IsKeyIter it d i kvs.length ep) where
 mem:=by simp
 obj:=fun i h st b hb=>by
  have e:b=it:=by simpa using hb
  subst e;obtain⟨o,e,c,d⟩:=st;exact⟨o,e,fun v z=>by rw [d] at z;cases z⟩
 keep:=fun i h h' st k=>st.at fun o e=>k it (by simp) o e
 item:=by
  intro X hP hw hK hc i pins s σ H E I hf st hg;subst hP hw hK;obtain⟨hq,hi⟩:=hg;obtain⟨ho,z,y,vs,rel,o',es,ep',h1,h2,h3,hk,h4,h5⟩:=(show aG_ X.prog X.w H s.heap d (.frz o (.dK kvs)) from I.hok d _ hq);obtain rfl:o=o':=Ad (ho.symm.trans h1);obtain rfl:ep'=ep:=hep _ _ h3;have hx:kvs[i]? =some kvs[i]:=A4 hi;obtain⟨q,hq1,e1,e2⟩:=c3_ rel hx;obtain⟨en,he',hkey⟩:=hG_ h4 hq1;have hsz:es.size=kvs.length:=by rw [<-Ao,dH_ h4,<-Bh rel]
  have he:es[i]? =some en:=by rw [<-By];exact he'
  obtain⟨f0,f1,f2,f3,f4,f5⟩:=hf it (by simp);rw [<-hsz] at st;refine kG_ st ho h3 he fun h' st' sb=> ?_;have I1:Inv X pins σ H {s with heap:=h'}:=I.turned (t':=s.toks) (fun b o hb e=>(sb.2 b hb).trans e) f0 f1 f3 f4 f5;obtain⟨oo,e,c,d'⟩:=id st';rw [hsz] at st';rw [<-e1] at hkey;exact⟨_,rfl,go_of (s:={s with heap:=h'}) e c d' (by decide) ⟨kV kvs[i].1,H,I1,k8_ hkey,⟨rfl,kvs[i].1,kvs[i].2,rfl,hx⟩,st',fun b hb=>(hf b hb).1⟩⟩
 done:=by
  intro X hP hw hK hc i pins s σ H E I hf st hg;subst hP hw hK;obtain⟨hq,hi⟩:=hg;obtain⟨ho,z,y,vs,rel,o',es,ep',h1,h2,h3,hk,h4,h5⟩:=(show aG_ X.prog X.w H s.heap d (.frz o (.dK kvs)) from I.hok d _ hq);obtain rfl:o=o':=Ad (ho.symm.trans h1);obtain rfl:ep'=ep:=hep _ _ h3;have hsz:es.size=kvs.length:=by rw [<-Ao,dH_ h4,<-Bh rel]
  obtain⟨f0,f1,f2,f3,f4,f5⟩:=hf it (by simp);rw [<-hsz] at st;exact nu_ (I.ok.hd hc) st ho h3 (by lia) fun h' eb=>⟨rfl,I.turned (t':=s.toks) (fun b o hb e=>eb b o hb e) f0 f1 f3 f4 f5⟩
 self:=fun _ _ _ _ _ st h=>wpAny_pyIter_keyiter st h
section
variable {X:Cx}{tg:Expr}
theorem gw_ {l:Expr}{tl:TE} (hl:PE X l tl):PI X tg l (s6_ tl):=by
 intro pins s σ H R I h;refine thn (hl pins s σ H _ I h) fun v s1 ⟨x,H1,I1,r1,q1⟩=> ?_;obtain⟨d,kvs,rfl,hq,q⟩:=q1;cases r1;have hob:aG_ X.prog X.w H1 s1.heap d (.dK kvs):=mp_ I1.hok hq;obtain⟨z,y,vs,rel,o,es,ep,h1,h2,h3,hk,h4,h5⟩:=id hob;have hsz:es.size=kvs.length:=by rw [<-Ao,dH_ h4,<-Bh rel]
 obtain⟨H2,I2,e2,k2⟩:∃H2,Inv X pins σ H2 s1/\H2 d=some (.frz o (.dK kvs))/\∀b,b≠d->H2 b=H1 b:=by
  rcases hq with hq|⟨o',hq⟩
  .exact⟨_,ej_ (t':=s1.toks) I1 (by rw [hq];exact True.intro) (Heap.SameBut.refl _ _) ⟨o,h1⟩ (show aG_ X.prog X.w (upd H1 d (.frz o (.dK kvs))) s1.heap d (.frz o (.dK kvs)) from⟨h1,hob⟩),ag_,fun b hb=>ak_ hb⟩
  .obtain⟨ho',_⟩:=(show aG_ X.prog X.w H1 s1.heap d (.frz o' (.dK kvs)) from I1.hok d _ hq);obtain rfl:o'=o:=Ad (ho'.symm.trans h1);exact⟨H1,I1,hq,fun _ _=>rfl⟩
 refine kF_ y h1 h2 h3 ?_;rw [hsz];refine⟨s1.heap.objs.size,[s1.heap.objs.size],_,_,_,rfl,I2.kept (t':=s1.toks) fun b o e=>A7 _ e,kW_ d _ o kvs ep (fun es' ep' e=>by rw [h3] at e;cases e;rfl),⟨_,AH _ rfl,rfl,rfl⟩,fun b hb=> ?_,q o H2 e2 k2⟩;have e:b=s1.heap.objs.size:=by simpa using hb
 subst e;exact I2.fpOk (A9 _) (I2.hok.fresh (A9 _))
theorem fn_ {d:Addr}{o:Obj}{kvs:List (Key×V)}{g:TG}{tb:TS}{D:Ends}{σ:St}{H:Hp} (Pv:Nat->St->Hp->Prop) (h0:Pv 0 σ H) (hl:∀i σ H,i<=kvs.length->Pv i σ H->H d=some (.frz o (.dK kvs)))
  (hs:∀i k v σ H,kvs[i]? =some (k,v)->Pv i σ H->g (kV k) σ H fun σ2 H2=>tb {D with nx:=Pv (i+1),ct:=Pv (i+1),bk:=D.nx} σ2 H2) (hd:∀σ H,Pv kvs.length σ H->D.nx σ H):
  ∃Wq:Nat->Nat->St->Hp->Prop,(∃m,Wq 0 m σ H)/\∀i m σ H,Wq i m σ H->
   ((Iti d o kvs).stop i H/\D.nx σ H)\/((Iti d o kvs).go i H/\∃N:St->Hp->Prop,(∀σ' H',N σ' H'->∃m',m'<m/\Wq (i+1) m' σ' H')/\∀x H',(Iti d o kvs).yld i H x H'->g x σ H' fun σ2 H2=>tb {D with nx:=N,ct:=N,bk:=D.nx} σ2 H2):=by
 refine⟨fun i m σ H=>m=kvs.length-i/\i<=kvs.length/\Pv i σ H,⟨kvs.length,by simp,AO _,h0⟩, ?_⟩;rintro i m σ H ⟨rfl,hi,p⟩;have q:=hl i σ H hi p;by_cases hlt:i<kvs.length
 .refine .inr ⟨⟨q,hlt⟩,Pv (i+1),fun σ' H' p'=>⟨kvs.length-(i+1),by lia,rfl,hlt,p'⟩, ?_⟩;rintro x H' ⟨rfl,k,v,rfl,e⟩;exact hs i k v σ _ e p
 .obtain rfl:i=kvs.length:=by lia
  exact .inl ⟨⟨q,A9 _⟩,hd σ H p⟩
noncomputable def qq_:List V->Hp->VK->Prop:=fun vs H Q=>∃(a:Addr) (kvs:List (Key×V)),vs=[.ref a]/\Rd H a (.dK kvs)/\∀p,H p=none->Q (.ref p) (upd H p (.dK kvs))
theorem is_:cc_ X (.type "dict") qq_:=by
 intro pins s σ H xs us Q I r ⟨a,kvs,ex,ha,q⟩;subst ex;cases r with
 |cons r1 r2=>
  cases r2;cases r1;exact o8_ I ha fun p s' np I'=>⟨.ref p,_,I',rfl,q p np⟩
end
end L2
namespace L2
open PySem PySem.Spec PyProof.Rows PySem.W
section
variable {prog:Program}{w:World}{K:Type} [DecidableEq K] {knd:KeyKind prog w K}
variable {A:Around}{E:Value->Shared->Prop}{s:Shared}
theorem i1_ {ks:List K}{a:Addr}{n:Nat}{Q:Bool->Shared->Prop} (hk:IsTupleKey knd s.heap ks a) (h:Q true s):wpAny (model prog w) A (eqIsQuiet (n+1) (.ref a)) Q E s:=by
 have hT:=hk.typeIs;obtain⟨o,items,n,ho,_,hd,hi⟩:=hk;unfold eqIsQuiet;refine A0 (CM hT F.slot_tuple_eq.lookup ?_);show wpAny _ _ (isInstance (.ref a) (.type "tuple")>>=_) _ _ s;refine A0 (C0 hT isSubtype_tuple_tuple ?_);simp only [BA,AG,Am];refine A0 (Bj ho hd ?_);refine A0 ?_;show wpAny _ _ (forIn items _ _) _ _ s;rw [<-Ce];refine C1 _ (fun cv_ r s'=>r.1=none/\s'=s/\∀v∈cv_,carriedByValue v=true) _ ?_ ?_ _ _ ⟨rfl,rfl,hi.byValue⟩
 .rintro v cv_ r s' ⟨hr,rfl,hall⟩;rw [eqIsQuiet_byValue _ (hall v AX)];refine A0 (A2 ?_);simp only [BA,AG,Am];exact A2 ⟨rfl,rfl,fun u hu'=>hall u (AS _ hu')⟩
 .rintro⟨r1,r2⟩ s' ⟨hr,rfl,_⟩;simp only at hr;subst hr;exact A2 h
end
end L2
namespace L2
open PySem PySem.Spec PyProof.Rows PySem.W
theorem ng_ {A:Around}{k:Nat} (hr:Room k A):A.units+2<cLine:=by have:=hr.un;lia
section
variable {P:Program}{w:World}{H:Hp}{h:Heap}{a:Addr}
theorem kr_:∀{ks:List Int}{us:List Value},aW_ (ks.map V.int) us->ItemsAre (intKind P w) ks us
 |[],_,r=>by rw [D4] at r;cases r;exact .nil
 |k::ks,_,r=>by
  rw [AI] at r;cases r with
  |cons h t=>
   obtain⟨t',rfl⟩:=h;exact .cons (show Value.isInt k (.int k t')=true by simp [Value.isInt]) (kr_ t)
theorem sX_ {ks:List Int} (ok:HOk P w H h) (e:H a=some (.tup (ks.map V.int))):IsTupleKey (intKind P w) h ks a:=by
 obtain⟨_,its,r,o,h1,h2,n,h3⟩:=(show aG_ P w H h a (.tup (ks.map V.int)) from ok a _ e);exact⟨o,its.toArray,n,h1,h2,h3,by simpa using kr_ r⟩
end
section
variable {X:Cx}{pins:List (Addr×Obj)}{σ:St}{H:Hp}{s:Shared}{a b:Addr}{v:V}{r:Value}{A:Around}{E:Value->Shared->Prop}{kvs:List (List (List Int)×V)}{ks:List (List Int)}
end
section
variable {X:Cx}{o i e f value ek ev:Expr}{pos pos' apos cpos:Pos}{td ty tv tx tk:TE}
end
end L2
namespace L2
open PySem PySem.Spec PyProof.Rows PySem.W
section
variable {prog:Program}{w:World}{A:Around}{E:Value->Shared->Prop}{s:Shared}
end
section
variable {X:Cx}
end
end L2
namespace L2
open PySem PyProof.Rows
noncomputable def nm_:Bool->Keyed->Array Keyed->Nat->Nat->Nat->StateT SortSt Sem (Option Nat):=sortPriv%PySem.Builtin.gallop
noncomputable def lh_:Array Keyed->Array Keyed->StateT SortSt Sem (Array Keyed):=sortPriv%PySem.Builtin.mergeLo
noncomputable def b4_ {γ:Type} (step:γ->Option (Bool×γ)):Nat->γ->Option γ
 |0,g=>some g
 |f+1,g=>(step g).bind fun r=>if r.1=true then some r.2 else b4_ step f r.2
section
variable {M:Model}{A:Around}{E:Value->Shared->Prop}{s:Shared}{σ:Type}
theorem aD_ {β γ:Type}{step:γ->Option (Bool×γ)} (φ:γ->β) (τ:γ->σ) {f:Nat->β->StateT σ Sem (ForInStep β)}{Q:β->σ->Prop}
  (hs:∀x g r,step g=some r->∀R:ForInStep β->σ->Prop,R (if r.1=true then .done (φ r.2) else .yield (φ r.2)) (τ r.2)->wpS M A E s (f x (φ g)) R (τ g))
  {a b:Nat}{g g':γ} (h:b4_ step (b-a) g=some g') (hq:Q (φ g') (τ g')):wpS M A E s (forIn [a:b] (φ g) f) Q (τ g):=by
 rw [Std.Legacy.Range.forIn_eq_forIn_range'];have hsz:([a:b]:Std.Legacy.Range).size=b-a:=by simp [Std.Legacy.Range.size]
 show wpS M A E s (forIn (List.range' a ([a:b]:Std.Legacy.Range).size 1) (φ g) f) Q (τ g);rw [hsz];have go:∀(k:Nat) (l:List Nat) (g:γ),l.length=k->b4_ step k g=some g'->wpS M A E s (forIn l (φ g) f) Q (τ g):=by
  intro k;induction k with
  |zero=>
   intro l g hl h;cases l with
   |nil=>rw [List.forIn_nil];cases h;exact Aa hq
   |cons _ _=>simp at hl
  |succ k ih=>
   intro l g hl h;cases l with
   |nil=>simp at hl
   |cons x l=>
    rw [CZ];unfold b4_ at h;obtain⟨r,hr,h⟩:=AB.mp h;refine AQ (hs x g r hr _ ?_);by_cases hd:r.1=true
    .rw [A6 hd] at h⊢;cases h;exact Aa hq
    .rw [A3 hd] at h⊢;exact ih l r.2 (by simpa using hl) h
 exact go _ _ g (by simp) h
end
section
variable {prog:Program}{w:World}{A:Around}{E:Value->Shared->Prop}{s:Shared}{item:Nat->Keyed}{c:Nat->Nat->Option Bool}{kd:SortKind}
noncomputable def cZ_ (kd:SortKind) (prog:Program) (w:World) (A:Around) (s:Shared) (item:Nat->Keyed) (c:Nat->Nat->Option Bool):Prop:=
 ∀i j b,c i j=some b->∀Q:Bool->Shared->Prop,Q b s->wpAny (model prog w) A (keyLt' kd (item i).1 (item j).1) Q (fun _ _=>False) s
theorem eO_ (hc:cZ_ kd prog w A s item c) {st:SortSt} (hk:kindOf st=kd) {i j:Nat}{b:Bool} (h:c i j=some b) {Q:Option Bool->SortSt->Prop} (hq:Q (some b) st):wpS (model prog w) A E s (lt' (item i) (item j)) Q st:=by
 rw [lt'_eq];refine AQ (wpS_get ?_);rw [hk];refine AQ (wpS_lift (Bz (BP (hc i j b h _ ⟨rfl,Aa hq⟩) (fun _ _ h=>h) fun _ _ hF=>hF.elim)))
theorem br_ {st:SortSt}{arr:Array Nat}{i x:Nat} (h:arr[i]? =some x) {Q:Keyed->SortSt->Prop} (hq:Q (item x) st):wpS (model prog w) A E s (elem' (arr.map item) i) Q st:=by
 rw [elem'_eq,Array.getElem?_map,h];exact Aa hq
noncomputable def dQ_ (c:Nat->Nat->Option Bool) (left:Bool) (key:Nat) (arr:Array Nat) (i:Nat):Option Bool:=arr[i]?.bind fun x=>if left=true then c x key else(c key x).map (!·)
noncomputable def re_ (b:Nat->Option Bool) (m:Nat) (g:Nat×Nat):Option (Bool×Nat×Nat):=if g.2>=m then some (true,g) else(b g.2).map fun y=>if y=true then(false,g.2,2*g.2+1) else(true,g)
noncomputable def rf_ (b:Nat->Option Bool) (m:Nat) (g:Nat×Nat):Option (Bool×Nat×Nat):=if g.2>=m then some (true,g) else(b g.2).map fun y=>if y=true then(true,g) else(false,g.2,2*g.2+1)
noncomputable def ib_ (b:Nat->Option Bool) (g:Nat×Nat):Option (Bool×Nat×Nat):=
 if g.1>=g.2 then some (true,g) else(b (g.1+(g.2-g.1)/2)).map fun y=>if y=true then(false,g.1+(g.2-g.1)/2+1,g.2) else(false,g.1,g.1+(g.2-g.1)/2)
noncomputable def rd_ (c:Nat->Nat->Option Bool) (left:Bool) (key:Nat) (arr:Array Nat) (base n hint:Nat):Option Nat:=
 (dQ_ c left key arr (base+hint)).bind fun right=>
  (if right=true then(b4_ (re_ (fun o=>dQ_ c left key arr (base+(hint+o))) (n-hint)) n (0,1)).map fun g=>(hint+g.1+1,hint+min g.2 (n-hint))
   else(b4_ (rf_ (fun o=>dQ_ c left key arr (base+(hint-o))) (hint+1)) n (0,1)).map fun g=>(hint+1-min g.2 (hint+1),hint-g.1)).bind fun lh=>
   (b4_ (ib_ fun i=>dQ_ c left key arr (base+i)) n lh).map (·.2)
theorem cd_ (hc:cZ_ kd prog w A s item c) {st:SortSt} (hk:kindOf st=kd) {left:Bool}{key:Nat}{arr:Array Nat}{i:Nat}{b:Bool} (h:dQ_ c left key arr i=some b) {Q:Option Bool->SortSt->Prop} (hq:Q (some b) st):
  wpS (model prog w) A E s (do
   let x<-elem' (arr.map item) i
   if left=true then lt' x (item key) else do
    let y<-lt' (item key) x
    pure (y.map (!·))) Q st:=by
 obtain⟨x,hx,h⟩:=AB.mp h;refine AQ (br_ hx ?_);by_cases hl:left=true
 .rw [A6 hl] at h⊢;exact eO_ hc hk h hq
 .rw [A3 hl] at h⊢;obtain⟨y,hy,rfl⟩:=A5.mp h;exact AQ (eO_ hc hk hy (Aa hq))
theorem fM_ (hc:cZ_ kd prog w A s item c) {st:SortSt} (hk:kindOf st=kd) {left:Bool}{key:Nat}{arr:Array Nat}{base n hint k:Nat} (h:rd_ c left key arr base n hint=some k) {Q:Option Nat->SortSt->Prop} (hq:Q (some k) st):
  wpS (model prog w) A E s (nm_ left (item key) (arr.map item) base n hint) Q st:=by
 (unfold wpS;wp_delta;wp_delta;wp_delta;refine(show wpS _ _ _ _ _ _ _ from ?_))
 dsimp only;obtain⟨right,hr,h⟩:=AB.mp h;obtain⟨lh,h1,h2⟩:=AB.mp h;obtain⟨lh2,h3,rfl⟩:=A5.mp h2;refine AQ (cd_ hc hk hr ?_);dsimp only;by_cases e:right=true
 .rw [A6 e] at h1⊢;obtain⟨g0,h0,rfl⟩:=A5.mp h1;refine AQ (aD_ (γ:=Nat×Nat) (step:=re_ (fun o=>dQ_ c left key arr (base+(hint+o))) (n-hint)) (fun g=>(none,g.1,g.2)) (fun _=>st) (fun x g r hs R hR=> ?_) (a:=0) (b:=n) (g:=(0,1)) (g':=g0) h0 ?_)
  .unfold re_ at hs;dsimp only;by_cases e:g.2>=n-hint
   .rw [A6 e] at hs⊢;cases hs;exact Aa hR
   .rw [A3 e] at hs⊢;obtain⟨y,hy,rfl⟩:=A5.mp hs;refine AQ (cd_ hc hk hy ?_);cases y<;>exact Aa hR
  .dsimp only;refine AQ (aD_ (γ:=Nat×Nat) (step:=ib_ fun i=>dQ_ c left key arr (base+i)) (fun g=>(none,g.1,g.2)) (fun _=>st) (fun x g r hs R hR=> ?_) (a:=0) (b:=n) (g:=(hint+g0.1+1,hint+min g0.2 (n-hint))) (g':=lh2) h3 (Aa hq));unfold ib_ at hs;dsimp only;by_cases e:g.1>=g.2
   .rw [A6 e] at hs⊢;cases hs;exact Aa hR
   .rw [A3 e] at hs⊢;obtain⟨y,hy,rfl⟩:=A5.mp hs;refine AQ (cd_ hc hk hy ?_);cases y<;>exact Aa hR
 .rw [A3 e] at h1⊢;obtain⟨g0,h0,rfl⟩:=A5.mp h1;refine AQ (aD_ (γ:=Nat×Nat) (step:=rf_ (fun o=>dQ_ c left key arr (base+(hint-o))) (hint+1)) (fun g=>(none,g.1,g.2)) (fun _=>st) (fun x g r hs R hR=> ?_) (a:=0) (b:=n) (g:=(0,1)) (g':=g0) h0 ?_)
  .unfold rf_ at hs;dsimp only;by_cases e:g.2>=hint+1
   .rw [A6 e] at hs⊢;cases hs;exact Aa hR
   .rw [A3 e] at hs⊢;obtain⟨y,hy,rfl⟩:=A5.mp hs;refine AQ (cd_ hc hk hy ?_);cases y<;>exact Aa hR
  .dsimp only;refine AQ (aD_ (γ:=Nat×Nat) (step:=ib_ fun i=>dQ_ c left key arr (base+i)) (fun g=>(none,g.1,g.2)) (fun _=>st) (fun x g r hs R hR=> ?_) (a:=0) (b:=n) (g:=(hint+1-min g0.2 (hint+1),hint-g0.1)) (g':=lh2) h3 (Aa hq));unfold ib_ at hs;dsimp only;by_cases e:g.1>=g.2
   .rw [A6 e] at hs⊢;cases hs;exact Aa hR
   .rw [A3 e] at hs⊢;obtain⟨y,hy,rfl⟩:=A5.mp hs;refine AQ (cd_ hc hk hy ?_);cases y<;>exact Aa hR
noncomputable def gR_ (a b out:Array Nat) (ia ib:Nat):Array Nat:=out++a.extract ia a.size++b.extract ib b.size
noncomputable def gQ_ (a b out:Array Nat) (ia ib:Nat):Array Nat:=out++b.extract ib b.size++a.extract ia a.size
noncomputable def qW_ (c:Nat->Nat->Option Bool) (a b:Array Nat) (sg:Nat):Option (Array Nat×Nat):=
 b[0]?.bind fun y=>
  if(1==b.size)=true then some (gR_ a b #[y] 0 1,sg)
  else if(0+1==a.size)=true then some (gQ_ a b #[y] 0 1,sg)
  else none
noncomputable abbrev t5_ (st:SortSt) (g:Nat):SortSt:=SortSt.mk' (kindOf st) (arrOf st) (pendingOf st) g (failedOf st)
theorem hS_ (a b out:Array Nat) (ia ib:Nat):(gR_ a b out ia ib).map item=out.map item++(a.map item).extract ia (a.map item).size++(b.map item).extract ib (b.map item).size:=by
 unfold gR_;simp
theorem hR_ (a b out:Array Nat) (ia ib:Nat):(gQ_ a b out ia ib).map item=out.map item++(b.map item).extract ib (b.map item).size++(a.map item).extract ia (a.map item).size:=by
 unfold gQ_;simp
theorem cL_ {M:Model}{σ α:Type}{c:Prop} [Decidable c] {x y:StateT σ Sem α}{Q:α->σ->Prop}{st:σ} (hc:c) (h:wpS M A E s x Q st):wpS M A E s (if c then x else y) Q st:=by
 rw [A6 hc];exact h
theorem eK_ {M:Model}{σ α:Type}{c:Prop} [Decidable c] {x y:StateT σ Sem α}{Q:α->σ->Prop}{st:σ} (hc:¬c) (h:wpS M A E s y Q st):wpS M A E s (if c then x else y) Q st:=by
 rw [A3 hc];exact h
set_option maxHeartbeats 4000000 in
theorem kZ_ (hc:cZ_ kd prog w A s item c) {st:SortSt} (hk:kindOf st=kd) {a b out:Array Nat}{g:Nat} (h:qW_ c a b (gallopOf st)=some (out,g)) {Q:Array Keyed->SortSt->Prop} (hq:Q (out.map item) (t5_ st g)):
  wpS (model prog w) A E s (lh_ (a.map item) (b.map item)) Q st:=by
 obtain⟨κ,ar,pd,g0,fl⟩:=st
 (unfold wpS;wp_delta;wp_delta;wp_delta;refine(show wpS _ _ _ _ _ _ _ from ?_))
 refine AQ (wpS_lift (CF ⟨rfl, ?_⟩));unfold qW_ at h;obtain⟨y,hy,h⟩:=AB.mp h;refine AQ (br_ hy ?_);by_cases e1:(1==b.size)=true
 .rw [A6 e1] at h;cases h;refine cL_ (by simpa using e1) (Aa ?_);rw [hS_] at hq;simpa using hq
 rw [A3 e1] at h;by_cases e2:(0+1==a.size)=true
 .rw [A6 e2] at h;cases h;refine eK_ (by simpa using e1) (cL_ (by simpa using e2) (Aa ?_));rw [hR_] at hq;simpa using hq
 rw [A3 e2] at h;cases h
end
end L2
namespace L2
open PySem PyProof.Rows
section
variable {prog:Program}{w:World}{A:Around}{E:Value->Shared->Prop}{s:Shared}{item:Nat->Keyed}{c:Nat->Nat->Option Bool}{kd:SortKind}
noncomputable def uP_ (c:Nat->Nat->Option Bool) (a b:Array Nat) (sg:Nat):Option (Array Nat×Nat):=none
end
end L2
namespace L2
open PySem PyProof.Rows
noncomputable def fk_ {γ:Type} (step:Nat->γ->Option (Bool×γ)):Nat->Nat->γ->Option γ
 |0,_,g=>some g
 |f+1,i,g=>(step i g).bind fun r=>if r.1=true then some r.2 else fk_ step f (i+1) r.2
section
variable {M:Model}{A:Around}{E:Value->Shared->Prop}{s:Shared}{σ:Type}
theorem iI_ {β γ:Type}{step:Nat->γ->Option (Bool×γ)} (φ:γ->β) (τ:γ->σ) {f:Nat->β->StateT σ Sem (ForInStep β)}{Q:β->σ->Prop}
  (hs:∀x g r,step x g=some r->∀R:ForInStep β->σ->Prop,R (if r.1=true then .done (φ r.2) else .yield (φ r.2)) (τ r.2)->wpS M A E s (f x (φ g)) R (τ g))
  {a b:Nat}{g g':γ} (h:fk_ step (b-a) a g=some g') (hq:Q (φ g') (τ g')):wpS M A E s (forIn [a:b] (φ g) f) Q (τ g):=by
 rw [Std.Legacy.Range.forIn_eq_forIn_range'];have hsz:([a:b]:Std.Legacy.Range).size=b-a:=by simp [Std.Legacy.Range.size]
 show wpS M A E s (forIn (List.range' a ([a:b]:Std.Legacy.Range).size 1) (φ g) f) Q (τ g);rw [hsz];have go:∀(k i:Nat) (g:γ),fk_ step k i g=some g'->wpS M A E s (forIn (List.range' i k 1) (φ g) f) Q (τ g):=by
  intro k;induction k with
  |zero=>
   intro i g h;cases h;rw [List.range'_zero,List.forIn_nil];exact Aa hq
  |succ k ih=>
   intro i g h;rw [List.range'_succ,CZ];unfold fk_ at h;obtain⟨r,hr,h⟩:=AB.mp h;refine AQ (hs i g r hr _ ?_);by_cases hd:r.1=true
   .rw [A6 hd] at h⊢;cases h;exact Aa hq
   .rw [A3 hd] at h⊢;exact ih (i+1) r.2 h
 exact go _ a g h
end
section
variable {prog:Program}{w:World}{A:Around}{E:Value->Shared->Prop}{s:Shared}{item:Nat->Keyed}{c:Nat->Nat->Option Bool}{kd:SortKind}{pd:Array (Nat×Nat×Nat)}{g:Nat}
noncomputable abbrev bi_ (kd:SortKind) (item:Nat->Keyed) (p:Array Nat) (pd:Array (Nat×Nat×Nat)) (g:Nat):SortSt:=SortSt.mk' kd (p.map item) pd g none
noncomputable def lx_ (c:Nat->Nat->Option Bool) (p:Array Nat) (i j:Nat):Option Bool:=p[i]?.bind fun x=>p[j]?.bind fun y=>c x y
theorem a3_ (hc:cZ_ kd prog w A s item c) {p:Array Nat}{i j:Nat}{b:Bool} (h:lx_ c p i j=some b) {Q:Option Bool->SortSt->Prop} (hq:Q (some b) (bi_ kd item p pd g)):wpS (model prog w) A E s (ltAt' i j) Q (bi_ kd item p pd g):=by
 obtain⟨x,hx,h⟩:=AB.mp h;obtain⟨y,hy,h⟩:=AB.mp h;rw [ltAt'_eq];refine AQ (wpS_get ?_);dsimp only;exact AQ (br_ hx (AQ (br_ hy (eO_ hc rfl h hq))))
noncomputable def i0_ (p:Array Nat) (i j:Nat):Array Nat:=mirror p i j ((j-i)/2)
theorem a6_ {p:Array Nat}{i j:Nat}{Q:Unit->SortSt->Prop} (h:Q () (bi_ kd item (i0_ p i j) pd g)):wpS (model prog w) A E s (reverseSlice' i j) Q (bi_ kd item p pd g):=by
 rw [reverseSlice'_eq];refine D1 ?_;have e1:mirror (p.map item) i j ((j-i)/2)=(i0_ p i j).map item:=W.kas_swaps_map item (fun k=>i+k) (fun k=>j-1-k) _ p;show Q () (SortSt.mk' kd (mirror (p.map item) i j ((j-i)/2)) pd g none);rw [e1];exact h
theorem iN_ {p:Array Nat}{k l:Nat}{Q:Unit->SortSt->Prop} (h:Q () (bi_ kd item (bubble p k (k-l)) pd g)):wpS (model prog w) A E s (moveDown' k l) Q (bi_ kd item p pd g):=by
 rw [moveDown'_eq];refine D1 ?_;have e1:bubble (p.map item) k (k-l)=(bubble p k (k-l)).map item:=W.kas_swaps_map item (fun i=>k-i) (fun i=>k-i-1) _ p;show Q () (SortSt.mk' kd (bubble (p.map item) k (k-l)) pd g none);rw [e1];exact h
noncomputable def fv_ (c:Nat->Nat->Option Bool) (p:Array Nat) (l:Nat) (m:Nat):Option (Bool×Nat):=(lx_ c p (l+m) (l+m-1)).map fun q=>if q=true then(true,m) else(false,m+1)
noncomputable def fu_ (c:Nat->Nat->Option Bool) (l:Nat) (t:Array Nat×Nat×Nat):Option (Bool×Array Nat×Nat×Nat):=
 (lx_ c t.1 (l+t.2.1) (l+t.2.1-1)).bind fun q=>
  if q=true then if t.2.2>0 then some (false,i0_ t.1 (l+t.2.1-(t.2.2+1)) (l+t.2.1),t.2.1+1,0) else some (false,t.1,t.2.1+1,0)
  else(lx_ c t.1 (l+t.2.1-1) (l+t.2.1)).bind fun r=>if r=true then some (true,t.1,t.2.1,t.2.2) else some (false,t.1,t.2.1+1,t.2.2+1)
noncomputable def hd_ (c:Nat->Nat->Option Bool) (l n:Nat) (p:Array Nat) (m:Nat):Option (Nat×Array Nat):=(b4_ (fv_ c (i0_ p l (l+m)) l) (n-m) m).map fun k=>(k,i0_ p l (l+m))
noncomputable def he_ (c:Nat->Nat->Option Bool) (l n:Nat) (p:Array Nat) (m:Nat):Option (Nat×Array Nat):=
 (b4_ (fu_ c l) (n-(m+1)) (p,m+1,0)).bind fun t=>if t.2.2>0 then hd_ c l n (i0_ t.1 (l+t.2.1-(t.2.2+1)) (l+t.2.1)) t.2.1 else hd_ c l n t.1 t.2.1
noncomputable def nH_ (c:Nat->Nat->Option Bool) (l n:Nat) (p:Array Nat):Option (Nat×Array Nat):=
 (b4_ (fv_ c p l) (n-1) 1).bind fun m=>if(m==n)=true then some (m,p) else if m>1 then(lx_ c p l (l+m-1)).bind fun q=>if q=true then some (m,p) else he_ c l n (i0_ p l (l+m)) m else he_ c l n p m
set_option maxHeartbeats 2000000 in
theorem kY_ (hc:cZ_ kd prog w A s item c) {l n k:Nat}{p p':Array Nat} (h:nH_ c l n p=some (k,p')) {Q:Option Nat->SortSt->Prop} (hq:Q (some k) (bi_ kd item p' pd g)):wpS (model prog w) A E s (countRun' l n) Q (bi_ kd item p pd g):=by
 (unfold wpS;wp_delta;wp_delta;wp_delta;refine(show wpS _ _ _ _ _ _ _ from ?_))
 dsimp only;unfold nH_ at h;obtain⟨m,h0,h⟩:=AB.mp h;have hz:=h0
 (
  refine AQ (aD_ (γ:=Nat) (step:=fv_ c _ l) (fun m=>(none,m)) (fun _=>bi_ kd item _ pd g) (fun x m r hs R hR=> ?_) hz ?_)
  .obtain⟨q,hq1,rfl⟩:=A5.mp hs;refine AQ (a3_ hc hq1 ?_);cases q<;>exact Aa hR)
 dsimp only;by_cases e1:(m==n)=true
 .rw [A6 e1] at h⊢;cases h;exact Aa hq
 rw [A3 e1] at h⊢;by_cases e2:m>1
 .rw [A6 e2] at h⊢;obtain⟨q,hq1,h⟩:=AB.mp h;refine AQ (a3_ hc hq1 ?_);dsimp only;by_cases e3:q=true
  .rw [A6 e3] at h⊢;cases h;exact Aa hq
  rw [A3 e3] at h⊢;refine AQ (a6_ ?_);unfold he_ hd_ at h
  (
   refine AQ (wpS_lift (CF ⟨rfl, ?_⟩));obtain⟨t,h1,h2⟩:=AB.mp h;refine AQ (aD_ (γ:=Array Nat×Nat×Nat) (step:=fu_ c l) (fun t=>(none,t.2.1,t.2.2)) (fun t=>bi_ kd item t.1 pd g) (fun x t r hs R hR=> ?_) h1 ?_)
   .unfold fu_ at hs;obtain⟨q,hq1,hs⟩:=AB.mp hs;refine AQ (a3_ hc hq1 ?_);cases q with
    |true=>
     dsimp only;rw [A6 rfl] at hs⊢;split at hs
     .rename_i z;rw [A6 z];cases hs;exact AQ (a6_ (Aa hR))
     .rename_i z;rw [A3 z];cases hs;exact Aa hR
    |false=>
     dsimp only;rw [A3 (by simp)] at hs⊢;obtain⟨r,hr1,hs⟩:=AB.mp hs;refine AQ (a3_ hc hr1 ?_);cases r<;>(cases hs;exact Aa hR)
   .dsimp only;split at h2
    .rename_i z;rw [A6 z];refine AQ (a6_ ?_);refine AQ (a6_ ?_);obtain⟨k2,h3,h4⟩:=A5.mp h2;cases h4;have hz:=h3
     (
      refine AQ (aD_ (γ:=Nat) (step:=fv_ c _ l) (fun m=>(none,m)) (fun _=>bi_ kd item _ pd g) (fun x m r hs R hR=> ?_) hz ?_)
      .obtain⟨q,hq1,rfl⟩:=A5.mp hs;refine AQ (a3_ hc hq1 ?_);cases q<;>exact Aa hR)
     exact Aa hq
    .rename_i z;rw [A3 z];refine AQ (a6_ ?_);obtain⟨k2,h3,h4⟩:=A5.mp h2;cases h4;have hz:=h3
     (
      refine AQ (aD_ (γ:=Nat) (step:=fv_ c _ l) (fun m=>(none,m)) (fun _=>bi_ kd item _ pd g) (fun x m r hs R hR=> ?_) hz ?_)
      .obtain⟨q,hq1,rfl⟩:=A5.mp hs;refine AQ (a3_ hc hq1 ?_);cases q<;>exact Aa hR)
     exact Aa hq)
 .rw [A3 e2] at h⊢;unfold he_ hd_ at h
  (
   refine AQ (wpS_lift (CF ⟨rfl, ?_⟩));obtain⟨t,h1,h2⟩:=AB.mp h;refine AQ (aD_ (γ:=Array Nat×Nat×Nat) (step:=fu_ c l) (fun t=>(none,t.2.1,t.2.2)) (fun t=>bi_ kd item t.1 pd g) (fun x t r hs R hR=> ?_) h1 ?_)
   .unfold fu_ at hs;obtain⟨q,hq1,hs⟩:=AB.mp hs;refine AQ (a3_ hc hq1 ?_);cases q with
    |true=>
     dsimp only;rw [A6 rfl] at hs⊢;split at hs
     .rename_i z;rw [A6 z];cases hs;exact AQ (a6_ (Aa hR))
     .rename_i z;rw [A3 z];cases hs;exact Aa hR
    |false=>
     dsimp only;rw [A3 (by simp)] at hs⊢;obtain⟨r,hr1,hs⟩:=AB.mp hs;refine AQ (a3_ hc hr1 ?_);cases r<;>(cases hs;exact Aa hR)
   .dsimp only;split at h2
    .rename_i z;rw [A6 z];refine AQ (a6_ ?_);refine AQ (a6_ ?_);obtain⟨k2,h3,h4⟩:=A5.mp h2;cases h4;have hz:=h3
     (
      refine AQ (aD_ (γ:=Nat) (step:=fv_ c _ l) (fun m=>(none,m)) (fun _=>bi_ kd item _ pd g) (fun x m r hs R hR=> ?_) hz ?_)
      .obtain⟨q,hq1,rfl⟩:=A5.mp hs;refine AQ (a3_ hc hq1 ?_);cases q<;>exact Aa hR)
     exact Aa hq
    .rename_i z;rw [A3 z];refine AQ (a6_ ?_);obtain⟨k2,h3,h4⟩:=A5.mp h2;cases h4;have hz:=h3
     (
      refine AQ (aD_ (γ:=Nat) (step:=fv_ c _ l) (fun m=>(none,m)) (fun _=>bi_ kd item _ pd g) (fun x m r hs R hR=> ?_) hz ?_)
      .obtain⟨q,hq1,rfl⟩:=A5.mp hs;refine AQ (a3_ hc hq1 ?_);cases q<;>exact Aa hR)
     exact Aa hq)
noncomputable def rq_ (c:Nat->Nat->Option Bool) (p:Array Nat) (l k:Nat) (t:Nat×Nat):Option (Bool×Nat×Nat):=
 if t.1>=t.2 then some (true,t.1,t.2) else(lx_ c p (l+k) (l+(t.1+t.2)/2)).bind fun q=>if q=true then some (false,t.1,(t.1+t.2)/2) else some (false,(t.1+t.2)/2+1,t.2)
noncomputable def pW_ (c:Nat->Nat->Option Bool) (l k:Nat) (p:Array Nat):Option (Bool×Array Nat):=(b4_ (rq_ c p l k) k (0,k)).map fun t=>(false,bubble p (l+k) (l+k-(l+t.1)))
noncomputable def nJ_ (c:Nat->Nat->Option Bool) (l n ok:Nat) (p:Array Nat):Option (Array Nat):=fk_ (pW_ c l) (n-max ok 1) (max ok 1) p
theorem k0_ (hc:cZ_ kd prog w A s item c) {l n ok:Nat}{p p':Array Nat} (h:nJ_ c l n ok p=some p') {Q:Bool->SortSt->Prop} (hq:Q true (bi_ kd item p' pd g)):wpS (model prog w) A E s (binarySort' l n ok) Q (bi_ kd item p pd g):=by
 (unfold wpS;wp_delta;wp_delta;wp_delta;refine(show wpS _ _ _ _ _ _ _ from ?_))
 dsimp only;refine AQ (iI_ (γ:=Array Nat) (step:=pW_ c l) (fun _=>(none,())) (fun p=>bi_ kd item p pd g) (fun k p r hs R hR=> ?_) h (Aa hq));obtain⟨t,ht,rfl⟩:=A5.mp hs;refine AQ (aD_ (γ:=Nat×Nat) (step:=rq_ c p l k) (fun t=>(none,t.1,t.2)) (fun _=>bi_ kd item p pd g) (fun x t r hs R hR=> ?_) (a:=0) (b:=k) ht ?_)
 .unfold rq_ at hs;dsimp only;by_cases e:t.1>=t.2
  .rw [A6 e] at hs⊢;cases hs;exact Aa hR
  .rw [A3 e] at hs⊢;obtain⟨q,hq1,hs⟩:=AB.mp hs;refine AQ (a3_ hc hq1 ?_);cases q<;>(cases hs;exact Aa hR)
 .exact AQ (iN_ (Aa hR))
end
end L2
namespace L2
open PySem PyProof.Rows
section
variable {prog:Program}{w:World}{A:Around}{E:Value->Shared->Prop}{s:Shared}{item:Nat->Keyed}{c:Nat->Nat->Option Bool}{kd:SortKind}
noncomputable abbrev vW_:=Array (Nat×Nat×Nat)
noncomputable def q3_ (p:Array Nat) (o:Nat) (xs:Array Nat):Array Nat:=xs.toList.zipIdx.foldl (fun a x=>a.setIfInBounds (o+x.2) x.1) p
theorem m2_ (p:Array Nat) (o:Nat) (xs:Array Nat):(xs.map item).toList.zipIdx.foldl (fun a x=>a.setIfInBounds (o+x.2) x.1) (p.map item)=(q3_ p o xs).map item:=by
 have go:∀(l:List Nat) (k:Nat) (p:Array Nat),((l.map item).zipIdx k).foldl (fun a x=>a.setIfInBounds (o+x.2) x.1) (p.map item)=((l.zipIdx k).foldl (fun a x=>a.setIfInBounds (o+x.2) x.1) p).map item:=by
  intro l;induction l with
  |nil=>intro k p;rfl
  |cons x l ih=>
   intro k p;rw [AI,List.zipIdx_cons,List.zipIdx_cons,CI,CI];rw [show(p.map item).setIfInBounds (o+k) (item x)=(p.setIfInBounds (o+k) x).map item from(Array.map_setIfInBounds ..).symm];exact ih _ _
 rw [Array.toList_map];exact go _ 0 p
noncomputable abbrev jz_:=Array Nat×vW_×Nat
noncomputable def oK_ (c:Nat->Nat->Option Bool) (i:Nat) (t:jz_):Option jz_:=
 t.2.1[i]?.bind fun u=>t.2.1[i+1]?.bind fun v=>t.1[v.1]?.bind fun y=>(rd_ c false y t.1 u.1 u.2.1 0).bind fun k=>
  if(u.2.1-k==0)=true then some (t.1,(t.2.1.setIfInBounds i (u.1,u.2.1+v.2.1,u.2.2)).eraseIdxIfInBounds (i+1),t.2.2)
  else t.1[u.1+k+(u.2.1-k)-1]?.bind fun x=>(rd_ c true x t.1 v.1 v.2.1 (v.2.1-1)).bind fun nb=>
   if(nb==0)=true then some (t.1,(t.2.1.setIfInBounds i (u.1,u.2.1+v.2.1,u.2.2)).eraseIdxIfInBounds (i+1),t.2.2)
   else if u.2.1-k<=nb then(qW_ c (t.1.extract (u.1+k) v.1) (t.1.extract v.1 (v.1+nb)) t.2.2).bind fun r=>some (q3_ t.1 (u.1+k) r.1,(t.2.1.setIfInBounds i (u.1,u.2.1+v.2.1,u.2.2)).eraseIdxIfInBounds (i+1),r.2)
   else(uP_ c (t.1.extract (u.1+k) v.1) (t.1.extract v.1 (v.1+nb)) t.2.2).bind fun r=>some (q3_ t.1 (u.1+k) r.1,(t.2.1.setIfInBounds i (u.1,u.2.1+v.2.1,u.2.2)).eraseIdxIfInBounds (i+1),r.2)
theorem lH_ {M:Model}{σ:Type}{x:σ}{Q:PUnit->σ->Prop}{st:σ} (h:Q ⟨⟩ x):wpS M A E s (set x:StateT σ Sem PUnit) Q st:=by
 unfold wpS;show wpAny M A (pure ((),x)) _ E s;exact A2 ⟨rfl,h⟩
set_option maxHeartbeats 2000000 in
theorem dU_ (hc:cZ_ kd prog w A s item c) {i:Nat}{t t':jz_} (h:oK_ c i t=some t') {Q:Bool->SortSt->Prop} (hq:Q true (bi_ kd item t'.1 t'.2.1 t'.2.2)):wpS (model prog w) A E s (mergeAt' i) Q (bi_ kd item t.1 t.2.1 t.2.2):=by
 (unfold wpS;wp_delta;wp_delta;wp_delta;refine(show wpS _ _ _ _ _ _ _ from ?_))
 dsimp only;refine AQ (wpS_get ?_);unfold oK_ at h;obtain⟨⟨sa,na,pw⟩,hu,h⟩:=AB.mp h;obtain⟨⟨sb,nb,pw2⟩,hv,h⟩:=AB.mp h;obtain⟨y,hy,h⟩:=AB.mp h;obtain⟨k,hk,h⟩:=AB.mp h;dsimp only at*
 rw [hu,hv];dsimp only;refine AQ (lH_ ?_);refine AQ (br_ hy ?_);refine AQ (fM_ hc rfl hk ?_);dsimp only;by_cases e1:(na-k==0)=true
 .rw [A6 e1] at h;cases h;exact cL_ e1 (Aa hq)
 rw [A3 e1] at h;refine eK_ e1 ?_;obtain⟨x,hx,h⟩:=AB.mp h;obtain⟨nb2,hk2,h⟩:=AB.mp h;refine AQ (br_ hx ?_);refine AQ (fM_ hc rfl hk2 ?_);by_cases e2:(nb2==0)=true
 .rw [A6 e2] at h;cases h;exact cL_ e2 (Aa hq)
 rw [A3 e2] at h;refine eK_ e2 ?_;have x1:(t.1.map item).extract (sa+k) sb=(t.1.extract (sa+k) sb).map item:=by simp
 have x2:(t.1.map item).extract sb (sb+nb2)=(t.1.extract sb (sb+nb2)).map item:=by simp
 by_cases e3:na-k<=nb2
 .rw [A6 e3] at h;obtain⟨r,hr,h⟩:=AB.mp h;cases h;refine cL_ e3 (AQ (by
   rw [x1,x2];refine kZ_ hc rfl hr ?_;refine AQ (D1 ?_);refine AQ (wpS_get (Aa ?_));dsimp only;rw [m2_];exact hq))
 .rw [A3 e3] at h;obtain⟨r,hr,h⟩:=AB.mp h;cases hr
end
end L2
namespace L2
open PySem PyProof.Rows
section
variable {prog:Program}{w:World}{A:Around}{E:Value->Shared->Prop}{s:Shared}{item:Nat->Keyed}{c:Nat->Nat->Option Bool}{kd:SortKind}
noncomputable def hz_ (c:Nat->Nat->Option Bool) (pw:Nat) (t:jz_):Option (Bool×jz_):=
 match(if t.2.1.size>1 then t.2.1[t.2.1.size-2]? else none) with
 |some u=>if u.2.2<=pw then some (true,t) else(oK_ c (t.2.1.size-2) t).bind fun t'=>some (false,t')
 |none=>some (true,t)
noncomputable def gm_ (c:Nat->Nat->Option Bool) (size lo n:Nat) (t:jz_):Option (Bool×Nat×jz_):=
 match t.2.1.back? with
 |some u=>(b4_ (hz_ c (power' size (2*u.1+u.2.1) (2*u.1+u.2.1+u.2.1+n) size)) size t).bind fun t'=>
  some (false,lo+n,t'.1,(t'.2.1.modify (t'.2.1.size-1) fun x=>(x.1,x.2.1,power' size (2*u.1+u.2.1) (2*u.1+u.2.1+u.2.1+n) size)).push (lo,n,0),t'.2.2)
 |none=>some (false,lo+n,t.1,t.2.1.push (lo,n,0),t.2.2)
noncomputable def mc_ (c:Nat->Nat->Option Bool) (size:Nat) (g:Nat×jz_):Option (Bool×Nat×jz_):=
 if g.1>=size then some (true,g) else(nH_ c g.1 (size-g.1) g.2.1).bind fun r=>
  if r.1<minRun' size size 0 then(nJ_ c g.1 (min (size-g.1) (minRun' size size 0)) r.1 r.2).bind fun p2=>gm_ c size g.1 (min (size-g.1) (minRun' size size 0)) (p2,g.2.2)
  else gm_ c size g.1 r.1 (r.2,g.2.2)
noncomputable def md_ (c:Nat->Nat->Option Bool) (t:jz_):Option (Bool×jz_):=
 if t.2.1.size<=1 then some (true,t)
 else(oK_ c (if Option.any (fun x=>decide (x<t.2.1[t.2.1.size-2+1]?.elim 0 fun x=>x.2.1)) (if t.2.1.size-2>0 then Option.map (fun x=>x.2.1) t.2.1[t.2.1.size-2-1]? else none)=true then t.2.1.size-2-1 else t.2.1.size-2) t).bind fun t'=>some (false,t')
noncomputable def eZ_ (c:Nat->Nat->Option Bool) (n:Nat):Option (Array Nat):=
 (b4_ (mc_ c n) n (0,List.toArray (List.range n), #[],7)).bind fun g=>(b4_ (md_ c) n g.2).map (·.1)
set_option maxHeartbeats 2000000 in
theorem iM_ (hc:cZ_ kd prog w A s item c) {n:Nat}{p:Array Nat} (h:eZ_ c n=some p) {Q:Unit->SortSt->Prop} (hq:∀pd g,Q () (bi_ kd item p pd g)):wpS (model prog w) A E s sortRuns' Q (bi_ kd item (List.toArray (List.range n)) #[] 7):=by
 rw [sortRuns'_eq];try dsimp only
 refine AQ (wpS_get ?_);have hz:(arrOf (bi_ kd item (List.toArray (List.range n)) #[] 7)).size=n:=by
  show((List.toArray (List.range n)).map item).size=n;simp
 rw [hz];unfold eZ_ at h;obtain⟨g,h1,h⟩:=AB.mp h;obtain⟨t,h2,rfl⟩:=A5.mp h;refine AQ (aD_ (γ:=Nat×jz_) (step:=mc_ c n) (fun g=>(none,g.1)) (fun g=>bi_ kd item g.2.1 g.2.2.1 g.2.2.2) (fun x g r hs R hR=> ?_) (a:=0) (b:=n) (g:=(0,List.toArray (List.range n), #[],7)) h1 ?_)
 .unfold mc_ at hs;try dsimp only
  by_cases e1:g.1>=n
  .rw [A6 e1] at hs⊢;cases hs;exact Aa hR
  rw [A3 e1] at hs⊢;obtain⟨k,hk,hs⟩:=AB.mp hs;refine AQ (kY_ hc hk ?_);try dsimp only
  by_cases e2:k.1<minRun' n n 0
  .rw [A6 e2] at hs⊢;obtain⟨p2,hp,hs⟩:=AB.mp hs;refine AQ (wpS_lift (CF ⟨rfl, ?_⟩));refine AQ (k0_ hc hp ?_);simp only [BA,AG,Am]
   (
    unfold gm_ at hs;refine AQ (wpS_get ?_);try dsimp only at hs⊢
    split at hs
    .rename_i u hu;rw [hu];try dsimp only
     obtain⟨t',ht,hs⟩:=AB.mp hs;cases hs;refine AQ (aD_ (γ:=jz_) (step:=hz_ c _) (fun _=>(none,())) (fun t=>bi_ kd item t.1 t.2.1 t.2.2) (fun x t r hs R hR=> ?_) (a:=0) ht ?_)
     .unfold hz_ at hs;refine AQ (wpS_get ?_);try dsimp only
      split at hs
      .rename_i v hv;rw [hv];try dsimp only
       split at hs
       .rename_i z;rw [A6 z];cases hs;exact Aa hR
       .rename_i z;rw [A3 z];obtain⟨t',hm,hs⟩:=AB.mp hs;cases hs;exact AQ (dU_ hc hm (Aa hR))
      .rename_i hv;rw [hv];cases hs;exact Aa hR
     .try dsimp only
      exact AQ (D1 (AQ (D1 (Aa hR))))
    .rename_i hu;rw [hu];cases hs;exact AQ (D1 (Aa hR)))
  .rw [A3 e2] at hs⊢
   (
    unfold gm_ at hs;refine AQ (wpS_get ?_);try dsimp only at hs⊢
    split at hs
    .rename_i u hu;rw [hu];try dsimp only
     obtain⟨t',ht,hs⟩:=AB.mp hs;cases hs;refine AQ (aD_ (γ:=jz_) (step:=hz_ c _) (fun _=>(none,())) (fun t=>bi_ kd item t.1 t.2.1 t.2.2) (fun x t r hs R hR=> ?_) (a:=0) ht ?_)
     .unfold hz_ at hs;refine AQ (wpS_get ?_);try dsimp only
      split at hs
      .rename_i v hv;rw [hv];try dsimp only
       split at hs
       .rename_i z;rw [A6 z];cases hs;exact Aa hR
       .rename_i z;rw [A3 z];obtain⟨t',hm,hs⟩:=AB.mp hs;cases hs;exact AQ (dU_ hc hm (Aa hR))
      .rename_i hv;rw [hv];cases hs;exact Aa hR
     .try dsimp only
      exact AQ (D1 (AQ (D1 (Aa hR))))
    .rename_i hu;rw [hu];cases hs;exact AQ (D1 (Aa hR)))
 .try dsimp only
  refine AQ (aD_ (γ:=jz_) (step:=md_ c) (fun _=>(none,())) (fun t=>bi_ kd item t.1 t.2.1 t.2.2) (fun x t r hs R hR=> ?_) (a:=0) (b:=n) (g:=g.2) h2 (Aa (hq _ _)));unfold md_ at hs;refine AQ (wpS_get ?_);try dsimp only
  by_cases e1:t.2.1.size<=1
  .rw [A6 e1] at hs⊢;cases hs;exact Aa hR
  rw [A3 e1] at hs⊢;obtain⟨t',hm,hs⟩:=AB.mp hs;cases hs;exact AQ (dU_ hc hm (Aa hR))
end
end L2
namespace L2
open PySem PySem.Spec PyProof.Rows PySem.W
section
variable {prog:Program}{w:World}{A:Around}{E:Value->Shared->Prop}{s:Shared}
theorem iS_ {kd:SortKind}{a:Addr}{vs:List Value}{n:Nat}{c:Nat->Nat->Option Bool}{p:Array Nat}{P:PySem.Fin->Shared->Prop} (ho:s.heap.get? a=some (seqObj "list" vs.toArray n)) (h2:2<=vs.length) (hL:vs.length<=1000) (hp:p.size<=1000)
  (hkd:∀(R:SortKind->Shared->Prop),R kd {s with heap:=aO_ s.heap a vs}->wpAny (model prog w) A (keyKind' vs.toArray) R E {s with heap:=aO_ s.heap a vs}) (hc:cZ_ kd prog w A {s with heap:=aO_ s.heap a vs} (gb_ vs) c) (hs:eZ_ c vs.length=some p)
  (h:P (.done (.ret .none)) {s with heap:=sortedHeap s.heap a vs (p.map fun i=>vs.getD i .none)}):wpAny (model prog w) A (Builtin.«list.sort» ⟨[.ref a],[]⟩) P E s:=by
 rw [list_sort_plain];have ha:a<s.heap.objs.size:=AJ ho;refine A0 (listItems_at ho rfl ?_);refine A0 (Cb ho rfl ?_ (by rw [AE,B0];lia) (AO _));obtain⟨e1,ho1⟩:∃e1,(s.heap.update a (Obj.mapSeq fun _=>(#[]:Array Value))).get? a=some (seqObj "list" #[] e1):=⟨_,CY ho (fun _=> #[])⟩;refine A0 (seqEpoch_at ho1 rfl ?_);refine A0 (wpAny_newTuple ?_ (by show vs.length<=_;rw [B0];lia));refine A0 (D5 ?_ (AO _));refine Au ?_;have ho6:(aO_ s.heap a vs).get? a=some (seqObj "list" #[] e1):=by
  rw [B4 _ _ _ (by rw [Br,B3];exact AL (Ac ha)),B4 _ _ _ (by rw [B3];exact AL ha)];exact ho1
 show wpAny (model prog w) A _ P E {s with heap:=aO_ s.heap a vs};dsimp only;have hn2:¬vs.toArray.size<2:=by rw [AE];lia
 rw [A3 hn2,A3 hn2];refine A0 (hkd _ ?_);have run:=iM_ (E:=E) hc hs (Q:=fun _ st'=>arrOf st'=p.map (gb_ vs)/\failedOf st'=none) fun pd g=>⟨rfl,rfl⟩;have est:bi_ kd (gb_ vs) (List.toArray (List.range vs.length)) #[] 7=SortSt.mk' kd (vs.toArray.zip vs.toArray) #[] 7 none:=by
  show SortSt.mk' kd ((List.toArray (List.range vs.length)).map (gb_ vs)) #[] 7 none=_;rw [iL_]
 rw [est] at run;refine A0 (BP run ?_ fun _ _ e=>e);rintro⟨⟨⟩,st'⟩ s' ⟨rfl,har,hf⟩;dsimp only at har hf⊢;have eo:(arrOf st').map (·.2)=p.map fun i=>vs.getD i .none:=by
  rw [har,Array.map_map];rfl
 rw [eo];refine A0 (seqEpoch_at ho6 rfl ?_);refine A0 (Cb ho6 rfl ?_ (AO _) (by rw [Array.size_map,B0];lia));rw [hf];simp only [Cj,AG,Am];exact A2 h
theorem gf_ {kd:SortKind}{l:Addr}{vs:List Value}{c:Nat->Nat->Option Bool}{p:Array Nat}{Q:Value->Shared->Prop} (hl:s.heap.IsList l vs.toArray) (h2:2<=vs.length) (hL:vs.length<=1000) (hp:p.size<=1000)
  (hkd:∀(R:SortKind->Shared->Prop) (E:Value->Shared->Prop),R kd {s with heap:=dC_ s.heap vs}->wpAny (model prog w) A.in1.in1 (keyKind' vs.toArray) R E {s with heap:=dC_ s.heap vs}) (hc:cZ_ kd prog w A.in1.in1 {s with heap:=dC_ s.heap vs} (gb_ vs) c) (hs:eZ_ c vs.length=some p)
  (h:Q (.ref (s.heap.objs.size+1)) {s with heap:=sortedAll s.heap vs (p.map fun i=>vs.getD i .none)}):wpAny (model prog w) A (call (.builtin "sorted") [.ref l]) Q E s:=by
 refine Calls.call_function_entry kind_sorted plain_sorted entry_sorted (args_sorted1 _) ?_;unfold Builtin.«sorted»;refine A0 (m:=checkCount "sorted" 1 1 _) (A2 ?_);refine A0 (collect_list hl ?_ (by rw [B0];lia));refine A0 (D5 ?_ (by rw [B0];lia));have hsz:((s.heap.push (seqObj "list" #[] 0)).update s.heap.objs.size (Obj.mapSeq (· ++vs.toArray))).objs.size=s.heap.objs.size+1:=by
  rw [B3,Br]
 have hoL:(((s.heap.push (seqObj "list" #[] 0)).update s.heap.objs.size (Obj.mapSeq (· ++vs.toArray))).push (seqObj "list" vs.toArray 0)).get? (s.heap.objs.size+1)=some (seqObj "list" vs.toArray 0):=by
  rw [<-hsz];exact AH _ rfl
 show wpAny _ _ _ _ _ {s with heap:=((s.heap.push (seqObj "list" #[] 0)).update s.heap.objs.size (Obj.mapSeq (· ++vs.toArray))).push (seqObj "list" vs.toArray 0)};rw [hsz];refine A0 (Au (Ag slot_list_sort ⟨_,hoL,rfl⟩ entry_list_sort (iS_ (s:={s with heap:=((s.heap.push (seqObj "list" #[] 0)).update s.heap.objs.size (Obj.mapSeq (· ++vs.toArray))).push (seqObj "list" vs.toArray 0)}) hoL h2 hL hp (fun R=>hkd R _) hc hs ⟨_,rfl, ?_⟩) (args_list_sort _)));exact A2 ⟨_,rfl,h⟩
end
noncomputable def hC_ (K:W.Frag):List V->Hp->VK->Prop:=fun vs H Q=>∃(l:Addr) (rs:List V) (c:Nat->Nat->Option Bool) (p:Array Nat),vs=[.ref l]/\SqL K H l rs/\2<=rs.length/\rs.length<=1000/\p.size<=1000/\(∀r∈rs,∃a ys,r= .ref a/\SqL K H a ys)/\
 (∀i j b,c i j=some b->∃x y,rs[i]? =some x/\rs[j]? =some y/\Ask K H x y b)/\eZ_ c rs.length=some p/\(∀i∈p.toList,i<rs.length)/\∀q,H q=none->Q (.ref q) (upd H q (.lst (p.toList.map fun i=>rs.getD i .non)))
section
variable {X:Cx}
theorem fF_ {k:Nat} (hr:Room k X.A):cc_ X (.builtin "sorted") (hC_ X.K):=by
 intro pins s σ H xs us Q I r h;obtain⟨l,rs,c,p,rfl,hq,h2,hL,hps,hty,hask,hs,hpl,q⟩:=h;obtain⟨u,rfl,rx⟩:=fx_ r;cases rx;obtain⟨its,r',pl,hz⟩:=I.list hq;have ln:=r'.length;have hu:=hr.un;have I2:Inv X pins σ H {s with heap:=dC_ s.heap its}:=I.kept (t':=s.toks) fun b o e=>hp_ e;refine gf_ (kd:=oneType') (vs:=its) (c:=c) (p:=p) pl.isList (by lia) (by lia) hps (fun R E hR=>kas_kind (T:= .type "list") (by lia) (fun v hv=> ?_) rfl rfl hR) (fun i j b hb Q' hq'=> ?_) (by rw [<-ln];exact hs) ?_
 .obtain⟨i,hi,rfl⟩:=C5.mp hv;have hi':i<rs.length:=by lia
  obtain⟨a,ys,e1,hy⟩:=hty rs[i] (List.getElem_mem hi');obtain⟨u,hu1,ru⟩:=r'.get (A4 hi');rw [A4 hi] at hu1;rw [e1] at ru;obtain rfl:u=Value.ref a:=ru;rw [Ad hu1];obtain⟨js,r2,p2,z2⟩:=I2.list hy;obtain⟨o,ho,hc,_⟩:=p2.isList;exact hc▸(Looks.ld ho).andThen .now
 .obtain⟨x,y,hx,hy,a1,a2,xs,ys,d,es,fs,rfl,rfl,h1,h2,hd,he,hf,rfl⟩:=hask i j b hb;obtain⟨u,hu1,ru⟩:=r'.get hx;obtain⟨v,hv1,rv⟩:=r'.get hy;obtain rfl:u=Value.ref a1:=ru;obtain rfl:v=Value.ref a2:=rv;have g1:(gb_ its i).1= .ref a1:=by show its.getD i .none=_;rw [List.getD,hu1];rfl
  have g2:(gb_ its j).1= .ref a2:=by show its.getD j .none=_;rw [List.getD,hv1];rfl
  rw [g1,g2];exact LtR.key I2 h1 h2 he hf (by rw [aK_,aK_];lia) hq'
 .obtain⟨e,he⟩:=sortedAll_at s.heap its (p.map fun i=>its.getD i .none);have en:(p.map fun i=>its.getD i .none)=List.toArray (p.toList.map fun i=>its.getD i .none):=by
   apply Array.toList_inj.mp;simp
  rw [en] at he⊢;refine⟨.ref (s.heap.objs.size+1),_,I.laid (t':=s.toks) (fun _ _=>sortedAll_old) (Cf _) (show aG_ X.prog X.w _ _ _ (.lst (p.toList.map fun i=>rs.getD i .non)) from⟨?_,_,e,eM_ r' p.toList hpl,he⟩),rfl,q _ (I.hok.fresh (Cf _))⟩;rw [A1,Ao,B0];lia
end
section
variable {X:Cx}
noncomputable def k9_ (K:W.Frag):List V->Hp->VK->Prop:=fun vs H Q=>(∃(l:Addr) (rs:List V),vs=[.ref l]/\SqL K H l rs/\rs.length<2/\∀q,H q=none->Q (.ref q) (upd H q (.lst rs)))\/hC_ K vs H Q
theorem fG_ {k:Nat} (hr:Room k X.A):cc_ X (.builtin "sorted") (k9_ X.K):=by
 intro pins s σ H xs us Q I r h;rcases h with h|h
 .obtain⟨l,rs,rfl,hq,h2,q⟩:=h;obtain⟨u,rfl,rx⟩:=fx_ r;cases rx;obtain⟨its,r',pl,hz⟩:=I.list hq;have ln:=r'.length;refine k4_ (vs:=its) pl.isList (by lia) ?_;obtain⟨e,he⟩:=sortedAll_at s.heap its its.toArray;exact⟨.ref (s.heap.objs.size+1),_,I.laid (t':=s.toks) (fun _ _=>sortedAll_old) (Cf _) (show aG_ X.prog X.w _ _ _ (.lst rs) from⟨hz,its,e,r',he⟩),rfl,q _ (I.hok.fresh (Cf _))⟩
 .exact fF_ hr pins s σ H xs us Q I r h
end
end L2
namespace L2
open PySem PySem.Spec PyProof.Rows PySem.W
noncomputable abbrev Mx (K:Type):=Sum K (List K)
noncomputable def isL {K:Type}:Mx K->Bool
 | .inl _=>true
 | .inr _=>false
section
variable {prog:Program}{w:World}{K:Type} [DecidableEq K] {knd:KeyKind prog w K}
inductive ItemsM (knd:KeyKind prog w K) (h:Heap):List (Mx K)->List Value->Prop
 |nil:ItemsM knd h [] []
 |val {k:K}{v:Value}{ks:List (Mx K)}{vs:List Value}:knd.is k v=true->ItemsM knd h ks vs->ItemsM knd h (.inl k::ks) (v::vs)
 |tup {k:List K}{a:Addr}{ks:List (Mx K)}{vs:List Value}:IsTupleKey knd h k a->ItemsM knd h ks vs->ItemsM knd h (.inr k::ks) (.ref a::vs)
noncomputable def dz_ (knd:KeyKind prog w K) (sh:List Bool) (h:Heap) (ks:List (Mx K)) (a:Addr):Prop:=ks.map isL=sh/\∃o items n,h.get? a=some o/\o.cls= .type "tuple"/\o.data= .seq items n/\ItemsM knd h ks items.toList
theorem ItemsM.inj {h:Heap}{x y:List (Mx K)}{vs:List Value} (hx:ItemsM knd h x vs) (hy:ItemsM knd h y vs) (e:x.map isL=y.map isL):x=y:=by
 induction hx generalizing y with
 |nil=>cases hy;rfl
 |val h1 _ ih=>
  cases hy with
  |val h2 t2=>rw [knd.inj _ _ _ h1 h2,ih t2 (by simpa [isL] using e)]
  |tup h2 t2=>simp [isL] at e
 |tup h1 _ ih=>
  cases hy with
  |val h2 t2=>simp [isL] at e
  |tup h2 t2=>rw [h1.inj h2,ih t2 (by simpa [isL] using e)]
theorem ItemsM.keeps {h h':Heap}{x:List (Mx K)}{vs:List Value}{d:Addr}{o:Obj}{es ep} (hx:ItemsM knd h x vs) (ho:h.get? d=some o) (hd:o.data= .dict es ep) (hs:Heap.SameBut d h h'):ItemsM knd h' x vs:=by
 induction hx with
 |nil=>exact .nil
 |val h1 _ ih=>exact .val h1 ih
 |tup h1 _ ih=>exact .tup (h1.keeps ho hd hs) ih
variable {sh:List Bool}
theorem dz_.typeIs {s:Shared}{ks:List (Mx K)}{a:Addr} (x:dz_ knd sh s.heap ks a):s.TypeIs (.ref a) "tuple":=let ⟨_,o,_,_,ho,hc,_⟩:=x;⟨o,ho,hc⟩
theorem dz_.inj {h:Heap}{a:Addr}{x y:List (Mx K)} (hx:dz_ knd sh h x a) (hy:dz_ knd sh h y a):x=y:=by
 obtain⟨e1,o,items,n,ho,_,hd,hi⟩:=hx;obtain⟨e2,o',items',n',ho',_,hd',hi'⟩:=hy;obtain rfl:o=o':=Ad (ho.symm.trans ho');rw [hd] at hd';injection hd' with h1 _;subst h1;exact hi.inj hi' (e1.trans e2.symm)
theorem dz_.keeps {h h':Heap}{ks:List (Mx K)}{a d:Addr}{o:Obj}{es ep} (x:dz_ knd sh h ks a) (ho:h.get? d=some o) (hd:o.data= .dict es ep) (hs:Heap.SameBut d h h'):dz_ knd sh h' ks a:=by
 obtain⟨e,o',items,n,ho',hc,hd',hi⟩:=x;have hne:a≠d:=by
  rintro rfl;obtain rfl:o'=o:=Ad (ho'.symm.trans ho);rw [hd] at hd';exact nomatch hd'
 exact⟨e,o',items,n,(hs.2 a hne).trans ho',hc,hd',hi.keeps ho hd hs⟩
noncomputable def nV_ (knd:KeyKind prog w K):Mx K->Int
 | .inl k=>knd.hash k
 | .inr ks=>tupleKeyHash knd ks
noncomputable def rH_ {K:Type}:Mx K->Nat
 | .inl _=>1
 | .inr ks=>ks.length+1
noncomputable def ji_ (knd:KeyKind prog w K) (ks:List (Mx K)):Int:=reduceHash (Builtin.Tuple.tupleHashOf (ks.map (nV_ knd)))
noncomputable def gJ_ (ks:List (Mx K)):Nat:=(ks.map rH_).sum+1
variable {A:Around}{E:Value->Shared->Prop}{s:Shared}
theorem la_ {ks:List (Mx K)}{a:Addr}{Q:Int->Shared->Prop} (hu:A.units+1<cLine) (hk:dz_ knd sh s.heap ks a) (h:Q (ji_ knd ks) {s with toks:=s.toks+gJ_ ks}):
  wpAny (model prog w) A (pyHash (.ref a)) Q E s:=by
 have hT:=hk.typeIs;obtain⟨_,o,items,n,ho,_,hd,hi⟩:=hk;unfold pyHash;first|unfold pyHashByItsType|skip
 first|refine A0 (wpAny_cRoomFor_or (.inr (by lia)) ?_)|skip
 refine A0 (CM hT Cw.lookup ?_);show wpAny _ _ (if(some (Value.builtin "tuple.__hash__")==some Value.none)=true then _ else _) Q E s;rw [A3 (by rw [beq_builtin_none];exact AT)];refine A0 (CM hT Cw.lookup ?_);show wpAny _ _ (callSpecialIfBoundUnlessNone? (.ref a) "__hash__" _>>=_) Q E s;refine A0 (wpAny_callSpecialIfBoundUnlessNone?_slot hT Cw (Ag Cw hT F.entry_tuple_hash ?_ (F.args_tuple_hash_1 _)));show wpAny _ _ (Builtin.Tuple.tupleItemsOf (.ref a)>>=_) _ _ s;refine A0 (wpAny_tupleItemsOf ho hd ?_);refine A0 ?_;rw [<-Ce];refine C1 _
  (fun cv_ (b:Array Int) s'=>∃done left,ks=done++left/\ItemsM knd s.heap left cv_/\b.toList=done.map (nV_ knd)/\s'={s with toks:=s.toks+(done.map rH_).sum})
  _ ?_ ?_ _ _ ⟨[],ks,rfl,hi,rfl,rfl⟩
 .rintro x cv_ b s' ⟨done,left,rfl,hl,hb,rfl⟩;cases hl with
  | @val k v1 ks' _ h1 hl'=>
   refine A0 (knd.pyHash h1 ?_);first
    |exact A2 ⟨done++[.inl k],ks',by simp,hl',by simp [hb,nV_],by simp [Cs,rH_]⟩
    |exact A0 (A2 (A2 ⟨done++[.inl k],ks',by simp,hl',by simp [hb,nV_],by simp [Cs,rH_]⟩))
  | @tup k a1 ks' _ h1 hl'=>
   refine A0 (wpAny_pyHash_tuple (knd:=knd) (ks:=k) (by first|exact hu|(rw [aK_];lia)|(simp;lia)) h1 ?_);first
    |exact A2 ⟨done++[.inr k],ks',by simp,hl',by simp [hb,nV_],by simp [Cs,rH_]⟩
    |exact A0 (A2 (A2 ⟨done++[.inr k],ks',by simp,hl',by simp [hb,nV_],by simp [Cs,rH_]⟩))
 .rintro b s' ⟨done,left,rfl,hl,hb,rfl⟩;cases hl;rw [B8] at h;show wpAny _ _ (retInt (Builtin.Tuple.tupleHashOf b.toList)) _ _ _;rw [hb];refine wpAny_ret_mkInt ?_;show wpAny _ _ (if(decide (-(2:Int)^63<=Builtin.Tuple.tupleHashOf (done.map (nV_ knd)))&&decide (Builtin.Tuple.tupleHashOf (done.map (nV_ knd))<2^63))=true then _ else _) Q E _;unfold ji_ reduceHash gJ_ at h;by_cases hr:(decide (-(2:Int)^63<=Builtin.Tuple.tupleHashOf (done.map (nV_ knd)))&&decide (Builtin.Tuple.tupleHashOf (done.map (nV_ knd))<2^63))=true
  .rw [A6 hr];rw [A6 hr] at h;exact A2 (by simpa [Cs] using h)
  .rw [A3 hr];rw [A3 hr] at h;exact A0 (CF (A2 (by simpa [Cs] using h)))
theorem jf_ {x y:List (Mx K)}{a b:Addr}{P:Fin->Shared->Prop} (hu:A.units<cLine) (hx:dz_ knd sh s.heap x a) (hy:dz_ knd sh s.heap y b) (h:P (.done (.ret (.bool (decide (x=y))))) s):
  wpAny (model prog w) A (Builtin.«tuple.__eq__» ⟨[.ref a, .ref b],[]⟩) P E s:=by
 have hTb:=hy.typeIs;obtain⟨sx,oa,xs,na,hoa,_,hda,hia⟩:=hx;obtain⟨sy,ob,ys,nb,hob,_,hdb,hib⟩:=hy;show wpAny _ _ (isInstance (.ref b) (.type "tuple")>>=_) _ _ s;refine A0 (C0 hTb isSubtype_tuple_tuple ?_);simp only [BA,AG,Am];refine A0 (wpAny_tupleItemsOf hoa hda ?_);refine A0 (wpAny_tupleItemsOf hob hdb ?_);refine A0 ?_;refine C1 _
  (fun cv_ r s'=>r.1=none/\s'=s/\∃x' y' xs' ys',cv_=List.zip xs' ys'/\ItemsM knd s.heap x' xs'/\ItemsM knd s.heap y' ys'/\decide (x'=y')=decide (x=y)/\x'.map isL=y'.map isL/\(xs'.length==ys'.length)=(xs.size==ys.size))
  _ ?_ ?_ _ _ ⟨rfl,rfl,x,y,xs.toList,ys.toList,rfl,hia,hib,rfl,sx.trans sy.symm,by simp⟩
 .rintro⟨u,v⟩ cv_ r s' ⟨hr,rfl,x',y',xs',ys',hz,hx',hy',hdec,hsh,hlen⟩;cases hx' with
  |nil=>simp at hz
  | @val k1 v1 x'' xs'' h1 hx''=>
   cases hy' with
   |nil=>simp at hz
   |tup _ _=>simp [isL] at hsh
   | @val k2 v2 y'' ys'' h2 hy''=>
    simp only [List.zip_cons_cons,D0,BJ] at hz;obtain⟨⟨rfl,rfl⟩,rfl⟩:=hz;refine A0 (knd.eqBool h1 h2 ?_);by_cases hk:k1=k2
    .subst hk;rw [B9 rfl];simp only [BA,AG,Am];refine A2 ⟨rfl,rfl,x'',y'',xs'',ys'',rfl,hx'',hy'', ?_,by simpa using hsh,by simpa using hlen⟩;rw [<-hdec];by_cases hxy:x''=y''
     .simp [hxy]
     .simp [hxy]
    .rw [Ai hk];simp only [Cm,C4];have hf:decide (x=y)=false:=by rw [<-hdec];simp [hk]
     rw [hf] at h;exact A0 (A2 (A2 (A2 h)))
  | @tup k1 a1 x'' xs'' h1 hx''=>
   cases hy' with
   |nil=>simp at hz
   |val _ _=>simp [isL] at hsh
   | @tup k2 a2 y'' ys'' h2 hy''=>
    simp only [List.zip_cons_cons,D0,BJ] at hz;obtain⟨⟨rfl,rfl⟩,rfl⟩:=hz;refine A0 (wpAny_eqBool_tuple (knd:=knd) (x:=k1) (y:=k2) (by first|exact hu|(rw [aK_];lia)|(simp;lia)) h1 h2 ?_);by_cases hk:k1=k2
    .subst hk;rw [B9 rfl];simp only [BA,AG,Am];refine A2 ⟨rfl,rfl,x'',y'',xs'',ys'',rfl,hx'',hy'', ?_,by simpa using hsh,by simpa using hlen⟩;rw [<-hdec];by_cases hxy:x''=y''
     .simp [hxy]
     .simp [hxy]
    .rw [Ai hk];simp only [Cm,C4];have hf:decide (x=y)=false:=by rw [<-hdec];simp [hk]
     rw [hf] at h;exact A0 (A2 (A2 (A2 h)))
 .rintro⟨r1,r2⟩ s' ⟨hr,rfl,x',y',xs',ys',hz,hx',hy',hdec,hsh,hlen⟩;simp only at hr;subst hr;refine A2 ?_;have hfin:(xs.size==ys.size)=decide (x=y):=by
   rw [<-hdec,<-hlen];cases hx' with
   |nil=>
    cases hy' with
    |nil=>simp
    |val _ _=>simp
    |tup _ _=>simp
   |val _ _=>
    cases hy' with
    |nil=>simp
    |val _ _=>simp at hz
    |tup _ _=>simp at hz
   |tup _ _=>
    cases hy' with
    |nil=>simp
    |val _ _=>simp at hz
    |tup _ _=>simp at hz
  show P (.done (.ret (.bool (xs.size==ys.size)))) s';rw [hfin];exact h
theorem lo_ {x y:List (Mx K)}{a b:Addr}{Q:Bool->Shared->Prop} (hu:A.units+1<cLine) (hx:dz_ knd sh s.heap x a) (hy:dz_ knd sh s.heap y b) (h:Q (decide (x=y)) s):
  wpAny (model prog w) A (eqBool (.ref a) (.ref b)) Q E s:=by
 unfold eqBool;try with_reducible refine Au ?_
 show wpAny _ _ (if(Value.ref a==Value.ref b)=true then _ else _) Q E s;by_cases hab:(Value.ref a==Value.ref b)=true
 .rw [A6 hab];have e:a=b:=by have:=eq_of_beq hab;injection this
  subst e;obtain rfl:=hx.inj hy;exact A0 (CF (A2 (by simpa using h)))
 .rw [A3 hab];exact A0 (wpAny_richCompare_same_room (op:= .Eq) hx.typeIs hy.typeIs F.slot_tuple_eq
   (Ag F.slot_tuple_eq hx.typeIs F.entry_tuple_eq (jf_ (by first|lia|(rw [aK_];lia)|(simp;lia)) hx hy ⟨_,rfl,(fun e=>nomatch e),Bq h⟩) (F.args_tuple_eq_2 _ _)) (by lia))
theorem ms_ {ks:List (Mx K)}{a:Addr}{Q:Bool->Shared->Prop} (hk:dz_ knd sh s.heap ks a) (h:Q true s):wpAny (model prog w) A (eqIsQuiet 8 (.ref a)) Q E s:=by
 have hT:=hk.typeIs;obtain⟨_,o,items,n,ho,_,hd,hi⟩:=hk;unfold eqIsQuiet;refine A0 (CM hT F.slot_tuple_eq.lookup ?_);show wpAny _ _ (isInstance (.ref a) (.type "tuple")>>=_) _ _ s;refine A0 (C0 hT isSubtype_tuple_tuple ?_);simp only [BA,AG,Am];refine A0 (Bj ho hd ?_);refine A0 ?_;show wpAny _ _ (forIn items _ _) _ _ s;rw [<-Ce];refine C1 _ (fun cv_ r s'=>r.1=none/\s'=s/\∃x,ItemsM knd s.heap x cv_) _ ?_ ?_ _ _ ⟨rfl,rfl,ks,hi⟩
 .rintro v cv_ r s' ⟨hr,rfl,x,hall⟩;cases hall with
  |val h1 ht=>
   rw [eqIsQuiet_byValue _ (knd.byValue _ _ h1)];refine A0 (A2 ?_);simp only [BA,AG,Am];exact A2 ⟨rfl,rfl,_,ht⟩
  |tup h1 ht=>
   refine A0 (i1_ h1 ?_);simp only [BA,AG,Am];exact A2 ⟨rfl,rfl,_,ht⟩
 .rintro⟨r1,r2⟩ s' ⟨hr,rfl,_⟩;simp only at hr;subst hr;exact A2 h
end
noncomputable def fX_ {prog:Program}{w:World}{K:Type} [DecidableEq K] (knd:KeyKind prog w K) (sh:List Bool):HeapKind prog w (List (Mx K)) where
 is:=dz_ knd sh
 hash:=ji_ knd
 draws:=gJ_
 room:=fun A=>A.units+1<cLine
 inj:=fun hx hy=>hx.inj hy
 keeps:=fun x ho hd hs=>x.keeps ho hd hs
 pyHash:=fun hu hk h=>la_ hu hk h
 eqBool:=fun hu hx hy h=>lo_ hu hx hy h
 quiet:=fun hk h=>ms_ hk h
end L2
namespace L2
open PySem PySem.Spec PyProof.Rows PySem.W
noncomputable def mD:Mx Int->D
 | .inl i=> .i i
 | .inr t=>tI t
noncomputable def qsh:List Bool:=[true,true,false,false]
noncomputable def mK (ks:List (Mx Int)):D:= .t (ks.map mD)
noncomputable def IsK (H:Hp) (ks:List (Mx Int)) (v:V):Prop:=ks.map isL=qsh/\Is H (mK ks) v
section
variable {P:Program}{w:World}{H:Hp}{h:Heap}{a:Addr}
noncomputable def mE (P:Program) (w:World) (xs:List (List (Mx Int)×Addr×Value)) (a:Addr) (h:Heap):Prop:=
 ∃o es ep,h.get? a=some o/\o.ExactDict/\o.data= .dict es ep/\es.toList=xs.map (entryOfKey (fX_ (intKind P w) qsh))/\(xs.map (·.1)).Nodup
noncomputable abbrev MT (H:Hp):List (List (Mx Int)×V)->List (List (Mx Int)×Addr×Value)->Prop:=Paired fun p q=>p.1=q.1/\IsK H p.1 (.ref q.2.1)/\a2_ p.2 q.2.2
noncomputable def DM (P:Program) (w:World) (H:Hp) (a:Addr) (kvs:List (List (Mx Int)×V)):Prop:=kvs.length<=sizeLine/\(a==sysModules)=false/\∃xs,MT H kvs xs/\H a=some (.ext (mE P w xs a))
theorem fl_ (ok:HOk P w H h):∀{ks:List (Mx Int)}{vs:List V}{us:List Value},Iss H (ks.map mD) vs->aW_ vs us->ItemsM (intKind P w) h ks us
 |[],_,_,i,r=>by rw [bm_ i] at r;cases r;exact .nil
 | .inl k::ks,_,_,i,r=>by
  obtain⟨u,us,rfl,q,i2⟩:=ay_ i;obtain rfl:=c4_ q;cases r with
  |cons h t=>
   obtain⟨t',rfl⟩:=h;exact .val (show Value.isInt k (.int k t')=true by simp [Value.isInt]) (fl_ ok i2 t)
 | .inr k::ks,_,_,i,r=>by
  obtain⟨u,us,rfl,q,i2⟩:=ay_ i;obtain⟨b,rfl,hb⟩:=cz_ q;cases r with
  |cons h t=>
   cases h;exact .tup (sX_ ok hb) (fl_ ok i2 t)
theorem gI_ {ks:List (Mx Int)} (ok:HOk P w H h) (e:IsK H ks (.ref a)):(fX_ (intKind P w) qsh).is h ks a:=by
 obtain⟨sh,e⟩:=e;obtain⟨b,vs,eb,hb,hi⟩:=hj_ e;cases eb;obtain⟨_,its,r,o,h1,h2,n,h3⟩:=(show aG_ P w H h a (.tup vs) from ok a _ hb);exact⟨sh,o,its.toArray,n,h1,h2,h3,by simpa using fl_ ok hi r⟩
theorem o5_ {kvs:List (List (Mx Int)×V)} (ok:HOk P w H h) (e:DM P w H a kvs):kvs.length<=sizeLine/\(a==sysModules)=false/\∃xs,MT H kvs xs/\H a=some (.ext (mE P w xs a))/\h.DictOfH (fX_ (intKind P w) qsh) a xs:=by
 obtain⟨z,y,xs,r,e⟩:=e;obtain⟨⟨o,es,ep,h1,h2,h3,h4,h5⟩,_,_⟩:=(show aG_ P w H h a (.ext (mE P w xs a)) from ok a _ e);refine⟨z,y,xs,r,e,o,es,ep,h1,h2,h3,h4,fun x hx=> ?_,h5⟩;have all:∀{l:List (List (Mx Int)×V)}{m:List (List (Mx Int)×Addr×Value)},MT H l m->∀x∈m,(fX_ (intKind P w) qsh).is h x.1 x.2.1:=by
  intro l m q;induction q with
  |nil=>intro x hx;exact nomatch hx
  | @cons p q ps qs hq t ih=>
   intro x hx;rcases AK.mp hx with e|hx
   .subst e;exact gI_ ok (by rw [<-hq.1];exact hq.2.1)
   .exact ih x hx
 exact all r x hx
theorem tf_ {xs:List (List (Mx Int)×Addr×Value)}{H':Hp} (d:∃o es ep,h.get? a=some o/\o.ExactDict/\o.data= .dict es ep/\es.toList=xs.map (entryOfKey (fX_ (intKind P w) qsh))/\(xs.map (·.1)).Nodup):aG_ P w H' h a (.ext (mE P w xs a)):=by
 refine⟨d,let ⟨o,_,_,h1,_⟩:=d;⟨o,h1⟩,fun h1 h2 f k=> ?_⟩;obtain⟨o,es,ep,e1,r⟩:=f;exact⟨o,es,ep,k o e1,r⟩
theorem MT.val {kvs:List (List (Mx Int)×V)}{xs:List (List (Mx Int)×Addr×Value)} (r:MT H kvs xs) (k:List (Mx Int)):jA_ (cH_ kvs k) ((atKey xs k).map (·.2)):=by
 induction r with
 |nil=>exact True.intro
 | @cons p q ps qs h t ih=>
  obtain⟨h1,_,h2⟩:=h;by_cases e:p.1=k
  .have e':q.1=k:=h1.symm.trans e;have b:atKey (q::qs) k=some q.2:=by simp [atKey,BL,e']
   rw [bv_ e,b];exact h2
  .have e':¬q.1=k:=fun z=>e (h1.trans z);have b:atKey (q::qs) k=atKey qs k:=by simp [atKey,BL,e']
   rw [bh_ e,b];exact ih
theorem MT.repl {kvs:List (List (Mx Int)×V)}{xs:List (List (Mx Int)×Addr×Value)} (r:MT H kvs xs) (k:List (Mx Int)) {y:V}{u:Value} (ry:a2_ y u):
  MT H (kvs.map fun kv=>if kv.1=k then(kv.1,y) else kv) (xs.map (putAt k u)):=by
 induction r with
 |nil=>exact .nil
 | @cons p q ps qs h t ih=>
  rw [AI,AI];refine .cons ?_ ih;obtain⟨h1,h2,h3⟩:=h;unfold putAt;by_cases e:p.1=k
  .rw [A6 e,A6 (h1.symm.trans e)];exact⟨h1,h2,ry⟩
  .rw [A3 e,A3 (fun z=>e (h1.trans z))];exact⟨h1,h2,h3⟩
theorem MT.put {kvs:List (List (Mx Int)×V)}{xs:List (List (Mx Int)×Addr×Value)} (r:MT H kvs xs) (k:List (Mx Int)) {b:Addr}{y:V}{u:Value} (hb:IsK H k (.ref b)) (ry:a2_ y u):
  MT H (c2_ kvs k y) (storedH xs k b u):=by
 have e:(kvs.any fun kv=>decide (kv.1=k))=(atKey xs k).isSome:=by
  rw [c0_,(r.val k).isSome_eq,Option.isSome_map]
 unfold c2_ storedH;rw [e];by_cases q:(atKey xs k).isSome=true
 .rw [A6 q,A6 q];exact r.repl k ry
 .rw [A3 q,A3 q];exact Paired.snoc r ⟨rfl,hb,ry⟩
theorem oJ_ {H':Hp} (ht:∀b ys,H b=some (.tup ys)->H' b=some (.tup ys)) {ks:List (Mx Int)}{v:V} (h:IsK H ks v):IsK H' ks v:=by
 obtain⟨sh,h⟩:=h;obtain⟨b,vs,rfl,hb,hi⟩:=hj_ h;have go:∀{xs:List (Mx Int)}{vs:List V},Iss H (xs.map mD) vs->Iss H' (xs.map mD) vs:=by
  intro xs;induction xs with
  |nil=>intro vs h;rw [bm_ h];exact am_
  |cons x xs ih=>
   intro vs h;obtain⟨u,us,rfl,q,r⟩:=ay_ h;cases x with
   |inl k=>rw [show u= .int k from c4_ q];exact ai_ ex_ (ih r)
   |inr k=>
    obtain⟨c,rfl,hc⟩:=cz_ q;exact ai_ (h9_ (ht _ _ hc)) (ih r)
 exact⟨sh,g1_ (ht _ _ hb) (go hi)⟩
theorem MT.keeps {H':Hp}{kvs:List (List (Mx Int)×V)}{xs:List (List (Mx Int)×Addr×Value)} (r:MT H kvs xs) (ht:∀b ys,H b=some (.tup ys)->H' b=some (.tup ys)):MT H' kvs xs:=
 Paired.mapP r fun _ _ z=>⟨z.1,oJ_ ht z.2.1,z.2.2⟩
theorem DM.mono {H':Hp}{kvs:List (List (Mx Int)×V)} (s:ao_ H H') (d:DM P w H a kvs):DM P w H' a kvs:=by
 obtain⟨z,y,xs,r,e⟩:=d;exact⟨z,y,xs,r.keeps fun b ys=>s b _,s _ _ e⟩
theorem DM.mut {kvs:List (List (Mx Int)×V)} (d:DM P w H a kvs):Mut (H a):=by
 obtain⟨_,_,xs,_,e⟩:=d;rw [e];exact True.intro
theorem DM.ntup {kvs:List (List (Mx Int)×V)} (d:DM P w H a kvs) {b:Addr}{ys:List V} (e:H b=some (.tup ys)):b≠a:=by
 obtain⟨_,_,xs,_,e2⟩:=d;rintro rfl;rw [e2] at e;cases e
end
section
variable {X:Cx}{pins:List (Addr×Obj)}{σ:St}{H:Hp}{s:Shared}{a b:Addr}{v:V}{r:Value}{A:Around}{E:Value->Shared->Prop}{kvs:List (List (Mx Int)×V)}{ks:List (Mx Int)}
theorem gq_ {prog:Program}{w:World}{A:Around} (hu:A.units+2<cLine):(fX_ (intKind prog w) qsh).room A.in1:=by
 show A.in1.units+1<cLine;rw [aK_];lia
theorem mR_ {Q:Value->Shared->Prop} (hu:A.units+2<cLine) (I:Inv X pins σ H s) (d:DM X.prog X.w H a kvs) (k:IsK H ks (.ref b)) (l:cH_ kvs ks=some v) (h:∀w' s',Inv X pins σ H s'->a2_ v w'->Q w' s'):
  wpAny (model X.prog X.w) A (getItem (.ref a) (.ref b)) Q E s:=by
 obtain⟨z,hd,xs,rel,_,dd⟩:=o5_ I.hok d;obtain⟨w',hw,rw'⟩:=jA_.some_of (v:=v) (o:=(atKey xs ks).map (·.2)) (by rw [<-l];exact rel.val ks);obtain⟨p,hp,hp2⟩:=A5.mp hw;refine wpAny_getItem_heap (gq_ hu) (gI_ I.hok k) dd hp ?_;rw [hp2];exact h w' _ (I.tok _) rw'
theorem qV_ {Q:Value->Shared->Prop} (hu:A.units+2<cLine) (I:Inv X pins σ H s) (d:DM X.prog X.w H a kvs) (k:IsK H ks (.ref b)) (h:∀s',Inv X pins σ H s'->Q (.bool (!(cH_ kvs ks).isSome)) s'):
  wpAny (model X.prog X.w) A (compareOp .NotIn (.ref b) (.ref a)) Q E s:=by
 obtain⟨z,hd,xs,rel,_,dd⟩:=o5_ I.hok d;refine wpAny_notIn_heap (gq_ hu) (gI_ I.hok k) hd dd ?_;have q:=(rel.val ks).isSome_eq;rw [Option.isSome_map] at q;rw [<-q];exact h _ (I.tok _)
theorem mQ_ {Q:Unit->Shared->Prop} (hu:A.units+2<cLine) (I:Inv X pins σ H s) (d:DM X.prog X.w H a kvs) (k:IsK H ks (.ref b)) (hl:kvs.length<sizeLine) (rv:a2_ v r)
  (h:∀H' s',DM X.prog X.w H' a (c2_ kvs ks v)->(∀b,b≠a->H' b=H b)->Inv X pins σ H' s'->Q () s'):wpAny (model X.prog X.w) A (setItem (.ref a) (.ref b) r) Q E s:=by
 obtain⟨z,hd,xs,rel,e,dd⟩:=o5_ I.hok d;have hz:xs.length<=sizeLine:=by rw [<-Bh rel];exact z
 have hl':(c2_ kvs ks v).length<=sizeLine:=by have:=dx_ kvs ks v;lia
 refine wpAny_setItem_heap (hsz:=hz) (gq_ hu) (gI_ I.hok k) dd fun h' dd' hs=> ?_;obtain⟨q,es,ep,hq,h2,h3,h4,_,h5⟩:=dd';refine h (upd H a (.ext (mE X.prog X.w (storedH xs ks b r) a))) _ ⟨hl',hd,_,(rel.put ks k rv).keeps fun c ys ec=> ?_,ag_⟩ (fun c hc=>ak_ hc) (ej_ I d.mut hs ⟨q,hq⟩ (tf_ ⟨q,es,ep,hq,h2,h3,h4,h5⟩));rw [ak_ (d.ntup ec)];exact ec
theorem u1_ (I:Inv X pins σ H s) (d:DM X.prog X.w H a kvs):s.TypeIs (.ref a) "dict"/\(∀b,Value.ref a= .ref b->∃ob,s.heap.get? b=some ob/\ob.dict=none)/\(a==sysModules)=false:=by
 obtain⟨_,hd,xs,_,_,dd⟩:=o5_ I.hok d;refine⟨dd.typeIs,fun b q=> ?_,hd⟩;cases q;obtain⟨ob,_,_,h1,h2,_⟩:=dd;exact⟨ob,h1,h2.2.1⟩
end
noncomputable def tY_ (P:Program) (w:World) (td ty:TE):TE:=fun σ H Q=>td σ H fun x H1=>ty σ H1 fun y H2=>∃a kvs ks v,x= .ref a/\DM P w H2 a kvs/\IsK H2 ks y/\cH_ kvs ks=some v/\Q v H2
noncomputable def qa_ (P:Program) (w:World) (ty td:TE):TE:=fun σ H Q=>ty σ H fun y H1=>td σ H1 fun x H2=>∃a kvs ks,x= .ref a/\DM P w H2 a kvs/\IsK H2 ks y/\Q (.bl (!(cH_ kvs ks).isSome)) H2
noncomputable def uw_ (P:Program) (w:World) (td ty tv:TE):TS:=fun D σ H=>tv σ H fun v H1=>td σ H1 fun x H2=>ty σ H2 fun y H3=>∃a kvs ks,x= .ref a/\DM P w H3 a kvs/\IsK H3 ks y/\kvs.length<sizeLine/\∀H4,DM P w H4 a (c2_ kvs ks v)->(∀b,b≠a->H4 b=H3 b)->D.nx σ H4
noncomputable def tX_ (P:Program) (w:World):TE:=fun _ H Q=>∀p H',H p=none->DM P w H' p []->(∀b,b≠p->H' b=H b)->Q (.ref p) H'
section
variable {X:Cx}{o i e f value ek ev:Expr}{pos pos' apos cpos:Pos}{td ty tv tx tk:TE}
theorem uM_ {H:Hp}{ks:List (Mx Int)}{y:V}{u:Value} (h:IsK H ks y) (r:a2_ y u):∃b,y= .ref b/\u= .ref b:=by
 obtain⟨b,_,rfl,_⟩:=hj_ h.2;exact⟨b,rfl,r⟩
theorem qH_ (hu:X.A.units+2<cLine) (ho:PE X o td) (hi:PE X i ty) (hs:tL_ i):PE X (.Subscript o i pos) (tY_ X.prog X.w td ty):=by
 intro pins s σ H Q I h;refine iP_ PySem.F.slot_dict_getitem.lookup hs (thn (ho pins s σ H _ I h) fun u s1 ⟨x,H1,I1,rx,q1⟩=>thn (hi pins s1 σ H1 _ I1 q1) fun iv s2 ⟨y,H2,I2,ry,a,kvs,ks,v,ex,d,k,l,q2⟩=> ?_);subst ex;obtain rfl:u=Value.ref a:=rx;obtain⟨b,rfl,rfl⟩:=uM_ k ry;exact⟨(u1_ I2 d).1,mR_ hu I2 d k l fun w' s3 I3 rw'=>⟨v,H2,I3,rw',q2⟩⟩
theorem mE_ (hu:X.A.units+2<cLine) (hi:PE X i ty) (ho:PE X o td):PC X .NotIn i o (qa_ X.prog X.w ty td):=by
 intro pins s σ H Q I h;refine thn (hi pins s σ H _ I h) fun iv s1 ⟨y,H1,I1,ry,q1⟩=>thn (ho pins s1 σ H1 _ I1 q1) fun u s2 ⟨x,H2,I2,rx,a,kvs,ks,ex,d,k,q2⟩=> ?_;subst ex;obtain rfl:u=Value.ref a:=rx;obtain⟨b,rfl,rfl⟩:=uM_ k ry;exact qV_ hu I2 d k fun s3 I3=>⟨.bl _,H2,I3,rfl,q2⟩
theorem qv_ (hu:X.A.units+2<cLine) (ho:PE X o td) (hi:PE X i ty) (hv:PE X value tv) (hs:swapsWith value (some (.Subscript o i pos')) pos.line X.env=pure false):
  PS X (.Assign [.Subscript o i pos'] value pos) (uw_ X.prog X.w td ty tv):=by
 intro pins s σ H D I h;refine wpAny_Assign_Subscript (thn (hv pins s σ H _ I h) fun r s1 ⟨v,H1,I1,rv,q1⟩=>thn (ho pins s1 σ H1 _ I1 q1) fun u s2 ⟨x,H2,I2,rx,q2⟩=>thn (hi pins s2 σ H2 _ I2 q2) fun iv s3 ⟨y,H3,I3,ry,a,kvs,ks,ex,d,k,hl,q3⟩=> ?_) hs;subst ex;obtain rfl:u=Value.ref a:=rx;obtain⟨b,rfl,rfl⟩:=uM_ k ry;exact mQ_ hu I3 d k hl rv fun H4 s4 d4 k4 I4=>⟨σ,H4,I4,q3 H4 d4 k4⟩
theorem o6_ {P:Program}{w:World}{H:Hp}{h:Heap}{p:Addr} (hp:p=h.objs.size) (hb:sysModules<h.objs.size):DM P w (upd H p (.ext (mE P w [] p))) p []:=by
 subst hp;exact⟨AO _,CA.mpr (BM (AL hb)),[], .nil,ag_⟩
theorem jt_ {P:Program}{w:World}{H:Hp} (h:Heap):aG_ P w H (h.push {cls:= .type "dict",data:= .dict #[]}) h.objs.size (.ext (mE P w [] h.objs.size)):=
 tf_ ⟨_, #[],0,AH _ rfl,⟨rfl,rfl,rfl⟩,rfl,rfl,List.nodup_nil⟩
theorem qG_:PE X (.Dict [] [] pos) (tX_ X.prog X.w):=fun pins s σ H Q I h=>
 wpAny_Dict_empty ⟨.ref s.heap.objs.size,_,I.laid (a:=s.heap.objs.size) (o:= .ext (mE X.prog X.w [] s.heap.objs.size)) (t':=s.toks) (fun _ _ q=>A7 _ q) (A9 _) (jt_ s.heap),rfl,h _ _ (I.hok.fresh (A9 _)) (o6_ rfl I.big) (fun b hb=>ak_ hb)⟩
end
end L2
namespace L2
open PySem PySem.Spec PyProof.Rows
section
variable {prog:Program}{w:World}{A:Around}{E:Value->Shared->Prop}{s:Shared}
theorem ec_ {it t:Addr}{i:Nat}{vs:Array Value}{x:Value}{Q:Value->Shared->Prop} (hit:s.heap.IsTupleIter it t i) (ht:s.heap.IsTuple t vs) (hx:vs[i]? =some x) (hQ:∀h',h'.IsTupleIter it t (i+1)->Heap.SameBut it s.heap h'->Q x {s with heap:=h'}):
  wpAny (model prog w) A (Builtin.SmallTypes.nextOf (.ref it)) Q E s:=by
 obtain⟨o,ho,hc,hd⟩:=id hit;obtain⟨q,hq,_,nq,hdq⟩:=ht;unfold Builtin.SmallTypes.nextOf;refine A0 (Ax (name:=Str.ofString "__next__") hit.typeIs CW (Ag CW hit.typeIs F.entry_tuple_iterator_next ?_ (F.args_tuple_iterator_next_1 _)));show wpAny _ _ (field (.ref it) 0>>=_) _ _ s;refine A0 (BZ ho hd (x:= .ref t) rfl ?_);show wpAny _ _ (if(Value.ref t==Value.none)=true then _ else _) _ _ s;rw [A3 (show¬((Value.ref t==Value.none)=true) from AT)];show wpAny _ _ (field (.ref it) 1>>=_) _ _ s;refine A0 (BZ ho hd (x:= .int i 0) rfl ?_);show wpAny _ _ (seqItems? (.ref t)>>=_) _ _ s;refine A0 (Bj hq hdq ?_);simp only [An,hx];refine A0 (C3 ho hd (by simp) (A2 ⟨x,rfl,A2 (hQ _ ⟨_,C7 _ ho (D2 (Bl hd _)),(Obj.cls_mapFields ..).trans hc,by rw [Bl hd];simp [rawInt]⟩ (B6 ..))⟩))
theorem hO_ {it t:Addr}{i:Nat}{vs:Array Value}{Q:Value->Shared->Prop} (hh:A.handled=none) (hit:s.heap.IsTupleIter it t i) (ht:s.heap.IsTuple t vs) (hx:vs[i]? =none)
  (hE:∀h' e,Heap.ExtBut it s.heap h'->(∃o,h'.get? e=some o/\o.cls= .type "StopIteration")->E (.ref e) {s with heap:=h'}):wpAny (model prog w) A (Builtin.SmallTypes.nextOf (.ref it)) Q E s:=by
 obtain⟨o,ho,hc,hd⟩:=id hit;obtain⟨q,hq,_,nq,hdq⟩:=ht;unfold Builtin.SmallTypes.nextOf;refine A0 (Ax (name:=Str.ofString "__next__") hit.typeIs CW (Ag CW hit.typeIs F.entry_tuple_iterator_next ?_ (F.args_tuple_iterator_next_1 _)));show wpAny _ _ (field (.ref it) 0>>=_) _ _ s;refine A0 (BZ ho hd (x:= .ref t) rfl ?_);show wpAny _ _ (if(Value.ref t==Value.none)=true then _ else _) _ _ s;rw [A3 (show¬((Value.ref t==Value.none)=true) from AT)];show wpAny _ _ (field (.ref it) 1>>=_) _ _ s;refine A0 (BZ ho hd (x:= .int i 0) rfl ?_);show wpAny _ _ (seqItems? (.ref t)>>=_) _ _ s;refine A0 (Bj hq hdq ?_);simp only [An,hx];refine A0 (CF (A0 (C3 ho hd (by simp) ?_)));show wpAny _ _ (newExc (.type "StopIteration") []>>=_) _ _ _;refine A0 ?_;simp only [newExc,newTuple];refine A0 (Aq ?_ (by size_fits));refine A0 (m:=firstArgMember _ _) (D7 (a:=Value.none) (by first|rfl|(simp only [firstArgMember];rfl)) (Aq ?_ (by size_fits)));simp only [raiseNew];refine A0 (wpAny_handled ?_);(first|rw [show A.in1.handled=none from hh]|rw [hh]);exact A0 (A2 (wpAny_throw (hE _ _ (((B6 ..).extBut.push _).push _) ⟨_,AH _ rfl,rfl⟩)))
theorem pL_ (hh:A.handled=none) (it t:Addr) (hne:t≠it) (vs:Array Value):Draws prog w A it [it,t] vs.size (fun i v=>vs[i]? =some v) (fun i h=>h.IsTupleIter it t i/\h.IsTuple t vs) where
 live:=fun _ _ st=>let ⟨⟨o,ho,_⟩,_⟩:=st;⟨o,ho⟩
 frame:=fun _ _ _ ⟨st1,st2⟩ hk=>⟨st1.at fun o e=>hk it (by simp) o e,st2.at fun o e=>hk t (by simp) o e⟩
 item:=fun i s Q E hi ⟨st1,st2⟩ hQ=>ec_ st1 st2 (x:=vs[i]) (by simp [hi]) fun h' a b=>hQ _ h' s.toks (by simp [hi]) ⟨a,st2.extBut b.extBut hne⟩ b
 done:=fun s Q E ⟨st1,st2⟩ hE=>hO_ hh st1 st2 (by simp) hE
theorem lw_ {t:Addr}{vs:Array Value}{Q:Value->Shared->Prop} (hL:s.heap.IsTuple t vs)
  (h:∀h',IsEnum h' (s.heap.objs.size+1) s.heap.objs.size 0 .none->h'.IsTupleIter s.heap.objs.size t 0->h'.objs.size=s.heap.objs.size+2->(∀b o,s.heap.get? b=some o->h'.get? b=some o)->Q (.ref (s.heap.objs.size+1)) {s with heap:=h'}):
  wpAny (model prog w) A (call (.type "enumerate") [.ref t]) Q E s:=by
 have mt:Meets (Builtin.«enumerate.__new__» ⟨[.type "enumerate", .ref t],[]⟩) (fun _ R s=>s.heap.IsTuple t vs/\R (.ok (.ret (.ref (s.heap.push {cls:= .type "tuple_iterator",data:= .fields #[.ref t, .int 0 0]}).objs.size))) {s with heap:=(s.heap.push {cls:= .type "tuple_iterator",data:= .fields #[.ref t, .int 0 0]}).push {cls:= .type "enumerate",data:= .fields #[.none, .bool false, .ref s.heap.objs.size,rawInt 0, .none, .none]}}):=
  .of_wp fun prog w A R s h=>by
   obtain⟨hp,g,d,tk,os⟩:=s;obtain⟨hL,h⟩:=h;have hsub:=sub_enumerate;obtain⟨⟨c,dct,dt,sl⟩,hl,hc,n,hd⟩:=id hL;have hc:c= .type "tuple":=hc;have hd:dt= .seq vs n:=hd;subst hc hd
   wp_walk using AutoSeq1.wpAny_loadPart' hl
   refine wpAny_stack_any fun st=>A2 ?_;split
   .next c _ _ _ _ _=>cases (c==Value.type "enumerate")<;>(wp_walk using AutoSeq1.wpAny_loadPart' hl,Cp hL;exact⟨_,rfl,h⟩)
   .wp_walk using AutoSeq1.wpAny_loadPart' hl,Cp hL;exact⟨_,rfl,h⟩
 refine callType_new F.called_enumerate (by decide) (F.typeCall_enumerate_1 _) (F.newCall_enumerate_1 _) (fun obj=>F.args_object_init_2 obj _) F.entry_enumerate_new mt ⟨hL, ?_⟩;have hz:(s.heap.push {cls:= .type "tuple_iterator",data:= .fields #[.ref t, .int 0 0]}).objs.size=s.heap.objs.size+1:=Aw ..
 show _/\_;rw [hz];have he:=AH (s.heap.push {cls:= .type "tuple_iterator",data:= .fields #[.ref t, .int 0 0]}) (o:={cls:= .type "enumerate",data:= .fields #[.none, .bool false, .ref s.heap.objs.size,rawInt 0, .none, .none]}) rfl;rw [hz] at he;exact⟨⟨_,he,rfl⟩,h _ he ⟨_,A7 _ (AH _ rfl),rfl,rfl⟩ (by rw [Aw,hz]) fun b o x=>A7 _ (A7 _ x)⟩
end
noncomputable def rA_ (K:W.Frag) (a:Addr):It:=
 ⟨fun i H=>∃xs x,SqT K H a xs/\xs[i]? =some x,fun i H v H'=>∃x p,(∀xs,SqT K H a xs->xs[i]? =some x)/\v= .ref p/\H p=none/\H'=upd H p (.tup [.int i,x]),fun i H=>∃xs,SqT K H a xs/\xs.length=i⟩
theorem kV_ {P:Program}{w:World}{K:W.Frag}{elts:List Expr}{k:Nat}{pos:Pos} (a e it:Addr) (hne:e≠it) (hai:a≠it) (hae:e≠a):
  Turn P w K (.Tuple elts k pos) (rA_ K a) [e,it] e (fun i h=>(∃old,IsEnum h e it (i:Nat) old)/\h.IsTupleIter it a i) where
 mem:=by simp
 obj:=fun i h st b hb=>by
  obtain⟨⟨old,h1⟩,o,h2,h3,h4⟩:=st;simp only [AK,At,Bn] at hb;rcases hb with rfl|rfl
  .exact⟨_,h1,fun v y=>by cases y⟩
  .exact⟨o,h2,fun v y=>by rw [h4] at y;cases y⟩
 keep:=fun i h h' ⟨⟨old,z⟩,st2⟩ kk=>⟨⟨old,kk e (by simp) _ z⟩,st2.at fun o z=>kk it (by simp) o z⟩
 item:=by
  intro X hP hw hK hc i pins s σ H E I hf st hg;subst hP hw hK;obtain⟨xs,x,hq,hx⟩:=hg;obtain⟨its,rv,p,hz⟩:=I.tuple hq;obtain⟨u,hu,ru⟩:=rv.get hx;obtain⟨⟨old,he⟩,hit⟩:=st;have ltE:e<s.heap.objs.size:=AJ he;have hlt:i<its.toArray.size:=by have:=(AD.mp hu).1;simpa using this
  refine wpAny_pyNext_enum_itemD (pL_ (A:=X.A.in1) (show X.A.in1.handled=none from I.ok.hd hc) it a hai its.toArray) he ⟨hit,p⟩ hlt hne (by simp [hne,hae]) fun x' h' tk px ho ⟨hit',_⟩ hT hsz hk=>⟨.ref s.heap.objs.size,rfl, ?_⟩;obtain rfl:x'=u:=by
   have px:its.toArray[i]? =some x':=px;have:its[i]? =some x':=by simpa using px
   rw [hu] at this;exact(Ad this).symm
  refine wpAny_letOwnedTupleGo_enum ho fun h2 he2 sb=> ?_;have k2:∀b o,b∉[e,it]->s.heap.get? b=some o->h2.get? b=some o:=fun b o n z=>by
   simp only [AK,At,Bn,not_or] at n;exact(sb.2 b n.1).trans (hk b o n.1 n.2 z)
  have hT2:h2.get? s.heap.objs.size=some {cls:= .type "tuple",data:= .seq #[.int i tk,x']}:=(sb.2 _ (BY ltE)).trans hT;refine⟨.ref s.heap.objs.size,upd H s.heap.objs.size (.tup [.int i,x]),I.turnNew (t':=tk+1) hf k2 ⟨by show 2<=sizeLine;decide,[.int i tk,x'], .cons ⟨_,rfl⟩ (.cons ru .nil),⟨_,hT2,rfl,_,rfl⟩⟩,rfl,⟨x,_,fun ys hy=>by rw [I.tuple_inj hy hq];exact hx,rfl,I.hok.fresh (A9 _),rfl⟩,⟨⟨x',by simpa using he2⟩,hit'.at fun o z=>(sb.2 it hne.symm).trans z⟩,fun b hb=> ?_⟩;have there:∃o,s.heap.get? b=some o:=by
   simp only [AK,At,Bn] at hb;rcases hb with rfl|rfl
   .exact⟨_,he⟩
   .exact hit.imp fun o q=>q.1
  obtain⟨o,q⟩:=there;rw [ak_ (AL (AJ q))];exact(hf b hb).1
 done:=by
  intro X hP hw hK hc i pins s σ H E I hf st hg;subst hP hw hK;obtain⟨xs,hq,hx⟩:=hg;obtain⟨its,rv,p,hz⟩:=I.tuple hq;obtain⟨⟨old,he⟩,hit⟩:=st;have hl:=rv.length;obtain⟨f0,f1,f2,f3,f4,f5⟩:=hf it (by simp);have hn:i=its.toArray.size:=by simp;lia
  exact wpAny_pyNext_enum_endD (pL_ (A:=X.A.in1) (show X.A.in1.handled=none from I.ok.hd hc) it a hai its.toArray) he ⟨hn▸hit,p⟩ fun h' eb=>⟨rfl,I.turned (t':=s.toks) (fun b o hb z=>eb b o hb z) f0 f1 f3 f4 f5⟩
 self:=fun _ _ _ _ _ st h=>let ⟨⟨_,z⟩,_⟩:=st;wpAny_pyIter_enum z h
section
variable {X:Cx}{elts:List Expr}{k:Nat}{tpos p pos:Pos}{e:Expr}{te:TE}
noncomputable def s5_ (K:W.Frag) (tl:TE):TI:=fun σ H R=>tl σ H fun x H1=>∃a,x= .ref a/\(∃xs,SqT K H1 a xs)/\R (rA_ K a) H1
theorem gv_ (hg:Gl X "enumerate") (hm:X.mg "enumerate"=none) (hl:PE X e te) (he:starEach [e] X.env=[(false,eval e X.env)]:=by rfl):PI X (.Tuple elts k tpos) (.Call (.Name "enumerate" p) [e] [] pos) (s5_ X.K te):=by
 intro pins s σ H R I h;refine BQ (co_ I hg hm boot_enumerate ?_);refine B5 (thn ((aa_ hl ab_ he) _ pins s σ H (fun vs H1=>match vs with|[x]=>(∃a,x= .ref a/\(∃xs,SqT X.K H1 a xs)/\R (rA_ X.K a) H1)|_=>False) I h) fun us s1 ⟨vs,H1,I1,r1,q1⟩=> ?_) he (by rfl)
 match vs,q1,r1 with
 |[x],q1,r1=>
 obtain⟨a,rfl,⟨xs,hq⟩,q⟩:=q1;obtain⟨u,rfl,ru⟩:=fx_ r1;obtain rfl:u=Value.ref a:=ru;obtain⟨its,rv,pl,hz⟩:=I1.tuple hq;have la:a<s1.heap.objs.size:=let ⟨_,q,_⟩:=pl;AJ q;refine lw_ (show s1.heap.IsTuple a its.toArray from pl) fun h' hen hit hsz hk=> ?_;refine wpAny_pyIter_enum hen ?_;refine⟨_,[_,_],_,_,H1,rfl,I1.kept (t':=s1.toks) hk,kV_ a _ _ (BY (BN _)) (AL la) (BY (Ac la)),⟨⟨_,by simpa using hen⟩,hit⟩,fun b hb=> ?_,q⟩;have fr:∀b,s1.heap.objs.size<=b->iG_ X pins H1 b:=fun b z=>I1.fpOk z (I1.hok.fresh z);simp only [AK,At,Bn] at hb;rcases hb with rfl|rfl<;>exact fr _ (by lia)
end
theorem ic_ {K:W.Frag}{a:Addr}{xs:List V}{g:TG}{tb:TS}{D:Ends}{σ:St}{H:Hp} (Pv:Nat->St->Hp->Prop) (h0:Pv 0 σ H) (hl:∀i σ H,i<=xs.length->Pv i σ H->SqT K H a xs)
  (hs:∀i x σ H p,xs[i]? =some x->Pv i σ H->H p=none->g (.ref p) σ (upd H p (.tup [.int i,x])) fun σ2 H2=>tb {D with nx:=Pv (i+1),ct:=Pv (i+1),bk:=D.nx} σ2 H2) (hd:∀σ H,Pv xs.length σ H->D.nx σ H):
  ∃Wq:Nat->Nat->St->Hp->Prop,(∃m,Wq 0 m σ H)/\∀i m σ H,Wq i m σ H->
   ((rA_ K a).stop i H/\D.nx σ H)\/((rA_ K a).go i H/\∃N:St->Hp->Prop,(∀σ' H',N σ' H'->∃m',m'<m/\Wq (i+1) m' σ' H')/\∀x H',(rA_ K a).yld i H x H'->g x σ H' fun σ2 H2=>tb {D with nx:=N,ct:=N,bk:=D.nx} σ2 H2):=by
 refine⟨fun i m σ H=>m=xs.length-i/\i<=xs.length/\Pv i σ H,⟨xs.length,by simp,AO _,h0⟩, ?_⟩;rintro i m σ H ⟨rfl,hi,p⟩;have q:=hl i σ H hi p;by_cases hlt:i<xs.length
 .refine .inr ⟨⟨xs,xs[i],q,by simp [hlt]⟩,Pv (i+1),fun σ' H' p'=>⟨xs.length-(i+1),by lia,rfl,hlt,p'⟩,fun x H' y=> ?_⟩;obtain⟨z,pp,e1,e2,e3,e4⟩:=y;subst e2 e4;exact hs i z σ H pp (e1 xs q) p e3
 .obtain rfl:i=xs.length:=by lia
  exact .inl ⟨⟨xs,q,rfl⟩,hd σ H p⟩
theorem ls_ {K:W.Frag}{a:Addr}{xs:List V}{own:Nat}{js:List Nat}{g:TG}{ti:TT}{te:TE}{σ:St}{H1:Hp}{acc:Addr}{Q:VK} (Pv:Nat->Hp->Prop) (h0:Pv 0 (upd H1 acc (.lst []))) (hl:∀i H2,i<=xs.length->Pv i H2->SqT K H2 a xs)
  (hs:∀i x H2 p,xs[i]? =some x->Pv i H2->H2 p=none->g (.ref p) (lD_ own js σ) (upd H2 p (.tup [.int i,x])) fun σ4 H4=>ti σ4 H4 fun b H5=>if b=true then te σ4 H5 fun y H6=>d3_ (.ref acc) [y] H6 fun _ H7=>Pv (i+1) H7 else Pv (i+1) H5) (hd:∀H2,Pv xs.length H2->Q (.ref acc) H2)
  (mono:∀σ H (R R':St->Hp->Prop) x,(∀σ' H',R σ' H'->R' σ' H')->g x σ H R->g x σ H R') (monoT:∀σ H (R R':Bool->Hp->Prop),(∀b H',R b H'->R' b H')->ti σ H R->ti σ H R') (monoE:∀σ H (R R':VK),(∀v H',R v H'->R' v H')->te σ H R->te σ H R'):
  nS_ (rA_ K a) own js g ti te σ H1 acc Q:=by
 refine⟨fun i m H2=>m=xs.length-i/\i<=xs.length/\Pv i H2,⟨xs.length,by simp,AO _,h0⟩, ?_⟩;rintro i m H2 ⟨rfl,hi,p⟩;have qa:=hl i H2 hi p;by_cases hlt:i<xs.length
 .refine .inr ⟨⟨xs,xs[i],qa,by simp [hlt]⟩,fun v H3 z=> ?_⟩;obtain⟨x,pp,e1,e3,e4,e5⟩:=z;subst e3 e5;refine mono _ _ _ _ _ (fun σ4 H4 q=>monoT _ _ _ _ (fun b H5 q=> ?_) q) (hs i x _ pp (e1 xs qa) p e4);cases b with
  |true=>
   refine monoE _ _ _ _ (fun v H6 q=> ?_) q;obtain⟨l,zs,y,a1,a2,a3,a4,a5⟩:=q;exact⟨l,zs,y,a1,a2,a3,a4,_,by lia,rfl,hlt,a5⟩
  |false=>exact⟨_,by lia,rfl,hlt,q⟩
 .obtain rfl:i=xs.length:=by lia
  exact .inl ⟨⟨xs,qa,rfl⟩,hd H2 p⟩
theorem lt_ {K:W.Frag}{a:Addr}{xs:List V}{own:Nat}{js:List Nat}{g:TG}{ti:TT}{te:TE}{σ:St}{H1:Hp}{acc:Addr}{Q:VK} (Pv:Nat->Hp->Prop) (h0:Pv 0 (upd H1 acc (.lst []))) (hl:∀i H2,i<=xs.length->Pv i H2->SqL K H2 a xs)
  (hs:∀i x H2 p,xs[i]? =some x->Pv i H2->H2 p=none->g (.ref p) (lD_ own js σ) (upd H2 p (.tup [.int i,x])) fun σ4 H4=>ti σ4 H4 fun b H5=>if b=true then te σ4 H5 fun y H6=>d3_ (.ref acc) [y] H6 fun _ H7=>Pv (i+1) H7 else Pv (i+1) H5) (hd:∀H2,Pv xs.length H2->Q (.ref acc) H2)
  (mono:∀σ H (R R':St->Hp->Prop) x,(∀σ' H',R σ' H'->R' σ' H')->g x σ H R->g x σ H R') (monoT:∀σ H (R R':Bool->Hp->Prop),(∀b H',R b H'->R' b H')->ti σ H R->ti σ H R') (monoE:∀σ H (R R':VK),(∀v H',R v H'->R' v H')->te σ H R->te σ H R'):
  nS_ (Ite K a) own js g ti te σ H1 acc Q:=by
 refine⟨fun i m H2=>m=xs.length-i/\i<=xs.length/\Pv i H2,⟨xs.length,by simp,AO _,h0⟩, ?_⟩;rintro i m H2 ⟨rfl,hi,p⟩;have qa:=hl i H2 hi p;by_cases hlt:i<xs.length
 .refine .inr ⟨⟨xs,xs[i],qa,by simp [hlt]⟩,fun v H3 z=> ?_⟩;obtain⟨x,pp,e1,e3,e4,e5⟩:=z;subst e3 e5;refine mono _ _ _ _ _ (fun σ4 H4 q=>monoT _ _ _ _ (fun b H5 q=> ?_) q) (hs i x _ pp (e1 xs qa) p e4);cases b with
  |true=>
   refine monoE _ _ _ _ (fun v H6 q=> ?_) q;obtain⟨l,zs,y,a1,a2,a3,a4,a5⟩:=q;exact⟨l,zs,y,a1,a2,a3,a4,_,by lia,rfl,hlt,a5⟩
  |false=>exact⟨_,by lia,rfl,hlt,q⟩
 .obtain rfl:i=xs.length:=by lia
  exact .inl ⟨⟨xs,qa,A9 _⟩,hd H2 p⟩
theorem ip_ {X:Cx} (hc:X.calm=true):cc_ X (.builtin "sum") (fun xs H Q=>∃(p:Addr) (ns:List Int),xs=[.ref p]/\SqT X.K H p (ns.map V.int)/\Q (.int ns.sum) H):=by
 intro pins s σ H xs us Q I r h;obtain⟨p,ns,rfl,hq,q⟩:=h;obtain⟨u,rfl,rx⟩:=fx_ r;cases rx;obtain⟨its,r',pl,hz⟩:=I.tuple hq;have hi:IntsAre its ns:=ei_ r';obtain⟨ys,e⟩:=hi.allInts.items;have hl:s.heap.IsTuple p its.toArray:=pl;rw [e] at hl;have n1:=hi.numsOf;rw [show its=its.toArray.toList from rfl,e,nums_intItems] at n1;have lt:p<s.heap.objs.size:=let ⟨_,q,_⟩:=hl;AJ q;refine call_sum_walkG (Cp hl ?_);refine⟨_,_,_,_,_,_,numAt ys,rfl,Walks.tuple (A:=X.A.in1) (show X.A.in1.handled=none from I.ok.hd hc) _ p (AL lt) (intItems ys),⟨⟨_,AH _ rfl,rfl,rfl⟩,hl.push _⟩,fun b hb=> ?_,fun _ _=>intItems_at,fun h' tk t' hk=> ?_⟩
 .simp only [AK,At,Bn] at hb;rw [Aw];rcases hb with rfl|rfl
  .exact BN _
  .exact Ac lt
 .refine⟨.int ns.sum,H,I.kept fun b o z=>hk b o (fun y=> ?_) (A7 _ z),⟨t', ?_⟩,q⟩
  .simp only [AK,At,Bn] at y;exact absurd (AJ z) (by rw [y];exact Bs _)
  .rw [preSum_eq,List.take_of_length_le (by simp [intItems]),n1]
section
variable {prog:Program}{w:World}{A:Around}{E:Value->Shared->Prop}{s:Shared}
theorem lE_ {z TI TO i1 i2 l1 l2:Addr}{k1 k2:Nat}{xs ys:Array Value}{x y a b:Value}{Q:Option Value->Shared->Prop} (D:ZipApart z TI TO i1 i2 l1 l2) (hz:IsZip s.heap z TI TO .none) (hTI:IsPair s.heap TI (.ref i1) (.ref i2)) (hTO:IsPair s.heap TO a b)
  (h1:s.heap.IsTupleIter i1 l1 k1) (h2:s.heap.IsTupleIter i2 l2 k2) (hl1:s.heap.IsTuple l1 xs) (hl2:s.heap.IsTuple l2 ys) (hx:xs[k1]? =some x) (hy:ys[k2]? =some y)
  (hQ:∀h',IsZip h' z TI TO (rawInt s.heap.objs.size)->IsPair h' TO x y->h'.IsTupleIter i1 l1 (k1+1)->h'.IsTupleIter i2 l2 (k2+1)->IsPair h' s.heap.objs.size x y->h'.objs.size=s.heap.objs.size+1->(∀c o,c≠z->c≠TO->c≠i1->c≠i2->s.heap.get? c=some o->h'.get? c=some o)->Q (some (.ref s.heap.objs.size)) {s with heap:=h'}):
  wpAny (model prog w) A (pyNext (.ref z)) Q E s:=by
 have hT:s.TypeIs (.ref z) "zip":=⟨_,hz,rfl⟩;unfold pyNext;refine A0 (Bz (Ax (name:=Str.ofString "__next__") hT F.slot_zip_next (Ag F.slot_zip_next hT F.entry_zip_next ?_ (F.args_zip_next_1 _))));show wpAny _ _ (field (.ref z) 2>>=_) _ _ _;refine A0 (BZ hz rfl (x:= .bool false) rfl ?_);show wpAny _ _ (field (.ref z) 3>>=_) _ _ _;refine A0 (BZ hz rfl (x:= .ref TI) rfl (A0 (Bj hTI rfl ?_)));show wpAny _ _ (Builtin.SmallTypes.ownedTupleIsFree (.ref z)>>=_) _ _ _;refine A0 ?_;unfold Builtin.SmallTypes.ownedTupleIsFree;refine A0 (BZ hz rfl (x:= .none) rfl (A2 ?_));simp only [C4];refine A0 (CF (A0 (BZ hz rfl (x:= .ref TO) rfl (A0 (Co hz (by simp) fun a1 hz1 s1=> ?_)))));have hz1:IsZip a1 z TI TO .ellipsis:=hz1;refine A0 ?_;simp only [List.zipIdx_cons,List.zipIdx_nil,CZ,List.forIn_nil];refine A0 (A0 (wpAny_onRaise ?_));show wpAny _ _ (Builtin.SmallTypes.nextOf (.ref i1)>>=_) _ _ _;refine A0 (ec_ (h1.extBut s1.extBut D.i1z) (hl1.extBut s1.extBut D.l1z) hx fun a2 g1 s2=>A2 ?_);have o2:IsPair a2 TO a b:=s2.extBut _ _ D.TOi1 (s1.extBut _ _ D.TOz hTO);refine A0 (Bj o2 rfl (A0 (wpAny_updateSeq_pair o2 fun a3 o3 s3=> ?_)));have o3:IsPair a3 TO x b:=o3;refine A0 (wpAny_letGo (A2 ?_));refine A0 (A0 (wpAny_onRaise ?_));show wpAny _ _ (Builtin.SmallTypes.nextOf (.ref i2)>>=_) _ _ _;refine A0 (ec_ (((h2.extBut s1.extBut D.i2z).extBut s2.extBut D.i12.symm).extBut s3.extBut D.TOi2.symm) (((hl2.extBut s1.extBut D.l2z).extBut s2.extBut D.l2i1).extBut s3.extBut D.l2TO) hy fun a4 g2 s4=>A2 ?_);have o4:IsPair a4 TO x b:=s4.extBut _ _ D.TOi2 o3;refine A0 (Bj o4 rfl (A0 (wpAny_updateSeq_pair o4 fun a5 o5 s5=> ?_)));have o5:IsPair a5 TO x y:=o5;refine A0 (wpAny_letGo (A2 (A2 ?_)));refine A0 (Bj o5 rfl (A0 (wpAny_newTuple ?_)));have sz:a5.objs.size=s.heap.objs.size:=by rw [s5.1,s4.1,s3.1,s2.1,s1.1]
 have z5:IsZip a5 z TI TO .ellipsis:=s5.extBut _ _ D.TOz.symm (s4.extBut _ _ D.i2z.symm (s3.extBut _ _ D.TOz.symm (s2.extBut _ _ D.i1z.symm hz1)));have k5:∀c o,c≠z->c≠TO->c≠i1->c≠i2->s.heap.get? c=some o->a5.get? c=some o:=fun c o c1 c2 c3 c4 e=>s5.extBut _ _ c2 (s4.extBut _ _ c4 (s3.extBut _ _ c2 (s2.extBut _ _ c3 (s1.extBut _ _ c1 e))));have m1:a5.IsTupleIter i1 l1 (k1+1):=((g1.extBut s3.extBut D.TOi1.symm).extBut s4.extBut D.i12).extBut s5.extBut D.TOi1.symm;have m2:a5.IsTupleIter i2 l2 (k2+1):=g2.extBut s5.extBut D.TOi2.symm;have zl:z<a5.objs.size:=AJ z5;show wpAny _ _ (Builtin.SmallTypes.ownedTupleHandOut (.ref z) (.ref a5.objs.size)>>=_) _ _ _;refine A0 ?_;unfold Builtin.SmallTypes.ownedTupleHandOut;have z6:IsZip (a5.push {cls:= .type "tuple",data:= .seq #[x,y]}) z TI TO .ellipsis:=A7 _ z5;refine A0 (Co z6 (by simp) fun a7 z7 s7=> ?_);have z7:IsZip a7 z TI TO (rawInt a5.objs.size):=z7;refine Co z7 (by simp) fun a8 z8 s8=> ?_;have z8:IsZip a8 z TI TO (rawInt a5.objs.size):=z8;have up:∀c o,c≠z->a5.get? c=some o->a8.get? c=some o:=fun c o c1 e=>s8.extBut _ _ c1 (s7.extBut _ _ c1 (A7 _ e));have t8:IsPair a8 a5.objs.size x y:=s8.extBut _ _ (BY zl) (s7.extBut _ _ (BY zl) (AH _ rfl));have e8:a8.objs.size=a5.objs.size+1:=by rw [s8.1,s7.1,Aw]
 rw [sz] at z8 t8 e8;refine A2 ⟨_,rfl,A2 ?_⟩;show Q (some (.ref a5.objs.size)) _;rw [sz];exact hQ a8 z8 (up _ _ D.TOz o5) (m1.at fun o e=>up _ o D.i1z e) (m2.at fun o e=>up _ o D.i2z e) t8 e8 fun c o c1 c2 c3 c4 e=>up c o c1 (k5 c o c1 c2 c3 c4 e)
theorem n0_ {z TI TO i1 i2 l1 l2:Addr}{k1:Nat}{xs:Array Value}{a b:Value}{Q:Option Value->Shared->Prop} (hh:A.handled=none) (D:ZipApart z TI TO i1 i2 l1 l2) (hz:IsZip s.heap z TI TO .none) (hTI:IsPair s.heap TI (.ref i1) (.ref i2)) (hTO:IsPair s.heap TO a b)
  (h1:s.heap.IsTupleIter i1 l1 k1) (hl1:s.heap.IsTuple l1 xs) (hx:xs[k1]? =none) (hQ:∀h',(∀c o,c≠z->c≠TO->c≠i1->c≠i2->s.heap.get? c=some o->h'.get? c=some o)->Q none {s with heap:=h'}):wpAny (model prog w) A (pyNext (.ref z)) Q E s:=by
 have hT:s.TypeIs (.ref z) "zip":=⟨_,hz,rfl⟩;unfold pyNext;refine A0 (Bz (Ax (name:=Str.ofString "__next__") hT F.slot_zip_next (Ag F.slot_zip_next hT F.entry_zip_next ?_ (F.args_zip_next_1 _))));show wpAny _ _ (field (.ref z) 2>>=_) _ _ _;refine A0 (BZ hz rfl (x:= .bool false) rfl ?_);show wpAny _ _ (field (.ref z) 3>>=_) _ _ _;refine A0 (BZ hz rfl (x:= .ref TI) rfl (A0 (Bj hTI rfl ?_)));show wpAny _ _ (Builtin.SmallTypes.ownedTupleIsFree (.ref z)>>=_) _ _ _;refine A0 ?_;unfold Builtin.SmallTypes.ownedTupleIsFree;refine A0 (BZ hz rfl (x:= .none) rfl (A2 ?_));simp only [C4];refine A0 (CF (A0 (BZ hz rfl (x:= .ref TO) rfl (A0 (Co hz (by simp) fun a1 hz1 s1=> ?_)))));have hz1:IsZip a1 z TI TO .ellipsis:=hz1;refine A0 ?_;simp only [List.zipIdx_cons,List.zipIdx_nil,CZ,List.forIn_nil];refine A0 (A0 (wpAny_onRaise ?_));show wpAny _ _ (Builtin.SmallTypes.nextOf (.ref i1)>>=_) _ _ _;refine A0 (hO_ hh (h1.extBut s1.extBut D.i1z) (hl1.extBut s1.extBut D.l1z) hx fun a2 e s2 he=> ?_);obtain⟨oe,hoe,hce⟩:=he;have z2:IsZip a2 z TI TO .ellipsis:=s2 _ _ D.i1z.symm hz1;have ez:e≠z:=fun x=>by subst x;rw [z2] at hoe;cases hoe;simp at hce
 refine Co z2 (by simp) fun a3 _ s3=> ?_;refine A0 (C0 (T:="StopIteration") (b:=true) ⟨oe,s3.extBut _ _ ez hoe,hce⟩ isSubtype_stop (A2 (hQ _ fun c o c1 _ c3 _ x=>s3.extBut _ _ c1 (s2 _ _ c3 (s1.extBut _ _ c1 x)))))
end
section
variable {prog:Program}{w:World}{A:Around}{E:Value->Shared->Prop}{s:Shared}
noncomputable abbrev tz1 (h:Heap) (a:Addr):Heap:=h.push {cls:= .type "tuple_iterator",data:= .fields #[.ref a, .int 0 0]}
noncomputable abbrev tz2 (h:Heap) (a b:Addr):Heap:=(tz1 h a).push {cls:= .type "tuple_iterator",data:= .fields #[.ref b, .int 0 0]}
noncomputable abbrev tz3 (h:Heap) (a b:Addr):Heap:=(tz2 h a b).push {cls:= .type "tuple",data:= .seq #[.ref h.objs.size, .ref (tz1 h a).objs.size]}
noncomputable abbrev tz4 (h:Heap) (a b:Addr):Heap:=(tz3 h a b).push {cls:= .type "tuple",data:= .seq #[.none, .none]}
noncomputable abbrev tz5 (h:Heap) (a b:Addr):Heap:=(tz4 h a b).push {cls:= .type "zip",data:= .fields #[.none, .bool false, .bool false, .ref (tz2 h a b).objs.size, .ref (tz3 h a b).objs.size]}
theorem nC_ {a b:Addr}{xs ys:Array Value}{Q:Value->Shared->Prop} (ha:s.heap.IsTuple a xs) (hb:s.heap.IsTuple b ys)
  (h:∀h',IsZip h' (s.heap.objs.size+4) (s.heap.objs.size+2) (s.heap.objs.size+3) .none->IsPair h' (s.heap.objs.size+2) (.ref s.heap.objs.size) (.ref (s.heap.objs.size+1))->IsPair h' (s.heap.objs.size+3) .none .none->h'.IsTupleIter s.heap.objs.size a 0->h'.IsTupleIter (s.heap.objs.size+1) b 0->(∀c o,s.heap.get? c=some o->h'.get? c=some o)->Q (.ref (s.heap.objs.size+4)) {s with heap:=h'}):
  wpAny (model prog w) A (call (.type "zip") [.ref a, .ref b]) Q E s:=by
 have mt:Meets (Builtin.«zip.__new__» ⟨[.type "zip", .ref a, .ref b],[]⟩) (fun _ R s=>s.heap.IsTuple a xs/\s.heap.IsTuple b ys/\R (.ok (.ret (.ref (tz4 s.heap a b).objs.size))) {s with heap:=tz5 s.heap a b}):=
  .of_wp fun prog w A R s h=>by
   obtain⟨hp,g,d,tk,os⟩:=s;obtain⟨h1,h2,h⟩:=h;have hsub:=sub_zip;have hL1:Heap.IsTuple (Shared.heap ⟨hp,g,d,tk,os⟩) a xs:=h1;have hL2:Heap.IsTuple (Shared.heap ⟨hp.push {cls:= .type "tuple_iterator",data:= .fields #[.ref a, .int 0 0]},g,d,tk,os⟩) b ys:=Heap.IsTuple.push h2 _
   wp_walk using wpAny_pyIter_tuple hL1,Cp hL2
   exact⟨_,rfl,h⟩
 refine callType_new F.called_zip (by decide) (F.typeCall_zip_2 _ _) (F.newCall_zip_2 _ _) (fun obj=>F.args_object_init_3 obj _ _) F.entry_zip_new mt ⟨ha,hb, ?_⟩;have z1:(tz1 s.heap a).objs.size=s.heap.objs.size+1:=Aw ..
 have z2:(tz2 s.heap a b).objs.size=s.heap.objs.size+2:=by rw [Aw,z1]
 have z3:(tz3 s.heap a b).objs.size=s.heap.objs.size+3:=by rw [Aw,z2]
 have z4:(tz4 s.heap a b).objs.size=s.heap.objs.size+4:=by rw [Aw,z3]
 have g5:(tz5 s.heap a b).get? (tz4 s.heap a b).objs.size=some _:=AH _ rfl;have g4:(tz5 s.heap a b).get? (tz3 s.heap a b).objs.size=some _:=A7 _ (AH _ rfl);have g3:(tz5 s.heap a b).get? (tz2 s.heap a b).objs.size=some _:=A7 _ (A7 _ (AH _ rfl));have g2:(tz5 s.heap a b).get? (tz1 s.heap a).objs.size=some _:=A7 _ (A7 _ (A7 _ (AH _ rfl)));have g1:(tz5 s.heap a b).get? s.heap.objs.size=some _:=A7 _ (A7 _ (A7 _ (A7 _ (AH _ rfl))));show _/\_;rw [z2,z3,z4] at g5;rw [z1,z2] at g3;rw [z3] at g4;rw [z1] at g2;rw [z4];exact⟨⟨_,g5,rfl⟩,h _ g5 g3 g4 ⟨_,g1,rfl,rfl⟩ ⟨_,g2,rfl,rfl⟩ fun c o x=>A7 _ (A7 _ (A7 _ (A7 _ (A7 _ x))))⟩
end
noncomputable def ItzT (K : W.Frag) (a b : Addr) : It :=
  ⟨fun i H => ∃ xs x ys y, SqT K H a xs /\ SqT K H b ys /\ xs[i]? = some x /\ ys[i]? = some y,
   fun i H v H' => ∃ x y p, (∀ xs, SqT K H a xs -> xs[i]? = some x) /\ (∀ ys, SqT K H b ys -> ys[i]? = some y) /\ v = .ref p /\ H p = none /\ H' = upd H p (.tup [x, y]),
   fun i H => ∃ xs, SqT K H a xs /\ xs.length <= i⟩
theorem lT_ {P:Program}{w:World}{K:W.Frag}{elts:List Expr}{k:Nat}{pos:Pos}{z TI TO i1 i2 a b:Addr} (D:ZipApart z TI TO i1 i2 a b):
  Turn P w K (.Tuple elts k pos) (ItzT K a b) [z,TI,TO,i1,i2] z (fun i h=>IsZip h z TI TO .none/\IsPair h TI (.ref i1) (.ref i2)/\(∃x y,IsPair h TO x y)/\h.IsTupleIter i1 a i/\h.IsTupleIter i2 b i) where
 mem:=by simp
 obj:=fun i h st c hc=>by
  obtain⟨h1,h2,⟨x,y,h3⟩,⟨o4,h4,_,d4⟩,⟨o5,h5,_,d5⟩⟩:=st;simp only [AK,At,Bn] at hc;rcases hc with rfl|rfl|rfl|rfl|rfl
  .exact⟨_,h1,fun v q=>by cases q⟩
  .exact⟨_,h2,fun v q=>by cases q⟩
  .exact⟨_,h3,fun v q=>by cases q⟩
  .exact⟨_,h4,fun v q=>by rw [d4] at q;cases q⟩
  .exact⟨_,h5,fun v q=>by rw [d5] at q;cases q⟩
 keep:=fun i h h' st kk=>⟨kk z (by simp) _ st.1,kk TI (by simp) _ st.2.1,st.2.2.1.imp fun x q=>q.imp fun y q=>kk TO (by simp) _ q,st.2.2.2.1.at fun o q=>kk i1 (by simp) o q,st.2.2.2.2.at fun o q=>kk i2 (by simp) o q⟩
 item:=by
  intro X hP hw hK hc i pins s σ H E I hf st hg;subst hP hw hK;obtain⟨xs,x,ys,y,hqa,hqb,hx,hy⟩:=hg;obtain⟨as,ra,pa,za⟩:=I.tuple hqa;obtain⟨bs,rb,pb,zb⟩:=I.tuple hqb;obtain⟨u,hu,ru⟩:=ra.get hx;obtain⟨v,hv,rv⟩:=rb.get hy;obtain⟨hz,hTI,⟨_,_,hTO⟩,h1,h2⟩:=st;have ltz:z<s.heap.objs.size:=AJ hz;refine lE_ D hz hTI hTO h1 h2 (show s.heap.IsTuple a as.toArray from pa) (show s.heap.IsTuple b bs.toArray from pb) (x:=u) (y:=v) (by simpa using hu) (by simpa using hv) fun h' hz' hTO' h1' h2' hT hsz hk=>⟨.ref s.heap.objs.size,rfl, ?_⟩;refine wpAny_letOwnedTupleGo_zip hz' fun h3 hz3 sb=> ?_;have kk:∀c o,c∉[z,TI,TO,i1,i2]->s.heap.get? c=some o->h3.get? c=some o:=fun c o n e=>by
   simp only [AK,At,Bn,not_or] at n;exact(sb.2 c n.1).trans (hk c o n.1 n.2.2.1 n.2.2.2.1 n.2.2.2.2 e)
  have hT3:h3.get? s.heap.objs.size=some {cls:= .type "tuple",data:= .seq #[u,v]}:=(sb.2 _ (BY ltz)).trans hT;have hTI3:IsPair h3 TI (.ref i1) (.ref i2):=(sb.2 _ D.TIz).trans (hk _ _ D.TIz D.TITO D.TIi1 D.TIi2 hTI);refine⟨.ref s.heap.objs.size,upd H s.heap.objs.size (.tup [x,y]),I.turnNew (t':=s.toks) hf kk ⟨by show 2<=sizeLine;decide,[u,v], .cons ru (.cons rv .nil),⟨_,hT3,rfl,_,rfl⟩⟩,rfl,
   ⟨x,y,_,fun zs hy'=>by rw [I.tuple_inj hy' hqa];exact hx,fun zs hy'=>by rw [I.tuple_inj hy' hqb];exact hy,rfl,I.hok.fresh (A9 _),rfl⟩,
   ⟨hz3,hTI3,⟨_,_,(sb.2 _ D.TOz).trans hTO'⟩,h1'.at fun o q=>(sb.2 _ D.i1z).trans q,h2'.at fun o q=>(sb.2 _ D.i2z).trans q⟩,fun c hc=> ?_⟩
  have there:∃o,s.heap.get? c=some o:=by
   simp only [AK,At,Bn] at hc;rcases hc with rfl|rfl|rfl|rfl|rfl
   .exact⟨_,hz⟩
   .exact⟨_,hTI⟩
   .exact⟨_,hTO⟩
   .exact h1.imp fun o q=>q.1
   .exact h2.imp fun o q=>q.1
  obtain⟨o,q⟩:=there;rw [ak_ (AL (AJ q))];exact(hf c hc).1
 done:=by
  intro X hP hw hK hc i pins s σ H E I hf st hg;subst hP hw hK;obtain⟨xs,hqa,hx⟩:=hg;obtain⟨as,ra,pa,za⟩:=I.tuple hqa;obtain⟨hz,hTI,⟨_,_,hTO⟩,h1,h2⟩:=st;have la:=ra.length;refine n0_ (I.ok.hd hc) D hz hTI hTO h1 (show s.heap.IsTuple a as.toArray from pa) (by simp;lia) fun h' hk=>⟨rfl,I.turnAll (t':=s.toks) hf fun c o n e=> ?_⟩;simp only [AK,At,Bn,not_or] at n;exact hk c o n.1 n.2.2.1 n.2.2.2.1 n.2.2.2.2 e
 self:=fun _ _ _ _ _ st h=>wpAny_pyIter_zip st.1 h
section
variable {X:Cx}{elts:List Expr}{k:Nat}{tpos p pos:Pos}{e f:Expr}{te tf:TE}
noncomputable def uU_ (K:W.Frag) (ta:TA):TI:=fun σ H R=>ta σ H fun vs H1=>∃a b,vs=[.ref a, .ref b]/\(∃xs,SqT K H1 a xs)/\(∃ys,SqT K H1 b ys)/\R (ItzT K a b) H1
theorem qA_ {ta:TA} (hg:Gl X "zip") (hm:X.mg "zip"=none) (hl:PA X [e,f] ta) (he:starEach [e,f] X.env=(false,eval e X.env)::starEach [f] X.env:=by rfl) (hp:(backTo pos (starEach [f] X.env)).any (·.1)=false:=by rfl):
  PI X (.Tuple elts k tpos) (.Call (.Name "zip" p) [e,f] [] pos) (uU_ X.K ta):=by
 intro pins s σ H R I h;refine BQ (co_ I hg hm PyProof.Rows.Boot.«zip» ?_);refine B5 (thn (hl _ pins s σ H _ I h) fun us s1 ⟨vs,H1,I1,r1,a,b,ev,⟨xs,hqa⟩,⟨ys,hqb⟩,q⟩=> ?_) he hp;subst ev;obtain⟨u,v,rfl,ru,rv⟩:=lM_ r1;obtain rfl:u=Value.ref a:=ru;obtain rfl:v=Value.ref b:=rv;obtain⟨as,ra,pa,za⟩:=I1.tuple hqa;obtain⟨bs,rb,pb,zb⟩:=I1.tuple hqb;have la:a<s1.heap.objs.size:=let ⟨_,q,_⟩:=pa;AJ q;have lb:b<s1.heap.objs.size:=let ⟨_,q,_⟩:=pb;AJ q;refine nC_ (show s1.heap.IsTuple a as.toArray from pa) (show s1.heap.IsTuple b bs.toArray from pb) fun h' hz hTI hTO h1 h2 hk=> ?_;refine wpAny_pyIter_zip hz ?_;refine⟨_,[_,_,_,_,_],_,_,H1,rfl,I1.kept (t':=s1.toks) hk,lT_ (zipApart_new la lb),⟨hz,hTI,⟨_,_,hTO⟩,h1,h2⟩,fun c hc=> ?_,q⟩;have fr:∀c,s1.heap.objs.size<=c->iG_ X pins H1 c:=fun c z=>I1.fpOk z (I1.hok.fresh z);simp only [AK,At,Bn] at hc;rcases hc with rfl|rfl|rfl|rfl|rfl<;>exact fr _ (by lia)
end
theorem o1_ {K:W.Frag}{a b:Addr}{xs ys:List V}{g:TG}{tb:TS}{D:Ends}{σ:St}{H:Hp} (hn:xs.length=ys.length) (Pv:Nat->St->Hp->Prop) (h0:Pv 0 σ H) (hl:∀i σ H,i<=xs.length->Pv i σ H->SqT K H a xs/\SqT K H b ys)
  (hs:∀i x y σ H p,xs[i]? =some x->ys[i]? =some y->Pv i σ H->H p=none->g (.ref p) σ (upd H p (.tup [x,y])) fun σ2 H2=>tb {D with nx:=Pv (i+1),ct:=Pv (i+1),bk:=D.nx} σ2 H2) (hd:∀σ H,Pv xs.length σ H->D.nx σ H):
  ∃Wq:Nat->Nat->St->Hp->Prop,(∃m,Wq 0 m σ H)/\∀i m σ H,Wq i m σ H->
   ((ItzT K a b).stop i H/\D.nx σ H)\/((ItzT K a b).go i H/\∃N:St->Hp->Prop,(∀σ' H',N σ' H'->∃m',m'<m/\Wq (i+1) m' σ' H')/\∀x H',(ItzT K a b).yld i H x H'->g x σ H' fun σ2 H2=>tb {D with nx:=N,ct:=N,bk:=D.nx} σ2 H2):=by
 refine⟨fun i m σ H=>m=xs.length-i/\i<=xs.length/\Pv i σ H,⟨xs.length,by simp,AO _,h0⟩, ?_⟩;rintro i m σ H ⟨rfl,hi,p⟩;obtain⟨qa,qb⟩:=hl i σ H hi p;by_cases hlt:i<xs.length
 .have ly:i<ys.length:=by lia
  refine .inr ⟨⟨xs,xs[i],ys,ys[i],qa,qb,by simp [hlt],by simp [ly]⟩,Pv (i+1),fun σ' H' p'=>⟨xs.length-(i+1),by lia,rfl,hlt,p'⟩,fun v H' z=> ?_⟩;obtain⟨x,y,pp,e1,e2,e3,e4,e5⟩:=z;subst e3 e5;exact hs i x y σ H pp (e1 xs qa) (e2 ys qb) p e4
 .obtain rfl:i=xs.length:=by lia
  exact .inl ⟨⟨xs,qa,A9 _⟩,hd σ H p⟩
noncomputable def tV_ (K:W.Frag) (ta:TE):TE:=fun σ H Q=>ta σ H fun x H1=>∃p xs,x= .ref p/\SqL K H1 p xs/\Q (.bl xs.isEmpty) H1
theorem qF_ {X:Cx}{a:Expr}{ta:TE}{pos:Pos} (ha:PE X a ta):PE X (.UnaryOp .Not a pos) (tV_ X.K ta):=by
 intro pins s σ H Q I h;refine UnaryOp_ (thn (ha pins s σ H _ I h) fun v s1 ⟨x,H1,I1,r1,q1⟩=> ?_);obtain⟨p,xs,rfl,hx,q⟩:=q1;cases r1;obtain⟨its,r,pl,hz⟩:=I1.list hx;have hlen:=r.length;have hn:=fY_;exact not_of (wpAny_truthy_list pl.isList (by simp only [AE];lia) ⟨.bl xs.isEmpty,H1,I1.tok _,by rw [lm_ r,Bool.not_not];rfl,q⟩)
end L2
namespace Mine
open PySem L2 PyProof.Rows
noncomputable def top (i:Nat):Stmt:=PySem.Challenge.pw_floorcurves_k53_reckoned_wholes.main.body.getD i (.Pass ⟨0,0,0,0⟩)
noncomputable abbrev dX_:Stmt:=top 9
theorem iT_:FnScope ["thing"] ["thing"] (af_ dX_):=⟨rfl,rfl,rfl,by ac_nf,rfl,by ac_nf,by ac_nf⟩
noncomputable abbrev b7_:Stmt:=top 10
theorem eR_:FnScope ["thing","least","greatest"] ["thing","least","greatest"] (af_ b7_):=⟨rfl,rfl,rfl,by ac_nf,rfl,by ac_nf,by ac_nf⟩
noncomputable abbrev dm_:Stmt:=top 11
theorem hu_:FnScope ["d","k"] ["d","k"] (af_ dm_):=⟨rfl,rfl,rfl,by ac_nf,rfl,by ac_nf,by ac_nf⟩
noncomputable abbrev ct_:Stmt:=top 12
theorem fB_:FnScope ["d"] ["d"] (af_ ct_):=⟨rfl,rfl,rfl,by ac_nf,rfl,by ac_nf,by ac_nf⟩
noncomputable abbrev gl_:Stmt:=top 14
theorem by_:FnScope ["number","chosen","found","place"] ["number","chosen"] (af_ gl_):=⟨rfl,rfl,rfl,by ac_nf,rfl,by ac_nf,by ac_nf⟩
noncomputable abbrev gk_:Stmt:=top 16
theorem hw_:FnScope ["thing","number"] ["thing"] (af_ gk_):=⟨rfl,rfl,rfl,by ac_nf,rfl,by ac_nf,by ac_nf⟩
noncomputable abbrev bA_:Stmt:=top 17
theorem dD_:FnScope ["row"] ["row"] (af_ bA_):=⟨rfl,rfl,rfl,by ac_nf,rfl,by ac_nf,by ac_nf⟩
noncomputable abbrev dn_:Stmt:=top 18
theorem hv_:FnScope ["d","held","free"] ["d","held","free"] (af_ dn_):=⟨rfl,rfl,rfl,by ac_nf,rfl,by ac_nf,by ac_nf⟩
noncomputable abbrev dl_:Stmt:=top 20
theorem ht_:FnScope ["numbers","place","more"] ["numbers","place","more"] (af_ dl_):=⟨rfl,rfl,rfl,by ac_nf,rfl,by ac_nf,by ac_nf⟩
noncomputable abbrev cO_:Stmt:=top 21
theorem bK_:FnScope ["numbers","product","number"] ["numbers"] (af_ cO_):=⟨rfl,rfl,rfl,by ac_nf,rfl,by ac_nf,by ac_nf⟩
noncomputable abbrev do_:Stmt:=top 23
theorem hx_:FnScope ["row","length"] ["row","length"] (af_ do_):=⟨rfl,rfl,rfl,by ac_nf,rfl,by ac_nf,by ac_nf⟩
noncomputable abbrev bM_:Stmt:=top 24
theorem a0_:FnScope ["row","found","number","longer","begun"] ["row"] (af_ bM_):=⟨rfl,rfl,rfl,by ac_nf,rfl,by ac_nf,by ac_nf⟩
noncomputable abbrev cr_:Stmt:=top 25
theorem bw_:FnScope ["row","weight","first","missing","found","place"] ["row","weight","first"] (af_ cr_):=⟨rfl,rfl,rfl,by ac_nf,rfl,by ac_nf,by ac_nf⟩
noncomputable abbrev eX_:Stmt:=top 26
theorem ch_:FnScope ["row","chosen","product","number","part"] ["row","chosen"] (af_ eX_):=⟨rfl,rfl,rfl,by ac_nf,rfl,by ac_nf,by ac_nf⟩
noncomputable abbrev bE_:Stmt:=top 27
theorem a8_:FnScope ["row","fuller","found","place","number"] ["row","fuller"] (af_ bE_):=⟨rfl,rfl,rfl,by ac_nf,rfl,by ac_nf,by ac_nf⟩
noncomputable abbrev bS_:Stmt:=top 28
theorem aX_:FnScope ["d","k","held","free","found","place","number","lesser"] ["d","k","held","free"] (af_ bS_):=⟨rfl,rfl,rfl,by ac_nf,rfl,by ac_nf,by ac_nf⟩
noncomputable abbrev aS_:Stmt:=top 29
theorem az_:FnScope ["d","k","held","free","found","kept","freed","lesser"] ["d","k","held","free"] (af_ aS_):=⟨rfl,rfl,rfl,by ac_nf,rfl,by ac_nf,by ac_nf⟩
noncomputable abbrev dW_:Stmt:=top 30
theorem bR_:FnScope ["asked","d","k","held","free"] ["asked"] (af_ dW_):=⟨rfl,rfl,rfl,by ac_nf,rfl,by ac_nf,by ac_nf⟩
noncomputable abbrev eW_:Stmt:=top 31
theorem bQ_:FnScope ["asked","known","total","number","weights","lesser"] ["asked","known"] (af_ eW_):=⟨rfl,rfl,rfl,by ac_nf,rfl,by ac_nf,by ac_nf⟩
noncomputable abbrev d0_:Stmt:=top 32
theorem iV_:FnScope ["d","k","held","free"] ["d","k","held","free"] (af_ d0_):=⟨rfl,rfl,rfl,by ac_nf,rfl,by ac_nf,by ac_nf⟩
noncomputable abbrev eY_:Stmt:=top 33
theorem k6_:FnScope ["d","k","held","free"] ["d","k","held","free"] (af_ eY_):=⟨rfl,rfl,rfl,by ac_nf,rfl,by ac_nf,by ac_nf⟩
noncomputable abbrev bG_:Stmt:=top 35
theorem dV_:FnScope ["d","k"] ["d","k"] (af_ bG_):=⟨rfl,rfl,rfl,by ac_nf,rfl,by ac_nf,by ac_nf⟩
noncomputable abbrev dq_:Stmt:=top 36
theorem hy_:FnScope ["d","k"] ["d","k"] (af_ dq_):=⟨rfl,rfl,rfl,by ac_nf,rfl,by ac_nf,by ac_nf⟩
noncomputable abbrev cN_:Stmt:=top 37
theorem bJ_:FnScope ["d","found","e","k"] ["d"] (af_ cN_):=⟨rfl,rfl,rfl,by ac_nf,rfl,by ac_nf,by ac_nf⟩
noncomputable abbrev dr_:Stmt:=top 38
theorem bf_:FnScope ["table","greatest","found","d","s","number"] ["table","greatest"] (af_ dr_):=⟨rfl,rfl,rfl,by ac_nf,rfl,by ac_nf,by ac_nf⟩
noncomputable abbrev b8_:Stmt:=top 39
theorem a5_:FnScope ["total","wholes","counts","sign","r","rest","s","product"] ["total","wholes","counts","sign"] (af_ b8_):=⟨rfl,rfl,rfl,by ac_nf,rfl,by ac_nf,by ac_nf⟩
noncomputable abbrev bj_:Stmt:=top 40
theorem aR_:FnScope ["counts","wholes","d","e"] ["counts"] (af_ bj_):=⟨rfl,rfl,rfl,by ac_nf,rfl,by ac_nf,by ac_nf⟩
noncomputable abbrev bF_:Stmt:=top 41
theorem bs_:FnScope ["d","k","s","rows"] ["d","k"] (af_ bF_):=⟨rfl,rfl,rfl,by ac_nf,rfl,by ac_nf,by ac_nf⟩
noncomputable abbrev dZ_:Stmt:=top 43
theorem a4_:FnScope ["things","pairs","standing","thing","one","other","kept","left"] ["things","pairs"] (af_ dZ_):=⟨rfl,rfl,rfl,by ac_nf,rfl,by ac_nf,by ac_nf⟩
noncomputable abbrev bk_:Stmt:=top 44
theorem cF_:FnScope ["things","pairs","standing"] ["things","pairs"] (af_ bk_):=⟨rfl,rfl,rfl,by ac_nf,rfl,by ac_nf,by ac_nf⟩
noncomputable abbrev eV_:Stmt:=top 46
theorem cg_:FnScope ["d","drawing","ends","i","j","w"] ["d","drawing"] (af_ eV_):=⟨rfl,rfl,rfl,by ac_nf,rfl,by ac_nf,by ac_nf⟩
noncomputable abbrev iX_:Stmt:=top 47
theorem oi_:FnScope ["d","drawing"] ["d","drawing"] (af_ iX_):=⟨rfl,rfl,rfl,by ac_nf,rfl,by ac_nf,by ac_nf⟩
noncomputable abbrev mb_:Stmt:=top 48
theorem qm_:FnScope ["lift"] ["lift"] (af_ mb_):=⟨rfl,rfl,rfl,by ac_nf,rfl,by ac_nf,by ac_nf⟩
noncomputable abbrev cQ_:Stmt:=top 49
theorem bL_:FnScope ["d","floor","weight","spare","found","j","w"] ["d","floor","weight","spare"] (af_ cQ_):=⟨rfl,rfl,rfl,by ac_nf,rfl,by ac_nf,by ac_nf⟩
noncomputable abbrev eU_:Stmt:=top 50
theorem cf_:FnScope ["lifts","weight","spare","found","place","lift","rest"] ["lifts","weight","spare"] (af_ eU_):=⟨rfl,rfl,rfl,by ac_nf,rfl,by ac_nf,by ac_nf⟩
noncomputable abbrev bz_:Stmt:=top 51
theorem a7_:FnScope ["d","floor","drawing","spare","there","found","lifts","ends","left"] ["d","floor","drawing","spare"] (af_ bz_):=⟨rfl,rfl,rfl,by ac_nf,rfl,by ac_nf,by ac_nf⟩
noncomputable abbrev c1_:Stmt:=top 52
theorem bc_:FnScope ["d","k","begun","floor","longer","drawing","spare"] ["d","k"] (af_ c1_):=⟨rfl,rfl,rfl,by ac_nf,rfl,by ac_nf,by ac_nf⟩
noncomputable abbrev gj_:Stmt:=top 53
theorem oj_:FnScope ["d","drawing"] ["d","drawing"] (af_ gj_):=⟨rfl,rfl,rfl,by ac_nf,rfl,by ac_nf,by ac_nf⟩
noncomputable abbrev iW_:Stmt:=top 54
theorem ez_:FnScope ["drawing","product","lift"] ["drawing"] (af_ iW_):=⟨rfl,rfl,rfl,by ac_nf,rfl,by ac_nf,by ac_nf⟩
noncomputable abbrev cP_:Stmt:=top 56
theorem gi_:FnScope ["d","drawing"] ["d","drawing"] (af_ cP_):=⟨rfl,rfl,rfl,by ac_nf,rfl,by ac_nf,by ac_nf⟩
noncomputable abbrev dp_:Stmt:=top 57
theorem b3_:FnScope ["d","drawing","found","place","number"] ["d","drawing"] (af_ dp_):=⟨rfl,rfl,rfl,by ac_nf,rfl,by ac_nf,by ac_nf⟩
noncomputable abbrev cs_:Stmt:=top 58
theorem a1_:FnScope ["numbers","first","last","alike","found","here","choices","fuller","others"] ["numbers","first","last","alike"] (af_ cs_):=⟨rfl,rfl,rfl,by ac_nf,rfl,by ac_nf,by ac_nf⟩
noncomputable abbrev bt_:Stmt:=top 59
theorem av_:FnScope ["d","marks","known","mark","fuller","numbers","further","choices"] ["d","marks"] (af_ bt_):=⟨rfl,rfl,rfl,by ac_nf,rfl,by ac_nf,by ac_nf⟩
noncomputable abbrev dY_:Stmt:=top 60
theorem iU_:FnScope ["d","drawing"] ["d","drawing"] (af_ dY_):=⟨rfl,rfl,rfl,by ac_nf,rfl,by ac_nf,by ac_nf⟩
noncomputable abbrev aQ_:Stmt:=top 61
theorem b2_:FnScope ["d","k","whole"] ["d","k"] (af_ aQ_):=⟨rfl,rfl,rfl,by ac_nf,rfl,by ac_nf,by ac_nf⟩
noncomputable abbrev ca_:Stmt:=top 63
theorem eT_:FnScope ["_law_script","_law_k"] ["_law_script","_law_k"] (af_ ca_):=⟨rfl,rfl,rfl,by ac_nf,rfl,by ac_nf,by ac_nf⟩
noncomputable abbrev cR_:Stmt:=top 64
theorem a9_:FnScope ["_law_cell","_law_x","_law_found","_law_k"] ["_law_cell"] (af_ cR_):=⟨rfl,rfl,rfl,by ac_nf,rfl,by ac_nf,by ac_nf⟩
noncomputable abbrev cS_:Stmt:=top 65
theorem dE_:FnScope ["_law_rest","_law_m","_law_digit_here"] ["_law_rest","_law_m"] (af_ cS_):=⟨rfl,rfl,rfl,by ac_nf,rfl,by ac_nf,by ac_nf⟩
noncomputable abbrev d1_:Stmt:=top 66
theorem dk_:FnScope ["_law_rest","_law_least","_law_most","_law_way","_law_far"] ["_law_rest","_law_least","_law_most"] (af_ d1_):=⟨rfl,rfl,rfl,by ac_nf,rfl,by ac_nf,by ac_nf⟩
noncomputable abbrev b9_:Stmt:=top 67
theorem cM_:FnScope ["_law_d","_law_k","e"] ["_law_d","_law_k"] (af_ b9_):=⟨rfl,rfl,rfl,by ac_nf,rfl,by ac_nf,by ac_nf⟩
noncomputable abbrev qn_:Stmt:=top 68
theorem eS_:FnScope ["_law_script","_law_rest","_law_d","_law_k","_law_found","_law_way"] ["_law_script"] (af_ qn_):=⟨rfl,rfl,rfl,by ac_nf,rfl,by ac_nf,by ac_nf⟩
set_option genInjectivity false
set_option genSizeOfSpec false
structure Fb (K:W.Frag) (mg:Str->Option Value) (n:Str) (st:Stmt) (ps:List Str) (f:Addr) (d:FuncData):Prop where
 F:Fun K n n st f d
 B:lA_ K d ps []
 m:mg n=some (.ref f)
structure Fns (K:W.Frag) (mg:Str->Option Value) where
 f0:Addr
 d0:FuncData
 f1:Addr
 d1:FuncData
 f2:Addr
 d2:FuncData
 f3:Addr
 d3:FuncData
 f4:Addr
 d4:FuncData
 f5:Addr
 d5:FuncData
 f6:Addr
 d6:FuncData
 f7:Addr
 d7:FuncData
 f8:Addr
 d8:FuncData
 f9:Addr
 d9:FuncData
 f10:Addr
 d10:FuncData
 f11:Addr
 d11:FuncData
 f12:Addr
 d12:FuncData
 f13:Addr
 d13:FuncData
 f14:Addr
 d14:FuncData
 f15:Addr
 d15:FuncData
 f16:Addr
 d16:FuncData
 f17:Addr
 d17:FuncData
 f18:Addr
 d18:FuncData
 f19:Addr
 d19:FuncData
 f20:Addr
 d20:FuncData
 f21:Addr
 d21:FuncData
 f22:Addr
 d22:FuncData
 f23:Addr
 d23:FuncData
 f24:Addr
 d24:FuncData
 f25:Addr
 d25:FuncData
 f26:Addr
 d26:FuncData
 f27:Addr
 d27:FuncData
 f28:Addr
 d28:FuncData
 f29:Addr
 d29:FuncData
 f30:Addr
 d30:FuncData
 f31:Addr
 d31:FuncData
 f32:Addr
 d32:FuncData
 f33:Addr
 d33:FuncData
 f34:Addr
 d34:FuncData
 f35:Addr
 d35:FuncData
 f36:Addr
 d36:FuncData
 f37:Addr
 d37:FuncData
 f38:Addr
 d38:FuncData
 f39:Addr
 d39:FuncData
 f40:Addr
 d40:FuncData
 f41:Addr
 d41:FuncData
 f42:Addr
 d42:FuncData
 f43:Addr
 d43:FuncData
 f44:Addr
 d44:FuncData
 f45:Addr
 d45:FuncData
 f46:Addr
 d46:FuncData
 f47:Addr
 d47:FuncData
 f48:Addr
 d48:FuncData
 f49:Addr
 d49:FuncData
 f50:Addr
 d50:FuncData
 X0:Fb K mg "is_whole" dX_ ["thing"] f0 d0
 X1:Fb K mg "need_between" b7_ ["thing","least","greatest"] f1 d1
 X2:Fb K mg "need_wide" dm_ ["d","k"] f2 d2
 X3:Fb K mg "need_degree" ct_ ["d"] f3 d3
 X4:Fb K mg "choose" gl_ ["number","chosen"] f4 d4
 X5:Fb K mg "is_row" gk_ ["thing"] f5 d5
 X6:Fb K mg "row_weight" bA_ ["row"] f6 d6
 X7:Fb K mg "need_rows" dn_ ["d","held","free"] f7 d7
 X8:Fb K mg "with_more" dl_ ["numbers","place","more"] f8 d8
 X9:Fb K mg "product_of" cO_ ["numbers"] f9 d9
 X10:Fb K mg "filled_up" do_ ["row","length"] f10 d10
 X11:Fb K mg "rows_within" bM_ ["row"] f11 d11
 X12:Fb K mg "rows_beyond" cr_ ["row","weight","first"] f12 d12
 X13:Fb K mg "choices" eX_ ["row","chosen"] f13 d13
 X14:Fb K mg "weights_gained" bE_ ["row","fuller"] f14 d14
 X15:Fb K mg "with_one_held" bS_ ["d","k","held","free"] f15 d15
 X16:Fb K mg "with_one_degree_fewer" aS_ ["d","k","held","free"] f16 d16
 X17:Fb K mg "summands" dW_ ["asked"] f17 d17
 X18:Fb K mg "counted" eW_ ["asked","known"] f18 d18
 X19:Fb K mg "asked_of" d0_ ["d","k","held","free"] f19 d19
 X20:Fb K mg "by_ends" eY_ ["d","k","held","free"] f20 d20
 X21:Fb K mg "points_through" bG_ ["d","k"] f21 d21
 X22:Fb K mg "count_row" dq_ ["d","k"] f22 d22
 X23:Fb K mg "rows_up_to" cN_ ["d"] f23 d23
 X24:Fb K mg "by_degree" dr_ ["table","greatest"] f24 d24
 X25:Fb K mg "add_products" b8_ ["total","wholes","counts","sign"] f25 d25
 X26:Fb K mg "wholes_by_degree" bj_ ["counts"] f26 d26
 X27:Fb K mg "reckoned_whole" bF_ ["d","k"] f27 d27
 X28:Fb K mg "gathered" dZ_ ["things","pairs"] f28 d28
 X29:Fb K mg "how_many_sets" bk_ ["things","pairs"] f29 d29
 X30:Fb K mg "ends_at" eV_ ["d","drawing"] f30 d30
 X31:Fb K mg "sound" iX_ ["d","drawing"] f31 d31
 X32:Fb K mg "lost" mb_ ["lift"] f32 d32
 X33:Fb K mg "lifts_from" cQ_ ["d","floor","weight","spare"] f33 d33
 X34:Fb K mg "leaving" eU_ ["lifts","weight","spare"] f34 d34
 X35:Fb K mg "with_floor" bz_ ["d","floor","drawing","spare"] f35 d35
 X36:Fb K mg "drawings" c1_ ["d","k"] f36 d36
 X37:Fb K mg "parts" gj_ ["d","drawing"] f37 d37
 X38:Fb K mg "worth" iW_ ["drawing"] f38 d38
 X39:Fb K mg "need_sound" cP_ ["d","drawing"] f39 d39
 X40:Fb K mg "end_marks" dp_ ["d","drawing"] f40 d40
 X41:Fb K mg "put_between" cs_ ["numbers","first","last","alike"] f41 d41
 X42:Fb K mg "how_many_orders" bt_ ["d","marks"] f42 d42
 X43:Fb K mg "how_many" dY_ ["d","drawing"] f43 d43
 X44:Fb K mg "whole_by_floors" aQ_ ["d","k"] f44 d44
 X45:Fb K mg "_law_cell_at" ca_ ["_law_script","_law_k"] f45 d45
 X46:Fb K mg "_law_great" cR_ ["_law_cell"] f46 d46
 X47:Fb K mg "_law_digit" cS_ ["_law_rest","_law_m"] f47 d47
 X48:Fb K mg "_law_odd" d1_ ["_law_rest","_law_least","_law_most"] f48 d48
 X49:Fb K mg "_law_refused" b9_ ["_law_d","_law_k"] f49 d49
 X50:Fb K mg "law" qn_ ["_law_script"] f50 d50
 n_isinstance:mg "isinstance"=none
 n_int:mg "int"=none
 n_bool:mg "bool"=none
 n_range:mg "range"=none
 n_list:mg "list"=none
 n_sum:mg "sum"=none
 n_enumerate:mg "enumerate"=none
 n_tuple:mg "tuple"=none
 n_len:mg "len"=none
 n_min:mg "min"=none
 n_zip:mg "zip"=none
 n_dict:mg "dict"=none
 n_sorted:mg "sorted"=none
 n_set:mg "set"=none
 n_ValueError:mg "ValueError"=none
 a_WIDE:Addr
 m_WIDE:mg "WIDE"=some (.ref a_WIDE)
 D_WIDE:kD_ K a_WIDE [(1,6),(2,6),(3,6),(4,6),(5,3)]=true
 c_NoBound:Addr
 m_NoBound:mg "NoBound"=some (.ref c_NoBound)
 c_NoEnds:Addr
 m_NoEnds:mg "NoEnds"=some (.ref c_NoEnds)
 c_NoDrawing:Addr
 m_NoDrawing:mg "NoDrawing"=some (.ref c_NoDrawing)
 c_CurveError:Addr
 m_CurveError:mg "CurveError"=some (.ref c_CurveError)
 c_NoNumber:Addr
 m_NoNumber:mg "NoNumber"=some (.ref c_NoNumber)
 c_NoText:Addr
 m_NoText:mg "NoText"=some (.ref c_NoText)
 x_NoBound:W.excIn K c_NoBound bmV "ValueError.__new__"=true
 X_NoBound:XC K c_NoBound
 x_NoEnds:W.excIn K c_NoEnds bmV "ValueError.__new__"=true
 X_NoEnds:XC K c_NoEnds
 x_NoDrawing:W.excIn K c_NoDrawing bmV "ValueError.__new__"=true
 X_NoDrawing:XC K c_NoDrawing
 e_NoBound_CurveError:W.exmOne K (.ref c_NoBound) (.ref c_CurveError)=some true
 e_NoEnds_CurveError:W.exmOne K (.ref c_NoEnds) (.ref c_CurveError)=some true
 e_NoDrawing_CurveError:W.exmOne K (.ref c_NoDrawing) (.ref c_CurveError)=some true
 k_NoBound_NoBound:W.kitOne K (.ref c_NoBound) (.ref c_NoBound)=some true
 k_NoBound_ValueError:W.kitOne K (.ref c_NoBound) (.type "ValueError")=some true
 k_NoEnds_NoBound:W.kitOne K (.ref c_NoEnds) (.ref c_NoBound)=some false
 k_NoEnds_ValueError:W.kitOne K (.ref c_NoEnds) (.type "ValueError")=some true
 k_NoDrawing_NoBound:W.kitOne K (.ref c_NoDrawing) (.ref c_NoBound)=some false
 k_NoDrawing_ValueError:W.kitOne K (.ref c_NoDrawing) (.type "ValueError")=some true
 ks_NoBound_0:W.kitAny K (.ref c_NoBound) [(.ref c_NoDrawing),(.ref c_NoEnds),(.ref c_NoNumber),(.ref c_NoText)]=some false
 ks_NoEnds_1:W.kitAny K (.ref c_NoEnds) [(.ref c_NoDrawing),(.ref c_NoEnds),(.ref c_NoNumber),(.ref c_NoText)]=some true
 ks_NoDrawing_2:W.kitAny K (.ref c_NoDrawing) [(.ref c_NoDrawing),(.ref c_NoEnds),(.ref c_NoNumber),(.ref c_NoText)]=some true
noncomputable abbrev Lf:=Int×Int×Int
noncomputable def ed_ (e:List Int) (p:Lf):List Int:=(e.set (p.1-1).toNat (e.getD (p.1-1).toNat 0-p.2.2)).set (p.2.1-1).toNat ((e.set (p.1-1).toNat (e.getD (p.1-1).toNat 0-p.2.2)).getD (p.2.1-1).toNat 0+p.2.2)
noncomputable def bD_ (n:Nat) (ps:List Lf):List Int:=ps.foldl ed_ (List.replicate n 1)
noncomputable def fE_ (ps:List Lf) (f:Int):Int:=((ps.filter fun p=>decide (p.2.1=f)).map (·.2.2)).sum
noncomputable def df_ (ps:List Lf) (f:Int):Int:=((ps.filter fun p=>decide (p.1=f)).map (·.2.2)).sum
noncomputable def Okl (n:Nat) (p:Lf):Prop:=1<=p.1/\p.1<=n/\1<=p.2.1/\p.2.1<=n
theorem g4_ {l:List Int}{i j:Nat}{v:Int} (h:i<l.length):(l.set i v).getD j 0=if i=j then v else l.getD j 0:=by
 rw [List.getD,List.getElem?_set];by_cases e:i=j
 .subst e;rw [A6 rfl,A6 rfl,A6 h];rfl
 .rw [A3 e,A3 e];rfl
theorem mX_ {e:List Int}{p:Lf}:(ed_ e p).length=e.length:=by unfold ed_;rw [Bm,Bm]
theorem oM_ {n:Nat}{e:List Int}{p:Lf} (he:e.length=n) (hp:Okl n p) (i:Nat):(ed_ e p).getD i 0=e.getD i 0+(if p.2.1=1+(i:Int) then p.2.2 else 0)-(if p.1=1+(i:Int) then p.2.2 else 0):=by
 obtain⟨h1,h2,h3,h4⟩:=hp;unfold ed_;have a1:(p.1-1).toNat<e.length:=by lia
 rw [g4_ (by rw [Bm];lia),g4_ a1];by_cases c1:(p.2.1-1).toNat=i
 .have d1:p.2.1=1+(i:Int):=by lia
  rw [A6 c1,A6 d1,c1];by_cases c2:(p.1-1).toNat=i
  .have d2:p.1=1+(i:Int):=by lia
   rw [A6 c2,A6 d2,c2];lia
  .have d2:¬p.1=1+(i:Int):=by lia
   rw [A3 c2,A3 d2];lia
 .have d1:¬p.2.1=1+(i:Int):=by lia
  rw [A3 c1,A3 d1,g4_ a1];by_cases c2:(p.1-1).toNat=i
  .have d2:p.1=1+(i:Int):=by lia
   rw [A6 c2,A6 d2,c2];lia
  .have d2:¬p.1=1+(i:Int):=by lia
   rw [A3 c2,A3 d2];lia
theorem ek_ (p:Lf) (ps:List Lf) (f:Int):fE_ (p::ps) f=(if p.2.1=f then p.2.2 else 0)+fE_ ps f:=by
 unfold fE_;rw [CD];by_cases h:p.2.1=f<;>simp [h]
theorem dy_ (p:Lf) (ps:List Lf) (f:Int):df_ (p::ps) f=(if p.1=f then p.2.2 else 0)+df_ ps f:=by
 unfold df_;rw [CD];by_cases h:p.1=f<;>simp [h]
theorem g6_ {n:Nat}:∀(ps:List Lf) (e:List Int),e.length=n->(∀p∈ps,Okl n p)->(ps.foldl ed_ e).length=n/\∀i:Nat,(ps.foldl ed_ e).getD i 0=e.getD i 0+fE_ ps (1+(i:Int))-df_ ps (1+(i:Int))
 |[],e,he,_=>⟨he,fun i=>by simp [fE_,df_]⟩
 |p::ps,e,he,h=>by
  rw [CI];obtain⟨h1,h2⟩:=g6_ ps (ed_ e p) (by rw [mX_];exact he) fun q hq=>h q (by simp [hq]);refine⟨h1,fun i=> ?_⟩;rw [h2 i,oM_ he (h p (by simp)) i,ek_,dy_];lia
theorem eH_ (n:Nat) (ps:List Lf) (h:∀p∈ps,Okl n p):(bD_ n ps).length=n:=(g6_ ps _ (by simp) h).1
noncomputable def back (xs:List Int):Lf:=(xs.getD 0 0,xs.getD 1 0,xs.getD 2 0)
noncomputable def hi_ (p:Lf):List Int:=[p.1,p.2.1,p.2.2]
theorem kQ_ (p:Lf):back (hi_ p)=p:=rfl
noncomputable def jn_ (L:Nat->Int) (p:Int×Int):Nat->Int:=fun t=>if L t=L (p.2-1).toNat then L (p.1-1).toNat else L t
noncomputable def f0_ (ps:List (Int×Int)):Nat->Int:=ps.foldl jn_ fun t=>1+(t:Int)
noncomputable def Okp (d:Nat) (p:Int×Int):Prop:=1<=p.1/\p.1<=d/\1<=p.2/\p.2<=d
noncomputable def rh_ (d:Nat) (L:Nat->Int):List Nat:=(List.range d).filter fun t=>decide (L t=1+(t:Int))
theorem em_:∀(n:Nat) (l:List Nat),l.Nodup->(∀x∈l,x<n)->l.length<=n
 |0,l,_,h=>by
  cases l with
  |nil=>simp
  |cons x l=>exact absurd (h x (by simp)) (by lia)
 |n+1,l,hn,h=>by
  have h1:(l.erase n).length<=n:=em_ n (l.erase n) (hn.erase n) fun x hx=>by
   have:=(hn.mem_erase_iff).mp hx;have:=h x this.2;lia
  have h2:=List.length_erase (a:=n) (l:=l);split at h2<;>lia
noncomputable def d7_ (ps:List Lf):List (Int×Int):=ps.map fun p=>(p.1,p.2.1)
theorem oz_ {d:Nat}{ps:List Lf} (h:∀p∈ps,Okl d p):∀p∈d7_ ps,Okp d p:=fun p hp=>by
 obtain⟨q,hq,rfl⟩:=Ab.mp hp;exact h q hq
theorem jp_ {ks:List Int}{i:Nat} (h:i<ks.length):(ks.map V.int)[i]? =some (.int (ks.getD i 0)):=by rw [A8,A4 h];simp [List.getD,h]
theorem map_set {l:List Int}{i:Nat}{v:Int}:(l.set i v).map V.int=(l.map V.int).set i (.int v):=by rw [List.map_set]
noncomputable def lf (p:Lf):D:=tI (hi_ p)
noncomputable def lfs (ps:List Lf):D:= .l (ps.map lf)
theorem hM_ {H:Hp}{p:Lf}{v:V} (h:Is H (lf p) v):∃a,v= .ref a/\H a=some (.tup [.int p.1, .int p.2.1, .int p.2.2]):=cz_ h
theorem nb_ {H:Hp}{p:Lf}{a:Addr} (h:H a=some (.tup [.int p.1, .int p.2.1, .int p.2.2])):Is H (lf p) (.ref a):=h9_ (xs:=hi_ p) h
theorem ka_ (ps:List Lf):lfs ps= .l ((ps.map hi_).map tI):=by unfold lfs;rw [BO];rfl
noncomputable def bI_ (H H':Hp):Prop:=∀a xs,H a=some (.tup xs)->H' a=some (.tup xs)
theorem bI_.of_same {H H':Hp} (s:ao_ H H'):bI_ H H':=fun a xs e=>s _ _ e
theorem bI_.trans {H H' H'':Hp} (s:bI_ H H') (t:bI_ H' H''):bI_ H H'':=fun a xs e=>t _ _ (s _ _ e)
theorem bI_.upd {H:Hp}{b:Addr}{zs ys:List V} (hb:H b=some (.lst zs)):bI_ H (L2.upd H b (.lst ys)):=fun a xs e=>by
 rw [ak_ (by rintro rfl;rw [hb] at e;cases e)];exact e
theorem kp_ {H H':Hp} (t:bI_ H H'):∀{ps:List Lf}{vs:List V},Iss H (ps.map lf) vs->Iss H' (ps.map lf) vs
 |[],_,h=>by rw [bm_ h];exact am_
 |p::ps,_,h=>by
  obtain⟨u,us,rfl,h1,h2⟩:=ay_ h;obtain⟨a,rfl,ha⟩:=hM_ h1;exact ai_ (nb_ (t _ _ ha)) (kp_ t h2)
noncomputable def eE_ (p q:Lf):Bool:=if p.1=q.1 then(if p.2.1=q.2.1 then decide (p.2.2<q.2.2) else decide (p.2.1<q.2.1)) else decide (p.1<q.1)
noncomputable def jj_:List Lf->List Lf->Bool
 |_,[]=>false
 |[],_::_=>true
 |x::xs,y::ys=>if x=y then jj_ xs ys else eE_ x y
theorem pJ_ {K:W.Frag}{H:Hp}{p q:Lf}{v w:V} (h:Is H (lf p) v) (k:Is H (lf q) w):EqR K H 1 v w (decide (p=q)):=by
 have e:=h.eqr (K:=K) (n:=1) (by simp [lf,tI,hi_,dep,nY_]) (by simp [lf,tI,hi_,Kin,nQ_]) k;have:eqD (lf p) (lf q)=decide (p=q):=by
  obtain⟨a,b,c⟩:=p;obtain⟨d,e,f⟩:=q;simp [lf,tI,hi_,eqD,kC_,Bool.and_assoc]
 rwa [this] at e
theorem sS_ {K:W.Frag}{H:Hp}{p q:Lf}{v w:V} (h:Is H (lf p) v) (k:Is H (lf q) w):LtR K H 1 v w (eE_ p q):=by
 obtain⟨a,rfl,ha⟩:=hM_ h;obtain⟨b,rfl,hb⟩:=hM_ k;have e:=LtR.tuples (K:=K) (H:=H) (d:=0) (a:=a) (b:=b) (fun j=>if j=0 then decide (p.1=q.1) else if j=1 then decide (p.2.1=q.2.1) else decide (p.2.2=q.2.2)) (fun j=>if j=0 then decide (p.1<q.1) else if j=1 then decide (p.2.1<q.2.1) else decide (p.2.2<q.2.2)) (SqT.of ha) (SqT.of hb) (fun j x y hx hy=> ?_) (fun j x y hx hy _=> ?_)
 .have e2:SeqAt.lex (fun j=>if j=0 then decide (p.1=q.1) else if j=1 then decide (p.2.1=q.2.1) else decide (p.2.2=q.2.2)) (fun j=>if j=0 then decide (p.1<q.1) else if j=1 then decide (p.2.1<q.2.1) else decide (p.2.2<q.2.2)) 3 3 3 0=eE_ p q:=by
   unfold eE_;by_cases e0:p.1=q.1
   .by_cases e1:p.2.1=q.2.1
    .by_cases e2:p.2.2=q.2.2
     .simp [SeqAt.lex,e0,e1,e2]
     .simp [SeqAt.lex,e0,e1,e2]
    .simp [SeqAt.lex,e0,e1]
   .simp [SeqAt.lex,e0]
  exact e2▸e
 .match j,hx,hy with
  |0,hx,hy=>cases hx;cases hy;exact EqR.int 0 _ _
  |1,hx,hy=>cases hx;cases hy;exact EqR.int 0 _ _
  |2,hx,hy=>cases hx;cases hy;exact EqR.int 0 _ _
  |j+3,hx,_=>simp at hx
 .match j,hx,hy with
  |0,hx,hy=>cases hx;cases hy;exact LtR.int 0 _ _
  |1,hx,hy=>cases hx;cases hy;exact LtR.int 0 _ _
  |2,hx,hy=>cases hx;cases hy;exact LtR.int 0 _ _
  |j+3,hx,_=>simp at hx
theorem m0_ (p q:List Lf):∀(k i:Nat),min p.length q.length-i=k->i<=min p.length q.length->SeqAt.lex (fun j=>decide (p.getD j (0,0,0)=q.getD j (0,0,0))) (fun j=>eE_ (p.getD j (0,0,0)) (q.getD j (0,0,0))) p.length q.length k i=jj_ (p.drop i) (q.drop i)
 |0,i,hk,hi=>by
  rw [SeqAt.lex];rcases(by lia:q.length=i\/(p.length=i/\i<q.length)) with e|⟨e,e2⟩
  .rw [List.drop_of_length_le (l:=q) (by lia)];have:¬p.length<q.length:=by lia
   cases p.drop i<;>simp [jj_,this]
  .rw [List.drop_of_length_le (l:=p) (by lia),Bi e2];have:p.length<q.length:=by lia
   simp [jj_,this]
 |k+1,i,hk,hi=>by
  have h1:i<p.length:=by lia
  have h2:i<q.length:=by lia
  have g1:p.getD i (0,0,0)=p[i]:=by simp [List.getD,h1]
  have g2:q.getD i (0,0,0)=q[i]:=by simp [List.getD,h2]
  rw [SeqAt.lex,Bi h1,Bi h2,jj_,g1,g2];by_cases e:p[i]=q[i]
  .rw [A6 (B9 e),A6 e];exact m0_ p q k (i+1) (by lia) (by lia)
  .rw [A3 (by simpa using e),A3 e]
theorem mZ_ {K:W.Frag}{H:Hp}{p q:List Lf}{vs ws:List V} (h:Iss H (p.map lf) vs) (k:Iss H (q.map lf) ws):
  (∀(j:Nat) x y,vs[j]? =some x->ws[j]? =some y->EqR K H 1 x y (decide (p.getD j (0,0,0)=q.getD j (0,0,0))))/\(∀(j:Nat) x y,vs[j]? =some x->ws[j]? =some y->decide (p.getD j (0,0,0)=q.getD j (0,0,0))=false->LtR K H 1 x y (eE_ (p.getD j (0,0,0)) (q.getD j (0,0,0)))):=by
 have go:∀(j:Nat) x y,vs[j]? =some x->ws[j]? =some y->Is H (lf (p.getD j (0,0,0))) x/\Is H (lf (q.getD j (0,0,0))) y:=fun j x y hx hy=>by
  obtain⟨d,hd,h1⟩:=h.of_get hx;obtain⟨e,he,h2⟩:=k.of_get hy;rw [A8] at hd he;obtain⟨d',hd',rfl⟩:=A5.mp hd;obtain⟨e',he',rfl⟩:=A5.mp he;rw [List.getD,hd',List.getD,he'];exact⟨h1,h2⟩
 exact⟨fun j x y hx hy=>pJ_ (go j x y hx hy).1 (go j x y hx hy).2,fun j x y hx hy _=>sS_ (go j x y hx hy).1 (go j x y hx hy).2⟩
theorem rr_ {K:W.Frag}{H:Hp}{p q:List Lf}{v w:V} (h:Is H (lfs p) v) (k:Is H (lfs q) w):Ask K H v w (jj_ p q):=by
 obtain⟨a,vs,rfl,ha,h⟩:=cn_ h;obtain⟨b,ws,rfl,hb,k⟩:=cn_ k;obtain⟨e1,e2⟩:=mZ_ (K:=K) h k;refine⟨a,b,vs,ws,1,_,_,rfl,rfl,SqL.of ha,SqL.of hb,by decide,e1,e2, ?_⟩;rw [h.length,k.length,A1,A1,m0_ p q _ 0 (Nat.sub_zero _) (AO _),List.drop_zero,List.drop_zero]
noncomputable def nw (H0 H:Hp):Hp:=fun b=>match H0 b with|some (.lst _)=>none|_=>H b
theorem bn_ {H0 H:Hp}:ao_ (nw H0 H) H:=fun b o e=>by
 unfold nw at e;split at e
 .cases e
 .exact e
theorem du_ {H0 H H':Hp} (s:ao_ H H'):ao_ (nw H0 H) (nw H0 H'):=fun b o e=>by
 unfold nw at e⊢;split at e
 .cases e
 .exact s _ _ e
theorem gH_ {H0 H1 H:Hp} (s:ao_ H0 H1):ao_ (nw H1 H) (nw H0 H):=fun b o e=>by
 unfold nw at e⊢;split at e
 .cases e
 .rename_i h;split
  .rename_i xs h0;exact absurd (s _ _ h0) (h xs)
  .exact e
theorem j1_ {H0 H1 H:Hp}{a:Addr}{xs:List V} (s:ao_ H0 H1) (ha:H1 a=some (.lst xs)):ao_ (nw H1 H) (hid (nw H0 H) a):=fun b o e=>by
 have hb:b≠a:=by
  rintro rfl;unfold nw at e;rw [ha] at e;cases e
 rw [ku_ hb];exact gH_ s b o e
theorem cV_ {H0 H:Hp}{a:Addr} (h:H0 a=none):nw H0 H a=H a:=by unfold nw;rw [h]
theorem j0_ {H0 H:Hp}{a:Addr}{xs:List V} (s:ao_ H0 H) (h:H a=some (.tup xs)):nw H0 H a=some (.tup xs):=by
 unfold nw;split
 .rename_i ys e;rw [s _ _ e] at h;cases h
 .exact h
theorem sN_ {H0 H:Hp}{ps:List Lf}{vs:List V} (s:ao_ H0 H) (h:Iss H (ps.map lf) vs):Iss (nw H0 H) (ps.map lf) vs:=kp_ (fun a xs e=>j0_ s e) h
theorem px_ {H0 H:Hp}{ps:List Lf}{a:Addr} (s:ao_ H0 H) (n:H0 a=none) (h:Is H (lfs ps) (.ref a)):Is (nw H0 H) (lfs ps) (.ref a):=by
 obtain⟨_,vs,e,ha,hi⟩:=cn_ h;cases e;exact c8_ (by rw [cV_ n];exact ha) (sN_ s hi)
noncomputable def Acc (H0 H:Hp) (a:Addr) (xs:List D):Prop:=∃vs,H a=some (.lst vs)/\Iss (hid (nw H0 H) a) xs vs
theorem Acc.start {H0 H:Hp}{a:Addr} (h:H a=some (.lst [])):Acc H0 H a []:=⟨[],h,am_⟩
theorem Acc.mono {H0 H H':Hp}{a:Addr}{xs:List D} (s:ao_ H H') (g:Acc H0 H a xs):Acc H0 H' a xs:=let ⟨vs,e,h⟩:=g;⟨vs,s _ _ e,h.mono (c6_ (du_ s))⟩
theorem f2_ {H0 H:Hp}{a:Addr}{o:HO}:hid (nw H0 (upd H a o)) a=hid (nw H0 H) a:=by
 funext b
 unfold hid;split
 .rfl
 .rename_i h;unfold nw;rw [ak_ h]
theorem Acc.add {H0 H1 H2:Hp}{a:Addr}{xs:List D}{x:D}{vs:List V}{v:V} (s01:ao_ H0 H1) (s12:ao_ H1 H2) (ha:H1 a=some (.lst vs)) (h:Iss (hid (nw H0 H1) a) xs vs) (k:Is (nw H1 H2) x v):Acc H0 (upd H2 a (.lst (vs++[v]))) a (xs++[x]):=
 ⟨vs++[v],ag_,by rw [f2_];exact(h.mono (c6_ (du_ s12))).append (ai_ (k.mono (j1_ s01 ha)) am_)⟩
theorem Acc.adds {H0 H1 H2:Hp}{a:Addr}{xs ys:List D}{vs us:List V} (s01:ao_ H0 H1) (s12:ao_ H1 H2) (ha:H1 a=some (.lst vs)) (h:Iss (hid (nw H0 H1) a) xs vs) (k:Iss (nw H1 H2) ys us):Acc H0 (upd H2 a (.lst (vs++us))) a (xs++ys):=
 ⟨vs++us,ag_,by rw [f2_];exact(h.mono (c6_ (du_ s12))).append (k.mono (j1_ s01 ha))⟩
theorem Acc.is {H0 H:Hp}{a:Addr}{xs:List D} (n:H0 a=none) (g:Acc H0 H a xs):Is (nw H0 H) (.l xs) (.ref a):=let ⟨_,e,h⟩:=g;c8_ (by rw [cV_ n];exact e) (h.mono kt_)
noncomputable def bO_ (p:Lf):Int:=(p.2.1-p.1)*p.2.2-1
noncomputable def nW_ (f j:Int) (n:Nat) (sp:Int):List Lf:=((List.range n).map fun w:Nat=>((f,j,1+(w:Int)):Lf)).filter fun p=>decide (bO_ p<=sp)
noncomputable def lj_ (f:Int) (m n:Nat) (sp:Int):List Lf:=(List.range m).flatMap fun i:Nat=>nW_ f (f+1+(i:Int)) n sp
noncomputable def c7_:Nat->List Lf->Int->Int->List (List Lf)
 |0,_,_,_=>[[]]
 |n+1,ls,wt,sp=>[[]]++(List.range ls.length).flatMap fun i=>match ls[i]? with
  |none=>[]
  |some p=>if p.2.2<=wt/\bO_ p<=sp then(c7_ n (ls.drop i) (wt-p.2.2) (sp-bO_ p)).map (p:: ·) else []
noncomputable def ee_ (n:Nat) (ls:List Lf) (wt sp:Int) (i:Nat):List (List Lf):=match ls[i]? with
  |none=>[]
  |some p=>if p.2.2<=wt/\bO_ p<=sp then(c7_ n (ls.drop i) (wt-p.2.2) (sp-bO_ p)).map (p:: ·) else []
theorem fg_ (n:Nat) (ls:List Lf) (wt sp:Int):c7_ (n+1) ls wt sp=[[]]++(List.range ls.length).flatMap (ee_ n ls wt sp):=rfl
noncomputable def thF (d f:Nat) (ps:List Lf):Int:=(bD_ d ps).getD (f-1) 0
noncomputable def gU_ (d f:Nat) (th sp:Int) (ls:List Lf):Int:=sp-(ls.map bO_).sum-(th-(ls.map (·.2.2)).sum)*((d:Int)-(f:Int))
noncomputable def qX_ (d f:Nat) (th sp:Int):List (List Lf):=c7_ 8 (lj_ f (d-f) th.toNat sp) th sp
noncomputable def eL_ (d f:Nat) (ps:List Lf) (sp:Int):List (List Lf×Int):=((qX_ d f (thF d f ps) sp).filter fun ls=>decide (0<=gU_ d f (thF d f ps) sp ls)).map fun ls=>(ps++ls,gU_ d f (thF d f ps) sp ls)
noncomputable def fH_ (d:Nat) (k:Int):Nat->List (List Lf×Int)
 |0=>[([],k)]
 |f+1=>(fH_ d k f).flatMap fun x=>eL_ d (f+1) x.1 x.2
noncomputable def eA_ (d k:Nat):List (List Lf):=((fH_ d k d).filter fun x=>decide (x.2=0)).map (·.1)
noncomputable def sH_ (d:Nat) (p:Lf):Bool:=decide (1<=p.1)&&decide (p.1<p.2.1)&&decide (p.2.1<=d)&&decide (1<=p.2.2)&&decide (p.2.2<=8)
noncomputable def stB (d f:Nat) (x:List Lf×Int):Bool:=x.1.all (sH_ d)&&decide (x.1.length<=20)&&decide (0<=thF d (f+1) x.1)&&decide (thF d (f+1) x.1<8)&&decide (0<=x.2)&&decide (x.2<=6)&&decide ((qX_ d (f+1) (thF d (f+1) x.1) x.2).length<=200)
noncomputable def okB (d k:Nat):Bool:=(List.range d).all (fun f=>(fH_ d k f).all (stB d f)&&decide ((fH_ d k (f+1)).length<=900))&&(fH_ d k d).all fun x=>decide (x.1.length<=20)
noncomputable def Wide (d k:Nat):Prop:=1<=d/\((d<=4/\k<=6)\/(d=5/\k<=3))
theorem hU_ (f j:Int) (n:Nat) (sp:Int):nW_ f j (n+1) sp=nW_ f j n sp++(if bO_ (f,j,1+(n:Int))<=sp then [(f,j,1+(n:Int))] else []):=by
 unfold nW_;rw [Av,AC,Bk];by_cases h:bO_ (f,j,1+(n:Int))<=sp<;>simp [h]
theorem hV_ (f:Int) (m n:Nat) (sp:Int):lj_ f (m+1) n sp=lj_ f m n sp++nW_ f (f+1+(m:Int)) n sp:=by
 unfold lj_;rw [Av,BE];simp
theorem kb_ (f j:Int) (n:Nat) (sp:Int):(nW_ f j n sp).length<=n:=by
 unfold nW_;exact B2 (Bx _ _) (by simp)
theorem gT_ (f:Int) (n:Nat) (sp:Int):∀m,(lj_ f m n sp).length<=m*n
 |0=>by simp [lj_]
 |m+1=>by
  rw [hV_,AF,CT];have:=gT_ f n sp m;have:=kb_ f (f+1+(m:Int)) n sp;lia
theorem jk_ {f:Int}{m n:Nat}{sp:Int}{p:Lf} (h:p∈lj_ f m n sp):p.1=f/\f<p.2.1/\p.2.1<=f+m/\1<=p.2.2/\p.2.2<=n:=by
 unfold lj_ nW_ at h;simp only [BC,AW,Cy,Ab] at h;obtain⟨i,hi,⟨w,hw,rfl⟩,_⟩:=h;refine⟨rfl, ?_, ?_, ?_, ?_⟩
 .show f<f+1+(i:Int);lia
 .show f+1+(i:Int)<=f+m;lia
 .show 1<=1+(w:Int);lia
 .show 1+(w:Int)<=n;lia
theorem bY_ {α:Type} (g:Nat->List α) (i:Nat):(List.range (i+1)).flatMap g=(List.range i).flatMap g++g i:=by
 rw [Av,BE];simp
theorem gs_ {α:Type} (g:Nat->List α):∀{m i:Nat},i<m->((List.range i).flatMap g).length+(g i).length<=((List.range m).flatMap g).length
 |0,i,h=>absurd h (by lia)
 |m+1,i,h=>by
  rw [bY_,AF];by_cases e:i=m
  .rw [e];exact A9 _
  .have:=gs_ g (m:=m) (i:=i) (by lia);lia
theorem q2_ {n:Nat}{ls:List Lf}{wt sp:Int}{x:List Lf} (h:x∈c7_ (n+1) ls wt sp):x=[]\/∃(i:Nat) (p:Lf) (r:List Lf),ls[i]? =some p/\p.2.2<=wt/\bO_ p<=sp/\r∈c7_ n (ls.drop i) (wt-p.2.2) (sp-bO_ p)/\x=p::r:=by
 rw [fg_] at h;rcases BK.mp h with h|h
 .exact .inl (Ah.mp h)
 .obtain⟨i,hi,h⟩:=BC.mp h;unfold ee_ at h;split at h
  .cases h
  .rename_i p hp;split at h
   .rename_i c;obtain⟨r,hr,rfl⟩:=Ab.mp h;exact .inr ⟨i,p,r,hp,c.1,c.2,hr,rfl⟩
   .cases h
theorem fh_:∀{n:Nat}{ls:List Lf}{wt sp:Int}{x:List Lf},(∀p∈ls,1<=p.2.2)->0<=wt->x∈c7_ n ls wt sp->x.length<=n/\0<=(x.map (·.2.2)).sum/\(x.map (·.2.2)).sum<=wt/\∀p∈x,p∈ls
 |0,ls,wt,sp,x,_,h0,h=>by
  rw [c7_] at h;rw [Ah.mp h];exact⟨by simp,by simp,by simpa using h0,fun p hp=>nomatch hp⟩
 |n+1,ls,wt,sp,x,hw,h0,h=>by
  rcases q2_ h with rfl|⟨i,p,r,hp,c1,c2,hr,rfl⟩
  .exact⟨by simp,by simp,by simpa using h0,fun p hp=>nomatch hp⟩
  .have pm:=AR hp;have p1:=hw p pm;obtain⟨a,b,c,d⟩:=fh_ (fun q hq=>hw q (Cu hq)) (by lia) hr;refine⟨by rw [AY];lia, ?_, ?_,fun q hq=> ?_⟩
   .rw [AI,Aj];lia
   .rw [AI,Aj];lia
   .rcases AK.mp hq with rfl|hq
    .exact pm
    .exact Cu (d q hq)
theorem gA_ {d:Nat}{p:Lf}:sH_ d p=true↔1<=p.1/\p.1<p.2.1/\p.2.1<=d/\1<=p.2.2/\p.2.2<=8:=by
 unfold sH_;simp only [AM,Bb];constructor
 .rintro⟨⟨⟨⟨a,b⟩,c⟩,d⟩,e⟩;exact⟨a,b,c,d,e⟩
 .rintro⟨a,b,c,d,e⟩;exact⟨⟨⟨⟨a,b⟩,c⟩,d⟩,e⟩
theorem qc_ {d f:Nat}{x:List Lf×Int} (h:stB d f x=true):(∀p∈x.1,sH_ d p=true)/\x.1.length<=20/\0<=thF d (f+1) x.1/\thF d (f+1) x.1<8/\0<=x.2/\x.2<=6/\(qX_ d (f+1) (thF d (f+1) x.1) x.2).length<=200:=by
 unfold stB at h;simp only [AM,Bb,AZ] at h;obtain⟨⟨⟨⟨⟨⟨a,b⟩,c⟩,d⟩,e⟩,f⟩,g⟩:=h;exact⟨a,b,c,d,e,f,g⟩
theorem qN_ {d k:Nat} (h:okB d k=true):(∀f<d,(∀x∈fH_ d k f,stB d f x=true)/\(fH_ d k (f+1)).length<=900)/\∀x∈fH_ d k d,x.1.length<=20:=by
 unfold okB at h;simp only [AM,Bb,AZ,AW] at h;exact h
theorem sT_ (p q:Lf):ltI (hi_ p) (hi_ q)=eE_ p q:=by
 unfold eE_ ltI hi_;simp only [lk_,AY,Cz];split
 .split
  .split
   .rename_i h;simp [h]
   .rfl
  .rfl
 .rfl
noncomputable def Srt (ps:List Lf):Prop:=ps.Pairwise fun a b=>eE_ b a=false
theorem pl_ {α:Type} (g:α->Int):∀{xs:List α},(∀x∈xs,0<=g x)->0<=(xs.map g).sum
 |[],_=>by simp
 |x::xs,h=>by
  rw [AI,Aj];have:=pl_ g (xs:=xs) fun y hy=>h y (by simp [hy]);have:=h x (by simp);lia
structure Snd (d:Nat) (ps:List Lf):Prop where
 ok:∀p∈ps,1<=p.1/\p.1<p.2.1/\p.2.1<=d/\1<=p.2.2
 nn:∀i:Nat,i<d->0<=1+fE_ ps (1+(i:Int))-df_ ps (1+(i:Int))
 so:Srt ps
noncomputable def eF (ps:List Lf) (i:Nat):Int:=1+fE_ ps (1+(i:Int))-df_ ps (1+(i:Int))
theorem qZ_ {p:Lf} (h1:p.1<p.2.1) (h2:1<=p.2.2):0<=bO_ p:=by
 unfold bO_;have:1*1<=(p.2.1-p.1)*p.2.2:=CS (by lia) h2 (by decide) (by lia);lia
noncomputable def iC_ (d:Nat) (g:Nat->Int) (n:Nat):Int:=((List.range n).map fun i=>g i*((d:Int)-((i+1:Nat):Int))).sum
theorem bx_ (d:Nat) (g:Nat->Int) (n:Nat):iC_ d g (n+1)=iC_ d g n+g n*((d:Int)-((n+1:Nat):Int)):=by
 unfold iC_;rw [Av,AC,Bg];simp
theorem i9_ (d:Nat) (j w:Int) (h1:1<=j):∀n:Nat,iC_ d (fun i=>if j=1+(i:Int) then w else 0) n=if j<=n then w*((d:Int)-j) else 0
 |0=>by
  rw [A3 (by lia)];rfl
 |n+1=>by
  rw [bx_,i9_ d j w h1 n];by_cases c:j=1+(n:Int)
  .have c':¬j<=(n:Int):=by lia
   have c2:j<=((n+1:Nat):Int):=by lia
   rw [A6 c,A3 c',A6 c2,c,show(((n+1:Nat):Int))=1+(n:Int) by lia,Int.zero_add]
  .rw [A3 c,Int.zero_mul,Int.add_zero];by_cases c2:j<=(n:Int)
   .rw [A6 c2,A6 (by lia)]
   .rw [A3 c2,A3 (by lia)]
theorem jE_ (d:Nat) (g h:Nat->Int):∀n,iC_ d (fun i=>g i+h i) n=iC_ d g n+iC_ d h n
 |0=>rfl
 |n+1=>by
  rw [bx_,bx_,bx_,jE_ d g h n,Int.add_mul];lia
theorem jD_ (d:Nat) (g h:Nat->Int):∀n,iC_ d (fun i=>g i-h i) n=iC_ d g n-iC_ d h n
 |0=>rfl
 |n+1=>by
  rw [bx_,bx_,bx_,jD_ d g h n,Int.sub_mul];lia
theorem tb_ {d:Nat}:∀{ps:List Lf},(∀p∈ps,1<=p.1/\p.1<p.2.1/\p.2.1<=d/\1<=p.2.2)->iC_ d (eF ps) d+(ps.map bO_).sum+ps.length=iC_ d (fun _=>1) d
 |[],_=>by
  have:eF []=fun _=>1:=by funext i;simp [eF,fE_,df_]
  rw [this];simp
 |p::ps,h=>by
  have ih:=tb_ (ps:=ps) fun q hq=>h q (by simp [hq]);obtain⟨p1,p2,p3,p4⟩:=h p (by simp);have e:eF (p::ps)=fun i:Nat=>(eF ps i+(if p.2.1=1+(i:Int) then p.2.2 else 0))-(if p.1=1+(i:Int) then p.2.2 else 0):=by
   funext i
   unfold eF;rw [ek_,dy_];lia
  rw [e,jD_ d (fun i:Nat=>eF ps i+(if p.2.1=1+(i:Int) then p.2.2 else 0)),jE_ d (eF ps),i9_ d p.2.1 p.2.2 (by lia),i9_ d p.1 p.2.2 p1,A6 p3,A6 (by lia),AI,Aj,AY];have l:bO_ p=p.2.2*((d:Int)-p.1)-p.2.2*((d:Int)-p.2.1)-1:=by
   unfold bO_;rw [<-Int.mul_sub,Int.mul_comm];congr 2
   lia
  rw [l]
  push_cast
  lia
theorem g9_ {d:Nat}{ps:List Lf} (h:∀p∈ps,Okl d p) {i:Nat} (hi:i<d):(bD_ d ps).getD i 0=eF ps i:=by
 have:=(g6_ ps (List.replicate d 1) (by simp) h).2 i;unfold bD_;rw [this];unfold eF;have:(List.replicate d (1:Int)).getD i 0=1:=by simp [List.getD,hi]
 rw [this]
theorem oY_ {d:Nat} (h1:1<=d) (h5:d<=5):iC_ d (fun _=>1) d=((d*(d-1)/2:Nat):Int):=by
 have:d=1\/d=2\/d=3\/d=4\/d=5:=by lia
 rcases this with rfl|rfl|rfl|rfl|rfl<;>decide
noncomputable def pY_ (d:Nat) (ps:List Lf):Prop:=(∀p∈ps,1<=p.1/\p.1<p.2.1/\p.2.1<=d/\1<=p.2.2)/\∀i:Nat,i<d->0<=eF ps i
theorem pY_.okl {d:Nat}{ps:List Lf} (h:pY_ d ps):∀p∈ps,Okl d p:=fun p hp=>by
 obtain⟨a,b,c,_⟩:=h.1 p hp;exact⟨a,by lia,by lia,c⟩
theorem ga_ {d:Nat}{g:Nat->Int}:∀{n i:Nat},n<=d->(∀j<n,0<=g j)->i<n->g i*((d:Int)-((i+1:Nat):Int))<=iC_ d g n/\0<=iC_ d g n
 |0,i,_,_,h=>absurd h (by lia)
 |n+1,i,hd,hg,h=>by
  rw [bx_];have a:0<=g n*((d:Int)-((n+1:Nat):Int)):=Bv (hg n (by lia)) (by lia);have b:0<=iC_ d g n:=by
   cases n with
   |zero=>exact Cg _
   |succ n=>exact(ga_ (d:=d) (g:=g) (n:=n+1) (i:=0) (by lia) (fun j hj=>hg j (by lia)) (by lia)).2
  by_cases e:i=n
  .subst e;exact⟨by lia,by lia⟩
  .have:=(ga_ (d:=d) (g:=g) (n:=n) (i:=i) (by lia) (fun j hj=>hg j (by lia)) (by lia)).1;exact⟨by lia,by lia⟩
theorem pY_.len {d:Nat}{ps:List Lf} (h:pY_ d ps) (d1:1<=d) (d5:d<=5):ps.length<=d*(d-1)/2/\d*(d-1)/2<=10/\∀i:Nat,i+1<d->eF ps i<=10:=by
 have a:=tb_ h.1;rw [oY_ d1 d5] at a;have n1:=pl_ bO_ (xs:=ps) fun p hp=>by
  have:=h.1 p hp;exact qZ_ this.2.1 this.2.2.2
 have n2:=(ga_ (d:=d) (g:=eF ps) (n:=d) (i:=0) (A9 _) h.2 (by lia)).2;have d10:d*(d-1)/2<=10:=by
  have:d=1\/d=2\/d=3\/d=4\/d=5:=by lia
  rcases this with rfl|rfl|rfl|rfl|rfl<;>decide
 refine⟨by lia,d10,fun i hi=> ?_⟩;have b:=(ga_ (d:=d) (g:=eF ps) (n:=d) (i:=i) (A9 _) h.2 (by lia)).1;have c:eF ps i*1<=eF ps i*((d:Int)-((i+1:Nat):Int)):=Int.mul_le_mul_of_nonneg_left (by lia) (h.2 i (by lia));lia
noncomputable def pF_ (x:Lf):List Lf->List Lf
 |[]=>[x]
 |y::ys=>if eE_ x y then x::y::ys else if x=y then y::ys else y::pF_ x ys
noncomputable def k1_ (xs:List Lf):List Lf:=xs.foldr pF_ []
noncomputable def lp_ (d:Nat) (es:List Int) (i:Nat):List Lf:=List.replicate (es.getD i 0).toNat (1+(i:Int),(d:Int)+1,1)
noncomputable def fr_ (d:Nat) (es:List Int):List Lf:=(List.range d).flatMap (lp_ d es)
theorem gO_ {p q:Lf}:eE_ p q=true↔p.1<q.1\/(p.1=q.1/\(p.2.1<q.2.1\/(p.2.1=q.2.1/\p.2.2<q.2.2))):=by
 unfold eE_;by_cases e0:p.1=q.1
 .by_cases e1:p.2.1=q.2.1
  .simp [e0,e1]
  .simp [e0,e1]
 .simp [e0]
theorem gN_ {p:Lf}:¬eE_ p p=true:=by rw [gO_];lia
theorem mW_ {p q r:Lf} (h:eE_ p q=true) (k:eE_ q r=true):eE_ p r=true:=by rw [gO_] at*;lia
theorem j7_ {p q:Lf} (h:¬eE_ p q=true) (k:p≠q):eE_ q p=true:=by
 rw [gO_] at*
 obtain⟨a,b,c⟩:=p;obtain⟨d,e,f⟩:=q;simp only [ne_eq,BJ,not_and] at*
 lia
theorem g3_ {x z:Lf}:∀{ys:List Lf},z∈pF_ x ys↔z=x\/z∈ys
 |[]=>by simp [pF_]
 |y::ys=>by
  unfold pF_;split
  .simp
  .split
   .rename_i e;subst e;simp
   .simp [g3_ (ys:=ys)];constructor
    .rintro(h|h|h)
     .exact .inr (.inl h)
     .exact .inl h
     .exact .inr (.inr h)
    .rintro(h|h|h)
     .exact .inr (.inl h)
     .exact .inl h
     .exact .inr (.inr h)
theorem ne_ {x:Lf}:∀{ys:List Lf},(ys.Pairwise fun a b=>eE_ a b=true)->(pF_ x ys).Pairwise fun a b=>eE_ a b=true
 |[],_=>by simp [pF_]
 |y::ys,h=>by
  unfold pF_;split
  .rename_i e;refine List.Pairwise.cons (fun z hz=> ?_) h;rcases AK.mp hz with rfl|hz
   .exact e
   .exact mW_ e ((CG.mp h).1 z hz)
  .split
   .exact h
   .rename_i e1 e2;refine List.Pairwise.cons (fun z hz=> ?_) (ne_ (CG.mp h).2);rcases g3_.mp hz with rfl|hz
    .exact j7_ e1 e2
    .exact(CG.mp h).1 z hz
theorem ge_ {z:Lf}:∀{xs:List Lf},z∈k1_ xs↔z∈xs
 |[]=>by simp [k1_]
 |x::xs=>by
  have:=ge_ (z:=z) (xs:=xs);unfold k1_ at this⊢;rw [List.foldr_cons,g3_,this,AK]
theorem iQ_:∀(xs:List Lf),(k1_ xs).Pairwise fun a b=>eE_ a b=true
 |[]=>by simp [k1_]
 |x::xs=>by
  have:=iQ_ xs;unfold k1_ at this⊢;rw [List.foldr_cons];exact ne_ this
theorem hD_:∀{xs ys:List Lf},(xs.Pairwise fun a b=>eE_ a b=true)->(ys.Pairwise fun a b=>eE_ a b=true)->(∀z,z∈xs↔z∈ys)->xs=ys
 |[],[],_,_,_=>rfl
 |[],y::ys,_,_,h=>absurd ((h y).mpr (by simp)) (by simp)
 |x::xs,[],_,_,h=>absurd ((h x).mp (by simp)) (by simp)
 |x::xs,y::ys,h1,h2,h=>by
  have a1:=CG.mp h1;have a2:=CG.mp h2;have e:x=y:=by
   refine C2 fun ne=> ?_;have m1:x∈ys:=by rcases AK.mp ((h x).mp (by simp)) with e|e;exact absurd e ne;exact e
   have m2:y∈xs:=by rcases AK.mp ((h y).mpr (by simp)) with e|e;exact absurd e.symm ne;exact e
   exact gN_ (mW_ (a1.1 y m2) (a2.1 x m1))
  subst e;have:xs=ys:=hD_ a1.2 a2.2 fun z=>by
   have hz:=h z;rw [AK,AK] at hz;constructor
   .intro m;rcases hz.mp (.inr m) with e|e
    .subst e;exact absurd (a1.1 z m) gN_
    .exact e
   .intro m;rcases hz.mpr (.inr m) with e|e
    .subst e;exact absurd (a2.1 z m) gN_
    .exact e
  rw [this]
theorem ol_ {p q:Lf} (h:hi_ p=hi_ q):p=q:=by rw [<-kQ_ p,<-kQ_ q,h]
theorem qe_ {ps:List Lf}{yss:List (List Int)} (nd:yss.Nodup) (mem:∀z,z∈yss↔z∈ps.map hi_) (so:∀i j,i<j->j<yss.length->ltI (yss.getD j []) (yss.getD i [])=false):yss=(k1_ ps).map hi_:=by
 obtain⟨qs,e,hq⟩:=dw_ (f:=hi_) (P:=fun p=>p∈ps) yss fun v hv=>by
  obtain⟨p,hp,rfl⟩:=Ab.mp ((mem v).mp hv);exact⟨p,hp,rfl⟩
 subst e;have:qs=k1_ ps:=by
  refine hD_ ?_ (iQ_ ps) fun z=> ?_
  .rw [CV];intro i j hi hj hij;have h1:=so i j hij (by rw [A1];exact hj);rw [AA,AA,A8,A8,A4 hi,A4 hj] at h1;simp only [Option.map_some,Option.getD_some] at h1;rw [sT_] at h1;refine j7_ (by rw [h1];simp) fun e=> ?_;unfold List.Nodup at nd;rw [List.pairwise_map,CV] at nd;exact nd i j hi hj hij (by rw [e])
  .rw [ge_];constructor
   .exact hq z
   .intro hz;obtain⟨q,hq',e⟩:=Ab.mp ((mem (hi_ z)).mpr (List.mem_map_of_mem hz));rw [<-ol_ e];exact hq'
 rw [this]
noncomputable def chF (n:Int):Nat->Int
 |0=>1
 |k+1=>chF n k*(n-(k:Int))/((k:Int)+1)
noncomputable def chB:Bool:=(List.range 16).all fun n=>(List.range (n+1)).all fun k=>decide (0<=chF (n:Int) k)&&decide (chF (n:Int) k<=6435)
theorem tn_:chB=true:=by ac_nf
theorem tk_ {n:Int}{k:Nat} (h1:(k:Int)<=n) (h2:n<=15):0<=chF n k/\chF n k<=6435:=by
 obtain⟨m,rfl⟩:=B7 (show 0<=n by lia);have h:=tn_;unfold chB at h;rw [AZ] at h;have h:=h m (AW.mpr (by lia));rw [AZ] at h;have h:=h k (AW.mpr (by lia));simpa using h
noncomputable def wmF (t:List Int) (p:Nat) (m:Int):List Int:=t.set p (t.getD p 0+m)
theorem c9_ (t:List Int) (p:Nat) (m:Int):(wmF t p m).length=t.length:=by unfold wmF;rw [Bm]
theorem n3_ {t:List Int}{p i:Nat}{m:Int} (h:p<t.length):(wmF t p m).getD i 0=t.getD i 0+if p=i then m else 0:=by
 unfold wmF;rw [AA,List.getElem?_set];by_cases e:p=i
 .subst e;simp [h]
 .simp [e]
theorem qk_ {t:List Int}{p:Nat}{x:Int} (h:p<t.length):t.take p++[x]++t.drop (p+1)=t.set p x:=by
 rw [List.set_eq_take_append_cons_drop,A6 h];simp
noncomputable def spR:Nat->Nat->List (List Nat)
 |0,a=>[[a]]
 |g+1,a=>(List.range (a+1)).flatMap fun h=>(spR g (a-h)).map (h:: ·)
noncomputable def hh_ (t:List Int):Nat->List Nat->Int
 |_,[]=>1
 |p,s::r=>chF (t.getD p 0+(s:Int)) s*hh_ t (p+1) r
noncomputable def iz_ (t:List Int):Nat->List Nat->List Int
 |_,[]=>t
 |p,s::r=>iz_ (wmF t p (s:Int)) (p+1) r
theorem mm_ {t:List Int}{m:Int}{q:Nat} (hq:q<t.length):∀{r:List Nat}{p:Nat},q<p->hh_ (wmF t q m) p r=hh_ t p r
 |[],p,_=>rfl
 |s::r,p,h=>by
  unfold hh_;rw [n3_ hq,A3 (by lia),mm_ hq (r:=r) (by lia)];simp
noncomputable def pbF:Nat->List Int->Nat->Nat->List (List Int×Int)
 |0,t,p,a=>[(wmF t p (a:Int),chF (t.getD p 0+(a:Int)) a)]
 |g+1,t,p,a=>(List.range (a+1)).flatMap fun h:Nat=>(pbF g (wmF t p (h:Int)) (p+1) (a-h)).map fun x=>(x.1,chF (t.getD p 0+(h:Int)) h*x.2)
theorem f3_ {α β:Type}{f g:α->List β}:∀{xs:List α},(∀x∈xs,f x=g x)->xs.flatMap f=xs.flatMap g
 |[],_=>rfl
 |x::xs,h=>by rw [BS,BS,h x (by simp),f3_ fun y hy=>h y (by simp [hy])]
theorem sB_:∀{g:Nat}{t:List Int}{p a:Nat},p+g<t.length->pbF g t p a=(spR g a).map fun r=>(iz_ t p r,hh_ t p r)
 |0,t,p,a,_=>by simp [pbF,spR,iz_,hh_]
 |g+1,t,p,a,h=>by
  unfold pbF spR;rw [List.map_flatMap];refine f3_ fun x _=> ?_;rw [sB_ (by rw [c9_];lia),BO,BO];refine Ae fun r _=> ?_;simp only [Function.comp,iz_,hh_];rw [mm_ (by lia) (BN p)]
theorem iR_:∀{g a:Nat}{r:List Nat},r∈spR g a->r.length=g+1/\r.sum=a
 |0,a,r,h=>by simp [spR] at h;subst h;simp
 |g+1,a,r,h=>by
  unfold spR at h;obtain⟨x,hx,h⟩:=BC.mp h;obtain⟨r',h',rfl⟩:=Ab.mp h;have hx:=AW.mp hx;obtain⟨e1,e2⟩:=iR_ h';simp [e1,e2];lia
theorem gd_:∀{t:List Int}{p:Nat}{m:Int},p<t.length->(wmF t p m).sum=t.sum+m
 |[],p,m,h=>absurd h (by simp)
 |x::t,0,m,_=>by simp [wmF];lia
 |x::t,p+1,m,h=>by
  have:=gd_ (t:=t) (p:=p) (m:=m) (by simpa using h);unfold wmF at this⊢;simp only [List.set_cons_succ,Aj,List.getD_cons_succ] at this⊢;lia
theorem nM_:∀{r:List Nat}{t:List Int}{p:Nat},p+r.length<=t.length->(∀i:Nat,0<=t.getD i 0)->(iz_ t p r).length=t.length/\(iz_ t p r).sum=t.sum+(r.sum:Nat)/\∀i:Nat,0<=(iz_ t p r).getD i 0
 |[],t,p,_,h=>by simpa [iz_] using h
 |s::r,t,p,hl,h=>by
  have hp:p<t.length:=by simp at hl;lia
  obtain⟨e1,e2,e3⟩:=nM_ (r:=r) (t:=wmF t p (s:Int)) (p:=p+1) (by rw [c9_];simp at hl;lia) (fun i=>by rw [n3_ hp];have:=h i;split<;>lia)
  unfold iz_;refine⟨by rw [e1,c9_], ?_,e3⟩;rw [e2,gd_ hp,Aj];lia
theorem fZ_:∀{t:List Int},(∀i:Nat,0<=t.getD i 0)->0<=t.sum/\∀i:Nat,t.getD i 0<=t.sum
 |[],_=>by simp
 |x::t,h=>by
  have hx:=h 0;obtain⟨e1,e2⟩:=fZ_ (t:=t) fun i=>by have:=h (i+1);simpa using this
  simp only [List.getD_cons_zero] at hx;rw [Aj];refine⟨by lia,fun i=> ?_⟩;cases i with
  |zero=>simp;lia
  |succ i=>have:=e2 i;rw [List.getD_cons_succ];lia
theorem mn_:∀{r:List Nat}{t:List Int}{p:Nat},(∀i:Nat,0<=t.getD i 0)->t.sum+(r.sum:Nat)<=15->0<=hh_ t p r/\hh_ t p r<=6435^r.length
 |[],t,p,_,_=>by simp [hh_]
 |s::r,t,p,h,hs=>by
  rw [Aj] at hs;obtain⟨e1,e2⟩:=fZ_ h;have a1:=e2 p;have a2:=h p;obtain⟨c1,c2⟩:=tk_ (n:=t.getD p 0+(s:Int)) (k:=s) (by lia) (by lia);obtain⟨q1,q2⟩:=mn_ (r:=r) (t:=t) (p:=p+1) h (by lia);unfold hh_;refine⟨Bv c1 q1, ?_⟩;rw [AY,Int.pow_succ,Int.mul_comm];exact CS q2 c2 c1 (Int.pow_nonneg (by decide))
noncomputable abbrev Tab:=List (List Int×Int)
noncomputable def ey_ (D:Tab) (g:List Int->Int):Int:=(D.map fun x=>x.2*g x.1).sum
noncomputable def iK_ (D:Tab) (k:List Int):Int:=((D.find? fun x=>decide (x.1=k)).map (·.2)).getD 0
noncomputable def nU_ (D:Tab) (k:List Int) (v:Int):Tab:=if(D.any fun x=>decide (x.1=k))=true then D.map (fun x=>if x.1=k then(x.1,v) else x) else D++[(k,v)]
noncomputable def rM_ (D:Tab) (k:List Int) (v:Int):Tab:=nU_ D k (iK_ D k+v)
theorem ki_ (D:Tab) (k:List Int) (v:Int):(nU_ D k v).map (·.1)=if k∈D.map (·.1) then D.map (·.1) else D.map (·.1)++[k]:=by
 unfold nU_;have:(D.any fun x=>decide (x.1=k))=true↔k∈D.map (·.1):=by
  rw [List.any_eq_true,Ab];simp
 by_cases h:k∈D.map (·.1)
 .rw [A6 h,A6 (this.mpr h),BO];refine Ae fun x _=> ?_;simp only [Function.comp];split<;>rfl
 .rw [A3 h,A3 (fun z=>h (this.mp z)),AC];rfl
theorem iO_ {D:Tab}{k:List Int}{v:Int}{g:List Int->Int} (h:k∉D.map (·.1)):ey_ (nU_ D k v) g=ey_ D g+v*g k/\iK_ D k=0:=by
 have hn:∀x∈D,x.1≠k:=fun x hx e=>h (Ab.mpr ⟨x,hx,e⟩);have e1:(D.any fun x=>decide (x.1=k))=false:=by
  rw [List.any_eq_false];intro x hx;simpa using hn x hx
 have e2:D.find? (fun x=>decide (x.1=k))=none:=by
  rw [List.find?_eq_none];intro x hx;simpa using hn x hx
 unfold nU_ iK_ ey_;rw [e1,e2];simp
theorem eP_:∀{D:Tab}{k:List Int}{v:Int}{g:List Int->Int},(D.map (·.1)).Nodup->k∈D.map (·.1)->ey_ (D.map fun x=>if x.1=k then(x.1,v) else x) g=ey_ D g+(v-iK_ D k)*g k
 |[],_,_,_,_,h=>by simp at h
 |x::D,k,v,g,nd,h=>by
  rw [AI,BB] at nd;by_cases e:x.1=k
  .subst e;have hn:∀y∈D,y.1≠x.1:=fun y hy e=>nd.1 (Ab.mpr ⟨y,hy,e⟩);have e1:(D.map fun y=>if y.1=x.1 then(y.1,v) else y)=D:=by
    conv=>rhs;rw [<-List.map_id D]
    refine Ae fun y hy=> ?_;rw [A3 (hn y hy)];rfl
   have e2:iK_ (x::D) x.1=x.2:=by simp [iK_]
   rw [AI,e1,e2];simp only [ey_,C4,AI,Aj];rw [Int.sub_mul];lia
  .have hk:k∈D.map (·.1):=by
    rw [AI,AK] at h;rcases h with h|h
    .exact absurd h.symm e
    .exact h
   have ih:=eP_ (g:=g) (v:=v) nd.2 hk;have e2:iK_ (x::D) k=iK_ D k:=by simp [iK_,BL,e]
   rw [e2,AI];simp only [ey_,AI,Aj,A3 e] at ih⊢;lia
theorem qb_ {D:Tab} (nd:(D.map (·.1)).Nodup) (k:List Int) (v:Int) (g:List Int->Int):ey_ (rM_ D k v) g=ey_ D g+v*g k:=by
 unfold rM_;by_cases h:k∈D.map (·.1)
 .have e:(D.any fun x=>decide (x.1=k))=true:=by
   rw [List.any_eq_true];obtain⟨x,hx,e⟩:=Ab.mp h;exact⟨x,hx,B9 e⟩
  unfold nU_;rw [A6 e,eP_ nd h];rw [show iK_ D k+v-iK_ D k=v by lia]
 .obtain⟨e1,e2⟩:=iO_ (v:=iK_ D k+v) (g:=g) h;rw [e1,e2];simp
theorem sO_ {D:Tab} (nd:(D.map (·.1)).Nodup) (k:List Int) (v:Int):((nU_ D k v).map (·.1)).Nodup:=by
 rw [ki_];split
 .exact nd
 .rename_i h;rw [List.nodup_append];exact⟨nd,by simp,fun a ha b hb=>by simp at hb;subst hb;exact fun e=>h (e▸ha)⟩
structure TabOk (d n:Nat) (D:Tab):Prop where
 nd:(D.map (·.1)).Nodup
 key:∀x∈D,x.1.length=d/\x.1.sum=(n:Int)/\∀i:Nat,0<=x.1.getD i 0
theorem TabOk.add {d n:Nat}{D:Tab} (h:TabOk d n D) {k:List Int}{v:Int} (hk:k.length=d/\k.sum=(n:Int)/\∀i:Nat,0<=k.getD i 0):TabOk d n (rM_ D k v):=by
 refine⟨sO_ h.nd _ _,fun x hx=> ?_⟩;have:x.1∈(nU_ D k (iK_ D k+v)).map (·.1):=List.mem_map_of_mem hx;rw [ki_] at this;have:x.1∈D.map (·.1)\/x.1=k:=by
  split at this
  .exact .inl this
  .rcases BK.mp this with h|h
   .exact .inl h
   .exact .inr (by simpa using h)
 rcases this with h'|h'
 .obtain⟨y,hy,e⟩:=Ab.mp h';rw [<-e];exact h.key y hy
 .rw [h'];exact hk
noncomputable def inP (t:List Int) (v:Int) (p:Nat) (rs:List (List Nat)) (acc:Tab):Tab:=rs.foldl (fun acc r=>rM_ acc (iz_ t p r) (v*hh_ t p r)) acc
noncomputable def stP (p:Nat) (rs:List (List Nat)) (xs acc:Tab):Tab:=xs.foldl (fun acc x=>inP x.1 x.2 p rs acc) acc
noncomputable def rE_ (g:List Int->Int) (p:Nat) (rs:List (List Nat)) (t:List Int):Int:=(rs.map fun r=>hh_ t p r*g (iz_ t p r)).sum
noncomputable def nN_ (p d n n':Nat) (rs:List (List Nat)):Prop:=∀r∈rs,p+r.length<=d/\n+r.sum=n'
theorem q5_ {d n n' p:Nat}{r:List Nat}{t:List Int} (h:t.length=d/\t.sum=(n:Int)/\∀i:Nat,0<=t.getD i 0) (hr:p+r.length<=d/\n+r.sum=n'):(iz_ t p r).length=d/\(iz_ t p r).sum=(n':Int)/\∀i:Nat,0<=(iz_ t p r).getD i 0:=by
 obtain⟨e1,e2,e3⟩:=nM_ (r:=r) (t:=t) (p:=p) (by rw [h.1];exact hr.1) h.2.2;exact⟨by rw [e1,h.1],by rw [e2,h.2.1,<-hr.2];lia,e3⟩
theorem nf_ {d n n' p:Nat}{t:List Int}{v:Int} (h:t.length=d/\t.sum=(n:Int)/\∀i:Nat,0<=t.getD i 0) (g:List Int->Int):∀{rs:List (List Nat)}{acc:Tab},nN_ p d n n' rs->TabOk d n' acc->TabOk d n' (inP t v p rs acc)/\ey_ (inP t v p rs acc) g=ey_ acc g+v*rE_ g p rs t
 |[],acc,_,ha=>by simp [inP,rE_,ha]
 |r::rs,acc,hr,ha=>by
  have a1:=ha.add (v:=v*hh_ t p r) (q5_ h (hr r (by simp)));obtain⟨b1,b2⟩:=nf_ (v:=v) h g (rs:=rs) (fun r' h'=>hr r' (by simp [h'])) a1;refine⟨b1, ?_⟩;show ey_ (inP t v p rs (rM_ acc (iz_ t p r) (v*hh_ t p r))) g=_;rw [b2,qb_ ha.nd];simp only [rE_,AI,Aj];rw [Int.mul_add,Int.mul_assoc];lia
theorem l4_ {d n n' p:Nat}{rs:List (List Nat)} (hr:nN_ p d n n' rs) (g:List Int->Int):∀{xs acc:Tab},(∀x∈xs,x.1.length=d/\x.1.sum=(n:Int)/\∀i:Nat,0<=x.1.getD i 0)->TabOk d n' acc->TabOk d n' (stP p rs xs acc)/\ey_ (stP p rs xs acc) g=ey_ acc g+ey_ xs (rE_ g p rs)
 |[],acc,_,ha=>by simp [stP,ey_,ha]
 |x::xs,acc,hx,ha=>by
  obtain⟨a1,a2⟩:=nf_ (v:=x.2) (hx x (by simp)) g hr ha;obtain⟨b1,b2⟩:=l4_ hr g (xs:=xs) (fun y hy=>hx y (by simp [hy])) a1;refine⟨b1, ?_⟩;show ey_ (stP p rs xs (inP x.1 x.2 p rs acc)) g=_;rw [b2,a2];simp only [ey_,AI,Aj];lia
noncomputable def TF (cnt:Lf->Nat):List Lf->List Int->Int
 |[],_=>1
 |m::ms,t=>rE_ (TF cnt ms) (m.1-1).toNat (spR (m.2.1-m.1-1).toNat (cnt m)) t
noncomputable def hmF (d:Nat) (mk:List Lf):Int:=TF (fun m=>mk.count m) (k1_ mk) (List.replicate d 0)
theorem oa_ (D:Tab):ey_ D (fun _=>1)=(D.map (·.2)).sum:=by
 unfold ey_;congr 1
 refine Ae fun x _=> ?_;show x.2*1=x.2;lia
noncomputable def enc:List Int->Nat
 |[]=>0
 |x::t=>x.toNat+16*enc t
theorem pK_:∀{t:List Int},(∀i:Nat,0<=t.getD i 0/\t.getD i 0<=15)->enc t<16^t.length
 |[],_=>by simp [enc]
 |x::t,h=>by
  have h0:=h 0;have ih:=pK_ (t:=t) fun i=>by have:=h (i+1);simpa using this
  simp only [List.getD_cons_zero] at h0;unfold enc;rw [AY,Nat.pow_succ];lia
theorem ns_:∀{t u:List Int},t.length=u.length->(∀i:Nat,0<=t.getD i 0/\t.getD i 0<=15)->(∀i:Nat,0<=u.getD i 0/\u.getD i 0<=15)->enc t=enc u->t=u
 |[],[],_,_,_,_=>rfl
 |[],_::_,h,_,_,_=>absurd h (by simp)
 |_::_,[],h,_,_,_=>absurd h (by simp)
 |x::t,y::u,hl,ht,hu,e=>by
  have h0:=ht 0;have h1:=hu 0;simp only [List.getD_cons_zero] at h0 h1;unfold enc at e;have ih:=ns_ (t:=t) (u:=u) (by simpa using hl) (fun i=>by have:=ht (i+1);simpa using this) (fun i=>by have:=hu (i+1);simpa using this) (by lia);rw [ih,show x=y by lia]
theorem j4_:∀(N:Nat) (xs:List Nat),xs.Nodup->(∀x∈xs,x<N)->xs.length<=N
 |0,[],_,_=>A9 _
 |0,x::xs,_,h=>absurd (h x (by simp)) (by lia)
 |N+1,xs,nd,h=>by
  have h1:=j4_ N (xs.filter fun x=>decide (x≠N)) (nd.filter _) fun x hx=>by
   obtain⟨a,b⟩:=Cy.mp hx;have:=h x a;have:x≠N:=by simpa using b
   lia
  have h2:xs.length<=(xs.filter fun x=>decide (x≠N)).length+1:=by
   clear h1 h;induction xs with
   |nil=>simp
   |cons y ys ih=>
    rw [BB] at nd;by_cases e:y=N
    .subst e;have:(ys.filter fun x=>decide (x≠y))=ys:=by
      rw [List.filter_eq_self];intro z hz;simp;rintro rfl;exact nd.1 hz
     rw [CD,A3 (by simp),this,AY];exact A9 _
    .have:=ih nd.2;rw [CD,A6 (by simpa using e),AY,AY];lia
  lia
theorem TabOk.size {d n:Nat}{D:Tab} (h:TabOk d n D) (hd:d<=5) (hn:n<=15):D.length<=1048576:=by
 have hb:∀x∈D,∀i:Nat,0<=x.1.getD i 0/\x.1.getD i 0<=15:=fun x hx i=>by
  obtain⟨_,e2,e3⟩:=h.key x hx;have:=(fZ_ e3).2 i;exact⟨e3 i,by lia⟩
 have:=j4_ (16^d) (D.map fun x=>enc x.1) ?_ ?_
 .rw [A1] at this;have:16^d<=16^5:=CO (by decide) hd;lia
 .have nd:=h.nd;unfold List.Nodup at nd⊢;rw [List.pairwise_map] at nd⊢;refine List.Pairwise.imp_of_mem (fun{a b} ha hb' hne e=>hne ?_) nd;exact ns_ (by rw [(h.key a ha).1,(h.key b hb').1]) (hb a ha) (hb b hb') e
 .intro x hx;obtain⟨y,hy,rfl⟩:=Ab.mp hx;have:=pK_ (hb y hy);rw [(h.key y hy).1] at this;exact this
noncomputable def fj_ (t:List Int):List Key:=t.map Sum.inl
theorem gY_ (t:List Int):(fj_ t).map kV=t.map V.int:=by unfold fj_;rw [BO];rfl
theorem kk_:∀{t u:List Int},fj_ t=fj_ u->t=u
 |[],[],_=>rfl
 |[],_::_,h=>by simp [fj_] at h
 |_::_,[],h=>by simp [fj_] at h
 |x::t,y::u,h=>by
  simp only [fj_,AI,D0,Sum.inl.injEq] at h;rw [h.1,kk_ (t:=t) (u:=u) h.2]
theorem gZ_ {t u:List Int}:fj_ t=fj_ u↔t=u:=⟨kk_,fun e=>by rw [e]⟩
noncomputable def dA_ (D:Tab):List (List Key×V):=D.map fun x=>(fj_ x.1,V.int x.2)
theorem jL_ (D:Tab):(dA_ D).length=D.length:=by unfold dA_;rw [A1]
theorem jK_ (D:Tab) (k:List Int) (v:Int):c2_ (dA_ D) (fj_ k) (.int v)=dA_ (nU_ D k v):=by
 have e:((dA_ D).any fun kv=>decide (kv.1=fj_ k))=(D.any fun x=>decide (x.1=k)):=by
  unfold dA_;rw [List.any_map];congr 1
  funext x
  simp only [Function.comp,gZ_]
 unfold c2_ nU_;rw [e];split
 .unfold dA_;rw [BO,BO];refine Ae fun x _=> ?_;simp only [Function.comp,gZ_];split<;>rfl
 .unfold dA_;rw [AC];rfl
theorem jJ_ (D:Tab) (k:List Int):cH_ (dA_ D) (fj_ k)=(D.find? fun x=>decide (x.1=k)).map fun x=>V.int x.2:=by
 unfold cH_ dA_;rw [List.find?_map,Option.map_map];have:((fun kv:List Key×V=>decide (kv.1=fj_ k))∘fun x:List Int×Int=>(fj_ x.1,V.int x.2))=fun x=>decide (x.1=k):=by
  funext x
  simp only [Function.comp,gZ_]
 rw [this];rfl
theorem n8_ (D:Tab) (k:List Int):(cH_ (dA_ D) (fj_ k)).getD (.int 0)= .int (iK_ D k):=by
 rw [jJ_];unfold iK_;cases D.find? fun x=>decide (x.1=k)<;>rfl
theorem p8_ {D:Tab} (nd:(D.map (·.1)).Nodup) {x:List Int×Int} (h:x∈D):cH_ (dA_ D) (fj_ x.1)=some (.int x.2):=by
 rw [jJ_];have:D.find? (fun y=>decide (y.1=x.1))=some x:=by
  induction D with
  |nil=>simp at h
  |cons y D ih=>
   rw [AI,BB] at nd;rcases AK.mp h with rfl|h
   .simp
   .have:y.1≠x.1:=fun e=>nd.1 (Ab.mpr ⟨x,h,e.symm⟩);rw [BL,Ai this];exact ih nd.2 h
 rw [this];rfl
theorem l0_ (D:Tab):(dA_ D).map (·.2)=(D.map (·.2)).map V.int:=by unfold dA_;rw [BO,BO];rfl
noncomputable def prD (x:List Int×Int):D:= .t [tI x.1, .i x.2]
theorem pa_ (l:List Lf) (x:Lf):(List.range l.length).countP (fun j=>decide (l.getD j (0,0,0)=x))=l.count x:=by
 have e:(List.range l.length).map (fun j=>l.getD j (0,0,0))=l:=by
  apply List.ext_getElem?;intro i;rw [A8];rcases Bd i l.length with c|c
  .rw [List.getElem?_range c];simp [List.getD,c]
  .rw [List.getElem?_eq_none (by simpa using c),List.getElem?_eq_none c];rfl
 conv=>rhs;rw [<-e]
 rw [List.count,List.countP_map];congr 1
 funext j
 simp only [Function.comp];exact(Bool.beq_eq_decide_eq _ _).symm
theorem ij_:∀(l S:List Lf),S.Nodup->(S.map fun m=>l.count m).sum<=l.length
 |[],S,_=>by
  have:(S.map fun m=>List.count m ([]:List Lf))=S.map fun _=>0:=by simp
  rw [this];induction S with
  |nil=>simp
  |cons a S ih=>rename_i nd;simpa using ih (BB.mp nd).2
 |x::l,S,nd=>by
  have ih:=ij_ l S nd;have:(S.map fun m=>(x::l).count m).sum<=(S.map fun m=>l.count m).sum+1/\(x∉S->(S.map fun m=>(x::l).count m).sum=(S.map fun m=>l.count m).sum):=by
   clear ih;induction S with
   |nil=>simp
   |cons a S ih=>
    obtain⟨n1,n2⟩:=BB.mp nd;obtain⟨i1,i2⟩:=ih n2;simp only [AI,Aj];by_cases e:x=a
    .subst e;have:=i2 n1;rw [List.count_cons_self];exact⟨by lia,fun h=>absurd (by simp) h⟩
    .have e':List.count a (x::l)=List.count a l:=List.count_cons_of_ne e;rw [e'];exact⟨by lia,fun h=>by rw [i2 (fun z=>h (by simp [z]))]⟩
  rw [AY];lia
theorem mM_ (j w:Int):∀n:Nat,((List.range n).map fun i:Nat=>if j=1+(i:Int) then w else 0).sum=if 1<=j/\j<=n then w else 0
 |0=>by
  have:¬(1<=j/\j<=((0:Nat):Int)):=by lia
  rw [A3 this];rfl
 |n+1=>by
  rw [Av,AC,Bg,mM_ j w n];simp only [AI,D4,Aj,List.sum_nil];by_cases e:j=1+(n:Int)
  .rw [A3 (by lia),A6 e,A6 (by lia)];lia
  .rw [A3 e];by_cases c:1<=j/\j<=n
   .rw [A6 c,A6 (by lia)];lia
   .rw [A3 c,A3 (by lia)];rfl
theorem ho_ (f g h:Nat->Int):∀xs:List Nat,(xs.map fun i=>f i+g i-h i).sum=(xs.map f).sum+(xs.map g).sum-(xs.map h).sum
 |[]=>by simp
 |x::xs=>by
  simp only [AI,Aj,ho_ f g h xs];lia
theorem tc_ {d:Nat}:∀{ps:List Lf},(∀p∈ps,Okl d p)->((List.range d).map (eF ps)).sum=(d:Int)
 |[],_=>by
  have:(List.range d).map (eF [])=(List.range d).map fun _=>1:=by
   refine Ae fun i _=> ?_;simp [eF,fE_,df_]
  rw [this];induction d with
  |zero=>simp
  |succ d ih=>rw [Av,AC,Bg,ih (by intro p hp;exact nomatch hp) (by refine Ae fun i _=> ?_;simp [eF,fE_,df_])];simp
 |p::ps,h=>by
  have ih:=tc_ (d:=d) (ps:=ps) fun q hq=>h q (by simp [hq]);have e:(List.range d).map (eF (p::ps))=(List.range d).map fun i:Nat=>eF ps i+(if p.2.1=1+(i:Int) then p.2.2 else 0)-(if p.1=1+(i:Int) then p.2.2 else 0):=by
   refine Ae fun i _=> ?_;unfold eF;rw [ek_,dy_];lia
  obtain⟨o1,o2,o3,o4⟩:=h p (by simp);rw [e,ho_,ih,mM_,mM_,A6 ⟨o3,o4⟩,A6 ⟨o1,o2⟩];lia
theorem kA_ (g:Nat->List Lf):∀xs:List Nat,(xs.flatMap g).length=(xs.map fun i=>(g i).length).sum
 |[]=>rfl
 |x::xs=>by rw [BS,AF,kA_ g xs];rfl
theorem if_ {d:Nat}{ps:List Lf} (ok:∀p∈ps,Okl d p) (h:∀i:Nat,i<d->0<=eF ps i):(fr_ d (bD_ d ps)).length=d:=by
 have e1:((List.range d).map fun i=>((lp_ d (bD_ d ps) i).length:Int))=(List.range d).map (eF ps):=by
  refine Ae fun i hi=> ?_;have hi:=AW.mp hi;unfold lp_;rw [BF,g9_ ok hi];have:=h i hi;lia
 have e2:∀xs:List Nat,(((xs.map fun i=>(lp_ d (bD_ d ps) i).length).sum:Nat):Int)=(xs.map fun i=>((lp_ d (bD_ d ps) i).length:Int)).sum:=fun xs=>by
  induction xs with
  |nil=>rfl
  |cons x xs ih=>simp only [AI,Aj] at ih⊢;lia
 have:=e2 (List.range d);rw [e1,tc_ ok] at this;unfold fr_;rw [kA_];lia
noncomputable def el_ (ps:List Lf):Int:=ps.foldl (fun a p=>a*p.2.2^2) 1
noncomputable def Okw (d:Nat) (p:Lf):Prop:=Okl d p/\1<=p.2.2/\p.2.2<=2^20
noncomputable def tG_:List Lf->Bool
 |[]=>true
 |x::r=>r.all (fun y=> !(eE_ y x))&&tG_ r
theorem jP_:∀{ps:List Lf},tG_ ps=true->Srt ps
 |[],_=>List.Pairwise.nil
 |x::r,h=>by
  unfold tG_ at h;rw [AM,AZ] at h;exact CG.mpr ⟨fun y hy=>by simpa using h.1 y hy,jP_ h.2⟩
noncomputable def tH_ (d:Nat) (ps:List Lf):Bool:=ps.all (sH_ d)&&(List.range d).all (fun i=>decide (0<=eF ps i))&&tG_ ps
theorem oc_ {d:Nat}{ps:List Lf} (h:tH_ d ps=true):Snd d ps:=by
 unfold tH_ at h;simp only [AM,AZ,AW,Bb] at h;exact⟨fun p hp=>by have:=gA_.mp (h.1.1 p hp);lia,fun i hi=>h.1.2 i hi,jP_ h.2⟩
noncomputable def hmD (d:Nat) (x:List Lf):Int:=hmF d (x++fr_ d (bD_ d x))
noncomputable def oC_ (d:Nat) (x:List Lf):Bool:=tH_ d x&&decide (x.length<=20)&&decide (0<=el_ x)&&decide (el_ x<2^40)
theorem hH_ {d:Nat}{x:List Lf} (h:oC_ d x=true):Snd d x/\(∀p∈x,Okw d p)/\x.length<=20/\0<=el_ x/\el_ x<2^40/\True:=by
 unfold oC_ at h;simp only [AM,Bb] at h;obtain⟨⟨⟨h1,h2⟩,h3⟩,h4⟩:=h;refine⟨oc_ h1,fun p hp=> ?_,h2,h3,h4,trivial⟩;unfold tH_ at h1;simp only [AM,AZ] at h1;have:=gA_.mp (h1.1.1 p hp);exact⟨⟨by lia,by lia,by lia,by lia⟩,by lia,by lia⟩
noncomputable def cD (L:List (List Lf)) (i j:Nat):Option Bool:=L[i]?.bind fun x=>L[j]?.map fun y=>jj_ x y
noncomputable def oD (d k:Nat):Option (Array Nat):=eZ_ (cD (eA_ d k)) (eA_ d k).length
noncomputable def sD (d k:Nat):List (List Lf):=if(eA_ d k).length<2 then eA_ d k else((oD d k).getD #[]).toList.map fun i=>(eA_ d k).getD i []
noncomputable def rD_ (d k:Nat):Prop:=okB d k=true/\(¬(eA_ d k).length<2->∃p,eZ_ (cD (eA_ d k)) (eA_ d k).length=some p/\p.size<=1000/\∀i∈p.toList,i<(eA_ d k).length)/\(eA_ d k).length<=1000/\(∀w∈sD d k,oC_ d w=true)/\(sD d k).length<=1000
noncomputable def ly_ (d k:Nat):Bool:=okB d k&&(eA_ d k).all (oC_ d)&&decide ((eA_ d k).length<=1000)
noncomputable def k2_ (d k:Nat):Bool:=decide ((eA_ d k).length<2)||match oD d k with
 |none=>false
 |some p=>decide (p.size<=1000)&&p.toList.all fun i=>decide (i<(eA_ d k).length)
theorem kH_ {d k:Nat} (h1:ly_ d k=true) (h2:k2_ d k=true):rD_ d k:=by
 unfold ly_ at h1;simp only [AM,Bb,AZ] at h1;obtain⟨⟨a1,a2⟩,a3⟩:=h1;unfold k2_ at h2;by_cases hl:(eA_ d k).length<2
 .have e:sD d k=eA_ d k:=by unfold sD;rw [A6 hl]
  exact⟨a1,fun h=>absurd hl h,a3,by rw [e];exact a2,by rw [e];exact a3⟩
 .rw [Ai hl,Bool.false_or] at h2;cases ho:oD d k with
  |none=>rw [ho] at h2;cases h2
  |some p=>
   rw [ho] at h2;simp only [AM,Bb,AZ] at h2;have e:sD d k=p.toList.map fun i=>(eA_ d k).getD i []:=by
    unfold sD;rw [A3 hl,ho];rfl
   refine⟨a1,fun _=>⟨p,ho,h2.1,h2.2⟩,a3,fun w hw=> ?_, ?_⟩
   .rw [e] at hw;obtain⟨i,hi,rfl⟩:=Ab.mp hw;have:=h2.2 i hi;rw [AA,A4 this];exact a2 _ (List.getElem_mem _)
   .rw [e,A1,Ao];exact h2.1
noncomputable def w38 (d:Nat):Bool:=(List.range (if d=5 then 4 else 7)).all fun k=>ly_ d k&&k2_ d k
theorem tP_:w38 1=true:=by ac_nf
theorem tO_:w38 2=true:=by ac_nf
theorem tN_:w38 3=true:=by ac_nf
theorem tM_:w38 4=true:=by ac_nf
theorem rT_:((List.range 3).all fun k=>ly_ 5 k&&k2_ 5 k)=true:=by ac_nf
theorem rS_:ly_ 5 3=true:=by ac_nf
theorem rR_:k2_ 5 3=true:=by ac_nf
theorem tg_ {d k:Nat} (h:Wide d k):rD_ d k:=by
 unfold Wide at h;have hd:d=1\/d=2\/d=3\/d=4\/(d=5/\k<3)\/(d=5/\k=3):=by lia
 have go:∀{m n:Nat},((List.range n).all fun k=>ly_ m k&&k2_ m k)=true->∀{k},k<n->rD_ m k:=fun h k hk=>by
  have:=AZ.mp h k (AW.mpr hk);rw [AM] at this;exact kH_ this.1 this.2
 rcases hd with rfl|rfl|rfl|rfl|⟨rfl,hk⟩|⟨rfl,rfl⟩
 .exact go (n:=7) tP_ (by lia)
 .exact go (n:=7) tO_ (by lia)
 .exact go (n:=7) tN_ (by lia)
 .exact go (n:=7) tM_ (by lia)
 .exact go rT_ hk
 .exact kH_ rS_ rR_
noncomputable def vi_ (d:Nat) (x:List Lf):Int:=el_ x*hmD d x
noncomputable def wtG:Int->List Int->Int
 |_,[]=>0
 |i,x::r=>i*x+wtG (i+1) r
noncomputable def wtF (r:List Int):Int:=wtG 1 r
noncomputable def rwS (found:List (List Int)) (n:Int):List (List Int):=found.flatMap fun b=>(List.range (n+1).toNat).map fun h:Nat=>b++[(h:Int)]
noncomputable def rwF (row:List Int):List (List Int):=row.foldl rwS [[]]
noncomputable def rbF:Nat->List Int->Int->Nat->List (List Int)
 |0,_,_,_=>[]
 |n+1,row,wt,first=>if wt-wtF row=0 then [row] else(List.range (min row.length (wt-wtF row).toNat-first)).flatMap fun j=>rbF n (wmF row (first+j) 1) wt (first+j)
noncomputable def iF_:List Int->List Int->Int
 |x::a,y::b=>chF x y.toNat*iF_ a b
 |_,_=>1
noncomputable def wgG:Int->List Int->List Int->List Int
 |i,x::a,y::b=>List.replicate (y-x).toNat i++wgG (i+1) a b
 |_,_,_=>[]
noncomputable def wgF (r f:List Int):List Int:=wgG 1 r f
structure Ask4 where
 d:Int
 k:Int
 h:List Int
 f:List Int
noncomputable abbrev Sm4:=Int×List Int×Ask4
noncomputable def nj_ (q:Ask4) (p:Nat):List Sm4:=if q.f.getD p 0>0 then [(1,[(p:Int)+1],⟨q.d,q.k,wmF q.h p 1,wmF q.f p (-1)⟩)] else []
noncomputable def ln_ (q:Ask4):List Sm4:=(List.range q.f.length).flatMap (nj_ q)
noncomputable def rK_ (q:Ask4) (kp fr:List Int):Sm4:=(iF_ q.h kp*iF_ fr q.f,wgF q.f fr,⟨q.d-1,q.k+fr.sum-q.f.sum-q.d+1,kp,fr⟩)
noncomputable def nq_ (q:Ask4) (kp:List Int):List Sm4:=(rbF 8 q.f (q.d-1-wtF kp) 0).map (rK_ q kp)
noncomputable def rJ_ (q:Ask4):List Sm4:=(rwF q.h).flatMap (nq_ q)
noncomputable def fz_ (q:Ask4):List Sm4:=ln_ q++rJ_ q
noncomputable def iE_ (ws:List Int):Int:=ws.foldl (· * ·) 1
noncomputable def pS_:Nat->Ask4->Int
 |0,_=>0
 |n+1,q=>if q.k<0 then 0 else if q.d=1 then(if q.k=0 then 1 else 0) else((fz_ q).map fun x=>x.1*iE_ x.2.1*pS_ n x.2.2).sum
noncomputable def Nn (t:List Int):Prop:=∀i:Nat,0<=t.getD i 0
theorem Nn.cons {x:Int}{t:List Int}:Nn (x::t)↔0<=x/\Nn t:=by
 constructor
 .intro h;exact⟨h 0,fun i=>h (i+1)⟩
 .rintro⟨a,b⟩ i;cases i with
  |zero=>exact a
  |succ i=>exact b i
theorem cK_:∀{t:List Int}{i:Int},0<=i->Nn t->0<=wtG i t
 |[],_,_,_=>Cg 0
 |x::t,i,hi,h=>by
  obtain⟨a,b⟩:=Nn.cons.mp h;have:=cK_ (i:=i+1) (by lia) b;have:=Bv hi a;unfold wtG;lia
theorem cD_:∀{t:List Int}{i:Int},1<=i->Nn t->0<=t.sum/\t.sum<=wtG i t
 |[],_,_,_=>⟨Cg 0,Cg 0⟩
 |x::t,i,hi,h=>by
  obtain⟨a,b⟩:=Nn.cons.mp h;obtain⟨s1,s2⟩:=cD_ (i:=i+1) (by lia) b;have:1*x<=i*x:=Int.mul_le_mul_of_nonneg_right hi a;rw [Aj];unfold wtG;lia
theorem jC_ {m:Int}:∀{t:List Int}{p:Nat}{i:Int},p<t.length->wtG i (wmF t p m)=wtG i t+(i+p)*m
 |[],p,_,h=>absurd h (by simp)
 |x::t,0,i,_=>by
  show wtG i ((x+m)::t)=wtG i (x::t)+_;unfold wtG;rw [Int.mul_add];simp;lia
 |x::t,p+1,i,h=>by
  have ih:=jC_ (m:=m) (t:=t) (p:=p) (i:=i+1) (by simpa using h);show wtG i (x::wmF t p m)=wtG i (x::t)+_;unfold wtG;rw [ih,show i+1+(p:Int)=i+((p+1:Nat):Int) by lia];lia
theorem oH_ {t:List Int}{p:Nat}{m:Int} (hp:p<t.length) (h:Nn t) (hm:0<=t.getD p 0+m):Nn (wmF t p m):=fun i=>by
 rw [n3_ hp];split
 .next e=>rw [<-e];exact hm
 .have:=h i;lia
theorem qR_ {t:List Int}{x:Int} (h:Nn t) (hx:0<=x):Nn (t++[x]):=by
 induction t with
 |nil=>exact Nn.cons.mpr ⟨hx,fun i=>by simp⟩
 |cons y t ih=>
  obtain⟨a,b⟩:=Nn.cons.mp h;exact Nn.cons.mpr ⟨a,ih b⟩
noncomputable def Le:List Int->List Int->Prop
 |x::a,y::b=>0<=x/\x<=y/\Le a b
 |[],[]=>True
 |_,_=>False
theorem Le.len:∀{a b:List Int},Le a b->a.length=b.length
 |[],[],_=>rfl
 |x::a,y::b,h=>Bc (· +1) (Le.len h.2.2)
theorem Le.nn:∀{a b:List Int},Le a b->Nn a/\Nn b
 |[],[],_=>⟨fun i=>by simp,fun i=>by simp⟩
 |x::a,y::b,h=>by
  obtain⟨p,q⟩:=Le.nn h.2.2;exact⟨Nn.cons.mpr ⟨h.1,p⟩,Nn.cons.mpr ⟨by have:=h.1;have:=h.2.1;lia,q⟩⟩
theorem Le.snoc:∀{a b:List Int}{x y:Int},Le a b->0<=x->x<=y->Le (a++[x]) (b++[y])
 |[],[],_,_,_,h1,h2=>⟨h1,h2,trivial⟩
 |_::a,_::b,_,_,h,h1,h2=>⟨h.1,h.2.1,Le.snoc h.2.2 h1 h2⟩
theorem Le.self:∀{a:List Int},Nn a->Le a a
 |[],_=>trivial
 |x::a,h=>by
  obtain⟨p,q⟩:=Nn.cons.mp h;exact⟨p,Cg x,Le.self q⟩
theorem Le.wt:∀{a b:List Int}{i:Int},0<=i->Le a b->wtG i a<=wtG i b
 |[],[],_,_,_=>Cg 0
 |x::a,y::b,i,hi,h=>by
  have:=Le.wt (i:=i+1) (by lia) h.2.2;have:=Int.mul_le_mul_of_nonneg_left h.2.1 hi;unfold wtG;lia
theorem Le.gain:∀{a b:List Int}{i:Int},1<=i->Le a b->a.sum<=b.sum/\b.sum-a.sum<=wtG i b-wtG i a
 |[],[],_,_,_=>by simp [wtG]
 |x::a,y::b,i,hi,h=>by
  obtain⟨g1,g2⟩:=Le.gain (i:=i+1) (by lia) h.2.2;have h1:=h.2.1;have:1*(y-x)<=i*(y-x):=Int.mul_le_mul_of_nonneg_right hi (by lia);have e:i*(y-x)=i*y-i*x:=Int.mul_sub i y x;rw [Aj,Aj];unfold wtG;lia
theorem Le.wm {a b:List Int}{p:Nat} (h:Le a b) (hp:p<b.length):Le a (wmF b p 1):=by
 induction a generalizing b p with
 |nil=>
  cases b with
  |nil=>exact trivial
  |cons y b=>exact h.elim
 |cons x a ih=>
  cases b with
  |nil=>exact h.elim
  |cons y b=>
   cases p with
   |zero=>exact⟨h.1,by show x<=y+1;have:=h.2.1;lia,h.2.2⟩
   |succ p=>exact⟨h.1,h.2.1,ih h.2.2 (by simpa using hp)⟩
theorem me_ {row t:List Int} (hn:Nn row) (h:t∈rwF row):Le t row:=by
 have go:∀(r2 r1:List Int) (F:List (List Int)),(∀t∈F,Le t r1)->Nn r2->∀t∈r2.foldl rwS F,Le t (r1++r2):=by
  intro r2;induction r2 with
  |nil=>intro r1 F hF _ t ht;rw [B8];exact hF t ht
  |cons n r2 ih=>
   intro r1 F hF hn t ht;obtain⟨n0,n2⟩:=Nn.cons.mp hn;rw [show r1++n::r2=(r1++[n])++r2 by simp];refine ih (r1++[n]) (rwS F n) (fun u hu=> ?_) n2 t ht;obtain⟨b,hb,hu⟩:=BC.mp hu;obtain⟨k,hk,rfl⟩:=Ab.mp hu;have hk:=AW.mp hk;exact(hF b hb).snoc (by lia) (by lia)
 exact go row [] [[]] (fun t ht=>by rw [Ah.mp ht];exact trivial) hn t h
theorem mg_ {F:List (List Int)}{n:Int}:(rwS F n).length=F.length*(n+1).toNat:=by
 unfold rwS;induction F with
 |nil=>simp
 |cons b F ih=>
  rw [BS,AF,ih,A1,B',AY,CT,Nat.add_comm]
theorem vN_ (n:Nat):n+1<=2^n:=by
 induction n with
 |zero=>decide
 |succ n ih=>rw [Nat.pow_succ];lia
theorem pn_:∀(row:List Int) (F:List (List Int)),Nn row->(row.foldl rwS F).length<=F.length*2^row.sum.toNat
 |[],F,_=>by simp
 |n::row,F,h=>by
  obtain⟨a,b⟩:=Nn.cons.mp h;have ih:=pn_ row (rwS F n) b;rw [mg_] at ih;have s0:=(cD_ (i:=1) (by decide) b).1;rw [Aj,show(n+row.sum).toNat=n.toNat+row.sum.toNat by lia,Nat.pow_add,<-Nat.mul_assoc];refine B2 ih (Nat.mul_le_mul_right _ (Nat.mul_le_mul_left _ ?_));rw [show(n+1).toNat=n.toNat+1 by lia];exact vN_ _
theorem qQ_ {t:List Int} (h:Nn t) (i:Nat):Nn (t.take i):=fun j=>by
 rw [AA,List.getElem?_take];split
 .have:=h j;rwa [AA] at this
 .simp
theorem mf_ {row:List Int} (hn:Nn row) (hs:row.sum<=5) (i:Nat):(rwF (row.take i)).length<=32:=by
 have nt:Nn (row.take i):=fun j=>by
  rw [AA,List.getElem?_take];split
  .have:=hn j;rwa [AA] at this
  .simp
 have st:(row.take i).sum<=5:=by
  have e:(row.take i).sum+(row.drop i).sum=row.sum:=by rw [<-Bg,List.take_append_drop]
  have nd:Nn (row.drop i):=fun j=>by
   rw [AA,List.getElem?_drop];have:=hn (i+j);rwa [AA] at this
  have:=(cD_ (i:=1) (by decide) nd).1;lia
 have h:=pn_ (row.take i) [[]] nt;have s0:=(cD_ (i:=1) (by decide) nt).1;have:2^(row.take i).sum.toNat<=2^5:=CO (by decide) (by lia);unfold rwF;simp only [AY,Cz] at h;lia
theorem pp_ {wt:Int}:∀{n:Nat}{row t:List Int}{first:Nat},t∈rbF n row wt first->Nn row->∀{a:List Int},Le a row->Le a t/\wtF t=wt
 |0,_,_,_,h,_,_,_=>nomatch h
 |n+1,row,t,first,h,hn,a,ha=>by
  unfold rbF at h;split at h
  .next e=>rw [Ah.mp h];exact⟨ha,by lia⟩
  .obtain⟨j,hj,h⟩:=BC.mp h;have hj:=AW.mp hj;have hp:first+j<row.length:=by lia
   exact pp_ h (oH_ hp hn (by have:=hn (first+j);lia)) (ha.wm hp)
theorem mq_ {wt:Int}:∀{n:Nat}{row:List Int}{first:Nat},row.length<=5->(rbF n row wt first).length<=5^n
 |0,_,_,_=>AO _
 |n+1,row,first,h=>by
  unfold rbF;split
  .exact Nat.one_le_pow _ _ (by decide)
  .have go:∀m,m<=5->((List.range m).flatMap fun j=>rbF n (wmF row (first+j) 1) wt (first+j)).length<=m*5^n:=by
    intro m;induction m with
    |zero=>intro _;exact AO _
    |succ m ih=>
     intro hm;rw [Av,BE,AF,CT,BS,List.flatMap_nil,B8];have:=ih (by lia);have:=mq_ (n:=n) (wt:=wt) (row:=wmF row (first+m) 1) (first:=first+m) (by rw [c9_];exact h);lia
   have:=go (min row.length (wt-wtF row).toNat-first) (by lia);have h5:(min row.length (wt-wtF row).toNat-first)*5^n<=5*5^n:=Nat.mul_le_mul_right _ (by lia);rw [Nat.pow_succ,Nat.mul_comm];lia
noncomputable def ch2:Bool:=(List.range 16).all fun n=>(List.range (n+1)).all fun k=>decide (0<=chF (n:Int) k)&&decide (chF (n:Int) k<=2^n)
theorem to_:ch2=true:=by ac_nf
theorem pU_ {n k:Int} (h0:0<=k) (h1:k<=n) (h2:n<=15):0<=chF n k.toNat/\chF n k.toNat<=2^n.toNat:=by
 obtain⟨m,rfl⟩:=B7 (show 0<=n by lia);have h:=to_;unfold ch2 at h;rw [AZ] at h;have h:=h m (AW.mpr (by lia));rw [AZ] at h;have h:=h k.toNat (AW.mpr (by lia));simpa using h
theorem pT_:∀{a b:List Int},Le a b->b.sum<=15->0<=iF_ b a/\iF_ b a<=2^b.sum.toNat
 |[],[],_,_=>by simp [iF_]
 |x::a,y::b,h,hs=>by
  obtain⟨h1,h2,h3⟩:=h;have s0:=(cD_ (i:=1) (by decide) (Le.nn h3).2).1;rw [Aj] at hs;obtain⟨c1,c2⟩:=pT_ h3 (by lia);obtain⟨d1,d2⟩:=pU_ h1 h2 (by lia);rw [Aj,show(y+b.sum).toNat=y.toNat+b.sum.toNat by lia,Int.pow_add];unfold iF_;exact⟨Bv d1 c1,CS d2 c2 c1 (Int.pow_nonneg (by decide))⟩
theorem kN_ {a b:List Int} (h:Le a b) (hs:b.sum<=5):0<=iF_ b a/\iF_ b a<=32:=by
 obtain⟨c1,c2⟩:=pT_ h (by lia);have s0:=(cD_ (i:=1) (by decide) (Le.nn h).2).1;have:(2:Int)^b.sum.toNat<=2^5:=by
  have:b.sum.toNat=0\/b.sum.toNat=1\/b.sum.toNat=2\/b.sum.toNat=3\/b.sum.toNat=4\/b.sum.toNat=5:=by lia
  rcases this with e|e|e|e|e|e<;>rw [e]<;>decide
 exact⟨c1,by lia⟩
structure AskOk (L:Nat) (q:Ask4):Prop where
 hl:q.h.length=L
 fl:q.f.length=L
 hn:Nn q.h
 fn:Nn q.f
 wt:wtF q.h+wtF q.f=q.d
 d1:1<=q.d
 dL:q.d<=L
 L5:L<=5
 k6:q.k<=6
noncomputable def muF (q:Ask4):Int:=6*q.d+q.f.sum
section
variable {L:Nat}{q:Ask4}
theorem AskOk.sums (a:AskOk L q):0<=q.h.sum/\q.h.sum<=5/\0<=q.f.sum/\q.f.sum<=5:=by
 obtain⟨h1,h2⟩:=cD_ (i:=1) (by decide) a.hn;obtain⟨f1,f2⟩:=cD_ (i:=1) (by decide) a.fn;have w1:=cK_ (i:=1) (by decide) a.hn;have w2:=cK_ (i:=1) (by decide) a.fn;have:=a.wt;have:=a.dL;have:=a.L5;unfold wtF at*
 lia
theorem AskOk.held (a:AskOk L q) {x:Sm4} (hx:x∈ln_ q):AskOk L x.2.2/\muF x.2.2+1<=muF q/\x.1=1/\∃w:Int,x.2.1=[w]/\1<=w/\w<=5:=by
 unfold ln_ at hx;obtain⟨p,hp,hx⟩:=BC.mp hx;have hp:=AW.mp hp;unfold nj_ at hx;split at hx
 .next hf=>
  rw [Ah.mp hx];have hp':p<q.h.length:=by rw [a.hl,<-a.fl];exact hp
  have h5:=a.L5;have fl:=a.fl;refine⟨⟨by rw [c9_];exact a.hl,by rw [c9_];exact fl,oH_ hp' a.hn (by have:=a.hn p;lia),oH_ hp a.fn (by lia), ?_,a.d1,a.dL,h5,a.k6⟩, ?_,rfl,_,rfl,by lia,by lia⟩
  .have:=a.wt;show wtF (wmF q.h p 1)+wtF (wmF q.f p (-1))=q.d;unfold wtF at*
   rw [jC_ hp',jC_ hp];lia
  .show 6*q.d+(wmF q.f p (-1)).sum+1<=6*q.d+q.f.sum;rw [gd_ hp];lia
 .cases hx
theorem AskOk.few (a:AskOk L q) (d2:2<=q.d) {kp fr:List Int} (hk:kp∈rwF q.h) (hf:fr∈rbF 8 q.f (q.d-1-wtF kp) 0):AskOk L ⟨q.d-1,q.k+fr.sum-q.f.sum-q.d+1,kp,fr⟩/\6*(q.d-1)+fr.sum+1<=muF q/\Le kp q.h/\Le q.f fr/\fr.sum<=5:=by
 have l1:=me_ a.hn hk;obtain⟨l2,e⟩:=pp_ hf a.fn (Le.self a.fn);have n1:=(Le.nn l1).1;have n2:=(Le.nn l2).2;have w1:=cK_ (i:=1) (by decide) n1;have w2:=cK_ (i:=1) (by decide) a.fn;obtain⟨g1,g2⟩:=l2.gain (i:=1) (by decide);obtain⟨s1,s2⟩:=cD_ (i:=1) (by decide) n2;have h5:=a.L5;have dL:=a.dL;have k6:=a.k6;have sf:=a.sums;unfold wtF at e w1 w2;refine⟨⟨l1.len.trans a.hl,l2.len.symm.trans a.fl,n1,n2, ?_, ?_, ?_,h5, ?_⟩, ?_,l1,l2, ?_⟩
 .show wtF kp+wtF fr=q.d-1;unfold wtF;lia
 .show 1<=q.d-1;lia
 .show q.d-1<=L;lia
 .show q.k+fr.sum-q.f.sum-q.d+1<=6;lia
 .unfold muF;lia
 .lia
theorem np_ {x:Sm4} (hx:x∈rJ_ q):∃kp∈rwF q.h,∃fr∈rbF 8 q.f (q.d-1-wtF kp) 0,x=rK_ q kp fr:=by
 unfold rJ_ at hx;obtain⟨kp,hk,hx⟩:=BC.mp hx;unfold nq_ at hx;obtain⟨fr,hf,rfl⟩:=Ab.mp hx;exact⟨kp,hk,fr,hf,rfl⟩
theorem AskOk.less (a:AskOk L q) (d2:2<=q.d) {x:Sm4} (hx:x∈fz_ q):AskOk L x.2.2/\muF x.2.2+1<=muF q:=by
 unfold fz_ at hx;rcases BK.mp hx with hx|hx
 .exact⟨(a.held hx).1,(a.held hx).2.1⟩
 .obtain⟨kp,hk,fr,hf,rfl⟩:=np_ hx;obtain⟨h1,h2,_⟩:=a.few d2 hk hf;exact⟨h1,h2⟩
end
theorem AskOk.mu {L:Nat}{q:Ask4} (a:AskOk L q):6<=muF q/\muF q<=35:=by
 have:=a.sums;have:=a.d1;have:=a.dL;have:=a.L5;unfold muF;lia
theorem kL_ {L:Nat}:∀{n m:Nat}{q:Ask4},AskOk L q->muF q<=n->muF q<=m->pS_ n q=pS_ m q
 |0,_,q,a,h,_=>by have:=a.mu;lia
 |_+1,0,q,a,_,h=>by have:=a.mu;lia
 |n+1,m+1,q,a,h1,h2=>by
  unfold pS_;split
  .rfl
  .split
   .rfl
   .next hd=>
    refine Bc List.sum (Ae fun x hx=> ?_);obtain⟨b,c⟩:=a.less (by have:=a.d1;lia) hx;rw [kL_ b (n:=n) (m:=m) (by lia) (by lia)]
noncomputable def cF (q:Ask4):Int:=pS_ 36 q
theorem tr_ {q:Ask4} (h:q.k<0):cF q=0:=A6 h
theorem tq_ {q:Ask4} (h:¬q.k<0) (hd:q.d=1):cF q=if q.k=0 then 1 else 0:=by
 unfold cF pS_;rw [A3 h,A6 hd]
theorem tp_ {L:Nat}{q:Ask4} (a:AskOk L q) (h:¬q.k<0) (hd:¬q.d=1):cF q=((fz_ q).map fun x=>x.1*iE_ x.2.1*cF x.2.2).sum:=by
 have e:cF q=pS_ 37 q:=kL_ a (by have:=a.mu;lia) (by have:=a.mu;lia);rw [e];unfold pS_;rw [A3 h,A3 hd];rfl
theorem lG_:∀{t:List Int}{i:Int},wtG i (t++[0])=wtG i t
 |[],i=>by simp [wtG]
 |x::t,i=>by
  show i*x+wtG (i+1) (t++[0])=i*x+wtG (i+1) t;rw [lG_]
noncomputable def gz_ (n:Nat) (t:List Int):List Int:=t++List.replicate (n-t.length) 0
theorem rP_ {n:Nat}:∀{t:List Int}{i:Int},wtG i (t++List.replicate n 0)=wtG i t:=by
 induction n with
 |zero=>intro t i;simp
 |succ n ih=>
  intro t i;rw [List.replicate_succ',<-BG,lG_,ih]
noncomputable def es_:Nat->Nat->Nat->List (List Int)
 |_,0,_=>[[]]
 |i,n+1,b=>(List.range (b/i+1)).flatMap fun x=>(es_ (i+1) n (b-i*x)).map ((x:Int):: ·)
theorem go_:∀{n i b:Nat}{t:List Int},1<=i->t.length=n->Nn t->wtG (i:Int) t<=b->t∈es_ i n b
 |0,i,b,t,_,hl,_,_=>by rw [CC.mp hl];exact AX
 |n+1,i,b,[],_,hl,_,_=>nomatch hl
 |n+1,i,b,x::t,hi,hl,hn,hw=>by
  obtain⟨x0,tn⟩:=Nn.cons.mp hn;obtain⟨m,rfl⟩:=B7 x0;have w:=cK_ (i:=(i:Int)+1) (by lia) tn;unfold wtG at hw;have hm:i*m<=b:=by
   have:((i*m:Nat):Int)=(i:Int)*(m:Int):=Int.natCast_mul i m;lia
  unfold es_;refine BC.mpr ⟨m,AW.mpr (Nat.lt_succ_of_le ((Nat.le_div_iff_mul_le (by lia)).mpr (by rw [Nat.mul_comm];exact hm))),Ab.mpr ⟨t,go_ (by lia) (by simpa using hl) tn ?_,rfl⟩⟩;have:((i*m:Nat):Int)=(i:Int)*(m:Int):=Int.natCast_mul i m;show wtG ((i:Int)+1) t<=_;lia
noncomputable def po_:Bool:=(List.range 6).all fun L=>decide ((es_ 1 L 5).length<=19)
theorem ml_:po_=true:=by ac_nf
theorem qy_ (a b:List Int):iE_ (a++b)=iE_ a*iE_ b:=by
 have go:∀(b:List Int) (x:Int),b.foldl (· * ·) x=x*b.foldl (· * ·) 1:=fun b=>by
  induction b with
  |nil=>intro x;simp
  |cons y b ih=>
   intro x;rw [CI,CI,ih,ih (1*y),Int.one_mul,Int.mul_assoc]
 unfold iE_;rw [C6,go]
noncomputable def chG (n:Int):Nat->Int
 |0=>1
 |i+1=>chG n i*(n-(0+(i:Int)))/((0+(i:Int))+1)
noncomputable def cho (n k:Int):Int:=if k<0\/k>n then 0 else chG n k.toNat
noncomputable def fA_ (f:Nat->Int):Nat->Int
 |0=>0
 |n+1=>fA_ f n+f n
theorem ce_ {f g:Nat->Int}:∀{n:Nat},(∀i,i<n->f i=g i)->fA_ f n=fA_ g n
 |0,_=>rfl
 |n+1,h=>by
  unfold fA_;rw [ce_ fun i hi=>h i (by lia),h n (by lia)]
theorem eQ_ {f:Nat->Int}{n:Nat} (h:∀i,i<n->f i=0):fA_ f n=0:=by
 rw [ce_ (g:=fun _=>0) h];clear h;induction n with
 |zero=>rfl
 |succ n ih=>unfold fA_;rw [ih];rfl
theorem jO_ (f g:Nat->Int):∀n:Nat,fA_ (fun i=>f i+g i) n=fA_ f n+fA_ g n
 |0=>rfl
 |n+1=>by
  unfold fA_;rw [jO_ f g n];lia
theorem jN_ {k:Nat}{a:Int}:∀{n:Nat},k<n->fA_ (fun i=>if i=k then a else 0) n=a
 |0,h=>absurd h (Nat.not_lt_zero _)
 |n+1,h=>by
  unfold fA_;by_cases e:n=k
  .subst e;rw [A6 rfl,eQ_ fun i hi=>A3 (by lia)];lia
  .rw [A3 e,jN_ (by lia)];lia
noncomputable def vF:List (Nat×Int)->Nat->Int
 |[],_=>0
 |(k,a)::r,i=>if i=k then a else vF r i
theorem jH_:∀{kvs:List (Nat×Int)}{i:Nat},i∉kvs.map (·.1)->vF kvs i=0
 |[],_,_=>rfl
 |(k,a)::r,i,h=>by
  rw [AI,AK,not_or] at h;unfold vF;rw [A3 h.1,jH_ h.2]
theorem js_ (G:Nat->Int->Int) (hG:∀i,G i 0=0) {n:Nat}:∀{kvs:List (Nat×Int)},(kvs.map (·.1)).Nodup->(∀x∈kvs,x.1<n)->(kvs.map fun x=>G x.1 x.2).sum=fA_ (fun i=>G i (vF kvs i)) n
 |[],_,_=>(eQ_ (f:=fun i=>G i (vF [] i)) fun i _=>hG i).symm
 |(k,a)::r,nd,h=>by
  rw [AI,BB] at nd;rw [AI,Aj,js_ G hG nd.2 fun x hx=>h x (AS _ hx)];have hk:k<n:=h (k,a) AX;have e:(fun i=>G i (vF ((k,a)::r) i))=fun i=>(if i=k then G k a else 0)+G i (vF r i):=by
   funext i
   show G i (if i=k then a else vF r i)=_;by_cases hi:i=k
   .subst hi;rw [A6 rfl,A6 rfl,jH_ nd.1,hG];lia
   .rw [A3 hi,A3 hi];lia
  rw [e,jO_,jN_ hk]
noncomputable def cvn (ch:Nat->Nat->Int) (n:Nat) (f g:Nat->Int) (s:Nat):Int:=fA_ (fun r=>fA_ (fun t=>if r+t=s then f r*g t*ch s r else 0) n) n
theorem f9_ {ch:Nat->Nat->Int}{n:Nat}{f f' g g':Nat->Int} (hf:∀i,i<n->f i=f' i) (hg:∀i,i<n->g i=g' i) (s:Nat):cvn ch n f g s=cvn ch n f' g' s:=by
 unfold cvn;refine ce_ fun r hr=>ce_ fun t ht=> ?_;rw [hf r hr,hg t ht]
noncomputable def below (F:Nat->Int) (d:Nat):Int:=fA_ (fun e=>F (e+1)) (d-1)
theorem cC_ {F G:Nat->Int}{d:Nat} (h:∀e,1<=e->e<d->F e=G e):below F d=below G d:=ce_ fun e he=>h (e+1) (by lia) (by lia)
noncomputable def dI (xs:List (Nat×Int)):List (Key×V):=xs.map fun x=>(.inl (x.1:Int), .int x.2)
noncomputable def nT_ (xs:List (Nat×Int)) (k:Nat) (v:Int):List (Nat×Int):=if(xs.any fun x=>decide (x.1=k))=true then xs.map (fun x=>if x.1=k then(x.1,v) else x) else xs++[(k,v)]
theorem cq_ {a b:Nat}:(Sum.inl (a:Int):Key)=Sum.inl (b:Int)↔a=b:=⟨fun h=>by have:=Sum.inl.inj h;lia,fun h=>by rw [h]⟩
theorem tj_ (xs:List (Nat×Int)) (k:Nat):((dI xs).any fun kv=>decide (kv.1=(Sum.inl (k:Int):Key)))=xs.any fun x=>decide (x.1=k):=by
 unfold dI;rw [List.any_map];congr 1
 funext x
 exact decide_eq_decide.mpr cq_
theorem pP_ (xs:List (Nat×Int)) (k:Nat) (v:Int):c2_ (dI xs) (.inl (k:Int)) (.int v)=dI (nT_ xs k v):=by
 unfold c2_ nT_;rw [tj_];by_cases h:(xs.any fun x=>decide (x.1=k))=true
 .rw [A6 h,A6 h];unfold dI;rw [BO,BO];refine Ae fun x _=> ?_;show(if(Sum.inl (x.1:Int):Key)= .inl (k:Int) then _ else _)=_;by_cases e:x.1=k
  .rw [A6 (cq_.mpr e)];simp only [Function.comp,A6 e]
  .rw [A3 fun z=>e (cq_.mp z)];simp only [Function.comp,A3 e]
 .rw [A3 h,A3 h];unfold dI;rw [AC];rfl
theorem pO_ (xs:List (Nat×Int)) (k:Nat):cH_ (dI xs) (.inl (k:Int))=if k∈xs.map (·.1) then some (.int (vF xs k)) else none:=by
 induction xs with
 |nil=>rfl
 |cons x r ih=>
  obtain⟨j,a⟩:=x;unfold cH_ dI at ih⊢;rw [AI,BL,AI];by_cases e:j=k
  .subst e;simp [vF]
  .have e':¬((Sum.inl (j:Int):Key)= .inl (k:Int)):=fun z=>e (cq_.mp z);rw [Ai e'];have e2:¬k=j:=fun z=>e z.symm;simp only [AK,e2,false_or];rw [show vF ((j,a)::r) k=vF r k from A3 e2];exact ih
theorem h3_ (xs:List (Nat×Int)) (k:Nat) (v:Int):(nT_ xs k v).map (·.1)=if k∈xs.map (·.1) then xs.map (·.1) else xs.map (·.1)++[k]:=by
 unfold nT_;have:(xs.any fun x=>decide (x.1=k))=true↔k∈xs.map (·.1):=by
  rw [List.any_eq_true,Ab];simp
 by_cases h:k∈xs.map (·.1)
 .rw [A6 h,A6 (this.mpr h),BO];refine Ae fun x _=> ?_;simp only [Function.comp];split<;>rfl
 .rw [A3 h,A3 (fun z=>h (this.mp z)),AC];rfl
theorem lg_ {xs:List (Nat×Int)} (h:(xs.map (·.1)).Nodup) (k:Nat) (v:Int):((nT_ xs k v).map (·.1)).Nodup:=by
 rw [h3_];by_cases e:k∈xs.map (·.1)
 .rw [A6 e];exact h
 .rw [A3 e];refine List.nodup_append.mpr ⟨h,by simp,fun a ha b hb z=> ?_⟩;rw [Ah.mp hb] at z;exact e (z▸ha)
theorem pi_ {k:Nat}{v:Int}{i:Nat}:∀{xs:List (Nat×Int)},vF (xs++[(k,v)]) i=if i∈xs.map (·.1) then vF xs i else if i=k then v else 0
 |[]=>by simp [vF]
 |(j,a)::r=>by
  rw [List.cons_append,AI];unfold vF;by_cases e:i=j
  .simp [e]
  .rw [A3 e,A3 e,pi_];by_cases hi:i∈r.map (·.1)
   .rw [A6 hi,A6 (AS _ hi)]
   .rw [A3 hi,A3 fun z=>(AK.mp z).elim e hi]
theorem lQ_ {k:Nat}{v:Int}{i:Nat}:∀{xs:List (Nat×Int)},k∈xs.map (·.1)->vF (xs.map fun x=>if x.1=k then(x.1,v) else x) i=if i=k then v else vF xs i
 |[],h=>by simp at h
 |(j,a)::r,h=>by
  rw [AI];by_cases ej:j=k
  .subst ej;rw [A6 rfl];unfold vF;by_cases e:i=j
   .rw [A6 e,A6 e]
   .rw [A3 e,A3 e,A3 e];by_cases hr:j∈r.map (·.1)
    .rw [lQ_ hr,A3 e]
    .rw [show(r.map fun x=>if x.1=j then(x.1,v) else x)=r by
      conv=>rhs;rw [<-List.map_id r]
      refine Ae fun x hx=> ?_;rw [A3 fun z=>hr (Ab.mpr ⟨x,hx,z⟩)];rfl]
  .have hr:k∈r.map (·.1):=by
    rw [AI,AK] at h;exact h.resolve_left fun z=>ej z.symm
   rw [A3 ej];unfold vF;by_cases e:i=j
   .rw [A6 e,A6 e,A3 (by lia)]
   .rw [A3 e,A3 e,lQ_ hr]
theorem ph_ (xs:List (Nat×Int)) (k:Nat) (v:Int) (i:Nat):vF (nT_ xs k v) i=if i=k then v else vF xs i:=by
 unfold nT_;have:(xs.any fun x=>decide (x.1=k))=true↔k∈xs.map (·.1):=by
  rw [List.any_eq_true,Ab];simp
 by_cases h:k∈xs.map (·.1)
 .rw [A6 (this.mpr h),lQ_ h]
 .rw [A3 (fun z=>h (this.mp z)),pi_];by_cases e:i=k
  .subst e;rw [A3 h,A6 rfl,A6 rfl]
  .rw [A3 e,A3 e];by_cases hi:i∈xs.map (·.1)
   .rw [A6 hi]
   .rw [A3 hi,jH_ hi]
noncomputable def chS (s r:Nat):Int:=cho ((s:Int)-1) ((r:Int)-1)
noncomputable def chQ:Bool:=(List.range 20).all fun n=>(List.range 20).all fun k=>decide (0<=cho (n:Int) (k:Int))&&decide (cho (n:Int) (k:Int)<1000000)
theorem tm_:chQ=true:=by ac_nf
theorem tl_ {s r:Nat} (h1:1<=s) (h2:s<=20) (h3:1<=r) (h4:r<=20):0<=chS s r/\chS s r<1000000:=by
 have h:=tm_;unfold chQ at h;rw [AZ] at h;have h:=h (s-1) (AW.mpr (by lia));rw [AZ] at h;have h:=h (r-1) (AW.mpr (by lia));have e1:((s-1:Nat):Int)=(s:Int)-1:=by lia
 have e2:((r-1:Nat):Int)=(r:Int)-1:=by lia
 rw [e1,e2] at h;unfold chS;simpa using h
noncomputable def Sz (q n:Nat):Prop:=q*n<=20/\1<=n/\n<=5
theorem Sz.le {q n d:Nat} (h:Sz q n) (hd:d<=n):q*d<=20:=B2 (Nat.mul_le_mul_left q hd) h.1
noncomputable def cv (f g:Nat->Int) (s:Nat):Int:=cvn chS 21 f g s
noncomputable def Wh (g:Nat) (N Wq:Nat->Nat->Int):Prop:=∀d s,Wq d s=if 1<=d/\d<=g then N d s-below (fun e=>cv (Wq e) (N (d-e)) s) d else 0
noncomputable def e0_ (d s:Nat) (v:Int):List Int:=[(d:Int),(s:Int),v]
theorem gp_ {d s d' s':Nat}{v v':Int} (h:e0_ d s v=e0_ d' s' v'):d=d'/\s=s'/\v=v':=by
 unfold e0_ at h;simp only [D0,and_true] at h;exact⟨by lia,by lia,h.2.2⟩
theorem mO_:∀{n:Nat}{l:List Nat},l.Nodup->(∀x∈l,x<n)->l.length<=n
 |0,l,_,h=>by
  cases l with
  |nil=>simp
  |cons a r=>exact absurd (h a AX) (by lia)
 |n+1,l,nd,h=>by
  by_cases hn:n∈l
  .have:=mO_ (n:=n) (nd.erase n) fun x hx=>by
    have h1:=(nd.mem_erase_iff).mp hx;have:=h x h1.2;have:=h1.1;lia
   rw [List.length_erase_of_mem hn] at this;lia
  .have:=mO_ (n:=n) nd fun x hx=>by
    have:=h x hx;have:x≠n:=fun e=>hn (e▸hx);lia
   lia
noncomputable def b1_ (m:Nat) (xs:List (Nat×Int)):Prop:=(xs.map (·.1)).Nodup/\∀x∈xs,1<=x.1/\x.1<=m
theorem b1_.nil (m:Nat):b1_ m []:=⟨List.nodup_nil,fun _ h=>nomatch h⟩
theorem b1_.keys {m:Nat}{xs:List (Nat×Int)} (h:b1_ m xs):∀k∈xs.map (·.1),1<=k/\k<=m:=fun k hk=>by
 obtain⟨x,hx,rfl⟩:=Ab.mp hk;exact h.2 x hx
theorem b1_.put {m k:Nat}{v:Int}{xs:List (Nat×Int)} (h:b1_ m xs) (h1:1<=k) (h2:k<=m):b1_ m (nT_ xs k v):=by
 refine⟨lg_ h.1 k v,fun x hx=> ?_⟩;have hk:x.1∈(nT_ xs k v).map (·.1):=Ab.mpr ⟨x,hx,rfl⟩;rw [h3_] at hk;by_cases e:k∈xs.map (·.1)
 .rw [A6 e] at hk;exact h.keys _ hk
 .rw [A3 e] at hk;rcases BK.mp hk with hk|hk
  .exact h.keys _ hk
  .rw [Ah.mp hk];exact⟨h1,h2⟩
theorem b1_.len {m:Nat}{xs:List (Nat×Int)} (h:b1_ m xs):xs.length<=m+1:=by
 have:=mO_ h.1 (n:=m+1) fun k hk=>by have:=h.keys k hk;lia
 rwa [A1] at this
theorem p2_ {k:Nat}{v:Int}:∀{xs:List (Nat×Int)},(xs.map (·.1)).Nodup->(k,v)∈xs->vF xs k=v
 |[],_,h=>nomatch h
 |(j,a)::r,nd,h=>by
  rw [AI,BB] at nd;unfold vF;rcases AK.mp h with e|h
  .cases e;rw [A6 rfl]
  .have:k∈r.map (·.1):=Ab.mpr ⟨_,h,rfl⟩;rw [A3 fun e:k=j=>nd.1 (e▸this),p2_ nd.2 h]
noncomputable def prd (x:Nat×Int) (ys:List (Nat×Int)) (s:Nat):Int:=(ys.map fun y=>if x.1+y.1=s then x.2*y.2*chS s x.1 else 0).sum
noncomputable def qx_ (xs ys:List (Nat×Int)) (s:Nat):Int:=(xs.map fun x=>prd x ys s).sum
theorem qw_ {m k:Nat}{xs ys:List (Nat×Int)} (hx:b1_ m xs) (hy:b1_ k ys) (hm:m<=20) (hk:k<=20) (s:Nat):qx_ xs ys s=cv (vF xs) (vF ys) s:=by
 unfold qx_;have e1:∀x:Nat×Int,prd x ys s=fA_ (fun t=>if x.1+t=s then x.2*vF ys t*chS s x.1 else 0) 21:=fun x=>by
  unfold prd;exact js_ (fun t v=>if x.1+t=s then x.2*v*chS s x.1 else 0) (fun t=>by split<;>simp) hy.1 fun y h=>by have:=(hy.2 y h).2;lia
 rw [Ae fun x _=>e1 x];exact js_ (fun r v=>fA_ (fun t=>if r+t=s then v*vF ys t*chS s r else 0) 21) (fun r=>eQ_ fun t _=>by split<;>simp) hx.1 fun x h=>by have:=(hx.2 x h).2;lia
theorem qz_ {x:Nat×Int}{ys:List (Nat×Int)}{j:Nat}{y:Nat×Int} (h:ys[j]? =some y) (s:Nat):prd x (ys.take (j+1)) s=prd x (ys.take j) s+if x.1+y.1=s then x.2*y.2*chS s x.1 else 0:=by
 unfold prd;rw [AV,h,AC,Bg];simp
theorem os_ {xs ys:List (Nat×Int)}{j:Nat}{x:Nat×Int} (h:xs[j]? =some x) (s:Nat):qx_ (xs.take (j+1)) ys s=qx_ (xs.take j) ys s+prd x ys s:=by
 unfold qx_;rw [AV,h,AC,Bg];simp
noncomputable def hg_ (g:Nat) (X:Nat->List (Nat×Int)) (d s:Nat):Int:=if 1<=d/\d<=g then vF (X d) s else 0
noncomputable def cx_ (b:Nat->Addr) (g:Nat):List (Key×V):=(List.range g).map fun i=>(.inl ((i+1:Nat):Int), .ref (b (i+1)))
theorem eD_ (b:Nat->Addr) (g:Nat):(cx_ b g).length=g:=by unfold cx_;rw [A1,B']
theorem mI_ {b:Nat->Addr}{g i:Nat} (h:i<g):(cx_ b g)[i]? =some (.inl ((i+1:Nat):Int), .ref (b (i+1))):=by
 unfold cx_;rw [A8,List.getElem?_range h];rfl
theorem eC_ {b:Nat->Addr}{d:Nat}:∀{g:Nat},cH_ (cx_ b g) (.inl (d:Int))=if 1<=d/\d<=g then some (.ref (b d)) else none
 |0=>by rw [A3 (by lia)];rfl
 |g+1=>by
  have e:cx_ b (g+1)=cx_ b g++[(.inl ((g+1:Nat):Int), .ref (b (g+1)))]:=by unfold cx_;rw [Av,AC];rfl
  rw [e,hm_ _ _ _ _ (by rw [eC_,A3 (by lia)]),eC_];by_cases h:d=g+1
  .subst h;rw [A6 rfl,A6 (by lia)]
  .rw [A3 fun z=>h (cq_.mp z)];by_cases h2:1<=d/\d<=g
   .rw [A6 h2,A6 (by lia)]
   .rw [A3 h2,A3 (by lia)]
theorem oA_ {b:Nat->Addr}{d g:Nat} (h1:1<=d) (h2:d<=g):cH_ (cx_ b g) (.inl (d:Int))=some (.ref (b d)):=by rw [eC_,A6 ⟨h1,h2⟩]
theorem ld_ {b b':Nat->Addr}{g:Nat} (h:∀d,1<=d->d<=g->b d=b' d):cx_ b g=cx_ b' g:=by
 unfold cx_;refine Ae fun i hi=> ?_;have:=AW.mp hi;rw [h (i+1) (by lia) (by lia)]
theorem jY_ (b:Nat->Addr) (g:Nat) (p:Addr):c2_ (cx_ b g) (.inl ((g+1:Nat):Int)) (.ref p)=cx_ (fun d=>if d=g+1 then p else b d) (g+1):=by
 unfold c2_;rw [A3 (by rw [c0_,eC_,A3 (by lia)];simp)];have e:cx_ (fun d=>if d=g+1 then p else b d) (g+1)=cx_ (fun d=>if d=g+1 then p else b d) g++[(.inl ((g+1:Nat):Int), .ref p)]:=by
  unfold cx_;rw [Av,AC];simp
 rw [e,ld_ (b:=b) (b':=fun d=>if d=g+1 then p else b d) fun d h1 h2=>(A3 (by lia)).symm]
noncomputable def Fz (H H':Hp):Prop:=∀a u,H a=some u->H' a=some u\/∃kvs o,(u= .dK kvs\/∃o',u= .frz o' (.dK kvs))/\H' a=some (.frz o (.dK kvs))
noncomputable def Pz (x y:Option HO):Prop:=∀u,x=some u->y=some u\/∃kvs o,(u= .dK kvs\/∃o',u= .frz o' (.dK kvs))/\y=some (.frz o (.dK kvs))
theorem Pz.of_eq {x y:Option HO} (h:y=x):Pz x y:=fun u e=> .inl (h.trans e)
theorem Pz.frz {H H':Hp}{c:Addr}{o:Obj}{kvs:List (Key×V)} (h:Rd H c (.dK kvs)) (e:H' c=some (.frz o (.dK kvs))):Pz (H c) (H' c):=by
 intro u hu;rcases h with h|⟨o',h⟩
 .rw [h] at hu;cases hu;exact .inr ⟨kvs,o, .inl rfl,e⟩
 .rw [h] at hu;cases hu;exact .inr ⟨kvs,o, .inr ⟨_,rfl⟩,e⟩
theorem Pz.trans {x y z:Option HO} (a:Pz x y) (b:Pz y z):Pz x z:=by
 intro u e;rcases a u e with e1|⟨kvs,o,e1,e2⟩
 .exact b u e1
 .rcases b _ e2 with e3|⟨k2,o2,e3|⟨o3,e3⟩,e4⟩
  .exact .inr ⟨kvs,o,e1,e3⟩
  .cases e3
  .cases e3;exact .inr ⟨kvs,o2,e1,e4⟩
theorem Pz.rd {H H':Hp}{a:Addr} (z:Pz (H a) (H' a)) {kvs:List (Key×V)} (h:Rd H a (.dK kvs)):Rd H' a (.dK kvs):=by
 rcases h with h|⟨o,h⟩
 .rcases z _ h with e|⟨k2,o2,e1|⟨o3,e1⟩,e2⟩
  .exact .inl e
  .cases e1;exact .inr ⟨_,e2⟩
  .cases e1
 .rcases z _ h with e|⟨k2,o2,e1|⟨o3,e1⟩,e2⟩
  .exact .inr ⟨_,e⟩
  .cases e1
  .cases e1;exact .inr ⟨_,e2⟩
theorem Fz.refl (H:Hp):Fz H H:=fun _ _ e=> .inl e
theorem Fz.rd {H H':Hp} (z:Fz H H') {a:Addr}{kvs:List (Key×V)} (h:Rd H a (.dK kvs)):Rd H' a (.dK kvs):=Pz.rd (z a) h
theorem Fz.trans {H H1 H2:Hp} (a:Fz H H1) (b:Fz H1 H2):Fz H H2:=fun x=>Pz.trans (a x) (b x)
theorem Fz.of_same {H H':Hp} (s:ao_ H H'):Fz H H':=fun _ _ e=> .inl (s _ _ e)
theorem Fz.lts {H H':Hp} (z:Fz H H'):LTS H H':=by
 refine⟨fun b xs e=> ?_,fun b xs e=> ?_⟩
 .rcases z _ _ e with h|⟨k,o,h|⟨o',h⟩,_⟩
  .exact h
  .cases h
  .cases h
 .rcases z _ _ e with h|⟨k,o,h|⟨o',h⟩,_⟩
  .exact h
  .cases h
  .cases h
theorem Fz.free {H H':Hp} (z:Fz H H') {a:Addr} (h:H' a=none):H a=none:=by
 cases e:H a with
 |none=>rfl
 |some u=>rcases z _ _ e with h2|⟨_,_,_,h2⟩<;>rw [h] at h2<;>cases h2
theorem Fz.walk {H H':Hp}{d:Addr}{o:Obj}{kvs:List (Key×V)} (h:Rd H d (.dK kvs)) (e:H' d=some (.frz o (.dK kvs))) (k:∀b,b≠d->H' b=H b):Fz H H':=by
 intro a;by_cases hd:a=d
 .subst hd;exact Pz.frz h e
 .exact Pz.of_eq (k a hd)
theorem Fz.put {H H1:Hp} (z:Fz H H1) {p:Addr} (n:H p=none) {o:HO}:Fz H (upd H1 p o):=fun a u e=>by
 have:a≠p:=by rintro rfl;rw [n] at e;cases e
 rw [ak_ this];exact z a u e
noncomputable def Tb (q g:Nat) (H:Hp) (a:Addr) (b:Nat->Addr) (X:Nat->List (Nat×Int)):Prop:=Rd H a (.dK (cx_ b g))/\∀d,1<=d->d<=g->Rd H (b d) (.dK (dI (X d)))/\b1_ (q*d) (X d)
theorem Tb.fz {q g:Nat}{H H':Hp}{a:Addr}{b:Nat->Addr}{X:Nat->List (Nat×Int)} (t:Tb q g H a b X) (z:Fz H H'):Tb q g H' a b X:=⟨z.rd t.1,fun d h1 h2=>⟨z.rd (t.2 d h1 h2).1,(t.2 d h1 h2).2⟩⟩
theorem pQ_ {H:Hp}{a:Addr}{xs:List (Nat×Int)} (h:Rd H a (.dK (dI xs))) {k:Nat} (hk:k∈xs.map (·.1)):jB_ H a (.int (k:Int)) (some (.int (vF xs k))):= .inl ⟨dI xs, .inl (k:Int),h,rfl,by rw [pO_,A6 hk]⟩
theorem d8_ {H:Hp}{a:Addr}{b:Nat->Addr}{g:Nat} (h:Rd H a (.dK (cx_ b g))) {d:Nat} (h1:1<=d) (h2:d<=g):jB_ H a (.int (d:Int)) (some (.ref (b d))):= .inl ⟨cx_ b g, .inl (d:Int),h,rfl,by rw [oA_ h1 h2]⟩
theorem ti_ {xs:List (Nat×Int)}{i:Nat}{k:Key}{v:V} (h:(dI xs)[i]? =some (k,v)):∃x,xs[i]? =some x/\k= .inl (x.1:Int):=by
 unfold dI at h;rw [A8] at h;obtain⟨x,hx,e⟩:=A5.mp h;cases e;exact⟨x,hx,rfl⟩
theorem kI_ (xs:List (Nat×Int)):(dI xs).length=xs.length:=by unfold dI;rw [A1]
noncomputable def uI_ (d:Nat) (x:List Lf):Nat:=(rh_ d (f0_ (d7_ x))).length
noncomputable def isW (d:Nat) (x:List Lf):Bool:=decide (uI_ d x=1)
noncomputable def rQ_ (d k:Nat):Int:=(((sD d k).filter (isW d)).map (vi_ d)).sum
noncomputable def cL:List (List Int):=[[],[1],[1,3],[1,12,21,15],[1,27,225,675,666,378,105],[1,48,882,7915]]
noncomputable def cT (d k:Nat):Int:=(cL.getD d []).getD k 0
noncomputable def ptF (d:Nat):Nat:=d*(d+3)/2
noncomputable def dF_ (g:Nat):List (List Int):=(List.range g).flatMap fun i=>(List.range ((i+1)*i/2+1)).map fun k=>e0_ (i+1) (ptF (i+1)-k) (cT (i+1) k)
noncomputable def Ft (g d s:Nat):Int:=if 1<=d/\d<=g/\s<=ptF d then cT d (ptF d-s) else 0
theorem tA_:((List.range 5).all fun g=>(List.range 5).all fun d=>(List.range 20).all fun s=>decide (Ft g d s=0)||(decide (1<=d)&&decide (d<=g)&&decide (1<=s)&&decide (s<=4*d)&&decide (e0_ d s (Ft g d s)∈dF_ g)))=true:=by ac_nf
theorem nR_ {g d s:Nat} (hg:g<5) (h:Ft g d s≠0):1<=d/\d<=g/\1<=s/\s<=4*d/\e0_ d s (Ft g d s)∈dF_ g:=by
 have hd:1<=d/\d<=g/\s<=ptF d:=C2 fun c=>h (A3 c);have:∀d,d<5->ptF d<20:=by decide
 have:=this d (by lia);have:=AZ.mp (AZ.mp (AZ.mp tA_ g (AW.mpr hg)) d (AW.mpr (by lia))) s (AW.mpr (by lia));simp only [Ca,AM,Bb] at this;obtain⟨⟨⟨⟨a,b⟩,c⟩,e⟩,f⟩:=this.resolve_left h;exact⟨a,b,c,e,f⟩
theorem hB_:∀g,g<5->∀r∈dF_ g,Ft g (r.getD 0 0).toNat (r.getD 1 0).toNat≠0/\r=e0_ (r.getD 0 0).toNat (r.getD 1 0).toNat (Ft g (r.getD 0 0).toNat (r.getD 1 0).toNat):=by ac_nf
theorem mi_ {g:Nat} (hg:g<5) {r:List Int}:r∈dF_ g↔∃d s,Ft g d s≠0/\r=e0_ d s (Ft g d s):=by
 constructor
 .intro h;exact⟨_,_,(hB_ g hg r h).1,(hB_ g hg r h).2⟩
 .rintro⟨d,s,h,rfl⟩;exact(nR_ hg h).2.2.2.2
theorem ts_:∀e:Nat,e<4->∀k:Nat,k<7->cF ⟨((e+1:Nat):Int),(k:Int),gz_ (e+1) [],gz_ (e+1) [((e+1:Nat):Int)]⟩=cT (e+1) k:=by ac_nf
theorem rp_:∀k:Nat,k<4->cF ⟨((5:Nat):Int),(k:Int),gz_ 5 [],gz_ 5 [((5:Nat):Int)]⟩=cT 5 k:=by ac_nf
theorem u4_ {d k:Nat} (h:Wide d k):cF ⟨(d:Int),(k:Int),gz_ d [],gz_ d [(d:Int)]⟩=cT d k:=by
 obtain⟨d1,h⟩:=h;rcases h with⟨d4,k6⟩|⟨rfl,k3⟩
 .obtain⟨e,rfl⟩:∃e,d=e+1:=⟨d-1,by lia⟩;exact ts_ e (by lia) k (by lia)
 .exact rp_ k (by lia)
noncomputable def Nf (d k e s:Nat):Int:=if e<d then Ft (d-1) e s else if e=d/\s+k=ptF d then cT d k else 0
noncomputable def mk_ (d k:Nat):List (List Int):=dF_ (d-1)++[e0_ d (ptF d-k) (cT d k)]
theorem uF_:∀d:Nat,d<6->ptF d<=4*d:=by decide
theorem pX_ {d k e s:Nat} (hd:1<=d/\d<6) (hk:k+1<=ptF d) (h:Nf d k e s≠0):1<=e/\e<=d/\1<=s/\s<=4*e/\e0_ e s (Nf d k e s)∈mk_ d k:=by
 unfold Nf at h⊢;split at h
 .next c=>
  rw [A6 c];obtain⟨a,b,c',e',f⟩:=nR_ (g:=d-1) (by lia) h;exact⟨a,by lia,c',e',Cv _ f⟩
 .next c=>
  rw [A3 c];split at h
  .next c2=>
   rw [A6 c2];obtain⟨rfl,c2⟩:=c2;have:=uF_ e (by lia);refine⟨by lia,by lia,by lia,by lia,Ar _ (Ah.mpr ?_)⟩;rw [show ptF e-k=s by lia]
  .exact absurd rfl h
theorem mj_ {d k:Nat} (hd:1<=d/\d<6) (hk:k+1<=ptF d) {r:List Int} (h:r∈mk_ d k):∃e s,r=e0_ e s (Nf d k e s)/\1<=e/\e<=d/\1<=s/\s<=4*e:=by
 rcases BK.mp h with h|h
 .obtain⟨e,s,hs,rfl⟩:=(mi_ (g:=d-1) (by lia)).mp h;obtain⟨a,b,c,f,_⟩:=nR_ (g:=d-1) (by lia) hs;refine⟨e,s, ?_,a,by lia,c,f⟩;unfold Nf;rw [A6 (by lia)]
 .rw [Ah.mp h];have:=uF_ d hd.2;refine⟨d,ptF d-k, ?_,hd.1,A9 _,by lia,by lia⟩;unfold Nf;rw [A3 (by lia),A6 ⟨rfl,by lia⟩]
theorem vc_:∀g,g<6->∀d,d<6->∀s,s<21->-(2^64)<Ft g d s/\Ft g d s<2^64:=by ac_nf
theorem u3_:∀d,d<6->∀k,k<21->-(2^64)<cT d k/\cT d k<2^64:=by ac_nf
theorem vd_ {d k e s:Nat} (hd:1<=d/\d<6) (hk:k+1<=ptF d): -(2^64)<Nf d k e s/\Nf d k e s<2^64:=by
 by_cases h:Nf d k e s=0
 .rw [h];decide
 .obtain⟨a,b,c,f,_⟩:=pX_ hd hk h;have p:=uF_ d hd.2;unfold Nf;split
  .exact vc_ _ (by lia) _ (by lia) _ (by lia)
  .split
   .exact u3_ _ (by lia) _ (by lia)
   .decide
noncomputable def VL:List (List Int):=[[],[1],[1],[1,12],[1,27,225,620]]
noncomputable def Vt (e s:Nat):Int:=if 1<=e/\s<=ptF e then(VL.getD e []).getD (ptF e-s) 0 else 0
theorem u8_:∀e,e<5->1<=e->∀s,s<21->Vt e s=Ft 4 e s-below (fun e'=>cv (Vt e') (Ft 4 (e-e')) s) e:=by ac_nf
theorem vZ_ {g e s:Nat} (h:e<=g) (g4:g<=4):Ft g e s=Ft 4 e s:=by
 unfold Ft;by_cases c:1<=e/\s<=ptF e
 .rw [A6 ⟨c.1,h,c.2⟩,A6 ⟨c.1,by lia,c.2⟩]
 .rw [A3 (fun z=>c ⟨z.1,z.2.2⟩),A3 (fun z=>c ⟨z.1,z.2.2⟩)]
theorem nP_ {d k e s:Nat} (hd:d<6) (h:e<d):Nf d k e s=Ft 4 e s:=by
 unfold Nf;rw [A6 h,vZ_ (by lia) (by lia)]
theorem ty_ {d k:Nat}{Wq:Nat->Nat->Int} (hd:d<6) (h:Wh d (Nf d k) Wq):∀n e,e<n->1<=e->e<d->∀s,s<21->Wq e s=Vt e s
 |0,e,hn,_,_,_,_=>absurd hn (Nat.not_lt_zero _)
 |n+1,e,hn,e1,ed,s,hs=>by
  rw [h e s,A6 ⟨e1,by lia⟩,u8_ e (by lia) e1 s hs,nP_ hd ed];congr 1
  refine cC_ fun e' h1 h2=>f9_ (fun i hi=>ty_ hd h n e' (by lia) h1 (by lia) i hi) (fun i _=>nP_ hd (by lia)) s
noncomputable def tC_ (d k:Nat):Int:=cT d k-below (fun e=>cv (Vt e) (Ft 4 (d-e)) (ptF d-k)) d
theorem u7_ {d k:Nat}{Wq:Nat->Nat->Int} (hd:1<=d/\d<6) (hk:k+1<=ptF d) (h:Wh d (Nf d k) Wq):Wq d (ptF d-k)=tC_ d k:=by
 rw [h d,A6 ⟨hd.1,A9 _⟩];unfold tC_;congr 1
 .unfold Nf;rw [A3 (by lia),A6 ⟨rfl,by lia⟩]
 .exact cC_ fun e h1 h2=>f9_ (fun i hi=>ty_ hd.2 h (e+1) e (by lia) h1 h2 i hi) (fun i _=>nP_ hd.2 (by lia)) _
noncomputable def rF_ (d k:Nat):Int:=if ptF d<k+1 then 0 else tC_ d k
theorem qo_:((List.range 4).all fun e=>(List.range 7).all fun k=>decide (rF_ (e+1) k=rQ_ (e+1) k))=true:=by ac_nf
theorem on_:((List.range 4).all fun k=>decide (rF_ 5 k=rQ_ 5 k))=true:=by ac_nf
theorem so_ {d k:Nat} (h:Wide d k):rF_ d k=rQ_ d k:=by
 obtain⟨d1,h⟩:=h;rcases h with⟨d4,k6⟩|⟨rfl,k3⟩
 .obtain⟨e,rfl⟩:∃e,d=e+1:=⟨d-1,by lia⟩;exact As (AZ.mp (AZ.mp qo_ e (AW.mpr (by lia))) k (AW.mpr (by lia)))
 .exact As (AZ.mp on_ k (AW.mpr (by lia)))
theorem sP_ {α:Type} [DecidableEq α]:∀{l L:List α},l.Nodup->(∀x∈l,x∈L)->l.length<=L.length
 |[],L,_,_=>AO _
 |x::r,L,nd,h=>by
  rw [BB] at nd;have hx:x∈L:=h x AX;have:=sP_ (L:=L.erase x) nd.2 fun y hy=>(List.mem_erase_of_ne fun e:y=x=>nd.1 (e▸hy)).mpr (h y (AS _ hy));rw [List.length_erase_of_mem hx] at this;have:=List.length_pos_of_mem hx;rw [AY];lia
section
variable {κ:Type} [DecidableEq κ]
noncomputable def tK (R:List (κ×Int)):List (κ×V):=R.map fun x=>(x.1,V.int x.2)
noncomputable def nX_:List (κ×Int)->κ->Int
 |[],_=>0
 |(a,b)::r,k=>if a=k then b else nX_ r k
noncomputable def iD_:List (κ×Int)->κ->Int->List (κ×Int)
 |[],k,v=>[(k,v)]
 |(a,b)::r,k,v=>if a=k then(a,v)::r else(a,b)::iD_ r k v
theorem r0_ (R:List (κ×Int)):(tK R).length=R.length:=by unfold tK;rw [A1]
theorem jM_ (k:κ):∀R:List (κ×Int),cH_ (tK R) k=if k∈R.map (·.1) then some (.int (nX_ R k)) else none
 |[]=>rfl
 |(a,b)::r=>by
  have ih:=jM_ k r;show cH_ ((a,V.int b)::tK r) k=_;by_cases e:a=k
  .subst e;rw [bv_ rfl];simp [nX_]
  .rw [bh_ e,ih];have:¬k=a:=fun z=>e z.symm;show _=if k∈a::r.map (·.1) then some (V.int (if a=k then b else nX_ r k)) else none
   rw [A3 e];by_cases h:k∈r.map (·.1)
   .rw [A6 h,A6 (AS _ h)]
   .rw [A3 h,A3 fun z=>(AK.mp z).elim this h]
theorem hs_ (k:κ) (v:Int):∀R:List (κ×Int),(iD_ R k v).map (·.1)=if k∈R.map (·.1) then R.map (·.1) else R.map (·.1)++[k]
 |[]=>by simp [iD_]
 |(a,b)::r=>by
  have ih:=hs_ k v r;unfold iD_;by_cases e:a=k
  .subst e;simp
  .rw [A3 e,AI,ih];have:¬k=a:=fun z=>e z.symm;show _=if k∈a::r.map (·.1) then a::r.map (·.1) else a::r.map (·.1)++[k]
   by_cases h:k∈r.map (·.1)
   .rw [A6 h,A6 (AS _ h)]
   .rw [A3 h,A3 fun z=>(AK.mp z).elim this h];rfl
theorem ql_ {k:κ}{v:Int}{R:List (κ×Int)} (h:(R.map (·.1)).Nodup):((iD_ R k v).map (·.1)).Nodup:=by
 rw [hs_];by_cases e:k∈R.map (·.1)
 .rw [A6 e];exact h
 .rw [A3 e];refine List.nodup_append.mpr ⟨h,by simp,fun a ha b hb z=> ?_⟩;rw [Ah.mp hb] at z;exact e (z▸ha)
theorem jT_ {k:κ}{v:Int}:∀{R:List (κ×Int)}{x:κ×Int},x∈iD_ R k v->x∈R\/x=(k,v)
 |[],x,h=> .inr (Ah.mp h)
 |(a,b)::r,x,h=>by
  unfold iD_ at h;by_cases e:a=k
  .rw [A6 e] at h;rcases AK.mp h with h|h
   .exact .inr (by rw [h,e])
   .exact .inl (AS _ h)
  .rw [A3 e] at h;rcases AK.mp h with h|h
   .exact .inl (by rw [h];exact AX)
   .exact(jT_ h).imp (AS _) id
theorem pk_ {k:κ}{v:Int}:∀{R:List (κ×Int)},(R.map (·.1)).Nodup->c2_ (tK R) k (.int v)=tK (iD_ R k v)
 |[],_=>rfl
 |(a,b)::r,nd=>by
  rw [AI,BB] at nd;have ih:=pk_ (k:=k) (v:=v) nd.2;unfold c2_ at ih⊢;show(if(((a,V.int b)::tK r).any fun kv=>decide (kv.1=k))=true then _ else _)=_;rw [List.any_cons];by_cases e:a=k
  .subst e;rw [B9 rfl,Bool.true_or,A6 rfl];unfold iD_;rw [A6 rfl];show((a,V.int b)::tK r).map _=(a,V.int v)::tK r;rw [AI,A6 rfl];congr 1
   conv=>rhs;rw [<-List.map_id (tK r)]
   refine Ae fun x hx=> ?_;obtain⟨y,hy,rfl⟩:=Ab.mp hx;rw [A3 fun z=>nd.1 (Ab.mpr ⟨y,hy,z⟩)];rfl
  .rw [Ai e,Bool.false_or];unfold iD_;rw [A3 e];show _=(a,V.int b)::tK (iD_ r k v);rw [<-ih];by_cases c:((tK r).any fun kv=>decide (kv.1=k))=true
   .rw [A6 c,A6 c];show((a,V.int b)::tK r).map _=_;rw [AI,A3 e]
   .rw [A3 c,A3 c];rfl
end
noncomputable def But (b:Addr) (H H':Hp):Prop:=∀c o,H c=some o->c≠b->H' c=some o
theorem tt_ {z:Int} (h0:0<z) (h1:z<=10^60):z≠0/\z.natAbs<2^512:=by
 have:(10:Nat)^60<2^512:=by decide
 constructor<;>lia
theorem But.of_same {b:Addr}{H H':Hp} (s:ao_ H H'):But b H H':=fun c o e _=>s _ _ e
theorem But.trans {b:Addr}{H H' H'':Hp} (s:But b H H') (t:But b H' H''):But b H H'':=fun c o e n=>t c o (s c o e n) n
theorem But.upd {b:Addr}{H:Hp}{o:HO}:But b H (L2.upd H b o):=fun c u e n=>by rw [ak_ n];exact e
theorem But.same {b:Addr}{H H1 H2:Hp} (s:ao_ H H1) (nb:H b=none) (t:But b H1 H2):ao_ H H2:=fun c o e=>t c o (s c o e) (by rintro rfl;rw [nb] at e;cases e)
theorem o9_ {vs:List V}{k:Nat}:kJ_ vs none (some (k:Int))=vs.take k:=by
 unfold kJ_;rw [HT.sIx_nat,HT.sIx_none,List.drop_zero,Nat.sub_zero];exact List.take_eq_take_iff.mpr (by lia)
noncomputable def si_ (K:W.Frag):Sp:=fun vs H Q _=>∃(a:Addr) (ns:List Int) (k:Int),vs=[.ref a, .int k]/\SqL K H a (ns.map V.int)/\0<=k/\∀z,Q (.int z) H
noncomputable def jQ_ (K:W.Frag):Sp:=fun vs H Q _=>∃(a:Addr) (ns:List Int),vs=[.ref a]/\SqL K H a (ns.map V.int)/\ns.length<=63/\∀H',Q (.bl true) H'
noncomputable def qh_ (_:W.Frag):Sp:=fun vs H Q _=>∃x:Int,vs=[.int x]/\∀z,0<=z->Q (.int z) H
noncomputable def uo_ (_:W.Frag):Sp:=fun vs H Q _=>∃(b:Addr) (m z:Int),vs=[.ref b, .int m]/\H b=some (.lst [.int z])/\0<=z/\0<m/\m<=10^60/\∀y z',0<=y->y<m->0<=z'->Q (.int y) (upd H b (.lst [.int z']))
noncomputable def stD (x:List Lf×Int):D:= .t [lfs x.1, .i x.2]
noncomputable def Lok (p:Lf):Prop:=0<=p.2.1-p.1/\p.2.1-p.1<=10/\1<=p.2.2/\p.2.2<=20
noncomputable def sj_ (_:W.Frag):Sp:=fun vs H Q _=>∃i lo hi:Int,vs=[.int i, .int lo, .int hi]/\lo<=i/\i<=hi/\Q .non H
noncomputable def sh_ (_:W.Frag):Sp:=fun vs H Q _=>∃i:Int,vs=[.int i]/\1<=i/\i<=5/\Q .non H
noncomputable def r8_ (_:W.Frag):Sp:=fun vs H Q _=>∃d k:Nat,vs=[.int d, .int k]/\Wide d k/\Q .non H
noncomputable def sf_ (_:W.Frag):Sp:=fun vs H Q _=>∃(n:Nat) (dv:V) (ps:List Lf),vs=[.int n,dv]/\1<=n/\n<=5/\Is H (lfs ps) dv/\(∀p∈ps,Okl n p)/\∀l H',ao_ H H'->H l=none->H' l=some (.lst ((bD_ n ps).map V.int))->Q (.ref l) H'
noncomputable def sc_ (_:W.Frag):Sp:=fun vs H Q _=>∃(v:V) (p:Lf),vs=[v]/\Is H (lf p) v/\Lok p/\Q (.int (bO_ p)) H
noncomputable def uj_ (_:W.Frag):Sp:=fun vs H Q _=>∃(d f n:Nat) (sp:Int),vs=[.int d, .int f, .int n, .int sp]/\f<=d/\d<=5/\n<=20/\∀l H',ao_ H H'->H l=none->Is H' (lfs (lj_ f (d-f) n sp)) (.ref l)->Q (.ref l) H'
noncomputable def sd_ (n:Nat) (_:W.Frag):Sp:=fun vs H Q _=>∃(v:V) (ls:List Lf) (wt sp:Int),vs=[v, .int wt, .int sp]/\Is H (lfs ls) v/\(∀p∈ls,Lok p)/\0<=wt/\wt<n/\(c7_ n ls wt sp).length<=1000/\ls.length<=200/\n<=100/\
 ∀l H',ao_ H H'->H l=none->Is (nw H H') (.l ((c7_ n ls wt sp).map lfs)) (.ref l)->Q (.ref l) H'
noncomputable def r7_ (_:W.Frag):Sp:=fun vs H Q _=>∃(d f:Nat) (v:V) (x:List Lf×Int),vs=[.int d, .int ((f+1:Nat):Int),v, .int x.2]/\f<d/\d<=5/\Is H (lfs x.1) v/\stB d f x=true/\
 ∀l H',ao_ H H'->H l=none->Is (nw H H') (.l ((eL_ d (f+1) x.1 x.2).map stD)) (.ref l)->Q (.ref l) H'
noncomputable def sg_ (_:W.Frag):Sp:=fun vs H Q _=>∃d k:Nat,vs=[.int d, .int k]/\Wide d k/\∀l H',ao_ H H'->H l=none->Is (nw H H') (.l ((sD d k).map lfs)) (.ref l)->Q (.ref l) H'
theorem kg_ {K:W.Frag}{n:String}:W.kitOne K (.type n) (.type n)=some true:=by
 unfold W.kitOne;simp
theorem ko_ {H:Hp}{Wq:List (List Lf)}{vs:List V} (h:Iss H (Wq.map lfs) vs):∀(l:List Nat),(∀i∈l,i<Wq.length)->Iss H ((l.map fun i=>Wq.getD i []).map lfs) (l.map fun i=>vs.getD i .non)
 |[],_=>am_
 |i::l,hl=>by
  have hi:i<Wq.length:=hl i (by simp);have hr:i<vs.length:=by rw [h.length,A1];exact hi
  refine ai_ ?_ (ko_ h l fun j hj=>hl j (by simp [hj]));obtain⟨d,hd,h1⟩:=h.of_get (A4 hr);rw [A8,A4 hi] at hd;cases hd;show Is H (lfs (Wq.getD i [])) (vs.getD i .non);rw [AA,AA,A4 hi,A4 hr];exact h1
theorem sJ_ {H:Hp}{x:List Lf×Int}{v:V} (h:Is H (stD x) v):∃t u,v= .ref t/\H t=some (.tup [u, .int x.2])/\Is H (lfs x.1) u:=by
 obtain⟨t,vs,rfl,ht,hi⟩:=hj_ h;obtain⟨u,us,rfl,h1,h2⟩:=ay_ hi;obtain⟨u2,us2,rfl,h3,h4⟩:=ay_ h2;rw [c4_ h3,bm_ h4] at ht;exact⟨t,u,rfl,ht,h1⟩
theorem ok_ {ps:List Lf}:∀x∈ps.map hi_,x.length=3:=fun x hx=>by
 obtain⟨p,_,rfl⟩:=Ab.mp hx;rfl
theorem rb_ {d:Nat} (h1:1<=d) (h5:d<=5):(d:Int)*((d:Int)-1)/2=((d*(d-1)/2:Nat):Int):=by
 have:d=1\/d=2\/d=3\/d=4\/d=5:=by lia
 rcases this with rfl|rfl|rfl|rfl|rfl<;>rfl
theorem nh_ {H H':Hp}{a:Addr} (k:But a H H'):ao_ (hid H a) H':=fun b o e=>by
 have hb:b≠a:=by rintro rfl;rw [oV_] at e;cases e
 rw [ku_ hb] at e;exact k _ _ e hb
theorem ii_ {vs:List V}{i:Nat} (h:i<=vs.length):kJ_ vs (some (i:Int)) none=vs.drop i:=by
 unfold kJ_;rw [HT.sIx_nat,HT.sIx_none,Nat.min_eq_left h,List.take_of_length_le (by simp)]
theorem Snd.good {d:Nat}{ps:List Lf} (h:Snd d ps):pY_ d ps:=⟨h.ok,h.nn⟩
theorem Snd.okl {d:Nat}{ps:List Lf} (h:Snd d ps):∀p∈ps,Okl d p:=h.good.okl
theorem rc_ {ns:List Int} (h:∀i:Nat,0<=ns.getD i 0):0<=sQ_ ns:=h _
theorem Snd.ends {d:Nat}{ps:List Lf} (h:Snd d ps) (i:Nat):0<=(bD_ d ps).getD i 0:=by
 rcases Bd i d with c|c
 .rw [g9_ h.okl c];exact h.nn i c
 .rw [AA,List.getElem?_eq_none (by rw [eH_ d ps h.okl];exact c)];exact Cg _
noncomputable def t9_ (_:W.Frag):Sp:=fun vs H Q _=>∃(n:Nat) (dv:V) (ps:List Lf),vs=[.int n,dv]/\1<=n/\n<=5/\Is H (lfs ps) dv/\Snd n ps/\∀H',ao_ H H'->Q (.bl true) H'
noncomputable def uh_ (_:W.Frag):Sp:=fun vs H Q _=>∃(n:Nat) (dv:V) (ps:List Lf),vs=[.int n,dv]/\1<=n/\n<=5/\Is H (lfs ps) dv/\Snd n ps/\∀H',ao_ H H'->Q .non H'
noncomputable def un_ (_:W.Frag):Sp:=fun vs H Q _=>∃(n:Nat) (dv:V) (ps:List Lf),vs=[.int n,dv]/\1<=n/\n<=5/\Is H (lfs ps) dv/\Snd n ps/\(fr_ n (bD_ n ps)).length<=20/\∀l H',ao_ H H'->H l=none->Is H' (lfs (fr_ n (bD_ n ps))) (.ref l)->Q (.ref l) H'
theorem pC_ {H H':Hp}{l:Addr}{o:HO}{xs:List V}{qs:List Lf}{vs:List V} (s:ao_ H H') (hl:H l=some (.lst xs)) (h:Iss H (qs.map lf) vs):Iss (upd H' l o) (qs.map lf) vs:=
 kp_ (fun a ys e=>by rw [ak_ (by rintro rfl;rw [hl] at e;cases e)];exact s _ _ e) h
theorem sU_ {H:Hp}{p q:Lf}{v:V} (h:Is H (lf p) v) (k:Is H (lf q) v):p=q:=by
 obtain⟨a,rfl,ha⟩:=hM_ h;obtain⟨b,e,hb⟩:=hM_ k;cases e;rw [ha] at hb;obtain⟨a1,a2,a3⟩:=p;obtain⟨b1,b2,b3⟩:=q;simp at hb;simp [hb]
theorem rW_ {K:W.Frag}{H:Hp}{wt:List Lf}{m:Lf}{wvs:List V}{v:V} (h:Iss H (wt.map lf) wvs) (k:Is H (lf m) v):u9_ K H 1 wvs v (fun j=>decide (wt.getD j (0,0,0)=m)):=by
 have at_:∀(j:Nat) z,wvs[j]? =some z->Is H (lf (wt.getD j (0,0,0))) z:=fun j z hz=>by
  obtain⟨d,hd,h1⟩:=h.of_get hz;rw [A8] at hd;obtain⟨d',hd',rfl⟩:=A5.mp hd;rw [List.getD,hd'];exact h1
 refine⟨by decide,fun j z hz=>⟨?_,pJ_ (at_ j z hz) k⟩,fun i j z hi hj=> ?_⟩
 .obtain⟨a,e,_⟩:=hM_ (at_ j z hz);exact⟨a,e⟩
 .show decide (wt.getD i (0,0,0)=m)=decide (wt.getD j (0,0,0)=m);rw [sU_ (at_ i z hi) (at_ j z hj)]
noncomputable def ti (t:List Int):D:=tI t
noncomputable def us_ (_:W.Frag):Sp:=fun vs H Q _=>∃(n:Int) (k:Nat),vs=[.int n, .int k]/\(k:Int)<=n/\n<=15/\Q (.int (chF n k)) H
noncomputable def vw_ (_:W.Frag):Sp:=fun vs H Q _=>∃(v:V) (t:List Int) (p:Nat) (m:Int),vs=[v, .int p, .int m]/\Is H (tI t) v/\p<t.length/\t.length<=5/\∀u H',ao_ H H'->Is H' (tI (wmF t p m)) u->Q u H'
noncomputable def vY_ (t:List Int) (a:Nat):Prop:=t.length<=5/\(∀i:Nat,0<=t.getD i 0)/\t.sum+(a:Int)<=15
noncomputable def vA_ (n:Nat) (_:W.Frag):Sp:=fun vs H Q _=>∃(v:V) (t:List Int) (p g a:Nat),vs=[v, .int p, .int ((p:Int)+(g:Int)), .int a]/\Is H (tI t) v/\g<n/\n<=6/\p+g<t.length/\vY_ t a/\∀l H',ao_ H H'->H l=none->Is H' (.l ((pbF g t p a).map prD)) (.ref l)->Q (.ref l) H'
noncomputable def vm_ (d:Nat) (mk:List Lf):Prop:=(∀m∈mk,1<=m.1/\m.1<m.2.1/\m.2.1<=(d:Int)+1)/\mk.length<=15
noncomputable def ul_ (_:W.Frag):Sp:=fun vs H Q _=>∃(d:Nat) (v:V) (mk:List Lf),vs=[.int d,v]/\1<=d/\d<=5/\Is H (lfs mk) v/\vm_ d mk/\∀H',ao_ H H'->Q (.int (hmF d mk)) H'
noncomputable def vB_ (_:W.Frag):Sp:=fun vs H Q _=>∃(d:Nat) (v:V) (ps:List Lf),vs=[.int d,v]/\1<=d/\d<=5/\Is H (lfs ps) v/\Snd d ps/\∀H',ao_ H H'->Q (.int (hmF d (ps++fr_ d (bD_ d ps)))) H'
theorem rY_ {t:List Int}{p:Nat} (H':Hp) (vs:List V) (h:Iss H' (t.map .i) vs):Iss H' ((t.take p).map .i) (kJ_ vs none (some (p:Int))):=by
 rw [o9_,List.map_take];exact h.take p
theorem p5_ {t:List Int}{p:Nat} (hp:p<=t.length) (H':Hp) (vs:List V) (h:Iss H' (t.map .i) vs):Iss H' ((t.drop p).map .i) (kJ_ vs (some (p:Int)) none):=by
 rw [ii_ (by rw [h.length,A1];exact hp),List.map_drop];exact h.drop p
theorem ps_:∀{g:Nat}{t:List Int}{p a:Nat},(pbF g t p a).length<=(a+1)^g
 |0,t,p,a=>by simp [pbF]
 |g+1,t,p,a=>by
  have go:∀n,n<=a+1->((List.range n).flatMap fun h:Nat=>(pbF g (wmF t p (h:Int)) (p+1) (a-h)).map fun x=>(x.1,chF (t.getD p 0+(h:Int)) h*x.2)).length<=n*(a+1)^g:=by
   intro n hn;induction n with
   |zero=>simp
   |succ n ih=>
    rw [bY_,AF,A1];have h1:=ih (by lia);have h2:=ps_ (g:=g) (t:=wmF t p (n:Int)) (p:=p+1) (a:=a-n);have h3:(a-n+1)^g<=(a+1)^g:=Nat.pow_le_pow_left (by lia) g;rw [CT];lia
  have:=go (a+1) (A9 _);rw [Nat.pow_succ,Nat.mul_comm];exact this
theorem oy_ {g:Nat}{t:List Int}{p a:Nat} (hg:g<=5) (ha:a<=15):(pbF g t p a).length<=1048576:=by
 have h1:=ps_ (g:=g) (t:=t) (p:=p) (a:=a);have h2:(a+1)^g<=16^g:=Nat.pow_le_pow_left (by lia) g;have h3:16^g<=16^5:=CO (by decide) hg;lia
theorem oN_ {n:Nat} (h:n<=1048576):n<sizeLine:=by rw [B0];lia
theorem q6_ {H:Hp}{x:List Int×Int}{t:Addr}{u:V} (h:H t=some (.tup [u, .int x.2])) (k:Is H (tI x.1) u):Is H (prD x) (.ref t):=g1_ h (ai_ k (ai_ ex_ am_))
theorem qO_ {H:Hp}{x:List Int×Int}{v:V} (h:Is H (prD x) v):∃t u,v= .ref t/\H t=some (.tup [u, .int x.2])/\Is H (tI x.1) u:=by
 obtain⟨t,vs,rfl,ht,hi⟩:=hj_ h;obtain⟨u1,us,rfl,hu1,hi⟩:=ay_ hi;obtain⟨u2,us,rfl,hu2,hi⟩:=ay_ hi;rw [bm_ hi,c4_ hu2] at ht;exact⟨t,u1,rfl,ht,hu1⟩
theorem rX_ {H H':Hp} (s:bI_ H H') {t:List Int}{v:V} (h:Is H (tI t) v):Is H' (tI t) v:=by
 obtain⟨a,rfl,ha⟩:=cz_ h;exact h9_ (s _ _ ha)
theorem jX_ {H H':Hp} (s:bI_ H H') {x:List Int×Int}{v:V} (h:Is H (prD x) v):Is H' (prD x) v:=by
 obtain⟨a,u,rfl,ha,hu⟩:=qO_ h;exact q6_ (s _ _ ha) (rX_ s hu)
theorem mu_ {H H':Hp} (s:bI_ H H'):∀{xs:List (List Int×Int)}{vs:List V},Iss H (xs.map prD) vs->Iss H' (xs.map prD) vs
 |[],_,h=>by rw [bm_ h];exact am_
 |x::xs,_,h=>by
  obtain⟨u,us,rfl,q,r⟩:=ay_ h;exact ai_ (jX_ s q) (mu_ s r)
theorem uN_ {d:Nat}{ps:List Lf} (hs:Snd d ps) (d1:1<=d) (d5:d<=5):vm_ d (ps++fr_ d (bD_ d ps)):=by
 obtain⟨pl,p10,_⟩:=hs.good.len d1 d5;have em:(fr_ d (bD_ d ps)).length=d:=if_ hs.okl hs.nn;refine⟨fun m hm=> ?_,by rw [AF];lia⟩;rcases BK.mp hm with h|h
 .obtain⟨o1,o2,o3,_⟩:=hs.ok m h;exact⟨o1,o2,by lia⟩
 .unfold fr_ at h;obtain⟨i,hi,h⟩:=BC.mp h;have hi:=AW.mp hi;unfold lp_ at h;rw [(List.mem_replicate.mp h).2];exact⟨by show 1<=1+(i:Int);lia,by show 1+(i:Int)<(d:Int)+1;lia,by show(d:Int)+1<=_;lia⟩
theorem k7_ {r:List Nat}{t:List Int}{p:Nat} (h:∀i:Nat,0<=t.getD i 0) (hs:t.sum+(r.sum:Nat)<=15) (hl:r.length<=5): -(2^64)<hh_ t p r/\hh_ t p r<2^64:=by
 obtain⟨a,b⟩:=mn_ (p:=p) h hs;have:(6435:Int)^r.length<=6435^5:=by
  have:r.length=0\/r.length=1\/r.length=2\/r.length=3\/r.length=4\/r.length=5:=by lia
  rcases this with e|e|e|e|e|e<;>rw [e]<;>decide
 lia
theorem p4_ {K:W.Frag}{H:Hp}{wt:List Lf}{m:Lf}{wvs:List V}{v:V} (h:Iss H (wt.map lf) wvs) (k:Is H (lf m) v):rw_ K H 1 wvs v (fun j=>decide (wt.getD j (0,0,0)=m)):=by
 obtain⟨a,b,c⟩:=rW_ (K:=K) h k;exact⟨a,fun j z hz=>⟨(b j z hz).1,(b j z hz).2.told⟩,c⟩
theorem qd_ (xs:List Lf):(k1_ xs).Nodup:=(iQ_ xs).imp fun{a b} h e=>by subst e;exact gN_ h
theorem ie_ {α β:Type} (f:β->α->β) (b:β) (xs:List α) (j:Nat) (x:α) (h:xs[j]? =some x):(xs.take (j+1)).foldl f b=f ((xs.take j).foldl f b) x:=by
 rw [AV,h,C6];rfl
theorem p7_ (cnt:Lf->Nat) (m:Lf) (ms:List Lf):TF cnt (m::ms)=rE_ (TF cnt ms) (m.1-1).toNat (spR (m.2.1-m.1-1).toNat (cnt m)):=by funext t;rfl
theorem jr_ {p:Nat}{rs:List (List Nat)}{D:Tab}{j:Nat}{x:List Int×Int}{acc:Tab} (h:D[j]? =some x):stP p rs (D.take (j+1)) acc=inP x.1 x.2 p rs (stP p rs (D.take j) acc):=ie_ _ _ D j x h
theorem n7_ {H:Hp}{d:Addr}{kvs:List (List Key×V)}{o:HO} (h:H d=some (.dT kvs)):bI_ H (upd H d o):=(LTS.dict h).2
theorem kx_ {κ:Type} [DecidableEq κ] {k:κ}:∀{R:List (κ×Int)},k∈R.map (·.1)->(k,nX_ R k)∈R
 |[],h=>nomatch h
 |(a,b)::r,h=>by
  unfold nX_;by_cases e:a=k
  .rw [A6 e,e];exact AX
  .rw [A3 e];rw [AI,AK] at h;exact AS _ (kx_ (h.resolve_left fun z=>e z.symm))
theorem kw_ {κ:Type} [DecidableEq κ] {k:κ}{v:Int}:∀{R:List (κ×Int)},nX_ (iD_ R k v) k=v/\k∈(iD_ R k v).map (·.1)
 |[]=>by simp [iD_,nX_]
 |(a,b)::r=>by
  obtain⟨h1,h2⟩:=kw_ (k:=k) (v:=v) (R:=r);unfold iD_;by_cases e:a=k
  .rw [A6 e];exact⟨A6 e,by rw [AI,e];exact AX⟩
  .rw [A3 e];exact⟨by unfold nX_;rw [A3 e];exact h1,by rw [AI];exact AS _ h2⟩
noncomputable def rwL (t:List Int):D:= .l (t.map .i)
noncomputable def qD (q:Ask4):D:= .t [.i q.d, .i q.k,tI q.h,tI q.f]
noncomputable def smD (x:Sm4):D:= .t [.i x.1,rwL x.2.1,qD x.2.2]
noncomputable def kq (q:Ask4):List (Mx Int):=[.inl q.d, .inl q.k, .inr q.h, .inr q.f]
theorem sW_ {q r:Ask4} (h:kq q=kq r):q=r:=by
 obtain⟨a,b,c,d⟩:=q;obtain⟨a',b',c',d'⟩:=r;unfold kq at h;simp only [D0,Sum.inl.injEq,Sum.inr.injEq,and_true] at h;obtain⟨rfl,rfl,rfl,rfl⟩:=h;rfl
theorem q7_ {H:Hp}{q:Ask4}{v:V} (h:Is H (qD q) v):IsK H (kq q) v:=⟨rfl,h⟩
theorem fV_ {H:Hp}{t:List Int}{v:V} (h:Is H (rwL t) v):∃a,v= .ref a/\H a=some (.lst (t.map V.int)):=by
 obtain⟨a,vs,rfl,ha,hi⟩:=cn_ h;rw [eF_ hi] at ha;exact⟨a,rfl,ha⟩
theorem ia_ {H:Hp}{t:List Int}{a:Addr} (h:H a=some (.lst (t.map V.int))):Is H (rwL t) (.ref a):=c8_ h (g2_ t)
theorem pw_ {H0 H:Hp}{t:List Int}{a:Addr} (n:H0 a=none) (h:Is H (rwL t) (.ref a)):Is (nw H0 H) (rwL t) (.ref a):=by
 obtain⟨_,e,ha⟩:=fV_ h;cases e;exact ia_ (by rw [cV_ n];exact ha)
theorem gc_ {H H':Hp} (t:bI_ H H') {xs:List Int}{v:V} (h:Is H (tI xs) v):Is H' (tI xs) v:=by
 obtain⟨a,rfl,ha⟩:=cz_ h;exact h9_ (t _ _ ha)
theorem eN_ {H H':Hp} (t:bI_ H H'):∀{ts:List (List Int)}{vs:List V},Iss H (ts.map tI) vs->Iss H' (ts.map tI) vs
 |[],_,h=>by rw [bm_ h];exact am_
 |p::ps,_,h=>by
  obtain⟨u,us,rfl,h1,h2⟩:=ay_ h;exact ai_ (gc_ t h1) (eN_ t h2)
theorem sM_ {H0 H:Hp} (s:ao_ H0 H):bI_ H (nw H0 H):=fun a xs e=>j0_ s e
theorem ve_ {H H':Hp} (t:bI_ H H') {q:Ask4}{v:V} (h:Is H (qD q) v):Is H' (qD q) v:=by
 obtain⟨a,vs,rfl,ha,hi⟩:=hj_ h;obtain⟨u1,us,rfl,h1,hi⟩:=ay_ hi;obtain⟨u2,us,rfl,h2,hi⟩:=ay_ hi;obtain⟨u3,us,rfl,h3,hi⟩:=ay_ hi;obtain⟨u4,us,rfl,h4,hi⟩:=ay_ hi;rw [bm_ hi,c4_ h1,c4_ h2] at ha;exact g1_ (t _ _ ha) (ai_ ex_ (ai_ ex_ (ai_ (gc_ t h3) (ai_ (gc_ t h4) am_))))
noncomputable def fK_ (t:List Int):Prop:=Nn t/\t.length<=5/\(t=[]\/∃s x,t=s++[x]/\0<x)
noncomputable def uk_ (_:W.Frag):Sp:=fun vs H Q _=>∃(v:V) (t:List Int),vs=[v]/\Is H (rwL t) v/\fK_ t/\Q (.bl true) H
noncomputable def ud_ (_:W.Frag):Sp:=fun vs H Q _=>∃(v:V) (t:List Int),vs=[v]/\Is H (rwL t) v/\t.length<=5/\∀H',ao_ H H'->Q (.int (wtF t)) H'
noncomputable def uc_ (_:W.Frag):Sp:=fun vs H Q _=>∃(v:V) (t:List Int),vs=[v]/\Is H (tI t) v/\t.length<=5/\∀H',ao_ H H'->Q (.int (wtF t)) H'
noncomputable def ui_ (_:W.Frag):Sp:=fun vs H Q _=>∃(d:Int) (v1 v2:V) (a b:List Int),vs=[.int d,v1,v2]/\Is H (rwL a) v1/\Is H (rwL b) v2/\fK_ a/\fK_ b/\wtF a+wtF b=d/\∀H',ao_ H H'->Q .non H'
noncomputable def ug_ (_:W.Frag):Sp:=fun vs H Q _=>∃(v:V) (ws:List Int),vs=[v]/\Is H (rwL ws) v/\(∀w∈ws,1<=w/\w<=5)/\Q (.int (iE_ ws)) H
noncomputable def um_ (_:W.Frag):Sp:=fun vs H Q _=>∃(v:V) (t:List Int) (n:Nat),vs=[v, .int n]/\Is H (rwL t) v/\t.length<=n/\n<=5/\∀u H',ao_ H H'->Is H' (tI (gz_ n t)) u->Q u H'
noncomputable def ub_ (_:W.Frag):Sp:=fun vs H Q _=>∃(v:V) (t:List Int),vs=[v]/\Is H (tI t) v/\Nn t/\t.sum<=5/\t.length<=5/\∀l H',ao_ H H'->H l=none->Is H' (.l ((rwF t).map tI)) (.ref l)->Q (.ref l) H'
noncomputable def uf_ (n:Nat) (_:W.Frag):Sp:=fun vs H Q _=>∃(v:V) (t:List Int) (wt:Int) (fi:Nat),vs=[v, .int wt, .int fi]/\Is H (tI t) v/\Nn t/\t.length<=5/\(wt-wtF t).toNat+1<=n/\n<=8/\-1000<=wt/\wt<=1000/\-1000<=wtF t/\wtF t<=1000/\fi<=5/\∀l H',ao_ H H'->H l=none->Is H' (.l ((rbF n t wt fi).map tI)) (.ref l)->Q (.ref l) H'
noncomputable def ur_ (_:W.Frag):Sp:=fun vs H Q _=>∃(v1 v2:V) (b a:List Int),vs=[v1,v2]/\Is H (tI b) v1/\Is H (tI a) v2/\Le a b/\b.sum<=5/\∀H',ao_ H H'->Q (.int (iF_ b a)) H'
noncomputable def t7_ (_:W.Frag):Sp:=fun vs H Q _=>∃(v1 v2:V) (f fr:List Int),vs=[v1,v2]/\Is H (tI f) v1/\Is H (tI fr) v2/\Le f fr/\fr.length<=5/\fr.sum<=5/\∀l H',ao_ H H'->H l=none->Is H' (rwL (wgF f fr)) (.ref l)->Q (.ref l) H'
noncomputable def r9_ (g:Ask4->List Sm4):Sp:=fun vs H Q _=>∃(v1 v2:V) (q:Ask4) (L:Nat),vs=[.int q.d, .int q.k,v1,v2]/\Is H (tI q.h) v1/\Is H (tI q.f) v2/\AskOk L q/\2<=q.d/\∀l H',ao_ H H'->H l=none->Is (nw H H') (.l ((g q).map smD)) (.ref l)->Q (.ref l) H'
noncomputable def ua_ (_:W.Frag):Sp:=fun vs H Q _=>∃(v:V) (q:Ask4) (L:Nat),vs=[v]/\Is H (qD q) v/\AskOk L q/\2<=q.d/\∀l H',ao_ H H'->H l=none->Is (nw H H') (.l ((fz_ q).map smD)) (.ref l)->Q (.ref l) H'
theorem lK_:∀{a b:List Int}{k:Int},Le a b->((wgG k a b).length:Int)=b.sum-a.sum
 |[],[],_,_=>rfl
 |x::a,y::b,k,h=>by
  show((List.replicate (y-x).toNat k++wgG (k+1) a b).length:Int)=_;have:=lK_ (k:=k+1) h.2.2;have h1:=h.2.1;rw [AF,BF,Aj,Aj];lia
theorem pg_:∀{a b:List Int}{k:Int},Le a b->∀w∈wgG k a b,k<=w/\w<k+a.length
 |[],[],_,_,w,h=>nomatch h
 |x::a,y::b,k,h,w,hw=>by
  rcases BK.mp (show w∈List.replicate (y-x).toNat k++wgG (k+1) a b from hw) with hw|hw
  .have:=List.eq_of_mem_replicate hw;rw [AY];lia
  .have:=pg_ h.2.2 w hw;rw [AY];lia
noncomputable def KnQ (L:Nat) (R:List (List (Mx Int)×Int)):Prop:=(R.map (·.1)).Nodup/\∀x∈R,∃q,AskOk L q/\0<=q.k/\x=(kq q,cF q)
noncomputable def vT_ (L:Nat):List (List (Mx Int)):=(List.range 6).flatMap fun d:Nat=>(List.range 7).flatMap fun k:Nat=>(es_ 1 L 5).flatMap fun h=>(es_ 1 L 5).map fun f=>kq ⟨(d:Int),(k:Int),h,f⟩
theorem fo_ {α β:Type}{g:α->List β}{m:Nat}:∀{xs:List α},(∀x∈xs,(g x).length<=m)->(xs.flatMap g).length<=xs.length*m
 |[],_=>AO _
 |x::xs,h=>by
  rw [BS,AF,AY,CT];have:=fo_ (xs:=xs) fun y hy=>h y (AS _ hy);have:=h x AX;lia
theorem pe_ {L:Nat} (h:L<=5):(vT_ L).length<=15162:=by
 have r:(es_ 1 L 5).length<=19:=by
  have h1:=ml_;unfold po_ at h1;rw [AZ] at h1;simpa using h1 L (AW.mpr (by lia))
 have e1:∀(d k:Nat) (h':List Int),((es_ 1 L 5).map fun f=>kq ⟨(d:Int),(k:Int),h',f⟩).length<=19:=fun d k h'=>by rw [A1];exact r
 have e2:∀(d k:Nat),((es_ 1 L 5).flatMap fun h=>(es_ 1 L 5).map fun f=>kq ⟨(d:Int),(k:Int),h,f⟩).length<=361:=fun d k=>B2 (fo_ fun h' _=>e1 d k h') (by lia);have e3:∀d:Nat,((List.range 7).flatMap fun k:Nat=>(es_ 1 L 5).flatMap fun h=>(es_ 1 L 5).map fun f=>kq ⟨(d:Int),(k:Int),h,f⟩).length<=2527:=fun d=>by
  have:=fo_ (xs:=List.range 7) (m:=361) fun k _=>e2 d k;rw [B'] at this;exact this
 have:=fo_ (xs:=List.range 6) (m:=2527) fun d _=>e3 d;rw [B'] at this;exact this
theorem KnQ.len {L:Nat}{R:List (List (Mx Int)×Int)} (h:KnQ L R) (h5:L<=5):R.length<=15162:=by
 rw [<-A1 (f:=(·.1))];refine B2 (sP_ h.1 fun x hx=> ?_) (pe_ h5);obtain⟨y,hy,rfl⟩:=Ab.mp hx;obtain⟨q,a,k0,rfl⟩:=h.2 y hy;have wh:=cK_ (i:=1) (by decide) a.hn;have wf:=cK_ (i:=1) (by decide) a.fn;have w:=a.wt;have d1:=a.d1;have dL:=a.dL;have k6:=a.k6;unfold wtF at w;refine BC.mpr ⟨q.d.toNat,AW.mpr (by lia),BC.mpr ⟨q.k.toNat,AW.mpr (by lia),BC.mpr ⟨q.h,go_ (by decide) a.hl a.hn (by show wtG 1 q.h<=5;lia),Ab.mpr ⟨q.f,go_ (by decide) a.fl a.fn (by show wtG 1 q.f<=5;lia), ?_⟩⟩⟩⟩;show kq ⟨((q.d.toNat:Nat):Int),((q.k.toNat:Nat):Int),q.h,q.f⟩=kq q;rw [show((q.d.toNat:Nat):Int)=q.d by lia,show((q.k.toNat:Nat):Int)=q.k by lia]
theorem KnQ.get {L:Nat}{R:List (List (Mx Int)×Int)} (h:KnQ L R) {q:Ask4} (hk:kq q∈R.map (·.1)):nX_ R (kq q)=cF q:=by
 obtain⟨r,_,_,e⟩:=h.2 _ (kx_ hk);simp only [BJ] at e;rw [e.2,sW_ e.1]
theorem KnQ.put {L:Nat}{R:List (List (Mx Int)×Int)} (h:KnQ L R) {q:Ask4} (a:AskOk L q) (k0:0<=q.k):KnQ L (iD_ R (kq q) (cF q)):=
 ⟨ql_ h.1,fun x hx=>(jT_ hx).elim (fun hx=>h.2 x hx) fun e=>⟨q,a,k0,e⟩⟩
theorem gM_ {P:Program}{w:World}{H H':Hp}{a:Addr}{kvs:List (List (Mx Int)×V)} (d:DM P w H a kvs) (k:But a H H'):LTS H H':=by
 obtain⟨_,_,xs,_,e⟩:=d;exact⟨fun b ys h=>k _ _ h (by rintro rfl;rw [e] at h;cases h),fun b ys h=>k _ _ h (by rintro rfl;rw [e] at h;cases h)⟩
noncomputable def uq_ (P:Program) (w:World) (n:Nat):Sp:=fun vs H Q _=>∃(v:V) (kn:Addr) (q:Ask4) (L:Nat) (R:List (List (Mx Int)×Int)),vs=[v, .ref kn]/\Is H (qD q) v/\AskOk L q/\muF q+1<=(n:Int)/\DM P w H kn (tK R)/\KnQ L R/\∀R' H',But kn H H'->DM P w H' kn (tK R')->KnQ L R'->Q (.int (cF q)) H'
noncomputable def uu_ (_:W.Frag):Sp:=fun vs H Q _=>∃(d k:Nat) (v1 v2:V) (a b:List Int),vs=[.int d, .int k,v1,v2]/\Wide d k/\Is H (rwL a) v1/\Is H (rwL b) v2/\fK_ a/\fK_ b/\wtF a+wtF b=d/\a.length<=d/\b.length<=d/\∀u H',ao_ H H'->Is H' (qD ⟨d,k,gz_ d a,gz_ d b⟩) u->Q u H'
noncomputable def ut_ (_:W.Frag):Sp:=fun vs H Q _=>∃(d k:Nat) (v1 v2:V) (a b:List Int),vs=[.int d, .int k,v1,v2]/\Wide d k/\Is H (rwL a) v1/\Is H (rwL b) v2/\fK_ a/\fK_ b/\wtF a+wtF b=d/\a.length<=d/\b.length<=d/\∀H',ao_ H H'->Q (.int (cF ⟨d,k,gz_ d a,gz_ d b⟩)) H'
theorem od_ {L:Nat}{q:Ask4} (a:AskOk L q) (d2:2<=q.d) {x:Sm4} (hx:x∈fz_ q):(0<=x.1/\x.1<=1024)/\(∀w∈x.2.1,1<=w/\w<=5)/\x.2.1.length<=5:=by
 unfold fz_ at hx;rcases BK.mp hx with hx|hx
 .obtain⟨_,_,e1,w,e2,w1,w5⟩:=a.held hx;rw [e1,e2];exact⟨⟨by decide,by decide⟩,fun y hy=>by rw [Ah.mp hy];exact⟨w1,w5⟩,by simp⟩
 .obtain⟨kp,hk,fr,hf,rfl⟩:=np_ hx;obtain⟨_,_,l1,l2,f5⟩:=a.few d2 hk hf;have c1:=kN_ l1 a.sums.2.1;have c2:=kN_ l2 f5;have m1:=Bv c1.1 c2.1;have m2:=CS c1.2 c2.2 c2.1 (by decide);refine⟨⟨m1,by show _*_<=1024;lia⟩,fun w hw=> ?_, ?_⟩
  .have:=pg_ (k:=1) l2 w hw;have:=a.fl;have:=a.L5;lia
  .have:=lK_ (k:=1) l2;have:=a.sums;show(wgG 1 q.f fr).length<=5;lia
theorem mw_:∀{ws:List Int},(∀w∈ws,1<=w/\w<=5)->0<=iE_ ws/\iE_ ws<=5^ws.length
 |[],_=>by simp [iE_]
 |w::ws,h=>by
  obtain⟨h1,h2⟩:=mw_ fun x hx=>h x (AS _ hx);obtain⟨w1,w5⟩:=h w AX;rw [show w::ws=[w]++ws from rfl,qy_,show iE_ [w]=w by show 1*w=w;lia];refine⟨Bv (by lia) h1, ?_⟩;rw [AF,Int.pow_add];exact CS w5 h2 h1 (Int.pow_nonneg (by decide))
noncomputable def qf_ (_:W.Frag):Sp:=fun vs H Q _=>∃(dv:V) (ps:List Lf) (d:Nat),vs=[dv]/\Is H (lfs ps) dv/\(∀p∈ps,True/\1<=p.2.2/\p.2.2<=2^20)/\Q (.int (el_ ps)) H
noncomputable def vF_ (c:Addr):Sp:=fun vs H Q E=>∃v lo hi,vs=[v, .int lo, .int hi]/\cJ_ H v/\(Within lo hi v->Q .non H)/\(¬Within lo hi v->(0<=lo/\lo<=20/\0<=hi/\hi<=20)/\E (.ref c) none H)
theorem pm_:∀a,a<21->∀b,b<21->(decide (((a:Nat):Int).natAbs.log2<1920)&&decide ((Str.empty++Str.ofString "not a whole number from ").length<=sizeLine)&&decide ((Str.empty++Str.ofString "not a whole number from "++Str.ofString (toString ((a:Nat):Int))).length<=sizeLine)&&decide ((Str.empty++Str.ofString "not a whole number from "++Str.ofString (toString ((a:Nat):Int))++Str.ofString " to ").length<=sizeLine)&&decide ((Str.empty++Str.ofString "not a whole number from "++Str.ofString (toString ((a:Nat):Int))++Str.ofString " to "++Str.ofString (toString ((b:Nat):Int))).length<=sizeLine))=true:=by ac_nf
noncomputable def fy_ (d:Nat) (L:Nat->Int):List (Key×V):=(List.range d).map fun i:Nat=>(Sum.inl (1+(i:Int)),V.int (L i))
theorem lZ_ {d:Nat}{L L':Nat->Int} (h:∀t,t<d->L t=L' t):fy_ d L=fy_ d L':=by
 unfold fy_;refine Ae fun t ht=> ?_;rw [h t (AW.mp ht)]
theorem eI_ {d:Nat}{L L':Nat->Int} (h:∀t,t<d->L t=L' t):some (HO.dK (fy_ d L))=some (HO.dK (fy_ d L')):=by rw [lZ_ h]
theorem lP_ {L:Nat->Int}{i:Nat}:∀l:List Nat,i∈l->cH_ (l.map fun i:Nat=>((Sum.inl (1+(i:Int)):Key),V.int (L i))) (Sum.inl (1+(i:Int)))=some (.int (L i))
 |j::l,h=>by
  rw [AI];by_cases e:j=i
  .subst e;exact bv_ rfl
  .rw [bh_ (by intro z;have:=Sum.inl.inj z;lia)];exact lP_ l (by rcases AK.mp h with h|h;exact absurd h.symm e;exact h)
theorem lN_ {d:Nat}{L:Nat->Int}{i:Nat} (h:i<d):cH_ (fy_ d L) (Sum.inl (1+(i:Int)))=some (.int (L i)):=lP_ _ (AW.mpr h)
theorem qt_ {d:Nat}{L:Nat->Int}{i:Nat}{v:Int} (h:i<d):c2_ (fy_ d L) (Sum.inl (1+(i:Int))) (.int v)=fy_ d fun t=>if t=i then v else L t:=by
 unfold c2_;rw [c0_,lN_ h,A6 (show(some (V.int (L i))).isSome=true from rfl)];unfold fy_;rw [BO];refine Ae fun t _=> ?_;show(if(Sum.inl (1+(t:Int)):Key)=Sum.inl (1+(i:Int)) then _ else _)=_;by_cases e:t=i
 .subst e;rw [A6 rfl];show _=(_,V.int (if t=t then v else L t));rw [A6 rfl]
 .rw [A3 (by intro z;have:=Sum.inl.inj z;lia)];show _=(_,V.int (if t=i then v else L t));rw [A3 e]
theorem lO_ {L:Nat->Int}{i:Nat}:∀l:List Nat,¬i∈l->cH_ (l.map fun i:Nat=>((Sum.inl (1+(i:Int)):Key),V.int (L i))) (Sum.inl (1+(i:Int)))=none
 |[],_=>rfl
 |j::l,h=>by
  rw [AI,bh_ (by intro z;have:=Sum.inl.inj z;exact h (by simp;lia))];exact lO_ l fun z=>h (by simp [z])
theorem oo_ {L:Nat->Int} (i:Nat):c2_ (fy_ i L) (Sum.inl (1+(i:Int))) (.int (L i))=fy_ (i+1) L:=by
 unfold fy_;rw [op_ _ (lO_ _ (by simp)),Av,AC];rfl
theorem lY_ {d:Nat}{L:Nat->Int}:(fy_ d L).length=d:=by unfold fy_;simp
theorem py_ {x:Int}{d:Nat} (h1:1<=x) (h2:x<=d):∃i:Nat,x=1+(i:Int)/\i<d/\(x-1).toNat=i:=⟨(x-1).toNat,by lia,by lia,rfl⟩
theorem eJ_ {H:Hp}{st:Addr}{d:Nat}{L:Nat->Int}{i:Nat} (h:H st=some (.dK (fy_ d L))) (hi:i<d):jB_ H st (.int (1+(i:Int))) (some (.int (L i))):=by
 have:=jB_.k (k:=Sum.inl (1+(i:Int))) h;rw [lN_ hi] at this;exact this
theorem o4_ {H:Hp}{st:Addr}{d:Nat}{L:Nat->Int}{i:Nat}{v:Int} (h:H st=some (.dK (fy_ d L))) (hi:i<d) (hd:d<=5):kR_ H st (.int (1+(i:Int))) (.int v) (upd H st (.dK (fy_ d fun t=>if t=i then v else L t))):=by
 have:=kR_.k (k:=Sum.inl (1+(i:Int))) (v:= .int v) h (an_ (by rw [lY_];lia));rw [qt_ hi] at this;exact this
theorem iZ_ {i n:Nat}{lo:Int}{x:V} (h:(fP_ lo n)[i]? =some x):i<n/\x= .int (lo+(i:Int)):=by
 unfold fP_ at h;rw [A8] at h;obtain⟨k,hk,rfl⟩:=A5.mp h;have hi:i<n:=by have:=(AD.mp hk).1;simpa using this
 rw [List.getElem?_range hi] at hk;cases hk;exact⟨hi,rfl⟩
noncomputable def se_ (_:W.Frag):Sp:=fun vs H Q _=>∃(ta:Addr) (pw:V) (d:Nat) (ps:List (Int×Int)),vs=[.ref ta,pw]/\H ta=some (.lst (fP_ 1 d))/\Is H (pts ps) pw/\d<=5/\(∀p∈ps,Okp d p)/\∀q H',ao_ H H'->H q=none->H' q=some (.dK (fy_ d (f0_ ps)))->Q (.ref q) H'
noncomputable def sb_ (_:W.Frag):Sp:=fun vs H Q _=>∃(ta:Addr) (pw:V) (d:Nat) (ps:List (Int×Int)),vs=[.ref ta,pw]/\H ta=some (.lst (fP_ 1 d))/\Is H (pts ps) pw/\d<=5/\(∀p∈ps,Okp d p)/\∀H',ao_ H H'->Q (.int (rh_ d (f0_ ps)).length) H'
noncomputable def qg_:Sp:=fun vs H Q _=>∃(d:Nat) (dv:V) (ps:List Lf),vs=[.int d,dv]/\Is H (lfs ps) dv/\1<=d/\d<=5/\ps.length<=20/\(∀p∈ps,Okl d p)/\∀H',ao_ H H'->Q (.int (rh_ d (f0_ (d7_ ps))).length) H'
noncomputable def up_ (f:Nat->Nat->Int):Sp:=fun vs H Q _=>∃d k:Nat,vs=[.int d, .int k]/\Wide d k/\∀H',ao_ H H'->Q (.int (f d k)) H'
noncomputable def uv_ (_:W.Frag):Sp:=fun vs H Q _=>∃(t w c:Addr) (ts ws cs:List (Nat×Int)) (m k:Nat) (sg:Int),vs=[.ref t, .ref w, .ref c, .int sg]/\(sg=1\/sg= -1)/\H t=some (.dK (dI ts))/\b1_ (m+k) ts/\Rd H w (.dK (dI ws))/\b1_ m ws/\Rd H c (.dK (dI cs))/\b1_ k cs/\m+k<=20/\t≠w/\t≠c/\w≠c/\(∀r s,rN_ (vF ws r) (vF cs s))/\
 ∀H' ts',H' t=some (.dK (dI ts'))->b1_ (m+k) ts'->(∀s,vF ts' s=vF ts s+sg*cv (vF ws) (vF cs) s)->(∀b,b≠t->Pz (H b) (H' b))->(∀b,b≠t->b≠w->b≠c->H' b=H b)->Q .non H'
noncomputable def vV_ (g:Nat) (N:Nat->Nat->Int):Prop:=∀i Wq,i<=g->Wh i N Wq->∀d e s t,rN_ (Wq d s) (N e t)
noncomputable def t8_ (_:W.Frag):Sp:=fun vs H Q _=>∃(a:Addr) (q n g:Nat) (b:Nat->Addr) (X:Nat->List (Nat×Int)),vs=[.ref a]/\Tb q g H a b X/\Sz q n/\g<=n/\vV_ g (hg_ g X)/\∀p b' X' H',Fz H H'->Tb q g H' p b' X'->Wh g (hg_ g X) (hg_ g X')->Q (.ref p) H'
theorem sp_ {H:Hp}{a:Addr}{x y:List (Key×V)} (h:Rd H a (.dK x)) (k:Rd H a (.dK y)):x=y:=by
 rcases h with h|⟨o,h⟩<;>rcases k with k|⟨o',k⟩<;>rw [h] at k<;>cases k<;>rfl
theorem sD_ {H:Hp}{a c:Addr}{b:Nat->Addr}{g:Nat}{xs:List (Nat×Int)} (h:Rd H a (.dK (cx_ b g))) (k:Rd H c (.dK (dI xs))) (hg:1<=g):c≠a:=by
 rintro rfl;have e:=sp_ h k;have h0:(cx_ b g)[0]? =some (.inl ((0+1:Nat):Int), .ref (b (0+1))):=mI_ (by lia);rw [e] at h0;unfold dI at h0;rw [A8] at h0;obtain⟨x,_,e⟩:=A5.mp h0;exact V.noConfusion (Bc Prod.snd e)
theorem nl_ (xs:List (Nat×Int)) (k:Nat):(cH_ (dI xs) (.inl (k:Int))).getD (.int 0)= .int (vF xs k):=by
 rw [pO_];by_cases h:k∈xs.map (·.1)
 .rw [A6 h];rfl
 .rw [A3 h,jH_ h];rfl
theorem j6_ {xs:List (Nat×Int)}{i:Nat}{x:Nat×Int} (h:xs[i]? =some x):x.1∈xs.map (·.1):=Ab.mpr ⟨x,AR h,rfl⟩
theorem SqL.fz {K:W.Frag}{H H':Hp} (z:Fz H H') {a:Addr}{xs:List V} (h:SqL K H a xs):SqL K H' a xs:=by
 rcases h with(h|⟨o,h⟩)|h
 .exact .inl (.inl (z.lts.1 _ _ h))
 .rcases z _ _ h with h2|⟨k,o2,h2|⟨o3,h2⟩,_⟩
  .exact .inl (.inr ⟨o,h2⟩)
  .cases h2
  .cases h2
 .exact .inr h
theorem uy_ {H H':Hp}{a:Addr}{o:HO} (h:Rd H a o) (e:H' a=H a):Rd H' a o:=by
 rcases h with h|⟨o',h⟩
 .exact .inl (by rw [e];exact h)
 .exact .inr ⟨o',by rw [e];exact h⟩
theorem d2_ {H:Hp}{a:Addr}{o:HO} (h:Rd H a o):H a≠none:=by
 rcases h with h|⟨o',h⟩<;>rw [h]<;>exact fun z=>nomatch z
theorem fL_ {g:Nat}{X:Nat->List (Nat×Int)}{d:Nat} (h1:1<=d) (h2:d<=g):vF (X d)=hg_ g X d:=by
 funext s
 unfold hg_;rw [A6 ⟨h1,h2⟩]
theorem jI_ {g:Nat}{X:Nat->List (Nat×Int)}{ts:List (Nat×Int)}{d s:Nat}:hg_ (g+1) (fun d=>if d=g+1 then ts else X d) d s=if d=g+1 then vF ts s else hg_ g X d s:=by
 unfold hg_;by_cases e:d=g+1
 .rw [A6 e,A6 (by lia)];dsimp only;rw [A6 e]
 .rw [A3 e];by_cases h:1<=d/\d<=g
  .rw [A6 h,A6 (by lia)];dsimp only;rw [A3 e]
  .rw [A3 h,A3 (by lia)]
theorem Wh.next {g:Nat}{N Wq W':Nat->Nat->Int} (h:Wh g N Wq) (e1:∀d s,d≠g+1->W' d s=Wq d s) (e2:∀s,W' (g+1) s=N (g+1) s-below (fun e=>cv (Wq e) (N (g+1-e)) s) (g+1)):Wh (g+1) N W':=by
 have ew:∀d,d≠g+1->W' d=Wq d:=fun d hd=>by funext s;exact e1 d s hd
 intro d s;by_cases e:d=g+1
 .subst e;rw [A6 (by lia),e2];have:below (fun e=>cv (W' e) (N (g+1-e)) s) (g+1)=below (fun e=>cv (Wq e) (N (g+1-e)) s) (g+1):=cC_ fun e h1 h2=>by rw [ew e (by lia)]
  rw [this]
 .rw [e1 d s e,h];by_cases hd:1<=d/\d<=g
  .rw [A6 hd,A6 (by lia)];have:below (fun e=>cv (W' e) (N (d-e)) s) d=below (fun e=>cv (Wq e) (N (d-e)) s) d:=cC_ fun e h1 h2=>by rw [ew e (by lia)]
   rw [this]
  .rw [A3 hd,A3 (by lia)]
noncomputable def Wd (v u:V):Prop:=∃d k:Nat,v= .int d/\u= .int k/\Wide d k
noncomputable def t6_ (c:Addr):Sp:=fun vs H Q E=>∃v u,vs=[v,u]/\cJ_ H v/\cJ_ H u/\(Wd v u->Q .non H)/\(¬Wd v u->E (.ref c) none H)
noncomputable def vC_ (_:W.Frag):Sp:=fun vs H Q _=>∃n k:Int,vs=[.int n, .int k]/\0<=n/\n<=100/\Q (.int (cho n k)) H
noncomputable def vE_ (_:W.Frag):Sp:=fun vs H Q _=>∃(v:V) (q n g:Nat) (F:Nat->Nat->Int) (L:List (List Int)),vs=[v, .int g]/\Is H (.l (L.map tI)) v/\(∀r∈L,∃d s,r=e0_ d s (F d s)/\1<=d/\d<=g/\1<=s/\s<=q*d)/\(∀d s,F d s≠0->e0_ d s (F d s)∈L)/\Sz q n/\g<=n/\∀a b X H',ao_ H H'->Tb q g H' a b X->hg_ g X=F->Q (.ref a) H'
noncomputable def vz_ (_:W.Frag):Sp:=fun vs H Q _=>∃(d:Nat) (k:Int),vs=[.int d, .int k]/\1<=d/\d<=5/\Q (.int (((ptF d:Nat):Int)-k)) H
noncomputable def vD_ (_:W.Frag):Sp:=fun vs H Q _=>∃d k:Nat,vs=[.int d, .int k]/\Wide d k/\∀v H',ao_ H H'->Is H' (tI [(d:Int),((ptF d:Nat):Int)-(k:Int),cT d k]) v->Q v H'
noncomputable def vy_ (_:W.Frag):Sp:=fun vs H Q _=>∃d:Nat,vs=[.int d]/\d<=4/\∀l H',ao_ H H'->H l=none->Is H' (.l ((dF_ d).map tI)) (.ref l)->Q (.ref l) H'
noncomputable def vx_ (c:Addr):Sp:=fun vs H Q E=>∃v u,vs=[v,u]/\cJ_ H v/\cJ_ H u/\(∀d k:Nat,v= .int d->u= .int k->Wide d k->∀H',Fz H H'->Q (.int (rF_ d k)) H')/\(¬Wd v u->E (.ref c) none H)
noncomputable def sa_ (_:W.Frag):Sp:=fun vs H Q _=>∃(b:Addr) (lo hi z:Int),vs=[.ref b, .int lo, .int hi]/\H b=some (.lst [.int z])/\0<=z/\∀v H',But b H H'->cJ_ H' v->¬Within lo hi v->Q v H'
noncomputable def ue_ (_:W.Frag):Sp:=fun vs H Q _=>∃v u:V,vs=[v,u]/\cJ_ H v/\cJ_ H u/\¬Wd v u/\∀H',ao_ H H'->Q (.bl true) H'
theorem uD_ {d:Nat} (h:d<=5):(d:Int)*((d:Int)+3)/2=((ptF d:Nat):Int):=by
 have:∀d:Nat,d<6->(d:Int)*((d:Int)+3)/2=((ptF d:Nat):Int):=by decide
 exact this d (by lia)
theorem uE_ {d:Nat} (h:d<=5):d*(d-1)/2<=ptF d/\ptF d<=20:=by
 have:∀d:Nat,d<6->d*(d-1)/2<=ptF d/\ptF d<=20:=by decide
 exact this d (by lia)
theorem rV_ {d:Nat} (h:d<=4):d*(d-1)/2<=6:=by
 have:∀d:Nat,d<5->d*(d-1)/2<=6:=by decide
 exact this d (by lia)
theorem hA_ {i:Nat} (h:i<=4):(dF_ i).length<=14:=by
 have:∀d:Nat,d<5->(dF_ d).length<=14:=by decide
 exact this i (by lia)
section
variable {P:Program}{w:World}{K:W.Frag}{mg:Str->Option Value}{base:Heap} (T:Fns K mg)
theorem cU_:FnOk P w K mg base CX0 1 T.f45 T.d45 ["_law_script","_law_k"] (si_ K):=by
 refine T.X45.F.ok eT_ (fun vs H Q E h=> ?_) (fun cdv A outer s H vs Q E hr h=> ?_)
 .obtain⟨_,_,_,rfl,_⟩:=h;rfl
 .obtain⟨a,ns,k,rfl,hS,h0,kk⟩:=h;refine⟨_,(ac_ (bl_ (ax_ i7_ (pv 1) (aF_ b6_ (by rfl) T.n_len boot_len (aa_ (pv 0) ab_)) (aI_ _)) (ae_ (ap_ (bg_ cX_ (pv 0) (pv 1) (fun _ _=>rfl)))) aB_)
   (ae_ (ap_ ad_))), ?_⟩
  refine⟨_,rfl,_,rfl,a,_,rfl, .inl hS,_,_,rfl,rfl,_,rfl, ?_⟩;refine g0_ (fun h=> ?_) (fun _=>kk 0);rw [A1] at h;have hk:k.toNat<ns.length:=by lia
  refine⟨_,rfl,_,rfl,a,_,k, .int ns[k.toNat],rfl,rfl,hS, ?_,kk _⟩;have e:((k.toNat:Nat):Int)=k:=by lia
  have:=nK_ (xs:=ns.map V.int) (j:=k.toNat) (v:= .int ns[k.toNat]) (by simp [hk]);rw [e] at this;exact this
theorem e9_:FnOk P w K mg base CX0 1 T.f0 T.d0 ["thing"] ob_:=by
 refine T.X0.F.ok iT_ (fun vs H Q E h=> ?_) (fun cdv A outer s H vs Q E hr h=> ?_)
 .obtain⟨_,rfl,_⟩:=h;rfl
 .obtain⟨v,rfl,ht,kk⟩:=h;refine⟨_,(ae_ (ap_ (pr_ (aF_ dS_ (by rfl) T.n_isinstance CH (aa_ (pv 0) (aa_ (d6_ (v:= .ty "int") (by rfl) T.n_int boot_int (by rfl)) ab_))) (mB_ (sz_ (aF_ dS_ (by rfl) T.n_isinstance CH (aa_ (pv 0) (aa_ (d6_ (v:= .ty "bool") (by rfl) T.n_bool boot_bool (by rfl)) ab_)))))))), ?_⟩;rcases ht with⟨i,rfl⟩|⟨b,rfl⟩|rfl|⟨x,rfl⟩|⟨a,xs,rfl,ha⟩|⟨a,xs,rfl,ha⟩
  .exact⟨_,rfl,_,"int",_,true,rfl, .int i,kh_,true,rfl,oT_ ⟨_,rfl,_,"bool",_,false,rfl, .int i,h1_,false,rfl,kk⟩⟩
  .exact⟨_,rfl,_,"int",_,true,rfl, .bl b,h2_,true,rfl,oT_ ⟨_,rfl,_,"bool",_,true,rfl, .bl b,kh_,true,rfl,kk⟩⟩
  .exact⟨_,rfl,_,"int",_,false,rfl, .non,hZ_,false,rfl,h8_ kk⟩
  .exact⟨_,rfl,_,"int",_,false,rfl, .str x,jm_,false,rfl,h8_ kk⟩
  .exact⟨_,rfl,_,"int",_,false,rfl, .lst ha,h0_,false,rfl,h8_ kk⟩
  .exact⟨_,rfl,_,"int",_,false,rfl, .tup ha,gX_,false,rfl,h8_ kk⟩
theorem FnOk.quiet {k:Nat}{f:Addr}{fd:FuncData}{ps:List Str}{sp:Sp} (F:FnOk P w K mg base (CX1 P w) k f fd ps sp):FnOk P w K mg base CX0 k f fd ps (fun vs H Q _=>sp vs H Q E0):=
 ⟨fun vs H Q E h=>F.len vs H Q E0 h,fun A outer s H args us vs Q E hr he hb hv hs=>DE (F.run A outer s H args us vs Q E0 hr he hb hv hs) fun r s' h=>by
  cases r with
  |ok r=>cases r<;>exact h
  |error e=>
   obtain⟨_,_,_,_,_,_,z,_⟩:=h;exact z.elim⟩
theorem bV_:FnOk P w K mg base (CX1 P w) 2 T.f1 T.d1 ["thing","least","greatest"] (vF_ T.c_NoBound):=by
 refine T.X1.F.okx eR_ (fun vs H Q E h=> ?_) (fun cdv A outer s H vs Q E hr h hR hp=> ?_)
 .obtain⟨_,_,_,rfl,_⟩:=h;rfl
 .obtain⟨v,lo,hi,rfl,ht,kk,ke⟩:=h;refine⟨_,(ae_ (bl_ (hE_ (e1_ (dG_ (ah_ (e9_ T) (hr.mono (by decide)) (by rfl) T.X0.m T.X0.F.kp T.X0.B .nil ar_ (aa_ (pv 0) ab_)))) (hE_ (ax_ i7_ (pv 0) (pv 1) (aI_ _)) (fQ_ (ax_ mL_ (pv 0) (pv 2) (aI_ _))))).pt (ae_ (or_ hR (by rfl) T.m_NoBound T.x_NoBound rfl (aa_ (qI_ (gt_ mA_ (gt_ (mC_ (pv 1)) (gt_ mA_ (gt_ (mC_ (pv 2)) su_))))) ab_))) aB_)), ?_⟩;have no:¬Within lo hi v->∀D:Ends,pj_ T.c_NoBound E (r6_ (fun σ H Q=>tJc (tC (.str "not a whole number from ")) (tJc (fun σ H Q=>tE_ 1 σ H fun x H1=>∃i,x= .int i/\i.natAbs.log2<1920/\Q (.str (toString i)) H1) (tJc (tC (.str " to ")) (tJc (fun σ H Q=>tE_ 2 σ H fun x H1=>∃i,x= .int i/\i.natAbs.log2<1920/\Q (.str (toString i)) H1) tJn)))
    Str.empty σ H Q) vf_) D [some v,some (.int lo),some (.int hi)] H:=fun hn D=>by
   obtain⟨⟨l1,l2,l3,l4⟩,he⟩:=ke hn;obtain⟨a,rfl⟩:=B7 l1;obtain⟨b,rfl⟩:=B7 l3;have y:=pm_ a (by lia) b (by lia);have z:=pm_ b (by lia) a (by lia);simp only [AM,Bb] at y z;obtain⟨⟨⟨⟨y1,y2⟩,y3⟩,y4⟩,y5⟩:=y;exact⟨_,rfl,y2,_,rfl,_,rfl,y1,_,rfl,y3,_,rfl,y4,_,rfl,_,rfl,z.1.1.1.1,_,rfl,y5,y5,(by show 1<=sizeLine;decide),he⟩
  refine⟨v,rfl,v,rfl,ht,isI v,rfl, ?_⟩;cases hv:isI v with
  |false=>exact oT_ (oT_ (no (fun hw=>by rw [kS_ hw] at hv;cases hv) _))
  |true=>
   obtain⟨i,rfl⟩:∃i,v= .int i:=by
    cases v<;>first|exact⟨_,rfl⟩|cases hv
   refine h8_ ⟨_,rfl,_,rfl,i,lo,rfl,rfl,_,rfl,g0_ (fun hl=> ?_) (fun hl=> ?_)⟩
   .exact oT_ (no (fun⟨j,e,h1,h2⟩=>by cases e;lia) _)
   .refine⟨_,rfl,_,rfl,i,hi,rfl,rfl,_,rfl,g0_ (fun hg=> ?_) (fun hg=> ?_)⟩
    .exact no (fun⟨j,e,h1,h2⟩=>by cases e;lia) _
    .exact kk ⟨i,rfl,by lia,by lia⟩
theorem ev_:FnOk P w K mg base CX0 2 T.f1 T.d1 ["thing","least","greatest"] (sj_ K):=
 FnOk.imp (FnOk.quiet (bV_ T)) fun vs H Q E ⟨i,lo,hi,e,h1,h2,q⟩=>⟨.int i,lo,hi,e, .inl ⟨_,rfl⟩,fun _=>q,fun h=>absurd ⟨i,rfl,h1,h2⟩ h⟩
theorem cb_:FnOk P w K mg base CX0 3 T.f3 T.d3 ["d"] (sh_ K):=by
 refine T.X3.F.ok fB_ (fun vs H Q E h=> ?_) (fun cdv A outer s H vs Q E hr h=> ?_)
 .obtain⟨_,rfl,_⟩:=h;rfl
 .obtain⟨i,rfl,h1,h2,kk⟩:=h;refine⟨_,(ae_ (aH_ (ah_ (ev_ T) (hr.mono (by decide)) (by rfl) T.X1.m T.X1.F.kp T.X1.B .nil ar_ (aa_ (pv 0) (aa_ ad_ (aa_ ad_ ab_)))))), ?_⟩;exact⟨_,rfl,i,1,5,rfl,h1,h2,kk⟩
theorem en_:FnOk P w K mg base (CX1 P w) 3 T.f2 T.d2 ["d","k"] (t6_ T.c_NoBound):=by
 refine T.X2.F.okx hu_ (fun vs H Q E h=> ?_) (fun cdv A outer s H vs Q E hr h hR hp=> ?_)
 .obtain⟨_,_,rfl,_⟩:=h;rfl
 .obtain⟨v,u,rfl,ht,hu,kk,ke⟩:=h;refine⟨_,(ac_ (aH_ (ah_ (bV_ T) (hr.mono (by decide)) (by rfl) T.X1.m T.X1.F.kp T.X1.B .nil hp (aa_ (pv 0) (aa_ ad_ (aa_ ad_ ab_)))))
   (ae_ (aH_ (ah_ (bV_ T) (hr.mono (by decide)) (by rfl) T.X1.m T.X1.F.kp T.X1.B .nil hp (aa_ (pv 1) (aa_ ad_ (aa_ (ox_ (d4_ (v:= .ref T.a_WIDE) (by rfl) T.m_WIDE (by rfl)) (pv 0) (fun _ _=>rfl)) ab_))))))), ?_⟩
  refine⟨_,rfl,v,1,5,rfl,ht,fun⟨i,ei,i1,i2⟩=> ?_,fun hn=>⟨by decide,ke fun⟨d,k,e1,_,hN⟩=>hn ⟨_,e1,by unfold Wide at hN;lia,by unfold Wide at hN;lia⟩⟩⟩;subst ei;obtain⟨d,rfl⟩:=B7 (show 0<=i by lia);have hd:d=1\/d=2\/d=3\/d=4\/d=5:=by lia
  obtain⟨hi,hl,hb,hN⟩:∃hi:Int,([(1,6),(2,6),(3,6),(4,6),(5,3)]:List (Int×Int)).lookup (d:Int)=some hi/\(0<=hi/\hi<=20)/\∀k:Nat,Wide d k↔(k:Int)<=hi:=by
   rcases hd with rfl|rfl|rfl|rfl|rfl
   .exact⟨6,rfl,by decide,fun k=>by unfold Wide;lia⟩
   .exact⟨6,rfl,by decide,fun k=>by unfold Wide;lia⟩
   .exact⟨6,rfl,by decide,fun k=>by unfold Wide;lia⟩
   .exact⟨6,rfl,by decide,fun k=>by unfold Wide;lia⟩
   .exact⟨3,rfl,by decide,fun k=>by unfold Wide;lia⟩
  refine⟨_,rfl,_,rfl,T.a_WIDE,_,d,hi,rfl,T.D_WIDE,rfl,hl,u,0,hi,rfl,hu,fun⟨j,ej,j1,j2⟩=> ?_,fun hn=>⟨⟨by decide,by decide,hb⟩,ke fun⟨d',k,e1,e2,hNk⟩=> ?_⟩⟩
  .obtain⟨k,rfl⟩:=B7 j1;exact kk ⟨d,k,rfl,ej,(hN k).mpr j2⟩
  .obtain rfl:d'=d:=by have:=V.int.inj e1;lia
   exact hn ⟨k,e2,by lia,(hN k).mp hNk⟩
theorem cy_:FnOk P w K mg base CX0 3 T.f2 T.d2 ["d","k"] (r8_ K):=
 FnOk.imp (FnOk.quiet (en_ T)) fun vs H Q E ⟨d,k,e,hW,q⟩=>⟨.int d, .int k,e, .inl ⟨_,rfl⟩, .inl ⟨_,rfl⟩,fun _=>q,fun h=>absurd ⟨d,k,rfl,rfl,hW⟩ h⟩
theorem ea_:FnOk P w K mg base CX0 4 T.f30 T.d30 ["d","drawing"] (sf_ K):=by
 refine T.X30.F.ok cg_ (fun vs H Q E h=> ?_) (fun cdv A outer s H vs Q E hr h=> ?_)
 .obtain⟨_,_,_,rfl,_⟩:=h;rfl
 .obtain⟨n,dv,ps,rfl,n1',n5',hd,hok,k2⟩:=h;refine⟨_,(ac_ (aH_ (ah_ (cb_ T) (hr.mono (by decide)) (by rfl) T.X3.m T.X3.F.kp T.X3.B .nil ar_ (aa_ (pv 0) ab_)))
   (ac_ (aq_ (i:=2) cg_.nd rfl (by trivial) (al_ e6_ (au_ (aa_ ad_ ab_)) (pv 0)))
   (ac_ (aA_ AN rfl (aJ_ (pv 1)) (cj_ rfl (as_ (aj_ (i:=3) cg_.nd rfl (by trivial)) (as_ (aj_ (i:=4) cg_.nd rfl (by trivial)) (as_ (aj_ (i:=5) cg_.nd rfl (by trivial)) bd_)))) (ac_ (mt_ (pv 2) (al_ aE_ (pv 3) ad_) kv_ (pv 5) s3_ gh_)
   (ae_ (mt_ (pv 2) (al_ aE_ (pv 4) ad_) kv_ (pv 5) pE_ gh_))))
   (ae_ (ap_ (pv 2)))))), ?_⟩
  refine⟨_,rfl,n,rfl,by lia,by lia, ?_⟩;refine⟨(by show 1<=sizeLine;decide),fun l1 H1 n1 s1 h1=> ?_⟩;refine⟨_,rfl, .i 1,n,c8_ h1 (ai_ ex_ am_),rfl,by lia,by lia,Al (an_ (by lia)),fun l H2 n2 s2 h2=> ?_⟩;rw [An] at h2;obtain⟨_,vs2,e2,hl2,hi2⟩:=cn_ h2;cases e2;rw [<-Cc] at hi2;rw [eF_ hi2] at hl2;have s12:=s1.trans s2;obtain⟨da,dvs,rfl,hda,hdi⟩:=cn_ hd;have hlen:dvs.length=ps.length:=by rw [hdi.length,A1]
  refine⟨_,rfl,da,rfl,⟨_,SqL.of (s12 _ _ hda)⟩,aL_ (xs:=dvs) (fun i σ H3=>(∃v3 v4 v5,σ=[some (.int n),some (.ref da),some (.ref l),v3,v4,v5])/\ao_ H H3/\H3 l=some (.lst (((ps.take i).foldl ed_ (List.replicate n 1)).map V.int)))
   ⟨⟨none,none,none,rfl⟩,s12,hl2⟩ (fun i σ H3 _ h=>SqL.of (h.2.1 _ _ hda)) ?_ ?_⟩
  .rintro i y σ H3 hi ⟨⟨v3,v4,v5,rfl⟩,s3,hl3⟩;obtain⟨dd,hdd,hy⟩:=hdi.of_get hi;rw [A8] at hdd;obtain⟨p,hp',rfl⟩:=A5.mp hdd;obtain⟨t,rfl,hta⟩:=hM_ hy;obtain⟨o1,o2,o3,o4⟩:=hok p (AR hp');have el:=(g6_ (ps.take i) (List.replicate n 1) (by simp) fun q hq=>hok q (List.mem_of_mem_take hq)).1;have en:(ps.take (i+1)).foldl ed_ (List.replicate n 1)=ed_ ((ps.take i).foldl ed_ (List.replicate n 1)) p:=by
    rw [AV,hp',C6];rfl
   rw [en];generalize (ps.take i).foldl ed_ (List.replicate n 1)=e at hl3 el⊢;have nl:H l=none:=s1.free n2;refine⟨t,_,rfl,SqT.of (s3 _ _ hta),rfl, ?_⟩;refine⟨_,_,rfl,_,_,rfl,_,_,rfl,rfl, ?_⟩;have j1:(p.1-1).toNat<e.length:=by lia
   have j2:(p.2.1-1).toNat<e.length:=by lia
   have k1:p.1-1=((p.1-1).toNat:Int):=by lia
   have kq:p.2.1-1=((p.2.1-1).toNat:Int):=by lia
   have g1:(e.map V.int)[(p.1-1).toNat]? =some (.int (e.getD (p.1-1).toNat 0)):=by
    exact jp_ j1
   refine⟨_,rfl,_,rfl,_,_,rfl,rfl, ?_⟩;refine⟨l,_,(p.1-1).toNat,_,_,rfl,rfl,k1,SqL.of hl3,g1, ?_⟩;refine⟨_,rfl,_,_,rfl,rfl,l,_,_,(p.1-1).toNat,rfl,rfl,hl3,by rw [k1,A1];exact m9_ j1, ?_⟩;rw [<-map_set];have j2':(p.2.1-1).toNat<(e.set (p.1-1).toNat (e.getD (p.1-1).toNat 0-p.2.2)).length:=by rw [Bm];exact j2
   have g2:((e.set (p.1-1).toNat (e.getD (p.1-1).toNat 0-p.2.2)).map V.int)[(p.2.1-1).toNat]? =some (.int ((e.set (p.1-1).toNat (e.getD (p.1-1).toNat 0-p.2.2)).getD (p.2.1-1).toNat 0)):=by
    exact jp_ j2'
   refine⟨_,rfl,_,rfl,_,_,rfl,rfl, ?_⟩;refine⟨l,_,(p.2.1-1).toNat,_,_,rfl,rfl,kq,SqL.of ag_,g2, ?_⟩;refine⟨_,rfl,_,_,rfl,rfl,l,_,_,(p.2.1-1).toNat,rfl,rfl,ag_,by rw [kq,A1];exact m9_ j2', ?_⟩;rw [<-map_set,p3_];exact⟨⟨_,_,_,rfl⟩,s3.put nl,ag_⟩
  .rintro σ H3 ⟨⟨v3,v4,v5,rfl⟩,s3,hl3⟩;rw [hlen,AU] at hl3;exact⟨_,rfl,k2 l H3 s3 (s1.free n2) hl3⟩
theorem gF_:FnOk P w K mg base CX0 1 T.f32 T.d32 ["lift"] (sc_ K):=by
 refine T.X32.F.ok qm_ (fun vs H Q E h=> ?_) (fun cdv A outer s H vs Q E hr h=> ?_)
 .obtain⟨_,_,rfl,_⟩:=h;rfl
 .obtain⟨v,p,rfl,hv,⟨p1,p2,p3,p4⟩,kk⟩:=h;refine⟨_,(ae_ (ap_ (al_ aE_ (al_ ba_ (al_ aE_ (bg_ aN_ (pv 0) ad_ (fun _ _=>rfl)) (bg_ aN_ (pv 0) ad_ (fun _ _=>rfl))) (bg_ aN_ (pv 0) ad_ (fun _ _=>rfl))) ad_))), ?_⟩;refine⟨_,rfl,_,1,_,hv,rfl,rfl,fun u hu=> ?_⟩;rw [c4_ hu];refine⟨_,rfl,_,0,_,hv,rfl,rfl,fun u hu=> ?_⟩;rw [c4_ hu];refine⟨_,_,rfl,rfl,_,rfl,_,2,_,hv,rfl,rfl,fun u hu=> ?_⟩;rw [c4_ hu];exact⟨_,_,rfl,rfl, .inr ⟨by lia,by lia⟩,_,_,rfl,rfl,kk⟩
theorem gG_:FnOk P w K mg base CX0 2 T.f33 T.d33 ["d","floor","weight","spare"] (uj_ K):=by
 refine T.X33.F.ok bL_ (fun vs H Q E h=> ?_) (fun cdv A outer s H vs Q E hr h=> ?_)
 .obtain⟨_,_,_,_,rfl,_⟩:=h;rfl
 .obtain⟨d,f,n,sp,rfl,fd,d5,n20,kk⟩:=h;refine⟨_,(ac_ (aq_ (i:=4) bL_.nd rfl (by trivial) (au_ ab_))
   (ac_ (aA_ AN rfl (bT_ (by rfl) T.n_range (aa_ (al_ aC_ (pv 1) ad_) (aa_ (al_ aC_ (pv 0) ad_) ab_))) (aj_ (i:=5) bL_.nd rfl (by trivial)) (ae_ (aA_ AN rfl (bT_ (by rfl) T.n_range (aa_ ad_ (aa_ (al_ aC_ (pv 2) ad_) ab_))) (aj_ (i:=6) bL_.nd rfl (by trivial)) (ae_ (bl_ (ax_ mK_ (ah_ (gF_ T) (hr.mono (by decide)) (by rfl) T.X32.m T.X32.F.kp T.X32.B .nil ar_ (aa_ (aT_ (aa_ (pv 1) (aa_ (pv 5) (aa_ (pv 6) ab_)))) ab_)) (pv 3) (aI_ _)) (ae_ (aH_ (d5_ Ap BW BV bC_ (pv 4) (aa_ (aT_ (aa_ (pv 1) (aa_ (pv 5) (aa_ (pv 6) ab_)))) ab_)))) aB_)))))
   (ae_ (ap_ (pv 4))))), ?_⟩
  refine⟨AO _,fun fo H1 n1 s1 h1=> ?_⟩;refine⟨_,rfl,_,_,rfl,rfl,_,rfl,_,_,rfl,rfl,_,_,rfl,⟨by lia,by lia,by lia,by lia⟩, ?_⟩;rw [show((d:Int)+1-((f:Int)+1)).toNat=d-f by lia];refine aY_ (lo:=(f:Int)+1) (n:=d-f) (fun i σ H2=>(∃v5 v6,σ=[some (.int d),some (.int f),some (.int n),some (.int sp),some (.ref fo),v5,v6])/\ao_ H H2/\∃vs,H2 fo=some (.lst vs)/\Iss H2 ((lj_ f i n sp).map lf) vs) ⟨⟨none,none,rfl⟩,s1,[],h1,am_⟩ ?_ ?_
  .rintro i σ H2 hi ⟨⟨v5,v6,rfl⟩,s2,vs2,hfo2,his2⟩;refine⟨_,rfl,_,_,rfl,rfl,_,_,rfl,⟨by decide,by decide,by lia,by lia⟩, ?_⟩;rw [show((n:Int)+1-1).toNat=n by lia];refine aY_ (lo:=1) (n:=n) (fun j σ H3=>(∃v6,σ=[some (.int d),some (.int f),some (.int n),some (.int sp),some (.ref fo),some (.int ((f:Int)+1+(i:Int))),v6])/\ao_ H H3/\∃vs,H3 fo=some (.lst vs)/\Iss H3 ((lj_ f i n sp++nW_ f ((f:Int)+1+(i:Int)) j sp).map lf) vs) ⟨⟨v6,rfl⟩,s2,vs2,hfo2,by simpa [nW_] using his2⟩ ?_ ?_
   .rintro j σ H3 hj ⟨⟨v6,rfl⟩,s3,vs3,hfo3,his3⟩;have vl:vs3.length<=200:=by
     rw [his3.length,A1,AF];have a:=gT_ f n sp i;have b:=kb_ f ((f:Int)+1+(i:Int)) j sp;have:i*n<=5*20:=Nat.mul_le_mul (by lia) n20;lia
    refine⟨_,rfl,_,rfl,_,rfl,(by show 3<=sizeLine;decide),fun t H4 nt s4 ht=>⟨.ref t,((f:Int),(f:Int)+1+(i:Int),1+(j:Int)),rfl,nb_ ht,⟨?_, ?_, ?_, ?_⟩,_,rfl,_,_,rfl,rfl,_,rfl,g0_ (fun c=> ?_) (fun c=> ?_)⟩⟩
    .show 0<=(f:Int)+1+(i:Int)-(f:Int);lia
    .show(f:Int)+1+(i:Int)-(f:Int)<=10;lia
    .show 1<=1+(j:Int);lia
    .show 1+(j:Int)<=20;lia
    .refine⟨_,rfl, .inl ⟨rfl,_,SqL.of (s4 _ _ hfo3)⟩,_,rfl,_,rfl,_,rfl,(by show 3<=sizeLine;decide),fun t2 H5 nt2 s5 ht2=>⟨fo,vs3,_,rfl,rfl,s5 _ _ (s4 _ _ hfo3),an_ (by lia),⟨_,rfl⟩,(s3.trans (s4.trans s5)).put n1,_,ag_, ?_⟩⟩;rw [hU_,A6 c,<-BG];refine kp_ (bI_.upd (s5 _ _ (s4 _ _ hfo3))) ?_;rw [AC];exact(his3.mono (s4.trans s5)).append (ai_ (nb_ ht2) am_)
    .refine⟨⟨_,rfl⟩,s3.trans s4,vs3,s4 _ _ hfo3, ?_⟩;rw [hU_,A3 c,B8];exact his3.mono s4
   .rintro σ H3 ⟨⟨v6,rfl⟩,s3,vs3,hfo3,his3⟩;exact⟨⟨_,_,rfl⟩,s3,vs3,hfo3,by rw [hV_];exact his3⟩
  .rintro σ H2 ⟨⟨v5,v6,rfl⟩,s2,vs2,hfo2,his2⟩;exact⟨_,rfl,kk fo H2 s2 n1 (c8_ hfo2 his2)⟩
theorem fS_:∀n:Nat,FnOk P w K mg base CX0 (n+1) T.f34 T.d34 ["lifts","weight","spare"] (sd_ n K)
 |0=>⟨fun vs H Q E h=>by obtain⟨_,_,_,_,_,_,_,h,h',_⟩:=h;lia,fun A outer s H args us vs Q E _ _ _ _ h=>by obtain⟨_,_,_,_,_,_,_,h,h',_⟩:=h;lia⟩
 |n+1=>by
  have ih:=fS_ n;refine T.X34.F.ok cf_ (fun vs H Q E h=> ?_) (fun cdv A outer s H vs Q E hr h=> ?_)
  .obtain⟨_,_,_,_,rfl,_⟩:=h;rfl
  .obtain⟨v,ls,wt,sp,rfl,hv,hok,w0,w1,hL,hl,hn,kk⟩:=h;refine⟨_,(ac_ (aq_ (i:=3) cf_.nd rfl (by trivial) (au_ (aa_ (au_ ab_) ab_)))
   (ac_ (aA_ AN rfl (i4_ (by rfl) T.n_enumerate (pv 0)) (cj_ rfl (as_ (aj_ (i:=4) cf_.nd rfl (by trivial)) (as_ (aj_ (i:=5) cf_.nd rfl (by trivial)) bd_))) (ae_ (bl_ (sq_ (ax_ mK_ (bg_ aN_ (pv 5) ad_ (fun _ _=>rfl)) (pv 1) (aI_ _)) (qs_ (ax_ mK_ (ah_ (gF_ T) (hr.mono (by lia)) (by rfl) T.X32.m T.X32.F.kp T.X32.B .nil ar_ (aa_ (pv 5) ab_)) (pv 2) (aI_ _)))).pt (ae_ (aA_ AN rfl (aJ_ (ah_ ih hr (by rfl) T.X34.m T.X34.F.kp T.X34.B .nil ar_ (aa_ (gx_ qj_ (pv 0) (i2_ (pv 4)) i3_) (aa_ (al_ aE_ (pv 1) (bg_ aN_ (pv 5) ad_ (fun _ _=>rfl))) (aa_ (al_ aE_ (pv 2) (ah_ (gF_ T) (hr.mono (by lia)) (by rfl) T.X32.m T.X32.F.kp T.X32.B .nil ar_ (aa_ (pv 5) ab_))) ab_))))) (aj_ (i:=6) cf_.nd rfl (by trivial)) (ae_ (aH_ (d5_ Ap BW BV bC_ (pv 3) (aa_ (al_ e8_ (au_ (aa_ (pv 5) ab_)) (pv 6)) ab_)))))) aB_)))
   (ae_ (ap_ (pv 3))))), ?_⟩
   obtain⟨da,dvs,rfl,hda,hdi⟩:=cn_ hv;have dlen:dvs.length=ls.length:=by rw [hdi.length,A1]
   refine⟨AO _,fun e0 H1 ne s1 he=>⟨(by show 1<=sizeLine;decide),fun fo H2 nf s2 hfo=> ?_⟩⟩;have nfH:H fo=none:=s1.free nf;have e0fo:e0≠fo:=by rintro rfl;rw [he] at nf;cases nf
   have acc0:Acc H H2 fo (([[]]:List (List Lf)).map lfs):=⟨[.ref e0],hfo,ai_ (c8_ (vs:=[]) (by rw [ku_ e0fo,cV_ ne];exact s2 _ _ he) am_) am_⟩;have tot:∀i:Nat,i<ls.length->1+((List.range i).flatMap (ee_ n ls wt sp)).length+(ee_ n ls wt sp i).length<=1000:=fun i hi=>by
    have:=gs_ (ee_ n ls wt sp) hi;rw [fg_,AF,BU] at hL;lia
   refine⟨_,rfl,da,rfl,⟨_,SqL.of (s2 _ _ (s1 _ _ hda))⟩,kz_ (xs:=dvs) (fun i σ H3=>(∃v4 v5 v6,σ=[some (.ref da),some (.int wt),some (.int sp),some (.ref fo),v4,v5,v6])/\ao_ H H3/\Acc H H3 fo (([[]]++(List.range i).flatMap (ee_ n ls wt sp)).map lfs)) ⟨⟨none,none,none,rfl⟩,s1.trans s2,by simpa using acc0⟩ (fun i σ H3 _ h=>SqL.of (h.2.1 _ _ hda)) ?_ ?_⟩
   .rintro i y σ H3 pa hi ⟨⟨v4,v5,v6,rfl⟩,s3,hacc⟩ np;obtain⟨dd,hdd,hy⟩:=hdi.of_get hi;rw [A8] at hdd;obtain⟨p,hp',rfl⟩:=A5.mp hdd;have hil:i<ls.length:=(AD.mp hp').1;obtain⟨p1,p2,p3,p4⟩:=id (hok p (AR hp'));have tt:=tot i hil;have s34:ao_ H3 (upd H3 pa (.tup [.int i,y])):=ao_.new np;have hacc4:=hacc.mono s34;have stay:ee_ n ls wt sp i=[]->Acc H (upd H3 pa (.tup [.int i,y])) fo (([[]]++(List.range (i+1)).flatMap (ee_ n ls wt sp)).map lfs):=fun e=>by
     rw [bY_,e,B8];exact hacc4
    have hlf:Is (upd H3 pa (.tup [.int i,y])) (lf p) y:=(hy.mono s3).mono s34;refine⟨pa,_,rfl,SqT.of ag_,rfl,_,_,rfl,_,_,rfl,rfl, ?_⟩;generalize upd H3 pa (.tup [.int i,y])=H4 at s34 hacc4 stay hlf⊢;have s4:ao_ H H4:=s3.trans s34;refine⟨_,rfl,_,2,_,hlf,rfl,rfl,fun u hu=> ?_⟩;rw [c4_ hu];refine⟨_,rfl,_,_,rfl,rfl,_,rfl,g0_ (fun c1=> ?_) (fun c1=> ?_)⟩
    .refine⟨_,rfl,y,p,rfl,hlf,⟨p1,p2,p3,p4⟩,_,rfl,_,_,rfl,rfl,_,rfl,g0_ (fun c2=> ?_) (fun c2=> ?_)⟩
     .have eG:ee_ n ls wt sp i=(c7_ n (ls.drop i) (wt-p.2.2) (sp-bO_ p)).map (p:: ·):=by
       unfold ee_;rw [hp'];exact A6 ⟨c1,c2⟩
      rw [eG,A1] at tt;refine⟨_,rfl,_,rfl,i,rfl,da,_,rfl,SqL.of (s4 _ _ hda), ?_⟩;rw [ii_ (by lia)];intro l2 n2;have s45:ao_ H4 (upd H4 l2 (.lst (dvs.drop i))):=ao_.new n2;have hl2:(upd H4 l2 (.lst (dvs.drop i))) l2=some (.lst (dvs.drop i)):=ag_;generalize upd H4 l2 (.lst (dvs.drop i))=H5 at s45 hl2⊢;have s5:=s4.trans s45;have hdr:Is H5 (lfs (ls.drop i)) (.ref l2):=c8_ hl2 (by rw [List.map_drop];exact(hdi.drop i).mono s5);refine⟨_,rfl,_,rfl,_,2,_,hlf.mono s45,rfl,rfl,fun u hu=> ?_⟩;rw [c4_ hu];refine⟨_,_,rfl,rfl,_,rfl,_,rfl,y,p,rfl,hlf.mono s45,⟨p1,p2,p3,p4⟩,_,_,rfl,rfl, ?_⟩;refine⟨.ref l2,ls.drop i,wt-p.2.2,sp-bO_ p,rfl,hdr,fun q hq=>hok q (Cu hq),by lia,by lia,by lia,by rw [List.length_drop];lia,by lia,fun rl H6 s6 nrl hrl=> ?_⟩;obtain⟨vs5,hfo5,hi5⟩:=hacc4.mono s45;have hfo6:H6 fo=some (.lst vs5):=s6 _ _ hfo5;obtain⟨_,rvs,e,hrl',hri⟩:=cn_ hrl;cases e;have hrl6:H6 rl=some (.lst rvs):=bn_ _ _ hrl';have rlfo:rl≠fo:=by rintro rfl;rw [hfo5] at nrl;cases nrl
      have rlen:rvs.length=(c7_ n (ls.drop i) (wt-p.2.2) (sp-bO_ p)).length:=by rw [hri.length,A1]
      have hriH:Iss (hid H6 fo) ((c7_ n (ls.drop i) (wt-p.2.2) (sp-bO_ p)).map lfs) rvs:=(hri.mono (j1_ (ao_.refl H5) hfo5)).mono (c6_ bn_);have s56:=s5.trans s6;refine⟨rl,rfl,⟨_,SqL.of hrl6⟩,aL_ (xs:=rvs) (fun j σ H7=>(∃v6,σ=[some (.ref da),some (.int wt),some (.int sp),some (.ref fo),some (.int i),some y,v6])/\ao_ H H7/\But fo H6 H7/\Acc H H7 fo (([[]]++(List.range i).flatMap (ee_ n ls wt sp)++((c7_ n (ls.drop i) (wt-p.2.2) (sp-bO_ p)).take j).map (p:: ·)).map lfs)) ⟨⟨_,rfl⟩,s56,fun _ _ e _=>e,by simpa using (hacc4.mono s45).mono s6⟩ (fun j σ H7 _ h=>SqL.of (h.2.2.1 _ _ hrl6 rlfo)) ?_ ?_⟩
      .rintro j x σ H7 hj ⟨⟨v6,rfl⟩,s7,but7,vs7,hfo7,hi7⟩;obtain⟨dd,hdd,hx⟩:=hriH.of_get hj;rw [A8] at hdd;obtain⟨r,hr',rfl⟩:=A5.mp hdd;have hjl:j<(c7_ n (ls.drop i) (wt-p.2.2) (sp-bO_ p)).length:=(AD.mp hr').1;have hx7:Is H7 (lfs r) x:=hx.mono (nh_ but7);have ritem:=(fh_ (fun q hq=>(hok q (Cu hq)).2.2.1) (by lia) (AR hr')).1;have vl:vs7.length<=999:=by
        rw [hi7.length,A1,AF,AF,A1,Az,BU];lia
       have hy7:Is H7 (lf p) y:=hy.mono s7;refine⟨_,rfl, .inl ⟨rfl,_,SqL.of hfo7⟩,_,rfl,(by show 1<=sizeLine;decide),fun q1 H8 n8 s8 h8=>⟨_,rfl,[lf p],r.map lf,c8_ h8 (ai_ (hy7.mono s8) am_),hx7.mono s8,Al (an_ (by rw [A1];show 1+r.length<=1000;lia)),fun q2 H9 n9 s9 h9=> ?_⟩⟩;have s79:=s8.trans s9;refine⟨fo,vs7,_,rfl,rfl,s79 _ _ hfo7,an_ (by lia),⟨_,rfl⟩,(s7.trans s79).put nfH,but7.trans ((But.of_same s79).trans But.upd), ?_⟩;rw [AV,hr'];have:=Acc.add s7 s79 hfo7 hi7 (px_ (ps:=p::r) s79 (s8.free n9) h9);simpa using this
      .rintro σ H7 ⟨⟨v6,rfl⟩,s7,_,hacc7⟩;refine⟨⟨_,_,_,rfl⟩,s7, ?_⟩;rw [rlen,AU,<-eG,BG,<-bY_] at hacc7;exact hacc7
     .refine⟨⟨_,_,_,rfl⟩,s4,stay ?_⟩;unfold ee_;rw [hp'];exact A3 fun z=>c2 z.2
    .refine h8_ ⟨⟨_,_,_,rfl⟩,s4,stay ?_⟩;unfold ee_;rw [hp'];exact A3 fun z=>c1 z.1
   .rintro σ H3 ⟨⟨v4,v5,v6,rfl⟩,s3,hacc⟩;rw [dlen,<-fg_] at hacc;exact⟨_,rfl,kk fo H3 s3 nfH (hacc.is nfH)⟩
theorem gB_:FnOk P w K mg base CX0 10 T.f35 T.d35 ["d","floor","drawing","spare"] (r7_ K):=by
 refine T.X35.F.ok a7_ (fun vs H Q E h=> ?_) (fun cdv A outer s H vs Q E hr h=> ?_)
 .obtain⟨_,_,_,_,rfl,_⟩:=h;rfl
 .obtain⟨d,f,v,x,rfl,fd,d5,hv,hst,kk⟩:=h;refine⟨_,(ac_ (aq_ (i:=4) a7_.nd rfl (by trivial) (bg_ cX_ (ah_ (ea_ T) (hr.mono (by decide)) (by rfl) T.X30.m T.X30.F.kp T.X30.B .nil ar_ (aa_ (pv 0) (aa_ (pv 2) ab_))) (al_ aE_ (pv 1) ad_) (fun _ _=>rfl)))
   (ac_ (aq_ (i:=5) a7_.nd rfl (by trivial) (au_ ab_))
   (ac_ (aA_ AN rfl (aJ_ (ah_ (fS_ T 8) (hr.mono (by decide)) (by rfl) T.X34.m T.X34.F.kp T.X34.B .nil ar_ (aa_ (ah_ (gG_ T) (hr.mono (by decide)) (by rfl) T.X33.m T.X33.F.kp T.X33.B .nil ar_ (aa_ (pv 0) (aa_ (pv 1) (aa_ (pv 4) (aa_ (pv 3) ab_))))) (aa_ (pv 4) (aa_ (pv 3) ab_))))) (aj_ (i:=6) a7_.nd rfl (by trivial)) (ac_ (aq_ (i:=7) a7_.nd rfl (by trivial) (al_ aE_ (pv 4) (aF_ (dR_ rfl) (by rfl) T.n_sum boot_sum (aa_ (bN_ (XN:=["d","floor","drawing","spare","there","found","lifts","ends","left"]) (sc:=af_ bz_) (N:=["lift"]) (own:=1) (js:=[]) rfl (by ac_nf) rfl rfl (aJ_ (pv 6)) (fun _ _ _ _=>(aj_ (i:=0) (show List.Nodup (["lift"]:List Str) by ac_nf) rfl (Or.inl rfl) (.inr rfl))) (bU_ (by decide)) (fun _ _ _ _=>cw_) (fun _ _ _ _=>(bg_ aN_ (pv 0) ad_ (fun _ _=>rfl)))) ab_))))
   (ac_ (aq_ (i:=8) a7_.nd rfl (by trivial) (al_ aE_ (al_ aE_ (pv 3) (aF_ (dR_ rfl) (by rfl) T.n_sum boot_sum (aa_ (bN_ (XN:=["d","floor","drawing","spare","there","found","lifts","ends","left"]) (sc:=af_ bz_) (N:=["lift"]) (own:=1) (js:=[]) rfl (by ac_nf) rfl rfl (aJ_ (pv 6)) (fun _ _ _ _=>(aj_ (i:=0) (show List.Nodup (["lift"]:List Str) by ac_nf) rfl (Or.inl rfl) (.inr rfl))) (bU_ (by decide)) (fun _ _ _ _=>cw_) (fun _ _ _ _=>(ah_ (gF_ T) (hr.mono (by decide)) (by rfl) T.X32.m T.X32.F.kp T.X32.B .nil ar_ (aa_ (pv 0) ab_)))) ab_))) (al_ ba_ (pv 7) (al_ aE_ (pv 0) (pv 1)))))
   (ae_ (bl_ (ax_ qL_ (pv 8) ad_ (aI_ _)) (ae_ (aH_ (d5_ Ap BW BV bC_ (pv 5) (aa_ (aT_ (aa_ (al_ e8_ (pv 2) (pv 6)) (aa_ (pv 8) ab_))) ab_)))) aB_)))))
   (ae_ (ap_ (pv 5)))))), ?_⟩
  obtain⟨b1,b2,b3,b4,b5,b6,b7⟩:=qc_ hst;have okl:∀p∈x.1,Okl d p:=fun p hp=>by
   obtain⟨o1,o2,o3,o4,o5⟩:=gA_.mp (b1 p hp);exact⟨o1,by lia,by lia,o3⟩
  have elen:=eH_ d x.1 okl;refine⟨_,rfl,_,rfl,d,v,x.1,rfl,by lia,d5,hv,okl,fun el H1 s1 nel hel=> ?_⟩;refine⟨_,rfl,_,_,rfl,rfl,el,_,_, .int (thF d (f+1) x.1),rfl,rfl,SqL.of hel,tJ_ (j:=f) (by lia) (by rw [jp_ (by lia)];rfl), ?_⟩;unfold eL_ at kk;generalize thF d (f+1) x.1=th at b3 b4 b7 kk⊢;obtain⟨n,rfl⟩:=B7 b3;refine⟨AO _,fun fo H2 nf s2 hfo=> ?_⟩;have nfH:H fo=none:=s1.free nf;have s02:=s1.trans s2;refine⟨_,rfl,_,rfl,_,rfl,_,rfl,d,f+1,n,x.2,rfl,by lia,d5,by lia,fun l0 H3 s3 nl0 hl0=> ?_⟩;refine⟨_,rfl,_,rfl, .ref l0,lj_ ((f+1:Nat):Int) (d-(f+1)) n x.2,(n:Int),x.2,rfl,hl0,fun p hp=> ?_,by lia,by lia, ?_, ?_,by decide,fun rl H4 s4 nrl hrl=> ?_⟩
  .obtain⟨e1,e2,e3,e4,e5⟩:=jk_ hp;exact⟨by lia,by lia,by lia,by lia⟩
  .exact B2 b7 (by decide)
  .have:=gT_ ((f+1:Nat):Int) n x.2 (d-(f+1));have:(d-(f+1))*n<=5*8:=Nat.mul_le_mul (by lia) (by lia);lia
  have eL:c7_ 8 (lj_ ((f+1:Nat):Int) (d-(f+1)) n x.2) (n:Int) x.2=qX_ d (f+1) n x.2:=by unfold qX_;rw [An]
  have hitem:∀r∈qX_ d (f+1) n x.2,r.length<=8/\0<=(r.map (·.2.2)).sum/\(r.map (·.2.2)).sum<=(n:Int)/\∀p∈r,Lok p:=fun r hr=>by
   rw [<-eL] at hr;obtain⟨i1,i2,i3,i4⟩:=fh_ (fun q hq=>(jk_ hq).2.2.2.1) (by lia) hr;exact⟨i1,i2,i3,fun p hp=>by
    obtain⟨e1,e2,e3,e4,e5⟩:=jk_ (i4 p hp);exact⟨by lia,by lia,by lia,by lia⟩⟩
  rw [eL] at hrl;generalize qX_ d (f+1) n x.2=L at hrl hitem kk b7;have s03:=s02.trans s3;have hfo3:H3 fo=some (.lst []):=s3 _ _ hfo;have hfo4:H4 fo=some (.lst []):=s4 _ _ hfo3;obtain⟨_,rvs,e,hrl',hri⟩:=cn_ hrl;cases e;have hrl4:H4 rl=some (.lst rvs):=bn_ _ _ hrl';have rlfo:rl≠fo:=by rintro rfl;rw [hfo3] at nrl;cases nrl
  have rlen:rvs.length=L.length:=by rw [hri.length,A1]
  have hriH:Iss (hid H4 fo) (L.map lfs) rvs:=(hri.mono (j1_ (ao_.refl H3) hfo3)).mono (c6_ bn_);have s04:=s03.trans s4;refine⟨rl,rfl,⟨_,SqL.of hrl4⟩,aL_ (xs:=rvs) (fun j σ H5=>(∃v6 v7 v8,σ=[some (.int d),some (.int ((f+1:Nat):Int)),some v,some (.int x.2),some (.int n),some (.ref fo),v6,v7,v8])/\ao_ H H5/\But fo H4 H5/\Acc H H5 fo ((((L.take j).filter fun ls=>decide (0<=gU_ d (f+1) n x.2 ls)).map fun ls=>(x.1++ls,gU_ d (f+1) n x.2 ls)).map stD)) ⟨⟨none,none,none,rfl⟩,s04,fun _ _ e _=>e,Acc.start hfo4⟩ (fun j σ H5 _ h=>SqL.of (h.2.2.1 _ _ hrl4 rlfo)) ?_ ?_⟩
  .rintro j y σ H5 hj ⟨⟨v6,v7,v8,rfl⟩,s5,but5,vs5,hfo5,hi5⟩;obtain⟨dd,hdd,hy⟩:=hriH.of_get hj;rw [A8] at hdd;obtain⟨r,hr',rfl⟩:=A5.mp hdd;have hy5:Is H5 (lfs r) y:=hy.mono (nh_ but5);obtain⟨i1,i2,i3,i4⟩:=hitem r (AR hr');obtain⟨ya,ys,rfl,hya,hyi⟩:=cn_ hy5;have ylen:ys.length=r.length:=by rw [hyi.length,A1]
   have vl:vs5.length<=200:=by
    rw [hi5.length,A1,A1];refine B2 (Bx _ _) ?_;rw [Az];lia
   refine⟨_,rfl,_,rfl,ya,rfl,⟨_,SqL.of hya⟩,fun acc na=> ?_⟩;refine bZ_ (xs:=ys) (own:=1) (js:=[]) (fun i H6=>ao_ H5 H6/\H6 acc=some (.lst (((r.take i).map (·.2.2)).map V.int))) ⟨ao_.new na,ag_⟩ (fun i H6 _ h=>SqL.of (h.1 _ _ hya)) ?_ ?_ bX_ cA_ ?_
   .rintro i z H6 hz ⟨s6,hacc⟩;obtain⟨dd,hdd,hzi⟩:=hyi.of_get hz;rw [A8] at hdd;obtain⟨p,hp',rfl⟩:=A5.mp hdd;refine tB_ ?_;refine⟨_,rfl,_,2,_,hzi.mono s6,rfl,rfl,fun u hu=> ?_⟩;rw [c4_ hu];refine⟨acc,_,_,rfl,rfl,hacc,an_ ?_,s6.put na, ?_⟩
    .rw [A1,A1,Az];lia
    .rw [ag_,AV,hp',AC,AC];rfl
   .rintro H6 ⟨s6,hacc⟩;rw [ylen,AU] at hacc;refine⟨acc,_,rfl,SqL.of hacc,_,_,rfl,rfl, ?_⟩;clear hacc;refine⟨_,rfl,_,rfl,ya,rfl,⟨_,SqL.of (s6 _ _ hya)⟩,fun ac2 na2=> ?_⟩;refine bZ_ (xs:=ys) (own:=1) (js:=[]) (fun i H7=>ao_ H6 H7/\H7 ac2=some (.lst (((r.take i).map bO_).map V.int))) ⟨ao_.new na2,ag_⟩ (fun i H7 _ h=>SqL.of (h.1 _ _ (s6 _ _ hya))) ?_ ?_ bX_ cA_ ?_
    .rintro i z H7 hz ⟨s7,hacc⟩;obtain⟨dd,hdd,hzi⟩:=hyi.of_get hz;rw [A8] at hdd;obtain⟨p,hp',rfl⟩:=A5.mp hdd;refine tB_ ?_;refine⟨_,rfl,z,p,rfl,(hzi.mono s6).mono s7,i4 p (AR hp'),ac2,_,_,rfl,rfl,hacc,an_ ?_,s7.put na2, ?_⟩
     .rw [A1,A1,Az];lia
     .rw [ag_,AV,hp',AC,AC];rfl
    .rintro H7 ⟨s7,hacc⟩;rw [ylen,AU] at hacc;have s57:=s6.trans s7;refine⟨ac2,_,rfl,SqL.of hacc,_,_,rfl,rfl,_,rfl,_,rfl,_,rfl,_,_,rfl,rfl,_,_,rfl,rfl, .inr ⟨by lia,by lia⟩,_,_,rfl,rfl, ?_⟩;refine⟨_,rfl,_,_,rfl,rfl,_,rfl,g0_ (fun c=> ?_) (fun c=> ?_)⟩
     .have hv7:Is H7 (lfs x.1) v:=(hv.mono s5).mono s57;refine⟨_,rfl, .inl ⟨rfl,_,SqL.of (s57 _ _ hfo5)⟩,_,rfl,_,rfl,x.1.map lf,r.map lf,hv7,hy5.mono s57,Al (an_ (by rw [A1,A1];lia)),fun q1 H8 n8 s8 h8=>⟨_,rfl,(by show 2<=sizeLine;decide),fun t H9 nt s9 ht=> ?_⟩⟩;have s59:=s57.trans (s8.trans s9);refine⟨fo,vs5,_,rfl,rfl,s59 _ _ hfo5,an_ (by lia),⟨_,_,_,rfl⟩,(s5.trans s59).put nfH,but5.trans ((But.of_same s59).trans But.upd), ?_⟩;rw [AV,hr',Bk];have ef:(Option.toList (some r)).filter (fun ls=>decide (0<=gU_ d (f+1) n x.2 ls))=[r]:=by
       have c':0<=gU_ d (f+1) n x.2 r:=c;simp [c']
      rw [ef,AC,AC];rw [<-AC] at h8;have isx:Is (nw H5 H9) (stD (x.1++r,gU_ d (f+1) n x.2 r)) (.ref t):=g1_ (by rw [cV_ ((s57.trans s8).free nt)];exact ht) (ai_ (px_ s59 (s57.free n8) (Is.mono (s:=s9) h8)) (ai_ ex_ am_));exact Acc.add s5 s59 hfo5 hi5 isx
     .refine⟨⟨_,_,_,rfl⟩,s5.trans s57,but5.trans (But.of_same s57), ?_⟩;rw [AV,hr',Bk];have ef:(Option.toList (some r)).filter (fun ls=>decide (0<=gU_ d (f+1) n x.2 ls))=[]:=by
       have c':¬0<=gU_ d (f+1) n x.2 r:=c;simp [c']
      rw [ef,B8];exact Acc.mono s57 ⟨vs5,hfo5,hi5⟩
    .rintro σ H R R' k ⟨v1,e1,v2,p,e2,h1,h2,h⟩;exact⟨v1,e1,v2,p,e2,h1,h2,k _ _ h⟩
   .rintro σ H R R' k ⟨v1,e1,xs,i,d,h1,e2,e3,h⟩;exact⟨v1,e1,xs,i,d,h1,e2,e3,fun u hu=>k _ _ (h u hu)⟩
  .rintro σ H5 ⟨⟨v6,v7,v8,rfl⟩,s5,_,hacc⟩;rw [rlen,AU] at hacc;exact⟨_,rfl,kk fo H5 s5 nfH (hacc.is nfH)⟩
theorem jd_:FnOk P w K mg base CX0 11 T.f36 T.d36 ["d","k"] (sg_ K):=by
 refine T.X36.F.ok bc_ (fun vs H Q E h=> ?_) (fun cdv A outer s H vs Q E hr h=> ?_)
 .obtain⟨_,_,rfl,_⟩:=h;rfl
 .obtain⟨d,k,rfl,hW,kk⟩:=h;refine⟨_,(ac_ (aH_ (ah_ (cy_ T) (hr.mono (by decide)) (by rfl) T.X2.m T.X2.F.kp T.X2.B .nil ar_ (aa_ (pv 0) (aa_ (pv 1) ab_))))
   (ac_ (aq_ (i:=2) bc_.nd rfl (by trivial) (au_ (aa_ (aT_ (aa_ (au_ ab_) (aa_ (pv 1) ab_))) ab_)))
   (ac_ (aA_ AN rfl (bT_ (by rfl) T.n_range (aa_ ad_ (aa_ (al_ aC_ (pv 0) ad_) ab_))) (aj_ (i:=3) bc_.nd rfl (by trivial)) (ac_ (aq_ (i:=4) bc_.nd rfl (by trivial) (au_ ab_))
   (ac_ (aA_ AN rfl (aJ_ (pv 2)) (cj_ rfl (as_ (aj_ (i:=5) bc_.nd rfl (by trivial)) (as_ (aj_ (i:=6) bc_.nd rfl (by trivial)) bd_))) (ae_ (aH_ (d5_ Ap C9 C8 cW_ (pv 4) (aa_ (ah_ (gB_ T) (hr.mono (by decide)) (by rfl) T.X35.m T.X35.F.kp T.X35.B .nil ar_ (aa_ (pv 0) (aa_ (pv 3) (aa_ (pv 5) (aa_ (pv 6) ab_))))) ab_)))))
   (ae_ (aq_ (i:=2) bc_.nd rfl (by trivial) (pv 4))))))
   (ae_ (ap_ (aF_ (fG_ hr) (by rfl) T.n_sorted boot_sorted (aa_ (bN_ (XN:=["d","k","begun","floor","longer","drawing","spare"]) (sc:=af_ c1_) (N:=["drawing","spare"]) (own:=2) (js:=[]) rfl (by ac_nf) rfl rfl (aJ_ (pv 2)) (fun _ _ _ _=>(i5_ (K:=K) rfl rfl (as_ (aj_ (i:=0) (show List.Nodup (["drawing","spare"]:List Str) by ac_nf) rfl (Or.inl rfl) (.inr rfl)) (as_ (aj_ (i:=1) (show List.Nodup (["drawing","spare"]:List Str) by ac_nf) rfl (Or.inl rfl) (.inr rfl)) bd_)))) e5_ (fun _ _ _ _=>(gu_ (ax_ et_ (pv 1) ad_ (aI_ _)))) (fun _ _ _ _=>(pv 0))) ab_))))))), ?_⟩
  obtain⟨g1,g2,g3,_⟩:=tg_ hW;obtain⟨gA,gB⟩:=qN_ g1;have d15:1<=d/\d<=5:=by unfold Wide at hW;lia
  refine⟨_,rfl,_,rfl,d,k,rfl,hW, ?_⟩;refine⟨AO _,fun e0 H1 ne0 s1 he0=>⟨_,rfl,(by show 2<=sizeLine;decide),fun t0 H2 nt0 s2 ht0=>⟨(by show 1<=sizeLine;decide),fun bg H3 nb s3 hbg=> ?_⟩⟩⟩;have s03:=(s1.trans s2).trans s3;have nbH:H bg=none:=(s1.trans s2).free nb;have is0:Is (nw H H3) (.l ((fH_ d k 0).map stD)) (.ref bg):=c8_ (by rw [cV_ nbH];exact hbg) (ai_ (g1_ (by rw [cV_ (s1.free nt0)];exact s3 _ _ ht0) (ai_ (c8_ (vs:=[]) (by rw [cV_ ne0];exact s3 _ _ (s2 _ _ he0)) am_) (ai_ ex_ am_))) am_);refine⟨_,rfl,_,_,rfl,rfl,_,_,rfl,⟨by decide,by decide,by lia,by lia⟩, ?_⟩;rw [show((d:Int)+1-1).toNat=d by lia];refine aY_ (lo:=1) (n:=d) (fun f σ H4=>∃bg,(∃v3 v4 v5 v6,σ=[some (.int d),some (.int k),some (.ref bg),v3,v4,v5,v6])/\ao_ H H4/\Is (nw H H4) (.l ((fH_ d k f).map stD)) (.ref bg)) ⟨bg,⟨none,none,none,none,rfl⟩,s03,is0⟩ ?_ ?_
  .clear is0 s03 nbH hbg;rintro f σ H4 hf ⟨bg,⟨v3,v4,v5,v6,rfl⟩,s4,hbg⟩;obtain⟨hst,hlen⟩:=gA f hf;refine⟨AO _,fun lo H5 nlo s5 hlo=> ?_⟩;have hbg4:=hbg.mono bn_;obtain⟨_,bvs,e,hb4,hbi⟩:=cn_ hbg4;cases e;have blen:bvs.length=(fH_ d k f).length:=by rw [hbi.length,A1]
   refine⟨_,rfl,bg,rfl,⟨_,SqL.of (s5 _ _ hb4)⟩,aL_ (xs:=bvs) (fun j σ H6=>(∃v5 v6,σ=[some (.int d),some (.int k),some (.ref bg),some (.int (1+(f:Int))),some (.ref lo),v5,v6])/\ao_ H4 H6/\Acc H4 H6 lo ((((fH_ d k f).take j).flatMap fun x=>eL_ d (f+1) x.1 x.2).map stD)) ⟨⟨_,_,rfl⟩,s5,Acc.start hlo⟩ (fun j σ H6 _ h=>SqL.of (h.2.1 _ _ hb4)) ?_ ?_⟩
   .rintro j y σ H6 hj ⟨⟨v5,v6,rfl⟩,s6,vs6,hlo6,hi6⟩;obtain⟨dd,hdd,hy⟩:=hbi.of_get hj;rw [A8] at hdd;obtain⟨x,hx',rfl⟩:=A5.mp hdd;obtain⟨t,u,rfl,ht,hu⟩:=sJ_ (hy.mono s6);have e1:(1+(f:Int))=((f+1:Nat):Int):=by lia
    have tk:(((fH_ d k f).take (j+1)).flatMap fun x=>eL_ d (f+1) x.1 x.2)=(((fH_ d k f).take j).flatMap fun x=>eL_ d (f+1) x.1 x.2)++eL_ d (f+1) x.1 x.2:=by
     rw [AV,hx',BE];simp
    have vl:vs6.length+(eL_ d (f+1) x.1 x.2).length<=900:=by
     rw [hi6.length,A1];have hjl:j<(fH_ d k f).length:=(AD.mp hx').1;have:(((fH_ d k f).take (j+1)).flatMap fun x=>eL_ d (f+1) x.1 x.2).length<=(fH_ d k (f+1)).length:=by
      show _<=((fH_ d k f).flatMap fun x=>eL_ d (f+1) x.1 x.2).length
      conv=>rhs;rw [<-List.take_append_drop (j+1) (fH_ d k f)]
      rw [BE,AF];lia
     rw [tk,AF] at this;lia
    refine⟨t,_,rfl,SqT.of ht,rfl,_,_,rfl,_,_,rfl,rfl, ?_⟩;refine⟨_,rfl, .inl ⟨rfl,_,SqL.of hlo6⟩,_,rfl,_,rfl,_,rfl,_,rfl,d,f,u,x,by rw [e1];rfl,hf,d15.2,hu,hst x (AR hx'),fun wl H7 s7 nwl hwl=> ?_⟩;obtain⟨_,us,e,hwl',hwi⟩:=cn_ hwl;cases e;have ul:us.length=(eL_ d (f+1) x.1 x.2).length:=by rw [hwi.length,A1]
    refine⟨lo,wl,vs6,us,rfl,rfl,s7 _ _ hlo6,bn_ _ _ hwl',Al (an_ (by lia)),⟨_,_,rfl⟩,(s6.trans s7).put nlo, ?_⟩;rw [tk,AC];exact Acc.adds s6 s7 hlo6 hi6 hwi
   .rintro σ H6 ⟨⟨v5,v6,rfl⟩,s6,hacc⟩;rw [blen,AU] at hacc;exact⟨_,rfl,lo,⟨_,_,_,_,rfl⟩,s4.trans s6,(hacc.is nlo).mono (gH_ s4)⟩
  .clear is0 s03 nbH hbg;rintro σ H4 ⟨bg,⟨v3,v4,v5,v6,rfl⟩,s4,hbg⟩;obtain⟨_,bvs,e,hb4,hbi⟩:=cn_ hbg;cases e;have hb4':=bn_ _ _ hb4;have blen:bvs.length=(fH_ d k d).length:=by rw [hbi.length,A1]
   refine⟨_,rfl,bg,rfl,⟨_,SqL.of hb4'⟩,fun acc na=> ?_⟩;refine bZ_ (xs:=bvs) (own:=2) (js:=[]) (fun j H5=>ao_ H4 H5/\∃vs,H5 acc=some (.lst vs)/\Iss (nw H H4) (((((fH_ d k d).take j).filter fun x=>decide (x.2=0)).map (·.1)).map lfs) vs) ⟨ao_.new na,[],ag_,am_⟩ (fun j H5 _ h=>SqL.of (h.1 _ _ hb4')) ?_ ?_ ff_ ?_ ?_
   .rintro j y H5 hj ⟨s5,vs,hacc,hi⟩;obtain⟨dd,hdd,hy⟩:=hbi.of_get hj;rw [A8] at hdd;obtain⟨x,hx',rfl⟩:=A5.mp hdd;obtain⟨t,u,rfl,ht,hu⟩:=sJ_ hy;have vl:vs.length<=900:=by
     rw [hi.length,A1,A1];refine B2 (Bx _ _) ?_;rw [Az];obtain⟨d',rfl⟩:∃d',d=d'+1:=⟨d-1,by lia⟩;have:=(gA d' (by lia)).2;lia
    refine⟨t,_,rfl,SqT.of (s5 _ _ (bn_ _ _ ht)),rfl,_,_,rfl,_,_,rfl,rfl, ?_⟩;refine⟨_,rfl,rfl,_,rfl,lB_ (fun c=> ?_) (fun c=> ?_)⟩
    .refine⟨_,rfl,acc,vs,_,rfl,rfl,hacc,an_ (by lia),s5.put na,_,ag_, ?_⟩;rw [AV,hx',Bk];have ef:(Option.toList (some x)).filter (fun x=>decide (x.2=0))=[x]:=by simp [c]
     rw [ef,AC,AC];exact hi.append (ai_ hu am_)
    .refine⟨s5,vs,hacc, ?_⟩;rw [AV,hx',Bk];have ef:(Option.toList (some x)).filter (fun x=>decide (x.2=0))=[]:=by simp [c]
     rw [ef,B8];exact hi
   .rintro H5 ⟨s5,vs,hacc,hi⟩;rw [blen,AU] at hi;have hi:Iss (nw H H4) ((eA_ d k).map lfs) vs:=hi;have s05:=s4.trans s5;have hv5:Iss H5 ((eA_ d k).map lfs) vs:=(hi.mono bn_).mono s5;have vlen:vs.length=(eA_ d k).length:=by rw [hi.length,A1]
    by_cases hlt:(eA_ d k).length<2
    .refine .inl ⟨acc,vs,rfl,SqL.of hacc,by lia,fun q nq=>kk q _ (s05.put (s05.free nq)) (s05.free nq) ?_⟩;have:sD d k=eA_ d k:=by unfold sD;rw [A6 hlt]
     rw [this];exact c8_ (by rw [cV_ (s05.free nq)];exact ag_) (hi.mono (du_ (s5.trans (ao_.new nq))))
    .obtain⟨p,hp,hps,hpl⟩:=g2 hlt;refine .inr ⟨acc,vs,cD (eA_ d k),p,rfl,SqL.of hacc,by lia,by lia,hps,fun r hr'=> ?_,fun i j bb hb=> ?_,by rw [vlen];exact hp,fun i hi=>by rw [vlen];exact hpl i hi,fun q nq=>kk q _ (s05.put (s05.free nq)) (s05.free nq) ?_⟩
     .obtain⟨i,hi,rfl⟩:=C5.mp hr';obtain⟨dd,hdd,hy⟩:=hv5.of_get (A4 hi);rw [A8] at hdd;obtain⟨w,_,rfl⟩:=A5.mp hdd;obtain⟨a,ys,e1,e2,_⟩:=cn_ hy;exact⟨a,ys,e1,SqL.of e2⟩
     .unfold cD at hb;obtain⟨w1,h1,hb⟩:=AB.mp hb;obtain⟨w2,h2,rfl⟩:=A5.mp hb;obtain⟨x,hx,hx'⟩:=hv5.get (j:=i) (x:=lfs w1) (by rw [A8,h1];rfl);obtain⟨y,hy,hy'⟩:=hv5.get (j:=j) (x:=lfs w2) (by rw [A8,h2];rfl);exact⟨x,y,hx,hy,rr_ hx' hy'⟩
     .have:sD d k=p.toList.map fun i=>(eA_ d k).getD i []:=by
       unfold sD oD;rw [A3 hlt,hp];rfl
      rw [this];exact c8_ (by rw [cV_ (s05.free nq)];exact ag_) ((ko_ hi p.toList hpl).mono (du_ (s5.trans (ao_.new nq))))
   .rintro σ H R R' k' ⟨v1,e1,e2,b,e3,h⟩;exact⟨v1,e1,e2,b,e3,k' _ _ h⟩
   .rintro σ H R R' k' ⟨v1,e1,h⟩;exact⟨v1,e1,k' _ _ h⟩
theorem oE_:FnOk P w K mg base CX0 5 T.f31 T.d31 ["d","drawing"] (t9_ K):=by
 refine T.X31.F.ok oi_ (fun vs H Q E h=> ?_) (fun cdv A outer s H vs Q E hr h=> ?_)
 .obtain⟨_,_,_,rfl,_⟩:=h;rfl
 .obtain⟨n,dv,ps,rfl,n1,n5,hd,hs,kk⟩:=h;refine⟨_,(ae_ (ap_ (mD_ qL_ (aF_ (nE_ rfl) (by rfl) T.n_min boot_min (aa_ (ah_ (ea_ T) (hr.mono (by decide)) (by rfl) T.X30.m T.X30.F.kp T.X30.B .nil ar_ (aa_ (pv 0) (aa_ (pv 1) ab_))) ab_)) ad_ (aI_ _)))), ?_⟩;refine⟨_,rfl,_,rfl,n,dv,ps,rfl,n1,n5,hd,hs.okl,fun l H1 s1 nl hl=> ?_⟩;refine⟨l,_,rfl,SqL.of hl,by rw [eH_ n ps hs.okl];lia,_,_,rfl,rfl, ?_⟩;show Q (.bl (decide (0<=sQ_ (bD_ n ps)))) H1;rw [B9 (rc_ hs.ends)];exact kk H1 s1
theorem gE_:FnOk P w K mg base CX0 6 T.f39 T.d39 ["d","drawing"] (uh_ K):=by
 refine T.X39.F.ok gi_ (fun vs H Q E h=> ?_) (fun cdv A outer s H vs Q E hr h=> ?_)
 .obtain⟨_,_,_,rfl,_⟩:=h;rfl
 .obtain⟨n,dv,ps,rfl,n1,n5,hd,hs,kk⟩:=h;refine⟨_,(ac_ (aH_ (ah_ (cb_ T) (hr.mono (by decide)) (by rfl) T.X3.m T.X3.F.kp T.X3.B .nil ar_ (aa_ (pv 0) ab_)))
   (ae_ (bl_ (e1_ (dG_ (ah_ (oE_ T) (hr.mono (by decide)) (by rfl) T.X31.m T.X31.F.kp T.X31.B .nil ar_ (aa_ (pv 0) (aa_ (pv 1) ab_))))) (ae_ gr_) aB_))), ?_⟩
  exact⟨_,rfl,n,rfl,by lia,by lia,_,rfl,_,rfl,n,dv,ps,rfl,n1,n5,hd,hs,fun H1 s1=>⟨true,rfl,h8_ (kk H1 s1)⟩⟩
theorem hK_:FnOk P w K mg base CX0 5 T.f40 T.d40 ["d","drawing"] (un_ K):=by
 refine T.X40.F.ok b3_ (fun vs H Q E h=> ?_) (fun cdv A outer s H vs Q E hr h=> ?_)
 .obtain⟨_,_,_,rfl,_⟩:=h;rfl
 .obtain⟨n,dv,ps,rfl,n1,n5,hd,hs,hlen,kk⟩:=h;refine⟨_,(ac_ (aq_ (i:=2) b3_.nd rfl (by trivial) (au_ ab_))
   (ac_ (aA_ AN rfl (i4_ (by rfl) T.n_enumerate (ah_ (ea_ T) (hr.mono (by decide)) (by rfl) T.X30.m T.X30.F.kp T.X30.B .nil ar_ (aa_ (pv 0) (aa_ (pv 1) ab_)))) (cj_ rfl (as_ (aj_ (i:=3) b3_.nd rfl (by trivial)) (as_ (aj_ (i:=4) b3_.nd rfl (by trivial)) bd_))) (ae_ (aH_ (d5_ Ap C9 C8 cW_ (pv 2) (aa_ (al_ e6_ (au_ (aa_ (aT_ (aa_ (al_ aC_ (pv 3) ad_) (aa_ (al_ aC_ (pv 0) ad_) (aa_ ad_ ab_)))) ab_)) (pv 4)) ab_)))))
   (ae_ (ap_ (pv 2))))), ?_⟩
  refine⟨AO _,fun fo H1 nf s1 hfo=> ?_⟩;refine⟨_,rfl,_,rfl,n,dv,ps,rfl,n1,n5,hd.mono s1,hs.okl,fun e H2 s2 ne he=> ?_⟩;have el:=eH_ n ps hs.okl;have efo:e≠fo:=by rintro rfl;rw [hfo] at ne;cases ne
  refine⟨e,rfl,⟨_,SqL.of he⟩,kz_ (xs:=(bD_ n ps).map V.int) (fun i σ H3=>(∃v3 v4,σ=[some (.int n),some dv,some (.ref fo),v3,v4])/\ao_ H H3/\H3 e=some (.lst ((bD_ n ps).map V.int))/\∃vs,H3 fo=some (.lst vs)/\Iss H3 (((List.range i).flatMap (lp_ n (bD_ n ps))).map lf) vs)
   ⟨⟨none,none,rfl⟩,s1.trans s2,he,[],s2 _ _ hfo,am_⟩ (fun i σ H3 _ h=>SqL.of h.2.2.1) ?_ ?_⟩
  .rintro i x σ H3 p hx ⟨⟨v3,v4,rfl⟩,s3,he3,vs,hf3,hi3⟩ np;rw [A8] at hx;obtain⟨x,hx',rfl⟩:=A5.mp hx;have hi:i<n:=by have:=(AD.mp hx').1;lia
   have ex:(bD_ n ps).getD i 0=x:=by rw [List.getD,hx'];rfl
   have x0:0<=x:=by rw [<-ex];exact hs.ends i
   have pre:((List.range i).flatMap (lp_ n (bD_ n ps))).length+x.toNat<=20:=by
    have:=gs_ (lp_ n (bD_ n ps)) hi;have e2:(lp_ n (bD_ n ps) i).length=x.toNat:=by unfold lp_;rw [BF,ex]
    unfold fr_ at hlen;lia
   refine⟨p,_,rfl,SqT.of ag_,rfl,_,_,rfl,_,_,rfl,rfl, ?_⟩;have s4:ao_ H3 (upd H3 p (.tup [.int i, .int x])):=ao_.new np;generalize upd H3 p (.tup [.int i, .int x])=H4 at s4⊢;refine⟨_,rfl, .inl ⟨rfl,_,SqL.of (s4 _ _ hf3)⟩,_,rfl,_,_,rfl,rfl,_,rfl,_,_,rfl,rfl,(by show 3<=sizeLine;decide),fun t H5 nt s5 ht=>⟨(by show 1<=sizeLine;decide),fun l1 H6 n6 s6 h6=> ?_⟩⟩;have htl:Is H6 (lf (1+(i:Int),(n:Int)+1,1)) (.ref t):=nb_ (s6 _ _ (by rw [ht];show some (HO.tup [V.int ((i:Int)+1),_,_])=_;rw [Int.add_comm]));refine⟨_,rfl,lf (1+(i:Int),(n:Int)+1,1),x,c8_ h6 (ai_ htl am_),rfl,by lia,by lia,Al (an_ (by lia)),fun l2 H7 n7 s7 h7=> ?_⟩;obtain⟨_,us,e2,hl2,hi2⟩:=cn_ h7;cases e2;have s47:ao_ H3 H7:=((s4.trans s5).trans s6).trans s7;have hf7:=s47 _ _ hf3;have ul:us.length=x.toNat:=by rw [hi2.length,BF]
   have vl:=hi3.length;rw [A1] at vl;refine⟨fo,l2,vs,us,rfl,rfl,hf7,hl2,Al (an_ (by lia)),⟨_,_,rfl⟩,(s3.trans s47).put nf,by rw [ak_ efo];exact s47 _ _ he3,_,ag_, ?_⟩;rw [bY_,AC];refine(pC_ s47 hf3 hi3).append (pC_ (ao_.refl H7) hf7 ?_);have:(lp_ n (bD_ n ps) i).map lf=List.replicate x.toNat (lf (1+(i:Int),(n:Int)+1,1)):=by unfold lp_;rw [ex,Cc]
   rw [this];exact hi2
  .rintro σ H3 ⟨⟨v3,v4,rfl⟩,s3,he3,vs,hf3,hi3⟩;rw [A1,el] at hi3;exact⟨_,rfl,kk fo H3 s3 nf (c8_ hf3 hi3)⟩
theorem fa_:FnOk P w K mg base CX0 1 T.f4 T.d4 ["number","chosen"] (us_ K):=by
 refine T.X4.F.ok by_ (fun vs H Q E h=> ?_) (fun cdv A outer s H vs Q E hr h=> ?_)
 .obtain⟨_,_,rfl,_⟩:=h;rfl
 .obtain⟨n,k,rfl,h1,h2,kk⟩:=h;refine⟨_,(ac_ (bl_ (hE_ (ax_ i7_ (pv 1) ad_ (aI_ _)) (fQ_ (ax_ mL_ (pv 1) (pv 0) (aI_ _)))).pt (ae_ (ap_ ad_)) aB_)
   (ac_ (aq_ (i:=2) by_.nd rfl (by trivial) ad_)
   (ac_ (aA_ AN rfl (ci_ (by rfl) T.n_range (aa_ (pv 1) ab_)) (aj_ (i:=3) by_.nd rfl (by trivial)) (ae_ (aq_ (i:=2) by_.nd rfl (by trivial) (al_ e7_ (al_ ba_ (pv 2) (al_ aE_ (pv 0) (pv 3))) (al_ aC_ (pv 3) ad_)))))
   (ae_ (ap_ (pv 2)))))), ?_⟩
  refine⟨_,rfl,_,_,rfl,rfl,_,rfl,g0_ (fun h=>absurd h (by lia)) (fun _=> ?_)⟩;refine⟨_,rfl,_,rfl,_,_,rfl,rfl,_,rfl,g0_ (fun h=>absurd h (by lia)) (fun _=> ?_)⟩;refine⟨_,rfl,(k:Int),rfl,by lia,by lia,aY_ (lo:=0) (n:=(k:Int).toNat) (fun i σ H2=>(∃v3,σ=[some (.int n),some (.int k),some (.int (chF n i)),v3])/\H2=H) ⟨⟨none,rfl⟩,rfl⟩ ?_ ?_⟩
  .rintro i σ H2 hi ⟨⟨v3,rfl⟩,rfl⟩;refine⟨_,rfl,_,rfl,_,rfl,_,_,rfl,rfl,_,_,rfl,rfl, .inr ⟨by lia,by lia⟩,_,rfl,_,_,rfl,rfl,_,_,rfl,rfl,⟨by lia,by lia⟩,⟨some (.int (0+(i:Int))), ?_⟩,rfl⟩;rw [show chF n (i+1)=chF n i*(n-(0+(i:Int)))/((0+(i:Int))+1) by rw [Int.zero_add];rfl];rfl
  .rintro σ H2 ⟨⟨v3,rfl⟩,rfl⟩;rw [An];exact⟨_,rfl,kk⟩
theorem bB_:FnOk P w K mg base CX0 1 T.f8 T.d8 ["numbers","place","more"] (vw_ K):=by
 refine T.X8.F.ok ht_ (fun vs H Q E h=> ?_) (fun cdv A outer s H vs Q E hr h=> ?_)
 .obtain⟨_,_,_,_,rfl,_⟩:=h;rfl
 .obtain⟨v,t,p,m,rfl,hv,hp,hl,kk⟩:=h;refine⟨_,(ae_ (ap_ (al_ i8_ (al_ i8_ (gx_ l7_ (pv 0) i3_ (i2_ (pv 1))) (aT_ (aa_ (al_ aC_ (bg_ aN_ (pv 0) (pv 1) (fun _ _=>rfl)) (pv 2)) ab_))) (gx_ l7_ (pv 0) (i2_ (al_ aC_ (pv 1) ad_)) i3_)))), ?_⟩;have hlen:∀vs:List V,vs.length=(t.map D.i).length->vs.length=t.length:=fun vs e=>by rw [e,A1]
  refine⟨_,rfl,_,rfl,(p:Int),rfl,t.map .i,(t.take p).map .i,hv,rY_,fun vs e h=> ?_,fun u1 H1 s1 hu1=> ?_⟩
  .have e:=hlen vs e;rw [HT.sIx_nat] at h;lia
  refine⟨_,rfl,_,rfl,t.map .i,(p:Int), .i (t.getD p 0),hv.mono s1,rfl, ?_,fun u hu=> ?_⟩
  .refine tJ_ (j:=p) rfl ?_;rw [A8,A4 hp];simp [List.getD,hp]
  rw [c4_ hu];refine⟨_,rfl,_,_,rfl,rfl,(by show 1<=sizeLine;decide),fun q2 H2 n2 s2 h2=> ?_⟩;have hu2:Is H2 (.t [.i (t.getD p 0+m)]) (.ref q2):=g1_ h2 (ai_ ex_ am_);refine⟨_,_,hu1.mono s2,hu2,Al (an_ (by rw [A1,Az];show _+1<=1000;lia)),fun u3 H3 s3 hu3=> ?_⟩;refine⟨_,rfl,_,rfl,_,_,rfl,rfl,(p:Int)+1,rfl,t.map .i,(t.drop (p+1)).map .i,((hv.mono s1).mono s2).mono s3, ?_,fun vs e h=> ?_,fun u4 H4 s4 hu4=> ?_⟩
  .rw [show((p:Int)+1)=((p+1:Nat):Int) by lia];exact p5_ (by lia)
  .have e:=hlen vs e;rw [show((p:Int)+1)=((p+1:Nat):Int) by lia,HT.sIx_nat] at h;lia
  refine⟨_,_,hu3.mono s4,hu4,Al (an_ (by rw [AF,A1,A1,Az,List.length_drop];show _+1+_<=1000;lia)),fun u5 H5 s5 hu5=> ?_⟩;refine kk u5 H5 ((((s1.trans s2).trans s3).trans s4).trans s5) ?_;have e:(t.take p).map D.i++[D.i (t.getD p 0+m)]++(t.drop (p+1)).map D.i=(wmF t p m).map D.i:=by
   unfold wmF;rw [<-qk_ hp,AC,AC];rfl
  rw [e] at hu5;exact hu5
theorem de_:∀n:Nat,FnOk P w K mg base CX0 (n+2) T.f41 T.d41 ["numbers","first","last","alike"] (vA_ n K)
 |0=>⟨fun vs H Q E h=>(by obtain⟨_,_,_,_,_,_,_,h,_⟩:=h;exact absurd h (Nat.not_lt_zero _)),fun A outer s H args us vs Q E _ _ _ _ h=>(by obtain⟨_,_,_,_,_,_,_,h,_⟩:=h;exact absurd h (Nat.not_lt_zero _))⟩
 |n+1=>by
  have ih:=de_ n;refine T.X41.F.ok a1_ (fun vs H Q E h=> ?_) (fun cdv A outer s H vs Q E hr h=> ?_)
  .obtain⟨_,_,_,_,_,rfl,_⟩:=h;rfl
  .obtain⟨v,t,p,g,a,rfl,hv,hg,hn,hp,⟨kl,kn,ks⟩,kk⟩:=h;refine⟨_,(ac_ (bl_ (ax_ et_ (pv 1) (pv 2) (aI_ _)) (ae_ (ap_ (au_ (aa_ (aT_ (aa_ (ah_ (bB_ T) (hr.mono (by lia)) (by rfl) T.X8.m T.X8.F.kp T.X8.B .nil ar_ (aa_ (pv 0) (aa_ (pv 1) (aa_ (pv 3) ab_)))) (aa_ (ah_ (fa_ T) (hr.mono (by lia)) (by rfl) T.X4.m T.X4.F.kp T.X4.B .nil ar_ (aa_ (al_ aC_ (bg_ aN_ (pv 0) (pv 1) (fun _ _=>rfl)) (pv 3)) (aa_ (pv 3) ab_))) ab_))) ab_)))) aB_)
   (ac_ (aq_ (i:=4) a1_.nd rfl (by trivial) (au_ ab_))
   (ac_ (aA_ AN rfl (ci_ (by rfl) T.n_range (aa_ (al_ aC_ (pv 3) ad_) ab_)) (aj_ (i:=5) a1_.nd rfl (by trivial)) (ac_ (aq_ (i:=6) a1_.nd rfl (by trivial) (ah_ (fa_ T) (hr.mono (by lia)) (by rfl) T.X4.m T.X4.F.kp T.X4.B .nil ar_ (aa_ (al_ aC_ (bg_ aN_ (pv 0) (pv 1) (fun _ _=>rfl)) (pv 5)) (aa_ (pv 5) ab_))))
   (ae_ (aA_ AN rfl (aJ_ (ah_ ih hr (by rfl) T.X41.m T.X41.F.kp T.X41.B .nil ar_ (aa_ (ah_ (bB_ T) (hr.mono (by lia)) (by rfl) T.X8.m T.X8.F.kp T.X8.B .nil ar_ (aa_ (pv 0) (aa_ (pv 1) (aa_ (pv 5) ab_)))) (aa_ (al_ aC_ (pv 1) ad_) (aa_ (pv 2) (aa_ (al_ aE_ (pv 3) (pv 5)) ab_)))))) (cj_ rfl (as_ (aj_ (i:=7) a1_.nd rfl (by trivial)) (as_ (aj_ (i:=8) a1_.nd rfl (by trivial)) bd_))) (ae_ (aH_ (d5_ Ap BW BV bC_ (pv 4) (aa_ (aT_ (aa_ (pv 7) (aa_ (al_ ba_ (pv 6) (pv 8)) ab_))) ab_))))))))
   (ae_ (ap_ (pv 4)))))), ?_⟩
   have kp:=(fZ_ kn).2 p;have kp0:=kn p;have at_p:∀{H':Hp},ao_ H H'->∀{v':V},Is H' (tI t) v'->atI (t.map D.i) (p:Int)=some (.i (t.getD p 0)):=fun _ _ _=>by
    refine tJ_ (j:=p) rfl ?_;rw [A8,A4 (by lia)];simp [List.getD,show p<t.length by lia]
   refine⟨_,rfl,_,rfl,rfl,_,rfl,lB_ (fun e=> ?_) (fun e=> ?_)⟩
   .have hg0:g=0:=by lia
    subst hg0;refine⟨_,rfl,_,rfl,_,rfl,v,t,p,a,rfl,hv,by lia,kl,fun u1 H1 s1 hu1=> ?_⟩;refine⟨_,rfl,_,rfl,t.map .i,(p:Int),_,hv.mono s1,rfl,at_p s1 (hv.mono s1),fun u hu=> ?_⟩;rw [c4_ hu];refine⟨_,rfl,_,_,rfl,rfl,_,rfl,t.getD p 0+a,a,rfl,by lia,by lia, ?_⟩;refine⟨(by show 2<=sizeLine;decide),fun q2 H2 n2 s2 h2=>⟨(by show 1<=sizeLine;decide),fun q3 H3 n3 s3 h3=> ?_⟩⟩;have s02:=s1.trans s2;refine kk q3 H3 (s02.trans s3) (s02.free n3) (c8_ h3 (ai_ ((q6_ (x:=(wmF t p (a:Int),chF (t.getD p 0+(a:Int)) a)) h2 (hu1.mono s2)).mono s3) am_))
   .obtain⟨g,rfl⟩:∃g',g=g'+1:=⟨g-1,by lia⟩;refine⟨AO _,fun fo H1 nf s1 hfo=> ?_⟩;have big:=oy_ (g:=g+1) (t:=t) (p:=p) (a:=a) (by lia) (by have:=(fZ_ kn).1;lia);have a15:(a:Int)<=15:=by have:=(fZ_ kn).1;lia
    refine⟨_,rfl,_,_,rfl,rfl,_,rfl,by lia,by lia, ?_⟩;rw [show((a:Int)+1).toNat=a+1 by lia];refine aY_ (lo:=0) (n:=a+1) (fun h σ H2=>(∃v5 v6 v7 v8,σ=[some v,some (.int p),some (.int ((p:Int)+((g+1:Nat):Int))),some (.int a),some (.ref fo),v5,v6,v7,v8])/\ao_ H H2/\∃vs,H2 fo=some (.lst vs)/\Iss H2 (((List.range h).flatMap fun h:Nat=>(pbF g (wmF t p (h:Int)) (p+1) (a-h)).map fun x=>(x.1,chF (t.getD p 0+(h:Int)) h*x.2)).map prD) vs) ⟨⟨none,none,none,none,rfl⟩,s1,[],hfo,am_⟩ ?_ ?_
    .rintro h σ H2 hh ⟨⟨v5,v6,v7,v8,rfl⟩,s2,vs2,hf2,hi2⟩;rw [Int.zero_add];have hb:∀j,j<=(pbF g (wmF t p (h:Int)) (p+1) (a-h)).length->((List.range h).flatMap fun h:Nat=>(pbF g (wmF t p (h:Int)) (p+1) (a-h)).map fun x=>(x.1,chF (t.getD p 0+(h:Int)) h*x.2)).length+j<=1048576:=fun j hj=>by
      have:=gs_ (fun h:Nat=>(pbF g (wmF t p (h:Int)) (p+1) (a-h)).map fun x=>(x.1,chF (t.getD p 0+(h:Int)) h*x.2)) hh;rw [A1] at this;unfold pbF at big;lia
     rw [bY_];generalize ((List.range h).flatMap fun h:Nat=>(pbF g (wmF t p (h:Int)) (p+1) (a-h)).map fun x=>(x.1,chF (t.getD p 0+(h:Int)) h*x.2))=pr at hi2 hb⊢;obtain⟨c1,c2⟩:=tk_ (n:=t.getD p 0+(h:Int)) (k:=h) (by lia) (by lia);refine⟨_,rfl,_,rfl,t.map .i,(p:Int),_,hv.mono s2,rfl,at_p s2 (hv.mono s2),fun u hu=> ?_⟩;rw [c4_ hu];refine⟨_,rfl,_,_,rfl,rfl,_,rfl,t.getD p 0+(h:Int),h,rfl,by lia,by lia, ?_⟩;refine⟨_,rfl,_,rfl,_,rfl,v,t,p,(h:Int),rfl,hv.mono s2,by lia,kl,fun u3 H3 s3 hu3=> ?_⟩;refine⟨_,rfl,_,_,rfl,rfl,_,rfl,_,rfl,_,rfl,_,_,rfl,rfl,u3,wmF t p (h:Int),p+1,g,a-h, ?_,hu3,by lia,by lia,by rw [c9_];lia,⟨by rw [c9_];exact kl,fun i=> ?_, ?_⟩,fun rl H4 s4 nrl hrl=> ?_⟩
     .have e1:((p:Int)+1)=((p+1:Nat):Int):=by lia
      have e2:(p:Int)+((g+1:Nat):Int)=((p+1:Nat):Int)+(g:Int):=by lia
      have e3:(a:Int)-(h:Int)=((a-h:Nat):Int):=by lia
      show [u3,V.int ((p:Int)+1),V.int ((p:Int)+((g+1:Nat):Int)),V.int ((a:Int)-(h:Int))]=_;rw [e1,e2,e3]
     .rw [n3_ (by lia)];have:=kn i;split<;>lia
     .rw [gd_ (by lia)];lia
     obtain⟨_,rvs,e,hrl4,hri⟩:=cn_ hrl;cases e;generalize pbF g (wmF t p (h:Int)) (p+1) (a-h)=O at hri hb⊢;have rlen:rvs.length=O.length:=by rw [hri.length,A1]
     have s24:=s3.trans s4;have hf4:=s24 _ _ hf2;have rlfo:rl≠fo:=by rintro rfl;rw [s3 _ _ hf2] at nrl;cases nrl
     refine⟨rl,rfl,⟨_,SqL.of hrl4⟩,aL_ (xs:=rvs) (fun j σ H5=>(∃v7 v8,σ=[some v,some (.int p),some (.int ((p:Int)+((g+1:Nat):Int))),some (.int a),some (.ref fo),some (.int h),some (.int (chF (t.getD p 0+(h:Int)) h)),v7,v8])/\ao_ H H5/\H5 rl=some (.lst rvs)/\bI_ H4 H5/\∃vs,H5 fo=some (.lst vs)/\Iss H5 ((pr++(O.take j).map fun x=>(x.1,chF (t.getD p 0+(h:Int)) h*x.2)).map prD) vs) ⟨⟨_,_,rfl⟩,s2.trans s24,hrl4,bI_.of_same (ao_.refl H4),vs2,hf4,by simpa using hi2.mono s24⟩ (fun j σ H5 _ h=>SqL.of h.2.2.1) ?_ ?_⟩
     .rintro j y σ H5 hj ⟨⟨v7,v8,rfl⟩,s5,hrl5,t5,vs5,hf5,hi5⟩;obtain⟨dd,hdd,hy⟩:=hri.of_get hj;rw [A8] at hdd;obtain⟨x,hx',rfl⟩:=A5.mp hdd;have hjl:j<O.length:=(AD.mp hx').1;obtain⟨q,u6,rfl,hq,hu6⟩:=qO_ (jX_ t5 hy);have vl:=hi5.length;rw [A1,AF,A1,Az] at vl;have hbj:=hb (j+1) (by lia);refine⟨q,_,rfl,SqT.of hq,rfl,_,_,rfl,_,_,rfl,rfl, ?_⟩;refine⟨_,rfl, .inl ⟨rfl,_,SqL.of hf5⟩,_,rfl,_,rfl,_,rfl,_,_,rfl,rfl, .inl ⟨by lia,by lia⟩,(by show 2<=sizeLine;decide),fun q6 H6 n6 s6 h6=> ?_⟩;refine⟨fo,vs5,_,rfl,rfl,s6 _ _ hf5,oN_ (by lia),⟨_,_,rfl⟩,(s5.trans s6).put nf,by rw [ak_ rlfo];exact s6 _ _ hrl5,(t5.trans (bI_.of_same s6)).trans (bI_.upd (s6 _ _ hf5)),_,ag_, ?_⟩;have ez:(pr++(O.take (j+1)).map fun x=>(x.1,chF (t.getD p 0+(h:Int)) h*x.2))=(pr++(O.take j).map fun x=>(x.1,chF (t.getD p 0+(h:Int)) h*x.2))++[(x.1,chF (t.getD p 0+(h:Int)) h*x.2)]:=by
       rw [AV,hx',Option.toList_some,AC,BG];rfl
      rw [ez,AC];refine(mu_ ((bI_.of_same s6).trans (bI_.upd (s6 _ _ hf5))) hi5).append ?_;exact ai_ (jX_ (bI_.upd (s6 _ _ hf5)) (q6_ (x:=(x.1,chF (t.getD p 0+(h:Int)) h*x.2)) h6 (hu6.mono s6))) am_
     .rintro σ H5 ⟨⟨v7,v8,rfl⟩,s5,hrl5,t5,vs5,hf5,hi5⟩;rw [rlen,AU] at hi5;exact⟨⟨_,_,_,_,rfl⟩,s5,vs5,hf5,hi5⟩
    .rintro σ H2 ⟨⟨v5,v6,v7,v8,rfl⟩,s2,vs2,hf2,hi2⟩;exact⟨_,rfl,kk fo H2 s2 nf (c8_ hf2 hi2)⟩
theorem dL_:FnOk P w K mg base CX0 9 T.f42 T.d42 ["d","marks"] (ul_ K):=by
 refine T.X42.F.ok av_ (fun vs H Q E h=> ?_) (fun cdv A outer s H vs Q E hr h=> ?_)
 .obtain⟨_,_,_,rfl,_⟩:=h;rfl
 .obtain⟨d,v,mk,rfl,d1,d5,hv,⟨mok,mlen⟩,kk⟩:=h;refine⟨_,(ac_ (aq_ (i:=2) av_.nd rfl (by trivial) (ow_ (bP_ hr) (e2_ dh_ (by rfl) T.n_tuple boot_tuple (aa_ (al_ e6_ (au_ (aa_ ad_ ab_)) (pv 0)) ab_)) ad_))
   (ac_ (aA_ AN rfl (aJ_ (qE_ (s7_ hr) hr.hd (by rfl) T.n_sorted (by rfl) T.n_set (aa_ (pv 1) ab_))) (aj_ (i:=3) av_.nd rfl (by trivial)) (ac_ (aq_ (i:=4) av_.nd rfl (by trivial) ov_)
   (ac_ (aA_ AN rfl (qB_ (pv 2)) (aj_ (i:=5) av_.nd rfl (by trivial)) (ae_ (aA_ AN rfl (aJ_ (ah_ (de_ T 6) (hr.mono (by decide)) (by rfl) T.X41.m T.X41.F.kp T.X41.B .nil ar_ (aa_ (pv 5) (aa_ (al_ aE_ (bg_ aN_ (pv 3) ad_ (fun _ _=>rfl)) ad_) (aa_ (al_ aE_ (bg_ aN_ (pv 3) ad_ (fun _ _=>rfl)) ad_) (aa_ (d5_ Ap PySem.F.slot_list_count PySem.F.type_list_count (mP_ hr) (pv 1) (aa_ (pv 3) ab_)) ab_)))))) (cj_ rfl (as_ (aj_ (i:=6) av_.nd rfl (by trivial)) (as_ (aj_ (i:=7) av_.nd rfl (by trivial)) bd_))) (ae_ (ds_ (bP_ hr) (pv 4) (pv 6) (al_ aC_ (gy_ (bP_ hr) (pv 4) (pv 6) ad_ ⟨rfl,rfl,rfl,rfl⟩) (al_ ba_ (bu_ (bP_ hr) (pv 2) (pv 5) (fun _ _=>rfl)) (pv 7))) rfl)))))
   (ae_ (aq_ (i:=2) av_.nd rfl (by trivial) (pv 4))))))
   (ae_ (ap_ (qD_ rfl (by rfl) T.n_sum (pv 2)))))), ?_⟩
  obtain⟨wa,wvs,rfl,hwa,hwi⟩:=cn_ hv;have wlen:wvs.length=mk.length:=by rw [hwi.length,A1]
  refine fun kd nkd=> ?_;have s0:ao_ H (upd H kd (.dT [])):=ao_.new nkd;have hkd0:upd H kd (.dT []) kd=some (.dT []):=ag_;generalize upd H kd (.dT [])=H0 at s0 hkd0⊢;refine⟨(by show 1<=sizeLine;decide),fun l1 H1 n1 s1 h1=> ?_⟩;refine⟨_,rfl, .i 0,d,c8_ h1 (ai_ ex_ am_),rfl,by lia,by lia,Al (an_ (by lia)),fun l2 H2 n2 s2 h2=> ?_⟩;refine⟨.ref l2,_,rfl,h2,fun t3 H3 n3 s3 h3=> ?_⟩;have s03:=(s1.trans s2).trans s3;have hkd3:=s03 _ _ hkd0;rw [An] at h3;have ht3:H3 t3=some (.tup ((fj_ (List.replicate d 0)).map kV)):=by
   rw [<-Cc] at h3;obtain⟨a,e,ha⟩:=cz_ (xs:=List.replicate d 0) h3;cases e;rw [gY_];exact ha
  refine⟨hkd3,fj_ (List.replicate d 0),t3,rfl,ht3, ?_⟩;have e0:c2_ ([]:List (List Key×V)) (fj_ (List.replicate d 0)) (.int 1)=dA_ [(List.replicate d 0,1)]:=jK_ [] _ _;rw [e0];have sH:ao_ H (upd H3 kd (.dT (dA_ [(List.replicate d 0,1)]))):=(s0.trans s03).put nkd;have hkd:upd H3 kd (.dT (dA_ [(List.replicate d 0,1)])) kd=some (.dT (dA_ [(List.replicate d 0,1)])):=ag_;generalize upd H3 kd (.dT (dA_ [(List.replicate d 0,1)]))=H4 at sH hkd⊢;clear h1 h2 h3 ht3 hkd3 s03 s1 s2 s3 n1 n2 n3 hkd0 s0 e0 H0 H1 H2 H3;have tab0:TabOk d 0 [(List.replicate d 0,(1:Int))]:=by
   refine⟨by simp,fun x hx=> ?_⟩;rw [Ah.mp hx];refine⟨by simp,by simp,fun i=> ?_⟩;rw [AA,List.getElem?_replicate];split<;>simp
  refine⟨_,rfl, .ref wa,mk.map hi_,3,rfl,by rw [<-ka_];exact hv.mono sH,by decide,ok_,by rw [A1];lia,fun yss l0 H5 nd mem so nl0 s5 hq=> ?_⟩;have ey:=qe_ nd mem so;subst ey;rw [<-ka_] at hq;clear nd mem so;have hhm:ey_ [(List.replicate d 0,(1:Int))] (TF (fun m=>mk.count m) (k1_ mk))=hmF d mk:=by
   simp [ey_,hmF]
  have hS:∀m∈k1_ mk,m∈mk:=fun m hm=>ge_.mp hm;have hSn:=qd_ mk;generalize hcn:(fun m=>mk.count m)=cnt at hhm;generalize hmF d mk=tot at hhm kk;generalize k1_ mk=S at hq hhm hS hSn;obtain⟨_,lvs,e,hl0,hli⟩:=cn_ hq;cases e;have llen:lvs.length=S.length:=by rw [hli.length,A1]
  refine⟨l0,rfl,⟨_,SqL.of hl0⟩,aL_ (xs:=lvs) (fun i σ H6=>(∃kd D n,(∃v3 v4 v5 v6 v7,σ=[some (.int d),some (.ref wa),some (.ref kd),v3,v4,v5,v6,v7])/\H6 kd=some (.dT (dA_ D))/\TabOk d n D/\n=((S.take i).map cnt).sum/\ey_ D (TF cnt (S.drop i))=tot/\H kd=none)/\ao_ H H6/\H6 l0=some (.lst lvs)/\bI_ H5 H6) ⟨⟨kd,_,0,⟨none,none,none,none,none,rfl⟩,s5 _ _ hkd,tab0,rfl,hhm,nkd⟩,sH.trans s5,hl0,bI_.of_same (ao_.refl H5)⟩ (fun i σ H6 _ h=>SqL.of h.2.2.1) ?_ ?_⟩
  .rintro i y σ H6 hi ⟨⟨kd,D,n,⟨v3,v4,v5,v6,v7,rfl⟩,hkd6,tab,hn,hsum,nkd⟩,s6,hl6,t6⟩;obtain⟨dd,hdd,hy⟩:=hli.of_get hi;rw [A8] at hdd;obtain⟨x,hx',rfl⟩:=A5.mp hdd;have hil:i<S.length:=(AD.mp hx').1;have exi:S[i]=x:=(AD.mp hx').2;obtain⟨ya,rfl,hya⟩:=hM_ hy;obtain⟨o1,o2,o3⟩:=mok x (hS x (AR hx'));have hn':((S.take (i+1)).map cnt).sum=n+cnt x:=by
    rw [AV,hx',AC,Bg,<-hn];simp
   have hn15:n+cnt x<=15:=by
    have:=ij_ mk (S.take (i+1)) (hSn.sublist (List.take_sublist _ _));rw [hcn,hn'] at this;lia
   rw [Bi hil,exi,p7_] at hsum;obtain⟨p,hp⟩:∃p:Nat,x.1-1=(p:Int):=⟨(x.1-1).toNat,by lia⟩;obtain⟨g,hg⟩:∃g:Nat,x.2.1-x.1-1=(g:Int):=⟨(x.2.1-x.1-1).toNat,by lia⟩;rw [hp,hg,An,An] at hsum;have rok:nN_ p d n (n+cnt x) (spR g (cnt x)):=fun r hr=>by
    obtain⟨e1,e2⟩:=iR_ hr;exact⟨by lia,by lia⟩
   obtain⟨tab',sum'⟩:=l4_ rok (TF cnt (S.drop (i+1))) tab.key (acc:=[]) ⟨by simp,fun x hx=>nomatch hx⟩;refine fun f nf=> ?_;have s7:ao_ H6 (upd H6 f (.dT [])):=ao_.new nf;have hf7:upd H6 f (.dT []) f=some (.dT (dA_ [])):=ag_;have nfH:H f=none:=s6.free nf;have fkd:f≠kd:=by rintro rfl;rw [hkd6] at nf;cases nf
   generalize upd H6 f (.dT [])=H7 at s7 hf7⊢;refine⟨_,rfl,kd,dA_ D,rfl, .inl (s7 _ _ hkd6),fun o H8 hk8 same8=> ?_⟩;have l8:LTS H7 H8:=LTS.rd (.inl (s7 _ _ hkd6)) same8;have s8:ao_ H H8:=fun b u e=>by rw [same8 b (by rintro rfl;rw [nkd] at e;cases e)];exact s7 _ _ (s6 _ _ e)
   refine o2_ (fun j σ H9=>(∃v5 v6 v7,σ=[some (.int d),some (.ref wa),some (.ref kd),some (.ref ya),some (.ref f),v5,v6,v7])/\ao_ H H9/\H9 kd=some (.frz o (.dT (dA_ D)))/\H9 l0=some (.lst lvs)/\bI_ H5 H9/\H9 f=some (.dT (dA_ (stP p (spR g (cnt x)) (D.take j) [])))) ⟨⟨_,_,_,rfl⟩,s8,hk8,l8.1 _ _ (s7 _ _ hl6),(t6.trans (bI_.of_same s7)).trans l8.2,by rw [same8 f fkd];exact hf7⟩ (fun j σ H9 _ h=>h.2.2.1) ?_ ?_
   .rintro j k c b σ H9 hj ⟨⟨v5,v6,v7,rfl⟩,s9,hk9,hl9,t9,hf9⟩ hb;unfold dA_ at hj;rw [A8] at hj;obtain⟨⟨t,cv⟩,hD,ekc⟩:=A5.mp hj;simp only [BJ] at ekc;obtain⟨rfl,rfl⟩:=ekc;rw [gY_] at hb;have hDm:(t,cv)∈D:=AR hD;obtain⟨k1,k2,k3⟩:t.length=d/\t.sum=(n:Int)/\∀i:Nat,0<=t.getD i 0:=tab.key _ hDm;have hx9:Is H9 (lf x) (.ref ya):=nb_ (t9 _ _ hya);have hw9:=hwi.mono s9;rw [jr_ hD];have tabac:=(l4_ rok (fun _=>0) (xs:=D.take j) (fun y hy=>tab.key y (List.mem_of_mem_take hy)) (acc:=[]) ⟨by simp,fun x hx=>nomatch hx⟩).1;generalize stP p (spR g (cnt x)) (D.take j) []=ac at hf9 tabac⊢;refine⟨_,rfl,_,rfl,_,0,_,hx9,rfl,rfl,fun u1 hu1=> ?_⟩;rw [c4_ hu1];refine⟨_,_,rfl,rfl,_,rfl,_,1,_,hx9,rfl,rfl,fun u2 hu2=> ?_⟩;rw [c4_ hu2];refine⟨_,_,rfl,rfl,_,rfl, .inl ⟨rfl,_,SqL.of (s9 _ _ hwa)⟩,_,rfl,wa,wvs, .ref ya,1,_,rfl,rfl,SqL.of (s9 _ _ hwa),p4_ hw9 hx9, ?_⟩;rw [wlen,pa_];refine⟨.ref b,t,p,g,cnt x, ?_,h9_ hb,by lia,by decide,by lia,⟨by lia,k3,by lia⟩,fun rl H10 s10 nrl hrl=> ?_⟩
    .show [V.ref b,V.int (x.1-1),V.int (x.2.1-2),V.int (mk.count x:Nat)]=_;rw [hp,show x.2.1-2=(p:Int)+(g:Int) by lia,<-hcn]
    rw [sB_ (by lia),BO] at hrl;obtain⟨_,rvs,e,hrl10,hri⟩:=cn_ hrl;cases e;have hrs:∀r∈spR g (cnt x),r.length=g+1/\r.sum=cnt x:=fun r hr=>iR_ hr;generalize spR g (cnt x)=rs at hri rok hrs⊢;have rlen:rvs.length=rs.length:=by rw [hri.length,A1]
    have hk10:=s10 _ _ hk9;have hf10:=s10 _ _ hf9;have rlf:rl≠f:=by rintro rfl;rw [hf9] at nrl;cases nrl
    have l0f:l0≠f:=by rintro rfl;rw [hl9] at hf9;cases hf9
    refine⟨rl,rfl,⟨_,SqL.of hrl10⟩,aL_ (xs:=rvs) (fun m σ H11=>(∃v6 v7,σ=[some (.int d),some (.ref wa),some (.ref kd),some (.ref ya),some (.ref f),some (.ref b),v6,v7])/\ao_ H H11/\H11 kd=some (.frz o (.dT (dA_ D)))/\H11 l0=some (.lst lvs)/\bI_ H10 H11/\H11 rl=some (.lst rvs)/\H11 f=some (.dT (dA_ (inP t cv p (rs.take m) ac)))) ⟨⟨_,_,rfl⟩,s9.trans s10,hk10,s10 _ _ hl9,bI_.of_same (ao_.refl H10),hrl10,hf10⟩ (fun m σ H11 _ h=>SqL.of h.2.2.2.2.2.1) ?_ ?_⟩
    .rintro m z σ H11 hm ⟨⟨v6,v7,rfl⟩,s11,hk11,hl11,t11,hrl11,hf11⟩;obtain⟨dd,hdd,hz⟩:=hri.of_get hm;rw [A8] at hdd;obtain⟨r,hr',rfl⟩:=A5.mp hdd;obtain⟨q,u6,rfl,hq,hu6⟩:=qO_ (jX_ t11 hz);obtain⟨ua,rfl,hua⟩:=cz_ hu6;obtain⟨r1,r2⟩:=hrs r (AR hr');have hua':H11 ua=some (.tup ((fj_ (iz_ t p r)).map kV)):=by rw [gY_];exact hua
     have hb11:H11 b=some (.tup ((fj_ t).map kV)):=by rw [gY_];exact t11 _ _ (s10 _ _ hb)
     have tabm:=(nf_ (v:=cv) ⟨k1,k2,k3⟩ (fun _=>0) (rs:=rs.take m) (fun r hr=>rok r (List.mem_of_mem_take hr)) tabac).1;refine⟨q,_,rfl,SqT.of hq,rfl,_,_,rfl,_,_,rfl,rfl, ?_⟩;refine⟨_,rfl,f,rfl, .inr ⟨_, .inl hf11⟩,_,rfl,_,jB_.t hf11 hua', ?_⟩;rw [n8_];refine⟨_,rfl,_,rfl,kd, .int cv,rfl, .inr ⟨dA_ D,fj_ t,b, .inr ⟨o,hk11⟩,rfl,hb11,(p8_ tab.nd hDm).symm⟩,_,rfl,_,_,rfl,rfl, .inr (k7_ k3 (by lia) (by lia)),_,_,rfl,rfl,_,rfl,_,rfl,f,_,rfl,kR_.t hf11 hua' ?_, ?_⟩
     .rw [jL_];exact oN_ (tabm.size d5 hn15)
     .rw [show inP t cv p (rs.take (m+1)) ac=rM_ (inP t cv p (rs.take m) ac) (iz_ t p r) (cv*hh_ t p r) from ie_ _ _ rs m r hr'];rw [jK_];exact⟨⟨_,_,rfl⟩,s11.put nfH,by rw [ak_ fkd.symm];exact hk11,by rw [ak_ l0f];exact hl11,t11.trans (n7_ hf11),by rw [ak_ rlf];exact hrl11,ag_⟩
    .rintro σ H11 ⟨⟨v6,v7,rfl⟩,s11,hk11,hl11,t11,hrl11,hf11⟩;rw [rlen,AU] at hf11;exact⟨⟨_,_,_,rfl⟩,s11,hk11,hl11,(t9.trans (bI_.of_same s10)).trans t11,hf11⟩
   .rintro σ H9 ⟨⟨v5,v6,v7,rfl⟩,s9,hk9,hl9,t9,hf9⟩;rw [jL_,AU] at hf9;refine⟨_,rfl,⟨f,_,n+cnt x,⟨_,_,_,_,_,rfl⟩,hf9,tab',hn'.symm, ?_,nfH⟩,s9,hl9,t9⟩;rw [sum',hsum];simp [ey_]
  .rintro σ H6 ⟨⟨kd,D,n,⟨v3,v4,v5,v6,v7,rfl⟩,hkd6,tab,hn,hsum,nkd⟩,s6,hl6,t6⟩;refine⟨_,rfl,kd,dA_ D,D.map (·.2),rfl, .inl hkd6,l0_ D, ?_⟩;rw [llen,List.drop_length] at hsum;have:(D.map (·.2)).sum=tot:=by rw [<-oa_,<-hsum];rfl
   rw [this];exact kk H6 s6
theorem jb_:FnOk P w K mg base CX0 10 T.f43 T.d43 ["d","drawing"] (vB_ K):=by
 refine T.X43.F.ok iU_ (fun vs H Q E h=> ?_) (fun cdv A outer s H vs Q E hr h=> ?_)
 .obtain⟨_,_,_,rfl,_⟩:=h;rfl
 .obtain⟨d,dv,ps,rfl,d1,d5,hd,hs,kk⟩:=h;refine⟨_,(ac_ (aH_ (ah_ (gE_ T) (hr.mono (by decide)) (by rfl) T.X39.m T.X39.F.kp T.X39.B .nil ar_ (aa_ (pv 0) (aa_ (pv 1) ab_))))
   (ae_ (ap_ (ah_ (dL_ T) (hr.mono (by decide)) (by rfl) T.X42.m T.X42.F.kp T.X42.B .nil ar_ (aa_ (pv 0) (aa_ (al_ e8_ (pv 1) (ah_ (hK_ T) (hr.mono (by decide)) (by rfl) T.X40.m T.X40.F.kp T.X40.B .nil ar_ (aa_ (pv 0) (aa_ (pv 1) ab_)))) ab_)))))), ?_⟩
  obtain⟨pl,p10,_⟩:=hs.good.len d1 d5;have em:(fr_ d (bD_ d ps)).length=d:=if_ hs.okl hs.nn;refine⟨_,rfl,_,rfl,d,dv,ps,rfl,d1,d5,hd,hs,fun H1 s1=> ?_⟩;refine⟨_,rfl,_,rfl,_,rfl,_,rfl,d,dv,ps,rfl,d1,d5,hd.mono s1,hs,by lia,fun l2 H2 s2 n2 h2=> ?_⟩;refine⟨_,_,(hd.mono s1).mono s2,h2,Al (an_ (by rw [A1,A1];lia)),fun l3 H3 n3 s3 h3=> ?_⟩;rw [<-AC] at h3;refine⟨d, .ref l3,_,rfl,d1,d5,h3,uN_ hs d1 d5,fun H4 s4=>kk H4 (((s1.trans s2).trans s3).trans s4)⟩
theorem oD_:FnOk P w K mg base CX0 1 T.f38 T.d38 ["drawing"] (qf_ K):=by
 refine T.X38.F.ok ez_ (fun vs H Q E h=> ?_) (fun cdv A outer s H vs Q E hr h=> ?_)
 .obtain⟨_,_,_,rfl,_⟩:=h;rfl
 .obtain⟨dv,ps,d,rfl,hd,hok,kk⟩:=h;refine⟨_,(ac_ (aq_ (i:=1) ez_.nd rfl (by trivial) ad_)
   (ac_ (aA_ AN rfl (aJ_ (pv 0)) (aj_ (i:=2) ez_.nd rfl (by trivial)) (ae_ (jW_ (i:=1) ez_.nd rfl (by trivial) (al_ fR_ (bg_ aN_ (pv 2) ad_ (fun _ _=>rfl)) ad_) jo_)))
   (ae_ (ap_ (pv 1))))), ?_⟩
  obtain⟨da,dvs,rfl,hda,hdi⟩:=cn_ hd;have dlen:dvs.length=ps.length:=by rw [hdi.length,A1]
  refine⟨_,rfl,da,rfl,⟨_,SqL.of hda⟩,aL_ (xs:=dvs) (fun i σ H2=>(∃v2,σ=[some (.ref da),some (.int (el_ (ps.take i))),v2])/\H2=H) ⟨⟨none,rfl⟩,rfl⟩ (fun i σ H2 _ h=>by rw [h.2];exact SqL.of hda) ?_ ?_⟩
  .rintro i x σ H2 hi ⟨⟨v2,rfl⟩,rfl⟩;obtain⟨dd,hdd,hy⟩:=hdi.of_get hi;rw [A8] at hdd;obtain⟨p,hp',rfl⟩:=A5.mp hdd;obtain⟨_,w1,w2⟩:=hok p (AR hp');have b1:p.2.2.natAbs<2^64:=by lia
   have b2:p.2.2^(2:Int).toNat<2^64:=by
    show p.2.2^2<2^64;have:p.2.2*p.2.2<=2^20*2^20:=CS w2 w2 (by lia) (by decide);rw [Int.pow_succ,Int.pow_succ,Int.pow_zero,Int.one_mul];lia
   have b3: -(2^64)<p.2.2^(2:Int).toNat:=by
    show _<p.2.2^2;have h0:0<=p.2.2*p.2.2:=Bv (by lia) (by lia);have h1:p.2.2^2=p.2.2*p.2.2:=by rw [Int.pow_succ,Int.pow_succ,Int.pow_zero,Int.one_mul]
    rw [h1];lia
   refine⟨_,rfl,_,rfl,_,2,_,hy,rfl,rfl,fun u hu=> ?_⟩;rw [c4_ hu];refine⟨_,_,rfl,rfl,⟨by decide,by decide,b1⟩,_,_,rfl,rfl, .inr ⟨b3,b2⟩,⟨some x, ?_⟩,rfl⟩;rw [AV,hp'];unfold el_;rw [C6];rfl
  .rintro σ H2 ⟨⟨v2,rfl⟩,rfl⟩;rw [dlen,AU];exact⟨_,rfl,kk⟩
theorem jc_:FnOk P w K mg base CX0 1 T.f28 T.d28 ["things","pairs"] (se_ K):=by
 refine T.X28.F.ok a4_ (fun vs H Q E h=> ?_) (fun cdv A outer s H vs Q E hr h=> ?_)
 .obtain⟨_,_,_,_,rfl,_⟩:=h;rfl
 .obtain⟨ta,pw,d,ps,rfl,hta,hpv,d5,hok,kk⟩:=h;refine⟨_,(ac_ (aq_ (i:=2) a4_.nd rfl (by trivial) eB_)
   (ac_ (aA_ AN rfl (aJ_ (pv 0)) (aj_ (i:=3) a4_.nd rfl (by trivial)) (ae_ (ds_ (bP_ hr) (pv 2) (pv 3) (pv 3) rfl)))
   (ac_ (aA_ AN rfl (aJ_ (pv 1)) (cj_ rfl (as_ (aj_ (i:=4) a4_.nd rfl (by trivial)) (as_ (aj_ (i:=5) a4_.nd rfl (by trivial)) bd_))) (ac_ (aq_ (i:=6) a4_.nd rfl (by trivial) (bu_ (bP_ hr) (pv 2) (pv 4) (fun _ _=>rfl)))
   (ac_ (aq_ (i:=7) a4_.nd rfl (by trivial) (bu_ (bP_ hr) (pv 2) (pv 5) (fun _ _=>rfl)))
   (ae_ (aA_ AN rfl (aJ_ (pv 0)) (aj_ (i:=3) a4_.nd rfl (by trivial)) (ae_ (bl_ (ax_ et_ (bu_ (bP_ hr) (pv 2) (pv 3) (fun _ _=>rfl)) (pv 7) (aI_ _)) (ae_ (ds_ (bP_ hr) (pv 2) (pv 3) (pv 6) rfl)) aB_)))))))
   (ae_ (ap_ (pv 2)))))), ?_⟩
  obtain⟨pa,pvs,rfl,hpa,hpi⟩:=sK_ hpv;have plen:pvs.length=ps.length:=by rw [hpi.length,A1]
  intro st nst;have tst:ta≠st:=fun z=>by rw [z,nst] at hta;cases hta
  have rlen:(fP_ 1 d).length=d:=by unfold fP_;simp
  refine⟨_,rfl,ta,rfl,⟨_,SqL.of (by rw [ak_ tst];exact hta)⟩,aL_ (xs:=fP_ 1 d) (fun i σ H2=>(∃v3 v4 v5 v6 v7,σ=[some (.ref ta),some (.ref pa),some (.ref st),v3,v4,v5,v6,v7])/\ao_ H H2/\H2 st=some (.dK (fy_ i fun t=>1+(t:Int))))
   ⟨⟨none,none,none,none,none,rfl⟩,ao_.new nst,ag_⟩ (fun i σ H2 _ h=>SqL.of (h.2.1 _ _ hta)) ?_ ?_⟩
  .rintro i x σ H2 hi ⟨⟨v3,v4,v5,v6,v7,rfl⟩,s2,hst⟩;obtain⟨hid,rfl⟩:=iZ_ hi;have dp:=kR_.k (k:=Sum.inl (1+(i:Int))) (v:= .int (1+(i:Int))) hst (an_ (by rw [lY_];lia));rw [oo_ (L:=fun t=>1+(t:Int)) i] at dp;exact⟨_,rfl,_,rfl,_,rfl,st,_,rfl,dp,⟨_,_,_,_,_,rfl⟩,s2.put nst,ag_⟩
  .rintro σ H2 ⟨⟨v3,v4,v5,v6,v7,rfl⟩,s2,hst⟩;rw [rlen] at hst;refine⟨_,rfl,pa,rfl,⟨_,SqL.of (s2 _ _ hpa)⟩,aL_ (xs:=pvs) (fun i σ H3=>(∃v3 v4 v5 v6 v7,σ=[some (.ref ta),some (.ref pa),some (.ref st),v3,v4,v5,v6,v7])/\ao_ H H3/\H3 st=some (.dK (fy_ d ((ps.take i).foldl jn_ fun t=>1+(t:Int)))))
    ⟨⟨_,_,_,_,_,rfl⟩,s2,hst⟩ (fun i σ H3 _ h=>SqL.of (h.2.1 _ _ hpa)) ?_ ?_⟩
   .rintro i x σ H3 hi ⟨⟨v3,v4,v5,v6,v7,rfl⟩,s3,hst3⟩;obtain⟨dd,hdd,hy⟩:=hpi.of_get hi;rw [A8] at hdd;obtain⟨p,hp',rfl⟩:=A5.mp hdd;obtain⟨t,rfl,hta'⟩:=uL_ hy;obtain⟨o1,o2,o3,o4⟩:=hok p (AR hp');have en:(ps.take (i+1)).foldl jn_ (fun t=>1+(t:Int))=jn_ ((ps.take i).foldl jn_ fun t=>1+(t:Int)) p:=by
     rw [AV,hp',C6];rfl
    rw [en];generalize (ps.take i).foldl jn_ (fun t=>1+(t:Int))=L at hst3⊢;obtain⟨x,y⟩:=p;dsimp only at o1 o2 o3 o4 hta';obtain⟨m,rfl,hm,em⟩:=py_ o1 o2;obtain⟨n,rfl,hn,en⟩:=py_ o3 o4;refine⟨t,_,rfl,SqT.of (s3 _ _ hta'),rfl,_,_,rfl,_,_,rfl,rfl, ?_⟩;refine⟨_,rfl,_,rfl,st,_,rfl,eJ_ hst3 hm,_,rfl,_,rfl,st,_,rfl,eJ_ hst3 hn, ?_⟩;refine⟨_,rfl,ta,rfl,⟨_,SqL.of (s3 _ _ hta)⟩,aL_ (xs:=fP_ 1 d) (fun j σ H4=>(∃v3,σ=[some (.ref ta),some (.ref pa),some (.ref st),v3,some (.int (1+(m:Int))),some (.int (1+(n:Int))),some (.int (L m)),some (.int (L n))])/\ao_ H H4/\H4 st=some (.dK (fy_ d fun t=>if t<j/\L t=L n then L m else L t)))
     ⟨⟨_,rfl⟩,s3,by rw [hst3];exact eI_ fun t _=>by rw [A3 (by lia)]⟩ (fun i σ H4 _ h=>SqL.of (h.2.1 _ _ hta)) ?_ ?_⟩
    .rintro j x σ H4 hj ⟨⟨v3,rfl⟩,s4,hst4⟩;obtain⟨hjd,rfl⟩:=iZ_ hj;refine⟨_,rfl,_,rfl,st,_,rfl,eJ_ hst4 hjd,_,rfl,rfl,_,rfl, ?_⟩;rw [A3 (show¬(j<j/\L j=L n) by lia)];refine lB_ (fun e=> ?_) (fun e=> ?_)
     .refine⟨_,rfl,_,rfl,_,rfl,st,_,rfl,o4_ hst4 hjd d5,⟨_,rfl⟩,s4.put nst, ?_⟩;rw [ag_];refine eI_ fun t _=> ?_;by_cases c:t=j
      .subst c;rw [A6 rfl,A6 ⟨by lia,e⟩]
      .rw [A3 c];by_cases c2:t<j/\L t=L n
       .rw [A6 c2,A6 ⟨by lia,c2.2⟩]
       .rw [A3 c2,A3 (fun z=>c2 ⟨by lia,z.2⟩)]
     .refine⟨⟨_,rfl⟩,s4, ?_⟩;rw [hst4];refine eI_ fun t _=> ?_;by_cases c2:t<j/\L t=L n
      .rw [A6 c2,A6 ⟨by lia,c2.2⟩]
      .rw [A3 c2,A3 (fun z=>c2 ⟨by
        rcases Bd t j with q|q
        .exact q
        .exact absurd (by rw [show j=t by lia];exact z.2) e,z.2⟩)]
    .rintro σ H4 ⟨⟨v3,rfl⟩,s4,hst4⟩;rw [rlen] at hst4;refine⟨⟨_,_,_,_,_,rfl⟩,s4, ?_⟩;rw [hst4];refine eI_ fun t ht=> ?_;unfold jn_;dsimp only;rw [em,en];by_cases c:L t=L n
     .rw [A6 ⟨ht,c⟩,A6 c]
     .rw [A3 (fun z=>c z.2),A3 c]
   .rintro σ H3 ⟨⟨v3,v4,v5,v6,v7,rfl⟩,s3,hst3⟩;rw [plen,AU] at hst3;exact⟨_,rfl,kk st H3 s3 nst hst3⟩
theorem ew_:FnOk P w K mg base CX0 2 T.f29 T.d29 ["things","pairs"] (sb_ K):=by
 refine T.X29.F.ok cF_ (fun vs H Q E h=> ?_) (fun cdv A outer s H vs Q E hr h=> ?_)
 .obtain⟨_,_,_,_,rfl,_⟩:=h;rfl
 .obtain⟨ta,pw,d,ps,rfl,hta,hpv,d5,hok,kk⟩:=h;refine⟨_,(ac_ (aq_ (i:=2) cF_.nd rfl (by trivial) (ah_ (jc_ T) (hr.mono (by decide)) (by rfl) T.X28.m T.X28.F.kp T.X28.B .nil ar_ (aa_ (pv 0) (aa_ (pv 1) ab_))))
   (ae_ (ap_ (aF_ b6_ (by rfl) T.n_len boot_len (aa_ (bN_ (XN:=["things","pairs","standing"]) (sc:=af_ bk_) (N:=["thing","standing"]) (own:=1) (js:=[2]) rfl (by ac_nf) rfl rfl (aJ_ (pv 0)) (fun _ _ _ _=>(aj_ (i:=0) (show List.Nodup (["thing","standing"]:List Str) by ac_nf) rfl (Or.inl rfl) (.inr rfl))) (bU_ (by decide)) (fun _ _ _ _=>(gu_ (ax_ et_ (bu_ (bP_ hr) (pv 1) (pv 0) (fun _ _=>rfl)) (pv 0) (aI_ _)))) (fun _ _ _ _=>(pv 0))) ab_))))), ?_⟩
  refine⟨_,rfl,_,rfl,ta,pw,d,ps,rfl,hta,hpv,d5,hok,fun st H2 s2 nst hst=> ?_⟩;have rlen:(fP_ 1 d).length=d:=by unfold fP_;simp
  refine⟨_,rfl,ta,rfl,⟨_,SqL.of (s2 _ _ hta)⟩,fun acc na=> ?_⟩;refine bZ_ (xs:=fP_ 1 d) (own:=1) (js:=[2]) (fun i H3=>ao_ H2 H3/\H3 acc=some (.lst (((List.range i).filter fun t=>decide (f0_ ps t=1+(t:Int))).map fun t:Nat=>V.int (1+(t:Int))))) ⟨ao_.new na,ag_⟩ (fun i H3 _ h=>SqL.of (h.1 _ _ (s2 _ _ hta))) ?_ ?_ bX_ ?_ ?_
  .rintro i x H3 hi ⟨s3,hacc⟩;obtain⟨hid,rfl⟩:=iZ_ hi;refine⟨_,rfl,_,rfl,st,_,rfl,eJ_ (s3 _ _ hst) hid,_,rfl,rfl,_,rfl, ?_⟩;refine lB_ (fun e=> ?_) (fun e=> ?_)
   .refine⟨_,rfl,acc,_,_,rfl,rfl,hacc,an_ ?_,s3.put na, ?_⟩
    .rw [A1];have:=Bx (fun t:Nat=>decide (f0_ ps t=1+(t:Int))) (List.range i);rw [B'] at this;lia
    .rw [ag_,Av,Bk,AC];simp [CD,e]
   .refine⟨s3, ?_⟩;rw [hacc,Av,Bk,AC];simp [CD,e]
  .rintro H3 ⟨s3,hacc⟩;rw [rlen] at hacc;refine⟨acc,_,rfl, .inl (SqL.of hacc), ?_⟩;rw [A1];exact kk H3 (s2.trans s3)
  .rintro σ H R R' k ⟨v1,e1,v2,e2,a,v,e3,g,v4,e4,e5,b,e6,h⟩;exact⟨v1,e1,v2,e2,a,v,e3,g,v4,e4,e5,b,e6,k _ _ h⟩
  .rintro σ H R R' k ⟨v1,e1,h⟩;exact⟨v1,e1,k _ _ h⟩
theorem oF_:FnOk P w K mg base CX0 4 T.f37 T.d37 ["d","drawing"] qg_:=by
 refine T.X37.F.ok oj_ (fun vs H Q E h=> ?_) (fun cdv A outer s H vs Q E hr h=> ?_)
 .obtain⟨_,_,_,rfl,_⟩:=h;rfl
 .obtain⟨d,dv,ps,rfl,hd,d1,d5,hl,hok,kk⟩:=h;refine⟨_,(ac_ (aH_ (ah_ (cb_ T) (hr.mono (by decide)) (by rfl) T.X3.m T.X3.F.kp T.X3.B .nil ar_ (aa_ (pv 0) ab_)))
   (ae_ (ap_ (ah_ (ew_ T) (hr.mono (by decide)) (by rfl) T.X29.m T.X29.F.kp T.X29.B .nil ar_ (aa_ (lc_ rfl (by rfl) T.n_list (by rfl) T.n_range (aa_ ad_ (aa_ (al_ aC_ (pv 0) ad_) ab_))) (aa_ (bN_ (XN:=["d","drawing"]) (sc:=af_ gj_) (N:=["lift"]) (own:=1) (js:=[]) rfl (by ac_nf) rfl rfl (aJ_ (pv 1)) (fun _ _ _ _=>(aj_ (i:=0) (show List.Nodup (["lift"]:List Str) by ac_nf) rfl (Or.inl rfl) (.inr rfl))) (bU_ (by decide)) (fun _ _ _ _=>cw_) (fun _ _ _ _=>(aT_ (aa_ (bg_ aN_ (pv 0) ad_ (fun _ _=>rfl)) (aa_ (bg_ aN_ (pv 0) ad_ (fun _ _=>rfl)) ab_))))) ab_)))))), ?_⟩
  refine⟨_,rfl,(d:Int),rfl,by lia,by lia, ?_⟩;obtain⟨da,dvs,rfl,hda,hdi⟩:=cn_ hd;have dlen:dvs.length=ps.length:=by rw [hdi.length,A1]
  refine⟨_,rfl,_,_,rfl,rfl,1,_,rfl,⟨by lia,by lia,by lia,by lia⟩,by lia,fun ta nta=> ?_⟩;have e1:((d:Int)+1-1).toNat=d:=by lia
  rw [e1];have s1:ao_ H (upd H ta (.lst (fP_ 1 d))):=ao_.new nta;have hta:upd H ta (.lst (fP_ 1 d)) ta=some (.lst (fP_ 1 d)):=ag_;generalize upd H ta (.lst (fP_ 1 d))=H1 at s1 hta⊢;refine⟨_,rfl,da,rfl,⟨_,SqL.of (s1 _ _ hda)⟩,fun acc na=> ?_⟩;refine bZ_ (xs:=dvs) (own:=1) (js:=[]) (fun i H3=>ao_ H1 H3/\rC_ H3 acc (((ps.take i).map fun p:Lf=>((p.1,p.2.1):Pt)).map pt)) ⟨ao_.new na,rC_.start⟩ (fun i H3 _ h=>SqL.of (h.1 _ _ (s1 _ _ hda))) ?_ ?_ bX_ cA_ ?_
  .rintro i x H3 hi ⟨s3,vs,hacc,hvs⟩;obtain⟨dd,hdd,hy⟩:=hdi.of_get hi;rw [A8] at hdd;obtain⟨p,hp',rfl⟩:=A5.mp hdd;have hil:i<ps.length:=(AD.mp hp').1;have hlf:Is H3 (lf p) x:=hy.mono (s1.trans s3);refine tB_ ?_;refine⟨_,rfl,_,0,_,hlf,rfl,rfl,fun u hu=>⟨_,rfl,_,1,_,hlf,rfl,rfl,fun u' hu'=>⟨(by show 2<=sizeLine;decide),fun q H4 nq s4 hq=> ?_⟩⟩⟩;rw [c4_ hu,c4_ hu'] at hq;refine⟨acc,vs,_,rfl,rfl,s4 _ _ hacc,an_ (by rw [hvs.length];simp;lia),(s3.trans s4).put na, ?_⟩;rw [AV,hp',AC,AC];exact oZ_ (hvs.mono (c6_ s4)) (uT_ (p:=(p.1,p.2.1)) (by rw [ku_ (aw_ hacc nq).symm];exact hq))
  .rintro H3 ⟨s3,g⟩;rw [dlen,AU] at g;exact⟨ta,_,d,d7_ ps,rfl,s3 _ _ hta,g.is,d5,oz_ hok,fun H4 s4=>kk H4 ((s1.trans s3).trans s4)⟩
  .rintro σ H R R' k ⟨v1,e1,xs,i,d,h1,e2,e3,h⟩;refine⟨v1,e1,xs,i,d,h1,e2,e3,fun u hu=> ?_⟩;obtain⟨v1,e1,xs,i,d,h1,e2,e3,h⟩:=h u hu;refine⟨v1,e1,xs,i,d,h1,e2,e3,fun u hu=> ?_⟩;obtain⟨z,h⟩:=h u hu;exact⟨z,fun p H2 np s2 hp=>k _ _ (h p H2 np s2 hp)⟩
theorem dJ_:FnOk P w K mg base CX0 12 T.f44 T.d44 ["d","k"] (up_ rQ_):=by
 refine T.X44.F.ok b2_ (fun vs H Q E h=> ?_) (fun cdv A outer s H vs Q E hr h=> ?_)
 .obtain⟨_,_,rfl,_⟩:=h;rfl
 .obtain⟨d,k,rfl,hW,kk⟩:=h;refine⟨_,(ac_ (aH_ (ah_ (cy_ T) (hr.mono (by decide)) (by rfl) T.X2.m T.X2.F.kp T.X2.B .nil ar_ (aa_ (pv 0) (aa_ (pv 1) ab_))))
   (ac_ (oq_ (i:=2) b2_.nd rfl (by trivial) (.inl rfl) (XN:=["d","k","whole"]) (sc:=af_ aQ_) (N:=["drawing","d"]) (own:=1) (js:=[0]) rfl (by ac_nf) rfl rfl (aJ_ (ah_ (jd_ T) (hr.mono (by decide)) (by rfl) T.X36.m T.X36.F.kp T.X36.B .nil ar_ (aa_ (pv 0) (aa_ (pv 1) ab_)))) (fun _ _ _ _=>(aj_ (i:=0) (show List.Nodup (["drawing","d"]:List Str) by ac_nf) rfl (Or.inl rfl) (.inr rfl))) (bU_ (by decide)) (fun _ _ _ _=>(gu_ (ax_ et_ (ah_ (oF_ T) (hr.mono (by decide)) (by rfl) T.X37.m T.X37.F.kp T.X37.B .nil ar_ (aa_ (pv 1) (aa_ (pv 0) ab_))) ad_ (aI_ _)))) (fun _ _ _ _=>(pv 0)))
   (ae_ (ap_ (aF_ (dR_ rfl) (by rfl) T.n_sum boot_sum (aa_ (bN_ (XN:=["d","k","whole"]) (sc:=af_ aQ_) (N:=["drawing","d"]) (own:=1) (js:=[0]) rfl (by ac_nf) rfl rfl (aJ_ (pv 2)) (fun _ _ _ _=>(aj_ (i:=0) (show List.Nodup (["drawing","d"]:List Str) by ac_nf) rfl (Or.inl rfl) (.inr rfl))) (bU_ (by decide)) (fun _ _ _ _=>cw_) (fun _ _ _ _=>(al_ ba_ (ah_ (oD_ T) (hr.mono (by decide)) (by rfl) T.X38.m T.X38.F.kp T.X38.B .nil ar_ (aa_ (pv 0) ab_)) (ah_ (jb_ T) (hr.mono (by decide)) (by rfl) T.X43.m T.X43.F.kp T.X43.B .nil ar_ (aa_ (pv 1) (aa_ (pv 0) ab_)))))) ab_)))))), ?_⟩
  obtain⟨_,_,_,g4,g5⟩:=tg_ hW;have d15:1<=d/\d<=5:=by unfold Wide at hW;lia
  refine⟨_,rfl,_,rfl,d,k,rfl,hW, ?_⟩;refine⟨_,rfl,_,rfl,d,k,rfl,hW,fun l H1 s1 nl hl=> ?_⟩;have hl:=hl.mono bn_;obtain⟨_,lvs,e,hl1,hli⟩:=cn_ hl;cases e;have llen:lvs.length=(sD d k).length:=by rw [hli.length,A1]
  refine⟨l,rfl,⟨_,SqL.of hl1⟩,fun acc na=> ?_⟩;refine bZ_ (xs:=lvs) (own:=1) (js:=[0]) (fun i H3=>ao_ H1 H3/\∃vs,H3 acc=some (.lst vs)/\Iss H1 ((((sD d k).take i).filter (isW d)).map lfs) vs) ⟨ao_.new na,[],ag_,am_⟩ (fun i H3 _ h=>SqL.of (h.1 _ _ hl1)) ?_ ?_ bX_ ?_ ?_
  .rintro i y H3 hi ⟨s3,vs,hacc,hvs⟩;obtain⟨dd,hdd,hy⟩:=hli.of_get hi;rw [A8] at hdd;obtain⟨x,hx,rfl⟩:=A5.mp hdd;have il:i<(sD d k).length:=(AD.mp hx).1;obtain⟨o1,o2,o3,_,_,_⟩:=hH_ (g4 x (AR hx));have hy3:=hy.mono s3;have nx:((sD d k).take (i+1)).filter (isW d)=((sD d k).take i).filter (isW d)++if isW d x=true then [x] else []:=by
    rw [AV,hx,Bk];simp only [Option.toList_some,CD,List.filter_nil]
   refine⟨_,rfl,_,rfl,d,y,x,rfl,hy3,d15.1,d15.2,o3,o1.okl,fun H4 s4=> ?_⟩;rw [nx];refine⟨rfl,_,rfl,lB_ (fun e=> ?_) (fun e=> ?_)⟩
   .have e':isW d x=true:=by unfold isW uI_;exact B9 (by lia)
    have vl:vs.length<=1000:=by
     rw [hvs.length,A1];have:=Bx (isW d) ((sD d k).take i);rw [Az] at this;lia
    refine⟨_,rfl,acc,vs,_,rfl,rfl,s4 _ _ hacc,an_ vl,(s3.trans s4).put na,_,ag_, ?_⟩;rw [A6 e',AC];exact hvs.append (ai_ hy am_)
   .have e':isW d x=false:=by unfold isW uI_;exact Ai (by lia)
    refine⟨s3.trans s4,vs,s4 _ _ hacc, ?_⟩;rw [e',A3 AT,B8];exact hvs
  .rintro H3 ⟨s3,vs,hacc,hvs⟩;rw [llen,AU] at hvs;have hin:∀x∈(sD d k).filter (isW d),x∈sD d k:=fun x hx=>(Cy.mp hx).1;have fl:((sD d k).filter (isW d)).length<=1000:=B2 (Bx _ _) g5;unfold rQ_ at kk;generalize (sD d k).filter (isW d)=L at hvs hin fl kk;have vlen:vs.length=L.length:=by rw [hvs.length,A1]
   refine⟨_,rfl,acc,rfl,⟨_,SqL.of hacc⟩,fun ac2 na2=> ?_⟩;refine bZ_ (xs:=vs) (own:=1) (js:=[0]) (fun i H4=>ao_ H3 H4/\H4 ac2=some (.lst (((L.take i).map (vi_ d)).map V.int))) ⟨ao_.new na2,ag_⟩ (fun i H4 _ h=>SqL.of (h.1 _ _ hacc)) ?_ ?_ bX_ cA_ ?_
   .rintro i y H4 hi ⟨s4,hac⟩;obtain⟨dd,hdd,hy⟩:=hvs.of_get hi;rw [A8] at hdd;obtain⟨x,hx,rfl⟩:=A5.mp hdd;have il:i<L.length:=(AD.mp hx).1;obtain⟨o1,o2,o3,o4,o5,_⟩:=hH_ (g4 x (hin x (AR hx)));have hy4:=(hy.mono s3).mono s4;refine tB_ ?_;refine⟨_,rfl,y,x,d,rfl,hy4,(fun p hp=>⟨trivial,(o2 p hp).2⟩),_,rfl,_,rfl,d,y,x,rfl,d15.1,d15.2,hy4,o1,fun H5 s5=> ?_⟩;refine⟨_,_,rfl,rfl, .inl ⟨by lia,by lia⟩,ac2,_,_,rfl,rfl,s5 _ _ hac,an_ (by rw [A1,A1,Az];lia),(s4.trans s5).put na2, ?_⟩;rw [ag_,AV,hx,AC,AC];rfl
   .rintro H4 ⟨s4,hac⟩;rw [vlen,AU] at hac;exact⟨ac2,_,rfl,SqL.of hac,kk H4 ((s1.trans s3).trans s4)⟩
   .rintro σ H R R' k' ⟨v1,e1,dv,ps,d',e2,i1,o1,v2,e3,v3,e4,n,dv2,ps2,e5,a1,a2,i2,sn,kk2⟩;exact⟨v1,e1,dv,ps,d',e2,i1,o1,v2,e3,v3,e4,n,dv2,ps2,e5,a1,a2,i2,sn,fun H' s'=>let ⟨i,j,x1,x2,x3,x4⟩:=kk2 H' s';⟨i,j,x1,x2,x3,k' _ _ x4⟩⟩
  .rintro σ H R R' k' ⟨v1,e1,v2,e2,n,dv,ps,e3,i1,a1,a2,a3,a4,kk2⟩;exact⟨v1,e1,v2,e2,n,dv,ps,e3,i1,a1,a2,a3,a4,fun H' s'=>let ⟨x1,b,x2,x3⟩:=kk2 H' s';⟨x1,b,x2,k' _ _ x3⟩⟩
  .rintro σ H R R' k' ⟨v1,e1,h⟩;exact⟨v1,e1,k' _ _ h⟩
theorem dM_:FnOk P w K mg base CX0 1 T.f46 T.d46 ["_law_cell"] (qh_ K):=by
 refine T.X46.F.ok a9_ (fun vs H Q E h=> ?_) (fun cdv A outer s H vs Q E hr h=> ?_)
 .obtain⟨_,rfl,_⟩:=h;rfl
 .obtain⟨x,rfl,kk⟩:=h;refine⟨_,(ac_ (bl_ (ax_ qL_ (pv 0) (al_ fR_ ad_ ad_) (aI_ _)) (ae_ (ap_ (al_ aE_ (pv 0) (al_ fR_ ad_ ad_)))) aB_)
   (ac_ (bl_ (ax_ mK_ (pv 0) (al_ aE_ ad_ (al_ fR_ ad_ ad_)) (aI_ _)) (ae_ (ap_ (al_ aE_ (al_ aE_ ad_ (pv 0)) (al_ fR_ ad_ ad_)))) aB_)
   (ac_ (aq_ (i:=1) a9_.nd rfl (by trivial) (al_ aC_ (al_ jZ_ (pv 0) ad_) ad_))
   (ac_ (aq_ (i:=2) a9_.nd rfl (by trivial) ad_)
   (ac_ (aA_ AN rfl (ci_ (by rfl) T.n_range (aa_ ad_ ab_)) (aj_ (i:=3) a9_.nd rfl (by trivial)) (ac_ (aq_ (i:=1) a9_.nd rfl (by trivial) (al_ jZ_ (al_ aC_ (al_ aC_ (al_ aC_ (al_ ba_ (pv 1) ad_) (al_ ba_ (al_ ba_ ad_ (pv 3)) (pv 3))) (al_ e7_ (pv 1) ad_)) ad_) ad_))
   (ae_ (aq_ (i:=2) a9_.nd rfl (by trivial) (al_ aC_ (al_ ba_ (pv 2) ad_) (al_ jZ_ (al_ ba_ (pv 1) ad_) ad_))))))
   (ae_ (ap_ (pv 2)))))))), ?_⟩
  have e18:(10:Int)^(18:Int).toNat=10^18:=rfl;refine⟨_,rfl,10,18,rfl,rfl,⟨by decide,by decide,by decide⟩,_,_,rfl,rfl,_,rfl,g0_ (fun h=> ?_) (fun h=> ?_)⟩
  .exact⟨_,rfl,10,18,rfl,rfl,⟨by decide,by decide,by decide⟩,_,_,rfl,rfl,kk _ (by lia)⟩
  .refine⟨_,rfl,10,18,rfl,rfl,⟨by decide,by decide,by decide⟩,_,_,rfl,rfl,_,_,rfl,rfl,_,rfl,g0_ (fun h2=> ?_) (fun h2=> ?_)⟩
   .exact⟨_,rfl,_,_,rfl,rfl,10,18,rfl,rfl,⟨by decide,by decide,by decide⟩,_,_,rfl,rfl,kk _ (by lia)⟩
   .refine⟨_,rfl,_,_,rfl,rfl,(show(0:Int)<2147483629 by decide),_,_,rfl,rfl, ?_⟩;refine⟨8,rfl,by decide,by decide,aY_ (n:=8) (fun i σ H2=>(∃(y f:Int) (v3:Option V),σ=[some (.int x),some (.int y),some (.int f),v3]/\0<=y/\0<=f)/\H2=H) ⟨⟨_,0,none,rfl,by lia,by decide⟩,rfl⟩ ?_ ?_⟩
    .rintro i σ H2 hi ⟨⟨y,f,v3,rfl,y0,f0⟩,rfl⟩;refine⟨_,rfl,_,_,rfl,rfl, .inr ⟨by decide,by decide⟩,_,rfl,_,_,rfl,rfl, .inl ⟨by decide,by decide⟩,_,rfl,_,_,rfl,rfl, .inr ⟨by lia,by lia⟩,_,_,rfl,rfl,_,rfl,_,_,rfl,rfl,⟨by decide,by decide⟩,_,_,rfl,rfl,_,_,rfl,rfl,_,_,rfl,rfl,(show(0:Int)<2147483647 by decide), ?_⟩;refine⟨_,rfl,_,_,rfl,rfl, .inr ⟨by decide,by decide⟩,_,rfl,_,_,rfl,rfl, .inr ⟨by decide,by decide⟩,_,_,rfl,rfl,(show(0:Int)<2147483629 by decide),_,_,rfl,rfl, ?_⟩;exact⟨⟨_,_,_,rfl,Int.emod_nonneg _ (by decide),Int.add_nonneg (Bv f0 (by decide)) (Int.emod_nonneg _ (by decide))⟩,rfl⟩
    .rintro σ H2 ⟨⟨y,f,v3,rfl,y0,f0⟩,rfl⟩;exact⟨_,rfl,kk _ f0⟩
theorem aU_:FnOk P w K mg base CX0 1 T.f47 T.d47 ["_law_rest","_law_m"] (uo_ K):=by
 refine T.X47.F.ok dE_ (fun vs H Q E h=> ?_) (fun cdv A outer s H vs Q E hr h=> ?_)
 .obtain⟨_,_,_,rfl,_⟩:=h;rfl
 .obtain⟨b,m,z,rfl,hb,z0,m0,m1,kk⟩:=h;refine⟨_,(ac_ (aq_ (i:=2) dE_.nd rfl (by trivial) (al_ jZ_ (bg_ cX_ (pv 0) ad_ (fun _ _=>rfl)) (pv 1)))
   (ac_ (st_ (al_ oB_ (bg_ cX_ (pv 0) ad_ (fun _ _=>rfl)) (pv 1)) (sw_ (pv 0) ad_ gh_))
   (ae_ (ap_ (pv 2))))), ?_⟩
  refine⟨_,rfl,b,_,_,_,rfl,rfl,SqL.of hb,by rfl,_,rfl,_,_,rfl,rfl,m0, ?_⟩;refine⟨_,rfl,b,_,_,_,rfl,rfl,SqL.of hb,by rfl,_,rfl,_,_,rfl,rfl,tt_ m0 m1,_,rfl,b,_,_,0,rfl,rfl,hb,by rfl, ?_⟩;exact⟨_,rfl,kk _ _ (Int.emod_nonneg _ (by lia)) (Int.emod_lt_of_pos _ m0) (Int.fdiv_nonneg z0 (by lia))⟩
theorem hJ_:FnOk P w K mg base CX0 2 T.f5 T.d5 ["thing"] (uk_ K):=by
 refine T.X5.F.ok hw_ (fun vs H Q E h=> ?_) (fun cdv A outer s H vs Q E hr h=> ?_)
 .obtain⟨_,_,rfl,_⟩:=h;rfl
 .obtain⟨v,t,rfl,hv,⟨tn,tl,tt⟩,kk⟩:=h;refine⟨_,(ac_ (bl_ (e1_ (dG_ (aF_ dS_ (by rfl) T.n_isinstance CH (aa_ (pv 0) (aa_ (d6_ (v:= .ty "list") (by rfl) T.n_list boot_list (by rfl)) ab_))))) (ae_ (ap_ i6_)) aB_)
   (ac_ (aA_ AN rfl (aJ_ (pv 0)) (aj_ (i:=1) hw_.nd rfl (by trivial)) (ae_ (bl_ (hE_ (e1_ (dG_ (ah_ (e9_ T) (hr.mono (by decide)) (by rfl) T.X0.m T.X0.F.kp T.X0.B .nil ar_ (aa_ (pv 1) ab_)))) (fQ_ (ax_ i7_ (pv 1) ad_ (aI_ _)))).pt (ae_ (ap_ i6_)) aB_)))
   (ae_ (ap_ (uH_ (qF_ (pv 0)) (mB_ (mD_ mL_ (bg_ cX_ (pv 0) (qC_ lR_ ad_) (fun _ _=>rfl)) ad_ (aI_ _)))))))), ?_⟩
  obtain⟨a,rfl,ha⟩:=fV_ hv;refine⟨_,rfl,_,"list",_,true,rfl, .lst ha,kg_,true,rfl,h8_ ?_⟩;refine⟨_,rfl,a,rfl,⟨_,SqL.of ha⟩,aL_ (xs:=t.map V.int) (fun i σ H2=>(∃v1,σ=[some (.ref a),v1])/\H2=H) ⟨⟨none,rfl⟩,rfl⟩ (fun i σ H2 _ h=>by rw [h.2];exact SqL.of ha) ?_ ?_⟩
  .rintro i y σ H2 hi ⟨⟨v1,rfl⟩,rfl⟩;rw [A8] at hi;obtain⟨x,hx,rfl⟩:=A5.mp hi;have x0:0<=x:=by
    have:=tn i;rw [AA,hx] at this;exact this
   refine⟨_,rfl,_,rfl, .inl ⟨_,rfl⟩,true,rfl,h8_ ⟨_,rfl,_,_,rfl,rfl,_,rfl,g0_ (fun h=>absurd h (by lia)) (fun _=>⟨⟨_,rfl⟩,rfl⟩)⟩⟩
  .rintro σ H2 ⟨⟨v1,rfl⟩,rfl⟩;refine⟨_,rfl,a,_,rfl,SqL.of ha,_,rfl, ?_⟩;rcases tt with rfl|⟨s,x,rfl,x0⟩
   .exact oT_ kk
   .have e0:((s++[x]).map V.int).isEmpty=false:=by
     cases s<;>rfl
    rw [e0];refine h8_ ⟨_,rfl,1,rfl,a,_,-1, .int x,rfl,rfl,SqL.of ha, ?_,_,_,rfl,rfl, ?_⟩
    .unfold atI ixN;rw [A1,AF,A3 (by decide),A6 (by simp;lia)];show((s++[x]).map V.int)[((-1:Int)+((s.length+1:Nat):Int)).toNat]? =_;rw [show((-1:Int)+((s.length+1:Nat):Int)).toNat=s.length by lia,A8,CQ (A9 _),Nat.sub_self];rfl
    .show Q (.bl (decide (0<x))) H2;rw [B9 x0];exact kk
theorem lF_ {t:List Int}{i:Nat}{x:Int} (h:t[i]? =some x):((List.range (i+1)).map fun j:Nat=>((j:Int)+1)*t.getD j 0)=((List.range i).map fun j:Nat=>((j:Int)+1)*t.getD j 0)++[((i:Int)+1)*x]:=by
 rw [Av,AC,AI,D4,AA,h];rfl
theorem pf_ (t:List Int):((List.range t.length).map fun j:Nat=>((j:Int)+1)*t.getD j 0).sum=wtF t:=by
 have go:∀(t:List Int) (i:Int),((List.range t.length).map fun j:Nat=>((j:Int)+i)*t.getD j 0).sum=wtG i t:=fun t=>by
  induction t with
  |nil=>intro i;rfl
  |cons x t ih=>
   intro i;rw [AY,List.range_succ_eq_map,AI,BO,Aj];unfold wtG;rw [<-ih (i+1)];congr 1
   .simp
   .refine Bc List.sum (Ae fun j _=> ?_);show(((j+1:Nat):Int)+i)*t.getD j 0=_;rw [show((j+1:Nat):Int)+i=(j:Int)+(i+1) by lia]
 exact go t 1
theorem dK_:FnOk P w K mg base CX0 1 T.f6 T.d6 ["row"] (ud_ K):=by
 refine T.X6.F.ok dD_ (fun vs H Q E h=> ?_) (fun cdv A outer s H vs Q E hr h=> ?_)
 .obtain⟨_,_,rfl,_⟩:=h;rfl
 .obtain⟨v,t,rfl,hv,tl,kk⟩:=h;refine⟨_,(ae_ (ap_ (aF_ (dR_ rfl) (by rfl) T.n_sum boot_sum (aa_ (bN_ (XN:=["row"]) (sc:=af_ bA_) (N:=["place","number"]) (own:=2) (js:=[]) rfl (by ac_nf) rfl rfl (i4_ (by rfl) T.n_enumerate (pv 0)) (fun _ _ _ _=>(i5_ (K:=K) rfl rfl (as_ (aj_ (i:=0) (show List.Nodup (["place","number"]:List Str) by ac_nf) rfl (Or.inl rfl) (.inr rfl)) (as_ (aj_ (i:=1) (show List.Nodup (["place","number"]:List Str) by ac_nf) rfl (Or.inl rfl) (.inr rfl)) bd_)))) e5_ (fun _ _ _ _=>cw_) (fun _ _ _ _=>(al_ ba_ (al_ aC_ (pv 0) ad_) (pv 1)))) ab_)))), ?_⟩;obtain⟨a,rfl,ha⟩:=fV_ hv;refine⟨_,rfl,a,rfl,⟨_,SqL.of ha⟩,fun acc na=> ?_⟩;refine lt_ (xs:=t.map V.int) (own:=2) (js:=[]) (fun i H2=>ao_ H H2/\H2 acc=some (.lst (((List.range i).map fun j:Nat=>((j:Int)+1)*t.getD j 0).map V.int))) ⟨ao_.new na,ag_⟩ (fun i H2 _ h=>SqL.of (h.1 _ _ ha)) ?_ ?_ ff_ cA_ ?_
  .rintro i y H2 p hi ⟨s2,hacc⟩ np;rw [A8] at hi;obtain⟨x,hx,rfl⟩:=A5.mp hi;have il:i<t.length:=(AD.mp hx).1;have s3:ao_ H2 (upd H2 p (.tup [.int i, .int x])):=ao_.new np;refine⟨p,_,rfl,SqT.of ag_,rfl,_,_,rfl,_,_,rfl,rfl, ?_⟩;refine⟨_,rfl,_,_,rfl,rfl,_,rfl,_,_,rfl,rfl, .inl ⟨by lia,by lia⟩,acc,_,_,rfl,rfl,s3 _ _ hacc,an_ (by rw [A1,A1,B'];lia),(s2.trans s3).put na, ?_⟩;rw [ag_,lF_ hx,AC];rfl
  .rintro H2 ⟨s2,hacc⟩;rw [A1] at hacc;refine⟨acc,_,rfl,SqL.of hacc, ?_⟩;rw [pf_];exact kk H2 s2
  .rintro σ H R R' k ⟨v1,e1,i1,i2,e2,e3,v2,e4,i3,i4,e5,e6,c,h⟩;exact⟨v1,e1,i1,i2,e2,e3,v2,e4,i3,i4,e5,e6,c,k _ _ h⟩
theorem dd_:FnOk P w K mg base CX0 1 T.f6 T.d6 ["row"] (uc_ K):=by
 refine T.X6.F.ok dD_ (fun vs H Q E h=> ?_) (fun cdv A outer s H vs Q E hr h=> ?_)
 .obtain⟨_,_,rfl,_⟩:=h;rfl
 .obtain⟨v,t,rfl,hv,tl,kk⟩:=h;refine⟨_,(ae_ (ap_ (aF_ (dR_ rfl) (by rfl) T.n_sum boot_sum (aa_ (bN_ (XN:=["row"]) (sc:=af_ bA_) (N:=["place","number"]) (own:=2) (js:=[]) rfl (by ac_nf) rfl rfl (gv_ (by rfl) T.n_enumerate (pv 0)) (fun _ _ _ _=>(i5_ (K:=K) rfl rfl (as_ (aj_ (i:=0) (show List.Nodup (["place","number"]:List Str) by ac_nf) rfl (Or.inl rfl) (.inr rfl)) (as_ (aj_ (i:=1) (show List.Nodup (["place","number"]:List Str) by ac_nf) rfl (Or.inl rfl) (.inr rfl)) bd_)))) e5_ (fun _ _ _ _=>cw_) (fun _ _ _ _=>(al_ ba_ (al_ aC_ (pv 0) ad_) (pv 1)))) ab_)))), ?_⟩;obtain⟨a,rfl,ha⟩:=cz_ hv;refine⟨_,rfl,a,rfl,⟨_,SqT.of ha⟩,fun acc na=> ?_⟩;refine ls_ (xs:=t.map V.int) (own:=2) (js:=[]) (fun i H2=>ao_ H H2/\H2 acc=some (.lst (((List.range i).map fun j:Nat=>((j:Int)+1)*t.getD j 0).map V.int))) ⟨ao_.new na,ag_⟩ (fun i H2 _ h=>SqT.of (h.1 _ _ ha)) ?_ ?_ ff_ cA_ ?_
  .rintro i y H2 p hi ⟨s2,hacc⟩ np;rw [A8] at hi;obtain⟨x,hx,rfl⟩:=A5.mp hi;have il:i<t.length:=(AD.mp hx).1;have s3:ao_ H2 (upd H2 p (.tup [.int i, .int x])):=ao_.new np;refine⟨p,_,rfl,SqT.of ag_,rfl,_,_,rfl,_,_,rfl,rfl, ?_⟩;refine⟨_,rfl,_,_,rfl,rfl,_,rfl,_,_,rfl,rfl, .inl ⟨by lia,by lia⟩,acc,_,_,rfl,rfl,s3 _ _ hacc,an_ (by rw [A1,A1,B'];lia),(s2.trans s3).put na, ?_⟩;rw [ag_,lF_ hx,AC];rfl
  .rintro H2 ⟨s2,hacc⟩;rw [A1] at hacc;refine⟨acc,_,rfl,SqL.of hacc, ?_⟩;rw [pf_];exact kk H2 s2
  .rintro σ H R R' k ⟨v1,e1,i1,i2,e2,e3,v2,e4,i3,i4,e5,e6,c,h⟩;exact⟨v1,e1,i1,i2,e2,e3,v2,e4,i3,i4,e5,e6,c,k _ _ h⟩
theorem hI_:FnOk P w K mg base CX0 3 T.f7 T.d7 ["d","held","free"] (ui_ K):=by
 refine T.X7.F.ok hv_ (fun vs H Q E h=> ?_) (fun cdv A outer s H vs Q E hr h=> ?_)
 .obtain⟨_,_,_,_,_,rfl,_⟩:=h;rfl
 .obtain⟨d,v1,v2,a,b,rfl,h1,h2,r1,r2,e,kk⟩:=h;refine⟨_,(ac_ (bl_ (hE_ (e1_ (dG_ (ah_ (hJ_ T) (hr.mono (by decide)) (by rfl) T.X5.m T.X5.F.kp T.X5.B .nil ar_ (aa_ (pv 1) ab_)))) (fQ_ (e1_ (dG_ (ah_ (hJ_ T) (hr.mono (by decide)) (by rfl) T.X5.m T.X5.F.kp T.X5.B .nil ar_ (aa_ (pv 2) ab_)))))).pt (ae_ gr_) aB_)
   (ae_ (bl_ (ax_ sG_ (al_ aC_ (ah_ (dK_ T) (hr.mono (by decide)) (by rfl) T.X6.m T.X6.F.kp T.X6.B .nil ar_ (aa_ (pv 1) ab_)) (ah_ (dK_ T) (hr.mono (by decide)) (by rfl) T.X6.m T.X6.F.kp T.X6.B .nil ar_ (aa_ (pv 2) ab_))) (pv 0) (aI_ _)) (ae_ gr_) aB_))), ?_⟩
  refine⟨_,rfl,v1,a,rfl,h1,r1,true,rfl,h8_ ⟨_,rfl,v2,b,rfl,h2,r2,true,rfl,h8_ ?_⟩⟩;refine⟨_,rfl,v1,a,rfl,h1,r1.2.1,fun H1 s1=>⟨_,rfl,v2,b,rfl,h2.mono s1,r2.2.1,fun H2 s2=> ?_⟩⟩;exact⟨_,_,rfl,rfl,_,rfl,rfl,_,rfl,uR_ (fun hz=>absurd e hz) fun _=>kk H2 (s1.trans s2)⟩
theorem gD_:FnOk P w K mg base CX0 1 T.f9 T.d9 ["numbers"] (ug_ K):=by
 refine T.X9.F.ok bK_ (fun vs H Q E h=> ?_) (fun cdv A outer s H vs Q E hr h=> ?_)
 .obtain⟨_,_,rfl,_⟩:=h;rfl
 .obtain⟨v,ws,rfl,hv,hw,kk⟩:=h;refine⟨_,(ac_ (aq_ (i:=1) bK_.nd rfl (by trivial) ad_)
   (ac_ (aA_ AN rfl (aJ_ (pv 0)) (aj_ (i:=2) bK_.nd rfl (by trivial)) (ae_ (jW_ (i:=1) bK_.nd rfl (by trivial) (pv 2) jo_)))
   (ae_ (ap_ (pv 1))))), ?_⟩
  obtain⟨a,rfl,ha⟩:=fV_ hv;refine⟨_,rfl,a,rfl,⟨_,SqL.of ha⟩,aL_ (xs:=ws.map V.int) (fun i σ H2=>(∃v2,σ=[some (.ref a),some (.int (iE_ (ws.take i))),v2])/\H2=H) ⟨⟨none,rfl⟩,rfl⟩ (fun i σ H2 _ h=>by rw [h.2];exact SqL.of ha) ?_ ?_⟩
  .rintro i y σ H2 hi ⟨⟨v2,rfl⟩,rfl⟩;rw [A8] at hi;obtain⟨x,hx,rfl⟩:=A5.mp hi;obtain⟨x1,x5⟩:=hw x (AR hx);refine⟨_,rfl,_,rfl,_,_,rfl,rfl, .inr ⟨by lia,by lia⟩,⟨some (.int x), ?_⟩,rfl⟩;have e:iE_ (ws.take (i+1))=iE_ (ws.take i)*x:=by
    rw [AV,hx];unfold iE_;rw [C6];rfl
   rw [e];rfl
  .rintro σ H2 ⟨⟨v2,rfl⟩,rfl⟩;rw [A1,AU];exact⟨_,rfl,kk⟩
theorem eo_:FnOk P w K mg base CX0 1 T.f10 T.d10 ["row","length"] (um_ K):=by
 refine T.X10.F.ok hx_ (fun vs H Q E h=> ?_) (fun cdv A outer s H vs Q E hr h=> ?_)
 .obtain⟨_,_,_,rfl,_⟩:=h;rfl
 .obtain⟨v,t,n,rfl,hv,tn,n5,kk⟩:=h;refine⟨_,(ae_ (ap_ (e2_ dh_ (by rfl) T.n_tuple boot_tuple (aa_ (al_ e8_ (pv 0) (al_ e6_ (au_ (aa_ ad_ ab_)) (al_ aE_ (pv 1) (aF_ b6_ (by rfl) T.n_len boot_len (aa_ (pv 0) ab_))))) ab_)))), ?_⟩;obtain⟨a,rfl,ha⟩:=fV_ hv;refine⟨_,rfl,(by show 1<=sizeLine;decide),fun l1 H1 n1 s1 h1=> ?_⟩;refine⟨_,rfl,_,rfl,a,_,rfl, .inl (SqL.of (s1 _ _ ha)),_,_,rfl,rfl, .i 0,_,c8_ h1 (ai_ ex_ am_),rfl, ?_, ?_, ?_,fun l2 H2 n2 s2 h2=> ?_⟩
  .rw [A1];lia
  .rw [A1];lia
  .exact Al (an_ (by rw [A1];lia))
  refine⟨_,_,hv.mono (s1.trans s2),h2,Al (an_ (by rw [A1,BF,A1];lia)),fun l3 H3 n3 s3 h3=> ?_⟩;refine⟨_,_,rfl,h3,fun l4 H4 n4 s4 h4=>kk _ H4 (((s1.trans s2).trans s3).trans s4) ?_⟩;have e:t.map D.i++List.replicate (((n:Int))-(((t.map V.int).length:Nat):Int)).toNat (D.i 0)=(gz_ n t).map D.i:=by
   unfold gz_;rw [A1,AC,Cc,show((n:Int)-(t.length:Int)).toNat=n-t.length by lia]
  rw [e] at h4;exact h4
theorem fD_:FnOk P w K mg base CX0 1 T.f11 T.d11 ["row"] (ub_ K):=by
 refine T.X11.F.ok a0_ (fun vs H Q E h=> ?_) (fun cdv A outer s H vs Q E hr h=> ?_)
 .obtain⟨_,_,rfl,_⟩:=h;rfl
 .obtain⟨v,t,rfl,hv,tn,ts,tl,kk⟩:=h;refine⟨_,(ac_ (aq_ (i:=1) a0_.nd rfl (by trivial) (au_ (aa_ (aT_ ab_) ab_)))
   (ac_ (aA_ AN rfl (sv_ (pv 0)) (aj_ (i:=2) a0_.nd rfl (by trivial)) (ac_ (aq_ (i:=3) a0_.nd rfl (by trivial) (au_ ab_))
   (ac_ (aA_ AN rfl (aJ_ (pv 1)) (aj_ (i:=4) a0_.nd rfl (by trivial)) (ae_ (aH_ (d5_ Ap C9 C8 cW_ (pv 3) (aa_ (bN_ (XN:=["row","found","number","longer","begun"]) (sc:=af_ bM_) (N:=["here","begun"]) (own:=1) (js:=[4]) rfl (by ac_nf) rfl rfl (ci_ (by rfl) T.n_range (aa_ (al_ aC_ (pv 2) ad_) ab_)) (fun _ _ _ _=>(aj_ (i:=0) (show List.Nodup (["here","begun"]:List Str) by ac_nf) rfl (Or.inl rfl) (.inr rfl))) (bU_ (by decide)) (fun _ _ _ _=>cw_) (fun _ _ _ _=>(al_ i8_ (pv 1) (aT_ (aa_ (pv 0) ab_))))) ab_)))))
   (ae_ (aq_ (i:=1) a0_.nd rfl (by trivial) (pv 3))))))
   (ae_ (ap_ (pv 1))))), ?_⟩
  obtain⟨a,rfl,ha⟩:=cz_ hv;refine⟨AO _,fun e0 H1 ne0 s1 he0=>⟨(by show 1<=sizeLine;decide),fun f0 H2 nf0 s2 hf0=> ?_⟩⟩;have s02:=s1.trans s2;refine⟨_,rfl,a,rfl,⟨_,SqT.of (s02 _ _ ha)⟩,rg_ (xs:=t.map V.int) (fun i σ H3=>(∃fo v2 v3 v4,σ=[some (.ref a),some (.ref fo),v2,v3,v4]/\H fo=none/\Is H3 (.l ((rwF (t.take i)).map tI)) (.ref fo))/\ao_ H H3) ⟨⟨f0,none,none,none,rfl,s1.free nf0,c8_ hf0 (ai_ (h9_ (xs:=[]) (s2 _ _ he0)) am_)⟩,s02⟩ (fun i σ H3 _ h=>SqT.of (h.2 _ _ ha)) ?_ ?_⟩
  .rintro i y σ H3 hi ⟨⟨fo,v2,v3,v4,rfl,nfo,hfo⟩,s3⟩;rw [A8] at hi;obtain⟨x,hx,rfl⟩:=A5.mp hi;have il:i<t.length:=(AD.mp hx).1;have x0:0<=x:=by
    have:=tn i;rw [AA,hx] at this;exact this
   have nx:rwF (t.take (i+1))=rwS (rwF (t.take i)) x:=by
    rw [AV,hx];unfold rwF;rw [C6];rfl
   have big:(rwS (rwF (t.take i)) x).length<=32:=by rw [<-nx];exact mf_ tn ts (i+1)
   have hFl:∀b∈rwF (t.take i),b.length<=5:=fun b hb=>by
    have:=(me_ (qQ_ tn i) hb).len;rw [Az] at this;lia
   rw [nx];generalize rwF (t.take i)=F at hfo big hFl;obtain⟨_,fvs,e,hfo3,hfi⟩:=cn_ hfo;cases e;have flen:fvs.length=F.length:=by rw [hfi.length,A1]
   refine⟨AO _,fun lo H4 nlo s4 hlo=> ?_⟩;have nloH:H lo=none:=s3.free nlo;have fl:fo≠lo:=by rintro rfl;rw [hfo3] at nlo;cases nlo
   have part:∀j,(rwS (F.take j) x).length<=32:=fun j=>by
    rw [mg_] at big⊢;refine B2 (Nat.mul_le_mul_right _ ?_) big;rw [Az];lia
   refine⟨_,rfl,fo,rfl,⟨_,SqL.of (s4 _ _ hfo3)⟩,aL_ (xs:=fvs) (fun j σ H5=>(∃v4,σ=[some (.ref a),some (.ref fo),some (.int x),some (.ref lo),v4])/\ao_ H H5/\H5 fo=some (.lst fvs)/\bI_ H4 H5/\∃lvs,H5 lo=some (.lst lvs)/\Iss H5 ((rwS (F.take j) x).map tI) lvs) ⟨⟨_,rfl⟩,s3.trans s4,s4 _ _ hfo3,bI_.of_same (ao_.refl _),[],hlo,am_⟩ (fun j σ H5 _ h=>SqL.of h.2.2.1) ?_ ?_⟩
   .rintro j b σ H5 hj ⟨⟨v4,rfl⟩,s5,hfo5,t5,lvs,hlo5,hl5⟩;obtain⟨dd,hdd,hb⟩:=hfi.of_get hj;rw [A8] at hdd;obtain⟨bb,hbb,rfl⟩:=A5.mp hdd;have hb5:Is H5 (tI bb) b:=gc_ t5 (hb.mono s4);have nx2:rwS (F.take (j+1)) x=rwS (F.take j) x++(List.range (x+1).toNat).map fun h:Nat=>bb++[(h:Int)]:=by
     unfold rwS;rw [AV,hbb,BE];simp
    have pj:=part (j+1);rw [nx2] at pj⊢;rw [AF,A1,B'] at pj;have ll:lvs.length=(rwS (F.take j) x).length:=by rw [hl5.length,A1]
    generalize rwS (F.take j) x=R at hl5 pj ll;refine⟨_,rfl, .inl ⟨rfl,_,SqL.of hlo5⟩,_,rfl,_,_,rfl,rfl,_,rfl,by lia,by lia,fun acc na=> ?_⟩;have naH:H acc=none:=s5.free na;refine lr_ (lo:=0) (n:=(x+1).toNat) (own:=1) (js:=[4]) (fun m H6=>ao_ H5 H6/\∃zs,H6 acc=some (.lst zs)/\Iss H6 (((List.range m).map fun h:Nat=>bb++[(h:Int)]).map tI) zs) ⟨ao_.new na,[],ag_,am_⟩ ?_ ?_ bX_ cA_ ?_
    .rintro m H6 hm ⟨s6,zs,hacc,hz⟩;rw [Int.zero_add];refine⟨_,rfl,_,rfl,(by show 1<=sizeLine;decide),fun q H7 nq s7 hq=> ?_⟩;have s57:=s6.trans s7;refine⟨bb.map .i,[.i (m:Int)],hb5.mono s57,g1_ hq (ai_ ex_ am_),Al (an_ (by have:=hFl bb (AR hbb);rw [A1];show _+1<=1000;lia)),fun u H8 s8 hu=> ?_⟩;have hacc8:=s8 _ _ (s7 _ _ hacc);have zl:zs.length=m:=by rw [hz.length,A1,A1,B']
     refine⟨acc,zs,_,rfl,rfl,hacc8,an_ (by lia),(s57.trans s8).put na,_,ag_, ?_⟩;have tu:bI_ H8 (upd H8 acc (.lst (zs++[u]))):=bI_.upd hacc8;rw [Av,AC,AC];refine(eN_ tu ((hz.mono s7).mono s8)).append (ai_ (gc_ tu ?_) am_);show Is H8 (.t ((bb++[(m:Int)]).map .i)) u;rw [AC];exact hu
    .rintro H6 ⟨s6,zs,hacc,hz⟩;have zl:zs.length=(x+1).toNat:=by rw [hz.length,A1,A1,B']
     have hlo6:=s6 _ _ hlo5;refine⟨lo,acc,lvs,zs,rfl,rfl,hlo6,hacc,Al (an_ (by lia)),⟨_,rfl⟩,(s5.trans s6).put nloH,by rw [ak_ fl];exact s6 _ _ hfo5,(t5.trans (bI_.of_same s6)).trans (bI_.upd hlo6),_,ag_, ?_⟩;have tu:bI_ H6 (upd H6 lo (.lst (lvs++zs))):=bI_.upd hlo6;rw [AC];exact(eN_ tu (hl5.mono s6)).append (eN_ tu hz)
    .rintro σ H R R' k ⟨v1,e1,v2,e2,e3,h⟩;refine⟨v1,e1,v2,e2,e3,fun q H7 nq s7 hq=> ?_⟩;obtain⟨xs,ys,a1,a2,a3,a4⟩:=h q H7 nq s7 hq;exact⟨xs,ys,a1,a2,a3,fun u H8 s8 hu=>k _ _ (a4 u H8 s8 hu)⟩
   .rintro σ H5 ⟨⟨v4,rfl⟩,s5,hfo5,t5,lvs,hlo5,hl5⟩;rw [flen,AU] at hl5;exact⟨_,rfl,⟨lo,_,_,_,rfl,nloH,c8_ hlo5 hl5⟩,s5⟩
  .rintro σ H3 ⟨⟨fo,v2,v3,v4,rfl,nfo,hfo⟩,s3⟩;rw [A1,AU] at hfo;exact⟨_,rfl,kk fo H3 s3 nfo hfo⟩
theorem u6_ {t:List Int}{p:Nat} (h:p<t.length):atI (t.map D.i) (p:Int)=some (.i (t.getD p 0)):=by
 refine tJ_ (j:=p) rfl ?_;rw [A8,A4 h,AA,A4 h];rfl
theorem dc_:∀n:Nat,FnOk P w K mg base CX0 (n+2) T.f12 T.d12 ["row","weight","first"] (uf_ n K)
 |0=>⟨fun vs H Q E h=>(by obtain⟨_,_,_,_,_,_,_,_,h,_⟩:=h;lia),fun A outer s H args us vs Q E _ _ _ _ h=>(by obtain⟨_,_,_,_,_,_,_,_,h,_⟩:=h;lia)⟩
 |n+1=>by
  have ih:=dc_ n;refine T.X12.F.ok bw_ (fun vs H Q E h=> ?_) (fun cdv A outer s H vs Q E hr h=> ?_)
  .obtain⟨_,_,_,_,rfl,_⟩:=h;rfl
  .obtain⟨v,t,wt,fi,rfl,hv,tn,tl,hm,n8,b1,b2,b3,b4,f5,kk⟩:=h;refine⟨_,(ac_ (aq_ (i:=3) bw_.nd rfl (by trivial) (al_ aE_ (pv 1) (ah_ (dd_ T) (hr.mono (by lia)) (by rfl) T.X6.m T.X6.F.kp T.X6.B .nil ar_ (aa_ (pv 0) ab_))))
   (ac_ (bl_ (ax_ et_ (pv 3) ad_ (aI_ _)) (ae_ (ap_ (au_ (aa_ (pv 0) ab_)))) aB_)
   (ac_ (aq_ (i:=4) bw_.nd rfl (by trivial) (au_ ab_))
   (ac_ (aA_ AN rfl (bT_ (by rfl) T.n_range (aa_ (pv 2) (aa_ (aF_ (nD_ rfl) (by rfl) T.n_min boot_min (aa_ (aF_ nF_ (by rfl) T.n_len boot_len (aa_ (pv 0) ab_)) (aa_ (pv 3) ab_))) ab_))) (aj_ (i:=5) bw_.nd rfl (by trivial)) (ae_ (aH_ (d5_ Ap C9 C8 cW_ (pv 4) (aa_ (ah_ ih hr (by rfl) T.X12.m T.X12.F.kp T.X12.B .nil ar_ (aa_ (ah_ (bB_ T) (hr.mono (by lia)) (by rfl) T.X8.m T.X8.F.kp T.X8.B .nil ar_ (aa_ (pv 0) (aa_ (pv 5) (aa_ ad_ ab_)))) (aa_ (pv 1) (aa_ (pv 5) ab_)))) ab_)))))
   (ae_ (ap_ (pv 4))))))), ?_⟩
   refine⟨_,rfl,_,rfl,v,t,rfl,hv,tl,fun H1 s1=>⟨_,_,rfl,rfl, ?_⟩⟩;unfold rbF at kk;refine⟨_,rfl,rfl,_,rfl,lB_ (fun e=> ?_) (fun e=> ?_)⟩
   .rw [A6 (show wt-wtF t=0 by lia)] at kk;refine⟨_,rfl,(by show 1<=sizeLine;decide),fun l H2 nl s2 hl=> ?_⟩;exact kk l H2 (s1.trans s2) (s1.free nl) (c8_ hl (ai_ (hv.mono (s1.trans s2)) am_))
   .have e:¬wt-wtF t=0:=by lia
    rw [A3 e] at kk;refine⟨AO _,fun fo H2 nfo s2 hfo=> ?_⟩;have s02:=s1.trans s2;have nfoH:H fo=none:=s1.free nfo;refine⟨_,rfl,_,rfl,_,_,rfl, .inr (hv.mono s02),_,rfl,_,_,rfl, ?_⟩;generalize hM:(if wt-wtF t<(((t.map D.i).length:Nat):Int) then wt-wtF t else(((t.map D.i).length:Nat):Int))=M;have eM:M<=5/\-2000<=M/\(M-(fi:Int)).toNat=min t.length (wt-wtF t).toNat-fi:=by
     rw [A1] at hM;subst hM;split<;>lia
    refine⟨_,_,rfl,⟨by lia,by lia,by lia,by lia⟩, ?_⟩;rw [eM.2.2];have len5:∀i,i<=5->((List.range i).flatMap fun j=>rbF n (wmF t (fi+j) 1) wt (fi+j)).length<=i*5^n:=by
     intro i;induction i with
     |zero=>intro _;exact AO _
     |succ i ih2=>
      intro hi;rw [Av,BE,AF,CT,BS,List.flatMap_nil,B8];have:=ih2 (by lia);have:=mq_ (n:=n) (wt:=wt) (row:=wmF t (fi+i) 1) (first:=fi+i) (by rw [c9_];exact tl);lia
    have p5:5^n<=5^7:=CO (by decide) (by lia);refine aY_ (lo:=(fi:Int)) (n:=min t.length (wt-wtF t).toNat-fi) (fun i σ H3=>(∃v5,σ=[some v,some (.int wt),some (.int fi),some (.int (wt-wtF t)),some (.ref fo),v5])/\ao_ H H3/\∃zs,H3 fo=some (.lst zs)/\Iss H3 (((List.range i).flatMap fun j=>rbF n (wmF t (fi+j) 1) wt (fi+j)).map tI) zs) ⟨⟨none,rfl⟩,s02,[],hfo,am_⟩ ?_ ?_
    .rintro i σ H3 hi ⟨⟨v5,rfl⟩,s3,zs,hfo3,hz⟩;have hp:fi+i<t.length:=by lia
     have ew:wtF (wmF t (fi+i) 1)=wtF t+(1+((fi+i:Nat):Int))*1:=jC_ hp;rw [show(fi:Int)+(i:Int)=((fi+i:Nat):Int) by lia];refine⟨_,rfl, .inl ⟨rfl,_,SqL.of hfo3⟩,_,rfl,_,rfl,v,t,fi+i,1,rfl,hv.mono s3,hp,tl,fun u H4 s4 hu=> ?_⟩;refine⟨_,rfl,_,rfl,u,wmF t (fi+i) 1,wt,fi+i,rfl,hu,oH_ hp tn (by have:=tn (fi+i);lia),by rw [c9_];exact tl,by rw [ew];lia,by lia,b1,b2,by rw [ew];lia,by rw [ew];lia,by lia,fun rl H5 s5 nrl hrl=> ?_⟩;obtain⟨_,rvs,e,hrl5,hri⟩:=cn_ hrl;cases e;have s35:=s4.trans s5;have hfo5:=s35 _ _ hfo3;have l1:=len5 (i+1) (by lia);have nx:((List.range (i+1)).flatMap fun j=>rbF n (wmF t (fi+j) 1) wt (fi+j))=((List.range i).flatMap fun j=>rbF n (wmF t (fi+j) 1) wt (fi+j))++rbF n (wmF t (fi+i) 1) wt (fi+i):=by
      rw [Av,BE,BS,List.flatMap_nil,B8]
     rw [nx] at l1⊢;rw [AF] at l1;have l5:(i+1)*5^n<=5*5^7:=Nat.mul_le_mul (by lia) p5;have d5:5*5^7=390625:=by decide
     have zl:=hz.length;have rl':=hri.length;rw [A1] at zl rl';generalize ((List.range i).flatMap fun j=>rbF n (wmF t (fi+j) 1) wt (fi+j))=R at hz l1 zl;generalize rbF n (wmF t (fi+i) 1) wt (fi+i)=R2 at hri l1 rl';refine⟨fo,rl,zs,rvs,rfl,rfl,hfo5,hrl5,Al (oN_ (by lia)),⟨_,rfl⟩,(s3.trans s35).put nfoH,_,ag_, ?_⟩;have tu:bI_ H5 (upd H5 fo (.lst (zs++rvs))):=bI_.upd hfo5;rw [AC];exact(eN_ tu (hz.mono s35)).append (eN_ tu hri)
    .rintro σ H3 ⟨⟨v5,rfl⟩,s3,zs,hfo3,hz⟩;exact⟨_,rfl,kk fo H3 s3 nfoH (c8_ hfo3 hz)⟩
theorem pb_ {a b:List Int} (h:Le a b):∀{i:Nat}{x y:Int},b[i]? =some x->a[i]? =some y->iF_ (b.take (i+1)) (a.take (i+1))=iF_ (b.take i) (a.take i)*chF x y.toNat:=by
 induction a generalizing b with
 |nil=>intro i x y _ hy;simp at hy
 |cons z a ih=>
  cases b with
  |nil=>exact h.elim
  |cons u b=>
   intro i x y hx hy;cases i with
   |zero=>
    have e1:u=x:=by simpa using hx
    have e2:z=y:=by simpa using hy
    subst e1 e2;simp [iF_]
   |succ i=>
    rw [Bf,Bf,Bf,Bf];show chF u z.toNat*iF_ (b.take (i+1)) (a.take (i+1))=chF u z.toNat*iF_ (b.take i) (a.take i)*_;rw [ih h.2.2 (by simpa using hx) (by simpa using hy),Int.mul_assoc]
theorem sV_ {a b:List Int} (h:Le a b):∀{i:Nat}{x y:Int},b[i]? =some x->a[i]? =some y->0<=y/\y<=x:=by
 induction a generalizing b with
 |nil=>intro i x y _ hy;simp at hy
 |cons z a ih=>
  cases b with
  |nil=>exact h.elim
  |cons u b=>
   intro i x y hx hy;cases i with
   |zero=>
    have e1:u=x:=by simpa using hx
    have e2:z=y:=by simpa using hy
    subst e1 e2;exact⟨h.1,h.2.1⟩
   |succ i=>exact ih h.2.2 (by simpa using hx) (by simpa using hy)
theorem iy_ {b:List Int}{i:Nat}{x:Int} (h:Nn b) (hx:b[i]? =some x):x<=b.sum:=by
 induction b generalizing i with
 |nil=>simp at hx
 |cons y b ih=>
  obtain⟨p,q⟩:=Nn.cons.mp h;have s0:=(cD_ (i:=1) (by decide) q).1;rw [Aj];cases i with
  |zero=>
   have e1:y=x:=by simpa using hx
   lia
  |succ i=>
   have:=ih q (by simpa using hx);lia
theorem fU_:FnOk P w K mg base CX0 2 T.f13 T.d13 ["row","chosen"] (ur_ K):=by
 refine T.X13.F.ok ch_ (fun vs H Q E h=> ?_) (fun cdv A outer s H vs Q E hr h=> ?_)
 .obtain⟨_,_,_,_,rfl,_⟩:=h;rfl
 .obtain⟨v1,v2,b,a,rfl,hv1,hv2,le,bs,kk⟩:=h;refine⟨_,(ac_ (aq_ (i:=2) ch_.nd rfl (by trivial) ad_)
   (ac_ (aA_ AN rfl (qA_ (by rfl) T.n_zip (aa_ (pv 0) (aa_ (pv 1) ab_))) (cj_ rfl (as_ (aj_ (i:=3) ch_.nd rfl (by trivial)) (as_ (aj_ (i:=4) ch_.nd rfl (by trivial)) bd_))) (ae_ (jW_ (i:=2) ch_.nd rfl (by trivial) (ah_ (fa_ T) (hr.mono (by decide)) (by rfl) T.X4.m T.X4.F.kp T.X4.B .nil ar_ (aa_ (pv 3) (aa_ (pv 4) ab_))) jo_)))
   (ae_ (ap_ (pv 2))))), ?_⟩
  obtain⟨ba,rfl,hb⟩:=cz_ hv1;obtain⟨aa,rfl,ha⟩:=cz_ hv2;have ll:=le.len;refine⟨_,rfl,_,rfl,ba,aa,rfl,⟨_,SqT.of hb⟩,⟨_,SqT.of ha⟩,o1_ (xs:=b.map V.int) (ys:=a.map V.int) (by rw [A1,A1,ll]) (fun i σ H2=>(∃v3 v4,σ=[some (.ref ba),some (.ref aa),some (.int (iF_ (b.take i) (a.take i))),v3,v4])/\ao_ H H2) ⟨⟨none,none,rfl⟩,ao_.refl _⟩ (fun i σ H2 _ h=>⟨SqT.of (h.2 _ _ hb),SqT.of (h.2 _ _ ha)⟩) ?_ ?_⟩
  .rintro i x y σ H2 p hx hy ⟨⟨v3,v4,rfl⟩,s2⟩ np;rw [A8] at hx hy;obtain⟨x,hx1,rfl⟩:=A5.mp hx;obtain⟨y,hy1,rfl⟩:=A5.mp hy;have hx:=hx1;have hy:=hy1;obtain⟨y0,yx⟩:=sV_ le hx hy;have x5:=iy_ (Le.nn le).2 hx;have s3:ao_ H2 (upd H2 p (.tup [.int x, .int y])):=ao_.new np;refine⟨p,_,rfl,SqT.of ag_,rfl,_,_,rfl,_,_,rfl,rfl, ?_⟩;obtain⟨c0,c1⟩:=pU_ y0 yx (by lia);have c2:(2:Int)^x.toNat<=2^5:=by
    have:x.toNat=0\/x.toNat=1\/x.toNat=2\/x.toNat=3\/x.toNat=4\/x.toNat=5:=by lia
    rcases this with e|e|e|e|e|e<;>rw [e]<;>decide
   have d5:(2:Int)^5=32:=by decide
   refine⟨_,rfl,_,rfl,_,rfl,x,y.toNat, ?_,by lia,by lia, ?_⟩
   .show [V.int x,V.int y]=[V.int x,V.int ((y.toNat:Nat):Int)];rw [show((y.toNat:Nat):Int)=y by lia]
   refine⟨_,_,rfl,rfl, .inr ⟨by lia,by lia⟩,⟨some (.int x),some (.int y), ?_⟩,s2.trans s3⟩;rw [pb_ le hx hy];rfl
  .rintro σ H2 ⟨⟨v3,v4,rfl⟩,s2⟩;rw [A1,AU,<-ll,AU];exact⟨_,rfl,kk H2 s2⟩
theorem lJ_:∀{a b:List Int},Le a b->∀{k:Int}{i:Nat}{x y:Int},a[i]? =some x->b[i]? =some y->wgG k (a.take (i+1)) (b.take (i+1))=wgG k (a.take i) (b.take i)++List.replicate (y-x).toNat (k+i)
 |[],_,_,k,i,x,y,hx,_=>by simp at hx
 |z::a,[],h,_,_,_,_,_,_=>h.elim
 |z::a,u::b,h,k,i,x,y,hx,hy=>by
  cases i with
  |zero=>
   have e1:z=x:=by simpa using hx
   have e2:u=y:=by simpa using hy
   subst e1 e2;simp [wgG]
  |succ i=>
   rw [Bf,Bf,Bf,Bf];show _++wgG (k+1) (a.take (i+1)) (b.take (i+1))=_++wgG (k+1) (a.take i) (b.take i)++_;rw [lJ_ h.2.2 (by simpa using hx) (by simpa using hy),BG,show k+1+(i:Int)=k+((i+1:Nat):Int) by lia]
theorem jl_:∀{a b:List Int} (i:Nat),Le a b->Le (a.take i) (b.take i)
 |[],[],i,_=>by rw [List.take_nil];exact trivial
 |x::a,y::b,0,_=>trivial
 |x::a,y::b,i+1,h=>⟨h.1,h.2.1,jl_ i h.2.2⟩
theorem d9_:FnOk P w K mg base CX0 1 T.f14 T.d14 ["row","fuller"] (t7_ K):=by
 refine T.X14.F.ok a8_ (fun vs H Q E h=> ?_) (fun cdv A outer s H vs Q E hr h=> ?_)
 .obtain⟨_,_,_,_,rfl,_⟩:=h;rfl
 .obtain⟨v1,v2,f,fr,rfl,hv1,hv2,le,fl5,fs5,kk⟩:=h;refine⟨_,(ac_ (aq_ (i:=2) a8_.nd rfl (by trivial) (au_ ab_))
   (ac_ (aA_ AN rfl (gv_ (by rfl) T.n_enumerate (pv 0)) (cj_ rfl (as_ (aj_ (i:=3) a8_.nd rfl (by trivial)) (as_ (aj_ (i:=4) a8_.nd rfl (by trivial)) bd_))) (ae_ (aH_ (d5_ Ap C9 C8 cW_ (pv 2) (aa_ (al_ e6_ (au_ (aa_ (al_ aC_ (pv 3) ad_) ab_)) (al_ aE_ (bg_ aN_ (pv 1) (pv 3) (fun _ _=>rfl)) (pv 4))) ab_)))))
   (ae_ (ap_ (pv 2))))), ?_⟩
  obtain⟨fa,rfl,hf⟩:=cz_ hv1;have ll:=le.len;refine⟨AO _,fun fo H1 nfo s1 hfo=> ?_⟩;refine⟨_,rfl,fa,rfl,⟨_,SqT.of (s1 _ _ hf)⟩,ic_ (xs:=f.map V.int) (fun i σ H2=>(∃v3 v4,σ=[some (.ref fa),some v2,some (.ref fo),v3,v4])/\ao_ H H2/\H2 fo=some (.lst ((wgG 1 (f.take i) (fr.take i)).map V.int))) ⟨⟨none,none,rfl⟩,s1,hfo⟩ (fun i σ H2 _ h=>SqT.of (h.2.1 _ _ hf)) ?_ ?_⟩
  .rintro i y σ H2 p hi ⟨⟨v3,v4,rfl⟩,s2,hfo2⟩ np;rw [A8] at hi;obtain⟨x,hx,rfl⟩:=A5.mp hi;have il:i<f.length:=(AD.mp hx).1;have s3:ao_ H2 (upd H2 p (.tup [.int i, .int x])):=ao_.new np;have hy:fr[i]? =some (fr.getD i 0):=by
    rw [AA,A4 (by lia)];rfl
   obtain⟨x0,xy⟩:=sV_ le hy hx;have y5:=iy_ (Le.nn le).2 hy;have lb:(wgG 1 (f.take i) (fr.take i)).length<=1000:=by
    have l1:=lK_ (k:=1) (jl_ i le);have l2:=(cD_ (i:=1) (by decide) (Le.nn (jl_ i le)).1).1;have l3:(fr.take i).sum<=fr.sum:=by
     have e:(fr.take i).sum+(fr.drop i).sum=fr.sum:=by rw [<-Bg,List.take_append_drop]
     have nd:Nn (fr.drop i):=fun j=>by
      rw [AA,List.getElem?_drop];have:=(Le.nn le).2 (i+j);rwa [AA] at this
     have:=(cD_ (i:=1) (by decide) nd).1;lia
    lia
   refine⟨p,_,rfl,SqT.of ag_,rfl,_,_,rfl,_,_,rfl,rfl, ?_⟩;have hfo3:=s3 _ _ hfo2;have s03:=s2.trans s3;generalize upd H2 p (.tup [.int i, .int x])=H3 at s3 hfo3 s03;refine⟨_,rfl, .inl ⟨rfl,_,SqL.of hfo3⟩,_,rfl,_,_,rfl,rfl,(by show 1<=sizeLine;decide),fun l1 H4 n1 s4 h1=> ?_⟩;refine⟨_,rfl,_,rfl,fr.map .i,(i:Int),_,(hv2.mono s03).mono s4,rfl,u6_ (by lia),fun u hu=> ?_⟩;rw [c4_ hu];refine⟨_,rfl,_,_,rfl,rfl, .i ((i:Int)+1),_,c8_ h1 (ai_ ex_ am_),rfl,by lia,by lia,Al (an_ (by lia)),fun l2 H5 n2 s5 h2=> ?_⟩;rw [<-Cc] at h2;obtain⟨_,e,hl2⟩:=fV_ h2;cases e;have hfo5:=s5 _ _ (s4 _ _ hfo3);refine⟨fo,l2,_,_,rfl,rfl,hfo5,hl2,Al (oN_ (by rw [A1,A1,BF];lia)),⟨_,_,rfl⟩,((s03.trans s4).trans s5).put nfo, ?_⟩;rw [ag_,lJ_ le hx hy,AC,Int.add_comm 1 (i:Int)]
  .rintro σ H2 ⟨⟨v3,v4,rfl⟩,s2,hfo2⟩;rw [A1,AU,ll,AU] at hfo2;exact⟨_,rfl,kk fo H2 s2 nfo (ia_ hfo2)⟩
theorem eu_:FnOk P w K mg base CX0 2 T.f15 T.d15 ["d","k","held","free"] (r9_ ln_):=by
 refine T.X15.F.ok aX_ (fun vs H Q E h=> ?_) (fun cdv A outer s H vs Q E hr h=> ?_)
 .obtain⟨_,_,_,_,rfl,_⟩:=h;rfl
 .obtain⟨v1,v2,q,L,rfl,hv1,hv2,aq,d2,kk⟩:=h;refine⟨_,(ac_ (aq_ (i:=4) aX_.nd rfl (by trivial) (au_ ab_))
   (ac_ (aA_ AN rfl (gv_ (by rfl) T.n_enumerate (pv 3)) (cj_ rfl (as_ (aj_ (i:=5) aX_.nd rfl (by trivial)) (as_ (aj_ (i:=6) aX_.nd rfl (by trivial)) bd_))) (ae_ (bl_ (ax_ mL_ (pv 6) ad_ (aI_ _)) (ac_ (aq_ (i:=7) aX_.nd rfl (by trivial) (aT_ (aa_ (pv 0) (aa_ (pv 1) (aa_ (ah_ (bB_ T) (hr.mono (by decide)) (by rfl) T.X8.m T.X8.F.kp T.X8.B .nil ar_ (aa_ (pv 2) (aa_ (pv 5) (aa_ ad_ ab_)))) (aa_ (ah_ (bB_ T) (hr.mono (by decide)) (by rfl) T.X8.m T.X8.F.kp T.X8.B .nil ar_ (aa_ (pv 3) (aa_ (pv 5) (aa_ (qC_ lR_ ad_) ab_)))) ab_))))))
   (ae_ (aH_ (d5_ Ap BW BV bC_ (pv 4) (aa_ (aT_ (aa_ ad_ (aa_ (au_ (aa_ (al_ aC_ (pv 5) ad_) ab_)) (aa_ (pv 7) ab_)))) ab_))))) aB_)))
   (ae_ (ap_ (pv 4))))), ?_⟩
  obtain⟨fa,rfl,hf⟩:=cz_ hv2;have hl:=aq.hl;have fl:=aq.fl;have L5:=aq.L5;refine⟨AO _,fun fo H1 nfo s1 hfo=> ?_⟩;refine⟨_,rfl,fa,rfl,⟨_,SqT.of (s1 _ _ hf)⟩,ic_ (xs:=q.f.map V.int) (fun i σ H2=>(∃v5 v6 v7,σ=[some (.int q.d),some (.int q.k),some v1,some (.ref fa),some (.ref fo),v5,v6,v7])/\ao_ H H2/\Acc H H2 fo (((List.range i).flatMap (nj_ q)).map smD)/\((List.range i).flatMap (nj_ q)).length<=i) ⟨⟨none,none,none,rfl⟩,s1,Acc.start hfo,A9 _⟩ (fun i σ H2 _ h=>SqT.of (h.2.1 _ _ hf)) ?_ ?_⟩
  .rintro i y σ H2 p hi ⟨⟨v5,v6,v7,rfl⟩,s2,⟨zs,hfo2,hz⟩,pl⟩ np;rw [A8] at hi;obtain⟨x,hx,rfl⟩:=A5.mp hi;have il:i<q.f.length:=(AD.mp hx).1;have ex:q.f.getD i 0=x:=by rw [AA,hx];rfl
   have s3:ao_ H2 (upd H2 p (.tup [.int i, .int x])):=ao_.new np;have nx:(List.range (i+1)).flatMap (nj_ q)=(List.range i).flatMap (nj_ q)++nj_ q i:=by
    rw [Av,BE,BS,List.flatMap_nil,B8]
   rw [nx];have zl:=hz.length;rw [A1] at zl;generalize (List.range i).flatMap (nj_ q)=R at hz pl zl;refine⟨p,_,rfl,SqT.of ag_,rfl,_,_,rfl,_,_,rfl,rfl, ?_⟩;generalize upd H2 p (.tup [.int i, .int x])=H3 at s3;have s03:=s2.trans s3;refine⟨_,rfl,_,_,rfl,rfl,_,rfl,g0_ (fun hg=> ?_) (fun hg=> ?_)⟩
   .have hg:x>0:=hg;unfold nj_;rw [ex,A6 hg];refine⟨_,rfl,_,rfl,_,rfl,_,rfl,v1,q.h,i,1,rfl,hv1.mono s03,by lia,by lia,fun u1 H4 s4 hu1=> ?_⟩;refine⟨_,rfl,_,rfl,1,rfl, .ref fa,q.f,i,-1,rfl,(hv2.mono s03).mono s4,il,by lia,fun u2 H5 s5 hu2=>⟨(by show 4<=sizeLine;decide),fun t6 H6 n6 s6 h6=> ?_⟩⟩;have hq6:Is H6 (qD ⟨q.d,q.k,wmF q.h i 1,wmF q.f i (-1)⟩) (.ref t6):=g1_ h6 (ai_ ex_ (ai_ ex_ (ai_ ((hu1.mono s5).mono s6) (ai_ (hu2.mono s6) am_))));have s26:=((s3.trans s4).trans s5).trans s6;refine⟨_,rfl, .inl ⟨rfl,_,SqL.of (s26 _ _ hfo2)⟩,_,rfl,_,_,rfl,rfl,(by show 1<=sizeLine;decide),fun l7 H7 n7 s7 h7=>⟨_,rfl,(by show 3<=sizeLine;decide),fun t8 H8 n8 s8 h8=> ?_⟩⟩;have s28:=(s26.trans s7).trans s8;refine⟨fo,zs,_,rfl,rfl,s28 _ _ hfo2,an_ (by lia),⟨_,_,_,rfl⟩,(s2.trans s28).put nfo, ?_,by rw [AF];show _+1<=_;lia⟩;rw [AC];refine Acc.add s2 s28 hfo2 hz ?_;refine g1_ (j0_ s28 h8) (ai_ ex_ (ai_ (pw_ (s26.free n7) (ia_ (t:=[(i:Int)+1]) (s8 _ _ h7))) (ai_ (ve_ (sM_ s28) ((hq6.mono s7).mono s8)) am_)))
   .have hg:¬x>0:=hg;unfold nj_;rw [ex,A3 hg,B8];exact⟨⟨_,_,_,rfl⟩,s03,Acc.mono s3 ⟨zs,hfo2,hz⟩,by lia⟩
  .rintro σ H2 ⟨⟨v5,v6,v7,rfl⟩,s2,hacc,_⟩;rw [A1] at hacc;exact⟨_,rfl,kk fo H2 s2 nfo (hacc.is nfo)⟩
theorem tu_ {n:Nat} (h:n<=12600000):n<sizeLine:=by rw [B0];lia
theorem no_ {q:Ask4} (hl:q.f.length<=5):∀(F:List (List Int)),(F.flatMap (nq_ q)).length<=F.length*390625
 |[]=>AO _
 |x::F=>by
  rw [BS,AF,AY,CT];have h1:=no_ hl F;have h2:=mq_ (n:=8) (wt:=q.d-1-wtF x) (row:=q.f) (first:=0) hl;have:(nq_ q x).length<=390625:=by unfold nq_;rw [A1];exact h2
  lia
theorem ck_:FnOk P w K mg base CX0 11 T.f16 T.d16 ["d","k","held","free"] (r9_ rJ_):=by
 refine T.X16.F.ok az_ (fun vs H Q E h=> ?_) (fun cdv A outer s H vs Q E hr h=> ?_)
 .obtain⟨_,_,_,_,rfl,_⟩:=h;rfl
 .obtain⟨v1,v2,q,L,rfl,hv1,hv2,aq,d2,kk⟩:=h;refine⟨_,(ac_ (aq_ (i:=4) az_.nd rfl (by trivial) (au_ ab_))
   (ac_ (aA_ AN rfl (aJ_ (ah_ (fD_ T) (hr.mono (by decide)) (by rfl) T.X11.m T.X11.F.kp T.X11.B .nil ar_ (aa_ (pv 2) ab_))) (aj_ (i:=5) az_.nd rfl (by trivial)) (ae_ (aA_ AN rfl (aJ_ (ah_ (dc_ T 8) (hr.mono (by decide)) (by rfl) T.X12.m T.X12.F.kp T.X12.B .nil ar_ (aa_ (pv 3) (aa_ (al_ aE_ (al_ aE_ (pv 0) ad_) (ah_ (dd_ T) (hr.mono (by decide)) (by rfl) T.X6.m T.X6.F.kp T.X6.B .nil ar_ (aa_ (pv 5) ab_))) (aa_ ad_ ab_))))) (aj_ (i:=6) az_.nd rfl (by trivial)) (ac_ (aq_ (i:=7) az_.nd rfl (by trivial) (aT_ (aa_ (al_ aE_ (pv 0) ad_) (aa_ (al_ aC_ (al_ aE_ (al_ aE_ (al_ aC_ (pv 1) (aF_ (ip_ rfl) (by rfl) T.n_sum boot_sum (aa_ (pv 6) ab_))) (aF_ (ip_ rfl) (by rfl) T.n_sum boot_sum (aa_ (pv 3) ab_))) (pv 0)) ad_) (aa_ (pv 5) (aa_ (pv 6) ab_))))))
   (ae_ (aH_ (d5_ Ap BW BV bC_ (pv 4) (aa_ (aT_ (aa_ (al_ ba_ (ah_ (fU_ T) (hr.mono (by decide)) (by rfl) T.X13.m T.X13.F.kp T.X13.B .nil ar_ (aa_ (pv 2) (aa_ (pv 5) ab_))) (ah_ (fU_ T) (hr.mono (by decide)) (by rfl) T.X13.m T.X13.F.kp T.X13.B .nil ar_ (aa_ (pv 6) (aa_ (pv 3) ab_)))) (aa_ (ah_ (d9_ T) (hr.mono (by decide)) (by rfl) T.X14.m T.X14.F.kp T.X14.B .nil ar_ (aa_ (pv 3) (aa_ (pv 6) ab_))) (aa_ (pv 7) ab_)))) ab_))))))))
   (ae_ (ap_ (pv 4))))), ?_⟩
  obtain⟨fa,rfl,hf⟩:=cz_ hv2;have hl:=aq.hl;have fl:=aq.fl;have L5:=aq.L5;have sm:=aq.sums;have dL:=aq.dL;have wq:=aq.wt;have wh:=cK_ (i:=1) (by decide) aq.hn;have wf:=cK_ (i:=1) (by decide) aq.fn;refine⟨AO _,fun fo H1 nfo s1 hfo=> ?_⟩;refine⟨_,rfl,v1,q.h,rfl,hv1.mono s1,aq.hn,by lia,by lia,fun kl H2 s2 nkl hkl=> ?_⟩;have s02:=s1.trans s2;obtain⟨_,kvs,e,hkl2,hki⟩:=cn_ hkl;cases e;have klen:kvs.length=(rwF q.h).length:=by rw [hki.length,A1]
  have k32:(rwF q.h).length<=32:=by have:=mf_ aq.hn (by lia) q.h.length;rwa [AU] at this
  have kfo:kl≠fo:=by rintro rfl;rw [hfo] at nkl;cases nkl
  unfold rJ_ at kk;refine⟨kl,rfl,⟨_,SqL.of hkl2⟩,aL_ (xs:=kvs) (fun i σ H3=>(∃v5 v6 v7,σ=[some (.int q.d),some (.int q.k),some v1,some (.ref fa),some (.ref fo),v5,v6,v7])/\ao_ H H3/\H3 kl=some (.lst kvs)/\bI_ H2 H3/\Acc H H3 fo ((((rwF q.h).take i).flatMap (nq_ q)).map smD)) ⟨⟨none,none,none,rfl⟩,s02,hkl2,bI_.of_same (ao_.refl _),(Acc.start hfo).mono s2⟩ (fun i σ H3 _ h=>SqL.of h.2.2.1) ?_ ?_⟩
  .rintro i y σ H3 hi ⟨⟨v5,v6,v7,rfl⟩,s3,hkl3,t3,⟨zs,hfo3,hz⟩⟩;obtain⟨dd,hdd,hy⟩:=hki.of_get hi;rw [A8] at hdd;obtain⟨kp,hkp,rfl⟩:=A5.mp hdd;have il:i<(rwF q.h).length:=(AD.mp hkp).1;have kmem:=AR hkp;have lk:=me_ aq.hn kmem;have wk0:=cK_ (i:=1) (by decide) (Le.nn lk).1;have wk1:=lk.wt (i:=1) (by decide);have nx:((rwF q.h).take (i+1)).flatMap (nq_ q)=((rwF q.h).take i).flatMap (nq_ q)++nq_ q kp:=by
    rw [AV,hkp,BE];simp
   have bnd:=no_ (q:=q) (by lia) ((rwF q.h).take (i+1));rw [nx] at bnd⊢;rw [AF,Az] at bnd;have zl:=hz.length;rw [A1] at zl;generalize ((rwF q.h).take i).flatMap (nq_ q)=R at hz bnd zl;have hy3:Is H3 (tI kp) y:=gc_ t3 hy;refine⟨_,rfl,_,rfl,_,_,rfl,rfl,_,rfl,y,kp,rfl,hy3,by have:=lk.len;lia,fun H4 s4=>⟨_,_,rfl,rfl, ?_⟩⟩;have s04:=s3.trans s4;unfold nq_ at bnd⊢;rw [A1] at bnd;have few:∀fr∈rbF 8 q.f (q.d-1-wtF kp) 0,AskOk L ⟨q.d-1,q.k+fr.sum-q.f.sum-q.d+1,kp,fr⟩/\6*(q.d-1)+fr.sum+1<=muF q/\Le kp q.h/\Le q.f fr/\fr.sum<=5:=fun fr hfr=>aq.few d2 kmem hfr;refine⟨.ref fa,q.f,q.d-1-wtF kp,0,rfl,hv2.mono s04,aq.fn,by lia,by unfold wtF at*;lia,by decide,by unfold wtF at*;lia,by unfold wtF at*;lia,by unfold wtF at*;lia,by unfold wtF at*;lia,by decide,fun rl H5 s5 nrl hrl=> ?_⟩;obtain⟨_,rvs,e,hrl5,hri⟩:=cn_ hrl;cases e;have rlen:rvs.length=(rbF 8 q.f (q.d-1-wtF kp) 0).length:=by rw [hri.length,A1]
   have s35:=s4.trans s5;have hfo5:=s35 _ _ hfo3;have rfo:rl≠fo:=by rintro rfl;rw [s4 _ _ hfo3] at nrl;cases nrl
   have rkl:kl≠rl:=by rintro rfl;rw [s4 _ _ hkl3] at nrl;cases nrl
   generalize rbF 8 q.f (q.d-1-wtF kp) 0=O at hri few rlen bnd;refine⟨rl,rfl,⟨_,SqL.of hrl5⟩,aL_ (xs:=rvs) (fun j σ H6=>(∃v6 v7,σ=[some (.int q.d),some (.int q.k),some v1,some (.ref fa),some (.ref fo),some y,v6,v7])/\ao_ H H6/\H6 kl=some (.lst kvs)/\H6 rl=some (.lst rvs)/\bI_ H5 H6/\Acc H H6 fo ((R++(O.take j).map (rK_ q kp)).map smD)) ⟨⟨_,_,rfl⟩,s3.trans s35,s35 _ _ hkl3,hrl5,bI_.of_same (ao_.refl _),by simpa using Acc.mono s35 ⟨zs,hfo3,hz⟩⟩ (fun j σ H6 _ h=>SqL.of h.2.2.2.1) ?_ ?_⟩
   .rintro j b σ H6 hj ⟨⟨v6,v7,rfl⟩,s6,hkl6,hrl6,t6,⟨ws,hfo6,hw⟩⟩;obtain⟨dd,hdd,hb⟩:=hri.of_get hj;rw [A8] at hdd;obtain⟨fr,hfr,rfl⟩:=A5.mp hdd;have jl:j<O.length:=(AD.mp hfr).1;obtain⟨f1,f2,f3,f4,f5⟩:=few fr (AR hfr);have hb6:Is H6 (tI fr) b:=gc_ t6 hb;have hy6:Is H6 (tI kp) y:=gc_ t6 (hy3.mono s35);have wl:=hw.length;rw [A1,AF,A1,Az] at wl;have nx2:(O.take (j+1)).map (rK_ q kp)=(O.take j).map (rK_ q kp)++[rK_ q kp fr]:=by
     rw [AV,hfr,AC];rfl
    rw [nx2,<-BG,AC];obtain⟨ba,rfl,hba⟩:=cz_ hb6;refine⟨_,rfl,_,_,rfl,rfl,_,rfl,_,rfl,ba,fr,rfl,SqT.of hba,_,_,rfl,rfl,_,rfl,fa,q.f,rfl,SqT.of (s6 _ _ hf),_,_,rfl,rfl,_,rfl,_,_,rfl,rfl,_,_,rfl,rfl,_,rfl,_,rfl,(by show 4<=sizeLine;decide),fun t7 H7 n7 s7 h7=> ?_⟩;have hq7:Is H7 (qD ⟨q.d-1,q.k+fr.sum-q.f.sum-q.d+1,kp,fr⟩) (.ref t7):=g1_ h7 (ai_ ex_ (ai_ ex_ (ai_ (hy6.mono s7) (ai_ (hb6.mono s7) am_))));have s07:=s6.trans s7;refine⟨_,rfl, .inl ⟨rfl,_,SqL.of (s7 _ _ hfo6)⟩,_,rfl,_,rfl,v1,y,q.h,kp,rfl,hv1.mono s07,hy6.mono s7,f3,by lia,fun H8 s8=> ?_⟩;refine⟨_,rfl,_,rfl, .ref ba, .ref fa,fr,q.f,rfl,(hb6.mono s7).mono s8,(hv2.mono s07).mono s8,f4,f5,fun H9 s9=> ?_⟩;have c1:=kN_ f3 (by lia);have c2:=kN_ f4 f5;refine⟨_,_,rfl,rfl, .inl ⟨by lia,by lia⟩,_,rfl,_,rfl, .ref fa, .ref ba,q.f,fr,rfl,((hv2.mono s07).mono s8).mono s9,((hb6.mono s7).mono s8).mono s9,f4,by have:=f4.len;lia,f5,fun l10 H10 s10 n10 h10=> ?_⟩;refine⟨_,rfl,(by show 3<=sizeLine;decide),fun t11 H11 n11 s11 h11=> ?_⟩;have s610:=((s7.trans s8).trans s9).trans s10;have s611:=s610.trans s11;have n10':H6 l10=none:=((s7.trans s8).trans s9).free n10;refine⟨fo,ws,_,rfl,rfl,s611 _ _ hfo6,tu_ (by lia),⟨_,_,rfl⟩,(s6.trans s611).put nfo,by rw [ak_ kfo];exact s611 _ _ hkl6,by rw [ak_ rfo];exact s611 _ _ hrl6,(t6.trans (bI_.of_same s611)).trans (bI_.upd (s611 _ _ hfo6)), ?_⟩;refine Acc.add s6 s611 hfo6 hw ?_;refine g1_ (j0_ s611 h11) (ai_ ex_ (ai_ (pw_ n10' (h10.mono s11)) (ai_ (ve_ (sM_ s611) ((((hq7.mono s8).mono s9).mono s10).mono s11)) am_)))
   .rintro σ H6 ⟨⟨v6,v7,rfl⟩,s6,hkl6,hrl6,t6,hacc⟩;rw [rlen,AU] at hacc;exact⟨⟨_,_,_,rfl⟩,s6,hkl6,(t3.trans (bI_.of_same s35)).trans t6,hacc⟩
  .rintro σ H3 ⟨⟨v5,v6,v7,rfl⟩,s3,hkl3,t3,hacc⟩;rw [klen,AU] at hacc;exact⟨_,rfl,kk fo H3 s3 nfo (hacc.is nfo)⟩
theorem l2_ {L:Nat}{q:Ask4} (a:AskOk L q):(ln_ q).length<=5/\(rJ_ q).length<=12500000:=by
 have h5:=a.L5;have fl:=a.fl;have k32:(rwF q.h).length<=32:=by have:=mf_ a.hn a.sums.2.1 q.h.length;rwa [AU] at this
 refine⟨?_,B2 (no_ (by lia) _) (by lia)⟩;unfold ln_;refine B2 (fo_ (m:=1) fun p _=> ?_) (by rw [B'];lia);unfold nj_;split<;>simp
theorem ja_:FnOk P w K mg base CX0 12 T.f17 T.d17 ["asked"] (ua_ K):=by
 refine T.X17.F.ok bR_ (fun vs H Q E h=> ?_) (fun cdv A outer s H vs Q E hr h=> ?_)
 .obtain⟨_,_,_,rfl,_⟩:=h;rfl
 .obtain⟨v,q,L,rfl,hv,aq,d2,kk⟩:=h;refine⟨_,(ac_ (aq_ (i:=1) bR_.nd rfl (by trivial) (bg_ aN_ (pv 0) ad_ (fun _ _=>rfl)))
   (ac_ (aq_ (i:=2) bR_.nd rfl (by trivial) (bg_ aN_ (pv 0) ad_ (fun _ _=>rfl)))
   (ac_ (aq_ (i:=3) bR_.nd rfl (by trivial) (bg_ aN_ (pv 0) ad_ (fun _ _=>rfl)))
   (ac_ (aq_ (i:=4) bR_.nd rfl (by trivial) (bg_ aN_ (pv 0) ad_ (fun _ _=>rfl)))
   (ae_ (ap_ (al_ pv_ (ah_ (eu_ T) (hr.mono (by decide)) (by rfl) T.X15.m T.X15.F.kp T.X15.B .nil ar_ (aa_ (pv 1) (aa_ (pv 2) (aa_ (pv 3) (aa_ (pv 4) ab_))))) (ah_ (ck_ T) (hr.mono (by decide)) (by rfl) T.X16.m T.X16.F.kp T.X16.B .nil ar_ (aa_ (pv 1) (aa_ (pv 2) (aa_ (pv 3) (aa_ (pv 4) ab_)))))))))))), ?_⟩
  refine⟨_,rfl,_,0,_,hv,rfl,rfl,fun u1 k1=> ?_⟩;rw [c4_ k1];refine⟨_,rfl,_,1,_,hv,rfl,rfl,fun u2 k2=> ?_⟩;rw [c4_ k2];refine⟨_,rfl,_,2,_,hv,rfl,rfl,fun u3 k3=> ?_⟩;refine⟨_,rfl,_,3,_,hv,rfl,rfl,fun u4 k4=> ?_⟩;refine⟨_,rfl,_,rfl,_,rfl,_,rfl,u3,u4,q,L,rfl,k3,k4,aq,d2,fun l1 H1 s1 n1 h1=> ?_⟩;refine⟨_,rfl,_,rfl,_,rfl,_,rfl,u3,u4,q,L,rfl,k3.mono s1,k4.mono s1,aq,d2,fun l2 H2 s2 n2 h2=> ?_⟩;obtain⟨_,xs,e,g1,i1⟩:=cn_ h1;cases e;obtain⟨_,zs,e,g2,i2⟩:=cn_ h2;cases e;have hl1:H2 l1=some (.lst xs):=s2 _ _ (bn_ _ _ g1);have hl2:H2 l2=some (.lst zs):=bn_ _ _ g2;have sl:=l2_ aq;have xl:=i1.length;have zl:=i2.length;rw [A1] at xl zl;refine⟨l1,l2,xs,zs,rfl,rfl,hl1,hl2,Al (tu_ (by lia)),fun p np=> ?_⟩;have s3:ao_ H2 (upd H2 p (.lst (xs++zs))):=ao_.new np;have hp:upd H2 p (.lst (xs++zs)) p=some (.lst (xs++zs)):=ag_;generalize upd H2 p (.lst (xs++zs))=H3 at s3 hp;have npH:H p=none:=(s1.trans s2).free np;refine kk p H3 ((s1.trans s2).trans s3) npH (c8_ (by rw [cV_ npH];exact hp) ?_);unfold fz_;rw [AC];exact(i1.mono (du_ (s2.trans s3))).append ((i2.mono (gH_ s1)).mono (du_ s3))
theorem fT_:∀n:Nat,FnOk P w K mg base CX0 (n+13) T.f18 T.d18 ["asked","known"] (uq_ P w n)
 |0=>⟨fun vs H Q E h=>(by obtain⟨_,_,_,_,_,_,_,a,h,_⟩:=h;have:=a.mu;lia),fun A outer s H args us vs Q E _ _ _ _ h=>(by obtain⟨_,_,_,_,_,_,_,a,h,_⟩:=h;have:=a.mu;lia)⟩
 |n+1=>by
  have ih:=fT_ n;refine T.X18.F.ok bQ_ (fun vs H Q E h=> ?_) (fun cdv A outer s H vs Q E hr h=> ?_)
  .obtain⟨_,_,_,_,_,rfl,_⟩:=h;rfl
  .obtain⟨v,kn,q,L,R,rfl,hv,aq,hn,hD,hK,kk⟩:=h;refine⟨_,(ac_ (bl_ (ax_ i7_ (bg_ aN_ (pv 0) ad_ (fun _ _=>rfl)) ad_ (aI_ _)) (ae_ (ap_ ad_)) aB_)
   (ac_ (bl_ (ax_ et_ (bg_ aN_ (pv 0) ad_ (fun _ _=>rfl)) ad_ (aI_ _)) (ae_ (ap_ (ou_ (ax_ et_ (bg_ aN_ (pv 0) ad_ (fun _ _=>rfl)) ad_ (aI_ _)) ad_ ad_))) aB_)
   (ac_ (bl_ (sr_ (mE_ (ng_ hr) (pv 0) (pv 1)) rfl) (ac_ (aq_ (i:=2) bQ_.nd rfl (by trivial) ad_)
   (ac_ (aA_ AN rfl (aJ_ (ah_ (ja_ T) (hr.mono (by lia)) (by rfl) T.X17.m T.X17.F.kp T.X17.B .nil ar_ (aa_ (pv 0) ab_))) (cj_ rfl (as_ (aj_ (i:=3) bQ_.nd rfl (by trivial)) (as_ (aj_ (i:=4) bQ_.nd rfl (by trivial)) (as_ (aj_ (i:=5) bQ_.nd rfl (by trivial)) bd_)))) (ae_ (jW_ (i:=2) bQ_.nd rfl (by trivial) (al_ ba_ (al_ ba_ (pv 3) (ah_ (gD_ T) (hr.mono (by lia)) (by rfl) T.X9.m T.X9.F.kp T.X9.B .nil ar_ (aa_ (pv 4) ab_))) (ah_ ih hr (by rfl) T.X18.m T.X18.F.kp T.X18.B .nil ar_ (aa_ (pv 5) (aa_ (pv 1) ab_)))) pE_)))
   (ae_ (qv_ (ng_ hr) (pv 1) (pv 0) (pv 2) rfl)))) aB_)
   (ae_ (ap_ (qH_ (ng_ hr) (pv 1) (pv 0) (fun _ _=>rfl))))))), ?_⟩
   refine⟨_,rfl,_,1,_,hv,rfl,rfl,fun u1 k1=> ?_⟩;rw [c4_ k1];refine⟨_,_,rfl,rfl,_,rfl,g0_ (fun hz=> ?_) (fun hz=> ?_)⟩
   .have hz:q.k<0:=hz;rw [tr_ hz] at kk;exact kk R H (But.of_same (ao_.refl _)) hD hK
   have hz:¬q.k<0:=hz;refine⟨_,rfl,_,0,_,hv,rfl,rfl,fun u2 k2=> ?_⟩;rw [c4_ k2];refine⟨rfl,_,rfl,lB_ (fun h1=> ?_) (fun h1=> ?_)⟩
   .rw [tq_ hz h1] at kk;refine⟨_,rfl,_,1,_,hv,rfl,rfl,fun u3 k3=> ?_⟩;rw [c4_ k3];refine⟨rfl,_,rfl,lB_ (fun h2=> ?_) (fun h2=> ?_)⟩
    .rw [A6 h2] at kk;exact kk R H (But.of_same (ao_.refl _)) hD hK
    .rw [A3 h2] at kk;exact kk R H (But.of_same (ao_.refl _)) hD hK
   have d2:2<=q.d:=by have:=aq.d1;lia
   have hk:=q7_ hv;refine⟨_,rfl,_,rfl,kn,tK R,kq q,rfl,hD,hk,_,rfl, ?_⟩;rw [jM_];by_cases hin:kq q∈R.map (·.1)
   .rw [A6 hin];exact h8_ ⟨_,rfl,_,rfl,kn,tK R,kq q, .int (cF q),rfl,hD,hk,by rw [jM_,A6 hin,hK.get hin],kk R H (But.of_same (ao_.refl _)) hD hK⟩
   .rw [A3 hin];refine oT_ ?_;refine⟨_,rfl,v,q,L,rfl,hv,aq,d2,fun l0 H2 s2 nl0 hl0=> ?_⟩;have hS:∀x∈fz_ q,AskOk L x.2.2/\muF x.2.2+1<=muF q/\(0<=x.1/\x.1<=1024)/\(∀w∈x.2.1,1<=w/\w<=5)/\x.2.1.length<=5:=fun x hx=>⟨(aq.less d2 hx).1,(aq.less d2 hx).2,od_ aq d2 hx⟩;have hW:=tp_ aq hz h1;generalize fz_ q=S at hS hW hl0;obtain⟨_,lvs,e,hl0',hli'⟩:=cn_ hl0;cases e;have hl2:H2 l0=some (.lst lvs):=bn_ _ _ hl0';have hli:Iss H2 (S.map smD) lvs:=hli'.mono bn_;have llen:lvs.length=S.length:=by rw [hli.length,A1]
    have hD2:=hD.mono s2;have l0kn:l0≠kn:=by
     obtain⟨_,_,xs,_,e⟩:=hD;rintro rfl;rw [e] at nl0;cases nl0
    refine⟨l0,rfl,⟨_,SqL.of hl2⟩,aL_ (xs:=lvs) (fun i σ H3=>(∃v3 v4 v5,σ=[some v,some (.ref kn),some (.int (((S.take i).map fun x=>x.1*iE_ x.2.1*cF x.2.2).sum)),v3,v4,v5])/\But kn H2 H3/\∃R',DM P w H3 kn (tK R')/\KnQ L R') ⟨⟨none,none,none,rfl⟩,But.of_same (ao_.refl _),R,hD2,hK⟩ (fun i σ H3 _ h=>SqL.of (h.2.1 _ _ hl2 l0kn)) ?_ ?_⟩
    .rintro i y σ H3 hi ⟨⟨v3,v4,v5,rfl⟩,but3,R3,hD3,hK3⟩;obtain⟨dd,hdd,hy⟩:=hli.of_get hi;rw [A8] at hdd;obtain⟨x,hx',rfl⟩:=A5.mp hdd;obtain⟨x1,x2,x3,x4,x5⟩:=hS x (AR hx');have hx3:Is H3 (smD x) y:=hy.lts (gM_ hD2 but3);obtain⟨t,tvs,rfl,ht,hti⟩:=hj_ hx3;obtain⟨u1,us,rfl,hu1,hti⟩:=ay_ hti;obtain⟨u2,us,rfl,hu2,hti⟩:=ay_ hti;obtain⟨u3,us,rfl,hu3,hti⟩:=ay_ hti;rw [bm_ hti,c4_ hu1] at ht;obtain⟨p0,p1⟩:=mw_ x4;have p2:(5:Int)^x.2.1.length<=3125:=by
      have:x.2.1.length=0\/x.2.1.length=1\/x.2.1.length=2\/x.2.1.length=3\/x.2.1.length=4\/x.2.1.length=5:=by lia
      rcases this with e|e|e|e|e|e<;>rw [e]<;>decide
     have m0:=Bv x3.1 p0;have m1:=CS x3.2 (Int.le_trans p1 p2) p0 (by decide);refine⟨t,_,rfl,SqT.of ht,rfl,_,_,rfl,_,_,rfl,_,_,rfl,rfl, ?_⟩;refine⟨_,rfl,_,rfl,_,rfl,u2,x.2.1,rfl,hu2,x4,_,_,rfl,rfl, .inl ⟨by lia,by lia⟩,_,rfl,_,rfl,u3,kn,x.2.2,L,R3,rfl,hu3,x1,by lia,hD3,hK3,fun R4 H4 but4 hD4 hK4=> ?_⟩;refine⟨_,_,rfl,rfl, .inl ⟨by lia,by lia⟩,_,_,rfl,rfl,⟨some (.int x.1),some u2,some u3, ?_⟩,but3.trans but4,R4,hD4,hK4⟩;rw [AV,hx',AC,Bg];simp
    .rintro σ H3 ⟨⟨v3,v4,v5,rfl⟩,but3,R3,hD3,hK3⟩;rw [llen,AU,<-hW];have but03:But kn H H3:=(But.of_same s2).trans but3;have hv3:Is H3 (qD q) v:=(hv.mono s2).lts (gM_ hD2 but3);have hl3:=hK3.len aq.L5;refine⟨_,rfl,_,rfl,_,rfl,kn,tK R3,kq q,rfl,hD3,q7_ hv3,by rw [r0_,B0];lia,fun H4 hD4 k4=> ?_⟩;rw [pk_ hK3.1] at hD4;have but4:But kn H3 H4:=fun c o e n=>by rw [k4 c n];exact e
     have hv4:=hv3.lts (gM_ hD3 but4);obtain⟨g1,g2⟩:=kw_ (k:=kq q) (v:=cF q) (R:=R3);exact⟨_,rfl,_,rfl,kn,_,kq q, .int (cF q),rfl,hD4,q7_ hv4,by rw [jM_,A6 g2,g1],kk _ H4 (but03.trans but4) hD4 (hK3.put aq (by lia))⟩
theorem pt_ {a:List Int}{n:Nat} (h:Nn a) (hl:a.length<=n):(gz_ n a).length=n/\Nn (gz_ n a)/\wtF (gz_ n a)=wtF a:=by
 have nr:∀(m:Nat) {t:List Int},Nn t->Nn (t++List.replicate m 0):=fun m=>by
  induction m with
  |zero=>intro t h;simpa using h
  |succ m ih=>intro t h;rw [List.replicate_succ',<-BG];exact qR_ (ih h) (by decide)
 refine⟨?_,nr _ h,rP_⟩;unfold gz_;rw [AF,BF];lia
theorem tv_ {d k:Nat}{a b:List Int} (hw:Wide d k) (ra:fK_ a) (rb:fK_ b) (e:wtF a+wtF b=d) (la:a.length<=d) (lb:b.length<=d):AskOk d ⟨d,k,gz_ d a,gz_ d b⟩:=by
 obtain⟨a1,a2,a3⟩:=pt_ ra.1 la;obtain⟨b1,b2,b3⟩:=pt_ rb.1 lb;unfold Wide at hw;exact⟨a1,b1,a2,b2,by rw [a3,b3];exact e,by show(1:Int)<=(d:Int);lia,Cg _,by lia,by show(k:Int)<=6;lia⟩
theorem je_:FnOk P w K mg base CX0 4 T.f19 T.d19 ["d","k","held","free"] (uu_ K):=by
 refine T.X19.F.ok iV_ (fun vs H Q E h=> ?_) (fun cdv A outer s H vs Q E hr h=> ?_)
 .obtain⟨_,_,_,_,_,_,rfl,_⟩:=h;rfl
 .obtain⟨d,k,v1,v2,a,b,rfl,hw,h1,h2,ra,rb,e,la,lb,kk⟩:=h;refine⟨_,(ac_ (aH_ (ah_ (cy_ T) (hr.mono (by decide)) (by rfl) T.X2.m T.X2.F.kp T.X2.B .nil ar_ (aa_ (pv 0) (aa_ (pv 1) ab_))))
   (ac_ (aH_ (ah_ (hI_ T) (hr.mono (by decide)) (by rfl) T.X7.m T.X7.F.kp T.X7.B .nil ar_ (aa_ (pv 0) (aa_ (pv 2) (aa_ (pv 3) ab_)))))
   (ae_ (ap_ (aT_ (aa_ (pv 0) (aa_ (pv 1) (aa_ (ah_ (eo_ T) (hr.mono (by decide)) (by rfl) T.X10.m T.X10.F.kp T.X10.B .nil ar_ (aa_ (pv 2) (aa_ (pv 0) ab_))) (aa_ (ah_ (eo_ T) (hr.mono (by decide)) (by rfl) T.X10.m T.X10.F.kp T.X10.B .nil ar_ (aa_ (pv 3) (aa_ (pv 0) ab_))) ab_))))))))), ?_⟩
  have d5:d<=5:=by unfold Wide at hw;lia
  refine⟨_,rfl,_,rfl,d,k,rfl,hw, ?_⟩;refine⟨_,rfl,_,rfl,_,rfl,d,v1,v2,a,b,rfl,h1,h2,ra,rb,e,fun H1 s1=> ?_⟩;refine⟨_,rfl,_,rfl,_,rfl,_,rfl,v1,a,d,rfl,h1.mono s1,la,d5,fun u1 H2 s2 hu1=> ?_⟩;refine⟨_,rfl,_,rfl,v2,b,d,rfl,(h2.mono s1).mono s2,lb,d5,fun u2 H3 s3 hu2=> ?_⟩;refine⟨(by show 4<=sizeLine;decide),fun t H4 nt s4 ht=>kk _ H4 (((s1.trans s2).trans s3).trans s4) ?_⟩;exact g1_ ht (ai_ ex_ (ai_ ex_ (ai_ ((hu1.mono s3).mono s4) (ai_ (hu2.mono s4) am_))))
theorem lf_:FnOk P w K mg base CX0 54 T.f20 T.d20 ["d","k","held","free"] (ut_ K):=by
 refine T.X20.F.ok k6_ (fun vs H Q E h=> ?_) (fun cdv A outer s H vs Q E hr h=> ?_)
 .obtain⟨_,_,_,_,_,_,rfl,_⟩:=h;rfl
 .obtain⟨d,k,v1,v2,a,b,rfl,hw,h1,h2,ra,rb,e,la,lb,kk⟩:=h;refine⟨_,(ae_ (ap_ (ah_ (fT_ T 40) (hr.mono (by decide)) (by rfl) T.X18.m T.X18.F.kp T.X18.B .nil ar_ (aa_ (ah_ (je_ T) (hr.mono (by decide)) (by rfl) T.X19.m T.X19.F.kp T.X19.B .nil ar_ (aa_ (pv 0) (aa_ (pv 1) (aa_ (pv 2) (aa_ (pv 3) ab_))))) (aa_ qG_ ab_))))), ?_⟩;have aq:=tv_ hw ra rb e la lb;refine⟨_,rfl,_,rfl,_,rfl,_,rfl,d,k,v1,v2,a,b,rfl,hw,h1,h2,ra,rb,e,la,lb,fun u H1 s1 hu=> ?_⟩;intro kn H2 nkn hD k2;have s2:ao_ H1 H2:=fun b o e=>by rw [k2 b (by rintro rfl;rw [nkn] at e;cases e)];exact e
  have nknH:H kn=none:=s1.free nkn;refine⟨u,kn,_,d,[],rfl,hu.mono s2,aq,by have:=aq.mu;lia,hD,⟨by simp,fun x hx=>nomatch hx⟩,fun R' H3 but3 hD3 hK3=>kk H3 ?_⟩;exact But.same (s1.trans s2) nknH but3
theorem hn_ {xs:List (List Int)}{j:Nat}{x r:List Int} (h:xs[j]? =some x):r∈xs.take (j+1)↔r∈xs.take j\/r=x:=by
 rw [AV,h,BK];simp
theorem hL_:FnOk P w K mg base CX0 1 T.f24 T.d24 ["table","greatest"] (vE_ K):=by
 refine T.X24.F.ok bf_ (fun vs H Q E h=> ?_) (fun cdv A outer s H vs Q E hr h=> ?_)
 .obtain⟨_,_,_,_,_,_,rfl,_⟩:=h;rfl
 .obtain⟨v,q,n,g,F,L,rfl,hv,hL1,hL2,hq,hgn,kk⟩:=h;refine⟨_,(ac_ (aq_ (i:=2) bf_.nd rfl (by trivial) eB_)
   (ac_ (aA_ AN rfl (bT_ (by rfl) T.n_range (aa_ ad_ (aa_ (al_ aC_ (pv 1) ad_) ab_))) (aj_ (i:=3) bf_.nd rfl (by trivial)) (ae_ (ds_ (bP_ hr) (pv 2) (pv 3) eB_ rfl)))
   (ac_ (aA_ AN rfl (aJ_ (pv 0)) (cj_ rfl (as_ (aj_ (i:=3) bf_.nd rfl (by trivial)) (as_ (aj_ (i:=4) bf_.nd rfl (by trivial)) (as_ (aj_ (i:=5) bf_.nd rfl (by trivial)) bd_)))) (ae_ (bl_ (ax_ mK_ (pv 3) (pv 1) (aI_ _)) (ae_ (ds_ (bP_ hr) (bu_ (bP_ hr) (pv 2) (pv 3) (fun _ _=>rfl)) (pv 4) (pv 5) rfl)) aB_)))
   (ae_ (ap_ (pv 2)))))), ?_⟩
  obtain⟨la,lvs,rfl,hla,hli⟩:=cn_ hv;have llen:lvs.length=L.length:=by rw [hli.length,A1]
  have hn4:=hq.2.2;refine fun f nf=>⟨_,rfl,_,_,rfl,rfl,1,_,rfl,⟨by decide,by decide,by lia,by lia⟩, ?_⟩;rw [show((g:Int)+1-1).toNat=g by lia];refine aY_ (lo:=1) (n:=g) (fun i σ H2=>(∃v3 v4 v5,σ=[some (.ref la),some (.int g),some (.ref f),v3,v4,v5])/\ao_ H H2/\∃b:Nat->Addr,H2 f=some (.dK (cx_ b i))/\(∀d,1<=d->d<=i->H2 (b d)=some (.dK (dI []))/\H (b d)=none/\b d≠f)/\∀d e,1<=d->d<=i->1<=e->e<=i->b d=b e->d=e) ⟨⟨none,none,none,rfl⟩,ao_.new nf,fun _=>f,ag_,fun d h1 h2=>absurd h1 (by lia),fun d e h1 h2=>absurd h1 (by lia)⟩ ?_ ?_
  .rintro i σ H2 hi ⟨⟨v3,v4,v5,rfl⟩,s2,b,hf,hb,inj⟩;rw [show(1:Int)+(i:Int)=((i+1:Nat):Int) by lia];refine fun p np=> ?_;have pf:f≠p:=by rintro rfl;rw [hf] at np;cases np
   have pb:∀d,1<=d->d<=i->b d≠p:=fun d h1 h2 e=>by rw [<-e,(hb d h1 h2).1] at np;cases np
   refine⟨_,rfl,_,rfl,f,_,rfl,kR_.k (H:=upd H2 p (.dK [])) (kvs:=cx_ b i) (k:= .inl ((i+1:Nat):Int)) (by rw [ak_ pf];exact hf) ?_, ?_⟩
   .rw [eD_];exact an_ (by lia)
   rw [jY_];refine⟨⟨_,_,_,rfl⟩,(s2.trans (ao_.new np)).put nf,_,ag_,fun d h1 h2=> ?_,fun d e h1 h2 h3 h4 h5=> ?_⟩
   .by_cases e:d=i+1
    .rw [A6 e,ak_ (BM pf),ag_];exact⟨rfl,s2.free np,BM pf⟩
    .obtain⟨b1,b2,b3⟩:=hb d h1 (by lia);rw [A3 e,ak_ b3,ak_ (pb d h1 (by lia))];exact⟨b1,b2,b3⟩
   .by_cases e1:d=i+1
    .by_cases e2:e=i+1
     .lia
     .rw [A6 e1,A3 e2] at h5;exact absurd h5.symm (pb e h3 (by lia))
    .by_cases e2:e=i+1
     .rw [A3 e1,A6 e2] at h5;exact absurd h5 (pb d h1 (by lia))
     .rw [A3 e1,A3 e2] at h5;exact inj d e h1 (by lia) h3 (by lia) h5
  .rintro σ H2 ⟨⟨v3,v4,v5,rfl⟩,s2,b,hf,hb,inj⟩;refine⟨_,rfl,la,rfl,⟨_,SqL.of (s2 _ _ hla)⟩,aL_ (xs:=lvs) (fun j σ H3=>(∃v3 v4 v5,σ=[some (.ref la),some (.int g),some (.ref f),v3,v4,v5])/\ao_ H H3/\H3 f=some (.dK (cx_ b g))/\∃X:Nat->List (Nat×Int),∀d,1<=d->d<=g->H3 (b d)=some (.dK (dI (X d)))/\b1_ (q*d) (X d)/\∀s,vF (X d) s=if e0_ d s (F d s)∈L.take j then F d s else 0) ⟨⟨_,_,_,rfl⟩,s2,hf,fun _=>[],fun d h1 h2=>⟨(hb d h1 h2).1,b1_.nil _,fun s=>by simp [vF]⟩⟩ (fun j σ H3 _ h=>SqL.of (h.2.1 _ _ hla)) ?_ ?_⟩
   .rintro j y σ H3 hj ⟨⟨v3,v4,v5,rfl⟩,s3,hf3,X,hX⟩;obtain⟨dd,hdd,hy⟩:=hli.of_get hj;rw [A8] at hdd;obtain⟨r,hr',rfl⟩:=A5.mp hdd;obtain⟨d,s,rfl,d1,dg,s1,sq⟩:=hL1 _ (AR hr');have dn:d<=n:=by lia
    obtain⟨ya,rfl,hya⟩:=cz_ hy;obtain⟨x1,x2,x3⟩:=hX d d1 dg;refine⟨ya,_,rfl,SqT.of (s3 _ _ hya),rfl,_,_,rfl,_,_,rfl,_,_,rfl,rfl, ?_⟩;refine⟨_,rfl,_,rfl,_,_,rfl,rfl,_,rfl,g0_ (fun _=> ?_) (fun c=>absurd c (by lia))⟩;refine⟨_,rfl,_,rfl,_,rfl,f, .ref (b d),rfl,d8_ (.inl hf3) d1 dg,_,rfl,b d,_,rfl,kR_.k (k:= .inl (s:Int)) x1 ?_, ?_⟩
    .rw [kI_];have:=x2.len;have:=hq.le dn;exact an_ (by lia)
    rw [pP_];refine⟨⟨_,_,_,rfl⟩,s3.put (hb d d1 dg).2.1,by rw [ak_ (BM (hb d d1 dg).2.2)];exact hf3,fun e=>if e=d then nT_ (X d) s (F d s) else X e,fun e e1 eg=> ?_⟩;by_cases ed:e=d
    .subst ed;dsimp only;rw [A6 rfl];refine⟨ag_,x2.put s1 sq,fun s'=> ?_⟩;rw [ph_];by_cases es:s'=s
     .subst es;rw [A6 rfl,A6 ((hn_ hr').mpr (.inr rfl))]
     .rw [A3 es,x3];by_cases hm:e0_ e s' (F e s')∈L.take j
      .rw [A6 hm,A6 ((hn_ hr').mpr (.inl hm))]
      .rw [A3 hm,A3 fun z=>((hn_ hr').mp z).elim hm fun z=>es (gp_ z).2.1]
    .obtain⟨y1,y2,y3⟩:=hX e e1 eg;dsimp only;rw [A3 ed,ak_ fun z=>ed (inj e d e1 eg d1 dg z)];refine⟨y1,y2,fun s'=> ?_⟩;rw [y3];by_cases hm:e0_ e s' (F e s')∈L.take j
     .rw [A6 hm,A6 ((hn_ hr').mpr (.inl hm))]
     .rw [A3 hm,A3 fun z=>((hn_ hr').mp z).elim hm fun z=>ed (gp_ z).1]
   .rintro σ H3 ⟨⟨v3,v4,v5,rfl⟩,s3,hf3,X,hX⟩;refine⟨_,rfl,kk f b X H3 s3 ⟨.inl hf3,fun d h1 h2=>⟨.inl (hX d h1 h2).1,(hX d h1 h2).2.1⟩⟩ ?_⟩
    funext d s
    unfold hg_;by_cases hd:1<=d/\d<=g
    .rw [A6 hd,(hX d hd.1 hd.2).2.2 s,llen,AU];by_cases e:F d s=0
     .rw [e];split<;>rfl
     .rw [A6 (hL2 d s e)]
    .rw [A3 hd];refine C2 fun e=> ?_;obtain⟨d',s',er,d1,dg,_⟩:=hL1 _ (hL2 d s (BM e));obtain⟨rfl,_⟩:=gp_ er;exact hd ⟨d1,dg⟩
theorem cm_:FnOk P w K mg base CX0 1 T.f21 T.d21 ["d","k"] (vz_ K):=by
 refine T.X21.F.ok dV_ (fun vs H Q E h=> ?_) (fun cdv A outer s H vs Q E hr h=> ?_)
 .obtain⟨_,_,rfl,_⟩:=h;rfl
 .obtain⟨d,k,rfl,d1,d5,kk⟩:=h;refine⟨_,(ae_ (ap_ (al_ aE_ (al_ e7_ (al_ ba_ (pv 0) (al_ aC_ (pv 0) ad_)) ad_) (pv 1)))), ?_⟩;rw [<-uD_ d5] at kk;exact⟨_,rfl,_,rfl,_,_,rfl,rfl,_,_,rfl,rfl, .inr ⟨by lia,by lia⟩,_,_,rfl,rfl,⟨by decide,by decide⟩,_,rfl,_,_,rfl,rfl,kk⟩
theorem ep_:FnOk P w K mg base CX0 55 T.f22 T.d22 ["d","k"] (vD_ K):=by
 refine T.X22.F.ok hy_ (fun vs H Q E h=> ?_) (fun cdv A outer s H vs Q E hr h=> ?_)
 .obtain⟨_,_,rfl,_⟩:=h;rfl
 .obtain⟨d,k,rfl,hW,kk⟩:=h;refine⟨_,(ae_ (ap_ (aT_ (aa_ (pv 0) (aa_ (ah_ (cm_ T) (hr.mono (by decide)) (by rfl) T.X21.m T.X21.F.kp T.X21.B .nil ar_ (aa_ (pv 0) (aa_ (pv 1) ab_))) (aa_ (ah_ (lf_ T) (hr.mono (by decide)) (by rfl) T.X20.m T.X20.F.kp T.X20.B .nil ar_ (aa_ (pv 0) (aa_ (pv 1) (aa_ (au_ ab_) (aa_ (au_ (aa_ (pv 0) ab_)) ab_))))) ab_)))))), ?_⟩;have d1:1<=d:=hW.1;have d5:d<=5:=by unfold Wide at hW;lia
  refine⟨_,rfl,_,rfl,_,rfl,d,k,rfl,d1,by lia,_,rfl,_,rfl,AO _,fun l1 H1 n1 s1 h1=>⟨_,rfl,(by show 1<=sizeLine;decide),fun l2 H2 n2 s2 h2=> ?_⟩⟩;have r1:Is H2 (rwL []) (.ref l1):=ia_ (s2 _ _ h1);have r2:Is H2 (rwL [(d:Int)]) (.ref l2):=ia_ h2;have ro:fK_ [(d:Int)]:=⟨fun i=>by cases i<;>simp,by simp, .inr ⟨[],d,rfl,by lia⟩⟩
  refine⟨d,k,_,_,[],[(d:Int)],rfl,hW,r1,r2,⟨fun i=>by simp,by simp, .inl rfl⟩,ro,by simp [wtF,wtG],by simp,by simpa using d1,fun H3 s3=> ?_⟩;rw [u4_ hW];exact⟨(by show 3<=sizeLine;decide),fun t H4 n4 s4 h4=>kk _ H4 (((s1.trans s2).trans s3).trans s4) (h9_ h4)⟩
theorem gC_:FnOk P w K mg base CX0 56 T.f23 T.d23 ["d"] (vy_ K):=by
 refine T.X23.F.ok bJ_ (fun vs H Q E h=> ?_) (fun cdv A outer s H vs Q E hr h=> ?_)
 .obtain⟨_,rfl,_⟩:=h;rfl
 .obtain⟨d,rfl,d4,kk⟩:=h;refine⟨_,(ac_ (aq_ (i:=1) bJ_.nd rfl (by trivial) (au_ ab_))
   (ac_ (aA_ AN rfl (bT_ (by rfl) T.n_range (aa_ ad_ (aa_ (al_ aC_ (pv 0) ad_) ab_))) (aj_ (i:=2) bJ_.nd rfl (by trivial)) (ae_ (aA_ AN rfl (ci_ (by rfl) T.n_range (aa_ (al_ aC_ (al_ e7_ (al_ ba_ (pv 2) (al_ aE_ (pv 2) ad_)) ad_) ad_) ab_)) (aj_ (i:=3) bJ_.nd rfl (by trivial)) (ae_ (aH_ (d5_ Ap BW BV bC_ (pv 1) (aa_ (ah_ (ep_ T) (hr.mono (by decide)) (by rfl) T.X22.m T.X22.F.kp T.X22.B .nil ar_ (aa_ (pv 2) (aa_ (pv 3) ab_))) ab_)))))))
   (ae_ (ap_ (pv 1))))), ?_⟩
  refine⟨AO _,fun f H1 nf s1 hf=> ?_⟩;refine⟨_,rfl,_,_,rfl,rfl,1,_,rfl,⟨by decide,by decide,by lia,by lia⟩, ?_⟩;rw [show((d:Int)+1-1).toNat=d by lia];refine aY_ (lo:=1) (n:=d) (fun i σ H2=>(∃v2 v3,σ=[some (.int d),some (.ref f),v2,v3])/\ao_ H H2/\∃vs,H2 f=some (.lst vs)/\Iss H2 ((dF_ i).map tI) vs) ⟨⟨none,none,rfl⟩,s1,[],hf,am_⟩ ?_ ?_
  .rintro i σ H2 hi ⟨⟨v2,v3,rfl⟩,s2,vs2,hf2,hi2⟩;rw [show(1:Int)+(i:Int)=((i+1:Nat):Int) by lia];have hh:=rb_ (d:=i+1) (by lia) (by lia);have tl:=rV_ (d:=i+1) (by lia);have ul:=hA_ (i:=i) (by lia);have pl:=uE_ (d:=i+1) (by lia);refine⟨_,rfl,_,rfl,_,_,rfl,rfl,_,_,rfl,rfl, .inr ⟨by lia,by lia⟩,_,_,rfl,rfl,⟨by decide,by decide⟩,_,_,rfl,rfl,_,rfl,by rw [hh];lia,by rw [hh];lia, ?_⟩;rw [hh,show(((i+1)*(i+1-1)/2:Nat):Int)+1=(((i+1)*i/2+1:Nat):Int) by rw [Nat.add_sub_cancel];lia,An];rw [Nat.add_sub_cancel] at tl pl;refine aY_ (lo:=0) (n:=(i+1)*i/2+1) (fun j σ H3=>(∃v3,σ=[some (.int d),some (.ref f),some (.int ((i+1:Nat):Int)),v3])/\ao_ H H3/\∃vs,H3 f=some (.lst vs)/\Iss H3 ((dF_ i++(List.range j).map fun k=>e0_ (i+1) (ptF (i+1)-k) (cT (i+1) k)).map tI) vs) ⟨⟨_,rfl⟩,s2,vs2,hf2,by simpa using hi2⟩ ?_ ?_
   .rintro j σ H3 hj ⟨⟨v3,rfl⟩,s3,vs3,hf3,hi3⟩;rw [Int.zero_add];have vl:=hi3.length;rw [A1,AF,A1,B'] at vl;refine⟨_,rfl, .inl ⟨rfl,_,SqL.of hf3⟩,_,rfl,_,rfl,i+1,j,rfl,⟨by lia, .inl ⟨by lia,by lia⟩⟩,fun v H4 s4 hv=> ?_⟩;refine⟨f,vs3,_,rfl,rfl,s4 _ _ hf3,an_ (by lia),⟨_,rfl⟩,(s3.trans s4).put nf,_,ag_, ?_⟩;have er:(dF_ i++(List.range (j+1)).map fun k=>e0_ (i+1) (ptF (i+1)-k) (cT (i+1) k))=(dF_ i++(List.range j).map fun k=>e0_ (i+1) (ptF (i+1)-k) (cT (i+1) k))++[e0_ (i+1) (ptF (i+1)-j) (cT (i+1) j)]:=by
     rw [Av,AC,<-BG];rfl
    rw [er,AC];have t5:=bI_.upd (s4 _ _ hf3) (ys:=vs3++[v]);refine(eN_ ((bI_.of_same s4).trans t5) hi3).append (ai_ (gc_ t5 ?_) am_);rw [show e0_ (i+1) (ptF (i+1)-j) (cT (i+1) j)=[((i+1:Nat):Int),((ptF (i+1):Nat):Int)-(j:Int),cT (i+1) j] by unfold e0_;rw [Int.natCast_sub (by lia)]];exact hv
   .rintro σ H3 ⟨⟨v3,rfl⟩,s3,vs3,hf3,hi3⟩;refine⟨⟨_,_,rfl⟩,s3,vs3,hf3, ?_⟩;unfold dF_;rw [bY_];exact hi3
  .rintro σ H2 ⟨⟨v2,v3,rfl⟩,s2,vs2,hf2,hi2⟩;exact⟨_,rfl,kk f H2 s2 nf (c8_ hf2 hi2)⟩
theorem le_:FnOk P w K mg base CX0 1 T.f4 T.d4 ["number","chosen"] (vC_ K):=by
 refine T.X4.F.ok by_ (fun vs H Q E h=> ?_) (fun cdv A outer s H vs Q E hr h=> ?_)
 .obtain⟨_,_,rfl,_⟩:=h;rfl
 .obtain⟨n,k,rfl,n0,n1,kk⟩:=h;refine⟨_,(ac_ (bl_ (hE_ (ax_ i7_ (pv 1) ad_ (aI_ _)) (fQ_ (ax_ mL_ (pv 1) (pv 0) (aI_ _)))).pt (ae_ (ap_ ad_)) aB_)
   (ac_ (aq_ (i:=2) by_.nd rfl (by trivial) ad_)
   (ac_ (aA_ AN rfl (ci_ (by rfl) T.n_range (aa_ (pv 1) ab_)) (aj_ (i:=3) by_.nd rfl (by trivial)) (ae_ (aq_ (i:=2) by_.nd rfl (by trivial) (al_ e7_ (al_ ba_ (pv 2) (al_ aE_ (pv 0) (pv 3))) (al_ aC_ (pv 3) ad_)))))
   (ae_ (ap_ (pv 2)))))), ?_⟩
  refine⟨_,rfl,_,_,rfl,rfl,_,rfl,g0_ (fun h=>oT_ ?_) (fun h=> ?_)⟩
  .rw [show cho n k=0 from A6 (.inl h)] at kk;exact kk
  .refine⟨_,rfl,_,rfl,_,_,rfl,rfl,_,rfl,g0_ (fun h2=> ?_) (fun h2=> ?_)⟩
   .rw [show cho n k=0 from A6 (.inr h2)] at kk;exact kk
   .rw [show cho n k=chG n k.toNat from A3 (by lia)] at kk;refine⟨_,rfl,_,rfl,by lia,by lia,aY_ (n:=k.toNat) (fun i σ H2=>(∃v3,σ=[some (.int n),some (.int k),some (.int (chG n i)),v3])/\H2=H) ⟨⟨none,rfl⟩,rfl⟩ ?_ ?_⟩
    .rintro i σ H2 hi ⟨⟨v3,rfl⟩,rfl⟩;exact⟨_,rfl,_,rfl,_,rfl,_,_,rfl,rfl,_,_,rfl,rfl, .inr ⟨by lia,by lia⟩,_,rfl,_,_,rfl,rfl,_,_,rfl,rfl,⟨by lia,by lia⟩,⟨_,rfl⟩,rfl⟩
    .rintro σ H2 ⟨⟨v3,rfl⟩,rfl⟩;exact⟨_,rfl,kk⟩
theorem fb_:FnOk P w K mg base CX0 2 T.f25 T.d25 ["total","wholes","counts","sign"] (uv_ K):=by
 refine T.X25.F.ok a5_ (fun vs H Q E h=> ?_) (fun cdv A outer s H vs Q E hr h=> ?_)
 .obtain⟨_,_,_,_,_,_,_,_,_,rfl,_⟩:=h;rfl
 .obtain⟨t,wa,c,ts,ws,cs,m,k,sg,rfl,hsg,ht,ots,hw,ows,hc,ocs,hmk,tw,tc,wc,hb,kk⟩:=h;refine⟨_,(ae_ (aA_ AN rfl (gw_ (pv 1)) (aj_ (i:=4) a5_.nd rfl (by trivial)) (ae_ (aA_ AN rfl (gw_ (pv 2)) (aj_ (i:=5) a5_.nd rfl (by trivial)) (ac_ (aq_ (i:=6) a5_.nd rfl (by trivial) (al_ aC_ (pv 4) (pv 5)))
   (ac_ (aq_ (i:=7) a5_.nd rfl (by trivial) (al_ ba_ (al_ ba_ (bu_ (bP_ hr) (pv 1) (pv 4) (fun _ _=>rfl)) (bu_ (bP_ hr) (pv 2) (pv 5) (fun _ _=>rfl))) (ah_ (le_ T) (hr.mono (by decide)) (by rfl) T.X4.m T.X4.F.kp T.X4.B .nil ar_ (aa_ (al_ aE_ (pv 6) ad_) (aa_ (al_ aE_ (pv 4) ad_) ab_)))))
   (ae_ (ds_ (bP_ hr) (pv 0) (pv 6) (al_ aC_ (gy_ (bP_ hr) (pv 0) (pv 6) ad_ ⟨rfl,rfl,rfl,rfl⟩) (al_ ba_ (pv 3) (pv 7))) rfl)))))))), ?_⟩
  refine⟨_,rfl,wa,dI ws,rfl,hw,fun o H1 hw1 k1=> ?_⟩;refine fn_ (fun j σ H2=>(∃v4 v5 v6 v7,σ=[some (.ref t),some (.ref wa),some (.ref c),some (.int sg),v4,v5,v6,v7])/\H2 wa=some (.frz o (.dK (dI ws)))/\Pz (H c) (H2 c)/\(∃ts',H2 t=some (.dK (dI ts'))/\b1_ (m+k) ts'/\∀s,vF ts' s=vF ts s+sg*qx_ (ws.take j) cs s)/\∀b,b≠t->b≠wa->b≠c->H2 b=H b) ⟨⟨none,none,none,none,rfl⟩,hw1,Pz.of_eq (k1 c (BM wc)),⟨ts,by rw [k1 t tw];exact ht,ots,fun s=>by simp [qx_]⟩,fun b _ h2 _=>k1 b h2⟩ (fun j σ H2 _ h=>h.2.1) ?_ ?_
  .rintro j ky vv σ H2 hj ⟨⟨v4,v5,v6,v7,rfl⟩,hw2,hc2,⟨tsj,ht2,ot2,hv2⟩,same2⟩;obtain⟨x,hx,rfl⟩:=ti_ hj;obtain⟨x1,x2⟩:=ows.2 x (AR hx);have vx:vF ws x.1=x.2:=p2_ ows.1 (AR hx);refine⟨_,rfl,c,dI cs,rfl,Pz.rd hc2 hc,fun o2 H3 hc3 k3=> ?_⟩;refine fn_ (fun i σ H4=>(∃v5 v6 v7,σ=[some (.ref t),some (.ref wa),some (.ref c),some (.int sg),some (.int (x.1:Int)),v5,v6,v7])/\H4 wa=some (.frz o (.dK (dI ws)))/\H4 c=some (.frz o2 (.dK (dI cs)))/\(∃ts',H4 t=some (.dK (dI ts'))/\b1_ (m+k) ts'/\∀s,vF ts' s=vF tsj s+sg*prd x (cs.take i) s)/\∀b,b≠t->b≠wa->b≠c->H4 b=H b) ⟨⟨_,_,_,rfl⟩,by rw [k3 wa wc];exact hw2,hc3,⟨tsj,by rw [k3 t tc];exact ht2,ot2,fun s=>by simp [prd]⟩,fun b b1 b2 b3=>by rw [k3 b b3];exact same2 b b1 b2 b3⟩ (fun i σ H4 _ h=>h.2.2.1) ?_ ?_
   .rintro i ky2 vv2 σ H4 hi ⟨⟨v5,v6,v7,rfl⟩,hw4,hc4,⟨tsi,ht4,ot4,hv4⟩,same4⟩;obtain⟨y,hy,rfl⟩:=ti_ hi;obtain⟨y1,y2⟩:=ocs.2 y (AR hy);have vy:vF cs y.1=y.2:=p2_ ocs.1 (AR hy);have es:(x.1:Int)+(y.1:Int)=((x.1+y.1:Nat):Int):=by lia
    obtain⟨c0,c1⟩:=tl_ (s:=x.1+y.1) (r:=x.1) (by lia) (by lia) (by lia) (by lia);refine⟨_,rfl,_,rfl,_,_,rfl,rfl, ?_⟩;refine⟨_,rfl,_,rfl,wa, .int (vF ws x.1),rfl,pQ_ (.inr ⟨o,hw4⟩) (j6_ hx),_,rfl,_,rfl,c, .int (vF cs y.1),rfl,pQ_ (.inr ⟨o2,hc4⟩) (j6_ hy),_,_,rfl,rfl,hb _ _,_,rfl,_,_,rfl,rfl,_,rfl,_,_,rfl,rfl, ?_⟩;refine⟨(x.1:Int)+(y.1:Int)-1,(x.1:Int)-1,rfl,by lia,by lia,_,_,rfl,rfl, .inr ?_, ?_⟩
    .rw [es];exact⟨Int.lt_of_lt_of_le (by decide) c0,Int.lt_trans c1 (by decide)⟩
    refine⟨_,rfl,t,rfl, .inl ⟨_, .inl ht4⟩,_,rfl,cH_ (dI tsi) (.inl ((x.1+y.1:Nat):Int)),jB_.k (k:= .inl ((x.1+y.1:Nat):Int)) ht4, ?_⟩;rw [nl_];refine⟨_,rfl,_,rfl,_,_,rfl,rfl, .inl (by rcases hsg with e|e<;>rw [e]<;>decide),_,_,rfl,rfl,_,rfl,_,rfl,t,_,rfl,kR_.k (k:= .inl ((x.1+y.1:Nat):Int)) ht4 ?_, ?_⟩
    .rw [kI_];have:=ot4.len;exact an_ (by lia)
    rw [pP_];refine⟨⟨_,_,_,rfl⟩,by rw [ak_ (BM tw)];exact hw4,by rw [ak_ (BM tc)];exact hc4,⟨_,ag_,ot4.put (by lia) (by lia),fun s=> ?_⟩,fun b b1 b2 b3=>by rw [ak_ b1];exact same4 b b1 b2 b3⟩;rw [ph_,qz_ hy];by_cases e:s=x.1+y.1
    .subst e;rw [A6 rfl,A6 rfl,hv4,vx,vy,Int.mul_add,Int.add_assoc];unfold chS;rw [es]
    .rw [A3 e,A3 (BM e),hv4];simp
   .rintro σ H4 ⟨⟨v5,v6,v7,rfl⟩,hw4,hc4,⟨tsi,ht4,ot4,hv4⟩,same4⟩;rw [kI_,AU] at hv4;refine⟨⟨_,_,_,_,rfl⟩,hw4,Pz.frz hc hc4,⟨tsi,ht4,ot4,fun s=> ?_⟩,same4⟩;rw [hv4,hv2,os_ hx,Int.mul_add,Int.add_assoc]
  .rintro σ H2 ⟨⟨v4,v5,v6,v7,rfl⟩,hw2,hc2,⟨ts2,ht2,ot2,hv2⟩,same2⟩;refine kk H2 ts2 ht2 ot2 (fun s=> ?_) (fun b bt=> ?_) same2
   .rw [hv2,kI_,AU,qw_ ows ocs (by lia) (by lia)]
   .by_cases e1:b=wa
    .rw [e1];exact Pz.frz hw hw2
    .by_cases e2:b=c
     .rw [e2];exact hc2
     .exact Pz.of_eq (same2 b bt e1 e2)
theorem dt_:FnOk P w K mg base CX0 3 T.f26 T.d26 ["counts"] (t8_ K):=by
 refine T.X26.F.ok aR_ (fun vs H Q E h=> ?_) (fun cdv A outer s H vs Q E hr h=> ?_)
 .obtain⟨_,_,_,_,_,_,rfl,_⟩:=h;rfl
 .obtain⟨a,q,n,g,b,X,rfl,hT,hq,hgn,hbd,kk⟩:=h;refine⟨_,(ac_ (aq_ (i:=1) aR_.nd rfl (by trivial) eB_)
   (ac_ (aA_ AN rfl (gw_ (pv 0)) (aj_ (i:=2) aR_.nd rfl (by trivial)) (ac_ (ds_ (bP_ hr) (pv 1) (pv 2) (e2_ is_ (by rfl) T.n_dict PyProof.Rows.Boot.«dict» (aa_ (bu_ (bP_ hr) (pv 0) (pv 2) (fun _ _=>rfl)) ab_)) rfl)
   (ae_ (aA_ AN rfl (bT_ (by rfl) T.n_range (aa_ ad_ (aa_ (pv 2) ab_))) (aj_ (i:=3) aR_.nd rfl (by trivial)) (ae_ (aH_ (ah_ (fb_ T) (hr.mono (by decide)) (by rfl) T.X25.m T.X25.F.kp T.X25.B .nil ar_ (aa_ (bu_ (bP_ hr) (pv 1) (pv 2) (fun _ _=>rfl)) (aa_ (bu_ (bP_ hr) (pv 1) (pv 3) (fun _ _=>rfl)) (aa_ (bu_ (bP_ hr) (pv 0) (al_ aE_ (pv 2) (pv 3)) (fun _ _=>rfl)) (aa_ (qC_ lR_ ad_) ab_)))))))))))
   (ae_ (ap_ (pv 1))))), ?_⟩
  refine fun p np=> ?_;have s1:ao_ H (upd H p (.dK [])):=ao_.new np;have hp1:upd H p (.dK []) p=some (.dK []):=ag_;generalize upd H p (.dK [])=H1 at s1 hp1⊢;have T1:=hT.fz (Fz.of_same s1);have pa:p≠a:=by rintro rfl;exact d2_ hT.1 np
  refine⟨_,rfl,a,cx_ b g,rfl,T1.1,fun o H2 ha2 k2=> ?_⟩;have z2:=(Fz.of_same s1).trans (Fz.walk T1.1 ha2 k2);refine fn_ (fun i σ H3=>(∃v2 v3,σ=[some (.ref a),some (.ref p),v2,v3])/\H3 a=some (.frz o (.dK (cx_ b g)))/\Fz H H3/\∃b' X',H3 p=some (.dK (cx_ b' i))/\(∀d,1<=d->d<=i->Rd H3 (b' d) (.dK (dI (X' d)))/\b1_ (q*d) (X' d)/\H (b' d)=none/\b' d≠p)/\Wh i (hg_ g X) (hg_ i X')) ⟨⟨none,none,rfl⟩,ha2,z2,fun _=>p,fun _=>[],by rw [k2 p pa];exact hp1,fun d h1 h2=>absurd h1 (by lia),fun d s=>by rw [A3 (by lia)];unfold hg_;rw [A3 (by lia)]⟩ (fun i σ H3 _ h=>h.2.1) ?_ ?_
  .rintro i ky vv σ H3 hi ⟨⟨v2,v3,rfl⟩,ha3,z3,b',X',hp3,hb3,hW⟩;have hig:i<g:=by
    have:=(AD.mp hi).1
    rwa [eD_] at this
   rw [mI_ hig] at hi;cases hi;have T3:=hT.fz z3;obtain⟨tb,te⟩:=T3.2 (i+1) (by lia) (by lia);refine⟨_,rfl,_,rfl,a, .ref (b (i+1)),rfl,d8_ (.inr ⟨o,ha3⟩) (by lia) (by lia),b (i+1),_,rfl,tb,fun t nt=> ?_⟩;have tp:t≠p:=by rintro rfl;rw [hp3] at nt;cases nt
   have ta:t≠a:=by rintro rfl;rw [ha3] at nt;cases nt
   have ntH:H t=none:=z3.free nt;refine⟨_,rfl,_,rfl,p,_,rfl,kR_.k (H:=upd H3 t (.dK (dI (X (i+1))))) (kvs:=cx_ b' i) (k:= .inl ((i+1:Nat):Int)) (by rw [ak_ (BM tp)];exact hp3) ?_, ?_⟩
   .rw [eD_];have:=hq.2.2;exact an_ (by lia)
   rw [jY_];have nb:∀d,1<=d->d<=i->b' d≠t:=fun d h1 h2 e=>d2_ (hb3 d h1 h2).1 (e▸nt);have nc:∀d,1<=d->d<=g->b d≠t:=fun d h1 h2 e=>d2_ (T3.2 d h1 h2).1 (e▸nt);have npb:∀d,1<=d->d<=g->b d≠p:=fun d h1 h2 e=>d2_ (hT.2 d h1 h2).1 (e▸np);have z4:Fz H (upd (upd H3 t (.dK (dI (X (i+1))))) p (.dK (cx_ (fun d=>if d=i+1 then t else b' d) (i+1)))):=(z3.put ntH).put np;have ht4:upd (upd H3 t (.dK (dI (X (i+1))))) p (.dK (cx_ (fun d=>if d=i+1 then t else b' d) (i+1))) t=some (.dK (dI (X (i+1)))):=by rw [ak_ tp,ag_]
   have hp4:upd (upd H3 t (.dK (dI (X (i+1))))) p (.dK (cx_ (fun d=>if d=i+1 then t else b' d) (i+1))) p=some (.dK (cx_ (fun d=>if d=i+1 then t else b' d) (i+1))):=ag_;have ha4:upd (upd H3 t (.dK (dI (X (i+1))))) p (.dK (cx_ (fun d=>if d=i+1 then t else b' d) (i+1))) a=some (.frz o (.dK (cx_ b g))):=by rw [ak_ (BM pa),ak_ (BM ta)];exact ha3
   have hb4:∀d,1<=d->d<=i->Rd (upd (upd H3 t (.dK (dI (X (i+1))))) p (.dK (cx_ (fun d=>if d=i+1 then t else b' d) (i+1)))) (b' d) (.dK (dI (X' d))):=fun d h1 h2=>uy_ (hb3 d h1 h2).1 (by rw [ak_ (hb3 d h1 h2).2.2.2,ak_ (nb d h1 h2)]);generalize upd (upd H3 t (.dK (dI (X (i+1))))) p (.dK (cx_ (fun d=>if d=i+1 then t else b' d) (i+1)))=H4 at z4 ht4 hp4 ha4 hb4⊢;refine⟨_,rfl,1,_,rfl,⟨by decide,by decide,by have:=hq.2.2;lia,by have:=hq.2.2;lia⟩, ?_⟩;rw [show(((i+1:Nat):Int)-1).toNat=i by lia];refine aY_ (lo:=1) (n:=i) (fun m σ H5=>(∃v3,σ=[some (.ref a),some (.ref p),some (.int ((i+1:Nat):Int)),v3])/\H5 a=some (.frz o (.dK (cx_ b g)))/\Fz H H5/\H5 p=some (.dK (cx_ (fun d=>if d=i+1 then t else b' d) (i+1)))/\(∀d,1<=d->d<=i->Rd H5 (b' d) (.dK (dI (X' d))))/\∃ts,H5 t=some (.dK (dI ts))/\b1_ (q*(i+1)) ts/\∀s,vF ts s=hg_ g X (i+1) s-fA_ (fun e=>cv (hg_ i X' (e+1)) (hg_ g X (i+1-(e+1))) s) m) ⟨⟨_,rfl⟩,ha4,z4,hp4,hb4,_,ht4,te,fun s=>by rw [fL_ (g:=g) (by lia) (by lia)];simp [fA_]⟩ ?_ ?_
   .rintro m σ H5 hm ⟨⟨v3,rfl⟩,ha5,z5,hp5,hb5,ts,ht5,ot5,hv5⟩;have T5:=hT.fz z5;have em:(1:Int)+(m:Int)=((m+1:Nat):Int):=by lia
    rw [em];have ed:((i+1:Nat):Int)-((m+1:Nat):Int)=((i+1-(m+1):Nat):Int):=by lia
    obtain⟨tc,oc⟩:=T5.2 (i+1-(m+1)) (by lia) (by lia);have hg1:=d8_ (H:=H5) (a:=p) (d:=i+1) (.inl hp5) (by lia) (by lia);have hg2:=d8_ (H:=H5) (a:=p) (d:=m+1) (.inl hp5) (by lia) (by lia);have hg3:=d8_ (H:=H5) (a:=a) (d:=i+1-(m+1)) (.inr ⟨o,ha5⟩) (by lia) (by lia);rw [A6 rfl] at hg1;rw [A3 (by lia)] at hg2;rw [<-ed] at hg3;have hbm:=hb5 (m+1) (by lia) (by lia);obtain⟨_,obm,nbH,nbp⟩:=hb3 (m+1) (by lia) (by lia);have eqd:q*(i+1)=q*(m+1)+q*(i+1-(m+1)):=by rw [<-Nat.mul_add];congr 1;lia
    refine⟨_,rfl,_,rfl,p,_,rfl,hg1,_,rfl,_,rfl,p,_,rfl,hg2,_,rfl,_,rfl,_,rfl,_,_,rfl,rfl,a,_,rfl,hg3,1,rfl, ?_⟩;refine⟨t,b' (m+1),b (i+1-(m+1)),ts,X' (m+1),X (i+1-(m+1)),q*(m+1),q*(i+1-(m+1)),-1,rfl, .inr rfl,ht5,by rw [<-eqd];exact ot5,hbm,obm,tc,oc,by rw [<-eqd];exact hq.le (by lia),BM (nb _ (by lia) (by lia)),BM (nc _ (by lia) (by lia)), ?_, ?_, ?_⟩
    .intro e;exact d2_ (hT.2 (i+1-(m+1)) (by lia) (by lia)).1 (e▸nbH)
    .intro r s;rw [fL_ (g:=i) (X:=X') (by lia) (by lia),fL_ (g:=g) (X:=X) (by lia) (by lia)];exact hbd i _ (by lia) hW _ _ _ _
    intro H6 ts6 ht6 ot6 hv6 pz6 same6;have z6:Fz H H6:=fun c=>by
     by_cases e:c=t
     .intro u hu;rw [e,ntH] at hu;cases hu
     .exact Pz.trans (z5 c) (pz6 c e)
    rw [<-eqd] at ot6;refine⟨⟨_,rfl⟩, ?_,z6, ?_,fun d h1 h2=>Pz.rd (pz6 _ (nb d h1 h2)) (hb5 d h1 h2),ts6,ht6,ot6,fun s=> ?_⟩
    .rw [same6 a (BM ta) (fun e=>d2_ hT.1 (e▸nbH)) (BM (sD_ hT.1 (hT.2 _ (by lia) (by lia)).1 (by lia)))];exact ha5
    .rw [same6 p (BM tp) (BM nbp) (BM (npb _ (by lia) (by lia)))];exact hp5
    .rw [hv6,hv5,fL_ (g:=i) (X:=X') (by lia) (by lia),fL_ (g:=g) (X:=X) (by lia) (by lia)];show _=_-(fA_ _ m+cv (hg_ i X' (m+1)) (hg_ g X (i+1-(m+1))) s);lia
   .rintro σ H5 ⟨⟨v3,rfl⟩,ha5,z5,hp5,hb5,ts,ht5,ot5,hv5⟩;refine⟨⟨_,_,rfl⟩,ha5,z5,_,fun d=>if d=i+1 then ts else X' d,hp5,fun d h1 h2=> ?_,hW.next (fun d s hd=>by rw [jI_,A3 hd]) (fun s=>by rw [jI_,A6 rfl];exact hv5 s)⟩;by_cases e:d=i+1
    .dsimp only;rw [A6 e,A6 e,e];exact⟨.inl ht5,ot5,ntH,tp⟩
    .dsimp only;rw [A3 e,A3 e];exact⟨hb5 d h1 (by lia),(hb3 d h1 (by lia)).2⟩
  .rintro σ H3 ⟨⟨v2,v3,rfl⟩,ha3,z3,b',X',hp3,hb3,hW⟩;rw [eD_] at hp3 hb3 hW;exact⟨_,rfl,kk p b' X' H3 z3 ⟨.inl hp3,fun d h1 h2=>⟨(hb3 d h1 h2).1,(hb3 d h1 h2).2.1⟩⟩ hW⟩
theorem cl_:FnOk P w K mg base (CX1 P w) 57 T.f27 T.d27 ["d","k"] (vx_ T.c_NoBound):=by
 refine T.X27.F.okx bs_ (fun vs H Q E h=> ?_) (fun cdv A outer s H vs Q E hr h hR hp=> ?_)
 .obtain⟨_,_,rfl,_⟩:=h;rfl
 .obtain⟨v,u,rfl,hv,hu,kk,ke⟩:=h;refine⟨_,(ac_ (aH_ (ah_ (en_ T) (hr.mono (by decide)) (by rfl) T.X2.m T.X2.F.kp T.X2.B .nil hp (aa_ (pv 0) (aa_ (pv 1) ab_))))
   (ac_ (aq_ (i:=2) bs_.nd rfl (by trivial) (ah_ (cm_ T) (hr.mono (by decide)) (by rfl) T.X21.m T.X21.F.kp T.X21.B .nil ar_ (aa_ (pv 0) (aa_ (pv 1) ab_))))
   (ac_ (bl_ (ax_ i7_ (pv 2) ad_ (aI_ _)) (ae_ (ap_ ad_)) aB_)
   (ac_ (aq_ (i:=3) bs_.nd rfl (by trivial) (al_ e8_ (ah_ (gC_ T) (hr.mono (by decide)) (by rfl) T.X23.m T.X23.F.kp T.X23.B .nil ar_ (aa_ (al_ aE_ (pv 0) ad_) ab_)) (au_ (aa_ (ah_ (ep_ T) (hr.mono (by decide)) (by rfl) T.X22.m T.X22.F.kp T.X22.B .nil ar_ (aa_ (pv 0) (aa_ (pv 1) ab_))) ab_))))
   (ae_ (ap_ (gy_ (bP_ hr) (bu_ (bP_ hr) (ah_ (dt_ T) (hr.mono (by decide)) (by rfl) T.X26.m T.X26.F.kp T.X26.B .nil ar_ (aa_ (ah_ (hL_ T) (hr.mono (by decide)) (by rfl) T.X24.m T.X24.F.kp T.X24.B .nil ar_ (aa_ (pv 3) (aa_ (pv 0) ab_))) ab_)) (pv 0) (fun _ _=>rfl)) (pv 2) ad_ ⟨rfl,rfl,rfl,rfl⟩))))))), ?_⟩
  refine⟨_,rfl,_,rfl,v,u,rfl,hv,hu,fun hW=> ?_,ke⟩;obtain⟨d,k,rfl,rfl,hW⟩:=hW;have kk:=kk d k rfl rfl hW;have d1:1<=d:=hW.1;have d5:d<=5:=by unfold Wide at hW;lia
  refine⟨_,rfl,_,rfl,d,(k:Int),rfl,d1,d5, ?_⟩;refine⟨_,rfl,_,_,rfl,rfl,_,rfl,g0_ (fun c=> ?_) (fun c=> ?_)⟩
  .rw [show rF_ d k=0 from A6 (by lia)] at kk;exact kk H (Fz.refl _)
  .have hk:k+1<=ptF d:=by lia
   rw [show rF_ d k=tC_ d k from A3 (by lia)] at kk;have es:((ptF d:Nat):Int)-(k:Int)=((ptF d-k:Nat):Int):=by lia
   rw [es];have q5:Sz 4 d:=⟨by lia,d1,d5⟩;refine⟨_,rfl,_,_,rfl,rfl,d-1,by show [V.int ((d:Int)-1)]=_;rw [show((d-1:Nat):Int)=(d:Int)-1 by lia],by lia,fun l1 H1 s1 n1 h1=> ?_⟩;refine⟨_,rfl,_,rfl,d,k,rfl,hW,fun v2 H2 s2 hv2=>⟨(by show 1<=sizeLine;decide),fun l3 H3 n3 s3 h3=> ?_⟩⟩;rw [es] at hv2;have ul:=hA_ (i:=d-1) (by lia);refine⟨(dF_ (d-1)).map tI,[tI (e0_ d (ptF d-k) (cT d k))],(h1.mono s2).mono s3,c8_ h3 (ai_ (hv2.mono s3) am_),Al (an_ (by rw [A1];simp only [AY,Cz];lia)),fun l4 H4 n4 s4 h4=> ?_⟩;have h4:Is H4 (.l ((mk_ d k).map tI)) (.ref l4):=by unfold mk_;rw [AC];exact h4
   refine⟨_,rfl,_,rfl, .ref l4,4,d,d,Nf d k,mk_ d k,rfl,h4,fun r hr'=>mj_ ⟨d1,by lia⟩ hk hr',fun e s he=>(pX_ ⟨d1,by lia⟩ hk he).2.2.2.2,q5,A9 _,fun a b X H5 s5 hT hX=> ?_⟩;refine⟨a,4,d,d,b,X,rfl,hT,q5,A9 _, ?_,fun p b' X' H6 z6 hT6 hW6=> ?_⟩
   .rw [hX];exact fun i Wq _ _ e f s t=> .inr (vd_ ⟨d1,by lia⟩ hk)
   rw [hX] at hW6;refine⟨_,rfl,p, .ref (b' d),rfl,d8_ hT6.1 d1 (A9 _), ?_⟩;refine⟨b' d,rfl, .inl ⟨_,(hT6.2 d d1 (A9 _)).1⟩,_,rfl,cH_ (dI (X' d)) (.inl ((ptF d-k:Nat):Int)), .inl ⟨dI (X' d), .inl ((ptF d-k:Nat):Int),(hT6.2 d d1 (A9 _)).1,rfl,rfl⟩, ?_⟩;rw [nl_,fL_ (g:=d) (X:=X') d1 (A9 _),u7_ ⟨d1,by lia⟩ hk hW6];exact kk H6 ((Fz.of_same ((((s1.trans s2).trans s3).trans s4).trans s5)).trans z6)
theorem fc_:FnOk P w K mg base CX0 10 T.f48 T.d48 ["_law_rest","_law_least","_law_most"] (sa_ K):=by
 refine T.X48.F.ok dk_ (fun vs H Q E h=> ?_) (fun cdv A outer s H vs Q E hr h=> ?_)
 .obtain⟨_,_,_,_,rfl,_⟩:=h;rfl
 .obtain⟨b,lo,hi,z,rfl,hb,z0,kk⟩:=h;refine⟨_,(ac_ (aq_ (i:=3) dk_.nd rfl (by trivial) (ah_ (aU_ T) (hr.mono (by decide)) (by rfl) T.X47.m T.X47.F.kp T.X47.B .nil ar_ (aa_ (pv 0) (aa_ ad_ ab_))))
   (ac_ (aq_ (i:=4) dk_.nd rfl (by trivial) (ah_ (aU_ T) (hr.mono (by decide)) (by rfl) T.X47.m T.X47.F.kp T.X47.B .nil ar_ (aa_ (pv 0) (aa_ (bg_ cX_ (au_ (aa_ ad_ (aa_ (al_ fR_ ad_ ad_) ab_))) (ah_ (aU_ T) (hr.mono (by decide)) (by rfl) T.X47.m T.X47.F.kp T.X47.B .nil ar_ (aa_ (pv 0) (aa_ ad_ ab_))) (fun _ _=>rfl)) ab_))))
   (ac_ (bl_ (ax_ et_ (pv 3) ad_ (aI_ _)) (ae_ (ap_ (al_ aC_ (al_ aC_ (pv 2) ad_) (pv 4)))) aB_)
   (ac_ (bl_ (ax_ et_ (pv 3) ad_ (aI_ _)) (ae_ (ap_ (al_ aE_ (al_ aE_ (pv 1) ad_) (pv 4)))) aB_)
   (ae_ (ap_ (bg_ cX_ (au_ (aa_ sA_ (aa_ i6_ (aa_ i6_ (aa_ mA_ (aa_ (au_ (aa_ ad_ ab_)) (aa_ (aT_ (aa_ ad_ (aa_ ad_ ab_))) ab_))))))) (al_ aE_ (pv 3) ad_) (fun _ _=>rfl)))))))), ?_⟩
  refine⟨_,rfl,b,8,z,rfl,hb,z0,by decide,by decide,fun wy z1 w0 w1 z10=> ?_⟩;have hb1:upd H b (.lst [.int z1]) b=some (.lst [.int z1]):=ag_;have s01:But b H (upd H b (.lst [.int z1])):=But.upd;generalize upd H b (.lst [.int z1])=H2 at hb1 s01⊢;refine⟨_,rfl,10,30,rfl,rfl,⟨by decide,by decide,by decide⟩,(by show 2<=sizeLine;decide),fun q H3 nq s3 hq=> ?_⟩;refine⟨_,rfl,b,2,z1,rfl,s3 _ _ hb1,z10,by decide,by decide,fun c z2 c0 c1 z20=> ?_⟩;have qb:q≠b:=by rintro rfl;rw [hb1] at nq;cases nq
  have hq4:upd H3 b (.lst [.int z2]) q=some (.lst [.int 3, .int (10^(30:Int).toNat)]):=by rw [ak_ qb];exact hq
  have hb4:upd H3 b (.lst [.int z2]) b=some (.lst [.int z2]):=ag_;have s04:But b H (upd H3 b (.lst [.int z2])):=(s01.trans (But.of_same s3)).trans But.upd;generalize upd H3 b (.lst [.int z2])=H4 at hq4 hb4 s04⊢;obtain⟨m,hm,m0,m1⟩:∃m:Int,atI [V.int 3, .int (10^(30:Int).toNat)] c=some (.int m)/\0<m/\m<=10^60:=by
   rcases(show c=0\/c=1 by lia) with rfl|rfl
   .exact⟨3,rfl,by decide,by decide⟩
   .exact⟨_,rfl,by decide,by decide⟩
  refine⟨q,_,c, .int m,rfl,rfl,SqL.of hq4,hm,b,m,z2,rfl,hb4,z20,m0,m1,fun far z3 f0 f1 z30=> ?_⟩;have s05:But b H (upd H4 b (.lst [.int z3])):=s04.trans But.upd;generalize upd H4 b (.lst [.int z3])=H5 at s05⊢;refine⟨_,rfl,rfl,_,rfl,lB_ (fun e=> ?_) (fun e=> ?_)⟩
  .exact⟨_,rfl,_,_,rfl,rfl,_,rfl,_,_,rfl,rfl,kk _ H5 s05 (.inl ⟨_,rfl⟩) (fun⟨i,ei,_,h4⟩=>by have:=V.int.inj ei;lia)⟩
  refine⟨_,rfl,rfl,_,rfl,lB_ (fun e2=> ?_) (fun e2=> ?_)⟩
  .exact⟨_,rfl,_,_,rfl,rfl,_,rfl,_,_,rfl,rfl,kk _ H5 s05 (.inl ⟨_,rfl⟩) (fun⟨i,ei,h1,_⟩=>by have:=V.int.inj ei;lia)⟩
  refine⟨(by show 1<=sizeLine;decide),fun q5 H6 n6 s6 h6=>⟨(by show 2<=sizeLine;decide),fun q6 H7 n7 s7 h7=>⟨(by show 6<=sizeLine;decide),fun q7 H8 n8 s8 h8=> ?_⟩⟩⟩;have h6':=s8 _ _ (s7 _ _ h6);have h7':=s8 _ _ h7;obtain⟨v,hv,tv,nw⟩:∃v,atI [V.non, .bl true, .bl false, .str (Str.ofString "2"), .ref q5, .ref q6] (wy-2)=some v/\cJ_ H8 v/\¬Within lo hi v:=by
   rcases(show wy=2\/wy=3\/wy=4\/wy=5\/wy=6\/wy=7 by lia) with rfl|rfl|rfl|rfl|rfl|rfl
   .exact⟨_,rfl, .inr (.inr (.inl rfl)),fun⟨i,e,_⟩=>nomatch e⟩
   .exact⟨_,rfl, .inr (.inl ⟨_,rfl⟩),fun⟨i,e,_⟩=>nomatch e⟩
   .exact⟨_,rfl, .inr (.inl ⟨_,rfl⟩),fun⟨i,e,_⟩=>nomatch e⟩
   .exact⟨_,rfl, .inr (.inr (.inr (.inl ⟨_,rfl⟩))),fun⟨i,e,_⟩=>nomatch e⟩
   .exact⟨_,rfl, .inr (.inr (.inr (.inr (.inl ⟨_,_,rfl,h6'⟩)))),fun⟨i,e,_⟩=>nomatch e⟩
   .exact⟨_,rfl, .inr (.inr (.inr (.inr (.inr ⟨_,_,rfl,h7'⟩)))),fun⟨i,e,_⟩=>nomatch e⟩
  exact⟨_,rfl,_,_,rfl,rfl,q7,_,_,v,rfl,rfl,SqL.of h8,hv,kk v H8 (s05.trans (But.of_same ((s6.trans s7).trans s8))) tv nw⟩
theorem bW_:FnOk P w K mg base CX0 58 T.f49 T.d49 ["_law_d","_law_k"] (ue_ K):=by
 refine T.X49.F.oky cM_ (fun vs H Q E h=> ?_) (fun cdv A outer s H vs Q E hr h hF=> ?_)
 .obtain⟨_,_,rfl,_⟩:=h;rfl
 .obtain⟨v,u,rfl,hv,hu,hn,kk⟩:=h;refine⟨_,(ac_ (ss_ (i:=2) hF rfl cM_.nd rfl (by trivial) rfl (by rfl) T.m_CurveError (fun E pn z hp=>(ae_ (aH_ (ah_ (cl_ T) (hr.mono (by decide)) (by rfl) T.X27.m T.X27.F.kp T.X27.B .nil hp (aa_ (pv 0) (aa_ (pv 1) ab_)))))) (fun e=>(ac_ (bl_ (dG_ (aF_ (lv_ (K:=K) rfl) (by rfl) T.n_isinstance CH (aa_ (pv 2) (aa_ (aT_ (aa_ (d4_ (v:= .ref T.c_NoDrawing) (by rfl) T.m_NoDrawing (by rfl)) (aa_ (d4_ (v:= .ref T.c_NoEnds) (by rfl) T.m_NoEnds (by rfl)) (aa_ (d4_ (v:= .ref T.c_NoNumber) (by rfl) T.m_NoNumber (by rfl)) (aa_ (d4_ (v:= .ref T.c_NoText) (by rfl) T.m_NoText (by rfl)) ab_))))) ab_)))) (ae_ (ap_ i6_)) aB_)
   (ae_ (ap_ (pr_ (aF_ (ir_ (K:=K) rfl) (by rfl) T.n_isinstance CH (aa_ (pv 2) (aa_ (d4_ (v:= .ref T.c_NoBound) (by rfl) T.m_NoBound (by rfl)) ab_))) (mB_ (aF_ (ir_ (K:=K) rfl) (by rfl) T.n_isinstance CH (aa_ (pv 2) (aa_ (d6_ (v:= .ty "ValueError") (by rfl) T.n_ValueError PyProof.Rows.Boot.«ValueError» (by rfl)) ab_))))))))))
   (ae_ (ap_ i6_))), ?_⟩
  refine⟨fun C _ H'=>C= .ref T.c_NoBound/\ao_ H H',⟨_,rfl,_,rfl,v,u,rfl,hv,hu,fun d k ev eu hW=>absurd ⟨d,k,ev,eu,hW⟩ hn,fun _=>⟨rfl,ao_.refl _⟩⟩,fun C e H' ⟨eC,sH⟩ he=> ?_⟩;cases eC;refine⟨T.e_NoBound_CurveError,_,rfl,(by show 4<=sizeLine;decide),fun t H2 nt s2 ht2=> ?_⟩;have hx:=s2 _ _ (ag_ (H:=H') (a:=e) (o:=o3_ T.c_NoBound e));refine⟨e,_,t,_,_,false,rfl,hx,T.X_NoBound,ht2,rfl,T.ks_NoBound_0,false,rfl,h8_ ?_⟩;refine⟨_,rfl,e,_, .ref T.c_NoBound,_,true,rfl,hx,T.X_NoBound,rfl,T.k_NoBound_NoBound,true,rfl,oT_ ?_⟩;exact⟨_,rfl,e,_, .ty "ValueError",_,true,rfl,hx,T.X_NoBound,rfl,T.k_NoBound_ValueError,kk _ ((sH.trans (ao_.new he)).trans s2)⟩
theorem cJ_.int {H:Hp}{i:Int}:cJ_ H (.int i):= .inl ⟨_,rfl⟩
theorem sI_:FnOk P w K mg base CX0 59 T.f50 T.d50 ["_law_script"] (jQ_ K):=by
 refine T.X50.F.ok eS_ (fun vs H Q E h=> ?_) (fun cdv A outer s H vs Q E hr h=> ?_)
 .obtain⟨_,_,rfl,_⟩:=h;rfl
 .obtain⟨a,ns,rfl,hS,hl,kk⟩:=h;refine⟨_,(ac_ (aq_ (i:=1) eS_.nd rfl (by trivial) (au_ (aa_ (ah_ (dM_ T) (hr.mono (by decide)) (by rfl) T.X46.m T.X46.F.kp T.X46.B .nil ar_ (aa_ (ah_ (cU_ T) (hr.mono (by decide)) (by rfl) T.X45.m T.X45.F.kp T.X45.B .nil ar_ (aa_ (pv 0) (aa_ ad_ ab_))) ab_)) ab_)))
   (ac_ (aq_ (i:=2) eS_.nd rfl (by trivial) (al_ aC_ ad_ (ah_ (aU_ T) (hr.mono (by decide)) (by rfl) T.X47.m T.X47.F.kp T.X47.B .nil ar_ (aa_ (pv 1) (aa_ ad_ ab_)))))
   (ac_ (aq_ (i:=3) eS_.nd rfl (by trivial) (ah_ (aU_ T) (hr.mono (by decide)) (by rfl) T.X47.m T.X47.F.kp T.X47.B .nil ar_ (aa_ (pv 1) (aa_ (bg_ cX_ (au_ (aa_ ad_ (aa_ ad_ (aa_ ad_ (aa_ ad_ (aa_ ad_ ab_)))))) (al_ aE_ (pv 2) ad_) (fun _ _=>rfl)) ab_))))
   (ac_ (aq_ (i:=4) eS_.nd rfl (by trivial) (ah_ (cl_ T) (hr.mono (by decide)) (by rfl) T.X27.m T.X27.F.kp T.X27.B .nil sC_ (aa_ (pv 2) (aa_ (pv 3) ab_))))
   (ac_ (bl_ (hE_ (e1_ (dG_ (aF_ dS_ (by rfl) T.n_isinstance CH (aa_ (pv 4) (aa_ (d6_ (v:= .ty "int") (by rfl) T.n_int boot_int (by rfl)) ab_))))) (hE_ (dG_ (aF_ dS_ (by rfl) T.n_isinstance CH (aa_ (pv 4) (aa_ (d6_ (v:= .ty "bool") (by rfl) T.n_bool boot_bool (by rfl)) ab_)))) (fQ_ (ax_ sG_ (pv 4) (ah_ (dJ_ T) (hr.mono (by decide)) (by rfl) T.X44.m T.X44.F.kp T.X44.B .nil ar_ (aa_ (pv 2) (aa_ (pv 3) ab_))) (aI_ _))))).pt (ae_ (ap_ i6_)) aB_)
   (ac_ (aq_ (i:=1) eS_.nd rfl (by trivial) (au_ (aa_ (ah_ (dM_ T) (hr.mono (by decide)) (by rfl) T.X46.m T.X46.F.kp T.X46.B .nil ar_ (aa_ (ah_ (cU_ T) (hr.mono (by decide)) (by rfl) T.X45.m T.X45.F.kp T.X45.B .nil ar_ (aa_ (pv 0) (aa_ ad_ ab_))) ab_)) ab_)))
   (ac_ (aq_ (i:=5) eS_.nd rfl (by trivial) (ah_ (aU_ T) (hr.mono (by decide)) (by rfl) T.X47.m T.X47.F.kp T.X47.B .nil ar_ (aa_ (pv 1) (aa_ ad_ ab_))))
   (ac_ (bl_ (ax_ et_ (pv 5) ad_ (aI_ _)) (ae_ (ap_ (ah_ (bW_ T) (hr.mono (by decide)) (by rfl) T.X49.m T.X49.F.kp T.X49.B .nil ar_ (aa_ (ah_ (fc_ T) (hr.mono (by decide)) (by rfl) T.X48.m T.X48.F.kp T.X48.B .nil ar_ (aa_ (pv 1) (aa_ ad_ (aa_ ad_ ab_)))) (aa_ (pv 3) ab_))))) aB_)
   (ac_ (bl_ (ax_ et_ (pv 5) ad_ (aI_ _)) (ae_ (ap_ (ah_ (bW_ T) (hr.mono (by decide)) (by rfl) T.X49.m T.X49.F.kp T.X49.B .nil ar_ (aa_ (pv 2) (aa_ (ah_ (fc_ T) (hr.mono (by decide)) (by rfl) T.X48.m T.X48.F.kp T.X48.B .nil ar_ (aa_ (pv 1) (aa_ ad_ (aa_ ad_ ab_)))) ab_))))) aB_)
   (ae_ (ap_ (ah_ (bW_ T) (hr.mono (by decide)) (by rfl) T.X49.m T.X49.F.kp T.X49.B .nil ar_ (aa_ ad_ (aa_ (al_ aC_ ad_ (ah_ (aU_ T) (hr.mono (by decide)) (by rfl) T.X47.m T.X47.F.kp T.X47.B .nil ar_ (aa_ (pv 1) (aa_ ad_ ab_)))) ab_)))))))))))))), ?_⟩
  refine⟨_,rfl,a,ns,0,rfl,hS,by decide,fun x=>⟨x,rfl,fun z z0=>⟨(by show 1<=sizeLine;decide),fun b H1 nb s1 hb=> ?_⟩⟩⟩;refine⟨_,rfl,b,5,z,rfl,hb,z0,by decide,by decide,fun y z1 y0 y1 z10=>⟨_,_,rfl,rfl, ?_⟩⟩;obtain⟨d,hd⟩:=B7 (show 0<=1+y by lia);have e1:(fun i j=>V.int (i+j)) 1 y=V.int (d:Int):=by rw [<-hd]
  rw [e1];have d1:1<=d:=by lia
  have d5:d<=5:=by lia
  have s02:ao_ H (upd H1 b (.lst [.int z1])):=s1.put nb;have hb2:upd H1 b (.lst [.int z1]) b=some (.lst [.int z1]):=ag_;generalize upd H1 b (.lst [.int z1])=H2 at s02 hb2⊢;refine⟨_,rfl,(by show 5<=sizeLine;decide),fun ll H3 nll s3 hll=> ?_⟩;obtain⟨m,hat,m1,m7,hwide⟩:∃m:Nat,atI [V.int 7,V.int 7,V.int 7,V.int 7,V.int 4] ((d:Int)-1)=some (.int m)/\1<=m/\m<=7/\∀k:Nat,k<m->Wide d k:=by
   have:d=1\/d=2\/d=3\/d=4\/d=5:=by lia
   unfold Wide;rcases this with rfl|rfl|rfl|rfl|rfl
   .exact⟨7,rfl,by decide,by decide,fun k hk=>by lia⟩
   .exact⟨7,rfl,by decide,by decide,fun k hk=>by lia⟩
   .exact⟨7,rfl,by decide,by decide,fun k hk=>by lia⟩
   .exact⟨7,rfl,by decide,by decide,fun k hk=>by lia⟩
   .exact⟨4,rfl,by decide,by decide,fun k hk=>by lia⟩
  refine⟨_,rfl,_,_,rfl,rfl,ll,_,_,_,rfl,rfl,SqL.of hll,hat,b,m,z1,rfl,s3 _ _ hb2,z10,by lia,by lia,fun k0 z2 k00 k0m z20=> ?_⟩;obtain⟨k,rfl⟩:=B7 k00;have hw:=hwide k (by lia);have s04:ao_ H (upd H3 b (.lst [.int z2])):=(s02.trans s3).put nb;generalize upd H3 b (.lst [.int z2])=H4 at s04⊢;refine⟨_,rfl,_,rfl, .int d, .int k,rfl,cJ_.int,cJ_.int,fun d' k' ed ek hW' H5 z5=> ?_,fun h=>absurd ⟨d,k,rfl,rfl,hw⟩ h⟩;obtain rfl:d'=d:=by have:=V.int.inj ed;lia
  obtain rfl:k'=k:=by have:=V.int.inj ek;lia
  rw [so_ hw];refine⟨_,rfl,_,"int",_,true,rfl, .int _,kg_,true,rfl,h8_ ⟨_,rfl,_,"bool",_,false,rfl, .int _,rfl,false,rfl,h8_ ?_⟩⟩;refine⟨_,rfl,_,rfl,_,rfl,d',k',rfl,hw,fun H6 s6=>⟨rfl,_,rfl,uQ_ rfl ?_⟩⟩;have f06:Fz H H6:=((Fz.of_same s04).trans z5).trans (Fz.of_same s6);have hS6:=SqL.fz f06 hS;refine⟨_,rfl,a,ns,1,rfl,hS6,by decide,fun x2=>⟨x2,rfl,fun z z0=>⟨(by show 1<=sizeLine;decide),fun c H7 nc s7 hc=> ?_⟩⟩⟩;refine⟨_,rfl,c,3,z,rfl,hc,z0,by decide,by decide,fun wy z3 w0 w1 z30=> ?_⟩;have hc8:upd H7 c (.lst [.int z3]) c=some (.lst [.int z3]):=ag_;generalize upd H7 c (.lst [.int z3])=H8 at hc8⊢;refine⟨_,rfl,rfl,_,rfl,lB_ (fun e=> ?_) (fun e=> ?_)⟩
  .refine⟨_,rfl,c,1,5,z3,rfl,hc8,z30,fun v H9 _ tv nw=>⟨_,rfl,v, .int k',rfl,tv,cJ_.int,fun⟨d2,k2,e1,_,hN⟩=>nw ⟨_,e1,by unfold Wide at hN;lia,by unfold Wide at hN;lia⟩,fun HA _=>kk HA⟩⟩
  refine⟨_,rfl,rfl,_,rfl,lB_ (fun e2=> ?_) (fun e2=> ?_)⟩
  .refine⟨_,rfl,_,rfl,c,0,6,z3,rfl,hc8,z30,fun v H9 _ tv nw=>⟨.int d',v,rfl,cJ_.int,tv,fun⟨d2,k2,_,e2,hN⟩=>nw ⟨_,e2,by lia,by unfold Wide at hN;lia⟩,fun HA _=>kk HA⟩⟩
  refine⟨_,rfl,c,3,z3,rfl,hc8,z30,by decide,by decide,fun t z4 t0 t1 z40=>⟨_,_,rfl,rfl, .int 5, .int (4+t),rfl,cJ_.int,cJ_.int,fun⟨d2,k2,e1,e2,hN⟩=> ?_,fun HA _=>kk HA⟩⟩;have:=V.int.inj e1;have:=V.int.inj e2;unfold Wide at hN;lia
end
theorem fb1 {K:W.Frag}{mg:Str->Option Value}{n:Str}{st:Stmt}{ps:List Str}{f:Addr}{d:FuncData} (F:Fun K n n st f d) (e:mg n=some (.ref f)) (hp:ps.length=1) (h:∀(kV dc pm:Value) (an:Option Addr) (cd ct x0:Value),bindArgs (W.fnOf n n (cB_ st) (bH_ st) (af_ st) .none kV dc pm an cd ct) ⟨[x0],[]⟩=pure (ps.zip [x0])):Fb K mg n st ps f d:=by
 refine⟨F,F.binds fun kV dc pm an cd ct us hl=> ?_,e⟩;rw [hp] at hl;rcases us with _|⟨x0,us⟩
 .simp at hl
 rcases us with _|⟨y,us⟩
 .exact h kV dc pm an cd ct x0
 .simp at hl
theorem fb2 {K:W.Frag}{mg:Str->Option Value}{n:Str}{st:Stmt}{ps:List Str}{f:Addr}{d:FuncData} (F:Fun K n n st f d) (e:mg n=some (.ref f)) (hp:ps.length=2) (h:∀(kV dc pm:Value) (an:Option Addr) (cd ct x0 x1:Value),bindArgs (W.fnOf n n (cB_ st) (bH_ st) (af_ st) .none kV dc pm an cd ct) ⟨[x0,x1],[]⟩=pure (ps.zip [x0,x1])):Fb K mg n st ps f d:=by
 refine⟨F,F.binds fun kV dc pm an cd ct us hl=> ?_,e⟩;rw [hp] at hl;rcases us with _|⟨x0,us⟩
 .simp at hl
 rcases us with _|⟨x1,us⟩
 .simp at hl
 rcases us with _|⟨y,us⟩
 .exact h kV dc pm an cd ct x0 x1
 .simp at hl
theorem fb3 {K:W.Frag}{mg:Str->Option Value}{n:Str}{st:Stmt}{ps:List Str}{f:Addr}{d:FuncData} (F:Fun K n n st f d) (e:mg n=some (.ref f)) (hp:ps.length=3) (h:∀(kV dc pm:Value) (an:Option Addr) (cd ct x0 x1 x2:Value),bindArgs (W.fnOf n n (cB_ st) (bH_ st) (af_ st) .none kV dc pm an cd ct) ⟨[x0,x1,x2],[]⟩=pure (ps.zip [x0,x1,x2])):Fb K mg n st ps f d:=by
 refine⟨F,F.binds fun kV dc pm an cd ct us hl=> ?_,e⟩;rw [hp] at hl;rcases us with _|⟨x0,us⟩
 .simp at hl
 rcases us with _|⟨x1,us⟩
 .simp at hl
 rcases us with _|⟨x2,us⟩
 .simp at hl
 rcases us with _|⟨y,us⟩
 .exact h kV dc pm an cd ct x0 x1 x2
 .simp at hl
theorem fb4 {K:W.Frag}{mg:Str->Option Value}{n:Str}{st:Stmt}{ps:List Str}{f:Addr}{d:FuncData} (F:Fun K n n st f d) (e:mg n=some (.ref f)) (hp:ps.length=4) (h:∀(kV dc pm:Value) (an:Option Addr) (cd ct x0 x1 x2 x3:Value),bindArgs (W.fnOf n n (cB_ st) (bH_ st) (af_ st) .none kV dc pm an cd ct) ⟨[x0,x1,x2,x3],[]⟩=pure (ps.zip [x0,x1,x2,x3])):Fb K mg n st ps f d:=by
 refine⟨F,F.binds fun kV dc pm an cd ct us hl=> ?_,e⟩;rw [hp] at hl;rcases us with _|⟨x0,us⟩
 .simp at hl
 rcases us with _|⟨x1,us⟩
 .simp at hl
 rcases us with _|⟨x2,us⟩
 .simp at hl
 rcases us with _|⟨x3,us⟩
 .simp at hl
 rcases us with _|⟨y,us⟩
 .exact h kV dc pm an cd ct x0 x1 x2 x3
 .simp at hl
noncomputable def Hf (K:W.Frag) (n:Str) (st:Stmt) (f:Addr):Prop:=W.nsIn K mainGlobals n=some (some (.ref f))/\∃d,Fun K n n st f d
theorem u0_ {K:W.Frag}{n:Str}{st:Stmt}{f:Addr}{od an:Option Addr}{sl:Array (Option Value)}{oc kV dc pm cd ct:Value} (a:W.nsIn K mainGlobals n=some (some (.ref f))) (l:K.lookup f=some ⟨oc,od, .func (W.fnOf n n (cB_ st) (bH_ st) (af_ st) .none kV dc pm an cd ct),sl⟩) (c:W.codeIn K cd n=true) (k:W.keepIn K (.ref f)=true):Hf K n st f:=⟨a,_,s9_ l c k⟩
theorem tw_ {l:W.OpenLaw}{w:World}{K:W.Frag}{h:Heap}{mg:Str->Option Value}{fa:Addr} (X:K.In h) (G:h.Ns mainGlobals mg) (hfa:mg "law"=some (.ref fa))
  {f0 f1 f2 f3 f4 f5 f6 f7 f8 f9 f10 f11 f12 f13 f14 f15 f16 f17 f18 f19 f20 f21 f22 f23 f24 f25 f26 f27 f28 f29 f30 f31 f32 f33 f34 f35 f36 f37 f38 f39 f40 f41 f42 f43 f44 f45 f46 f47 f48 f49 f50:Addr}
  (h0:Hf K "is_whole" dX_ f0)
  (h1:Hf K "need_between" b7_ f1)
  (h2:Hf K "need_wide" dm_ f2)
  (h3:Hf K "need_degree" ct_ f3)
  (h4:Hf K "choose" gl_ f4)
  (h5:Hf K "is_row" gk_ f5)
  (h6:Hf K "row_weight" bA_ f6)
  (h7:Hf K "need_rows" dn_ f7)
  (h8:Hf K "with_more" dl_ f8)
  (h9:Hf K "product_of" cO_ f9)
  (h10:Hf K "filled_up" do_ f10)
  (h11:Hf K "rows_within" bM_ f11)
  (h12:Hf K "rows_beyond" cr_ f12)
  (h13:Hf K "choices" eX_ f13)
  (h14:Hf K "weights_gained" bE_ f14)
  (h15:Hf K "with_one_held" bS_ f15)
  (h16:Hf K "with_one_degree_fewer" aS_ f16)
  (h17:Hf K "summands" dW_ f17)
  (h18:Hf K "counted" eW_ f18)
  (h19:Hf K "asked_of" d0_ f19)
  (h20:Hf K "by_ends" eY_ f20)
  (h21:Hf K "points_through" bG_ f21)
  (h22:Hf K "count_row" dq_ f22)
  (h23:Hf K "rows_up_to" cN_ f23)
  (h24:Hf K "by_degree" dr_ f24)
  (h25:Hf K "add_products" b8_ f25)
  (h26:Hf K "wholes_by_degree" bj_ f26)
  (h27:Hf K "reckoned_whole" bF_ f27)
  (h28:Hf K "gathered" dZ_ f28)
  (h29:Hf K "how_many_sets" bk_ f29)
  (h30:Hf K "ends_at" eV_ f30)
  (h31:Hf K "sound" iX_ f31)
  (h32:Hf K "lost" mb_ f32)
  (h33:Hf K "lifts_from" cQ_ f33)
  (h34:Hf K "leaving" eU_ f34)
  (h35:Hf K "with_floor" bz_ f35)
  (h36:Hf K "drawings" c1_ f36)
  (h37:Hf K "parts" gj_ f37)
  (h38:Hf K "worth" iW_ f38)
  (h39:Hf K "need_sound" cP_ f39)
  (h40:Hf K "end_marks" dp_ f40)
  (h41:Hf K "put_between" cs_ f41)
  (h42:Hf K "how_many_orders" bt_ f42)
  (h43:Hf K "how_many" dY_ f43)
  (h44:Hf K "whole_by_floors" aQ_ f44)
  (h45:Hf K "_law_cell_at" ca_ f45)
  (h46:Hf K "_law_great" cR_ f46)
  (h47:Hf K "_law_digit" cS_ f47)
  (h48:Hf K "_law_odd" d1_ f48)
  (h49:Hf K "_law_refused" b9_ f49)
  (h50:Hf K "law" qn_ f50)
  (zz:∀n∈["isinstance","int","bool","range","list","sum","enumerate","tuple","len","min","zip","dict","sorted","set","ValueError"],W.nsIn K mainGlobals n=some none)
  {A_WIDE:Addr} (da_WIDE:W.nsIn K mainGlobals "WIDE"=some (some (.ref A_WIDE))) (dt_WIDE:kD_ K A_WIDE [(1,6),(2,6),(3,6),(4,6),(5,3)]=true)
  {C_NoBound:Addr} (ca_NoBound:W.nsIn K mainGlobals "NoBound"=some (some (.ref C_NoBound)))
  {C_NoEnds:Addr} (ca_NoEnds:W.nsIn K mainGlobals "NoEnds"=some (some (.ref C_NoEnds)))
  {C_NoDrawing:Addr} (ca_NoDrawing:W.nsIn K mainGlobals "NoDrawing"=some (some (.ref C_NoDrawing)))
  {C_CurveError:Addr} (ca_CurveError:W.nsIn K mainGlobals "CurveError"=some (some (.ref C_CurveError)))
  {C_NoNumber:Addr} (ca_NoNumber:W.nsIn K mainGlobals "NoNumber"=some (some (.ref C_NoNumber)))
  {C_NoText:Addr} (ca_NoText:W.nsIn K mainGlobals "NoText"=some (some (.ref C_NoText)))
  (cx_NoBound:W.excIn K C_NoBound bmV "ValueError.__new__"=true) (xc_NoBound:XC K C_NoBound)
  (cx_NoEnds:W.excIn K C_NoEnds bmV "ValueError.__new__"=true) (xc_NoEnds:XC K C_NoEnds)
  (cx_NoDrawing:W.excIn K C_NoDrawing bmV "ValueError.__new__"=true) (xc_NoDrawing:XC K C_NoDrawing)
  (ce_NoBound_CurveError:W.exmOne K (.ref C_NoBound) (.ref C_CurveError)=some true)
  (ce_NoEnds_CurveError:W.exmOne K (.ref C_NoEnds) (.ref C_CurveError)=some true)
  (ce_NoDrawing_CurveError:W.exmOne K (.ref C_NoDrawing) (.ref C_CurveError)=some true)
  (ck_NoBound_NoBound:W.kitOne K (.ref C_NoBound) (.ref C_NoBound)=some true)
  (ck_NoBound_ValueError:W.kitOne K (.ref C_NoBound) (.type "ValueError")=some true)
  (ck_NoEnds_NoBound:W.kitOne K (.ref C_NoEnds) (.ref C_NoBound)=some false)
  (ck_NoEnds_ValueError:W.kitOne K (.ref C_NoEnds) (.type "ValueError")=some true)
  (ck_NoDrawing_NoBound:W.kitOne K (.ref C_NoDrawing) (.ref C_NoBound)=some false)
  (ck_NoDrawing_ValueError:W.kitOne K (.ref C_NoDrawing) (.type "ValueError")=some true)
  (cs_NoBound_0:W.kitAny K (.ref C_NoBound) [(.ref C_NoDrawing),(.ref C_NoEnds),(.ref C_NoNumber),(.ref C_NoText)]=some false)
  (cs_NoEnds_1:W.kitAny K (.ref C_NoEnds) [(.ref C_NoDrawing),(.ref C_NoEnds),(.ref C_NoNumber),(.ref C_NoText)]=some true)
  (cs_NoDrawing_2:W.kitAny K (.ref C_NoDrawing) [(.ref C_NoDrawing),(.ref C_NoEnds),(.ref C_NoNumber),(.ref C_NoText)]=some true)
  :∃fd:FuncData,(∀(s:Shared) (v:Value),BindsTo s fd ⟨[v],[]⟩ [("_law_script",v)])/\∀base:Heap,K.In base->base.Ns mainGlobals mg->FnOk l.prog w K mg base CX0 59 fa fd ["_law_script"] (jQ_ K):=by
 obtain⟨a0,d0,F0⟩:=h0;obtain⟨a1,d1,F1⟩:=h1;obtain⟨a2,d2,F2⟩:=h2;obtain⟨a3,d3,F3⟩:=h3;obtain⟨a4,d4,F4⟩:=h4;obtain⟨a5,d5,F5⟩:=h5;obtain⟨a6,d6,F6⟩:=h6;obtain⟨a7,d7,F7⟩:=h7;obtain⟨a8,d8,F8⟩:=h8;obtain⟨a9,d9,F9⟩:=h9;obtain⟨a10,d10,F10⟩:=h10;obtain⟨a11,d11,F11⟩:=h11;obtain⟨a12,d12,F12⟩:=h12;obtain⟨a13,d13,F13⟩:=h13;obtain⟨a14,d14,F14⟩:=h14;obtain⟨a15,d15,F15⟩:=h15;obtain⟨a16,d16,F16⟩:=h16;obtain⟨a17,d17,F17⟩:=h17;obtain⟨a18,d18,F18⟩:=h18;obtain⟨a19,d19,F19⟩:=h19;obtain⟨a20,d20,F20⟩:=h20;obtain⟨a21,d21,F21⟩:=h21;obtain⟨a22,d22,F22⟩:=h22;obtain⟨a23,d23,F23⟩:=h23;obtain⟨a24,d24,F24⟩:=h24;obtain⟨a25,d25,F25⟩:=h25;obtain⟨a26,d26,F26⟩:=h26;obtain⟨a27,d27,F27⟩:=h27;obtain⟨a28,d28,F28⟩:=h28;obtain⟨a29,d29,F29⟩:=h29;obtain⟨a30,d30,F30⟩:=h30;obtain⟨a31,d31,F31⟩:=h31;obtain⟨a32,d32,F32⟩:=h32;obtain⟨a33,d33,F33⟩:=h33;obtain⟨a34,d34,F34⟩:=h34;obtain⟨a35,d35,F35⟩:=h35;obtain⟨a36,d36,F36⟩:=h36;obtain⟨a37,d37,F37⟩:=h37;obtain⟨a38,d38,F38⟩:=h38;obtain⟨a39,d39,F39⟩:=h39;obtain⟨a40,d40,F40⟩:=h40;obtain⟨a41,d41,F41⟩:=h41;obtain⟨a42,d42,F42⟩:=h42;obtain⟨a43,d43,F43⟩:=h43;obtain⟨a44,d44,F44⟩:=h44;obtain⟨a45,d45,F45⟩:=h45;obtain⟨a46,d46,F46⟩:=h46;obtain⟨a47,d47,F47⟩:=h47;obtain⟨a48,d48,F48⟩:=h48;obtain⟨a49,d49,F49⟩:=h49;obtain⟨a50,d50,F50⟩:=h50;cases hfa.symm.trans (W.mg_of X G a50);have Wq:=F50;obtain⟨_,_,_,_,_,_,_,_,_,rfl,_⟩:=F50.ex;have g {n:Str}{v:Value} (e:W.nsIn K mainGlobals n=some (some v)):mg n=some v:=W.mg_of X G e;exact⟨_,fun s v=> .of_eq rfl,fun base _ _=>sI_ (⟨f0,_,f1,_,f2,_,f3,_,f4,_,f5,_,f6,_,f7,_,f8,_,f9,_,f10,_,f11,_,f12,_,f13,_,f14,_,f15,_,f16,_,f17,_,f18,_,f19,_,f20,_,f21,_,f22,_,f23,_,f24,_,f25,_,f26,_,f27,_,f28,_,f29,_,f30,_,f31,_,f32,_,f33,_,f34,_,f35,_,f36,_,f37,_,f38,_,f39,_,f40,_,f41,_,f42,_,f43,_,f44,_,f45,_,f46,_,f47,_,f48,_,f49,_,fa,_,fb1 F0 (g a0) rfl fun _ _ _ _ _ _ _=>rfl,fb3 F1 (g a1) rfl fun _ _ _ _ _ _ _ _ _=>rfl,fb2 F2 (g a2) rfl fun _ _ _ _ _ _ _ _=>rfl,fb1 F3 (g a3) rfl fun _ _ _ _ _ _ _=>rfl,fb2 F4 (g a4) rfl fun _ _ _ _ _ _ _ _=>rfl,fb1 F5 (g a5) rfl fun _ _ _ _ _ _ _=>rfl,fb1 F6 (g a6) rfl fun _ _ _ _ _ _ _=>rfl,fb3 F7 (g a7) rfl fun _ _ _ _ _ _ _ _ _=>rfl,fb3 F8 (g a8) rfl fun _ _ _ _ _ _ _ _ _=>rfl,fb1 F9 (g a9) rfl fun _ _ _ _ _ _ _=>rfl,fb2 F10 (g a10) rfl fun _ _ _ _ _ _ _ _=>rfl,fb1 F11 (g a11) rfl fun _ _ _ _ _ _ _=>rfl,fb3 F12 (g a12) rfl fun _ _ _ _ _ _ _ _ _=>rfl,fb2 F13 (g a13) rfl fun _ _ _ _ _ _ _ _=>rfl,fb2 F14 (g a14) rfl fun _ _ _ _ _ _ _ _=>rfl,fb4 F15 (g a15) rfl fun _ _ _ _ _ _ _ _ _ _=>rfl,fb4 F16 (g a16) rfl fun _ _ _ _ _ _ _ _ _ _=>rfl,fb1 F17 (g a17) rfl fun _ _ _ _ _ _ _=>rfl,fb2 F18 (g a18) rfl fun _ _ _ _ _ _ _ _=>rfl,fb4 F19 (g a19) rfl fun _ _ _ _ _ _ _ _ _ _=>rfl,fb4 F20 (g a20) rfl fun _ _ _ _ _ _ _ _ _ _=>rfl,fb2 F21 (g a21) rfl fun _ _ _ _ _ _ _ _=>rfl,fb2 F22 (g a22) rfl fun _ _ _ _ _ _ _ _=>rfl,fb1 F23 (g a23) rfl fun _ _ _ _ _ _ _=>rfl,fb2 F24 (g a24) rfl fun _ _ _ _ _ _ _ _=>rfl,fb4 F25 (g a25) rfl fun _ _ _ _ _ _ _ _ _ _=>rfl,fb1 F26 (g a26) rfl fun _ _ _ _ _ _ _=>rfl,fb2 F27 (g a27) rfl fun _ _ _ _ _ _ _ _=>rfl,fb2 F28 (g a28) rfl fun _ _ _ _ _ _ _ _=>rfl,fb2 F29 (g a29) rfl fun _ _ _ _ _ _ _ _=>rfl,fb2 F30 (g a30) rfl fun _ _ _ _ _ _ _ _=>rfl,fb2 F31 (g a31) rfl fun _ _ _ _ _ _ _ _=>rfl,fb1 F32 (g a32) rfl fun _ _ _ _ _ _ _=>rfl,fb4 F33 (g a33) rfl fun _ _ _ _ _ _ _ _ _ _=>rfl,fb3 F34 (g a34) rfl fun _ _ _ _ _ _ _ _ _=>rfl,fb4 F35 (g a35) rfl fun _ _ _ _ _ _ _ _ _ _=>rfl,fb2 F36 (g a36) rfl fun _ _ _ _ _ _ _ _=>rfl,fb2 F37 (g a37) rfl fun _ _ _ _ _ _ _ _=>rfl,fb1 F38 (g a38) rfl fun _ _ _ _ _ _ _=>rfl,fb2 F39 (g a39) rfl fun _ _ _ _ _ _ _ _=>rfl,fb2 F40 (g a40) rfl fun _ _ _ _ _ _ _ _=>rfl,fb4 F41 (g a41) rfl fun _ _ _ _ _ _ _ _ _ _=>rfl,fb2 F42 (g a42) rfl fun _ _ _ _ _ _ _ _=>rfl,fb2 F43 (g a43) rfl fun _ _ _ _ _ _ _ _=>rfl,fb2 F44 (g a44) rfl fun _ _ _ _ _ _ _ _=>rfl,fb2 F45 (g a45) rfl fun _ _ _ _ _ _ _ _=>rfl,fb1 F46 (g a46) rfl fun _ _ _ _ _ _ _=>rfl,fb2 F47 (g a47) rfl fun _ _ _ _ _ _ _ _=>rfl,fb3 F48 (g a48) rfl fun _ _ _ _ _ _ _ _ _=>rfl,fb2 F49 (g a49) rfl fun _ _ _ _ _ _ _ _=>rfl,fb1 Wq (g a50) rfl fun _ _ _ _ _ _ _=>rfl,Ay X G (zz _ (by decide)),Ay X G (zz _ (by decide)),Ay X G (zz _ (by decide)),Ay X G (zz _ (by decide)),Ay X G (zz _ (by decide)),Ay X G (zz _ (by decide)),Ay X G (zz _ (by decide)),Ay X G (zz _ (by decide)),Ay X G (zz _ (by decide)),Ay X G (zz _ (by decide)),Ay X G (zz _ (by decide)),Ay X G (zz _ (by decide)),Ay X G (zz _ (by decide)),Ay X G (zz _ (by decide)),Ay X G (zz _ (by decide)),A_WIDE,g da_WIDE,dt_WIDE,C_NoBound,g ca_NoBound,C_NoEnds,g ca_NoEnds,C_NoDrawing,g ca_NoDrawing,C_CurveError,g ca_CurveError,C_NoNumber,g ca_NoNumber,C_NoText,g ca_NoText,cx_NoBound,xc_NoBound,cx_NoEnds,xc_NoEnds,cx_NoDrawing,xc_NoDrawing,ce_NoBound_CurveError,ce_NoEnds_CurveError,ce_NoDrawing_CurveError,ck_NoBound_NoBound,ck_NoBound_ValueError,ck_NoEnds_NoBound,ck_NoEnds_ValueError,ck_NoDrawing_NoBound,ck_NoDrawing_ValueError,cs_NoBound_0,cs_NoEnds_1,cs_NoDrawing_2⟩:Fns K mg)⟩
theorem walk {l:W.OpenLaw}{q:Program}{loose:List Str}{XP:(Str->Option Value)->Heap->Prop}{YP:World->Heap->Prop}{d:DefRec}{K:Params->W.Frag} (hn:l.most=some 63) (hdf:d.params.defaults=[])
  (hY:∀(w:World) (h:Heap),YP w h->(K w.params).In h)
  (F:∀(w:World) (mg:Str->Option Value) (fa:Addr) (h:Heap),(K w.params).In h->h.Ns mainGlobals mg->mg d.name=some (.ref fa)->
   ∃fd:FuncData,(∀(s:Shared) (u:Value),BindsTo s fd ⟨[u],[]⟩ [("_law_script",u)])/\∀base:Heap,(K w.params).In base->base.Ns mainGlobals mg->FnOk l.prog w (K w.params) mg base CX0 59 fa fd ["_law_script"] (jQ_ (K w.params))):
  W.WalkO q loose XP YP l.row.toRowW d [] (fun f vs=>PySem.call f vs):=
 L2.p1_ (n:=63) (k:=59) (x:="_law_script") (CX:=fun _=>CX0) (sp:=fun w=>jQ_ (K w.params)) hn (by decide) hdf ⟨rfl,by decide,by decide⟩ hY F (fun _ _ a ns hl _ hS=>⟨a,ns,rfl,hS,hl,fun _=>rfl⟩) fun _ _ _ _ _ z=>z
end Mine
open PySem PySem.W PyProof.Rows
namespace PySem.W.Fast
theorem tw8543537191402225068:0=0:=rfl
theorem tw11079419678961787815:0=0:=rfl
theorem tw13357166796400798947:0=0:=rfl
theorem tw6982388918569677197:0=0:=rfl
theorem tw7349450693069255348:0=0:=rfl
theorem tw13224336017969435211:0=0:=rfl
theorem tw11253514163924040618:0=0:=rfl
theorem tw9041509210065267051:0=0:=rfl
theorem tw4928157116365176994:0=0:=rfl
theorem tw17059946290261576355:0=0:=rfl
theorem tw15015204983684861124:0=0:=rfl
theorem tw7911085698782214412:0=0:=rfl
theorem tw7650587797014501404:0=0:=rfl
theorem tw8036753480191769949:0=0:=rfl
theorem tw12377952776056132399:0=0:=rfl
theorem tw3820031015426453309:0=0:=rfl
theorem tw349758442174723014:0=0:=rfl
theorem tw2221294550061611058:0=0:=rfl
theorem tw15981761883044197380:0=0:=rfl
theorem tw7593722242616513102:0=0:=rfl
theorem tw9088354217657102784:0=0:=rfl
theorem tw16706583695855522749:0=0:=rfl
theorem tw15668915800686758998:0=0:=rfl
theorem tw15561994502261575735:0=0:=rfl
theorem tw4828239271868363229:0=0:=rfl
theorem tw12413351990596171488:0=0:=rfl
theorem tw12879642222536450804:0=0:=rfl
theorem tw9069378550956906225:0=0:=rfl
theorem tw15780215309332679959:0=0:=rfl
theorem tw3402977744613503148:0=0:=rfl
theorem tw10669137425221077182:0=0:=rfl
theorem tw9371044513693187784:0=0:=rfl
theorem tw2887520571807709161:0=0:=rfl
theorem tw11477028945078770180:0=0:=rfl
theorem tw11194871367784541044:0=0:=rfl
theorem tw10387123209500230409:0=0:=rfl
theorem tw4848660321653454857:0=0:=rfl
theorem tw7229444253133238051:0=0:=rfl
theorem tw11428727279795211972:0=0:=rfl
theorem tw11371395101107235173:0=0:=rfl
theorem tw5596815610612722264:0=0:=rfl
theorem tw11844802083310732200:0=0:=rfl
theorem tw13125374718191527976:0=0:=rfl
theorem tw9705837777954987509:0=0:=rfl
theorem tw17345092153814413778:0=0:=rfl
theorem tw2692480463334045014:0=0:=rfl
theorem tw5462090420111408349:0=0:=rfl
theorem tw6285680024864286052:0=0:=rfl
theorem tw9647407732308842540:0=0:=rfl
theorem tw2345591076051799981:0=0:=rfl
theorem tw17658295545120328640:0=0:=rfl
theorem tw13137870779892999383:0=0:=rfl
theorem tw6931789677158517542:0=0:=rfl
theorem tw961789542900480705:0=0:=rfl
theorem tw16390133962062309850:0=0:=rfl
theorem tw919058997727780222:0=0:=rfl
theorem tw14842278657142110278:0=0:=rfl
theorem tw11142184569632031240:0=0:=rfl
theorem tw51873160726190008:0=0:=rfl
theorem tw8089361121135930957:0=0:=rfl
theorem tw10030666219232193162:0=0:=rfl
theorem tw590335406974896371:0=0:=rfl
theorem tw15345622031119806351:0=0:=rfl
theorem tw16923797425128819213:0=0:=rfl
theorem tw8493219249025912441:0=0:=rfl
theorem tw10259814173616011486:0=0:=rfl
theorem tw10879624831535113105:0=0:=rfl
theorem tw14604294351314645117:0=0:=rfl
theorem tw10521332220973504163:0=0:=rfl
theorem tw10937177833305921360:0=0:=rfl
theorem tw3357253313395167866:0=0:=rfl
theorem tw9153878372845811216:0=0:=rfl
theorem tw2399425557965143184:0=0:=rfl
theorem tw9043830013765876871:0=0:=rfl
theorem tw1541701564643358103:0=0:=rfl
theorem tw8344650067153562745:0=0:=rfl
theorem tw2384152612342209377:0=0:=rfl
theorem tw2326750727729672077:0=0:=rfl
theorem tw15307928623012443457:0=0:=rfl
theorem tw3193697482459383922:0=0:=rfl
theorem tw14634010925650372805:0=0:=rfl
theorem tw8476810409049322863:0=0:=rfl
theorem tw9428364305094298270:0=0:=rfl
theorem tw9788451254207500889:0=0:=rfl
theorem tw5555968688509992014:0=0:=rfl
theorem tw7107228035145930354:0=0:=rfl
theorem tw7973411366423612856:0=0:=rfl
theorem tw4150513485592496:0=0:=rfl
theorem tw14901640039814373120:0=0:=rfl
theorem tw3409723809624441242:0=0:=rfl
theorem tw14379055971865934310:0=0:=rfl
theorem tw976553680250426821:0=0:=rfl
theorem tw1112677307578227314:0=0:=rfl
theorem tw10572569216805885442:0=0:=rfl
theorem tw17362642628040482933:0=0:=rfl
theorem tw10032330518079885984:0=0:=rfl
theorem tw3740937973388176424:0=0:=rfl
theorem tw2881831253513673903:0=0:=rfl
theorem tw16222635672238722019:0=0:=rfl
theorem tw1687371242213611937:0=0:=rfl
theorem tw4135929076289517704:0=0:=rfl
theorem tw2991750288856132351:0=0:=rfl
theorem tw2611519118891407573:0=0:=rfl
theorem tw14043419917270666784:0=0:=rfl
theorem tw14201145980602437378:0=0:=rfl
theorem tw13703697261461567648:0=0:=rfl
theorem tw6022946432391995031:0=0:=rfl
theorem tw368968404652369831:0=0:=rfl
theorem tw7972317184910852855:0=0:=rfl
theorem tw4550439499505976288:0=0:=rfl
theorem tw6837939495520234498:0=0:=rfl
theorem tw11050723618928544632:0=0:=rfl
theorem tw5910329089257755294:0=0:=rfl
theorem tw14762564598329899701:0=0:=rfl
theorem tw7408692940622628451:0=0:=rfl
theorem tw15987465876729497468:0=0:=rfl
theorem tw55105216264150811:0=0:=rfl
theorem tw4348565572839128405:0=0:=rfl
theorem tw14236300913111405115:0=0:=rfl
theorem tw16372637391299610804:0=0:=rfl
theorem tw14932590592576009157:0=0:=rfl
theorem tw7515194541242368480:0=0:=rfl
theorem tw1860229472743621221:0=0:=rfl
theorem tw3600599899390407118:0=0:=rfl
theorem tw3416765864365294980:0=0:=rfl
theorem tw14141809096869555295:0=0:=rfl
theorem tw9693140388762604452:0=0:=rfl
theorem tw8332520230678669954:0=0:=rfl
theorem tw15088072166993873395:0=0:=rfl
theorem tw11762898913931309763:0=0:=rfl
theorem tw6583007111999716796:0=0:=rfl
theorem tw9600283423473961055:0=0:=rfl
theorem tw1867816085263125424:0=0:=rfl
theorem tw3647949385011130484:0=0:=rfl
theorem tw8672652507351196131:0=0:=rfl
theorem tw9073497294787239848:0=0:=rfl
theorem tw6888333371905965260:0=0:=rfl
theorem tw3565410589315049198:0=0:=rfl
theorem tw16792422283851844443:0=0:=rfl
theorem tw3816710323683717631:0=0:=rfl
theorem tw1921339051055792405:0=0:=rfl
theorem tw3046086707542738643:0=0:=rfl
theorem tw17760804868183779500:0=0:=rfl
theorem tw4020801922649601821:0=0:=rfl
theorem tw2116548364325845836:0=0:=rfl
theorem tw13977029458261727780:0=0:=rfl
theorem tw15518299006248659001:0=0:=rfl
theorem tw17561550870501924044:0=0:=rfl
theorem tw8164810176328694270:0=0:=rfl
theorem tw15945856666253042546:0=0:=rfl
theorem tw15365157900545350160:0=0:=rfl
theorem tw6033617233109463893:0=0:=rfl
theorem tw8476806353207473235:0=0:=rfl
theorem tw6171386831867319738:0=0:=rfl
theorem tw1380120280366136569:0=0:=rfl
theorem tw11942741964276488503:0=0:=rfl
theorem tw12101797118022490778:0=0:=rfl
theorem tw11840195556037263164:0=0:=rfl
theorem tw6636263942657456389:0=0:=rfl
theorem tw10591773213680226757:0=0:=rfl
theorem tw537626112784967260:0=0:=rfl
theorem tw2610382208927338042:0=0:=rfl
theorem tw5074908028520864421:0=0:=rfl
theorem tw11620839016731324772:0=0:=rfl
theorem tw14171928765550531200:0=0:=rfl
theorem tw6457357197138084797:0=0:=rfl
theorem tw1749935611096847573:0=0:=rfl
theorem tw3030879183129650768:0=0:=rfl
theorem tw11374821476858430781:0=0:=rfl
theorem tw9380598965400694561:0=0:=rfl
theorem tw9902310666622824651:0=0:=rfl
theorem tw7302093890980700886:0=0:=rfl
theorem tw11005690746070020333:0=0:=rfl
theorem tw7264231286930059339:0=0:=rfl
theorem tw7735186299406484601:0=0:=rfl
theorem tw6054642582334872446:0=0:=rfl
theorem tw3728389506523018564:0=0:=rfl
theorem tw2005529273748600620:0=0:=rfl
theorem tw8518388414075892946:0=0:=rfl
theorem tw687170576172599484:0=0:=rfl
theorem tw18097143532841215030:0=0:=rfl
theorem tw13396606221981495980:0=0:=rfl
theorem tw15604424031805790372:0=0:=rfl
theorem tw4826588748285917463:0=0:=rfl
theorem tw12101188681942733267:0=0:=rfl
theorem tw9097132448268294521:0=0:=rfl
theorem tw8366098765978146727:0=0:=rfl
theorem tw5103322006431290846:0=0:=rfl
theorem tw5628313905245382197:0=0:=rfl
theorem tw9958680353438460331:0=0:=rfl
theorem tw2351461529767181991:0=0:=rfl
theorem tw3309527221222189274:0=0:=rfl
theorem tw2206352222705504617:0=0:=rfl
theorem tw12992210327069589639:0=0:=rfl
theorem tw6893099560054724965:0=0:=rfl
theorem tw9020050743759302246:0=0:=rfl
theorem tw8209119443462029168:0=0:=rfl
theorem tw2765551849544369584:0=0:=rfl
theorem tw13839668962069477051:0=0:=rfl
theorem tw4858738120024741307:0=0:=rfl
theorem tw4351725049346783791:0=0:=rfl
theorem tw2255012310450218986:0=0:=rfl
theorem tw3008676744980454058:0=0:=rfl
theorem tw8288395273167497938:0=0:=rfl
theorem tw167673530949250145:0=0:=rfl
theorem tw10721574466270984824:0=0:=rfl
theorem tw4156824030562313920:0=0:=rfl
theorem tw16444434475755942773:0=0:=rfl
theorem tw2616432433729230956:0=0:=rfl
theorem tw3449398661079358883:0=0:=rfl
theorem tw12228051686032337003:0=0:=rfl
theorem tw8942711359886268711:0=0:=rfl
theorem tw6635603926014835491:0=0:=rfl
theorem tw7371275036331867163:0=0:=rfl
theorem tw17996096088219564229:0=0:=rfl
theorem tw8046079596927603453:0=0:=rfl
theorem tw8622464405808226544:0=0:=rfl
theorem tw189148454118008685:0=0:=rfl
theorem tw5415616312919566677:0=0:=rfl
theorem tw2436207425860117176:0=0:=rfl
theorem tw13847906596448607608:0=0:=rfl
theorem tw12501776400202185103:0=0:=rfl
theorem tw10456623477768212218:0=0:=rfl
theorem tw3187245210919147945:0=0:=rfl
theorem tw6654670292124537008:0=0:=rfl
theorem tw12497153926319221264:0=0:=rfl
theorem tw7905786134112615767:0=0:=rfl
theorem tw17981359530268720361:0=0:=rfl
theorem tw791435087033042641:0=0:=rfl
theorem tw7291385569811109677:0=0:=rfl
theorem tw4724724939550554144:0=0:=rfl
theorem tw8557969035475230110:0=0:=rfl
theorem tw5334872921411662695:0=0:=rfl
theorem tw5383849442452355677:0=0:=rfl
theorem tw13379783839594347061:0=0:=rfl
theorem tw566403902170904808:0=0:=rfl
theorem tw15450061153451291226:0=0:=rfl
theorem tw3795820914954835126:0=0:=rfl
theorem tw16409066245429150427:0=0:=rfl
theorem tw9691133639198915825:0=0:=rfl
theorem tw6819003618079316003:0=0:=rfl
theorem tw17718443294468234314:0=0:=rfl
theorem tw15808725584063919655:0=0:=rfl
theorem tw3259109588475040318:0=0:=rfl
theorem tw18321320714665672227:0=0:=rfl
theorem tw12580828472725308948:0=0:=rfl
theorem tw3651905289309731196:0=0:=rfl
theorem tw5543102026759993475:0=0:=rfl
theorem tw10288382543761579725:0=0:=rfl
theorem tw4568622831391150442:0=0:=rfl
theorem tw1046248519003705559:0=0:=rfl
theorem tw7474993757461300212:0=0:=rfl
theorem tw11928831852720995819:0=0:=rfl
theorem tw1853727733635834571:0=0:=rfl
theorem tw16889529672530904493:0=0:=rfl
theorem tw5157445040713596697:0=0:=rfl
theorem tw3673527535154494962:0=0:=rfl
theorem tw632016604740443369:0=0:=rfl
theorem tw5520770634626283639:0=0:=rfl
theorem tw3835535747597399003:0=0:=rfl
theorem tw8562244772335234044:0=0:=rfl
theorem tw5659137900565510093:0=0:=rfl
theorem tw3112052076499205438:0=0:=rfl
theorem tw10773483290036762230:0=0:=rfl
theorem tw11118340661344839304:0=0:=rfl
theorem tw15785240567528885498:0=0:=rfl
theorem tw9456000792481794827:0=0:=rfl
theorem tw6717912321161392387:0=0:=rfl
theorem tw10138986328432981790:0=0:=rfl
theorem tw9450407916788909318:0=0:=rfl
theorem tw605986736085608789:0=0:=rfl
theorem tw1138918502727140905:0=0:=rfl
theorem tw6814694089792818939:0=0:=rfl
theorem tw15431191864310302650:0=0:=rfl
theorem tw3152206355636824463:0=0:=rfl
theorem tw9045588975799650587:0=0:=rfl
theorem tw6643463342010818249:0=0:=rfl
theorem tw18257323631726575081:0=0:=rfl
theorem tw13737165467355395618:0=0:=rfl
theorem tw4328079914786734029:0=0:=rfl
theorem tw5856535025906441560:0=0:=rfl
theorem tw13328793659380031136:0=0:=rfl
theorem tw5430828107632987349:0=0:=rfl
theorem tw1140945293991677484:0=0:=rfl
theorem tw14536860255659153493:0=0:=rfl
theorem tw1099236578178146385:0=0:=rfl
theorem tw16261069882445187292:0=0:=rfl
theorem tw2065867748404014400:0=0:=rfl
theorem tw5430261990700848029:0=0:=rfl
theorem tw9263743069938688361:0=0:=rfl
theorem tw18244535489796712057:0=0:=rfl
theorem tw7364787460841639032:0=0:=rfl
theorem tw5899354077279142412:0=0:=rfl
theorem tw14490181732072242977:0=0:=rfl
theorem tw7489903805947420873:0=0:=rfl
theorem tw8427579804882817468:0=0:=rfl
theorem tw18056233918156912532:0=0:=rfl
theorem tw14979691099457720861:0=0:=rfl
theorem tw9045273728594990182:0=0:=rfl
theorem tw206585539516225803:0=0:=rfl
theorem tw12963348365125225344:0=0:=rfl
theorem tw5890233421222234933:0=0:=rfl
theorem tw3683653946551387408:0=0:=rfl
theorem tw4851361588663604501:0=0:=rfl
theorem tw6038257583753922957:0=0:=rfl
theorem tw7449323869653766115:0=0:=rfl
theorem tw6939246232365435832:0=0:=rfl
theorem tw8194427099112325073:0=0:=rfl
theorem tw14900894017950727970:0=0:=rfl
theorem tw1387330573721496021:0=0:=rfl
theorem tw12871474491044197987:0=0:=rfl
theorem tw2494755986620725993:0=0:=rfl
theorem tw4523397314833133996:0=0:=rfl
theorem tw4379618268386591459:0=0:=rfl
theorem tw876195181741856911:0=0:=rfl
theorem tw2121666166214336370:0=0:=rfl
theorem tw17416584521746384301:0=0:=rfl
theorem tw10637180686314364252:0=0:=rfl
theorem tw9073411472011816791:0=0:=rfl
theorem tw944687697080318758:0=0:=rfl
theorem tw6787502322184586167:0=0:=rfl
theorem tw2995029436784454003:0=0:=rfl
theorem tw11189921209502843146:0=0:=rfl
theorem tw15714275965442183662:0=0:=rfl
theorem tw8295738823679211341:0=0:=rfl
theorem tw6998032078884525628:0=0:=rfl
theorem tw18213425312228419138:0=0:=rfl
theorem tw11784687976398264195:0=0:=rfl
theorem tw10610776422377377984:0=0:=rfl
theorem tw4020813991136355136:0=0:=rfl
theorem tw17135293073379837576:0=0:=rfl
theorem tw16451783476617152432:0=0:=rfl
theorem tw14705129926992052543:0=0:=rfl
theorem tw6804218583502192846:0=0:=rfl
theorem tw11060094351282303614:0=0:=rfl
theorem tw5104755983849880948:0=0:=rfl
theorem tw10617435997202241392:0=0:=rfl
theorem tw5611137452991863410:0=0:=rfl
theorem tw18400642690179041778:0=0:=rfl
theorem tw16092759528842718973:0=0:=rfl
theorem tw7495878951619847435:0=0:=rfl
theorem tw4304983605639495216:0=0:=rfl
theorem tw5765536418835872993:0=0:=rfl
theorem tw7695837678247076355:0=0:=rfl
theorem tw8349938758702307802:0=0:=rfl
theorem tw4363575745916485551:0=0:=rfl
theorem tw10338164425210865960:0=0:=rfl
theorem tw11562392095923606069:0=0:=rfl
theorem tw8823379135346217343:0=0:=rfl
theorem tw8843974653227772617:0=0:=rfl
theorem tw2264132192325206053:0=0:=rfl
theorem tw2248360621917523482:0=0:=rfl
theorem tw1243199645283448949:0=0:=rfl
theorem tw6880645113368037660:0=0:=rfl
theorem tw13498111501144572555:0=0:=rfl
theorem tw8420818521977776414:0=0:=rfl
theorem tw17509676483265413254:0=0:=rfl
theorem tw14647751150703837300:0=0:=rfl
theorem tw9417728420259499839:0=0:=rfl
theorem tw15626391100671100168:0=0:=rfl
theorem tw18072657539234442640:0=0:=rfl
theorem tw16692682335953628083:0=0:=rfl
theorem tw15002508513442816277:0=0:=rfl
theorem tw3872115130828339094:0=0:=rfl
theorem tw2652966562615834939:0=0:=rfl
theorem tw14614653316197499168:0=0:=rfl
theorem tw12336844557239624425:0=0:=rfl
theorem tw9927790448918890894:0=0:=rfl
theorem tw16092855177870065005:0=0:=rfl
theorem tw15457852457815728426:0=0:=rfl
theorem tw7761957981622042723:0=0:=rfl
theorem tw1979802610456198772:0=0:=rfl
theorem tw10504725046716663778:0=0:=rfl
theorem tw4317453152178256373:0=0:=rfl
theorem tw9226557133208811725:0=0:=rfl
theorem tw11894272579167562738:0=0:=rfl
theorem tw14381657814959435876:0=0:=rfl
theorem tw16432252721875284990:0=0:=rfl
theorem tw13597506444242600054:0=0:=rfl
theorem tw11827807822229464194:0=0:=rfl
theorem tw2076780202642938035:0=0:=rfl
theorem tw16314812709602544432:0=0:=rfl
theorem tw14327114996731262053:0=0:=rfl
theorem tw18398524186318712883:0=0:=rfl
theorem tw2964978139697951263:0=0:=rfl
theorem tw13255567340006236768:0=0:=rfl
theorem tw13173317596732918773:0=0:=rfl
theorem tw7716765234354850718:0=0:=rfl
theorem tw8216767622214063662:0=0:=rfl
theorem tw10598066011864436545:0=0:=rfl
theorem tw7344005506483916425:0=0:=rfl
theorem tw12959235253509386761:0=0:=rfl
theorem tw7411040383492799379:0=0:=rfl
theorem tw10900866702082855717:0=0:=rfl
theorem tw1494106869758956858:0=0:=rfl
theorem tw996473625595854124:0=0:=rfl
theorem tw14521807309120452650:0=0:=rfl
theorem tw12853781867356832760:0=0:=rfl
theorem tw8430693809837981203:0=0:=rfl
theorem tw15191293454100318059:0=0:=rfl
theorem tw17757993021194535061:0=0:=rfl
theorem tw13890263561438820628:0=0:=rfl
theorem tw18174334983266159977:0=0:=rfl
theorem tw14853034608348724579:0=0:=rfl
theorem tw7645116632889595472:0=0:=rfl
theorem tw3897867067369096900:0=0:=rfl
theorem tw1577597716375715369:0=0:=rfl
theorem tw12793166035297254552:0=0:=rfl
theorem tw10408825291615775124:0=0:=rfl
end PySem.W.Fast
set_option maxRecDepth 100000 in
set_option maxHeartbeats 0 in
theorem PySem.Challenge.cw_floorcurves_k53_reckoned_wholes_holds : PySem.Challenge.rw_floorcurves_k53_reckoned_wholes.Holds := by
 w_on; o_law; k_head; (case hw => w_witness2)
 k_fill
 refine Mine.walk (l := PySem.Challenge.rw_floorcurves_k53_reckoned_wholes) rfl rfl (fun w h Y => PySem.W.kIn_of Y) ?F
 case F =>
  intro w mg fa h KX G hmg
  refine' Mine.tw_ KX G hmg ?h0 ?h1 ?h2 ?h3 ?h4 ?h5 ?h6 ?h7 ?h8 ?h9 ?h10 ?h11 ?h12 ?h13 ?h14 ?h15 ?h16 ?h17 ?h18 ?h19 ?h20 ?h21 ?h22 ?h23 ?h24 ?h25 ?h26 ?h27 ?h28 ?h29 ?h30 ?h31 ?h32 ?h33 ?h34 ?h35 ?h36 ?h37 ?h38 ?h39 ?h40 ?h41 ?h42 ?h43 ?h44 ?h45 ?h46 ?h47 ?h48 ?h49 ?h50 ?zz ?da_WIDE ?dt_WIDE ?ca_NoBound ?ca_NoEnds ?ca_NoDrawing ?ca_CurveError ?ca_NoNumber ?ca_NoText ?cx_NoBound ?xc_NoBound ?cx_NoEnds ?xc_NoEnds ?cx_NoDrawing ?xc_NoDrawing ?ce_NoBound_CurveError ?ce_NoEnds_CurveError ?ce_NoDrawing_CurveError ?ck_NoBound_NoBound ?ck_NoBound_ValueError ?ck_NoEnds_NoBound ?ck_NoEnds_ValueError ?ck_NoDrawing_NoBound ?ck_NoDrawing_ValueError ?cs_NoBound_0 ?cs_NoEnds_1 ?cs_NoDrawing_2
  (case h0 | h1 | h2 | h3 | h4 | h5 | h6 | h7 | h8 | h9 | h10 | h11 | h12 | h13 | h14 | h15 | h16 | h17 | h18 | h19 | h20 | h21 | h22 | h23 | h24 | h25 | h26 | h27 | h28 | h29 | h30 | h31 | h32 | h33 | h34 | h35 | h36 | h37 | h38 | h39 | h40 | h41 | h42 | h43 | h44 | h45 | h46 | h47 | h48 | h49 | h50 => refine' Mine.u0_ ?a ?l ?c ?k; (case a => k_is); (case l => k_is); (case c => k_is); (case k => k_is))
  (case zz => intro n hn; simp only [List.mem_cons, List.not_mem_nil, or_false] at hn; rcases hn with rfl | rfl | rfl | rfl | rfl | rfl | rfl | rfl | rfl | rfl | rfl | rfl | rfl | rfl | rfl <;> k_is)
  (case da_WIDE => k_is)
  (case dt_WIDE => first | k_is | kit_is | kts_exm | kernel_rfl)
  (case ca_NoBound | ca_NoEnds | ca_NoDrawing | ca_CurveError | ca_NoNumber | ca_NoText | cx_NoBound | cx_NoEnds | cx_NoDrawing => first | k_is | kit_is | kts_exm | kernel_rfl)
  (case xc_NoBound | xc_NoEnds | xc_NoDrawing => constructor <;> first | k_is | kit_is | kts_exm | kernel_rfl)
  (case ce_NoBound_CurveError | ce_NoEnds_CurveError | ce_NoDrawing_CurveError | ck_NoBound_NoBound | ck_NoBound_ValueError | ck_NoEnds_NoBound | ck_NoEnds_ValueError | ck_NoDrawing_NoBound | ck_NoDrawing_ValueError | cs_NoBound_0 | cs_NoEnds_1 | cs_NoDrawing_2 => first | k_is | kit_is | kts_exm | kernel_rfl)
#print axioms PySem.Challenge.cw_floorcurves_k53_reckoned_wholes_holds

import PyProof.Rows.All
import Wide.All
import OpenK.AllK
import Wide.FinOn
import PySem.Challenge.RW_floorcurves_k93_whole_polynomials
import Lean
import PyProof.EqAt
import PyProof.EqKinds
import PyProof.TupleCall
local macro_rules | `(tactic| lia) => `(tactic| first | lia -verbose | omega)
local macro_rules | `(tactic| ac_nf) => `(tactic| decide +kernel)
local macro_rules | `(tactic| trivial) => `(tactic| first | exact Or.inl rfl | exact Or.inr rfl)
abbrev A0:=@PySem.wpAny_bind
abbrev A1:=@List.length_map
abbrev A2:=@List.getElem?_eq_getElem
abbrev A3:=@Option.map_eq_some_iff
abbrev A4:=@PySem.wpAny_pure
abbrev A5:=@List.getElem?_map
abbrev A6:=@if_neg
abbrev A7:=@Nat.le_refl
abbrev A8:=@if_pos
abbrev A9:=@Bool.and_eq_true
abbrev A':=@List.getElem?_eq_some_iff
abbrev AA:=@List.size_toArray
abbrev AB:=@PySem.Heap.get?_push_of_some
abbrev AC:=@Option.bind_eq_some_iff
abbrev AD:=@List.map_append
abbrev AE:=@List.getD_eq_getElem?_getD
abbrev AF:=@List.take_add_one
abbrev AG:=@PySem.Heap.lt_size
abbrev AH:=@List.length_append
abbrev AI:=@PySem.Heap.get?_push_size
abbrev AJ:=@PyProof.Rows.wpS_bind
abbrev AK:=@Nat.ne_of_lt
abbrev AL:=@List.mem_of_getElem?
abbrev AM:=@Bool.false_eq_true
abbrev AN:=@PySem.PassesOwn.never
abbrev AO:=@List.mem_cons
abbrev AQ:=@List.all_eq_true
abbrev AR:=@List.take_length
abbrev AS:=@Nat.zero_le
abbrev AT:=@List.map_cons
abbrev AU:=@Bool.false_ne_true
abbrev AV:=@Int.toNat_natCast
abbrev AW:=@List.length_take
abbrev AX:=@decide_eq_false
abbrev AY:=@List.mem_map
abbrev AZ:=@PyProof.Rows.wpS_pure
abbrev Aa:=@of_decide_eq_true
abbrev Ab:=@decide_eq_true_eq
abbrev Ac:=@Nat.le_trans
abbrev Ad:=@Nat.lt_of_lt_of_le
abbrev Ae:=@Nat.lt_succ_of_lt
abbrev Af:=@List.length_replicate
abbrev Ag:=@Nat.le_of_lt
abbrev Ah:=@List.length_cons
abbrev Ai:=@Array.getElem?_eq_getElem
abbrev Aj:=@PySem.W.mg_none_of
abbrev Ak:=@decide_eq_true
abbrev Al:=@List.mem_range
abbrev Am:=@Int.eq_ofNat_of_zero_le
abbrev An:=@Option.some.inj
abbrev Ao:=@PySem.F.plainAttrs_list
abbrev Ap:=@List.mem_append_right
abbrev Aq:=@List.replicate_succ
abbrev Ar:=@Array.length_toList
abbrev As:=@PySem.wpAny_newObj_type
abbrev At:=@PySem.wpAny_call_entry
abbrev Au:=@List.mem_cons_of_mem
abbrev Av:=@if_false
abbrev Aw:=@Option.some.injEq
abbrev Ax:=@List.mem_singleton
abbrev Ay:=@PySem.Heap.size_update
abbrev Az:=@PySem.Heap.get?_push_ne
abbrev B0:=@PySem.wpAny_holding
abbrev B1:=@PySem.sizeLine_eq
abbrev B2:=@List.mem_cons_self
abbrev B3:=@List.filter_append
abbrev B4:=@List.length_singleton
abbrev B5:=@List.not_mem_nil
abbrev B6:=@List.length_eq_zero_iff
abbrev B7:=@PySem.Heap.SameBut.update
abbrev B8:=@PySem.wpAny_truthy_bool
abbrev B9:=@List.range_succ
abbrev B':=@List.sum_cons
abbrev BA:=@List.map_congr_left
abbrev BB:=@PyProof.Rows.callWith_type1
abbrev BC:=@List.append_assoc
abbrev BD:=@PyProof.Rows.slot_tuple_getitem
abbrev BE:=@PySem.wpAny_setState_of
abbrev BF:=@List.length_set
abbrev BG:=@PySem.wpAny_callSpecial?_slot
abbrev BH:=@Nat.lt_or_ge
abbrev BI:=@PySem.F.slot_dict_valueiterator_next
abbrev BJ:=@PySem.wpAny_mono
abbrev BK:=@PySem.W.kia_one
abbrev BL:=@PySem.F.slot_dict_keyiterator_next
abbrev BM:=@List.mem_of_mem_drop
abbrev BN:=@List.mem_iff_getElem
abbrev BO:=@List.getElem?_set_ne
abbrev BP:=@PySem.Heap.size_push
abbrev BQ:=@PySem.wpAny_Call_Name_kw
abbrev BR:=@congrArg
abbrev BS:=@Nat.mul_le_mul
abbrev BU:=@Int.fdiv_eq_ediv_of_nonneg
abbrev BV:=@Array.getElem?_eq_none
abbrev BW:=@List.nodup_cons
abbrev BX:=@List.find?_cons
abbrev BY:=@List.append_nil
abbrev BZ:=@List.drop_eq_getElem_cons
abbrev Ba:=@List.length_filter_le
abbrev Bb:=@Nat.lt_succ_self
abbrev Bc:=@List.getElem_mem
abbrev Be:=@PySem.F.type_list_append
abbrev Bf:=@PySem.F.slot_list_append
abbrev Bg:=@Prod.mk.injEq
abbrev Bh:=@List.map_map
abbrev Bi:=@Bool.or_eq_true
abbrev Bj:=@PySem.mem_of_lookup
abbrev Bk:=@PySem.Around.under_plainId
abbrev Bl:=@PyProof.Rows.size_push'
abbrev Bm:=@Nat.lt_irrefl
abbrev Bo:=@PySem.Value.ref.injEq
abbrev Bp:=@Array.getElem?_eq_some_iff
abbrev Bq:=@Array.getElem?_toList
abbrev Br:=@PySem.codeAny_builtin
abbrev Bs:=@List.lookup_cons
abbrev Bt:=@PySem.Paired.length
abbrev Bu:=@Nat.ne_of_gt
abbrev Bv:=@List.take_of_length_le
abbrev Bw:=@List.pairwise_cons
abbrev Bx:=@List.map_replicate
abbrev By:=@Bool.not_true
abbrev Bz:=@PySem.wpAny_typeNameOfWhole_valiter
abbrev C0:=@PySem.wpAny_typeNameOfWhole_keyiter
abbrev C1:=@List.length_range
abbrev C2:=@List.flatten_cons
abbrev C3:=@PySem.Obj.data_mapFields
abbrev C4:=@PySem.wpAny_passesOwn
abbrev C5:=@PySem.wpAny_loadPart'
abbrev C6:=@or_false
abbrev C7:=@Int.eq_of_mul_eq_mul_right
abbrev C8:=@Bool.and_false
abbrev C9:=@if_true
abbrev CA:=@Nat.mul_comm
abbrev CC:=@PySem.Heap.get?_update_self
abbrev CD:=@PySem.wpAny_dictEntries
abbrev CF:=@List.pairwise_iff_getElem
abbrev CG:=@List.flatMap_append
abbrev CH:=@PySem.wpAny_setField
abbrev CI:=@PySem.F.type_list_extend
abbrev CJ:=@PySem.F.slot_list_extend
abbrev CK:=@PyProof.Rows.get?_update_seq
abbrev CL:=@Nat.min_eq_left
abbrev CM:=@List.sum_append
abbrev CN:=@List.mem_filter
abbrev CO:=@List.mem_append
abbrev CP:=@Int.emod_nonneg
abbrev CQ:=@PyProof.Rows.listUpdate_at
abbrev CS:=@Nat.lt_of_le_of_lt
abbrev CT:=@PySem.F.called_set
abbrev CU:=@PySem.wpAny_typeNameOf_valiter
abbrev CV:=@PySem.wpAny_typeNameOf_keyiter
abbrev CW:=@PySem.wpAny_attempt
abbrev CY:=@bne_self_eq_false
abbrev CZ:=@List.pairwise_map
abbrev Ca:=@List.foldl_append
abbrev Cb:=@Int.pow_succ
abbrev Cc:=@Int.natAbs_mul
abbrev Cd:=@PySem.wpAny_dictEpoch
abbrev Ce:=@PySem.Calls.spliced_cons
abbrev Cf:=@List.getElem?_eq_none
abbrev Cg:=@PyProof.Rows.callWith_builtin1
abbrev Ch:=@Nat.mod_lt
abbrev Ci:=@List.mem_flatMap
abbrev Cj:=@List.length_drop
abbrev Ck:=@PySem.wpAny_fieldsOf
abbrev Cm:=@Nat.pow_le_pow_right
abbrev Cn:=@Nat.le_succ
abbrev Co:=@List.mem_of_mem_take
abbrev Cp:=@Int.mul_ediv_cancel'
abbrev Cq:=@PySem.Calls.callWith_builtin
abbrev Cr:=@List.foldl_cons
abbrev Cs:=@PyProof.Rows.wpS_modify
abbrev Ct:=@List.mem_map_of_mem
abbrev Cu:=@List.getD_cons_succ
abbrev Cv:=@PySem.wpAny_askSetting
abbrev Cw:=@Nat.succ_mul
abbrev Cy:=@List.map_nil
abbrev Cz:=@Int.mul_comm
abbrev D0:=@PySem.wpAny_newList
abbrev D1:=@PySem.plainId_quiet
abbrev D3:=@beq_iff_eq
abbrev D4:=@List.mem_filterMap
abbrev D5:=@List.getElem?_append_right
abbrev D6:=@Int.ofNat_dvd_left
abbrev D7:=@Array.perm_iff_toList_perm
abbrev D8:=@PySem.Heap.get?_update_ne
abbrev D9:=@PySem.wpAny_typeOf
abbrev D':=@PySem.codeAny_mono
abbrev DA:=@PySem.wpAny_rule
abbrev DB:=@PySem.tupleKind_room_in1
abbrev DC:=@PySem.call_meets
set_option pp.maxSteps 400
set_option Elab.async false
set_option linter.all false
set_option maxRecDepth 100000
set_option maxHeartbeats 4000000
set_option Elab.async false
set_option linter.all false
set_option maxRecDepth 100000
namespace L2
open PySem PySem.Spec PyProof.Rows
abbrev Key:=Sum Int Str
def kR_:Key->Value->Bool
 | .inl k,v=>Value.isInt k v
 | .inr x,v=>Value.isStrOf x v
def uE_ (w:World):Key->Int
 | .inl k=>hashInt k
 | .inr x=>hashStr w x
theorem aY_:∀{k:Key}{v:Value},kR_ k v=true->(∃i t,k=Sum.inl i/\v=Value.int i t)\/(∃x t,k=Sum.inr x/\v=Value.str x t)
 | .inl i,v,h=>by
  obtain⟨t,e⟩:=Value.isInt_shape (k:=i) (v:=v) h;exact .inl ⟨i,t,rfl,e⟩
 | .inr x,v,h=>by
  obtain⟨t,e⟩:=Value.isStrOf_shape (x:=x) (v:=v) h;exact .inr ⟨x,t,rfl,e⟩
theorem mu_ (i:Int) (t:Tok):kR_ (.inl i) (.int i t)=true:=by simp [kR_,Value.isInt]
theorem mt_ (x:Str) (t:Tok):kR_ (.inr x) (.str x t)=true:=by simp [kR_,Value.isStrOf]
theorem sc_ (a b:Int):decide ((Sum.inl a:Key)=Sum.inl b)=(a==b):=by
 by_cases e:a=b
 .subst e;simp
 .have h:¬(Sum.inl a:Key)=Sum.inl b:=fun q=>e (Sum.inl.inj q);rw [AX h];exact(beq_eq_false_iff_ne.mpr e).symm
theorem r9_ (a b:Str):decide ((Sum.inr a:Key)=Sum.inr b)=decide (a=b):=by
 by_cases e:a=b
 .subst e;simp
 .have h:¬(Sum.inr a:Key)=Sum.inr b:=fun q=>e (Sum.inr.inj q);rw [AX h,AX e]
theorem sb_ (a:Int) (b:Str):decide ((Sum.inl a:Key)=Sum.inr b)=false:=AX (fun q=>nomatch q)
theorem sa_ (a:Str) (b:Int):decide ((Sum.inr a:Key)=Sum.inl b)=false:=AX (fun q=>nomatch q)
def a2_ (prog:Program) (w:World):PySem.KeyKind prog w Key where
 is:=kR_
 hash:=uE_ w
 inj:=fun v a b ha hb=>by
  rcases aY_ ha with⟨i,t,rfl,rfl⟩|⟨x,t,rfl,rfl⟩
  .rcases aY_ hb with⟨j,u,rfl,e⟩|⟨y,u,rfl,e⟩
   .injection e with e1 _;rw [e1]
   .exact nomatch e
  .rcases aY_ hb with⟨j,u,rfl,e⟩|⟨y,u,rfl,e⟩
   .exact nomatch e
   .injection e with e1 _;rw [e1]
 byValue:=fun k v h=>by
  rcases aY_ h with⟨i,t,rfl,rfl⟩|⟨x,t,rfl,rfl⟩<;>rfl
 pyHash:=fun hv h=>by
  rcases aY_ hv with⟨i,t,rfl,rfl⟩|⟨x,t,rfl,rfl⟩
  .exact wpAny_pyHash_int h
  .exact wpAny_pyHash_str h
 eqBool:=fun hu hv h=>by
  rcases aY_ hu with⟨i,t,rfl,rfl⟩|⟨x,t,rfl,rfl⟩
  .rcases aY_ hv with⟨j,u,rfl,rfl⟩|⟨y,u,rfl,rfl⟩
   .rw [sc_] at h;exact wpAny_eqBool_int h
   .rw [sb_] at h;exact SeqAt.EqAt.int_str i t y u _ _ _ _ h
  .rcases aY_ hv with⟨j,u,rfl,rfl⟩|⟨y,u,rfl,rfl⟩
   .rw [sa_] at h;exact SeqAt.EqAt.str_int x t j u _ _ _ _ h
   .rw [r9_] at h;exact wpAny_eqBool_str h
 «strs»:=fun k x t v h=>by
  rcases aY_ h with⟨i,u,rfl,e⟩|⟨y,u,rfl,e⟩
  .exact nomatch e
  .injection e with e1 _;subst e1;cases v<;>rfl
theorem i7_ (prog:Program) (w:World) (i:Int) (t:Tok):(a2_ prog w).is (.inl i) (.int i t)=true:=mu_ i t
theorem i6_ (prog:Program) (w:World) (x:Str) (t:Tok):(a2_ prog w).is (.inr x) (.str x t)=true:=mt_ x t
end L2
namespace L2
open PySem PySem.Spec PyProof.Rows
inductive V where
 |non|bl (b:Bool)|int (i:Int)|str (x:Str)|byt (b:Array UInt8)|flt (b:UInt64)|ref (a:Addr)|ty (n:String)
 deriving DecidableEq
def a3_:V->Value->Prop
 | .non,u=>u=Value.none
 | .bl b,u=>u=Value.bool b
 | .int i,u=>∃t,u=Value.int i t
 | .str x,u=>∃t,u=Value.str x t
 | .byt b,u=>∃t,u=Value.bytes b t
 | .flt b,u=>∃t,u=Value.float b t
 | .ref a,u=>u=Value.ref a
 | .ty n,u=>u=Value.type n
abbrev aX_:List V->List Value->Prop:=Paired a3_
theorem aX_.length {xs:List V}{us:List Value} (r:aX_ xs us):xs.length=us.length:=Bt r
theorem aX_.get:∀{xs:List V}{us:List Value}{i:Nat}{x:V},aX_ xs us->xs[i]? =some x->∃u,us[i]? =some u/\a3_ x u
 |_,_,_,_, .nil,e=>by simp at e
 |_,_,0,_, .cons r _,e=>by simp at e;subst e;exact⟨_,rfl,r⟩
 |_,_,i+1,x, .cons _ t,e=>by
  obtain⟨u,h1,h2⟩:=aX_.get (i:=i) (x:=x) t (by simpa using e);exact⟨u,by simpa using h1,h2⟩
theorem aX_.set {x:V}{u:Value} (r:a3_ x u):∀{xs:List V}{us:List Value} (i:Nat),aX_ xs us->aX_ (xs.set i x) (us.set i u)
 |_,_,_, .nil=> .nil
 |_,_,0, .cons _ t=> .cons r t
 |_,_,i+1, .cons q t=> .cons q (aX_.set r i t)
theorem aX_.append:∀{xs ys:List V}{us ws:List Value},aX_ xs us->aX_ ys ws->aX_ (xs++ys) (us++ws)
 |_,_,_,_, .nil,s=>s
 |_,_,_,_, .cons r t,s=> .cons r (aX_.append t s)
theorem aX_.take:∀{xs:List V}{us:List Value} (n:Nat),aX_ xs us->aX_ (xs.take n) (us.take n)
 |_,_,0,_=> .nil
 |_,_,_+1, .nil=> .nil
 |_,_,n+1, .cons r t=> .cons r (aX_.take n t)
theorem aX_.drop:∀{xs:List V}{us:List Value} (n:Nat),aX_ xs us->aX_ (xs.drop n) (us.drop n)
 |_,_,0,r=>r
 |_,_,_+1, .nil=> .nil
 |_,_,n+1, .cons _ t=>aX_.drop n t
def k3_:Option V->Option Value->Prop
 |some v,some u=>a3_ v u
 |none,none=>True
 |_,_=>False
def KV {κ:Type}:List (κ×V)->List (κ×Value)->Prop:=Paired fun(p:κ×V) (q:κ×Value)=>p.1=q.1/\a3_ p.2 q.2
def kV:Key->V
 | .inl i=> .int i
 | .inr x=> .str x
inductive HO where
  |lst (xs:List V)
  |tup (xs:List V)
  |dK (kvs:List (Key×V))|dT (kvs:List (List Key×V))
  |set (S:Int->Bool) (n:Nat)
  |ins (C dx:Addr) (fs:List (Str×V))
  |own (x:Addr)
  |xd (fs:List (Str×V))
  |met (f x:Addr)
  |rng (lo hi:Int)
  |frz (o:Obj) (u:HO)
  |tbl (ps:Array Value)
  |ext (φ:Heap->Prop)
abbrev Hp:=Addr->Option HO
def upd (H:Hp) (a:Addr) (o:HO):Hp:=fun b=>if b=a then some o else H b
theorem ad_ {H:Hp}{a:Addr}{o:HO}:upd H a o a=some o:=by unfold upd;rw [A8 rfl]
theorem ar_ {H:Hp}{a b:Addr}{o:HO} (h:b≠a):upd H a o b=H b:=by unfold upd;rw [A6 h]
theorem ld_ {H:Hp}{a:Addr}{o u:HO}:upd (upd H a o) a u=upd H a u:=by
 funext b;unfold upd;split<;>rfl
theorem nT_ {H:Hp}{a b:Addr}{o u:HO} (h:H a=some o) (h':H b=some u) (d:o≠u):a≠b:=by
 intro e;subst e;rw [h] at h';exact d (An h')
theorem av_ {H:Hp}{a b:Addr}{o:HO} (h:H a=some o) (h':H b=none):a≠b:=by
 intro e;subst e;rw [h] at h';cases h'
section
variable (P:Program) (w:World)
def aS_ (H:Hp) (h:Heap) (a:Addr):HO->Prop
 | .lst xs=>xs.length<=sizeLine/\∃(its:List Value) (n:Nat),aX_ xs its/\h.get? a=some {cls:= .type "list",data:= .seq its.toArray n}
 | .tup xs=>xs.length<=sizeLine/\∃its:List Value,aX_ xs its/\IsTup h a its.toArray
 | .dK kvs=>kvs.length<=sizeLine/\(a==sysModules)=false/\∃vs,KV kvs vs/\h.DictOf (a2_ P w) a vs
 | .dT kvs=>kvs.length<=sizeLine/\(a==sysModules)=false/\∃xs:List (List Key×Addr×Value),
   Paired (fun(p:List Key×V) (q:List Key×Addr×Value)=>p.1=q.1/\H q.2.1=some (.tup (p.1.map kV))/\a3_ p.2 q.2.2) kvs xs/\
   ∃o es ep,h.get? a=some o/\o.ExactDict/\o.data= .dict es ep/\es.toList=xs.map (entryOfKey (tupleKind (a2_ P w)))/\(xs.map (·.1)).Nodup
 | .set S n=>h.SetOf (intKind P w) a S n
 | .ins C dx fs=>H dx=some (.own a)/\fs.length<=1000/\dx≠a/\h.get? a=some (W.instObj C dx)/\
   ∃mA,h.Ns1 dx mA/\(∀f,k3_ (fs.lookup f) (mA f))/\PySem.Within mA (fs.map (·.1))
 | .own _=>∃o,h.get? a=some o
 | .xd fs=>∃mA,h.Ns1 a mA/\∀f,k3_ (fs.lookup f) (mA f)
 | .rng lo hi=>∃t u v,h.get? a=some {cls:= .type "range",data:= .fields #[.int lo t, .int hi u, .int 1 v]}
 | .frz o u=>h.get? a=some o/\aS_ H h a u
 | .tbl ps=>h.get? a=some {cls:= .none,data:= .fields ps}
 | .met f x=>h.get? a=some (W.methodObj (.ref f) (.ref x))
 | .ext φ=>φ h/\(∃o,h.get? a=some o)/\∀h1 h2:Heap,φ h1->(∀o,h1.get? a=some o->h2.get? a=some o)->φ h2
def HOk (H:Hp) (h:Heap):Prop:=∀a o,H a=some o->aS_ P w H h a o
end
section
variable {P:Program}{w:World}{H H':Hp}{h h':Heap}{a:Addr}{o:HO}
theorem aS_.lt (x:aS_ P w H h a o):a<h.objs.size:=by
 cases o with
 |lst xs=>obtain⟨_,_,_,_,e⟩:=x;exact AG e
 |tup xs=>obtain⟨_,_,_,p⟩:=x;exact p.lt
 |dK kvs=>obtain⟨_,_,_,_,o,_,_,e,_⟩:=x;exact AG e
 |dT kvs=>obtain⟨_,_,_,_,o,_,_,e,_⟩:=x;exact AG e
 |set S n=>obtain⟨o,_,_,_,e,_⟩:=x;exact AG e
 |ins C dx fs=>obtain⟨_,_,_,e,_⟩:=x;exact AG e
 |own y=>obtain⟨_,e⟩:=x;exact AG e
 |xd fs=>obtain⟨_,⟨_,_,_,e,_⟩,_⟩:=x;exact AG e
 |rng lo hi=>obtain⟨_,_,_,e⟩:=x;exact AG e
 |frz ob u=>obtain⟨e,_⟩:=x;exact AG e
 |tbl ps=>exact AG (show h.get? a=some _ from x)
 |met f y=>exact AG (show h.get? a=some _ from x)
 |ext φ=>obtain⟨_,⟨_,e⟩,_⟩:=x;exact AG e
theorem Paired.mapP {α β:Type}{F G:α->β->Prop}:∀{l₁:List α}{l₂:List β},Paired F l₁ l₂->(∀a b,F a b->G a b)->Paired G l₁ l₂
 |_,_, .nil,_=> .nil
 |_,_, .cons r t,f=> .cons (f _ _ r) (Paired.mapP t f)
theorem aS_.stay (x:aS_ P w H h a o) (k:∀b u,(b=a\/H b=some (.own a))->h.get? b=some u->h'.get? b=some u)
  (ho:∀b,H b=some (.own a)->H' b=some (.own a)) (ht:∀b xs,H b=some (.tup xs)->H' b=some (.tup xs)):aS_ P w H' h' a o:=by
 induction o with
 |lst xs=>obtain⟨z,its,n,r,e⟩:=x;exact⟨z,its,n,r,k _ _ (.inl rfl) e⟩
 |tup xs=>obtain⟨z,its,r,ob,e,c⟩:=x;exact⟨z,its,r,ob,k _ _ (.inl rfl) e,c⟩
 |dK kvs=>obtain⟨z,y,vs,r,ob,es,ep,e,c⟩:=x;exact⟨z,y,vs,r,ob,es,ep,k _ _ (.inl rfl) e,c⟩
 |dT kvs=>
  obtain⟨z,y,xs,r,ob,es,ep,e,c⟩:=x;exact⟨z,y,xs,Paired.mapP r fun p q z=>⟨z.1,ht _ _ z.2.1,z.2.2⟩,ob,es,ep,k _ _ (.inl rfl) e,c⟩
 |set S n=>obtain⟨ob,es,ep,t,e,c⟩:=x;exact⟨ob,es,ep,t,k _ _ (.inl rfl) e,c⟩
 |ins C dx fs=>
  obtain⟨d,z,ne,e,mA,⟨od,es,ep,e2,c⟩,r⟩:=x;exact⟨ho _ d,z,ne,k _ _ (.inl rfl) e,mA,⟨od,es,ep,k _ _ (.inr d) e2,c⟩,r⟩
 |own y=>obtain⟨ob,e⟩:=x;exact⟨ob,k _ _ (.inl rfl) e⟩
 |xd fs=>obtain⟨mA,⟨od,es,ep,e,c⟩,r⟩:=x;exact⟨mA,⟨od,es,ep,k _ _ (.inl rfl) e,c⟩,r⟩
 |rng lo hi=>obtain⟨t,u,v,e⟩:=x;exact⟨t,u,v,k _ _ (.inl rfl) e⟩
 |frz ob u ih=>obtain⟨e,q⟩:=x;exact⟨k _ _ (.inl rfl) e,ih q⟩
 |tbl ps=>
  have e:h.get? a=some {cls:= .none,data:= .fields ps}:=x;show h'.get? a=some {cls:= .none,data:= .fields ps};exact k a _ (.inl rfl) e
 |met f y=>
  have e:h.get? a=some (W.methodObj (.ref f) (.ref y)):=x;show h'.get? a=some (W.methodObj (.ref f) (.ref y));exact k a _ (.inl rfl) e
 |ext φ=>obtain⟨p,⟨o,e⟩,st⟩:=x;exact⟨st _ _ p fun o q=>k _ _ (.inl rfl) q,⟨o,k _ _ (.inl rfl) e⟩,st⟩
theorem HOk.lt (x:HOk P w H h) (e:H a=some o):a<h.objs.size:=(x a o e).lt
theorem HOk.fresh (x:HOk P w H h) (e:h.objs.size<=a):H a=none:=by
 cases q:H a with
 |none=>rfl
 |some u=>exact absurd (Ad (x.lt q) e) (Bm _)
theorem HOk.kept (x:HOk P w H h) (k:∀b u,h.get? b=some u->h'.get? b=some u):HOk P w H h':=fun a o e=>
 (x a o e).stay (fun b u _ q=>k b u q) (fun _ q=>q) fun _ _ q=>q
theorem HOk.laid (x:HOk P w H h) (k:∀b u,h.get? b=some u->h'.get? b=some u) (hp:h.objs.size<=a) (new:aS_ P w (upd H a o) h' a o):HOk P w (upd H a o) h':=fun b u e=>by
 have hn:=x.fresh hp;by_cases hb:b=a
 .subst hb;rw [ad_] at e;cases e;exact new
 .rw [ar_ hb] at e;exact(x b u e).stay (fun c v _ q=>k c v q) (fun c q=>by rw [ar_ (av_ q hn)];exact q) fun c xs q=>by rw [ar_ (av_ q hn)];exact q
end
def Rd (H:Hp) (a:Addr) (u:HO):Prop:=H a=some u\/∃o,H a=some (.frz o u)
theorem Rd.ok {P:Program}{w:World}{H:Hp}{h:Heap}{a:Addr}{u:HO} (r:Rd H a u) (x:HOk P w H h):aS_ P w H h a u:=by
 rcases r with r|⟨o,r⟩
 .exact x a u r
 .obtain⟨_,q⟩:=x a _ r;exact q
def Mut:Option HO->Prop
 |some (.lst _)=>True
 |some (.dK _)=>True
 |some (.dT _)=>True
 |some (.set _ _)=>True
 |some (.ins _ _ _)=>True
 |some (.ext _)=>True
 |_=>False
section
variable {P:Program}{w:World}{H:Hp}{h h':Heap}{x e:Addr}{o':HO}
theorem HOk.write (ok:HOk P w H h) (mu:Mut (H x)) (he:e=x\/H e=some (.own x)) (k:∀b u,b≠e->h.get? b=some u->h'.get? b=some u) (heo:∃u,h'.get? e=some u)
  (new:aS_ P w (upd H x o') h' x o'):HOk P w (upd H x o') h':=fun b u q=>by
 have nown:∀c y,H c=some (.own y)->c≠x:=fun c y r z=>by subst z;rw [r] at mu;exact mu
 have ntup:∀c xs,H c=some (.tup xs)->c≠x:=fun c xs r z=>by subst z;rw [r] at mu;exact mu
 by_cases hb:b=x
 .subst hb;rw [ad_] at q;cases q;exact new
 .rw [ar_ hb] at q;by_cases hbe:b=e
  .have q':H b=some (.own x):=by
    rcases he with z|z
    .exact absurd (hbe.trans z) hb
    .rw [hbe];exact z
   rw [q] at q';cases q';obtain⟨v,hv⟩:=heo;exact⟨v,by rw [hbe];exact hv⟩
  .refine(ok b u q).stay (fun c v hc r=>k c v ?_ r) (fun c r=>by rw [ar_ (nown c b r)];exact r) fun c xs r=>by rw [ar_ (ntup c xs r)];exact r
   rcases hc with rfl|hc
   .exact hbe
   .rintro rfl;rcases he with z|z
    .exact nown c b hc z
    .rw [hc] at z;cases z;exact hb rfl
end
structure Un (fs ex:List Addr) (H H':Hp) (h h':Heap):Prop where
 keep:∀b o,h.get? b=some o->H b=none->b∉fs->b∉ex->h'.get? b=some o
 slot:∀b o,h.get? b=some o->H b=none->b∈fs->b∉ex->∃sl,h'.get? b=some {o with slots:=sl}
 free:∀b o,h.get? b=some o->H b=none->b∉ex->H' b=none
 there:∀b o,h.get? b=some o->b∉ex->∃o',h'.get? b=some o'
 tups:∀b xs,H b=some (.tup xs)->H' b=some (.tup xs)
 frzs:∀b o u,H b=some (.frz o u)->H' b=some (.frz o u)
 tbls:∀b ps,H b=some (.tbl ps)->∃more,H' b=some (.tbl (ps++more))
section
variable {fs fs' ex ex':List Addr}{H H1 H2:Hp}{h h1 h2 h':Heap}{a x e:Addr}{o:HO}
theorem Un.any (u:Un fs ex H H1 h h1) {b:Addr}{ob:Obj} (q:h.get? b=some ob) (n:H b=none) (hx:b∉ex):∃sl,h1.get? b=some {ob with slots:=sl}:=by
 by_cases hb:b∈fs
 .exact u.slot b ob q n hb hx
 .exact⟨ob.slots,u.keep b ob q n hb hx⟩
theorem Un.kept (k:∀b u,h.get? b=some u->h'.get? b=some u):Un fs ex H H h h':=
 ⟨fun b ob q _ _ _=>k b ob q,fun b ob q _ _ _=>⟨ob.slots,k b ob q⟩,fun _ _ _ n _=>n,fun b ob q _=>⟨ob,k b ob q⟩,fun _ _ q=>q,fun _ _ _ q=>q,fun _ ps q=>⟨#[],by rw [q];simp⟩⟩
theorem Un.refl:Un fs ex H H h h:=Un.kept fun _ _ q=>q
theorem Un.laid (k:∀b u,h.get? b=some u->h'.get? b=some u) (hp:h.objs.size<=a) (hn:H a=none):Un fs ex H (upd H a o) h h' where
 keep:=fun b u q _ _ _=>k b u q
 slot:=fun b u q _ _ _=>⟨u.slots,k b u q⟩
 free:=fun b u q n _=>by rw [ar_ (AK (Ad (AG q) hp))];exact n
 there:=fun b u q _=>⟨u,k b u q⟩
 tups:=fun b xs q=>by rw [ar_ (av_ q hn)];exact q
 frzs:=fun b u xs q=>by rw [ar_ (av_ q hn)];exact q
 tbls:=fun b ps q=>⟨#[],by rw [ar_ (av_ q hn),q];simp⟩
theorem Un.write (mu:Mut (H x)) (he:e=x\/H e=some (.own x)) (k:∀b u,b≠e->h.get? b=some u->h'.get? b=some u) (heo:∃u,h'.get? e=some u):Un fs ex H (upd H x o) h h':=by
 have hx:∀b,H b=none->b≠x:=fun b n z=>by subst z;rw [n] at mu;exact mu
 have hb:∀b,H b=none->b≠e:=fun b n z=>by
  subst z;rcases he with r|r
  .exact hx b n r
  .rw [n] at r;cases r
 have hm:∀b u,H b=some u->¬Mut (some u)->b≠x:=fun b u q nm z=>by subst z;rw [q] at mu;exact nm mu
 refine⟨fun b u q n _ _=>k b u (hb b n) q,fun b u q n _ _=>⟨u.slots,k b u (hb b n) q⟩,fun b u q n _=>by rw [ar_ (hx b n)];exact n,fun b u q _=> ?_,
  fun b xs q=>by rw [ar_ (hm b _ q fun z=>z)];exact q,fun b u xs q=>by rw [ar_ (hm b _ q fun z=>z)];exact q,fun b ps q=>⟨#[],by rw [ar_ (hm b _ q fun z=>z),q];simp⟩⟩
 by_cases hbe:b=e
 .subst hbe;exact heo
 .exact⟨u,k b u hbe q⟩
end
def trk (h:Heap) (H:Hp):List Addr:=(List.range h.objs.size).filter fun a=>(H a).isSome
def oa_ (h:Heap) (H:Hp):Heap:=W.hideAll h (trk h H)
theorem mI_ (h:Heap) (H:Hp):(oa_ h H).objs.size=h.objs.size:=W.hideAll_size _ _
theorem n9_ {h:Heap}{H:Hp}{b:Addr}{o:Obj} (e:h.get? b=some o) (n:H b=none):(oa_ h H).get? b=some o:=
 W.hideAll_get _ e fun hm=>by
  have q:(H b).isSome=true:=(CN.mp hm).2;rw [n] at q;simp at q
theorem p0_ {h:Heap}{H:Hp}{b:Addr}{o:Obj} (e:(oa_ h H).get? b=some o):h.get? b=some o/\H b=none:=by
 have e':h.get? b=some o:=W.of_hideAll (trk h H) e;refine⟨e', ?_⟩;cases q:H b with
 |none=>rfl
 |some x=>
  have hm:b∈trk h H:=CN.mpr ⟨Al.mpr (AG e'),by simp [q]⟩;have z:(oa_ h H).get? b=none:=W.hideAll_none (trk h H) hm;rw [z] at e;cases e
def qM_ (g h:Heap) (L:Addr):List (Addr×Obj):=(List.range h.objs.size).filterMap fun a=>if a=L\/(g.get? a).isSome=true then none else(h.get? a).map fun o=>(a,o)
def ek_ (g h:Heap) (L d:Addr):List (Addr×Obj):=(qM_ g h L).filter fun p=>decide (p.1≠d)
end L2
namespace L2
open PySem PySem.Spec PyProof.Rows
structure Mod (K:W.Frag) (mg:Str->Option Value) (base:Heap):Prop where
 kin:K.In base
 glob:base.Ns mainGlobals mg
 blt:∃mb,base.Ns builtinsNs mb/\∀x:Str,x≠"__name__"->mb x=bootBuiltins x
 nolimit:base.NoLimit
structure Cx where
 prog:Program
 w:World
 K:W.Frag
 mg:Str->Option Value
 base:Heap
 A:Around
 N:List Str
 s₀:Shared
 H₀:Hp
 env:Env
 outer:List Env
 stack:List Env
 ex:List Addr
 fn:Str->Bool
 calm:Bool
 pn:List (Addr×Obj)
 xe:Value->Shared->Prop
def frs (l:List Env):List Addr:=l.filterMap (·.frame)
abbrev Cx.fs (X:Cx):List Addr:=frs X.outer
def Vis (sc:Scope) (x:Str):Prop:=sc.names.lookup x=some .local\/sc.names.lookup x=some .cell\/sc.names.lookup x=some .free
def Loc (sc:Scope) (x:Str):Prop:=sc.names.lookup x=some .local\/sc.names.lookup x=some .cell
def uN_ (env:Env) (h:Heap) (m:Str->Option Value) (x:Str) (u:Value):Prop:=
 (env.kindOf x=some .local/\m x=some u)\/((env.kindOf x=some .cell\/env.kindOf x=some .free)/\∃c,env.cells.lookup x=some c/\h.IsCell c (some u))
structure Cx.Ok (X:Cx):Prop where
 mod:Mod X.K X.mg X.base
 kind:X.env.scope.kind= .function
 glob:X.env.globals=mainGlobals
 blt:X.env.builtins=builtinsNs
 above:X.s₀.heap.objs.size<=X.env.locals
 inj:∀x y c,X.env.cells.lookup x=some c->X.env.cells.lookup y=some c->x=y
 has:∀x,(X.env.kindOf x=some .cell\/X.env.kindOf x=some .free)->∃c,X.env.cells.lookup x=some c
 cab:∀x c,X.fn x=true->X.env.cells.lookup x=some c->X.s₀.heap.objs.size<=c
 hd:X.calm=true->X.A.handled=none
 frames:X.A.frames=some X.stack
 stk:X.stack=X.outer\/(X.stack=X.env::X.outer/\X.env.frame=some X.env.locals)
 exf:∀b∈X.ex,b≠X.env.locals/\∀x c,X.env.cells.lookup x=some c->c≠b
 bs:∀b o,X.base.get? b=some o->X.s₀.heap.get? b=some o/\X.H₀ b=none
 bsz:X.base.objs.size<=X.s₀.heap.objs.size
 noex:∀b o,X.base.get? b=some o->b∉X.ex
 exfs:∀b∈X.ex,b∉X.fs
 funs:X.s₀.heap.FunFrames X.base X.outer
 frf:∀b∈X.fs,X.H₀ b=none
structure Inv (X:Cx) (pins:List (Addr×Obj)) (σ:List (Option V)) (H:Hp) (s:Shared):Prop where
 ok:X.Ok
 os:s.os=X.s₀.os
 bare:AllBare s.gens
 base:Un X.fs X.ex X.H₀ H X.s₀.heap s.heap
 loc:∃m,s.heap.Ns X.env.locals m/\∀(i:Nat) (x:Str) (v:V),X.N[i]? =some x->σ[i]? =some (some v)->Vis X.env.scope x->∃u,a3_ v u/\uN_ X.env s.heap m x u
 cell:∀x c,X.env.cells.lookup x=some c->∃v,s.heap.IsCell c v
 free:H X.env.locals=none
 freeC:∀x c,X.env.cells.lookup x=some c->H c=none
 pin:∀p∈X.pn++pins,s.heap.get? p.1=some p.2/\H p.1=none/\p.1≠X.env.locals/\p.1∉X.fs/\∀v,p.2.data≠ .cell v
 hok:HOk X.prog X.w H s.heap
 len:σ.length=X.N.length
section
variable {X:Cx}{pins:List (Addr×Obj)}{σ:List (Option V)}{H H':Hp}{s:Shared}{h':Heap}
theorem Cx.Ok.nofr (ok:X.Ok) {b:Addr}{o:Obj} (e:X.base.get? b=some o):b∉X.fs:=fun hb=>by
 have:=(ok.funs.mem hb).1;rw [e] at this;cases this
theorem Inv.bs (I:Inv X pins σ H s):∀b o,X.base.get? b=some o->s.heap.get? b=some o/\H b=none:=fun b o e=>
 ⟨I.base.keep b o (I.ok.bs b o e).1 (I.ok.bs b o e).2 (I.ok.nofr e) (I.ok.noex b o e),I.base.free b o (I.ok.bs b o e).1 (I.ok.bs b o e).2 (I.ok.noex b o e)⟩
theorem Inv.bk (I:Inv X pins σ H s):∀b o,X.base.get? b=some o->s.heap.get? b=some o:=fun b o e=>(I.bs b o e).1
theorem Inv.mod (I:Inv X pins σ H s):Mod X.K X.mg X.base:=I.ok.mod
theorem Inv.kIn (I:Inv X pins σ H s):X.K.In s.heap:=I.ok.mod.kin.keeps I.bk
theorem Inv.lt (I:Inv X pins σ H s):X.env.locals<s.heap.objs.size:=let ⟨_,hn,_⟩:=I.loc;hn.lt
theorem Inv.sz (I:Inv X pins σ H s):X.s₀.heap.objs.size<=s.heap.objs.size:=Ac I.ok.above (Ag I.lt)
theorem Inv.nofs (I:Inv X pins σ H s) {a:Addr} (h:s.heap.objs.size<=a):a∉X.fs:=fun hb=>by
 obtain⟨_,o,ho,_⟩:=I.ok.funs.mem hb;exact absurd (Ad (AG ho) (Ac I.sz h)) (Bm _)
theorem Inv.cne (I:Inv X pins σ H s):∀x c,X.env.cells.lookup x=some c->c≠X.env.locals:=fun x c e z=>by
 obtain⟨v,o,ho,hd⟩:=I.cell x c e;obtain⟨m,⟨o',es,ep,ho',hd',_⟩,_⟩:=I.loc;rw [z,ho'] at ho;cases ho;rw [hd'] at hd;cases hd
theorem Inv.funs (I:Inv X pins σ H s):s.heap.FunFrames X.base X.outer:=by
 have all:∀(l:List Env),(∀b∈frs l,b∈X.fs)->X.s₀.heap.FunFrames X.base l->s.heap.FunFrames X.base l:=by
  intro l;induction l with
  |nil=>intro _ _;trivial
  |cons env r ih=>
   intro hs hl;obtain⟨hk,⟨L,o,hf,hn,ho,hd⟩,hr⟩:=hl;have hL:L∈X.fs:=hs L (by unfold frs;rw [List.filterMap_cons,hf];exact B2);obtain⟨sl,e⟩:=I.base.slot L o ho (I.ok.frf L hL) hL fun z=>I.ok.exfs L z hL;exact⟨hk,⟨L,_,hf,hn,e,hd⟩,ih (fun b hb=>hs b (by unfold frs;rw [List.filterMap_cons,hf];exact Au _ hb)) hr⟩
 exact all X.outer (fun _ hb=>hb) I.ok.funs
theorem Inv.stack (I:Inv X pins σ H s):s.heap.FunFrames X.base X.stack:=by
 rcases I.ok.stk with e|⟨e,hf⟩
 .rw [e];exact I.funs
 .rw [e];obtain⟨m,hn,_⟩:=I.loc;refine .cons (by rw [I.ok.kind];decide) hf hn ?_ I.funs;exact Heap.get?_none_of_le (Ac I.ok.bsz I.ok.above)
theorem Inv.stkSub (I:Inv X pins σ H s):∀b∈frs X.stack,b∈X.env.locals::X.fs:=fun b hb=>by
 rcases I.ok.stk with e|⟨e,hf⟩
 .rw [e] at hb;exact Au _ hb
 .rw [e] at hb;unfold frs at hb;rw [List.filterMap_cons,hf] at hb;exact hb
theorem Inv.stkFree (I:Inv X pins σ H s):∀b∈frs X.stack,H b=none:=fun b hb=>by
 rcases AO.mp (I.stkSub b hb) with e|hb
 .rw [e];exact I.free
 .obtain⟨_,o,ho,_⟩:=I.ok.funs.mem hb;exact I.base.free b o ho (I.ok.frf b hb) fun z=>I.ok.exfs b z hb
theorem Inv.step {g':Array GenState}{t':Nat}{d':Drawn}{ch:List Addr} (I:Inv X pins σ H s)
  (hch:∀b∈ch,(b∈X.ex\/X.s₀.heap.objs.size<=b)/\b≠X.env.locals/\(∀x c,X.env.cells.lookup x=some c->c≠b)/\∀p∈X.pn++pins,p.1≠b)
  (keep:∀b o,b≠X.env.locals->b∉X.fs->b∉ch->s.heap.get? b=some o->H b=none->h'.get? b=some o)
  (slot:∀b o,b≠X.env.locals->b∈X.fs->b∉ch->s.heap.get? b=some o->H b=none->∃sl,h'.get? b=some {o with slots:=sl}) (free:∀b o,b∉ch->s.heap.get? b=some o->H b=none->H' b=none)
  (there:∀b o,b∉ch->s.heap.get? b=some o->∃o',h'.get? b=some o')
  (tups:∀b xs,H b=some (.tup xs)->H' b=some (.tup xs)) (frzs:∀b o u,H b=some (.frz o u)->H' b=some (.frz o u)) (tbls:∀b ps,H b=some (.tbl ps)->∃more,H' b=some (.tbl (ps++more)))
  (ns:∀m,s.heap.Ns X.env.locals m->h'.Ns X.env.locals m) (hok:HOk X.prog X.w H' h') (hg:AllBare g'):
  Inv X pins σ H' {s with heap:=h',gens:=g',drawn:=d',toks:=t'}:=by
 have neL:∀b o,X.s₀.heap.get? b=some o->b≠X.env.locals:=fun b o e=>AK (Ad (AG e) I.ok.above);have neC:∀b o,X.s₀.heap.get? b=some o->b∉X.ex->b∉ch:=fun b o e hx hb=>by
  rcases(hch b hb).1 with z|z
  .exact hx z
  .exact absurd (Ad (AG e) z) (Bm _)
 have cellK:∀x c,X.env.cells.lookup x=some c->∀v,s.heap.IsCell c v->h'.IsCell c v:=fun x c e v ⟨o,ho,hd⟩=>by
  have nch:c∉ch:=fun z=>(hch c z).2.2.1 x c e rfl;by_cases hc:c∈X.fs
  .obtain⟨sl,q⟩:=slot c o (I.cne x c e) hc nch ho (I.freeC x c e);exact⟨_,q,hd⟩
  .exact⟨o,keep c o (I.cne x c e) hc nch ho (I.freeC x c e),hd⟩
 refine⟨I.ok,I.os,hg,⟨fun b o e n hb hx=> ?_,fun b o e n hb hx=> ?_,fun b o e n hx=> ?_,fun b o e hx=> ?_,fun b xs e=>tups b xs (I.base.tups b xs e),fun b o xs e=>frzs b o xs (I.base.frzs b o xs e),fun b ps e=> ?_⟩, ?_,fun x c e=> ?_, ?_,fun x c e=> ?_,fun p hp=> ?_,hok,I.len⟩
 .exact keep b o (neL b o e) hb (neC b o e hx) (I.base.keep b o e n hb hx) (I.base.free b o e n hx)
 .obtain⟨sl,e1⟩:=I.base.slot b o e n hb hx;obtain⟨sl',e2⟩:=slot b _ (neL b o e) hb (neC b o e hx) e1 (I.base.free b o e n hx);exact⟨sl',e2⟩
 .obtain⟨o',e1⟩:=I.base.there b o e hx;exact free b o' (neC b o e hx) e1 (I.base.free b o e n hx)
 .obtain⟨o',e1⟩:=I.base.there b o e hx;exact there b o' (neC b o e hx) e1
 .obtain⟨m1,e1⟩:=I.base.tbls b ps e;obtain⟨m2,e2⟩:=tbls b _ e1;exact⟨m1++m2,by rw [e2,Array.append_assoc]⟩
 .obtain⟨m,hn,hl⟩:=I.loc;refine⟨m,ns m hn,fun i x v e1 e2 e3=> ?_⟩;obtain⟨u,r,l⟩:=hl i x v e1 e2 e3;refine⟨u,r, ?_⟩;rcases l with l|⟨k,c,e,z⟩
  .exact .inl l
  .exact .inr ⟨k,c,e,cellK x c e _ z⟩
 .obtain⟨v,z⟩:=I.cell x c e;exact⟨v,cellK x c e v z⟩
 .obtain⟨m,⟨o,_,_,ho,_⟩,_⟩:=I.loc;exact free _ o (fun z=>(hch _ z).2.1 rfl) ho I.free
 .obtain⟨v,o,ho,hd⟩:=I.cell x c e;exact free c o (fun z=>(hch c z).2.2.1 x c e rfl) ho (I.freeC x c e)
 .obtain⟨e,n,ne,nf,d⟩:=I.pin p hp;have nch:p.1∉ch:=fun z=>(hch p.1 z).2.2.2 p hp rfl;exact⟨keep p.1 p.2 ne nf nch e n,free p.1 p.2 nch e n,ne,nf,d⟩
theorem Inv.un {t':Nat} (I:Inv X pins σ H s) (u:Un X.fs [] H H' s.heap h') (hok:HOk X.prog X.w H' h'):Inv X pins σ H' {s with heap:=h',toks:=t'}:=by
 obtain⟨m,⟨o,es,ep,ho,r⟩,_⟩:=id I.loc;obtain⟨sl,hL⟩:=u.any ho I.free (by simp);exact I.step (g':=s.gens) (d':=s.drawn) (ch:=[]) (fun _ z=>nomatch z) (fun b o _ hb _ e n=>u.keep b o e n hb (by simp)) (fun b o _ hb _ e n=>u.slot b o e n hb (by simp)) (fun b o _ e n=>u.free b o e n (by simp)) (fun b o _ e=>u.there b o e (by simp)) u.tups u.frzs u.tbls (fun m' hm=>by
  obtain⟨o',es',ep',ho',r'⟩:=hm;rw [ho] at ho';cases ho';exact⟨_,es',ep',hL,r'⟩) hok I.bare
theorem Inv.call {g':Array GenState}{t':Nat}{d':Drawn}{ch:List Addr} (I:Inv X pins σ H s) (u:Un (frs X.stack) ch H H' s.heap h') (hok:HOk X.prog X.w H' h') (hg:AllBare g')
  (hch:∀b∈ch,(b∈X.ex\/X.s₀.heap.objs.size<=b)/\b≠X.env.locals/\(∀x c,X.env.cells.lookup x=some c->c≠b)/\∀p∈X.pn++pins,p.1≠b):
  Inv X pins σ H' {s with heap:=h',gens:=g',drawn:=d',toks:=t'}:=by
 obtain⟨m,⟨o,es,ep,ho,r⟩,_⟩:=id I.loc;obtain⟨sl,hL⟩:=u.any ho I.free fun z=>(hch _ z).2.1 rfl;exact I.step (ch:=ch) hch (fun b o hL hb hc e n=>u.keep b o e n (fun z=>(AO.mp (I.stkSub b z)).elim hL hb) hc) (fun b o _ _ hc e n=>u.any e n hc) (fun b o hc e n=>u.free b o e n hc) (fun b o hc e=>u.there b o e hc) u.tups u.frzs u.tbls (fun m' hm=>by
  obtain⟨o',es',ep',ho',r'⟩:=hm;rw [ho] at ho';cases ho';exact⟨_,es',ep',hL,r'⟩) hok hg
theorem Inv.turned {t':Nat}{it:Addr} (I:Inv X pins σ H s) (k:∀b o,b≠it->s.heap.get? b=some o->h'.get? b=some o) (hn:H it=none) (hL:it≠X.env.locals)
  (h1:it∈X.ex\/X.s₀.heap.objs.size<=it) (h2:∀x c,X.env.cells.lookup x=some c->c≠it) (h3:∀p∈X.pn++pins,p.1≠it):Inv X pins σ H {s with heap:=h',toks:=t'}:=by
 have nit:∀b u,H b=some u->b≠it:=fun b u e z=>by rw [z,hn] at e;cases e
 refine I.step (g':=s.gens) (d':=s.drawn) (ch:=[it]) (fun b hb=> ?_) (fun b o _ _ hc e _=>k b o (fun z=>hc (by simp [z])) e) (fun b o _ _ hc e _=>⟨o.slots,k b o (fun z=>hc (by simp [z])) e⟩) (fun _ _ _ _ n=>n)
  (fun b o hc e=>⟨o,k b o (fun z=>hc (by simp [z])) e⟩) (fun _ _ e=>e) (fun _ _ _ e=>e) (fun b ps e=>⟨#[],by rw [e];simp⟩) (fun m hm=> ?_) (fun b u e=> ?_) I.bare
 .have e:b=it:=by simpa using hb
  subst e;exact⟨h1,hL,h2,h3⟩
 .obtain⟨o,es,ep,ho,r⟩:=hm;exact⟨o,es,ep,k _ o (Ne.symm hL) ho,r⟩
 .refine(I.hok b u e).stay (fun c v hc q=>k c v ?_ q) (fun _ q=>q) fun _ _ q=>q;rcases hc with z|z
  .rw [z];exact nit b u e
  .exact nit c _ z
theorem Inv.tok (I:Inv X pins σ H s) (t:Nat):Inv X pins σ H {s with toks:=t}:=I.un (h':=s.heap) (t':=t) Un.refl I.hok
theorem Inv.kept {t':Nat} (I:Inv X pins σ H s) (k:∀b u,s.heap.get? b=some u->h'.get? b=some u):Inv X pins σ H {s with heap:=h',toks:=t'}:=I.un (Un.kept k) (I.hok.kept k)
theorem Inv.laid {a:Addr}{o:HO}{t':Nat} (I:Inv X pins σ H s) (k:∀b u,s.heap.get? b=some u->h'.get? b=some u) (hp:s.heap.objs.size<=a) (new:aS_ X.prog X.w (upd H a o) h' a o):
  Inv X pins σ (upd H a o) {s with heap:=h',toks:=t'}:=I.un (Un.laid k hp (I.hok.fresh hp)) (I.hok.laid k hp new)
theorem Inv.write {x e:Addr}{o:HO}{t':Nat} (I:Inv X pins σ H s) (mu:Mut (H x)) (he:e=x\/H e=some (.own x)) (k:∀b u,b≠e->s.heap.get? b=some u->h'.get? b=some u) (heo:∃u,h'.get? e=some u)
  (new:aS_ X.prog X.w (upd H x o) h' x o):Inv X pins σ (upd H x o) {s with heap:=h',toks:=t'}:=I.un (Un.write mu he k heo) (I.hok.write mu he k heo new)
theorem Inv.weak {σ':List (Option V)} (I:Inv X pins σ H s) (hl:σ'.length=σ.length) (w:∀(i:Nat) v,σ'[i]? =some (some v)->σ[i]? =some (some v)):Inv X pins σ' H s:=
 ⟨I.ok,I.os,I.bare,I.base,let ⟨m,hn,hl'⟩:=I.loc;⟨m,hn,fun i x v e1 e2 e3=>hl' i x v e1 (w i v e2) e3⟩,I.cell,I.free,I.freeC,I.pin,I.hok,hl.trans I.len⟩
theorem Inv.pins_of {pins':List (Addr×Obj)} (I:Inv X pins σ H s) (h:∀p∈pins',s.heap.get? p.1=some p.2/\H p.1=none/\p.1≠X.env.locals/\p.1∉X.fs/\∀v,p.2.data≠ .cell v):Inv X pins' σ H s:=
 ⟨I.ok,I.os,I.bare,I.base,I.loc,I.cell,I.free,I.freeC,fun p hp=>(CO.mp hp).elim (fun z=>I.pin p (List.mem_append_left _ z)) (h p),I.hok,I.len⟩
theorem jV_ {N:List Str} (hN:N.Nodup) {i j:Nat}{x:Str} (a:N[i]? =some x) (b:N[j]? =some x):i=j:=by
 obtain⟨h1,e1⟩:=A'.mp a;obtain⟨h2,e2⟩:=A'.mp b;exact(List.getElem_inj hN).mp (e1.trans e2.symm)
theorem lp_ {M:Model}{A:Around}{E:Value->Shared->Prop}{i:Nat}{x:Str}{v:V}{u:Value}{Q:Unit->Shared->Prop} (I:Inv X pins σ H s) (hN:X.N.Nodup) (hi:X.N[i]? =some x) (hx:Loc X.env.scope x) (r:a3_ v u)
  (h:∀s',Inv X pins (σ.set i (some v)) H s'->(∃a,Heap.SameBut a s.heap s'.heap/\(a=X.env.locals\/X.env.cells.lookup x=some a))->Q () s') (hf:X.fn x=true\/X.env.scope.names.lookup x=some .local:=by first|exact .inl rfl|exact .inr rfl|assumption):wpAny M A (storeName X.env x u) Q E s:=by
 obtain⟨m,hn,hl⟩:=id I.loc;have hcls:(X.env.scope.kind== .class||(X.env.scope.kind== .module&&X.env.locals !=X.env.globals))=false:=by rw [I.ok.kind];rfl
 have hiσ:i<σ.length:=by rw [I.len];exact(A'.mp hi).1
 have cne:=I.cne;have tracked:∀{a:Addr}{h':Heap},(∃o,s.heap.get? a=some o/\H a=none)->Heap.SameBut a s.heap h'->HOk X.prog X.w H h':=fun{a h'} ha hs b ob e=>by
  obtain⟨_,_,hfree⟩:=ha;refine(I.hok b ob e).stay (fun c w' hc q=>(hs.2 c ?_).trans q) (fun _ q=>q) fun _ _ q=>q;rintro rfl;rcases hc with rfl|hc
  .rw [hfree] at e;cases e
  .rw [hfree] at hc;cases hc
 rcases hx with hk|hk
 .refine wpAny_storeName_local hk hn (fun h' hn' hs=> ?_) hcls;obtain⟨oL,_,_,hoL,_⟩:=id hn;refine h _ ⟨I.ok,I.os,I.bare,⟨fun b o e n hb hx=> ?_,fun b o e n hb hx=> ?_,I.base.free,fun b o e hx=> ?_,I.base.tups,I.base.frzs,I.base.tbls⟩,⟨_,hn',fun j y v' e1 e2 e3=> ?_⟩,fun y c e=> ?_,I.free,I.freeC,fun p hp=> ?_,tracked ⟨oL,hoL,I.free⟩ hs,by simpa using I.len⟩ ⟨_,hs, .inl rfl⟩
  .exact(hs.2 b (AK (Ad (AG e) I.ok.above))).trans (I.base.keep b o e n hb hx)
  .obtain⟨sl,e1⟩:=I.base.slot b o e n hb hx;exact⟨sl,(hs.2 b (AK (Ad (AG e) I.ok.above))).trans e1⟩
  .obtain⟨o',e1⟩:=I.base.there b o e hx;exact⟨o',(hs.2 b (AK (Ad (AG e) I.ok.above))).trans e1⟩
  .by_cases hj:j=i
   .subst hj;rw [hi] at e1;cases e1;rw [List.getElem?_set_self hiσ] at e2;cases e2;exact⟨u,r, .inl ⟨hk,by simp⟩⟩
   .rw [BO (Ne.symm hj)] at e2;obtain⟨u',r',q⟩:=hl j y v' e1 e2 e3;refine⟨u',r', ?_⟩;rcases q with⟨k,e⟩|⟨k,c,e,z⟩
    .refine .inl ⟨k, ?_⟩;have:y≠x:=fun e=>hj (jV_ hN e1 (e▸hi));simp [this,e]
    .exact .inr ⟨k,c,e,z.sameBut hs (cne y c e)⟩
  .obtain⟨w',z⟩:=I.cell y c e;exact⟨w',z.sameBut hs (cne y c e)⟩
  .obtain⟨e,n,ne,nf,d⟩:=I.pin p hp;exact⟨(hs.2 p.1 ne).trans e,n,ne,nf,d⟩
 .have hfn:X.fn x=true:=by
   rcases hf with z|z
   .exact z
   .rw [z] at hk;cases hk
  obtain⟨c,hc⟩:=I.ok.has x (.inl hk);obtain⟨w',z⟩:=I.cell x c hc;refine wpAny_storeName_cell I.ok.kind hk hc z (fun h' hc' hs=> ?_);obtain⟨oc,hoc,hocd⟩:=id z;refine h {s with heap:=h'} ⟨I.ok,I.os,I.bare,⟨fun b o e n hb hx=> ?_,fun b o e n hb hx=> ?_,I.base.free,fun b o e hx=> ?_,I.base.tups,I.base.frzs,I.base.tbls⟩,⟨m,hn.sameBut hs (Ne.symm (cne x c hc)),fun j y v' e1 e2 e3=> ?_⟩,fun y c' e=> ?_,I.free,I.freeC,fun p hp=> ?_,tracked ⟨oc,hoc,I.freeC x c hc⟩ hs,by simpa using I.len⟩ ⟨c,hs, .inr hc⟩
  .exact(hs.2 b (AK (Ad (AG e) (I.ok.cab x c hfn hc)))).trans (I.base.keep b o e n hb hx)
  .obtain⟨sl,e1⟩:=I.base.slot b o e n hb hx;exact⟨sl,(hs.2 b (AK (Ad (AG e) (I.ok.cab x c hfn hc)))).trans e1⟩
  .obtain⟨o',e1⟩:=I.base.there b o e hx;exact⟨o',(hs.2 b (AK (Ad (AG e) (I.ok.cab x c hfn hc)))).trans e1⟩
  .by_cases hj:j=i
   .subst hj;rw [hi] at e1;cases e1;rw [List.getElem?_set_self hiσ] at e2;cases e2;exact⟨u,r, .inr ⟨.inl hk,c,hc,hc'⟩⟩
   .rw [BO (Ne.symm hj)] at e2;obtain⟨u',r',q⟩:=hl j y v' e1 e2 e3;refine⟨u',r', ?_⟩;rcases q with q|⟨k,c',e,z'⟩
    .exact .inl q
    .refine .inr ⟨k,c',e,z'.sameBut hs ?_⟩;rintro rfl;exact hj (jV_ hN e1 (I.ok.inj _ _ _ e hc▸hi))
  .by_cases hcc:c'=c
   .subst hcc;exact⟨_,hc'⟩
   .obtain⟨w2,z2⟩:=I.cell y c' e;exact⟨w2,z2.sameBut hs hcc⟩
  .obtain⟨e,n,ne,nf,d⟩:=I.pin p hp;refine⟨(hs.2 p.1 ?_).trans e,n,ne,nf,d⟩;intro q;rw [q,hoc] at e;have q':oc=p.2:=An e;exact d w' (by rw [<-q'];exact hocd)
theorem eB_ {M:Model}{A:Around}{E:Value->Shared->Prop}{i:Nat}{x:Str}{v:V}{u:Value}{Q:Unit->Shared->Prop} (I:Inv X pins σ H s) (hN:X.N.Nodup) (hi:X.N[i]? =some x) (hx:Loc X.env.scope x) (r:a3_ v u)
  (h:∀s',Inv X pins (σ.set i (some v)) H s'->Q () s') (hf:X.fn x=true\/X.env.scope.names.lookup x=some .local:=by first|exact .inl rfl|exact .inr rfl|assumption):wpAny M A (storeName X.env x u) Q E s:=
 lp_ I hN hi hx r (fun s' I' _=>h s' I') hf
theorem Inv.call' {s':Shared}{ch:List Addr} (I:Inv X pins σ H s) (ho:s'.os=s.os) (u:Un (frs X.stack) ch H H' s.heap s'.heap) (hok:HOk X.prog X.w H' s'.heap) (hg:AllBare s'.gens)
  (hch:∀b∈ch,(b∈X.ex\/X.s₀.heap.objs.size<=b)/\b≠X.env.locals/\(∀x c,X.env.cells.lookup x=some c->c≠b)/\∀p∈X.pn++pins,p.1≠b):Inv X pins σ H' s':=by
 obtain⟨h',g',d',t',o'⟩:=s';have e:o'=s.os:=ho;subst e;exact I.call (g':=g') (t':=t') (d':=d') u hok hg hch
end
abbrev XK:=Value->Option Addr->Hp->Prop
abbrev St:=List (Option V)
abbrev VK:=V->Hp->Prop
abbrev TE:=St->Hp->VK->Prop
abbrev TT:=St->Hp->(Bool->Hp->Prop)->Prop
abbrev TA:=St->Hp->(List V->Hp->Prop)->Prop
structure Ends where
 nx:St->Hp->Prop
 rt:VK
 bk:St->Hp->Prop:=fun _ _=>False
 ct:St->Hp->Prop:=fun _ _=>False
abbrev TS:=Ends->St->Hp->Prop
def EP (X:Cx) (pins:List (Addr×Obj)) (σ:St) (Q:VK) (u:Value) (s':Shared):Prop:=∃v H',Inv X pins σ H' s'/\a3_ v u/\Q v H'
def TP (X:Cx) (pins:List (Addr×Obj)) (σ:St) (Q:Bool->Hp->Prop) (b:Bool) (s':Shared):Prop:=∃H',Inv X pins σ H' s'/\Q b H'
def AP (X:Cx) (pins:List (Addr×Obj)) (σ:St) (Q:List V->Hp->Prop) (us:List Value) (s':Shared):Prop:=∃vs H',Inv X pins σ H' s'/\aX_ vs us/\Q vs H'
def SP (X:Cx) (pins:List (Addr×Obj)) (D:Ends) (f:Flow) (s':Shared):Prop:=
 match f with
 | .next=>∃σ' H',Inv X pins σ' H' s'/\D.nx σ' H'
 | .brk=>∃σ' H',Inv X pins σ' H' s'/\D.bk σ' H'
 | .cont=>∃σ' H',Inv X pins σ' H' s'/\D.ct σ' H'
 | .ret u=>∃v σ' H',Inv X pins σ' H' s'/\a3_ v u/\D.rt v H'
def PE (X:Cx) (e:Expr) (t:TE):Prop:=
 ∀(pins:List (Addr×Obj)) (s:Shared) (σ:St) (H:Hp) (Q:VK),Inv X pins σ H s->t σ H Q->wpAny (model X.prog X.w) X.A (eval e X.env) (EP X pins σ Q) X.xe s
def PT (X:Cx) (e:Expr) (t:TT):Prop:=
 ∀(pins:List (Addr×Obj)) (s:Shared) (σ:St) (H:Hp) (Q:Bool->Hp->Prop),Inv X pins σ H s->t σ H Q->wpAny (model X.prog X.w) X.A (isTrue e X.env (eval e X.env)) (TP X pins σ Q) X.xe s
def PW (X:Cx) (e:Expr) (t:TT):Prop:=
 ∀(whole:Sem Value) (pins:List (Addr×Obj)) (s:Shared) (σ:St) (H:Hp) (Q:Bool->Hp->Prop),Inv X pins σ H s->t σ H Q->wpAny (model X.prog X.w) X.A (isTrue e X.env whole) (TP X pins σ Q) X.xe s
theorem PW.pt {X:Cx}{e:Expr}{t:TT} (h:PW X e t):PT X e t:=h _
def PA (X:Cx) (es:List Expr) (t:TA):Prop:=
 ∀(pos:Pos) (pins:List (Addr×Obj)) (s:Shared) (σ:St) (H:Hp) (Q:List V->Hp->Prop),Inv X pins σ H s->t σ H Q->wpAny (model X.prog X.w) X.A (spliced (backTo pos (starEach es X.env))) (AP X pins σ Q) X.xe s
def PS (X:Cx) (st:Stmt) (t:TS):Prop:=
 ∀(pins:List (Addr×Obj)) (s:Shared) (σ:St) (H:Hp) (D:Ends),Inv X pins σ H s->t D σ H->wpAny (model X.prog X.w) X.A (exec st X.env) (SP X pins D) X.xe s
def PSs (X:Cx) (st:List Stmt) (t:TS):Prop:=
 ∀(pins:List (Addr×Obj)) (s:Shared) (σ:St) (H:Hp) (D:Ends),Inv X pins σ H s->t D σ H->wpAny (model X.prog X.w) X.A (execs st X.env) (SP X pins D) X.xe s
theorem thn {α:Type}{t:Sem α}{Q Q':α->Shared->Prop}{M:Model}{A:Around}{E:Value->Shared->Prop}{s:Shared} (h:wpAny M A t Q E s) (hQ:∀a s,Q a s->Q' a s):wpAny M A t Q' E s:=BJ h hQ fun _ _ x=>x
end L2
namespace L2
open PySem PySem.Spec PyProof.Rows
section
variable {X:Cx}
theorem bin {a b:Expr}{ta tb:TE} (ha:PE X a ta) (hb:PE X b tb) {pins:List (Addr×Obj)}{s:Shared}{σ:St}{H:Hp}{R:V->V->Hp->Prop} (I:Inv X pins σ H s) (h:ta σ H fun x H1=>tb σ H1 fun y H2=>R x y H2)
  {α:Type}{Q:α->Shared->Prop}{f:Value->Value->Sem α}
  (hf:∀v u s2 x y H2,Inv X pins σ H2 s2->a3_ x v->a3_ y u->R x y H2->wpAny (model X.prog X.w) X.A (f v u) Q X.xe s2):
  wpAny (model X.prog X.w) X.A (eval a X.env) (fun v s₁=>wpAny (model X.prog X.w) X.A (eval b X.env) (fun u s₂=>wpAny (model X.prog X.w) X.A (f v u) Q X.xe s₂) X.xe s₁) X.xe s:=by
 refine thn (ha pins s σ H _ I h) fun v s1 ⟨x,H1,I1,r1,q1⟩=> ?_;refine thn (hb pins s1 σ H1 _ I1 q1) fun u s2 ⟨y,H2,I2,r2,q2⟩=> ?_;exact hf v u s2 x y H2 I2 r1 r2 q2
def sE_ (i:Nat):TE:=fun σ H Q=>∃v,σ[i]? =some (some v)/\Q v H
def tC (v:V):TE:=fun _ H Q=>Q v H
theorem rK_ {i:Nat}{x:Str}{pos:Pos} (hN:X.N[i]? =some x) (hv:Vis X.env.scope x) (hd:(x==("__debug__":Str))=false:=by decide) (hcd:(x==("__classdict__":Str))=false:=by decide):PE X (.Name x pos) (sE_ i):=by
 intro pins s σ H Q I h;obtain⟨v,e,h⟩:=h;obtain⟨m,hn,hl⟩:=I.loc;obtain⟨u,r,l⟩:=hl i x v hN e hv;have fin:EP X pins σ Q u s:=⟨v,H,I,r,h⟩;rcases l with⟨hk,hm⟩|⟨hk,c,hc,hcell⟩
 .exact wpAny_Name (wpAny_loadName_local I.ok.kind hk hn hm fin) hd
 .rcases hk with hk|hk
  .exact wpAny_Name (wpAny_loadName_cell I.ok.kind hk hc hcell fin) hd
  .exact wpAny_Name (wpAny_loadName_free I.ok.kind hk hc hcell fin hcd) hd
theorem ae_ {i j pos}:PE X (.Constant (.int i) j pos) (tC (.int i)):=fun _ _ _ H _ I h=>wpAny_Constant_int ⟨.int i,H,I.tok _,⟨_,rfl⟩,h⟩
theorem rN_ {b j pos}:PE X (.Constant (.bool b) j pos) (tC (.bl b)):=fun _ _ _ H _ I h=>Constant_bool ⟨.bl b,H,I,rfl,h⟩
theorem oN_ {x j pos}:PE X (.Constant (.str x) j pos) (tC (.str x)):=fun _ _ _ H _ I h=>Calls.Constant_str ⟨.str x,H,I.tok _,⟨_,rfl⟩,h⟩
def Gl (X:Cx) (x:Str):Prop:=X.env.kindOf x=some .globalImplicit
theorem i9_ {E:Value->Shared->Prop}{pins:List (Addr×Obj)}{s:Shared}{σ:St}{H:Hp}{x:Str}{u:Value}{pos:Pos}{Q:Value->Shared->Prop} (I:Inv X pins σ H s) (hg:Gl X x) (hm:X.mg x=some u) (h:Q u s)
  (hd:(x==("__debug__":Str))=false:=by decide):wpAny (model X.prog X.w) X.A (eval (.Name x pos) X.env) Q E s:=
 Calls.Name_function_global I.ok.kind hg (Calls.loadGlobal_global (by rw [I.ok.glob];exact I.mod.glob.keeps I.bk) hm h) hd
theorem cL_ {E:Value->Shared->Prop}{pins:List (Addr×Obj)}{s:Shared}{σ:St}{H:Hp}{x:Str}{u:Value}{pos:Pos}{Q:Value->Shared->Prop} (I:Inv X pins σ H s) (hg:Gl X x) (hm:X.mg x=none) (hv:bootBuiltins x=some u) (h:Q u s)
  (hn:x≠"__name__":=by decide) (hd:(x==("__debug__":Str))=false:=by decide):wpAny (model X.prog X.w) X.A (eval (.Name x pos) X.env) Q E s:=by
 obtain⟨mb,h1,h2⟩:=I.mod.blt;exact Calls.Name_function_global I.ok.kind hg (Calls.loadGlobal_builtin (by rw [I.ok.glob];exact I.mod.glob.keeps I.bk) hm (by rw [I.ok.blt];exact h1.keeps I.bk) ((h2 x hn).trans hv) h) hd
theorem pS_ {x:Str}{v:V}{u:Value}{pos:Pos} (hg:Gl X x) (hm:X.mg x=some u) (r:a3_ v u) (hd:(x==("__debug__":Str))=false:=by decide):PE X (.Name x pos) (tC v):=
 fun _ _ _ H _ I h=>i9_ I hg hm ⟨v,H,I,r,h⟩ hd
theorem gz_ {x:Str}{v:V}{u:Value}{pos:Pos} (hg:Gl X x) (hm:X.mg x=none) (hv:bootBuiltins x=some u) (r:a3_ v u) (hn:x≠"__name__":=by decide) (hd:(x==("__debug__":Str))=false:=by decide):PE X (.Name x pos) (tC v):=
 fun _ _ _ H _ I h=>cL_ I hg hm hv ⟨v,H,I,r,h⟩ hn hd
variable {a b:Expr}{ta tb:TE}{pos:Pos}
def PC (X:Cx) (op:CmpOp) (a b:Expr) (t:TE):Prop:=
 ∀(pins:List (Addr×Obj)) (s:Shared) (σ:St) (H:Hp) (Q:VK),Inv X pins σ H s->t σ H Q->
  wpAny (model X.prog X.w) X.A (eval a X.env) (fun v s₁=>wpAny (model X.prog X.w) X.A (eval b X.env) (fun u s₂=>wpAny (model X.prog X.w) X.A (compareOp op v u) (EP X pins σ Q) X.xe s₂) X.xe s₁) X.xe s
theorem nS_ (b:Expr) {op:CmpOp} (h:op≠ .In) (h2:op≠ .NotIn):behindInMarks op b=false:=by
 have e1:(op==CmpOp.In)=false:=by cases op<;>first|rfl|exact absurd rfl h
 have e2:(op==CmpOp.NotIn)=false:=by cases op<;>first|rfl|exact absurd rfl h2
 cases b<;>simp [behindInMarks,e1,e2]
def tB (t:TE):TT:=fun σ H Q=>t σ H fun x H1=>∃c,x= .bl c/\Q c H1
theorem rF_ {op:CmpOp}{t:TE} (h:PC X op a b t) (h1:behindInMarks op b=false:=by first|exact nS_ _ (by decide) (by decide)|rfl):PT X (.Compare a [op] [b] pos) (tB t):=by
 intro pins s σ H Q I hw;refine wpAny_isTrue_Compare1 (thn (h pins s σ H _ I hw) fun v s1 h1=>thn h1 fun u s2 h2=>thn h2 fun c s3 ⟨x,H1,I1,r1,q1⟩=> ?_) h1;obtain⟨d,rfl,q⟩:=q1;cases r1;exact B8 ⟨H1,I1,q⟩
theorem hH_ {e:Expr}{t:TE} (h:PE X e t) (he:∀whole,isTrue e X.env whole=(do let v<-whole;standAt e.pos;holding [v] (truthy v)):=by intro _;rfl):PT X e (tB t):=by
 intro pins s σ H Q I hw;refine isTrue_plain (thn (h pins s σ H _ I hw) fun v s1 ⟨x,H1,I1,r1,q1⟩=> ?_) (he _);obtain⟨d,rfl,q⟩:=q1;cases r1;exact B8 ⟨H1,I1,q⟩
variable {tA tB':TT}{ek_:List Expr}
def um_ (t u:TT):TT:=fun σ H Q=>t σ H fun c H1=>if c=true then u σ H1 Q else Q false H1
def tOr (t u:TT):TT:=fun σ H Q=>t σ H fun c H1=>if c=true then Q true H1 else u σ H1 Q
def ug_ (t:TT):TT:=fun σ H Q=>t σ H fun c H1=>Q (!c) H1
theorem d3_ (ha:PT X a tA):PW X (.BoolOp .And [a] pos) tA:=by
 intro wh pins s σ H Q I h;refine isTrue_and (thn (ha pins s σ H Q I h) fun c s1 e=> ?_);cases c with
 |true=>exact isTrue_and_nil e
 |false=>exact e
theorem lK_ (ha:PT X a tA):PW X (.BoolOp .Or [a] pos) tA:=by
 intro wh pins s σ H Q I h;refine isTrue_or (thn (ha pins s σ H Q I h) fun c s1 e=> ?_);cases c with
 |false=>exact isTrue_or_nil e
 |true=>exact e
theorem fX_ (ha:PT X a tA) (hb:PW X (.BoolOp .And (b::ek_) pos) tB'):PW X (.BoolOp .And (a::b::ek_) pos) (um_ tA tB'):=by
 intro wh pins s σ H Q I h;refine isTrue_and (thn (ha pins s σ H _ I h) fun c s1 ⟨H1,I1,q1⟩=> ?_);cases c with
 |true=>exact hb wh pins s1 σ H1 Q I1 q1
 |false=>exact⟨H1,I1,q1⟩
theorem nE_ (ha:PT X a tA) (hb:PW X (.BoolOp .Or (b::ek_) pos) tB'):PW X (.BoolOp .Or (a::b::ek_) pos) (tOr tA tB'):=by
 intro wh pins s σ H Q I h;refine isTrue_or (thn (ha pins s σ H _ I h) fun c s1 ⟨H1,I1,q1⟩=> ?_);cases c with
 |true=>exact⟨H1,I1,q1⟩
 |false=>exact hb wh pins s1 σ H1 Q I1 q1
theorem lL_ (ha:PT X a tA):PT X (.UnaryOp .Not a pos) (ug_ tA):=by
 intro pins s σ H Q I h;exact isTrue_not (ha pins s σ H (fun c H1=>Q (!c) H1) I h)
def s3_ (ta tb:TE):TE:=fun σ H Q=>ta σ H fun x H1=>∃c,x= .bl c/\if c=true then tb σ H1 Q else Q (.bl false) H1
def sW_ (ta:TE):TE:=fun σ H Q=>ta σ H fun x H1=>∃c,x= .bl c/\Q (.bl (!c)) H1
theorem oO_ {op}{t:TE} (h:PE X a t):PE X (.BoolOp op [a] pos) t:=fun pins s σ H Q I hw=>BoolOp_one (h pins s σ H Q I hw)
theorem oP_ (ha:PE X a ta) (hb:PE X (.BoolOp .And (b::ek_) pos) tb):PE X (.BoolOp .And (a::b::ek_) pos) (s3_ ta tb):=by
 intro pins s σ H Q I h;refine BoolOp_and (thn (ha pins s σ H _ I h) fun v s1 ⟨x,H1,I1,r1,q1⟩=> ?_);obtain⟨c,rfl,q1⟩:=q1;cases r1;refine B8 ?_;cases c with
 |true=>exact hb pins s1 σ H1 Q I1 q1
 |false=>exact⟨.bl false,H1,I1,rfl,q1⟩
theorem rL_ (ha:PE X a ta):PE X (.UnaryOp .Not a pos) (sW_ ta):=by
 intro pins s σ H Q I h;refine UnaryOp_ (thn (ha pins s σ H _ I h) fun v s1 ⟨x,H1,I1,r1,q1⟩=> ?_);obtain⟨c,rfl,q1⟩:=q1;cases r1;exact not_of (B8 ⟨.bl (!c),H1,I1,rfl,q1⟩)
def tIf (t:TT) (ta tb:TE):TE:=fun σ H Q=>t σ H fun c H1=>if c=true then ta σ H1 Q else tb σ H1 Q
theorem jO_ {c:Expr} (hc:PT X c tA) (ha:PE X a ta) (hb:PE X b tb):PE X (.IfExp c a b pos) (tIf tA ta tb):=by
 intro pins s σ H Q I h;refine wpAny_IfExp (thn (hc pins s σ H _ I h) fun d s1 ⟨H1,I1,q1⟩=> ?_);cases d with
 |true=>exact ha pins s1 σ H1 Q I1 q1
 |false=>exact hb pins s1 σ H1 Q I1 q1
end
end L2
namespace L2
open PySem PySem.Spec PyProof.Rows
def SqL (K:W.Frag) (H:Hp) (a:Addr) (xs:List V):Prop:=
 Rd H a (.lst xs)\/
  ∃(o:Obj) (its:Array Value) (n:Nat),K.lookup a=some o/\o.cls= .type "list"/\o.dict=none/\o.data= .seq its n/\its.size<=sizeLine/\aX_ xs its.toList
def SqT (K:W.Frag) (H:Hp) (a:Addr) (xs:List V):Prop:=
 Rd H a (.tup xs)\/
  ∃(o:Obj) (its:Array Value) (n:Nat),K.lookup a=some o/\o.cls= .type "tuple"/\o.data= .seq its n/\its.size<=sizeLine/\aX_ xs its.toList
def uK_:Value->Option V
 | .none=>some .non
 | .bool b=>some (.bl b)
 | .int i _=>some (.int i)
 | .str x _=>some (.str x)
 | .bytes b _=>some (.byt b)
 | .float b _=>some (.flt b)
 | .ref a=>some (.ref a)
 | .type n=>some (.ty n)
 |_=>none
theorem a3_.abs {x:V}{u:Value} (r:a3_ x u):uK_ u=some x:=by
 cases x with
 |non=>cases r;rfl
 |bl _=>cases r;rfl
 |int _=>obtain⟨t,rfl⟩:=r;rfl
 |str _=>obtain⟨t,rfl⟩:=r;rfl
 |byt _=>obtain⟨t,rfl⟩:=r;rfl
 |flt _=>obtain⟨t,rfl⟩:=r;rfl
 |ref _=>cases r;rfl
 |ty _=>cases r;rfl
theorem a3_.inj {x y:V}{u:Value} (r:a3_ x u) (q:a3_ y u):x=y:=An (r.abs.symm.trans q.abs)
theorem aX_.inj:∀{xs ys:List V}{us:List Value},aX_ xs us->aX_ ys us->xs=ys
 |_,_,_, .nil, .nil=>rfl
 |_,_,_, .cons r t, .cons r' t'=>by rw [r.inj r',aX_.inj t t']
section
variable {X:Cx}{pins:List (Addr×Obj)}{σ:St}{H:Hp}{s:Shared}{a:Addr}{xs ys:List V}
theorem SqL.of {K:W.Frag} (h:H a=some (.lst xs)):SqL K H a xs:= .inl (.inl h)
theorem SqT.of {K:W.Frag} (h:H a=some (.tup xs)):SqT K H a xs:= .inl (.inl h)
theorem Inv.list (I:Inv X pins σ H s) (h:SqL X.K H a xs):∃its:List Value,aX_ xs its/\PlainL s.heap a its.toArray/\xs.length<=sizeLine:=by
 rcases h with h|⟨o,its,n,hk,hc,hd,hs,hz,r⟩
 .obtain⟨z,its,n,r,e⟩:=h.ok I.hok;exact⟨its,r,⟨_,n,e,rfl,rfl,rfl⟩,z⟩
 .refine⟨its.toList,r,⟨o,n,I.kIn a o hk,hc,hd,by simpa using hs⟩, ?_⟩;have e:=r.length;simp only [Ar] at e;lia
theorem Inv.tuple (I:Inv X pins σ H s) (h:SqT X.K H a xs):∃its:List Value,aX_ xs its/\IsTup s.heap a its.toArray/\xs.length<=sizeLine:=by
 rcases h with h|⟨o,its,n,hk,hc,hs,hz,r⟩
 .obtain⟨z,its,r,p⟩:=h.ok I.hok;exact⟨its,r,p,z⟩
 .refine⟨its.toList,r,⟨o,I.kIn a o hk,hc,n,by simpa using hs⟩, ?_⟩;have e:=r.length;simp only [Ar] at e;lia
theorem Inv.list_inj (I:Inv X pins σ H s) (h:SqL X.K H a xs) (h':SqL X.K H a ys):xs=ys:=by
 obtain⟨its,r,⟨o,n,e,_,_,d⟩,_⟩:=I.list h;obtain⟨its',r',⟨o',n',e',_,_,d'⟩,_⟩:=I.list h';rw [e] at e';cases e';rw [d] at d';injection d' with d1 _;have:its=its':=by simpa using congrArg Array.toList d1
 subst this;exact r.inj r'
theorem Inv.tuple_inj (I:Inv X pins σ H s) (h:SqT X.K H a xs) (h':SqT X.K H a ys):xs=ys:=by
 obtain⟨its,r,⟨o,e,_,n,d⟩,_⟩:=I.tuple h;obtain⟨its',r',⟨o',e',_,n',d'⟩,_⟩:=I.tuple h';rw [e] at e';cases e';rw [d] at d';injection d' with d1 _;have:its=its':=by simpa using congrArg Array.toList d1
 subst this;exact r.inj r'
end
abbrev Cx.wish (X:Cx) (E:Value->Shared->Prop):Cx:={X with xe:=E}
abbrev Cx.nox (X:Cx):Cx:=X.wish fun _ _=>False
theorem Cx.Ok.wish {X:Cx} (ok:X.Ok) (E:Value->Shared->Prop):(X.wish E).Ok:=
 ⟨ok.mod,ok.kind,ok.glob,ok.blt,ok.above,ok.inj,ok.has,ok.cab,ok.hd,ok.frames,ok.stk,ok.exf,ok.bs,ok.bsz,ok.noex,ok.exfs,ok.funs,ok.frf⟩
theorem Cx.Ok.unwish {X:Cx}{E:Value->Shared->Prop} (ok:(X.wish E).Ok):X.Ok:=
 ⟨ok.mod,ok.kind,ok.glob,ok.blt,ok.above,ok.inj,ok.has,ok.cab,ok.hd,ok.frames,ok.stk,ok.exf,ok.bs,ok.bsz,ok.noex,ok.exfs,ok.funs,ok.frf⟩
section
variable {X:Cx}{pins:List (Addr×Obj)}{σ:St}{H:Hp}{s:Shared}{E:Value->Shared->Prop}
theorem Inv.wish (I:Inv X pins σ H s) (E:Value->Shared->Prop):Inv (X.wish E) pins σ H s:=⟨I.ok.wish E,I.os,I.bare,I.base,I.loc,I.cell,I.free,I.freeC,I.pin,I.hok,I.len⟩
theorem Inv.unwish (I:Inv (X.wish E) pins σ H s):Inv X pins σ H s:=⟨I.ok.unwish,I.os,I.bare,I.base,I.loc,I.cell,I.free,I.freeC,I.pin,I.hok,I.len⟩
theorem SP.unwish {D:Ends}{f:Flow}{s':Shared} (h:SP (X.wish E) pins D f s'):SP X pins D f s':=by
 cases f with
 |next=>obtain⟨σ',H',I,q⟩:=h;exact⟨σ',H',I.unwish,q⟩
 |brk=>obtain⟨σ',H',I,q⟩:=h;exact⟨σ',H',I.unwish,q⟩
 |cont=>obtain⟨σ',H',I,q⟩:=h;exact⟨σ',H',I.unwish,q⟩
 |ret u=>obtain⟨v,σ',H',I,r,q⟩:=h;exact⟨v,σ',H',I.unwish,r,q⟩
theorem PSs.nox {st:List Stmt}{t:TS} (h:PSs X.nox st t):PSs X st t:=fun pins s σ H D I hw=>
 BJ (h pins s σ H D (I.wish _) hw) (fun _ _ q=>q.unwish) fun _ _ z=>False.elim z
end
section
variable {X:Cx}{st:Stmt}{ek_:List Stmt}{t u:TS}{e:Expr}{te:TE}{pos:Pos}
def sX_:TS:=fun D σ H=>D.nx σ H
def sF_ (t u:TS):TS:=fun D σ H=>t {D with nx:=u D} σ H
theorem aP_:PSs X [] sX_:=fun _ _ σ H _ I h=>wpAny_execs_nil ⟨σ,H,I,h⟩
theorem ac_ (h1:PS X st t) (h2:PSs X ek_ u):PSs X (st::ek_) (sF_ t u):=by
 intro pins s σ H D I h;refine wpAny_execs_cons (thn (h1 pins s σ H {D with nx:=u D} I h) fun f s1 q=> ?_);cases f with
 |next=>
  obtain⟨σ',H',I',q⟩:=q;exact h2 pins s1 σ' H' D I' q
 |ret v=>exact q
 |brk=>exact q
 |cont=>exact q
theorem ag_ (h1:PS X st t):PSs X [st] t:=by
 intro pins s σ H D I h;refine wpAny_execs_cons (thn (h1 pins s σ H D I h) fun f s1 q=> ?_);cases f with
 |next=>exact wpAny_execs_nil q
 |ret v=>exact q
 |brk=>exact q
 |cont=>exact q
theorem Inv.quiet {pins:List (Addr×Obj)}{σ:St}{H:Hp}{s:Shared} (I:Inv X pins σ H s):interactive X.env=false:=by simp [interactive,I.ok.kind]
def sZ_ (te:TE):TS:=fun D σ H=>te σ H fun _ H1=>D.nx σ H1
theorem aF_ (he:PE X e te) (hs:swapsWith e none pos.line X.env=pure false:=by rfl):PS X (.Expr e pos) (sZ_ te):=by
 intro pins s σ H D I h;exact wpAny_Expr_any (thn (he pins s σ H _ I h) fun v s1 ⟨x,H1,I1,r1,q1⟩=>⟨σ,H1,I1,q1⟩) I.quiet hs
def uf_ (te:TE):TS:=fun D σ H=>te σ H D.rt
theorem ao_ (he:PE X e te):PS X (.Return (some e) pos) (uf_ te):=by
 intro pins s σ H D I h;exact wpAny_Return_some (thn (he pins s σ H _ I h) fun v s1 ⟨x,H1,I1,r1,q1⟩=>⟨x,σ,H1,I1,r1,q1⟩)
def ui_ (c:TT) (t u:TS):TS:=fun D σ H=>c σ H fun b H1=>if b=true then t D σ H1 else u D σ H1
theorem b6_ {c:Expr}{a b:List Stmt}{tc:TT} (hc:PT X c tc) (ha:PSs X a t) (hb:PSs X b u):PS X (.If c a b pos) (ui_ tc t u):=by
 intro pins s σ H D I h;refine wpAny_If (thn (hc pins s σ H _ I h) fun d s1 ⟨H1,I1,q1⟩=> ?_);cases d with
 |true=>exact ha pins s1 σ H1 D I1 q1
 |false=>exact hb pins s1 σ H1 D I1 q1
def ra_:TS:=fun _ _ _=>False
theorem jK_:PS X st ra_:=fun _ _ _ _ _ _ h=>h.elim
end
abbrev TG:=V->St->Hp->(St->Hp->Prop)->Prop
abbrev TGs:=List V->St->Hp->(St->Hp->Prop)->Prop
def PG (X:Cx) (target:Expr) (t:TG):Prop:=
 ∀(pins:List (Addr×Obj)) (s:Shared) (σ:St) (H:Hp) (v:V) (u:Value) (Q:St->Hp->Prop),Inv X pins σ H s->a3_ v u->t v σ H Q->
  wpAny (model X.prog X.w) X.A (assign target X.env u) (fun _ s'=>∃σ' H',Inv X pins σ' H' s'/\Q σ' H') X.xe s
def PGs (X:Cx) (ts:List Expr) (t:TGs):Prop:=
 ∀(pins:List (Addr×Obj)) (s:Shared) (σ:St) (H:Hp) (vs:List V) (us:List Value) (Q:St->Hp->Prop),Inv X pins σ H s->aX_ vs us->t vs σ H Q->
  wpAny (model X.prog X.w) X.A (assignInOrder ((assignEach ts X.env).map (·.2)) us) (fun _ s'=>∃σ' H',Inv X pins σ' H' s'/\Q σ' H') X.xe s
abbrev sD_:=V->V->V->Hp->(Hp->Prop)->Prop
def tT_ (X:Cx) (t:sD_):Prop:=
 ∀(pins:List (Addr×Obj)) (s:Shared) (σ:St) (H:Hp) (o i v:V) (ov iv u:Value) (Q:Hp->Prop),Inv X pins σ H s->a3_ o ov->a3_ i iv->a3_ v u->t o i v H Q->
  wpAny (model X.prog X.w) X.A (setItem ov iv u) (fun _ s'=>∃H',Inv X pins σ H' s'/\Q H') X.xe s
abbrev TIp:=V->V->Hp->VK->Prop
def PIp (X:Cx) (op:Operator) (t:TIp):Prop:=
 ∀(pins:List (Addr×Obj)) (s:Shared) (σ:St) (H:Hp) (x y:V) (v u:Value) (Q:VK),Inv X pins σ H s->a3_ x v->a3_ y u->t x y H Q->
  wpAny (model X.prog X.w) X.A (inplaceOp op v u) (EP X pins σ Q) X.xe s
section
variable {X:Cx}{pos:Pos}
def bF_ (i:Nat):TG:=fun v σ H Q=>Q (σ.set i (some v)) H
theorem ai_ {i:Nat}{x:Str} (hN:X.N.Nodup) (hi:X.N[i]? =some x) (hx:Loc X.env.scope x) (hf:X.fn x=true\/X.env.scope.names.lookup x=some .local:=by first|exact .inl rfl|exact .inr rfl|assumption):PG X (.Name x pos) (bF_ i):=by
 intro pins s σ H v u Q I r h;exact wpAny_assign_Name (eB_ I hN hi hx r (fun s' I'=>⟨_,H,I',h⟩) hf)
def qq_:TGs:=fun vs σ H Q=>vs=[]/\Q σ H
def c1_ (t:TG) (u:TGs):TGs:=fun vs σ H Q=>∃v r,vs=v::r/\t v σ H fun σ' H'=>u r σ' H' Q
theorem bl_:PGs X [] qq_:=by
 intro pins s σ H vs us Q I r h;obtain⟨e,h⟩:=h;subst e;cases r;exact assignInOrder_nil ⟨σ,H,I,h⟩
theorem as_ {e:Expr}{es:List Expr}{t:TG}{u:TGs} (h1:PG X e t) (h2:PGs X es u)
  (hs:(assignEach (e::es) X.env).map (·.2)=assign e X.env::(assignEach es X.env).map (·.2):=by rfl):PGs X (e::es) (c1_ t u):=by
 intro pins s σ H vs us Q I r h;obtain⟨v,vr,e1,h⟩:=h;subst e1;cases r with
 |cons r rr=>
  rw [hs];refine assignInOrder_cons (thn (h1 pins s σ H _ _ _ I r h) fun _ s1 ⟨σ1,H1,I1,q1⟩=> ?_);exact h2 pins s1 σ1 H1 _ _ Q I1 rr q1
def o8_ (K:W.Frag) (n:Nat) (t:TGs):TG:=fun v σ H Q=>∃a xs,v= .ref a/\SqT K H a xs/\xs.length=n/\t xs σ H Q
theorem ce_ {es:List Expr}{k:Nat}{t:TGs}{n:Nat} (hc:X.calm=true) (h:PGs X es t)
  (hn:(assignEach es X.env).length=n:=by rfl) (hst:(assignEach es X.env).findIdx? (·.1)=none:=by rfl):PG X (.Tuple es k pos) (o8_ X.K n t):=by
 intro pins s σ H v u Q I r hw;obtain⟨a,xs,e1,hq,hl,hw⟩:=hw;subst e1;cases r;obtain⟨its,rv,ht,hz⟩:=I.tuple hq;refine assign_Tuple_tuple (I.ok.hd hc) ht (by simp [hn,<-hl,rv.length]) hst fun h' hx=> ?_;have I1:Inv X pins σ H {s with heap:=h'}:=I.kept (t':=s.toks) fun b o e=>hx b o (AK (AG e)) e;exact h pins _ σ H xs _ Q I1 (by simpa using rv) hw
def uI_ (to ti:TE) (t:sD_):TG:=fun v σ H Q=>to σ H fun o H1=>ti σ H1 fun i H2=>t o i v H2 fun H3=>Q σ H3
theorem oM_ {o i:Expr}{to ti:TE}{t:sD_} (ho:PE X o to) (hi:PE X i ti) (hs:tT_ X t)
  (ha:∀v,assign (.Subscript o i pos) X.env v=(do
   let ov<-holding [v] (eval o X.env)
   let iv<-holding [v,ov] (eval i X.env)
   standAt pos
   holding [v,ov,iv] (setItem ov iv v)
   release [v,ov,iv] []):=by intro _;rfl):PG X (.Subscript o i pos) (uI_ to ti t):=by
 intro pins s σ H v u Q I r h;rw [ha];refine A0 (B0 (thn (ho pins s σ H _ I h) fun ov s1 ⟨x,H1,I1,r1,q1⟩=> ?_));refine A0 (B0 (thn (hi pins s1 σ H1 _ I1 q1) fun iv s2 ⟨y,H2,I2,r2,q2⟩=> ?_));refine A0 (wpAny_standAt (A0 (B0 (thn (hs pins s2 σ H2 x y v ov iv u _ I2 r1 r2 r q2) fun _ s3 ⟨H3,I3,q3⟩=> ?_))));exact wpAny_release ⟨σ,H3,I3,q3⟩
def rg_ (te:TE) (g:TG):TS:=fun D σ H=>te σ H fun x H1=>g x σ H1 D.nx
theorem lN_ {tg e:Expr}{te:TE}{g:TG} (he:PE X e te) (hg:PG X tg g) (hs:swapsWithSole [tg] e pos.line X.env=pure false:=by rfl) (hw:swappedStores [tg] e X.env=pure none:=by rfl)
  (h1:(assignEach [tg] X.env).map (·.2)=[assign tg X.env]:=by rfl):PS X (.Assign [tg] e pos) (rg_ te g):=by
 intro pins s σ H D I h;refine wpAny_Assign_stores (thn (he pins s σ H _ I h) fun v s1 ⟨x,H1,I1,r1,q1⟩=> ?_) hs hw;rw [h1];exact thn (hg pins s1 σ H1 x v _ I1 r1 q1) fun _ s2 q=>q
theorem am_ {i:Nat}{x:Str}{e:Expr}{te:TE}{pos':Pos} (hN:X.N.Nodup) (hi:X.N[i]? =some x) (hx:Loc X.env.scope x) (he:PE X e te) (hs:swapsWith e (some (.Name x pos')) pos.line X.env=pure false:=by rfl) (hf:X.fn x=true\/X.env.scope.names.lookup x=some .local:=by first|exact .inl rfl|exact .inr rfl|assumption):
  PS X (.Assign [.Name x pos'] e pos) (rg_ te (bF_ i)):=by
 intro pins s σ H D I h;refine wpAny_Assign_Name (thn (he pins s σ H _ I h) fun v s1 ⟨y,H1,I1,r1,q1⟩=> ?_) hs;exact eB_ I1 hN hi hx r1 (fun s2 I2=>⟨_,H1,I2,q1⟩) hf
def ul_ (i:Nat) (te:TE) (ti:TIp):TS:=fun D σ H=>∃x,σ[i]? =some (some x)/\te σ H fun y H1=>ti x y H1 fun z H2=>D.nx (σ.set i (some z)) H2
theorem jL_ {i:Nat}{x:Str}{e:Expr}{te:TE}{op:Operator}{ti:TIp}{pos':Pos} (hN:X.N.Nodup) (hi:X.N[i]? =some x) (hx:Loc X.env.scope x) (he:PE X e te) (ho:PIp X op ti) (hf:X.fn x=true\/X.env.scope.names.lookup x=some .local:=by first|exact .inl rfl|exact .inr rfl|assumption):
  PS X (.AugAssign (.Name x pos') op e pos) (ul_ i te ti):=by
 intro pins s σ H D I h;obtain⟨v,e1,h⟩:=h;obtain⟨m,hn,hl⟩:=I.loc;have vis:Vis X.env.scope x:=by rcases hx with k|k;exact .inl k;exact .inr (.inl k)
 obtain⟨u,r,l⟩:=hl i x v hi e1 vis;refine wpAny_AugAssign_Name ?_;have go:wpAny (model X.prog X.w) X.A (eval e X.env) (fun w s₂=>wpAny (model X.prog X.w) X.A (inplaceOp op u w) (fun r s₃=>wpAny (model X.prog X.w) X.A (storeName X.env x r) (fun _=>SP X pins D .next) X.xe s₃) X.xe s₂) X.xe s:=by
  refine thn (he pins s σ H _ I h) fun w s1 ⟨y,H1,I1,r1,q1⟩=> ?_;refine thn (ho pins s1 σ H1 v y u w _ I1 r r1 q1) fun z s2 ⟨zv,H2,I2,r2,q2⟩=> ?_;exact eB_ I2 hN hi hx r2 (fun s3 I3=>⟨_,H2,I3,q2⟩) hf
 rcases l with⟨hk,hm⟩|⟨hk,c,hc,hcell⟩
 .exact wpAny_loadName_local I.ok.kind hk hn hm go
 .rcases hk with hk|hk
  .exact wpAny_loadName_cell I.ok.kind hk hc hcell go
  .rcases hx with k|k
   .have:X.env.scope.names.lookup x=some .free:=hk;rw [k] at this;cases this
   .have:X.env.scope.names.lookup x=some .free:=hk;rw [k] at this;cases this
def s2_ (to ti te:TE) (tget:V->V->Hp->VK->Prop) (tip:TIp) (tset:sD_):TS:=fun D σ H=>to σ H fun o H1=>ti σ H1 fun i H2=>tget o i H2 fun x H3=>te σ H3 fun y H4=>tip x y H4 fun z H5=>tset o i z H5 fun H6=>D.nx σ H6
def ua_ (X:Cx) (t:V->V->Hp->VK->Prop):Prop:=
 ∀(pins:List (Addr×Obj)) (s:Shared) (σ:St) (H:Hp) (o i:V) (ov iv:Value) (Q:VK),Inv X pins σ H s->a3_ o ov->a3_ i iv->t o i H Q->
  wpAny (model X.prog X.w) X.A (getItem ov iv) (EP X pins σ Q) X.xe s
theorem gw_ {o i e:Expr}{to ti te:TE}{tget:V->V->Hp->VK->Prop}{tip:TIp}{tset:sD_}{op:Operator}{tpos:Pos} (ho:PE X o to) (hi:PE X i ti) (hg:ua_ X tget) (he:PE X e te) (hp:PIp X op tip) (hs:tT_ X tset)
  (ha:∀ov iv new,augStore i ov iv new=(do holding [new,ov,iv] (setItem ov iv new);release [new,ov,iv] [];pure .next):=by intros;rfl):PS X (.AugAssign (.Subscript o i tpos) op e pos) (s2_ to ti te tget tip tset):=by
 intro pins s σ H D I h;refine wpAny_AugAssign_SubscriptAny (thn (ho pins s σ H _ I h) fun ov s1 ⟨x1,H1,I1,r1,q1⟩=> ?_) ha;refine thn (hi pins s1 σ H1 _ I1 q1) fun iv s2 ⟨x2,H2,I2,r2,q2⟩=> ?_;refine thn (hg pins s2 σ H2 x1 x2 ov iv _ I2 r1 r2 q2) fun old s3 ⟨x3,H3,I3,r3,q3⟩=> ?_;refine thn (he pins s3 σ H3 _ I3 q3) fun v s4 ⟨x4,H4,I4,r4,q4⟩=> ?_;refine thn (hp pins s4 σ H4 x3 x4 old v _ I4 r3 r4 q4) fun new s5 ⟨x5,H5,I5,r5,q5⟩=> ?_;exact thn (hs pins s5 σ H5 x1 x2 x5 ov iv new _ I5 r1 r2 r5 q5) fun _ s6 ⟨H6,I6,q6⟩=>⟨σ,H6,I6,q6⟩
def ipI (f:Int->Int->Int):TIp:=fun x y H Q=>∃i j,x= .int i/\y= .int j/\Q (.int (f i j)) H
theorem id_:PIp X .Add (ipI fun i j=>i+j):=by
 intro pins s σ H x y v u Q I r1 r2 h;obtain⟨i,j,e1,e2,q⟩:=h;subst e1;subst e2;obtain⟨t,rfl⟩:=r1;obtain⟨t',rfl⟩:=r2;exact iadd_int ⟨.int _,H,I.tok _,⟨_,rfl⟩,q⟩
theorem o0_:PIp X .Sub (ipI fun i j=>i-j):=by
 intro pins s σ H x y v u Q I r1 r2 h;obtain⟨i,j,e1,e2,q⟩:=h;subst e1;subst e2;obtain⟨t,rfl⟩:=r1;obtain⟨t',rfl⟩:=r2;exact isub_int ⟨.int _,H,I.tok _,⟨_,rfl⟩,q⟩
end
section
variable {X:Cx}{pos:Pos}
def lm_ (c:TT) (tb:TS):TS:=fun D σ H=>∃Wq:Nat->St->Hp->Prop,(∃m,Wq m σ H)/\∀m σ H,Wq m σ H->
 c σ H fun b H1=>if b=true then∃N:St->Hp->Prop,(∀σ' H',N σ' H'->∃m',m'<m/\Wq m' σ' H')/\tb {D with nx:=N,ct:=N,bk:=D.nx} σ H1 else D.nx σ H1
theorem eE_ {c:Expr}{body:List Stmt}{tc:TT}{tb:TS} (hp:PassesOwn (model X.prog X.w) X.A X.env X.xe) (hc:PT X c tc) (hb:PSs X body tb):PS X (.While c body [] pos) (lm_ tc tb):=by
 intro pins s σ H D I h;obtain⟨Wq,⟨m0,w0⟩,turn⟩:=h;refine wpAny_While (codeAny_whileLoop (fun n s'=>∃σ' H',Inv X pins σ' H' s'/\Wq n σ' H') ?_ m0 ⟨σ,H,I,w0⟩);rintro n s1 ⟨σ1,H1,I1,w1⟩;refine C4 hp (thn (hc pins s1 σ1 H1 _ I1 (turn n σ1 H1 w1)) fun b s2 ⟨H2,I2,q2⟩=> ?_);cases b with
 |true=>
  obtain⟨N,hN,q2⟩:=q2;rw [A8 rfl];refine C4 hp (thn (hb pins s2 σ1 H2 _ I2 q2) fun f s3 q3=> ?_);cases f with
  |next=>
   obtain⟨σ3,H3,I3,n3⟩:=q3;obtain⟨m',hm,w3⟩:=hN σ3 H3 n3;exact⟨m',hm,σ3,H3,I3,w3⟩
  |cont=>
   obtain⟨σ3,H3,I3,n3⟩:=q3;obtain⟨m',hm,w3⟩:=hN σ3 H3 n3;exact⟨m',hm,σ3,H3,I3,w3⟩
  |brk=>exact q3
  |ret v=>exact q3
 |false=>
  rw [A6 AU];exact wpAny_execs_nil ⟨σ1,H2,I2,q2⟩
end
structure It where
 go:Nat->Hp->Prop
 yld:Nat->Hp->V->Hp->Prop
 stop:Nat->Hp->Prop
def jt_ (X:Cx) (pins:List (Addr×Obj)) (H:Hp) (b:Addr):Prop:=
 H b=none/\b≠X.env.locals/\b∉X.fs/\(b∈X.ex\/X.s₀.heap.objs.size<=b)/\(∀x c,X.env.cells.lookup x=some c->c≠b)/\∀p∈X.pn++pins,p.1≠b
theorem Inv.fpOk {X:Cx}{pins:List (Addr×Obj)}{σ:St}{H H':Hp}{s:Shared}{b:Addr} (I:Inv X pins σ H s) (hb:s.heap.objs.size<=b) (hn:H' b=none):jt_ X pins H' b:=by
 refine⟨hn,Bu (Ad I.lt hb),I.nofs hb, .inr (Ac I.sz hb),fun x c e z=> ?_,fun p hp z=> ?_⟩
 .obtain⟨v,q⟩:=I.cell x c e;exact absurd (Ad q.lt (by rw [z];exact hb)) (Bm _)
 .exact absurd (Ad (AG (I.pin p hp).1) (by rw [z];exact hb)) (Bm _)
structure Turn (P:Program) (w:World) (K:W.Frag) (tg:Expr) (J:It) (fp:List Addr) (it:Addr) (tn:Nat->Heap->Prop):Prop where
 mem:it∈fp
 obj:∀i h,tn i h->∀b∈fp,∃o,h.get? b=some o/\∀v,o.data≠ .cell v
 keep:∀i h h',tn i h->(∀b∈fp,∀o,h.get? b=some o->h'.get? b=some o)->tn i h'
 item:∀(X:Cx),X.prog=P->X.w=w->X.K=K->X.calm=true->∀(i:Nat) (pins:List (Addr×Obj)) (s:Shared) (σ:St) (H:Hp) (E:Value->Shared->Prop),Inv X pins σ H s->(∀b∈fp,jt_ X pins H b)->tn i s.heap->J.go i H->
  wpAny (model P w) X.A (pyNext (.ref it)) (fun r s1=>∃u,r=some u/\
   wpAny (model P w) X.A (letOwnedTupleGo tg (.ref it) u) (fun _ s2=>∃x H',Inv X pins σ H' s2/\a3_ x u/\J.yld i H x H'/\tn (i+1) s2.heap/\∀b∈fp,H' b=none) E s1) E s
 done:∀(X:Cx),X.prog=P->X.w=w->X.K=K->X.calm=true->∀(i:Nat) (pins:List (Addr×Obj)) (s:Shared) (σ:St) (H:Hp) (E:Value->Shared->Prop),Inv X pins σ H s->(∀b∈fp,jt_ X pins H b)->tn i s.heap->J.stop i H->
  wpAny (model P w) X.A (pyNext (.ref it)) (fun r s1=>r=none/\Inv X pins σ H s1) E s
 self:∀(A:Around) (i:Nat) (s:Shared) (Q:Value->Shared->Prop) (E:Value->Shared->Prop),tn i s.heap->Q (.ref it) s->wpAny (model P w) A (pyIter (.ref it)) Q E s
abbrev TI:=St->Hp->(It->Hp->Prop)->Prop
def PIE (X:Cx) (pins:List (Addr×Obj)) (σ:St) (tg:Expr) (R:It->Hp->Prop) (itv:Value) (s2:Shared):Prop:=
 ∃(it:Addr) (fp:List Addr) (tn:Nat->Heap->Prop) (J:It) (H':Hp),itv= .ref it/\Inv X pins σ H' s2/\Turn X.prog X.w X.K tg J fp it tn/\tn 0 s2.heap/\(∀b∈fp,jt_ X pins H' b)/\R J H'
def PI (X:Cx) (tg iter:Expr) (wi:TI):Prop:=
 ∀(pins:List (Addr×Obj)) (s:Shared) (σ:St) (H:Hp) (R:It->Hp->Prop),Inv X pins σ H s->wi σ H R->
  wpAny (model X.prog X.w) X.A (eval iter X.env) (fun v s1=>wpAny (model X.prog X.w) X.A (pyIter v) (PIE X pins σ tg R) X.xe s1) X.xe s
theorem go_of {M : Model} {A : Around} {E : Value -> Shared -> Prop} {s : Shared} {tg : Expr} {it : Addr} {u : Value} {o : Obj} {n : String} {vs : Array Value} {Q : Unit -> Shared -> Prop} (ho : s.heap.get? it = some o) (hc : o.cls = .type n) (hd : o.data = .fields vs)
    (hn : ["enumerate", "zip", "dict_itemiterator", "dict_reverseitemiterator", "odict_iterator", "itertools.zip_longest", "itertools.pairwise"].contains n = false) (hQ : Q () s) : wpAny M A (letOwnedTupleGo tg (.ref it) u) Q E s := by
  unfold letOwnedTupleGo;cases tg <;> first
    | exact A4 hQ
    | (cases u <;> first
        | exact A4 hQ
        | (refine A0 (wpAny_load ho ?_)
           rw [hc, hd];show wpAny M A (if (["enumerate", "zip", "dict_itemiterator", "dict_reverseitemiterator", "odict_iterator", "itertools.zip_longest", "itertools.pairwise"].contains n && vs[0]? == some (rawInt _)) = true then _ else _) Q E s;rw [A6 (by intro h; rw [hn, Bool.false_and] at h; cases h)];exact A4 hQ))
def Itl (K:W.Frag) (a:Addr):It:=
 ⟨fun i H=>∃xs x,SqL K H a xs/\xs[i]? =some x,fun i H x H'=>H'=H/\∀xs,SqL K H a xs->xs[i]? =some x,fun i H=>∃xs,SqL K H a xs/\xs.length<=i⟩
def Itt (K:W.Frag) (a:Addr):It:=
 ⟨fun i H=>∃xs x,SqT K H a xs/\xs[i]? =some x,fun i H x H'=>H'=H/\∀xs,SqT K H a xs->xs[i]? =some x,fun i H=>∃xs,SqT K H a xs/\xs.length<=i⟩
def Itr (lo:Int) (n:Nat):It:=⟨fun i _=>i<n,fun i H x H'=>H'=H/\x= .int (lo+i),fun i _=>n<=i⟩
theorem lg_ {P:Program}{w:World}{K:W.Frag}{tg:Expr} (a it:Addr):Turn P w K tg (Itl K a) [it] it (fun i h=>h.IsListIter it a i) where
 mem:=by simp
 obj:=fun i h st b hb=>by
  have e:b=it:=by simpa using hb
  subst e;obtain⟨o,e,c,d⟩:=st;exact⟨o,e,fun v z=>by rw [d] at z;cases z⟩
 keep:=fun i h h' st k=>st.at fun o e=>k it (by simp) o e
 item:=by
  intro X hP hw hK hc i pins s σ H E I hf st hg;subst hP hw hK;obtain⟨xs,x,hq,hx⟩:=hg;obtain⟨its,rv,p,hz⟩:=I.list hq;obtain⟨u,hu,ru⟩:=rv.get hx;obtain⟨f0,f1,f2,f3,f4,f5⟩:=hf it (by simp);refine wpAny_pyNext_list_item st p.isList (x:=u) (by simpa using hu) fun h' st' sb=> ?_;have I1:Inv X pins σ H {s with heap:=h'}:=I.turned (t':=s.toks) (fun b o hb e=>(sb.2 b hb).trans e) f0 f1 f3 f4 f5;obtain⟨o,e,c,d⟩:=id st';exact⟨u,rfl,go_of (s:={s with heap:=h'}) e c d (by decide) ⟨x,H,I1,ru,⟨rfl,fun ys hy=>by rw [I.list_inj hy hq];exact hx⟩,st',fun b hb=>(hf b hb).1⟩⟩
 done:=by
  intro X hP hw hK hc i pins s σ H E I hf st hg;subst hP hw hK;obtain⟨xs,hq,hx⟩:=hg;obtain⟨its,rv,p,hz⟩:=I.list hq;obtain⟨f0,f1,f2,f3,f4,f5⟩:=hf it (by simp);have hl:=rv.length;exact wpAny_pyNext_list_end (I.ok.hd hc) st p.isList (by simp;lia) fun h' eb=>⟨rfl,I.turned (t':=s.toks) (fun b o hb e=>eb b o hb e) f0 f1 f3 f4 f5⟩
 self:=fun _ _ _ _ _ st h=>wpAny_pyIter_listiter st h
theorem ky_ {P:Program}{w:World}{K:W.Frag}{tg:Expr} (a it:Addr):Turn P w K tg (Itt K a) [it] it (fun i h=>h.IsTupleIter it a i) where
 mem:=by simp
 obj:=fun i h st b hb=>by
  have e:b=it:=by simpa using hb
  subst e;obtain⟨o,e,c,d⟩:=st;exact⟨o,e,fun v z=>by rw [d] at z;cases z⟩
 keep:=fun i h h' st k=>st.at fun o e=>k it (by simp) o e
 item:=by
  intro X hP hw hK hc i pins s σ H E I hf st hg;subst hP hw hK;obtain⟨xs,x,hq,hx⟩:=hg;obtain⟨its,rv,p,hz⟩:=I.tuple hq;obtain⟨u,hu,ru⟩:=rv.get hx;obtain⟨f0,f1,f2,f3,f4,f5⟩:=hf it (by simp);refine wpAny_pyNext_tuple_item st (show s.heap.IsTuple a its.toArray from p) (x:=u) (by simpa using hu) fun h' st' sb=> ?_;have I1:Inv X pins σ H {s with heap:=h'}:=I.turned (t':=s.toks) (fun b o hb e=>(sb.2 b hb).trans e) f0 f1 f3 f4 f5;obtain⟨o,e,c,d⟩:=id st';exact⟨u,rfl,go_of (s:={s with heap:=h'}) e c d (by decide) ⟨x,H,I1,ru,⟨rfl,fun ys hy=>by rw [I.tuple_inj hy hq];exact hx⟩,st',fun b hb=>(hf b hb).1⟩⟩
 done:=by
  intro X hP hw hK hc i pins s σ H E I hf st hg;subst hP hw hK;obtain⟨xs,hq,hx⟩:=hg;obtain⟨its,rv,p,hz⟩:=I.tuple hq;obtain⟨f0,f1,f2,f3,f4,f5⟩:=hf it (by simp);have hl:=rv.length;exact wpAny_pyNext_tuple_end (I.ok.hd hc) st (show s.heap.IsTuple a its.toArray from p) (by simp;lia) fun h' eb=>⟨rfl,I.turned (t':=s.toks) (fun b o hb e=>eb b o hb e) f0 f1 f3 f4 f5⟩
 self:=fun _ _ _ _ _ st h=>wpAny_pyIter_tupleiter st h
theorem kz_ {P:Program}{w:World}{K:W.Frag}{tg:Expr} (it:Addr) (lo:Int) (n:Nat):Turn P w K tg (Itr lo n) [it] it (fun i h=>IsRangeIter h it (lo+(i:Nat)*1) ((n:Int)-(i:Nat)) 1) where
 mem:=by simp
 obj:=fun i h st b hb=>by
  have e:b=it:=by simpa using hb
  subst e;exact⟨_,st,fun v z=>by
   have z':Data.fields _=Data.cell v:=z;cases z'⟩
 keep:=fun i h h' st k=>k it (by simp) _ st
 item:=by
  intro X hP hw hK hc i pins s σ H E I hf st hg;subst hP hw hK;obtain⟨f0,f1,f2,f3,f4,f5⟩:=hf it (by simp);have Wq:=Walks.range (prog:=X.prog) (w:=X.w) (I.ok.hd hc) it lo 1 n;refine Wq.item i s _ _ hg st fun v h' tk hv st' kk=> ?_;obtain⟨t,rfl⟩:=hv;have I1:Inv X pins σ H {s with heap:=h',toks:=tk}:=I.turned (fun b o hb e=>kk b o (by simpa using hb) e) f0 f1 f3 f4 f5;refine⟨_,rfl,go_of (s:={s with heap:=h',toks:=tk}) (n:="range_iterator") st' rfl rfl (by decide) ⟨.int (lo+i),H,I1,⟨t, ?_⟩,⟨rfl,rfl⟩,st',fun b hb=>(hf b hb).1⟩⟩;rw [Int.mul_one]
 done:=by
  intro X hP hw hK hc i pins s σ H E I hf st hg;subst hP hw hK;obtain⟨f0,f1,f2,f3,f4,f5⟩:=hf it (by simp);exact wpAny_pyNext_range_end (I.ok.hd hc) st (by have:n<=i:=hg;lia) fun h' eb=>⟨rfl,I.turned (t':=s.toks) (fun b o hb e=>eb b o hb e) f0 f1 f3 f4 f5⟩
 self:=fun _ _ _ _ _ st h=>wpAny_pyIter_rangeiter st h
end L2
namespace L2
open PySem PySem.Spec PyProof.Rows
section
variable {X:Cx}{tg:Expr}
def tH_ (K:W.Frag) (tl:TE):TI:=fun σ H R=>tl σ H fun x H1=>∃a,x= .ref a/\(∃xs,SqL K H1 a xs)/\R (Itl K a) H1
def uG_ (K:W.Frag) (tl:TE):TI:=fun σ H R=>tl σ H fun x H1=>∃a,x= .ref a/\(∃xs,SqT K H1 a xs)/\R (Itt K a) H1
theorem aD_ {l:Expr}{tl:TE} (hl:PE X l tl):PI X tg l (tH_ X.K tl):=by
 intro pins s σ H R I h;refine thn (hl pins s σ H _ I h) fun v s1 ⟨x,H1,I1,r1,q1⟩=> ?_;obtain⟨a,e,⟨xs,hq⟩,q⟩:=q1;subst e;cases r1;obtain⟨its,rv,p,hz⟩:=I1.list hq;refine wpAny_pyIter_list p.isList ?_;refine⟨s1.heap.objs.size,[s1.heap.objs.size],_,_,H1,rfl,I1.kept (t':=s1.toks) fun b o e=>AB _ e,lg_ a _,⟨_,AI _ rfl,rfl,rfl⟩,fun b hb=> ?_,q⟩;have e:b=s1.heap.objs.size:=by simpa using hb
 subst e;exact I1.fpOk (A7 _) (I1.hok.fresh (A7 _))
theorem rI_ {l:Expr}{tl:TE} (hl:PE X l tl):PI X tg l (uG_ X.K tl):=by
 intro pins s σ H R I h;refine thn (hl pins s σ H _ I h) fun v s1 ⟨x,H1,I1,r1,q1⟩=> ?_;obtain⟨a,e,⟨xs,hq⟩,q⟩:=q1;subst e;cases r1;obtain⟨its,rv,p,hz⟩:=I1.tuple hq;refine wpAny_pyIter_tuple (show s1.heap.IsTuple a its.toArray from p) ?_;refine⟨s1.heap.objs.size,[s1.heap.objs.size],_,_,H1,rfl,I1.kept (t':=s1.toks) fun b o e=>AB _ e,ky_ a _,⟨_,AI _ rfl,rfl,rfl⟩,fun b hb=> ?_,q⟩;have e:b=s1.heap.objs.size:=by simpa using hb
 subst e;exact I1.fpOk (A7 _) (I1.hok.fresh (A7 _))
theorem jH_ {pins:List (Addr×Obj)}{σ:St}{H:Hp}{s:Shared}{R:It->Hp->Prop}{E:Value->Shared->Prop}{lo hi:Int}{t u v:Tok}{tk:Nat} (I:Inv X pins σ H s) (h1: -(2^62)<=lo) (h2:lo<2^62) (h3: -(2^62)<=hi) (h4:hi<2^62)
  (q:R (Itr lo (hi-lo).toNat) H):wpAny (model X.prog X.w) X.A (pyIter (.ref s.heap.objs.size)) (PIE X pins σ tg R) E {s with heap:=s.heap.push {cls:= .type "range",data:= .fields #[.int lo t, .int hi u, .int 1 v]},toks:=tk}:=by
 refine wpAny_pyIter_range (IsRange.new ..) (small_one h1 h2 h3 h4) ?_;have I1:Inv X pins σ H {s with heap:=s.heap.push {cls:= .type "range",data:= .fields #[.int lo t, .int hi u, .int 1 v]},toks:=tk}:=I.kept fun b o e=>AB _ e;refine⟨(s.heap.push {cls:= .type "range",data:= .fields #[.int lo t, .int hi u, .int 1 v]}).objs.size,[(s.heap.push {cls:= .type "range",data:= .fields #[.int lo t, .int hi u, .int 1 v]}).objs.size],_,_,H,rfl,
  I1.kept (t':=tk) fun b o e=>AB _ e,kz_ _ lo (hi-lo).toNat, ?_,fun b hb=> ?_,q⟩
 .have e1:lo+((0:Nat):Int)*1=lo:=by simp
  have e2:(((hi-lo).toNat:Nat):Int)-((0:Nat):Int)=Builtin.Range.rangeSize lo hi 1:=by rw [rangeSize_one];split<;>lia
  show IsRangeIter _ _ (lo+((0:Nat):Int)*1) ((((hi-lo).toNat:Nat):Int)-((0:Nat):Int)) 1;rw [e1,e2];exact AI _ rfl
 .have e:b=(s.heap.push {cls:= .type "range",data:= .fields #[.int lo t, .int hi u, .int 1 v]}).objs.size:=by simpa using hb
  subst e;exact I1.fpOk (A7 _) (I1.hok.fresh (A7 _))
def tG_ (ta:TA):TI:=fun σ H R=>ta σ H fun vs H1=>∃j:Int,vs=[.int j]/\-(2^62)<=j/\j<2^62/\R (Itr 0 j.toNat) H1
def tF_ (ta:TA):TI:=fun σ H R=>ta σ H fun vs H1=>∃i j:Int,vs=[.int i, .int j]/\(-(2^62)<=i/\i<2^62/\-(2^62)<=j/\j<2^62)/\R (Itr i (j-i).toNat) H1
theorem dD_ {a:Expr}{ta:TA}{p pos:Pos} (hg:Gl X "range") (hm:X.mg "range"=none) (ha:PA X [a] ta) (hs:starEach [a] X.env=[(false,eval a X.env)]:=by rfl):PI X tg (.Call (.Name "range" p) [a] [] pos) (tG_ ta):=by
 intro pins s σ H R I h;refine Call_ (cL_ I hg hm boot_range (BB (thn (ha pos pins s σ H _ I h) fun us s1 ⟨vs,H1,I1,r1,q1⟩=> ?_) hs rfl));obtain⟨j,e,q1,q2,q⟩:=q1;subst e;cases r1 with
 |cons r rr=>
  cases rr;obtain⟨t,rfl⟩:=r;exact call_range_1 (jH_ I1 (by lia) (by lia) q1 q2 (by simpa using q))
theorem a7_ {a b:Expr}{ta:TA}{p pos:Pos} (hg:Gl X "range") (hm:X.mg "range"=none) (ha:PA X [a,b] ta) (hs:starEach [a,b] X.env=[(false,eval a X.env),(false,eval b X.env)]:=by rfl) (hs2:starEach [b] X.env=[(false,eval b X.env)]:=by rfl):
  PI X tg (.Call (.Name "range" p) [a,b] [] pos) (tF_ ta):=by
 intro pins s σ H R I h;refine Call_ (cL_ I hg hm boot_range (BB (thn (ha pos pins s σ H _ I h) fun us s1 ⟨vs,H1,I1,r1,q1⟩=> ?_) (by rw [hs,hs2]) (by rw [hs2];rfl)));obtain⟨i,j,e,⟨q1,q2,q3,q4⟩,q⟩:=q1;subst e;cases r1 with
 |cons r rr=>
  cases rr with
  |cons r' rr=>
   cases rr;obtain⟨t,rfl⟩:=r;obtain⟨t',rfl⟩:=r';exact call_range_2 (jH_ I1 q1 q2 q3 q4 q)
def uj_ (wi:TI) (g:TG) (tb:TS):TS:=fun D σ H=>wi σ H fun J H1=>∃Wq:Nat->Nat->St->Hp->Prop,(∃m,Wq 0 m σ H1)/\∀i m σ H,Wq i m σ H->
 (J.stop i H/\D.nx σ H)\/(J.go i H/\∃N:St->Hp->Prop,(∀σ' H',N σ' H'->∃m',m'<m/\Wq (i+1) m' σ' H')/\∀x H',J.yld i H x H'->g x σ H' fun σ2 H2=>tb {D with nx:=N,ct:=N,bk:=D.nx} σ2 H2)
def hI_ (fp:List Addr) (h:Heap):List (Addr×Obj):=fp.filterMap fun b=>(h.get? b).map fun o=>(b,o)
theorem cV_ {fp:List Addr}{h:Heap}{b:Addr}{o:Obj} (hb:b∈fp) (e:h.get? b=some o):(b,o)∈hI_ fp h:=D4.mpr ⟨b,hb,by rw [e];rfl⟩
theorem l7_ {fp:List Addr}{h:Heap}{p:Addr×Obj} (hp:p∈hI_ fp h):p.1∈fp/\h.get? p.1=some p.2:=by
 obtain⟨b,hb,e⟩:=D4.mp hp;cases q:h.get? b with
 |none=>rw [q] at e;cases e
 |some o=>
  rw [q] at e;have e':(b,o)=p:=An e;subst e';exact⟨hb,q⟩
theorem Inv.pinned {pins:List (Addr×Obj)}{σ:St}{H:Hp}{s:Shared}{fp:List Addr} (I:Inv X pins σ H s) (hf:∀b∈fp,jt_ X pins H b) (ho:∀b∈fp,∃o,s.heap.get? b=some o/\∀v,o.data≠ .cell v):Inv X (pins++hI_ fp s.heap) σ H s:=
 I.pins_of fun p hp=>(CO.mp hp).elim (fun z=>I.pin p (Ap _ z)) fun z=>by
  obtain⟨hb,e⟩:=l7_ z;obtain⟨f0,f1,f2,_⟩:=hf p.1 hb;obtain⟨o,e',d⟩:=ho p.1 hb;rw [e] at e';cases e';exact⟨e,f0,f1,f2,d⟩
theorem Inv.unpinned {pins pl:List (Addr×Obj)}{σ:St}{H:Hp}{s:Shared} (I:Inv X (pins++pl) σ H s):Inv X pins σ H s:=I.pins_of fun p hp=>I.pin p (Ap _ (List.mem_append_left _ hp))
theorem aE_ {iter:Expr}{body:List Stmt}{wi:TI}{g:TG}{tb:TS}{pos:Pos} (hp:PassesOwn (model X.prog X.w) X.A X.env X.xe) (hc:X.calm=true) (hi:PI X tg iter wi) (hg:PG X tg g) (hb:PSs X body tb)
  (hs:∀x,foldedSetIterable iter X.env x=pure x:=by intro _;rfl):PS X (.For tg iter body [] pos) (uj_ wi g tb):=by
 intro pins s σ H D I h;refine wpAny_For (thn (hi pins s σ H _ I h) fun v s1 h1=>thn h1 fun itv s2 h2=> ?_) hs;obtain⟨it,fp,tn,J,H2,e,I2,T,st2,f2,Wq,⟨m0,w0⟩,turn⟩:=h2;subst e;have stat:∀{H':Hp},(∀b∈fp,H' b=none)->∀b∈fp,jt_ X pins H' b:=fun hn b hb=>⟨hn b hb,(f2 b hb).2⟩;refine codeAny_forLoop_any (fun n s'=>∃i σ' H',Inv X pins σ' H' s'/\tn i s'.heap/\(∀b∈fp,H' b=none)/\Wq i n σ' H') ?_ m0 ⟨0,σ,H2,I2,st2,fun b hb=>(f2 b hb).1,w0⟩;rintro n s3 ⟨i,σ3,H3,I3,st3,fr3,w3⟩;rcases turn i n σ3 H3 w3 with⟨stop,qn⟩|⟨go,N,hN,step⟩
 .refine C4 hp (thn (T.done X rfl rfl rfl hc i pins s3 σ3 H3 X.xe I3 (stat fr3) st3 stop) fun r s4 ⟨hr,I4⟩=> ?_);subst hr;exact wpAny_execs_nil ⟨σ3,H3,I4,qn⟩
 .refine C4 hp (thn (T.item X rfl rfl rfl hc i pins s3 σ3 H3 X.xe I3 (stat fr3) st3 go) fun r s4 ⟨u,hr,h4⟩=> ?_);subst hr;refine C4 hp (thn h4 fun _ s5 ⟨x,H5,I5,r5,y5,st5,fr5⟩=> ?_);have I5':=I5.pinned (stat fr5) (T.obj _ _ st5);refine C4 hp (thn (hg _ s5 σ3 H5 x u _ I5' r5 (step x H5 y5)) fun _ s6 ⟨σ6,H6,I6,q6⟩=> ?_);refine C4 hp (thn (hb _ s6 σ6 H6 _ I6 q6) fun f s7 q7=> ?_);have again:∀{σ7:St}{H7:Hp},Inv X (pins++hI_ fp s5.heap) σ7 H7 s7->N σ7 H7->∃m,m<n/\∃i σ' H',Inv X pins σ' H' s7/\tn i s7.heap/\(∀b∈fp,H' b=none)/\Wq i m σ' H':=fun{σ7 H7} I7 n7=>by
   obtain⟨m',hm,w7⟩:=hN σ7 H7 n7;refine⟨m',hm,i+1,σ7,H7,I7.unpinned,T.keep _ _ _ st5 fun b hb o e=>(I7.pin (b,o) (Ap _ (Ap _ (cV_ hb e)))).1,fun b hb=> ?_,w7⟩;obtain⟨o,e,d⟩:=T.obj _ _ st5 b hb;exact(I7.pin (b,o) (Ap _ (Ap _ (cV_ hb e)))).2.1
  cases f with
  |next=>obtain⟨σ7,H7,I7,n7⟩:=q7;exact again I7 n7
  |cont=>obtain⟨σ7,H7,I7,n7⟩:=q7;exact again I7 n7
  |brk=>obtain⟨σ7,H7,I7,q7⟩:=q7;exact⟨σ7,H7,I7.unpinned,q7⟩
  |ret v=>obtain⟨x7,σ7,H7,I7,r7,q7⟩:=q7;exact⟨x7,σ7,H7,I7.unpinned,r7,q7⟩
end
theorem bj_ {K:W.Frag}{a:Addr}{xs:List V}{g:TG}{tb:TS}{D:Ends}{σ:St}{H:Hp} (Pv:Nat->St->Hp->Prop) (h0:Pv 0 σ H) (hl:∀i σ H,i<=xs.length->Pv i σ H->SqL K H a xs)
  (hs:∀i x σ H,xs[i]? =some x->Pv i σ H->g x σ H fun σ2 H2=>tb {D with nx:=Pv (i+1),ct:=Pv (i+1),bk:=D.nx} σ2 H2) (hd:∀σ H,Pv xs.length σ H->D.nx σ H):
  ∃Wq:Nat->Nat->St->Hp->Prop,(∃m,Wq 0 m σ H)/\∀i m σ H,Wq i m σ H->
   ((Itl K a).stop i H/\D.nx σ H)\/((Itl K a).go i H/\∃N:St->Hp->Prop,(∀σ' H',N σ' H'->∃m',m'<m/\Wq (i+1) m' σ' H')/\∀x H',(Itl K a).yld i H x H'->g x σ H' fun σ2 H2=>tb {D with nx:=N,ct:=N,bk:=D.nx} σ2 H2):=by
 refine⟨fun i m σ H=>m=xs.length-i/\i<=xs.length/\Pv i σ H,⟨xs.length,by simp,AS _,h0⟩, ?_⟩;rintro i m σ H ⟨rfl,hi,p⟩;have q:=hl i σ H hi p;by_cases hlt:i<xs.length
 .refine .inr ⟨⟨xs,xs[i],q,by simp [hlt]⟩,Pv (i+1),fun σ' H' p'=>⟨xs.length-(i+1),by lia,rfl,hlt,p'⟩,fun x H' y=> ?_⟩;obtain⟨e,y⟩:=y;subst e;exact hs i x σ _ (y xs q) p
 .have e:i=xs.length:=by lia
  subst e;exact .inl ⟨⟨xs,q,A7 _⟩,hd σ H p⟩
theorem qs_ {K:W.Frag}{a:Addr}{xs:List V}{g:TG}{tb:TS}{D:Ends}{σ:St}{H:Hp} (Pv:Nat->St->Hp->Prop) (h0:Pv 0 σ H) (hl:∀i σ H,i<=xs.length->Pv i σ H->SqT K H a xs)
  (hs:∀i x σ H,xs[i]? =some x->Pv i σ H->g x σ H fun σ2 H2=>tb {D with nx:=Pv (i+1),ct:=Pv (i+1),bk:=D.nx} σ2 H2) (hd:∀σ H,Pv xs.length σ H->D.nx σ H):
  ∃Wq:Nat->Nat->St->Hp->Prop,(∃m,Wq 0 m σ H)/\∀i m σ H,Wq i m σ H->
   ((Itt K a).stop i H/\D.nx σ H)\/((Itt K a).go i H/\∃N:St->Hp->Prop,(∀σ' H',N σ' H'->∃m',m'<m/\Wq (i+1) m' σ' H')/\∀x H',(Itt K a).yld i H x H'->g x σ H' fun σ2 H2=>tb {D with nx:=N,ct:=N,bk:=D.nx} σ2 H2):=by
 refine⟨fun i m σ H=>m=xs.length-i/\i<=xs.length/\Pv i σ H,⟨xs.length,by simp,AS _,h0⟩, ?_⟩;rintro i m σ H ⟨rfl,hi,p⟩;have q:=hl i σ H hi p;by_cases hlt:i<xs.length
 .refine .inr ⟨⟨xs,xs[i],q,by simp [hlt]⟩,Pv (i+1),fun σ' H' p'=>⟨xs.length-(i+1),by lia,rfl,hlt,p'⟩,fun x H' y=> ?_⟩;obtain⟨e,y⟩:=y;subst e;exact hs i x σ _ (y xs q) p
 .have e:i=xs.length:=by lia
  subst e;exact .inl ⟨⟨xs,q,A7 _⟩,hd σ H p⟩
theorem a9_ {lo:Int}{n:Nat}{g:TG}{tb:TS}{D:Ends}{σ:St}{H:Hp} (Pv:Nat->St->Hp->Prop) (h0:Pv 0 σ H)
  (hs:∀i σ H,i<n->Pv i σ H->g (.int (lo+i)) σ H fun σ2 H2=>tb {D with nx:=Pv (i+1),ct:=Pv (i+1),bk:=D.nx} σ2 H2) (hd:∀σ H,Pv n σ H->D.nx σ H):
  ∃Wq:Nat->Nat->St->Hp->Prop,(∃m,Wq 0 m σ H)/\∀i m σ H,Wq i m σ H->
   ((Itr lo n).stop i H/\D.nx σ H)\/((Itr lo n).go i H/\∃N:St->Hp->Prop,(∀σ' H',N σ' H'->∃m',m'<m/\Wq (i+1) m' σ' H')/\∀x H',(Itr lo n).yld i H x H'->g x σ H' fun σ2 H2=>tb {D with nx:=N,ct:=N,bk:=D.nx} σ2 H2):=by
 refine⟨fun i m σ H=>m=n-i/\i<=n/\Pv i σ H,⟨n,by simp,AS _,h0⟩, ?_⟩;rintro i m σ H ⟨rfl,hi,p⟩;by_cases hlt:i<n
 .refine .inr ⟨hlt,Pv (i+1),fun σ' H' p'=>⟨n-(i+1),by lia,rfl,hlt,p'⟩,fun x H' y=> ?_⟩;obtain⟨e,y⟩:=y;subst e y;exact hs i σ _ hlt p
 .have e:i=n:=by lia
  subst e;exact .inl ⟨A7 _,hd σ H p⟩
theorem ey_ {c:TT}{tb:TS}{D:Ends}{σ:St}{H:Hp} (Pv:St->Hp->Prop) (μ:St->Hp->Nat) (h0:Pv σ H)
  (hs:∀σ H,Pv σ H->c σ H fun b H1=>if b=true then tb {D with nx:=fun σ' H'=>Pv σ' H'/\μ σ' H'<μ σ H,ct:=fun σ' H'=>Pv σ' H'/\μ σ' H'<μ σ H,bk:=D.nx} σ H1 else D.nx σ H1)
  (mono:∀σ H Q Q',(∀b H1,Q b H1->Q' b H1)->c σ H Q->c σ H Q'):lm_ c tb D σ H:=by
 refine⟨fun m σ H=>m=μ σ H/\Pv σ H,⟨_,rfl,h0⟩, ?_⟩;rintro m σ H ⟨rfl,p⟩;refine mono σ H _ _ (fun b H1 q=> ?_) (hs σ H p);cases b with
 |true=>exact⟨_,fun σ' H' ⟨p',l⟩=>⟨_,l,rfl,p'⟩,q⟩
 |false=>exact q
end L2
namespace L2
open PySem PySem.Spec PyProof.Rows
abbrev R2:=V->V->Hp->VK->Prop
def OpR (X:Cx) (f:Value->Value->Sem Value) (r:R2):Prop:=
 ∀(pins:List (Addr×Obj)) (s:Shared) (σ:St) (H:Hp) (x y:V) (v u:Value) (Q:VK),Inv X pins σ H s->a3_ x v->a3_ y u->r x y H Q->
  wpAny (model X.prog X.w) X.A (f v u) (EP X pins σ Q) X.xe s
def UnR (X:Cx) (f:Value->Sem Value) (r:V->Hp->VK->Prop):Prop:=
 ∀(pins:List (Addr×Obj)) (s:Shared) (σ:St) (H:Hp) (x:V) (v:Value) (Q:VK),Inv X pins σ H s->a3_ x v->r x H Q->
  wpAny (model X.prog X.w) X.A (f v) (EP X pins σ Q) X.xe s
def cu_ (X:Cx) (f:Value) (r:List V->Hp->VK->Prop):Prop:=
 ∀(pins:List (Addr×Obj)) (s:Shared) (σ:St) (H:Hp) (xs:List V) (us:List Value) (Q:VK),Inv X pins σ H s->aX_ xs us->r xs H Q->
  wpAny (model X.prog X.w) X.A (call f us) (EP X pins σ Q) X.xe s
def uL_ (X:Cx) (r:V->Hp->(Bool->Hp->Prop)->Prop):Prop:=
 ∀(pins:List (Addr×Obj)) (s:Shared) (σ:St) (H:Hp) (x:V) (v:Value) (Q:Bool->Hp->Prop),Inv X pins σ H s->a3_ x v->r x H Q->
  wpAny (model X.prog X.w) X.A (truthy v) (TP X pins σ Q) X.xe s
def tOp (r:R2) (ta tb:TE):TE:=fun σ H Q=>ta σ H fun x H1=>tb σ H1 fun y H2=>r x y H2 Q
def tUn (r:V->Hp->VK->Prop) (ta:TE):TE:=fun σ H Q=>ta σ H fun x H1=>r x H1 Q
def rI (C:Int->Int->Prop) (g:Int->Int->V):R2:=fun x y H Q=>∃i j,x= .int i/\y= .int j/\C i j/\Q (g i j) H
def rI0 (g:Int->Int->V):R2:=fun x y H Q=>∃i j,x= .int i/\y= .int j/\Q (g i j) H
def rU (g:Int->V):V->Hp->VK->Prop:=fun x H Q=>∃i,x= .int i/\Q (g i) H
section
variable {X:Cx}{a b c:Expr}{ta tb tc:TE}{pos:Pos}
theorem tQ_ (ha:PE X a ta) (hb:PE X b tb) {pins:List (Addr×Obj)}{s:Shared}{σ:St}{H:Hp}{R:V->V->Hp->Prop} (I:Inv X pins σ H s)
  (h:ta σ H fun x H1=>tb σ H1 fun y H2=>R x y H2) {Q:Value->Shared->Prop}{f:Value->Value->Sem Value}
  (hf:∀v u s2 x y H2,Inv X pins σ H2 s2->a3_ x v->a3_ y u->R x y H2->wpAny (model X.prog X.w) X.A (f v u) Q X.xe s2):
  wpAny (model X.prog X.w) X.A (eval a X.env) (fun v s₁=>wpAny (model X.prog X.w) X.A (eval b X.env) (fun u s₂=>wpAny (model X.prog X.w) X.A (f v u) Q X.xe s₂) X.xe s₁) X.xe s:=by
 refine thn (ha pins s σ H _ I h) fun v s1 ⟨x,H1,I1,r1,q1⟩=> ?_;refine thn (hb pins s1 σ H1 _ I1 q1) fun u s2 ⟨y,H2,I2,r2,q2⟩=> ?_;exact hf v u s2 x y H2 I2 r1 r2 q2
theorem ak_ {op:Operator}{r:R2} (ho:OpR X (binaryOp op) r) (ha:PE X a ta) (hb:PE X b tb):PE X (.BinOp a op b pos) (tOp r ta tb):=by
 intro pins s σ H Q I h;exact wpAny_BinOp (tQ_ ha hb I h fun v u s2 x y H2 I2 rx ry q=>ho pins s2 σ H2 x y v u Q I2 rx ry q)
theorem pQ_ {op:UnaryOp}{r:V->Hp->VK->Prop} (ho:UnR X (unaryOp op) r) (ha:PE X a ta):PE X (.UnaryOp op a pos) (tUn r ta):=by
 intro pins s σ H Q I h;exact UnaryOp_ (thn (ha pins s σ H _ I h) fun v s1 ⟨x,H1,I1,r1,q1⟩=>ho pins s1 σ H1 x v Q I1 r1 q1)
theorem opI {f:Value->Value->Sem Value}{C:Int->Int->Prop}{g:Int->Int->Int}
  (rule:∀(i j:Int) (t u:Tok) (s:Shared) (Q:Value->Shared->Prop) (E:Value->Shared->Prop),C i j->Q (.int (g i j) s.toks) {s with toks:=s.toks+1}->wpAny (model X.prog X.w) X.A (f (.int i t) (.int j u)) Q E s):
  OpR X f (rI C fun i j=> .int (g i j)):=by
 intro pins s σ H x y v u Q I rx ry h;obtain⟨i,j,rfl,rfl,hc,q⟩:=h;obtain⟨t,rfl⟩:=rx;obtain⟨t',rfl⟩:=ry;exact rule i j t t' s _ _ hc ⟨.int (g i j),H,I.tok _,⟨_,rfl⟩,q⟩
theorem t4_ {f:Value->Value->Sem Value}{g:Int->Int->Int}
  (rule:∀(i j:Int) (t u:Tok) (s:Shared) (Q:Value->Shared->Prop) (E:Value->Shared->Prop),Q (.int (g i j) s.toks) {s with toks:=s.toks+1}->wpAny (model X.prog X.w) X.A (f (.int i t) (.int j u)) Q E s):
  OpR X f (rI0 fun i j=> .int (g i j)):=by
 intro pins s σ H x y v u Q I rx ry h;obtain⟨i,j,rfl,rfl,q⟩:=h;obtain⟨t,rfl⟩:=rx;obtain⟨t',rfl⟩:=ry;exact rule i j t t' s _ _ ⟨.int (g i j),H,I.tok _,⟨_,rfl⟩,q⟩
theorem sI_ {f:Value->Value->Sem Value}{g:Int->Int->Bool}
  (rule:∀(i j:Int) (t u:Tok) (s:Shared) (Q:Value->Shared->Prop) (E:Value->Shared->Prop),Q (.bool (g i j)) s->wpAny (model X.prog X.w) X.A (f (.int i t) (.int j u)) Q E s):
  OpR X f (rI0 fun i j=> .bl (g i j)):=by
 intro pins s σ H x y v u Q I rx ry h;obtain⟨i,j,rfl,rfl,q⟩:=h;obtain⟨t,rfl⟩:=rx;obtain⟨t',rfl⟩:=ry;exact rule i j t t' s _ _ ⟨.bl (g i j),H,I,rfl,q⟩
def uQ_ (i j:Int):Prop:=0<j/\j<1073741824
def uP_ (i j:Int):Prop:=0<=j/\j<=1000000/\i.natAbs<2^64
def sM_ (i j:Int):Prop:=(-(2^64)<i/\i<2^64)\/(-(2^64)<j/\j<2^64)
theorem sM_.ok {i j:Int} (h:sM_ i j):IntMulOk i j:=by
 rcases h with⟨h1,h2⟩|⟨h1,h2⟩
 .exact .of_left (intBits_le_64 h1 h2)
 .exact .of_right (intBits_le_64 h1 h2)
theorem ay_:OpR X (binaryOp .Add) (rI0 fun i j=> .int (i+j)):=t4_ fun _ _ _ _ _ _ _ q=>add_int q
theorem aT_:OpR X (binaryOp .Sub) (rI0 fun i j=> .int (i-j)):=t4_ fun _ _ _ _ _ _ _ q=>sub_int q
theorem bE_:OpR X (binaryOp .Mult) (rI sM_ fun i j=> .int (i*j)):=opI fun _ _ _ _ _ _ _ hc q=>mul_int q hc.ok
theorem l1_:OpR X (binaryOp .FloorDiv) (rI uQ_ fun i j=> .int (i/j)):=opI fun i j _ _ _ _ _ hc q=>by
 have h1:(0:Int)<j:=hc.1;have h2:j<1073741824:=hc.2;exact floordiv_int (by lia) (by rw [BU i (by lia)];exact q) (.inl (PyProof.noPylong_small (by lia)))
theorem e7_:OpR X (binaryOp .Mod) (rI (fun _ j=>0<j) fun i j=> .int (i%j)):=opI fun i j _ _ _ _ _ hc q=>by
 have h1:(0:Int)<j:=hc;exact mod_int' (by lia) (by rw [Int.fmod_eq_emod_of_nonneg i (by lia)];exact q)
theorem oS_:OpR X (binaryOp .Pow) (rI uP_ fun i j=> .int (i^j.toNat)):=opI fun _ _ _ _ _ _ _ hc q=>pow_int_small hc.1 hc.2.1 hc.2.2 q
theorem unI {f:Value->Sem Value}{g:Int->Int}
  (rule:∀(i:Int) (t:Tok) (s:Shared) (Q:Value->Shared->Prop) (E:Value->Shared->Prop),Q (.int (g i) s.toks) {s with toks:=s.toks+1}->wpAny (model X.prog X.w) X.A (f (.int i t)) Q E s):
  UnR X f (rU fun i=> .int (g i)):=by
 intro pins s σ H x v Q I rx h;obtain⟨i,rfl,q⟩:=h;obtain⟨t,rfl⟩:=rx;exact rule i t s _ _ ⟨.int (g i),H,I.tok _,⟨_,rfl⟩,q⟩
theorem lf_:UnR X (unaryOp .USub) (rU fun i=> .int (-i)):=unI fun _ _ _ _ _ q=>neg_int q
end
def t1_:V->V->Bool
 | .non, .non=>true| .non, .int _=>true| .int _, .non=>true| .non, .bl _=>true| .bl _, .non=>true| .non, .str _=>true| .str _, .non=>true
 | .int _, .int _=>true| .bl _, .bl _=>true| .str _, .str _=>true| .byt _, .byt _=>true
 | .int _, .str _=>true| .str _, .int _=>true| .bl _, .str _=>true| .str _, .bl _=>true
 |_,_=>false
def rEq:R2:=fun x y H Q=>t1_ x y=true/\Q (.bl (decide (x=y))) H
def rNe:R2:=fun x y H Q=>t1_ x y=true/\Q (.bl (!decide (x=y))) H
theorem mX_ {i j:Int}:decide (V.int i=V.int j)=(i==j):=by
 rw [Bool.eq_iff_iff];simp
theorem pc_ {i j:Bool}:decide (V.bl i=V.bl j)=(i==j):=by
 rw [Bool.eq_iff_iff];simp
theorem mW_ {i j:Str}:decide (V.str i=V.str j)=(i==j):=by
 rw [Bool.eq_iff_iff];simp
theorem mY_ {i j:Array UInt8}:decide (V.byt i=V.byt j)=(i.toList==j.toList):=by
 rw [Bool.eq_iff_iff];cases i;cases j;simp
section
variable {X:Cx}{a b c:Expr}{ta tb tc:TE}{pos:Pos}
theorem aK_ {pins:List (Addr×Obj)}{σ:St}{H:Hp}{s:Shared}{Q:VK}{k k':Bool} (I:Inv X pins σ H s) (q:Q (.bl k) H) (e:k=k'):EP X pins σ Q (.bool k') s:=by
 subst e;exact⟨.bl k,H,I,rfl,q⟩
theorem ew_:OpR X (compareOp .Eq) rEq:=by
 intro pins s σ H x y v u Q I rx ry h;obtain⟨hs,q⟩:=h;cases x with
 |non=>
  cases rx;cases y with
  |non=>cases ry;exact PySem.EqNone.eq_none_none (aK_ I q (by simp))
  |bl j=>cases ry;exact PySem.EqNone.eq_none_bool (aK_ I q (by simp))
  |int j=>obtain⟨t',rfl⟩:=ry;exact PySem.EqNone.eq_none_int (aK_ I q (by simp))
  |str j=>obtain⟨t',rfl⟩:=ry;exact PySem.EqNone.eq_none_str (aK_ I q (by simp))
  |_=>exact absurd (show false=true from hs) AU
 |bl i=>
  cases rx;cases y with
  |non=>cases ry;exact PySem.EqNone.eq_bool_none (aK_ I q (by simp))
  |bl j=>cases ry;exact eq_bool (aK_ I q pc_)
  |str j=>obtain⟨t',rfl⟩:=ry;exact PySem.EqMixed.eq_bool_str (aK_ I q (by simp))
  |_=>exact absurd (show false=true from hs) AU
 |int i=>
  obtain⟨t,rfl⟩:=rx;cases y with
  |non=>cases ry;exact PySem.EqNone.eq_int_none (aK_ I q (by simp))
  |int j=>obtain⟨t',rfl⟩:=ry;exact eq_int (aK_ I q mX_)
  |str j=>obtain⟨t',rfl⟩:=ry;exact PySem.EqMixed.eq_int_str (aK_ I q (by simp))
  |_=>exact absurd (show false=true from hs) AU
 |str i=>
  obtain⟨t,rfl⟩:=rx;cases y with
  |non=>cases ry;exact PySem.EqNone.eq_str_none (aK_ I q (by simp))
  |bl j=>cases ry;exact PySem.EqMixed.eq_str_bool (aK_ I q (by simp))
  |int j=>obtain⟨t',rfl⟩:=ry;exact PySem.EqMixed.eq_str_int (aK_ I q (by simp))
  |str j=>obtain⟨t',rfl⟩:=ry;exact eq_str (aK_ I q mW_)
  |_=>exact absurd (show false=true from hs) AU
 |byt i=>
  obtain⟨t,rfl⟩:=rx;cases y with
  |byt j=>obtain⟨t',rfl⟩:=ry;exact W.eq_bytes (aK_ I q mY_)
  |_=>exact absurd (show false=true from hs) AU
 |_=>cases y<;>exact absurd (show false=true from hs) AU
theorem ty_:OpR X (compareOp .NotEq) rNe:=by
 intro pins s σ H x y v u Q I rx ry h;obtain⟨hs,q⟩:=h;cases x with
 |non=>
  cases rx;cases y with
  |non=>cases ry;exact PySem.EqNone.ne_none_none (aK_ I q (by simp))
  |bl j=>cases ry;exact PySem.EqNone.ne_none_bool (aK_ I q (by simp))
  |int j=>obtain⟨t',rfl⟩:=ry;exact PySem.EqNone.ne_none_int (aK_ I q (by simp))
  |str j=>obtain⟨t',rfl⟩:=ry;exact PySem.EqNone.ne_none_str (aK_ I q (by simp))
  |_=>exact absurd (show false=true from hs) AU
 |bl i=>
  cases rx;cases y with
  |non=>cases ry;exact PySem.EqNone.ne_bool_none (aK_ I q (by simp))
  |bl j=>cases ry;exact ne_bool (aK_ I q (BR not pc_))
  |str j=>obtain⟨t',rfl⟩:=ry;exact PySem.EqMixed.ne_bool_str (aK_ I q (by simp))
  |_=>exact absurd (show false=true from hs) AU
 |int i=>
  obtain⟨t,rfl⟩:=rx;cases y with
  |non=>cases ry;exact PySem.EqNone.ne_int_none (aK_ I q (by simp))
  |int j=>obtain⟨t',rfl⟩:=ry;exact ne_int (aK_ I q (BR not mX_))
  |str j=>obtain⟨t',rfl⟩:=ry;exact PySem.EqMixed.ne_int_str (aK_ I q (by simp))
  |_=>exact absurd (show false=true from hs) AU
 |str i=>
  obtain⟨t,rfl⟩:=rx;cases y with
  |non=>cases ry;exact PySem.EqNone.ne_str_none (aK_ I q (by simp))
  |bl j=>cases ry;exact PySem.EqMixed.ne_str_bool (aK_ I q (by simp))
  |int j=>obtain⟨t',rfl⟩:=ry;exact PySem.EqMixed.ne_str_int (aK_ I q (by simp))
  |str j=>obtain⟨t',rfl⟩:=ry;exact ne_str (aK_ I q (BR not mW_))
  |_=>exact absurd (show false=true from hs) AU
 |byt i=>
  obtain⟨t,rfl⟩:=rx;cases y with
  |byt j=>obtain⟨t',rfl⟩:=ry;exact W.ne_bytes (aK_ I q (BR not mY_))
  |_=>exact absurd (show false=true from hs) AU
 |_=>cases y<;>exact absurd (show false=true from hs) AU
theorem hK_:OpR X (compareOp .Lt) (rI0 fun i j=> .bl (decide (i<j))):=sI_ fun _ _ _ _ _ _ _ q=>lt_int q
theorem hL_:OpR X (compareOp .LtE) (rI0 fun i j=> .bl (decide (i<=j))):=sI_ fun _ _ _ _ _ _ _ q=>le_int q
theorem iZ_:OpR X (compareOp .Gt) (rI0 fun i j=> .bl (decide (j<i))):=sI_ fun _ _ _ _ _ _ _ q=>gt_int q
theorem nO_:OpR X (compareOp .GtE) (rI0 fun i j=> .bl (decide (j<=i))):=sI_ fun _ _ _ _ _ _ _ q=>ge_int q
theorem aC_ (b:Expr) {op:CmpOp} (h:op≠ .In:=by decide) (h2:op≠ .NotIn:=by decide):behindInMarks op b=false:=by
 have e1:(op==CmpOp.In)=false:=by cases op<;>first|rfl|exact absurd rfl h
 have e2:(op==CmpOp.NotIn)=false:=by cases op<;>first|rfl|exact absurd rfl h2
 cases b<;>simp [behindInMarks,e1,e2]
theorem gy_ {op:CmpOp}{r:R2} (ho:OpR X (compareOp op) r) (ha:PE X a ta) (hb:PE X b tb) (hm:behindInMarks op b=false):PE X (.Compare a [op] [b] pos) (tOp r ta tb):=by
 intro pins s σ H Q I h;exact wpAny_Compare1 (tQ_ ha hb I h fun v u s2 x y H2 I2 rx ry q=>ho pins s2 σ H2 x y v u Q I2 rx ry q) hm
def q9_ (t:TE):TT:=fun σ H Q=>t σ H fun x H'=>∃k,x= .bl k/\Q k H'
theorem az_ {op:CmpOp}{r:R2} (ho:OpR X (compareOp op) r) (ha:PE X a ta) (hb:PE X b tb) (hm:behindInMarks op b=false):PT X (.Compare a [op] [b] pos) (q9_ (tOp r ta tb)):=by
 intro pins s σ H Q I h;refine wpAny_isTrue_Compare1 (thn (ha pins s σ H _ I h) fun v s1 ⟨x,H1,I1,r1,q1⟩=>thn (hb pins s1 σ H1 _ I1 q1) fun u s2 ⟨y,H2,I2,r2,q2⟩=>
  thn (ho pins s2 σ H2 x y v u _ I2 r1 r2 q2) fun c s3 ⟨z,H3,I3,r3,k,e,q3⟩=> ?_) hm
 subst e;cases r3;exact B8 ⟨H3,I3,q3⟩
def oA_ (r r':R2) (ta tb tc:TE):TE:=fun σ H Q=>ta σ H fun x H1=>tb σ H1 fun y H2=>r x y H2 fun z H3=>∃k,z= .bl k/\
 (if k=true then tc σ H3 fun w' H4=>r' y w' H4 Q else Q (.bl false) H3)
theorem nL_ {op op':CmpOp}{r r':R2} (ho:OpR X (compareOp op) r) (ho':OpR X (compareOp op') r') (ha:PE X a ta) (hb:PE X b tb) (hc:PE X c tc)
  (hm:lastMarks [op,op'] [b,c]=false:=by with_unfolding_all rfl):PE X (.Compare a [op,op'] [b,c] pos) (oA_ r r' ta tb tc):=by
 intro pins s σ H Q I h;refine Compare_chain (thn (ha pins s σ H _ I h) fun v s1 ⟨x,H1,I1,r1,q1⟩=>chain_link (thn (hb pins s1 σ H1 _ I1 q1) fun u s2 ⟨y,H2,I2,r2,q2⟩=>
  thn (ho pins s2 σ H2 x y v u _ I2 r1 r2 q2) fun d s3 ⟨z,H3,I3,r3,k,e,q3⟩=> ?_)) hm
 subst e;cases r3;refine B8 ?_;cases k with
 |false=>exact ite_ff ⟨.bl false,H3,I3,rfl,q3⟩
 |true=>exact ite_tt (chain_last (thn (hc pins s3 σ H3 _ I3 q3) fun w' s4 ⟨z',H4,I4,r4,q4⟩=>ho' pins s4 σ H4 y z' u w' Q I4 r2 r4 q4))
theorem jJ_ {op op':CmpOp}{r r':R2} (ho:OpR X (compareOp op) r) (ho':OpR X (compareOp op') r') (ha:PE X a ta) (hb:PE X b tb) (hc:PE X c tc)
  (hm:lastMarks [op,op'] [b,c]=false:=by with_unfolding_all rfl):PT X (.Compare a [op,op'] [b,c] pos) (q9_ (oA_ r r' ta tb tc)):=by
 intro pins s σ H Q I h;refine isTrue_chain (thn (ha pins s σ H _ I h) fun v s1 ⟨x,H1,I1,r1,q1⟩=>test_link (thn (hb pins s1 σ H1 _ I1 q1) fun u s2 ⟨y,H2,I2,r2,q2⟩=>
  thn (ho pins s2 σ H2 x y v u _ I2 r1 r2 q2) fun d s3 ⟨z,H3,I3,r3,k,e,q3⟩=> ?_)) hm
 subst e;cases r3;refine B8 ?_;cases k with
 |false=>
  obtain⟨k',e',q'⟩:=q3;cases e';exact ite_ff ⟨H3,I3,q'⟩
 |true=>
  refine ite_tt (test_last (thn (hc pins s3 σ H3 _ I3 q3) fun w' s4 ⟨z',H4,I4,r4,q4⟩=>thn (ho' pins s4 σ H4 y z' u w' _ I4 r2 r4 q4) fun d' s5 ⟨z2,H5,I5,r5,k2,e2,q5⟩=> ?_));subst e2;cases r5;exact B8 ⟨H5,I5,q5⟩
def t8_ (K:W.Frag) (x:V) (H:Hp) (k:Bool):Prop:=
 match x with
 | .non=>k=false
 | .bl b=>k=b
 | .int i=>k=(i !=0)
 | .str y=>y.length<=sizeLine/\k=((y.length:Int) !=0)
 | .byt y=>y.size<=sizeLine/\k=((y.size:Int) !=0)
 | .ref p=>(∃xs,SqL K H p xs/\k= !xs.isEmpty)\/(∃xs,SqT K H p xs/\k= !xs.isEmpty)\/∃kvs,H p=some (.dK kvs)/\k= !kvs.isEmpty
 |_=>False
theorem kT_ {κ:Type}{kvs:List (κ×V)}{vs:List (κ×Value)} (r:KV kvs vs):(!vs.isEmpty)= !kvs.isEmpty:=by
 cases r<;>rfl
theorem f5_ {xs:List V}{its:List Value} (r:aX_ xs its):(!its.toArray.isEmpty)= !xs.isEmpty:=by
 cases r<;>simp
theorem f2_:(sizeLine:Nat)<2^63:=by rw [B1];decide
theorem q5_:uL_ X (fun x H Q=>∃k,t8_ X.K x H k/\Q k H):=by
 intro pins s σ H x v Q I rx h;obtain⟨k,e,q⟩:=h;have hl:=f2_;have hs:sizeLine=16777216:=B1;cases x with
 |non=>
  cases rx;have e':k=false:=e;subst e';exact truthy_none ⟨H,I,q⟩
 |bl b=>
  cases rx;have e':k=b:=e;subst e';exact B8 ⟨H,I,q⟩
 |int i=>
  obtain⟨t,rfl⟩:=rx;have e':k=(i !=0):=e;subst e';exact PySem.P.truthy_int ⟨H,I,q⟩
 |str y=>
  obtain⟨t,rfl⟩:=rx;obtain⟨hy,e'⟩:y.length<=sizeLine/\k=((y.length:Int) !=0):=e;subst e';exact PySem.P.truthy_str (by lia) ⟨H,I.tok _,q⟩
 |byt y=>
  obtain⟨t,rfl⟩:=rx;obtain⟨hy,e'⟩:y.size<=sizeLine/\k=((y.size:Int) !=0):=e;subst e';exact W.truthy_bytes (by lia) ⟨H,I.tok _,q⟩
 |ref p=>
  cases rx;have e':(∃xs,SqL X.K H p xs/\k= !xs.isEmpty)\/(∃xs,SqT X.K H p xs/\k= !xs.isEmpty)\/∃kvs,H p=some (.dK kvs)/\k= !kvs.isEmpty:=e;rcases e' with⟨xs,hx,e'⟩|⟨xs,hx,e'⟩|⟨kvs,hx,e'⟩
  .subst e';obtain⟨its,r,pl,hz⟩:=I.list hx;have hlen:=r.length;exact wpAny_truthy_list pl.isList (by simp only [AA];lia) ⟨H,I.tok _,by rw [f5_ r];exact q⟩
  .subst e';obtain⟨its,r,pl,hz⟩:=I.tuple hx;have hlen:=r.length;exact truthy_tuple pl (by simp only [AA];lia) ⟨H,I.tok _,by rw [f5_ r];exact q⟩
  .subst e';obtain⟨hz,hS,vs,r,m⟩:kvs.length<=sizeLine/\(p==sysModules)=false/\∃vs,KV kvs vs/\s.heap.DictOf (a2_ X.prog X.w) p vs:=I.hok p _ hx;have hlen:kvs.length=vs.length:=Bt r;exact wpAny_truthy_dict hS m (by lia) ⟨H,I.tok _,by rw [kT_ r];exact q⟩
 |_=>exact(show False from e).elim
theorem gv_ (ha:PE X a ta) (he:∀whole,isTrue a X.env whole=(do let v<-whole;standAt a.pos;holding [v] (truthy v))):
  PT X a (fun σ H Q=>ta σ H fun x H'=>∃k,t8_ X.K x H' k/\Q k H'):=by
 intro pins s σ H Q I h;exact isTrue_plain (thn (ha pins s σ H _ I h) fun v s1 ⟨x,H1,I1,r1,q1⟩=>q5_ pins s1 σ H1 x v Q I1 r1 q1) (he _)
theorem du_ {x:V}{us:List Value} (r:aX_ [x] us):∃u,us=[u]/\a3_ x u:=by
 cases r with
 |cons r1 r2=>cases r2;exact⟨_,rfl,r1⟩
theorem pn_ {x y:V}{us:List Value} (r:aX_ [x,y] us):∃u w',us=[u,w']/\a3_ x u/\a3_ y w':=by
 cases r with
 |cons r1 r2=>
  cases r2 with
  |cons r3 r4=>cases r4;exact⟨_,_,rfl,r1,r3⟩
theorem eM_:cu_ X (.builtin "abs") (fun xs H Q=>∃i,xs=[.int i]/\Q (.int (if i<0 then -i else i)) H):=by
 intro pins s σ H xs us Q I r h;obtain⟨i,rfl,q⟩:=h;obtain⟨u,rfl,t,rfl⟩:=du_ r;exact call_abs_int fun u tk=>⟨.int (if i<0 then -i else i),H,I.tok _,⟨_,rfl⟩,q⟩
theorem m5_ (hc:X.calm=true):cu_ X (.builtin "max") (fun xs H Q=>∃i j,xs=[.int i, .int j]/\Q (.int (if j>i then j else i)) H):=by
 intro pins s σ H xs us Q I r h;obtain⟨i,j,rfl,q⟩:=h;obtain⟨u,w',rfl,⟨t,rfl⟩,⟨t',rfl⟩⟩:=pn_ r;refine max_two_ints (I.ok.hd hc) fun h' tk k=>⟨_,H,I.kept k, ?_,q⟩;by_cases hj:j>i
 .rw [A8 hj,A8 hj];exact⟨_,rfl⟩
 .rw [A6 hj,A6 hj];exact⟨_,rfl⟩
end
end L2
namespace L2
open PySem PySem.Spec PyProof.Rows
structure ObjM (h:Heap) (x dx C:Addr) (mA:Str->Option Value):Prop where
 obj:h.get? x=some (W.instObj C dx)
 ns:h.Ns1 dx mA
 ne:dx≠x
theorem mm_ {h:Heap}{dx:Addr}{mA:Str->Option Value} (n:h.Ns1 dx mA):∃od,h.get? dx=some od/\∀name,W.lookIn name od=some (mA name):=by
 obtain⟨o,es,ep,ho,hd,hk,_,hm⟩:=n;refine⟨o,ho,fun name=> ?_⟩;have e:=hm name;unfold nsFind findBy at e;rw [<-Array.find?_toList] at e;unfold W.lookIn;rw [hd];dsimp only;split
 .rename_i y q;rw [q] at e;exact BR some e
 .rename_i q;rw [q] at e;have a:es.toList.any (·.refKey)=false:=by
   rw [List.any_eq_false];intro y hy;obtain⟨z,t,hkey⟩:=hk y (Array.mem_toList_iff.mp hy);simp [DictEntry.refKey,hkey]
  have a':¬es.toList.any (·.refKey)=true:=by rw [a];exact AU
  rw [A6 a'];exact BR some e
theorem ObjM.look {h:Heap}{x dx C:Addr}{mA:Str->Option Value} (I:ObjM h x dx C mA):∃od,W.InstAt h x (W.instObj C dx) C (some od)/\∀name,W.lookIn name od=some (mA name):=
 let ⟨od,ho,hl⟩:=mm_ I.ns
 ⟨od,⟨I.obj,rfl,rfl,ho⟩,hl⟩
section
variable {prog:Program}{w:World}{A:Around}{E:Value->Shared->Prop}{s:Shared}{K:W.Frag}{x dx C f:Addr}{mA:Str->Option Value}{name:Str}{v:Value}
end
theorem k3_.some_of {v:V}{o:Option Value} (r:k3_ (some v) o):∃u,o=some u/\a3_ v u:=by
 cases o with
 |none=>exact(show False from r).elim
 |some u=>exact⟨u,rfl,r⟩
section
variable {P:Program}{w:World}{H H':Hp}{h h':Heap}{a C dx:Addr}{fs fs':List (Str×V)}
theorem qj_ (hok:HOk P w H h) (e:H a=some (.ins C dx fs)):∃mA,ObjM h a dx C mA/\(∀f,k3_ (fs.lookup f) (mA f))/\PySem.Within mA (fs.map (·.1))/\fs.length<=1000/\H dx=some (.own a):=by
 obtain⟨d,z,ne,ob,mA,n,r,q⟩:=(show aS_ P w H h a (.ins C dx fs) from hok a _ e);exact⟨mA,⟨ob,n,ne⟩,r,q,z,d⟩
end
structure Cls (K:W.Frag) (C:Addr):Prop where
 pg:W.plainGet K C Str.empty=true
 hd:W.hasDictIn K C=true
 po:W.plainOver K C=true
 sa:W.findIn K (.ref C) "__setattr__"=some (some (.builtin "object.__setattr__"))
theorem Cls.get {K:W.Frag}{C:Addr} (c:Cls K C) (f:Str):W.plainGet K C f=true:=c.pg
section
variable {X:Cx}{pins:List (Addr×Obj)}{σ:St}{H:Hp}{s:Shared}{a C dx:Addr}{fs:List (Str×V)}{f:Str}{v:V}{A:Around}{E:Value->Shared->Prop}
end
section
variable {X:Cx}{o e value:Expr}{f:Str}{pos pos' tpos:Pos}{ta tv:TE}
end
section
variable {X:Cx}{pins:List (Addr×Obj)}{σ:St}{H:Hp}{s:Shared}{A:Around}{E:Value->Shared->Prop}{Q:Value->Shared->Prop}{c:Value}{b:Bool}
inductive TyOf (K:W.Frag) (H:Hp):V->Value->Prop where
 |non:TyOf K H .non (.type "NoneType")
 |bl (x:Bool):TyOf K H (.bl x) (.type "bool")
 |int (i:Int):TyOf K H (.int i) (.type "int")
 |str (x:Str):TyOf K H (.str x) (.type "str")
 |flt (x:UInt64):TyOf K H (.flt x) (.type "float")
 |lst {a:Addr}{xs:List V} (e:H a=some (.lst xs)):TyOf K H (.ref a) (.type "list")
 |frz {a:Addr}{o:Obj}{xs:List V} (e:H a=some (.frz o (.lst xs))):TyOf K H (.ref a) (.type "list")
 |tup {a:Addr}{xs:List V} (e:H a=some (.tup xs)):TyOf K H (.ref a) (.type "tuple")
 |dK {a:Addr}{kvs:List (Key×V)} (e:H a=some (.dK kvs)):TyOf K H (.ref a) (.type "dict")
 |dT {a:Addr}{kvs:List (List Key×V)} (e:H a=some (.dT kvs)):TyOf K H (.ref a) (.type "dict")
 |ins {a C dx:Addr}{fs:List (Str×V)} (e:H a=some (.ins C dx fs)) (cl:Cls K C) (ha:W.findIn K (.ref C) "__class__"=some (some (.builtin "object.__class__")))
   (hn:W.specialIn K (.builtin "object.__class__") "__get__"=some (some (.builtin "getset_descriptor.__get__"))) (htk:W.takesIn K (.builtin "object.__class__")=some true)
   (hm:W.mroIn K C (.type "object")=some true):TyOf K H (.ref a) (.ref C)
theorem mB_ {x:V}{u t:Value} (I:Inv X pins σ H s) (rx:a3_ x u) (ty:TyOf X.K H x t) (e:W.kitOne X.K t c=some b) (h:∀tk,Q (.bool b) {s with toks:=tk}):
  wpAny (model X.prog X.w) A (call (.builtin "isinstance") [u,c]) Q E s:=by
 cases ty with
 |non=>cases (show u=Value.none from rx);exact BK W.kitx_none I.kIn True.intro e (fun z=>nomatch z) h
 |bl y=>cases (show u=Value.bool y from rx);exact BK W.kitx_bool I.kIn True.intro e (fun z=>nomatch z) h
 |int i=>obtain⟨t,q⟩:=(show∃t,u=Value.int i t from rx);cases q;exact BK W.kitx_int I.kIn True.intro e (fun z=>nomatch z) h
 |str y=>obtain⟨t,q⟩:=(show∃t,u=Value.str y t from rx);cases q;exact BK W.kitx_str I.kIn True.intro e (fun z=>nomatch z) h
 |flt y=>obtain⟨t,q⟩:=(show∃t,u=Value.float y t from rx);cases q;exact BK W.kitx_float I.kIn True.intro e (fun z=>nomatch z) h
 | @lst a xs ea=>
  cases (show u=Value.ref a from rx);obtain⟨_,_,n,_,h1⟩:=(show aS_ X.prog X.w H s.heap a (.lst xs) from I.hok a _ ea);exact BK W.kitx_list I.kIn ⟨_,h1,rfl⟩ e (fun z=>nomatch z) h
 | @frz a ob xs ea=>
  cases (show u=Value.ref a from rx);obtain⟨_,_,_,n,_,h1⟩:=(show aS_ X.prog X.w H s.heap a (.frz ob (.lst xs)) from I.hok a _ ea);exact BK W.kitx_list I.kIn ⟨_,h1,rfl⟩ e (fun z=>nomatch z) h
 | @tup a xs ea=>
  cases (show u=Value.ref a from rx);obtain⟨_,_,_,p⟩:=(show aS_ X.prog X.w H s.heap a (.tup xs) from I.hok a _ ea);obtain⟨o,h1,h2,_⟩:=p;exact BK W.kitx_tuple I.kIn ⟨o,h1,h2⟩ e (fun z=>nomatch z) h
 | @dK a kvs ea=>
  cases (show u=Value.ref a from rx);obtain⟨_,_,vs,_,p⟩:=(show aS_ X.prog X.w H s.heap a (.dK kvs) from I.hok a _ ea);obtain⟨o,es,ep,h1,h2,_⟩:=p;exact BK W.kitx_dict I.kIn ⟨o,h1,h2.1⟩ e (fun z=>nomatch z) h
 | @dT a kvs ea=>
  cases (show u=Value.ref a from rx);obtain⟨_,_,xs,_,o,es,ep,h1,h2,_⟩:=(show aS_ X.prog X.w H s.heap a (.dT kvs) from I.hok a _ ea);exact BK W.kitx_dict I.kIn ⟨o,h1,h2.1⟩ e (fun z=>nomatch z) h
 | @ins a C dx fs ea cl ha hn htk hm=>
  cases (show u=Value.ref a from rx);obtain⟨mA,O,_⟩:=qj_ I.hok ea;obtain⟨od,J,_⟩:=O.look;exact BK (W.kitx_own (cl.get _) cl.hd ha hn htk hm) I.kIn J e (fun z=>nomatch z) h
end
end L2
namespace L2
open PySem PySem.Spec PyProof.Rows
structure Room (k:Nat) (A:Around):Prop where
 hd:A.handled=none
 dp:A.depth+3*k+5<recursionLimit
 un:A.units+16*k+200<cLine
theorem Room.mono {j k:Nat}{A:Around} (r:Room k A) (h:j<=k):Room j A:=⟨r.hd,by have:=r.dp;lia,by have:=r.un;lia⟩
theorem Room.deeper {k:Nat}{A:Around} (r:Room (k+1) A) (env:Env):Room k (A.deeper env):=
 ⟨r.hd,by have:=r.dp;show A.depth+1+3*k+5<_;lia,by have:=r.un;show A.units+3+16*k+200<_;lia⟩
theorem Room.depth {k:Nat}{A:Around} (r:Room k A):A.depth<recursionLimit:=by have:=r.dp;lia
theorem Room.units {k:Nat}{A:Around} (r:Room k A):A.units+64<cLine:=by have:=r.un;lia
def t0_:TA:=fun _ H Q=>Q [] H
def rf_ (ta:TE) (tr:TA):TA:=fun σ H Q=>ta σ H fun x H1=>tr σ H1 fun xs H2=>Q (x::xs) H2
section
variable {X:Cx}{e:Expr}{es:List Expr}{te:TE}{t:TA}{pos:Pos}
theorem ab_:PA X [] t0_:=fun _ _ _ _ H Q I h=>Calls.spliced_nil ⟨[],H,I, .nil,h⟩
theorem aa_ (ha:PE X e te) (hr:PA X es t) (hs:starEach (e::es) X.env=(false,eval e X.env)::starEach es X.env:=by rfl):PA X (e::es) (rf_ te t):=by
 intro pos pins s σ H Q I h;rw [hs];show wpAny _ _ (spliced ((false,eval e X.env)::backTo pos (starEach es X.env))) _ _ s;refine Ce (thn (ha pins s σ H _ I h) fun u s1 ⟨x,H1,I1,r1,q1⟩=> ?_);exact thn (hr pos pins s1 σ H1 _ I1 q1) fun us s2 ⟨xs,H2,I2,r2,q2⟩=>⟨x::xs,H2,I2, .cons r1 r2,q2⟩
def ue_ (t:TA):TE:=fun σ H Q=>t σ H fun xs H1=>xs.length<=sizeLine/\∀p,H1 p=none->Q (.ref p) (upd H1 p (.tup xs))
def uh_ (t:TA):TE:=fun σ H Q=>t σ H fun xs H1=>xs.length<=sizeLine/\∀p,H1 p=none->Q (.ref p) (upd H1 p (.lst xs))
theorem jN_ {x1} (h:PA X es t):PE X (.Tuple es x1 pos) (ue_ t):=by
 intro pins s σ H Q I hq;refine wpAny_Tuple_spliced (thn (h pos pins s σ H _ I hq) fun us s1 ⟨xs,H1,I1,r,z,q⟩=>⟨by rw [<-r.length];exact z, ?_⟩);have hf:H1 s1.heap.objs.size=none:=I1.hok.fresh (A7 _);refine⟨.ref s1.heap.objs.size,upd H1 s1.heap.objs.size (.tup xs),I1.laid (t':=s1.toks) (fun b u e=>AB _ e) (A7 _) ?_,rfl,q _ hf⟩;exact⟨z,us,r,⟨_,AI _ rfl,rfl,_,rfl⟩⟩
theorem em_ (h:PA X es t):PE X (.List es pos) (uh_ t):=by
 intro pins s σ H Q I hq;refine wpAny_List_spliced (thn (h pos pins s σ H _ I hq) fun us s1 ⟨xs,H1,I1,r,z,q⟩=>⟨by rw [<-r.length];exact z, ?_⟩);have hf:H1 s1.heap.objs.size=none:=I1.hok.fresh (A7 _);refine⟨.ref s1.heap.objs.size,upd H1 s1.heap.objs.size (.lst xs),I1.laid (t':=s1.toks) (fun b u e=>AB _ e) (A7 _) ?_,rfl,q _ hf⟩;exact⟨z,us,0,r,AI _ rfl⟩
end
abbrev Sp:=List V->Hp->VK->XK->Prop
abbrev CXT:=List Env->Hp->Shared->XK->Value->Shared->Prop
structure Env0 (P:Program) (w:World) (K:W.Frag) (mg:Str->Option Value) (base:Heap) (A:Around) (outer:List Env) (s:Shared) (H:Hp):Prop where
 frames:A.frames=some outer
 mod:Mod K mg base
 bs:∀b o,base.get? b=some o->s.heap.get? b=some o/\H b=none
 bsz:base.objs.size<=s.heap.objs.size
 funs:s.heap.FunFrames base outer
 frf:∀b∈frs outer,H b=none
 hok:HOk P w H s.heap
 bare:AllBare s.gens
def CE (outer:List Env) (P:Program) (w:World) (H:Hp) (s:Shared) (Q:VK) (u:Value) (s':Shared):Prop:=
 ∃v H',s'.os=s.os/\AllBare s'.gens/\Un (frs outer) [] H H' s.heap s'.heap/\HOk P w H' s'.heap/\a3_ v u/\Q v H'
def CR (CX:CXT) (outer:List Env) (P:Program) (w:World) (H:Hp) (s:Shared) (Q:VK) (E:XK) (r:Result) (s':Shared):Prop:=
 match r with
 | .ok (.ret u)=>CE outer P w H s Q u s'
 | .ok _=>False
 | .error e=>CX outer H s E e s'
structure FnOk (P:Program) (w:World) (K:W.Frag) (mg:Str->Option Value) (base:Heap) (CX:CXT) (k:Nat) (f:Addr) (fd:FuncData) (ps:List Str) (sp:Sp):Prop where
 len:∀vs H Q E,sp vs H Q E->vs.length=ps.length
 run:∀(A:Around) (outer:List Env) (s:Shared) (H:Hp) (args:Args) (us:List Value) (vs:List V) (Q:VK) (E:XK),Room k A->Env0 P w K mg base A outer s H->BindsTo s fd args (ps.zip us)->aX_ vs us->sp vs H Q E->
  codeAny (model P w) A (.call (.ref f) args) (CR CX outer P w H s Q E) s
theorem FnOk.imp {P:Program}{w:World}{K:W.Frag}{mg:Str->Option Value}{base:Heap}{CX:CXT}{k:Nat}{f:Addr}{fd:FuncData}{ps:List Str}{sp sp':Sp} (F:FnOk P w K mg base CX k f fd ps sp)
  (h:∀vs H Q E,sp' vs H Q E->sp vs H Q E):FnOk P w K mg base CX k f fd ps sp':=
 ⟨fun vs H Q E q=>F.len vs H Q E (h _ _ _ _ q),fun A outer s H args us vs Q E hr he hb hv hs=>F.run A outer s H args us vs Q E hr he hb hv (h _ _ _ _ hs)⟩
section
variable {X:Cx}{pins:List (Addr×Obj)}{σ:St}{H:Hp}{s s':Shared}
theorem Inv.env0 (I:Inv X pins σ H s):Env0 X.prog X.w X.K X.mg X.base X.A X.stack s H:=
 ⟨I.ok.frames,I.ok.mod,I.bs,Ac I.ok.bsz I.sz,I.stack,I.stkFree,I.hok,I.bare⟩
theorem Inv.after {Q:VK}{u:Value} (I:Inv X pins σ H s) (h:CE X.stack X.prog X.w H s Q u s'):EP X pins σ Q u s':=by
 obtain⟨v,H',os,bare,un,hok,r,q⟩:=h;obtain⟨hh,g,d,t,os'⟩:=s';obtain rfl:os'=s.os:=os;exact⟨v,H',I.call (h':=hh) (g':=g) (d':=d) (t':=t) (ch:=[]) un hok bare (fun b z=>absurd z (by simp)),r,q⟩
end
def s1_ (sp:Sp) (dvs:List V) (E:XK) (t:TA):TE:=fun σ H Q=>t σ H fun vs H1=>sp (vs++dvs) H1 Q E
def k5_ (K:W.Frag) (fd:FuncData) (ps:List Str) (ds:List Value):Prop:=
 ∀(s:Shared) (us:List Value),K.In s.heap->(us++ds).length=ps.length->BindsTo s fd ⟨us,[]⟩ (ps.zip (us++ds))
theorem k5_.all {K:W.Frag}{fd:FuncData}{ps:List Str} (h:∀us:List Value,us.length=ps.length->bindArgs fd ⟨us,[]⟩=pure (ps.zip us)):k5_ K fd ps []:=fun s us _ hl=>by
 rw [BY] at hl⊢;exact .of_eq (h us hl)
def ge_ (CX:CXT) (X:Cx) (E:XK):Prop:=∀(pins:List (Addr×Obj)) (σ:St) (H:Hp) (s:Shared) (e:Value) (s':Shared),Inv X pins σ H s->CX X.stack H s E e s'->X.xe e s'
section
variable {X:Cx}{CX:CXT}{k:Nat}{f C:Addr}{fd:FuncData}{ps:List Str}{sp:Sp}{dvs:List V}{ds:List Value}{E:XK}{x m:Str}{p pos apos:Pos}{e o:Expr}{es:List Expr}{ta:TE}{t:TA}
theorem rC_ {pins:List (Addr×Obj)}{σ:St}{H:Hp}{s:Shared}{Q:VK}{us:List Value}{vs:List V} (F:FnOk X.prog X.w X.K X.mg X.base CX k f fd ps sp) (hr:Room k X.A) (hb:k5_ X.K fd ps ds) (hd:aX_ dvs ds) (hx:ge_ CX X E)
  (I:Inv X pins σ H s) (r:aX_ vs us) (h:sp (vs++dvs) H Q E):wpAny (model X.prog X.w) X.A (call (.ref f) us) (EP X pins σ Q) X.xe s:=by
 have r2:aX_ (vs++dvs) (us++ds):=r.append hd;have hl:(us++ds).length=ps.length:=by rw [<-r2.length];exact F.len _ _ _ _ h
 refine wpAny_call (D' (F.run X.A X.stack s H ⟨us,[]⟩ (us++ds) (vs++dvs) Q E hr I.env0 (hb s us I.kIn hl) r2 h) fun r s' hq=> ?_);cases r with
 |error e=>exact hx pins σ H s e s' I hq
 |ok fl=>
  cases fl with
  |ret u=>exact I.after hq
  |next=>exact False.elim hq
  |brk=>exact False.elim hq
  |cont=>exact False.elim hq
theorem ah_ (F:FnOk X.prog X.w X.K X.mg X.base CX k f fd ps sp) (hr:Room k X.A) (hg:Gl X x) (hm:X.mg x=some (.ref f)) (hk:W.keepIn X.K (.ref f)=true) (hb:k5_ X.K fd ps ds) (hd:aX_ dvs ds) (hx:ge_ CX X E)
  (ha:PA X (e::es) t) (hdb:(x==("__debug__":Str))=false:=by decide) (he:starEach (e::es) X.env=(false,eval e X.env)::starEach es X.env:=by rfl) (hpl:(backTo pos (starEach es X.env)).any (·.1)=false:=by rfl):
  PE X (.Call (.Name x p) (e::es) [] pos) (s1_ sp dvs E t):=by
 intro pins s σ H Q I h;refine BQ (i9_ I hg hm ?_ hdb);refine W.callWith_K (h₀:=X.base) I.ok.mod.kin hk (thn (ha pos pins s σ H _ I h) fun us s1 ⟨vs,H1,I1,r,q⟩=>⟨I1.kIn, ?_⟩) he hpl;exact rC_ F hr hb hd hx I1 r q
end
section
variable {X:Cx}{CX:CXT}{k:Nat}{f C:Addr}{fd:FuncData}{ps ks:List Str}{sp:Sp}{E:XK}{x m:Str}{p pos apos kpos:Pos}{e o:Expr}{es:List Expr}{kws:List Keyword}{te ta:TE}{t tk:TA}{nm:Option Str}
variable {g:List Value->List Value->List Value}{gV:List V->List V->List V}
end
structure FnScope (N P:List Str) (sc:Scope):Prop where
 kind:sc.kind= .function
 co:sc.isCoroutine=false
 gen:sc.isGenerator=false
 nd:N.Nodup
 pre:N.take P.length=P
 par:∀x∈P,sc.names.lookup x=some .local\/sc.names.lookup x=some .cell
 nofree:∀y∈sc.names,y.2≠ .free
theorem iq_ {kindOf:Str->Option NameKind}{x:Str}:∀{binds:List (Str×Value)}{m:Str->Option Value},(∀v,(x,v)∉binds)->bindL kindOf binds m x=m x
 |[],_,_=>rfl
 |(n,v)::r,m,h=>by
  unfold bindL;rw [iq_ fun w hw=>h w (Au _ hw)];split
  .have:x≠n:=by rintro rfl;exact h v B2
   simp [this]
  .rfl
theorem is_ {kindOf:Str->Option NameKind}{x:Str}:∀{binds:List (Str×Value)}{m:Str->Option Value},(∀v,(x,v)∉binds)->bindC kindOf binds m x=m x
 |[],_,_=>rfl
 |(n,v)::r,m,h=>by
  unfold bindC;rw [is_ fun w hw=>h w (Au _ hw)];split
  .rfl
  .have:x≠n:=by rintro rfl;exact h v B2
   simp [this]
theorem ir_ {kindOf:Str->Option NameKind}{x:Str}{v:Value}:∀{P:List Str}{vs:List Value}{i:Nat}{m:Str->Option Value},P.Nodup->P[i]? =some x->vs[i]? =some v->kindOf x=some .local->
  bindL kindOf (P.zip vs) m x=some v
 |[],_,_,_,_,h,_,_=>by simp at h
 |_::_,[],_,_,_,_,h,_=>by simp at h
 |p::P,w::vs,0,m,nd,h1,h2,hk=>by
  simp at h1 h2;subst h1;subst h2;show bindL kindOf ((p,w)::P.zip vs) m p=_;unfold bindL;rw [iq_ fun v hv=>(BW.mp nd).1 (List.of_mem_zip hv).1,A8 hk];simp
 |p::P,w::vs,i+1,m,nd,h1,h2,hk=>by
  show bindL kindOf ((p,w)::P.zip vs) m x=_;unfold bindL;exact ir_ (i:=i) (BW.mp nd).2 (by simpa using h1) (by simpa using h2) hk
theorem it_ {kindOf:Str->Option NameKind}{x:Str}{v:Value}:∀{P:List Str}{vs:List Value}{i:Nat}{m:Str->Option Value},P.Nodup->P[i]? =some x->vs[i]? =some v->kindOf x≠some .local->
  bindC kindOf (P.zip vs) m x=some v
 |[],_,_,_,_,h,_,_=>by simp at h
 |_::_,[],_,_,_,_,h,_=>by simp at h
 |p::P,w::vs,0,m,nd,h1,h2,hk=>by
  simp at h1 h2;subst h1;subst h2;show bindC kindOf ((p,w)::P.zip vs) m p=_;unfold bindC;rw [is_ fun v hv=>(BW.mp nd).1 (List.of_mem_zip hv).1,A6 hk];simp
 |p::P,w::vs,i+1,m,nd,h1,h2,hk=>by
  show bindC kindOf ((p,w)::P.zip vs) m x=_;unfold bindC;exact it_ (i:=i) (BW.mp nd).2 (by simpa using h1) (by simpa using h2) hk
def start (N:List Str) (vs:List V):St:=vs.map some++List.replicate (N.length-vs.length) none
def nh_ (CX:CXT) (P:Program) (w:World) (K:W.Frag) (mg:Str->Option Value) (base:Heap) (N:List Str) (qual:Str) (scope:Scope) (f:Addr) (cd:Value) (A:Around) (outer:List Env) (s:Shared) (H:Hp) (E:XK):Cx where
 prog:=P
 w:=w
 K:=K
 mg:=mg
 base:=base
 A:=A.deeper (envOfC qual scope s.heap.objs.size f cd)
 N:=N
 s₀:=s
 H₀:=H
 env:=envOfC qual scope s.heap.objs.size f cd
 outer:=outer
 stack:=envOfC qual scope s.heap.objs.size f cd::outer
 ex:=[]
 calm:=true
 fn:=fun _=>true
 pn:=[]
 xe:=fun e s'=>wpAny (model P w) (A.deeper (envOfC qual scope s.heap.objs.size f cd)) (leaving (envOfC qual scope s.heap.objs.size f cd) e) (fun _ s''=>CX outer H s E e s'') (fun e' s''=>CX outer H s E e' s'') s'
theorem kr_ {sc:Scope}{n:Nat}{x:Str} (h:sc.names.lookup x=some .cell):∃c,(cellsFrom n sc.names []).lookup x=some c:=by
 have q:=W.cellsFrom_some sc.names n [] (.inl h);exact Option.isSome_iff_exists.mp q
theorem mD_ {CX:CXT}{P:Program}{w:World}{K:W.Frag}{mg:Str->Option Value}{base:Heap}{N ps:List Str}{qual:Str}{scope:Scope}{f:Addr}{cd:Value}{A:Around}{outer:List Env}{s s1:Shared}{H:Hp}{E:XK}{us:List Value}{vs:List V}
  (S:FnScope N ps scope) (hd:A.handled=none) (e0:Env0 P w K mg base A outer s H) (hl:vs.length=ps.length) (r:aX_ vs us)
  (x:InCallC s s.heap.objs.size (bindL (envOfC qual scope s.heap.objs.size f cd).kindOf (ps.zip us) fun _=>none) (cellsFrom (s.heap.objs.size+1) scope.names []) (bindC (envOfC qual scope s.heap.objs.size f cd).kindOf (ps.zip us) fun _=>none) s1):
  Inv (nh_ CX P w K mg base N qual scope f cd A outer s H E) [] (start N vs) H s1:=by
 have hpl:ps.length<=N.length:=by have:=BR List.length S.pre;rw [AW] at this;lia
 obtain⟨h1,tk,rfl,hk⟩:=x.done;have noA:∀b:Addr,b∉(nh_ CX P w K mg base N qual scope f cd A outer s H E).ex:=fun b z=>absurd (show b∈([]:List Addr) from z) (by simp);refine⟨⟨e0.mod,S.kind,rfl,rfl,A7 _,fun y z c h1 h2=> ?_,fun y hy=> ?_,fun y c _ h=> ?_,fun _=>hd,Around.frames_deeper e0.frames, .inr ⟨rfl,rfl⟩,fun b z=>absurd z (noA b),e0.bs,e0.bsz,fun b _ _=>noA b,fun b z=>absurd z (noA b),e0.funs,e0.frf⟩,
  rfl,e0.bare,Un.kept hk,⟨_,x.toInCall.ns,fun i y v h1 h2 h3=> ?_⟩,fun y c h=>⟨_,x.cell y c h⟩,e0.hok.fresh (A7 _),fun y c h=> ?_,fun p hp=>absurd (show p∈([]:List (Addr×Obj)) from hp) (by simp),e0.hok.kept hk, ?_⟩
 .exact name_of_addr x.apart (Bj h1) (Bj h2)
 .have hy:scope.names.lookup y=some .cell\/scope.names.lookup y=some .free:=hy;rcases hy with hy|hy
  .exact kr_ hy
  .exact absurd rfl (S.nofree _ (Bj hy))
 .exact Ag (x.above y c (Bj h))
 .have hi:i<vs.length:=by
   unfold start at h2;by_cases hi:i<vs.length
   .exact hi
   .rw [D5 (by simpa using hi)] at h2;rw [List.getElem?_replicate] at h2;split at h2<;>cases h2
  have ha:vs[i]? =some v:=by
   unfold start at h2;rw [List.getElem?_append_left (by simpa using hi),A5] at h2;cases e:vs[i]? with
   |none=>rw [e] at h2;cases h2
   |some a=>rw [e] at h2;cases h2;rfl
  obtain⟨u,hu,rv⟩:=r.get ha;have hp:ps[i]? =some y:=by
   rw [<-S.pre,List.getElem?_take_of_lt (by lia)];exact h1
  have ndP:ps.Nodup:=by rw [<-S.pre];exact S.nd.sublist (List.take_sublist _ _)
  refine⟨u,rv, ?_⟩;rcases S.par y (AL hp) with k|k
  .exact .inl ⟨k,ir_ ndP hp hu k⟩
  .obtain⟨c,e⟩:=kr_ (n:=s.heap.objs.size+1) k;refine .inr ⟨.inl k,c,e, ?_⟩;have q:=x.cell y c e;rw [it_ ndP hp hu (by show scope.names.lookup y≠_;rw [k];decide)] at q;exact q
 .exact e0.hok.fresh (Ag (x.above y c (Bj h)))
 .unfold start;show _=N.length;rw [AH,A1,Af];lia
theorem si_ {CX:CXT}{P:Program}{w:World}{K:W.Frag}{mg:Str->Option Value}{base:Heap}{k:Nat}{f:Addr}{name qual:Str}{params:Arguments}{body:List Stmt}{scope:Scope}{dV kV doc pm cdv ct oc:Value}{an od:Option Addr}
  {osl:Array (Option Value)}{N ps:List Str}{sp:Sp} (lk:K.lookup f=some ⟨oc,od, .func (W.fnOf name qual params body scope dV kV doc pm an cdv ct),osl⟩) (hcd:W.codeIn K cdv qual=true) (S:FnScope N ps scope)
  (len:∀vs H Q E,sp vs H Q E->vs.length=ps.length)
  (hbody:∀(A:Around) (outer:List Env) (s:Shared) (H:Hp) (vs:List V) (Q:VK) (E:XK),Room k (A.deeper (envOfC qual scope s.heap.objs.size f cdv))->sp vs H Q E->
   ∃t,PSs (nh_ CX P w K mg base N qual scope f cdv A outer s H E) body t/\t {nx:=fun _ H'=>Q .non H',rt:=Q} (start N vs) H):
  FnOk P w K mg base CX (k+1) f (W.fnOf name qual params body scope dV kV doc pm an cdv ct) ps sp:=by
 refine⟨len,fun A outer s H args us vs Q E hr e0 hb r hsp=> ?_⟩;have hl:=len _ _ _ _ hsp;have KX:K.In s.heap:=e0.mod.kin.keeps fun b o e=>(e0.bs b o e).1;have lim:s.heap.NoLimit:=e0.mod.nolimit.keeps fun b o e=>(e0.bs b o e).1;have hkind:∀y∈ps.zip us,scope.names.lookup y.1=some .local\/(scope.names.lookup y.1=some .cell/\((cellsFrom (s.heap.objs.size+1) scope.names []).lookup y.1).isSome=true):=fun⟨n,v⟩ hy=>by
  rcases S.par n (List.of_mem_zip hy).1 with q|q
  .exact .inl q
  .exact .inr ⟨q,W.cellsFrom_some _ _ _ (.inl q)⟩
 refine codeAny_call_function hr.depth (KX _ _ lk) rfl S.co S.gen rfl (W.codeRec_of KX hcd) (hb _ _ _ _ ?_);refine wpAny_newFunctionEnv_cells S.kind hkind fun env he s1 x=> ?_;subst he;refine⟨lim.keeps x.toInCall.keep,codeAny_func ?_⟩;obtain⟨t,ht,hq⟩:=hbody A outer s H vs Q E (hr.deeper _) hsp;have I:Inv (nh_ CX P w K mg base N qual scope f cdv A outer s H E) [] (start N vs) H s1:=mD_ S hr.hd e0 hl r x;refine BJ (ht [] s1 (start N vs) H _ I hq) (fun fl s' hs=> ?_) fun e s' hs=>hs;have fin:∀{σ':St}{H':Hp}{v:V}{u:Value},Inv (nh_ CX P w K mg base N qual scope f cdv A outer s H E) [] σ' H' s'->a3_ v u->Q v H'->CE outer P w H s Q u s':=
  fun{σ' H' v u} J rv q=>⟨v,H',J.os,J.bare,J.base,J.hok,rv,q⟩
 cases fl with
 |ret u=>
  obtain⟨v,σ',H',J,rv,q⟩:=hs;exact fin J rv q
 |next=>
  obtain⟨σ',H',J,q⟩:=hs;exact fin (v:=V.non) (u:=Value.none) J rfl q
 |brk=>
  obtain⟨_,_,_,q⟩:=hs;exact False.elim q
 |cont=>
  obtain⟨_,_,_,q⟩:=hs;exact False.elim q
end L2
namespace L2
open PySem PySem.Spec PyProof.Rows
section
variable {X:Cx}{x:Str}{p pos:Pos}{e:Expr}{es:List Expr}{t:TA}{id T:String}{r:List V->Hp->VK->Prop}
def tCB (r:List V->Hp->VK->Prop) (t:TA):TE:=fun σ H Q=>t σ H fun vs H1=>r vs H1 Q
theorem ax_ (hc:cu_ X (.builtin id) r) (hg:Gl X x) (hm:X.mg x=none) (hv:bootBuiltins x=some (.builtin id)) (ha:PA X (e::es) t) (hn:x≠"__name__":=by decide) (hdb:(x==("__debug__":Str))=false:=by decide)
  (he:starEach (e::es) X.env=(false,eval e X.env)::starEach es X.env:=by rfl) (hpl:(backTo pos (starEach es X.env)).any (·.1)=false:=by rfl):PE X (.Call (.Name x p) (e::es) [] pos) (tCB r t):=by
 intro pins s σ H Q I h;refine BQ (cL_ I hg hm hv ?_ hn hdb);exact Cg (thn (ha pos pins s σ H _ I h) fun us s1 ⟨vs,H1,I1,r1,q1⟩=>hc pins s1 σ H1 vs us Q I1 r1 q1) he hpl
theorem e3_ (hc:cu_ X (.type T) r) (hg:Gl X x) (hm:X.mg x=none) (hv:bootBuiltins x=some (.type T)) (ha:PA X (e::es) t) (hn:x≠"__name__":=by decide) (hdb:(x==("__debug__":Str))=false:=by decide)
  (he:starEach (e::es) X.env=(false,eval e X.env)::starEach es X.env:=by rfl) (hpl:(backTo pos (starEach es X.env)).any (·.1)=false:=by rfl):PE X (.Call (.Name x p) (e::es) [] pos) (tCB r t):=by
 intro pins s σ H Q I h;refine BQ (cL_ I hg hm hv ?_ hn hdb);exact BB (thn (ha pos pins s σ H _ I h) fun us s1 ⟨vs,H1,I1,r1,q1⟩=>hc pins s1 σ H1 vs us Q I1 r1 q1) he hpl
end
end L2
namespace HT
open PySem PyProof.Rows
section
open PySem.SeqAt
open PySem.AutoSeq1 (wpAny_loadPart')
open PySem.MeetsSeq PySem.MeetsSeq2 PySem.MeetsSeq3
end
section
variable {prog:Program}{w:World}{A:Around}{E:Value->Shared->Prop}{s:Shared}
theorem cat_tup {t b:Addr}{vs ws:List Value}{Q:Value->Shared->Prop} (ht:IsTup s.heap t vs.toArray) (hb:IsTup s.heap b ws.toArray) (hv:vs≠[])
  (h1:ws=[]->Q (.ref t) s) (h2:ws≠[]->Q (.ref s.heap.objs.size) {s with heap:=s.heap.push {cls:= .type "tuple",data:= .seq (vs++ws).toArray}})
  (hsz:vs.length+ws.length<=sizeLine):wpAny (model prog w) A (binaryOp .Add (.ref t) (.ref b)) Q E s:=by
 obtain⟨⟨cls,dd,data,sl⟩,ho,hc,n,hd⟩:=id ht;obtain⟨⟨cls2,dd2,data2,sl2⟩,ho2,hc2,n2,hd2⟩:=id hb;simp only at hc hd hc2 hd2;subst hc hd hc2 hd2;have e:vs.toArray++ws.toArray=(vs++ws).toArray:=by simp
 by_cases hw:ws=[]
 .exact concat_meets ⟨_,ho,rfl⟩ ⟨_,ho2,rfl⟩ noFill_tuple_add seq_tuple_add PySem.F.slot_tuple_add PySem.F.entry_tuple_add (PySem.F.args_tuple_add_2 _ _)
   (tuple_addW1 t b vs.toArray ws.toArray n n2 dd dd2 sl sl2 (by simpa using hv) (by simp [hw])) ⟨ho,ho2,h1 hw⟩
 .refine concat_meets ⟨_,ho,rfl⟩ ⟨_,ho2,rfl⟩ noFill_tuple_add seq_tuple_add PySem.F.slot_tuple_add PySem.F.entry_tuple_add (PySem.F.args_tuple_add_2 _ _)
   (tuple_addW2 t b vs.toArray ws.toArray n n2 dd dd2 sl sl2 (by simpa using hv) (by simpa using hw) (by rw [AA,AA];exact hsz)) ⟨ho,ho2, ?_⟩
  rw [e];exact h2 hw
def sIx (n d:Nat):Option Int->Nat
 |none=>d
 |some v=>if v<0 then(v+(n:Int)).toNat else min v.toNat n
theorem sIx_none (n d:Nat):sIx n d none=d:=rfl
theorem sIx_nat (n d k:Nat):sIx n d (some (k:Int))=min k n:=by
 show(if(k:Int)<0 then((k:Int)+(n:Int)).toNat else min (k:Int).toNat n)=min k n;rw [A6 (by lia),AV]
theorem rA_ (n d:Nat) (hd:d<=n) (o:Option Int):sIx n d o<=n:=by
 cases o with
 |none=>exact hd
 |some v=>
  show(if v<0 then(v+(n:Int)).toNat else min v.toNat n)<=n;by_cases hv:v<0
  .rw [A8 hv];lia
  .rw [A6 hv];exact Nat.min_le_right _ _
theorem m2_ (v:Int) (n d:Nat):(if v<0 then max (v+(n:Int)) 0 else min v (n:Int))=((sIx n d (some v):Nat):Int):=by
 show(if v<0 then max (v+(n:Int)) 0 else min v (n:Int))=(((if v<0 then(v+(n:Int)).toNat else min v.toNat n):Nat):Int);by_cases hv:v<0
 .simp only [A8 hv];lia
 .simp only [A6 hv];lia
theorem k1_ (lo hi:Option Int) (n:Nat):Builtin.Slice.sliceAdjust lo hi 1 (n:Int)=(((sIx n 0 lo:Nat):Int),((sIx n n hi:Nat):Int)):=by
 have h1:¬((1:Int)<0):=by lia
 unfold Builtin.Slice.sliceAdjust;simp only [h1,Av];refine Prod.ext ?_ ?_
 .cases lo with
  |none=>rfl
  |some v=>exact m2_ v n 0
 .cases hi with
  |none=>rfl
  |some v=>exact m2_ v n n
theorem kJ_ (i j:Nat):Builtin.Slice.slicePlaces (i:Int) (j:Int) 1=j-i:=by
 unfold Builtin.Slice.slicePlaces;have h1:(1:Int)>0:=by lia
 simp only [h1,C9,Int.ediv_one];split<;>lia
theorem fU_ {v:Value}{o:Option Int}{Q:Option Int->Shared->Prop} (p:IsPart v o) (h:Q o s):wpAny (model prog w) A (Builtin.Slice.slicePartIndex v) Q E s:=by
 cases p with
 |none=>exact slicePart_none h
 |int i t=>exact slicePart_int h
theorem cv_ {sl:Addr}{vl vu:Value}{lo hi:Option Int}{n:Nat}{Q:Int×Int×Nat->Shared->Prop} (hs:s.heap.IsSliceOf sl vl vu .none) (pl:IsPart vl lo) (pu:IsPart vu hi)
  (h:Q (((sIx n 0 lo:Nat):Int),1,sIx n n hi-sIx n 0 lo) s):wpAny (model prog w) A (Builtin.Slice.sliceApplied (.ref sl) (pure (n:Int))) Q E s:=by
 obtain⟨os,hos,hcs,hds⟩:=id hs;unfold Builtin.Slice.sliceApplied Builtin.Slice.sliceFields;refine A0 (A0 (wpAny_field hos hds (x:=vl) rfl (A0 (wpAny_field hos hds (x:=vu) rfl (A0 (wpAny_field hos hds (x:= .none) rfl (A4 ?_)))))));refine A0 (slicePart_none ?_);show wpAny _ _ (if((1:Int)==0)=true then _ else _) _ _ s;rw [A6 (by decide)];refine A0 (fU_ pl (A0 (fU_ pu (A0 (A4 ?_)))));show wpAny _ _ (match Builtin.Slice.sliceAdjust lo hi 1 (n:Int) with|(lo,hi)=>pure (lo,(1:Int),Builtin.Slice.slicePlaces lo hi 1)) _ _ s;rw [k1_ lo hi n];show wpAny _ _ (pure (((sIx n 0 lo:Nat):Int),(1:Int),Builtin.Slice.slicePlaces ((sIx n 0 lo:Nat):Int) ((sIx n n hi:Nat):Int) 1)) _ _ s;rw [kJ_];exact A4 h
theorem nG_ (xs:Array Value) (i k:Nat):((List.range k).filterMap fun(m:Nat)=>xs[((i:Int)+(m:Int)*1).toNat]?).toArray=((xs.toList.drop i).take k).toArray:=by
 have e:(fun(m:Nat)=>xs[((i:Int)+(m:Int)*1).toNat]?)=fun m=>xs[i+m]? :=by
  funext m
  have:((i:Int)+(m:Int)*1).toNat=i+m:=by lia
  rw [this]
 rw [e];have:=pick_run xs i k;rw [List.filterMap_map] at this;have e2:((fun x=>xs[x]?)∘fun x=>i+x)=fun m=>xs[i+m]? :=rfl;rw [e2] at this;rw [this]
theorem getItem_tuple_cut {t sl:Addr}{items:Array Value}{vl vu:Value}{lo hi:Option Int}{Q:Value->Shared->Prop} (ht:IsTup s.heap t items) (hs:s.heap.IsSliceOf sl vl vu .none) (pl:IsPart vl lo) (pu:IsPart vu hi)
  (hw:¬(sIx items.size 0 lo=0/\sIx items.size items.size hi=items.size))
  (h:Q (.ref s.heap.objs.size) {s with heap:=s.heap.push {cls:= .type "tuple",data:= .seq ((items.toList.drop (sIx items.size 0 lo)).take (sIx items.size items.size hi-sIx items.size 0 lo)).toArray}})
  (hsz:items.size<=sizeLine):wpAny (model prog w) A (getItem (.ref t) (.ref sl)) Q E s:=by
 have htake:sizeOk (.seq ((items.toList.drop (sIx items.size 0 lo)).take (sIx items.size items.size hi-sIx items.size 0 lo)).toArray):=by
  show((items.toList.drop (sIx items.size 0 lo)).take (sIx items.size items.size hi-sIx items.size 0 lo)).toArray.size<=sizeLine;rw [AA,AW,Cj,Ar];lia
 have hj:sIx items.size items.size hi<=items.size:=rA_ _ _ (A7 _) hi;obtain⟨os,hos,hcs,hds⟩:=id hs;have hTs:s.TypeIs (.ref sl) "slice":=⟨os,hos,hcs⟩;unfold getItem;try with_reducible refine B0 ?_
 first|refine A0 (A4 ?_)|skip
 refine A0 (wpAny_sequenceKey ht.typeIs (by decide) ?_);refine A0 (BG (name:=Str.ofString "__getitem__") ht.typeIs BD
  (At BD ht.typeIs entry_tuple_getitem ?_ (args_tuple_getitem _ _)))
 show wpAny _ _ (Builtin.Tuple.tupleItemsOf (.ref t)>>=_) _ _ s;refine A0 (tupleItemsOf_ ht ?_);refine A0 (D9 hTs ?_);rw [A8 (by decide)];refine A0 (cv_ hs pl pu ?_);have hno:¬((((sIx items.size 0 lo:Nat):Int)==0&&(1:Int)==1&&(sIx items.size items.size hi-sIx items.size 0 lo)==items.size)=true):=by
  intro q;rw [A9,A9] at q;have q1:((sIx items.size 0 lo:Nat):Int)=0:=eq_of_beq q.1.1;have q2:sIx items.size items.size hi-sIx items.size 0 lo=items.size:=eq_of_beq q.2;exact hw ⟨by lia,by lia⟩
 show wpAny _ _ (if(((sIx items.size 0 lo:Nat):Int)==0&&(1:Int)==1&&(sIx items.size items.size hi-sIx items.size 0 lo)==items.size)=true then _ else _) _ _ s;rw [A6 hno,nG_];first
  |exact A0 (m:=Builtin.Tuple.tupleExact _) (As (A4 ⟨_,rfl,A4 h⟩) htake)
  |exact A0 (m:=Builtin.Tuple.tupleExact _) (As (A0 (A4 (A4 ⟨_,rfl,A4 h⟩))) htake)
  |exact A0 (A0 (m:=Builtin.Tuple.tupleExact _) (As (A4 (A4 ⟨_,rfl,A4 h⟩)) htake))
  |exact A0 (A0 (m:=Builtin.Tuple.tupleExact _) (As (A4 ⟨_,rfl,A4 h⟩) htake))
end
end HT
namespace L2
open PySem PySem.Spec PyProof.Rows
abbrev TO:=St->Hp->(Option Int->Hp->Prop)->Prop
def PO (X:Cx) (e:Option Expr) (t:TO):Prop:=
 ∀(pins:List (Addr×Obj)) (s:Shared) (σ:St) (H:Hp) (Q:Option Int->Hp->Prop),Inv X pins σ H s->t σ H Q->
  wpAny (model X.prog X.w) X.A (evalPart e X.env) (fun u s'=>∃o H',Inv X pins σ H' s'/\IsPart u o/\Q o H') X.xe s
def pu_:TO:=fun _ H Q=>Q none H
def sV_ (t:TE):TO:=fun σ H Q=>t σ H fun x H1=>∃i,x= .int i/\Q (some i) H1
theorem eh_ {ns:List Int}:∀{us:List Value},aX_ (ns.map V.int) us->IntsAre us ns:=by
 induction ns with
 |nil=>intro us r;rw [Cy] at r;cases r;exact .nil
 |cons n ns ih=>
  intro us r;rw [AT] at r;cases r with
  |cons r1 r2=>
   obtain⟨t,e⟩:=r1;subst e;exact .cons n t (ih r2)
section
variable {X:Cx}{e:Expr}{te:TE}{lo hi:Option Expr}{tl th:TO}{pos p2:Pos}
theorem e2_:PO X none pu_:=by
 intro pins s σ H Q I h;rw [evalPart_none];exact A4 ⟨none,H,I, .none,h⟩
theorem e1_ (h:PE X e te):PO X (some e) (sV_ te):=by
 intro pins s σ H Q I hw;rw [evalPart_some];refine thn (h pins s σ H _ I hw) fun u s1 ⟨x,H1,I1,r1,q1⟩=> ?_;obtain⟨i,rfl,q⟩:=q1;obtain⟨t,rfl⟩:=r1;exact⟨some i,H1,I1, .int i t,q⟩
def SlR (X:Cx) (r:V->Option Int->Option Int->Hp->VK->Prop):Prop:=
 ∀(pins:List (Addr×Obj)) (s:Shared) (σ:St) (H:Hp) (x:V) (v vl vu:Value) (lo hi:Option Int) (sl:Addr) (Q:VK),Inv X pins σ H s->a3_ x v->s.heap.IsSliceOf sl vl vu .none->IsPart vl lo->IsPart vu hi->r x lo hi H Q->
  ∃T id,typeLookup (.type T) "__getitem__"=pure (some (.builtin id))/\s.TypeIs v T/\wpAny (model X.prog X.w) X.A (getItem v (.ref sl)) (EP X pins σ Q) X.xe s
def tSl (r:V->Option Int->Option Int->Hp->VK->Prop) (te:TE) (tl th:TO):TE:=fun σ H Q=>te σ H fun x H1=>tl σ H1 fun l H2=>th σ H2 fun u H3=>r x l u H3 Q
theorem dE_ {r:V->Option Int->Option Int->Hp->VK->Prop} (hr:SlR X r) (he:PE X e te) (hl:PO X lo tl) (hu:PO X hi th):PE X (.Subscript e (.Slice lo hi none p2) pos) (tSl r te tl th):=by
 intro pins s σ H Q I h;refine Subscript_ (thn (he pins s σ H _ I h) fun v s1 ⟨x,H1,I1,r1,q1⟩=> ?_);refine wpAny_Slice (thn (hl pins s1 σ H1 _ I1 q1) fun vl s2 ⟨l,H2,I2,pl,q2⟩=>thn (hu pins s2 σ H2 _ I2 q2) fun vu s3 ⟨u,H3,I3,pu,q3⟩=> ?_);rw [evalPart_none];refine A4 ?_;have I4:Inv X pins σ H3 {s3 with heap:=s3.heap.push {cls:= .type "slice",data:= .fields #[vl,vu, .none]}}:=I3.kept (t':=s3.toks) fun b ob q=>AB _ q;obtain⟨T,id,hT,ht,hg⟩:=hr pins {s3 with heap:=s3.heap.push {cls:= .type "slice",data:= .fields #[vl,vu, .none]}} σ H3 x v vl vu l u s3.heap.objs.size Q I4 r1 (Heap.IsSliceOf.new ..) pl pu q3;show wpAny (model X.prog X.w) X.A (subscriptTail e (.Slice lo hi none p2) v (.ref s3.heap.objs.size)) (EP X pins σ Q) X.xe {s3 with heap:=s3.heap.push {cls:= .type "slice",data:= .fields #[vl,vu, .none]}};exact tail_any (ops:=[.ref s3.heap.objs.size,v]) ht hT hg (by with_unfolding_all rfl)
def iA_ (xs:List V) (lo hi:Option Int):List V:=(xs.drop (HT.sIx xs.length 0 lo)).take (HT.sIx xs.length xs.length hi-HT.sIx xs.length 0 lo)
theorem fw_ (xs:List V) (lo hi:Option Int):(iA_ xs lo hi).length<=xs.length:=by
 unfold iA_;rw [AW,Cj];lia
def us_ (K:W.Frag):V->Option Int->Option Int->Hp->VK->Prop:=fun x lo hi H Q=>∃a xs,x= .ref a/\SqT K H a xs/\
 ¬(HT.sIx xs.length 0 lo=0/\HT.sIx xs.length xs.length hi=xs.length)/\∀p,H p=none->Q (.ref p) (upd H p (.tup (iA_ xs lo hi)))
theorem rw_:SlR X (us_ X.K):=by
 intro pins s σ H x v vl vu lo hi sl Q I rx hs pl pu h;obtain⟨a,xs,rfl,hx,hw,q⟩:=h;cases rx;obtain⟨its,r,ht,hz⟩:=I.tuple hx;have hlen:its.toArray.size=xs.length:=by rw [AA];exact r.length.symm
 refine⟨"tuple",_,BD.lookup,ht.typeIs, ?_⟩;refine HT.getItem_tuple_cut ht hs pl pu (by rw [hlen];exact hw) ?_ (by rw [hlen];exact hz);rw [hlen];refine⟨.ref s.heap.objs.size,_,I.laid (t':=s.toks) (o:= .tup (iA_ xs lo hi)) (fun b ob q=>AB _ q) (A7 _) ?_,rfl,q _ (I.hok.fresh (A7 _))⟩;exact⟨Ac (fw_ xs lo hi) hz,_,(r.drop (HT.sIx xs.length 0 lo)).take (HT.sIx xs.length xs.length hi-HT.sIx xs.length 0 lo),IsTup.new _ _⟩
def tu_ (K:W.Frag):R2:=fun x y H Q=>∃a b xs ys,x= .ref a/\y= .ref b/\SqT K H a xs/\SqT K H b ys/\xs≠[]/\xs.length+ys.length<=sizeLine/\
 (ys=[]->Q (.ref a) H)/\(ys≠[]->∀p,H p=none->Q (.ref p) (upd H p (.tup (xs++ys))))
theorem aX_.nil_iff {xs:List V}{us:List Value} (r:aX_ xs us):us=[]↔xs=[]:=by
 cases r with
 |nil=>simp
 |cons _ _=>simp
theorem pW_:OpR X (binaryOp .Add) (tu_ X.K):=by
 intro pins s σ H x y v u Q I rx ry h;obtain⟨a,b,xs,ys,rfl,rfl,ha,hb,hx,hz,q1,q2⟩:=h;cases rx;cases ry;obtain⟨its,r1,p1,_⟩:=I.tuple ha;obtain⟨its2,r2,p2,_⟩:=I.tuple hb;refine HT.cat_tup p1 p2 (fun z=>hx (r1.nil_iff.mp z)) (fun z=>⟨.ref a,H,I,rfl,q1 (r2.nil_iff.mp z)⟩) (fun z=> ?_) (by rw [<-r1.length,<-r2.length];exact hz);refine⟨.ref s.heap.objs.size,_,I.laid (t':=s.toks) (o:= .tup (xs++ys)) (fun b ob q=>AB _ q) (A7 _) ?_,rfl,q2 (fun w=>z (r2.nil_iff.mpr w)) _ (I.hok.fresh (A7 _))⟩;exact⟨by rw [AH];exact hz,_,r1.append r2,IsTup.new _ _⟩
end
end L2
namespace L2
open PySem PySem.Spec PyProof.Rows
def ixN (n:Nat) (i:Int):Option Nat:=if 0<=i then(if i<n then some i.toNat else none) else if -(n:Int)<=i then some (i+n).toNat else none
def atI {α:Type} (xs:List α) (i:Int):Option α:=(ixN xs.length i).bind fun j=>xs[j]?
theorem mz_ {n:Nat}{i:Int}{j:Nat} (h:ixN n i=some j):seqIndex? i n=some j/\j<n/\-(n:Int)<=i/\i<n:=by
 unfold ixN at h;by_cases h0:0<=i
 .rw [A8 h0] at h;by_cases h1:i<n
  .rw [A8 h1] at h;have e:i.toNat=j:=An h;exact⟨by rw [seqIndex_of h0 h1,e],by lia,by lia,h1⟩
  .rw [A6 h1] at h;cases h
 .rw [A6 h0] at h;by_cases h1: -(n:Int)<=i
  .rw [A8 h1] at h;have e:(i+n).toNat=j:=An h;exact⟨by rw [seqIndex_neg (by lia) h1,e],by lia,h1,by lia⟩
  .rw [A6 h1] at h;cases h
theorem na_ {α:Type}{xs:List α}{i:Int}{v:α} (h:atI xs i=some v):∃j,seqIndex? i xs.length=some j/\xs[j]? =some v/\j<xs.length/\-(xs.length:Int)<=i/\i<xs.length:=by
 unfold atI at h;cases e:ixN xs.length i with
 |none=>rw [e] at h;cases h
 |some j=>
  rw [e] at h;obtain⟨h1,h2,h3,h4⟩:=mz_ e;exact⟨j,h1,h,h2,h3,h4⟩
theorem m9_ {α:Type}{xs:List α}{j:Nat}{v:α} (h:xs[j]? =some v):atI xs (j:Int)=some v:=by
 have hj:j<xs.length:=(A'.mp h).1;have e:ixN xs.length (j:Int)=some j:=by
  unfold ixN;rw [A8 (by lia),A8 (by lia)];simp
 unfold atI;rw [e];exact h
theorem ot_ {α:Type} (xs:List α) (v:α):atI (xs++[v]) (-1)=some v:=by
 have hl:(xs++[v]).length=xs.length+1:=by simp
 have e:ixN (xs++[v]).length (-1)=some xs.length:=by
  unfold ixN;rw [hl,A6 (by decide),A8 (by lia)];congr 1
  lia
 unfold atI;rw [e];show(xs++[v])[xs.length]? =some v;simp
def qS_ (b:Expr):Prop:=∀o i,subscripted b false o i=operate [o,i] (getItem o i)
def IxR (X:Cx) (r:R2):Prop:=
 ∀(value slice:Expr) (pins:List (Addr×Obj)) (s:Shared) (σ:St) (H:Hp) (x y:V) (v u:Value) (Q:VK),Inv X pins σ H s->a3_ x v->a3_ y u->r x y H Q->
  subscripted slice false v u=operate [v,u] (getItem v u)->wpAny (model X.prog X.w) X.A (subscriptTail value slice v u) (EP X pins σ Q) X.xe s
def MtR (X:Cx) (id:String) (r:V->List V->Hp->VK->Prop):Prop:=
 ∀(pins:List (Addr×Obj)) (s:Shared) (σ:St) (H:Hp) (x:V) (xs:List V) (v:Value) (us:List Value) (Q:VK),Inv X pins σ H s->a3_ x v->aX_ xs us->r x xs H Q->
  wpAny (model X.prog X.w) X.A (call (.builtin id) (v::us)) (EP X pins σ Q) X.xe s
section
variable {X:Cx}{a b:Expr}{ta tb:TE}{pos:Pos}
theorem aM_ {r:R2} (hr:IxR X r) (ha:PE X a ta) (hb:PE X b tb) (hs:qS_ b):PE X (.Subscript a b pos) (tOp r ta tb):=by
 intro pins s σ H Q I h;exact Subscript_ (tQ_ ha hb I h fun v u s2 x y H2 I2 rx ry q=>hr a b pins s2 σ H2 x y v u Q I2 rx ry q (hs _ _))
def ux_ (K:W.Frag):R2:=fun x y H Q=>∃p xs i v,x= .ref p/\y= .int i/\SqL K H p xs/\atI xs i=some v/\Q v H
def t2_ (K:W.Frag):R2:=fun x y H Q=>∃p xs i v,x= .ref p/\y= .int i/\SqT K H p xs/\atI xs i=some v/\Q v H
theorem b7_:IxR X (ux_ X.K):=by
 intro value slice pins s σ H x y v u Q I rx ry h hs;obtain⟨p,xs,i,z,rfl,rfl,hq,he,q⟩:=h;cases rx;obtain⟨t,rfl⟩:=ry;obtain⟨its,r,pl,hz⟩:=I.list hq;obtain⟨j,h1,h2,h3,h4,h5⟩:=na_ he;obtain⟨w,ew,rw'⟩:=r.get h2;have hl:=r.length;have hn:=f2_;have fin:EP X pins σ Q w s:=⟨z,H,I,rw',q⟩;by_cases h0:0<=i
 .have hj:i.toNat=j:=by
   rw [seqIndex_of h0 h5] at h1;exact An h1
  exact item_listR pl.isList h0 (by lia) (by rw [hj];simpa using ew) fin hs
 .have hj:(i+(its.toArray.size:Int)).toNat=j:=by
   rw [seqIndex_neg (by lia) h4] at h1;rw [AA,<-hl];exact An h1
  exact subscriptTail_builtinR (x:=w) pl.isList.typeIs slot_list_getitem.lookup
   (wpAny_getItem_list_neg (Q:=fun r s'=>r=w/\EP X pins σ Q r s') pl.isList (by lia) (by rw [AA]<;>lia) (by lia) (by rw [hj];simpa using ew) ⟨rfl,fin⟩) hs
theorem cj_:IxR X (t2_ X.K):=by
 intro value slice pins s σ H x y v u Q I rx ry h hs;obtain⟨p,xs,i,z,rfl,rfl,hq,he,q⟩:=h;cases rx;obtain⟨t,rfl⟩:=ry;obtain⟨its,r,pl,hz⟩:=I.tuple hq;obtain⟨j,h1,h2,h3,h4,h5⟩:=na_ he;obtain⟨w,ew,rw'⟩:=r.get h2;have hl:=r.length;have hn:=f2_;have fin:EP X pins σ Q w s:=⟨z,H,I,rw',q⟩;exact subscriptTail_builtinR (x:=w) pl.typeIs slot_tuple_getitem.lookup
  (getItem_tuple (j:=j) (Q:=fun r s'=>r=w/\EP X pins σ Q r s') pl (by lia) (by lia) (by rw [AA,<-hl];exact h1) (by simpa using ew) ⟨rfl,fin⟩) hs
theorem kM_ (its:List Value) (n j:Nat) (u:Value):Obj.mapSeq (·.setIfInBounds j u) {cls:= .type "list",data:= .seq its.toArray n}={cls:= .type "list",data:= .seq (its.set j u).toArray n}:=by
 simp [Obj.mapSeq]
theorem Inv.lst {pins:List (Addr×Obj)}{σ:St}{H:Hp}{s:Shared}{p:Addr}{xs:List V} (I:Inv X pins σ H s) (h:H p=some (.lst xs)):
  ∃(its:List Value) (n:Nat),aX_ xs its/\s.heap.get? p=some {cls:= .type "list",data:= .seq its.toArray n}/\xs.length<=sizeLine:=by
 obtain⟨z,its,n,r,e⟩:=I.hok p _ h;exact⟨its,n,r,e,z⟩
theorem Inv.lstUpd {pins:List (Addr×Obj)}{σ:St}{H:Hp}{s:Shared}{p:Addr}{xs ys:List V}{its its':List Value}{n n':Nat}{f:Obj->Obj} (I:Inv X pins σ H s) (h:H p=some (.lst xs))
  (ho:s.heap.get? p=some {cls:= .type "list",data:= .seq its.toArray n}) (hf:f {cls:= .type "list",data:= .seq its.toArray n}={cls:= .type "list",data:= .seq its'.toArray n'}) (r:aX_ ys its') (hz:ys.length<=sizeLine) (t:Nat):
  Inv X pins σ (upd H p (.lst ys)) {s with heap:=s.heap.update p f,toks:=t}:=by
 have e:(s.heap.update p f).get? p=some {cls:= .type "list",data:= .seq its'.toArray n'}:=by
  rw [CC f ho (by rw [hf]<;>rfl),hf]
 refine I.write (x:=p) (e:=p) (by rw [h];trivial) (.inl rfl) (fun b u hb q=>(Heap.get?_update_other _ _ (Ne.symm hb)).trans q) ⟨_,e⟩ ?_;exact⟨hz,its',n',r,e⟩
def ts_:V->V->V->Hp->(Hp->Prop)->Prop:=fun o i v H Q=>∃p xs k j,o= .ref p/\i= .int k/\H p=some (.lst xs)/\ixN xs.length k=some j/\Q (upd H p (.lst (xs.set j v)))
theorem cQ_:tT_ X ts_:=by
 intro pins s σ H o i v ov iv u Q I ro ri rv h;obtain⟨p,xs,k,j,rfl,rfl,hp,hj,q⟩:=h;cases ro;obtain⟨t,rfl⟩:=ri;obtain⟨its,n,r,ho,hz⟩:=I.lst hp;obtain⟨h1,h2,h3,h4⟩:=mz_ hj;have hl:=r.length;have hn:=f2_;have I':Inv X pins σ (upd H p (.lst (xs.set j v))) {s with heap:=s.heap.update p (Obj.mapSeq (·.setIfInBounds j u))}:=
  I.lstUpd hp ho (kM_ its n j u) (r.set rv j) (by rw [BF];exact hz) s.toks
 by_cases h0:0<=k
 .have hk:k.toNat=j:=by
   rw [seqIndex_of h0 h4] at h1;exact An h1
  exact W.ki_setAt ho h0 (by lia) (by rw [AA,<-hl];exact h4) (by rw [hk];exact⟨_,I',q⟩)
 .have hk:(k+(its.toArray.size:Int)).toNat=j:=by
   rw [seqIndex_neg (by lia) h3] at h1;rw [AA,<-hl];exact An h1
  exact W.ki_setBack ho (by lia) (by rw [AA,<-hl];exact h3) (by lia) (by rw [hk];exact⟨_,I',q⟩)
theorem hy_ (lo hi:Option Int) (n:Nat):(sliceBounds lo hi none n).1=((HT.sIx n 0 lo:Nat):Int)/\(sliceBounds lo hi none n).2.1=((HT.sIx n n hi:Nat):Int)/\(sliceBounds lo hi none n).2.2=1:=by
 refine⟨?_, ?_,rfl⟩
 .cases lo with
  |none=>simp [sliceBounds,HT.sIx]
  |some i=>
   simp only [sliceBounds,HT.sIx,Option.getD_none,show(1:Int)>0 by decide,C9];by_cases h:i<0
   .simp only [h,C9]<;>lia
   .simp only [h,Av]<;>lia
 .cases hi with
  |none=>simp [sliceBounds,HT.sIx]
  |some i=>
   simp only [sliceBounds,HT.sIx,Option.getD_none,show(1:Int)>0 by decide,C9];by_cases h:i<0
   .simp only [h,C9]<;>lia
   .simp only [h,Av]<;>lia
theorem go_ (its:List Value) (lo hi:Option Int):slicePick its.toArray lo hi none=((its.drop (HT.sIx its.length 0 lo)).take (HT.sIx its.length its.length hi-HT.sIx its.length 0 lo)).toArray:=by
 obtain⟨h1,h2,h3⟩:=hy_ lo hi its.toArray.size;unfold slicePick;rw [h1,h2,h3];simp only [sliceRange_one,pick_run,AA]<;>rfl
def ut_ (K:W.Frag):V->Option Int->Option Int->Hp->VK->Prop:=fun x lo hi H Q=>∃a xs,x= .ref a/\SqL K H a xs/\∀p,H p=none->Q (.ref p) (upd H p (.lst (iA_ xs lo hi)))
theorem iN_:SlR X (ut_ X.K):=by
 intro pins s σ H x v vl vu lo hi sl Q I rx hs pl pu h;obtain⟨a,xs,rfl,hx,q⟩:=h;cases rx;obtain⟨its,r,ht,hz⟩:=I.list hx;have hlen:=r.length;refine⟨"list",_,slot_list_getitem.lookup,ht.isList.typeIs, ?_⟩;refine wpAny_getItem_list_slice ht.isList hs pl pu .none (by simp) ?_ (by rw [AA]<;>lia)
 rw [go_,<-hlen];refine⟨.ref s.heap.objs.size,_,I.laid (t':=s.toks) (o:= .lst (iA_ xs lo hi)) (fun b ob q=>AB _ q) (A7 _) ?_,rfl,q _ (I.hok.fresh (A7 _))⟩;exact⟨Ac (fw_ xs lo hi) hz,_,0,(r.drop (HT.sIx xs.length 0 lo)).take (HT.sIx xs.length xs.length hi-HT.sIx xs.length 0 lo),AI _ rfl⟩
theorem bH_:cu_ X (.builtin "len") (fun xs H Q=>∃p ys,xs=[.ref p]/\(SqL X.K H p ys\/SqT X.K H p ys)/\Q (.int ys.length) H):=by
 intro pins s σ H xs us Q I r h;obtain⟨p,ys,rfl,hq,q⟩:=h;obtain⟨u,rfl,rx⟩:=du_ r;cases rx;have hn:=f2_;rcases hq with hq|hq
 .obtain⟨its,r',pl,hz⟩:=I.list hq;have hlen:=r'.length;exact Calls.call_len_list pl.isList (by simp only [AA]<;>lia) ⟨.int ys.length,H,I.tok _,⟨s.toks+1,by rw [AA,hlen]⟩,q⟩
 .obtain⟨its,r',pl,hz⟩:=I.tuple hq;have hlen:=r'.length;exact len_tuple pl (by simp only [AA]<;>lia) ⟨.int ys.length,H,I.tok _,⟨s.toks+1,by rw [AA,hlen]⟩,q⟩
theorem eu_:cu_ X (.type "list") (fun xs H Q=>∃p ys,xs=[.ref p]/\(SqL X.K H p ys\/SqT X.K H p ys)/\∀l,H l=none->Q (.ref l) (upd H l (.lst ys))):=by
 intro pins s σ H xs us Q I r h;obtain⟨p,ys,rfl,hq,q⟩:=h;obtain⟨u,rfl,rx⟩:=du_ r;cases rx;have fin:∀(its:List Value),aX_ ys its->ys.length<=sizeLine->∀(h':Heap) (c':Nat),(∀b o',s.heap.get? b=some o'->h'.get? b=some o')->
   h'.get? s.heap.objs.size=some {cls:= .type "list",dict:=none,data:= .seq its.toArray c',slots:= #[]}->EP X pins σ Q (.ref s.heap.objs.size) {s with heap:=h'}:=fun its r' hz h' c' kp e=>
  ⟨.ref s.heap.objs.size,_,I.laid (t':=s.toks) kp (A7 _) (show aS_ X.prog X.w _ h' _ (.lst ys) from⟨hz,its,c',r',e⟩),rfl,q _ (I.hok.fresh (A7 _))⟩
 rcases hq with hq|hq
 .obtain⟨its,r',pl,hz⟩:=I.list hq;have hlen:=r'.length;obtain⟨o,ho,hc,n,hd⟩:=pl.isList;exact call_list_seq p (.inl rfl) ho hc hd (fun h' c' kp e=>fin its r' hz h' c' kp e) (by simp only [AA]<;>lia)
 .obtain⟨its,r',pl,hz⟩:=I.tuple hq;have hlen:=r'.length;obtain⟨o,ho,hc,n,hd⟩:=pl;exact call_list_seq p (.inr rfl) ho hc hd (fun h' c' kp e=>fin its r' hz h' c' kp e) (by simp only [AA]<;>lia)
theorem hk_:cu_ X (.type "tuple") (fun xs H Q=>∃p ys,xs=[.ref p]/\((SqL X.K H p ys/\∀l,H l=none->Q (.ref l) (upd H l (.tup ys)))\/(SqT X.K H p ys/\Q (.ref p) H))):=by
 intro pins s σ H xs us Q I r h;obtain⟨p,ys,rfl,h⟩:=h;obtain⟨u,rfl,rx⟩:=du_ r;cases rx;rcases h with⟨hq,q⟩|⟨hq,q⟩
 .obtain⟨its,r',pl,hz⟩:=I.list hq;have hlen:=r'.length;refine call_tuple_list pl.isList (fun h' kp=> ?_) (by simp only [AA]<;>lia)
  have I1:Inv X pins σ H {s with heap:=h'}:=I.kept (t':=s.toks) kp;have I2:Inv X pins σ (upd H h'.objs.size (.tup ys)) {s with heap:=h'.push {cls:= .type "tuple",data:= .seq its.toArray}}:=
   I1.laid (t':=s.toks) (fun b o e=>AB _ e) (A7 _) (show aS_ X.prog X.w _ _ _ (.tup ys) from⟨hz,its,r',IsTup.new _ _⟩)
  exact⟨.ref h'.objs.size,_,I2,rfl,q _ (I1.hok.fresh (A7 _))⟩
 .obtain⟨its,r',pl,hz⟩:=I.tuple hq;exact call_tuple_same pl ⟨.ref p,H,I,rfl,q⟩
def tyV (K:W.Frag) (T:String) (x:V) (H:Hp):Prop:=match x with
 | .str _=>T="str"
 | .int _=>T="int"
 | .ref p=>(T="list"/\∃xs,SqL K H p xs)\/(T="tuple"/\∃o,K.lookup p=some o/\o.cls= .type "tuple"/\o.dict=none)\/
   (T="dict"/\((∃kvs,H p=some (.dK kvs))\/∃kvs,H p=some (.dT kvs)))\/(T="set"/\∃S n,H p=some (.set S n))
 |_=>False
theorem oy_ {pins:List (Addr×Obj)}{σ:St}{H:Hp}{s:Shared}{T:String}{x:V}{v:Value} (I:Inv X pins σ H s) (r:a3_ x v) (ty:tyV X.K T x H):
  s.TypeIs v T/\∀a,v= .ref a->∃ob,s.heap.get? a=some ob/\ob.dict=none:=by
 cases x with
 |str z=>
  obtain⟨t,rfl⟩:=r;cases (show T="str" from ty);exact⟨typeIs_str s z t,fun _ e=>nomatch e⟩
 |int i=>
  obtain⟨t,rfl⟩:=r;cases (show T="int" from ty);exact⟨typeIs_int s i t,fun _ e=>nomatch e⟩
 |ref p=>
  cases r;rcases ty with⟨rfl,xs,hq⟩|⟨rfl,o,hk,hc,hd⟩|⟨rfl,hk⟩|⟨rfl,S,n,hk⟩
  .obtain⟨its,_,pl,_⟩:=I.list hq;refine⟨pl.isList.typeIs,fun a e=> ?_⟩;cases e;obtain⟨o,n,e,c,hd,_⟩:=pl;exact⟨o,e,hd⟩
  .refine⟨⟨o,I.kIn p o hk,hc⟩,fun a e=> ?_⟩;cases e;exact⟨o,I.kIn _ o hk,hd⟩
  .have z:∃o,s.heap.get? p=some o/\o.ExactDict:=by
    rcases hk with⟨kvs,hk⟩|⟨kvs,hk⟩
    .obtain⟨_,_,_,_,o,_,_,e,ex,_⟩:=I.hok p _ hk;exact⟨o,e,ex⟩
    .obtain⟨_,_,_,_,o,_,_,e,ex,_⟩:=I.hok p _ hk;exact⟨o,e,ex⟩
   obtain⟨o,e,ex⟩:=z;refine⟨⟨o,e,ex.1⟩,fun a e2=> ?_⟩;cases e2;exact⟨o,e,ex.2.1⟩
  .obtain⟨o,_,_,_,e,ex,_⟩:=I.hok p _ hk;refine⟨⟨o,e,ex.1⟩,fun a e2=> ?_⟩;cases e2;exact⟨o,e,ex.2.1⟩
 |_=>exact False.elim ty
def uk_ (K:W.Frag) (T:String) (r:V->List V->Hp->VK->Prop) (to:TE):TE:=fun σ H Q=>to σ H fun x H1=>tyV K T x H1/\r x [] H1 Q
def tBM (K:W.Frag) (T:String) (r:V->List V->Hp->VK->Prop) (to:TE) (t:TA):TE:=fun σ H Q=>to σ H fun x H1=>tyV K T x H1/\t σ H1 fun xs H2=>r x xs H2 Q
variable {o e:Expr}{es:List Expr}{to:TE}{t:TA}{name:Str}{apos cpos:Pos}{T id:String}{r:V->List V->Hp->VK->Prop}
theorem rM_ (pa:PlainAttrs T) (slot:Slot T name id) (hty:typeOf (.builtin id)=pure (.type "method_descriptor")) (hm:MtR X id r) (ho:PE X o to)
  (hbase:attributeBase o name X.env (eval o X.env)=eval o X.env:=by rfl) (hline:(apos.endLine==cpos.line)=true:=by rfl):PE X (.Call (.Attribute o name apos) [] [] cpos) (uk_ X.K T r to):=by
 intro pins s σ H Q I h;refine wpAny_Call_method0_late hbase hline (thn (ho pins s σ H _ I h) fun v s1 ⟨x,H1,I1,r1,ty,q1⟩=> ?_);obtain⟨h1,h2⟩:=oy_ I1 r1 ty;exact⟨T,id,pa,slot,hty,h1,h2,Cq rfl (PySem.evalArgs_none (hm pins s1 σ H1 x [] v [] Q I1 r1 .nil q1))⟩
theorem e4_ (pa:PlainAttrs T) (slot:Slot T name id) (hty:typeOf (.builtin id)=pure (.type "method_descriptor")) (hm:MtR X id r) (ho:PE X o to) (ha:PA X (e::es) t)
  (hbase:attributeBase o name X.env (eval o X.env)=eval o X.env:=by rfl)
  (hfew:((backTo cpos (starEach (e::es) X.env)).all (fun x=> !x.1)&&(backToKw cpos (keywordEach [] X.env)).all (fun x=>x.1.isSome)
   &&decide ((e::es).length+([]:List Keyword).length+(if([]:List Keyword).isEmpty then 0 else 1)<30))=true:=by rfl)
  (hline:(apos.endLine==cpos.line)=true:=by rfl) (hs:starEach (e::es) X.env=(false,eval e X.env)::starEach es X.env:=by rfl) (hplain:(backTo cpos (starEach es X.env)).any (·.1)=false:=by rfl):
  PE X (.Call (.Attribute o name apos) (e::es) [] cpos) (tBM X.K T r to t):=by
 intro pins s σ H Q I h;refine wpAny_Call_method_late hbase hfew hline rfl (thn (ho pins s σ H _ I h) fun v s1 ⟨x,H1,I1,r1,ty,q1⟩=> ?_);obtain⟨h1,h2⟩:=oy_ I1 r1 ty;refine⟨T,id,pa,slot,hty,h1,h2, ?_⟩;have hA:=ha cpos pins s1 σ H1 _ I1 q1;rw [hs] at hA⊢;refine Cq (by show(false||(backTo cpos (starEach es X.env)).any (·.1))=false;rw [hplain]<;>rfl) (Calls.evalArgs_plain ?_)
 exact thn hA fun us s2 ⟨vs,H2,I2,r2,q2⟩=>hm pins s2 σ H2 x vs v us Q I2 r1 r2 q2
end
end L2
namespace L2
open PySem PySem.Spec PyProof.Rows
def MtM (X:Cx) (id:String) (r:V->List V->Hp->VK->Prop):Prop:=
 ∀(pins:List (Addr×Obj)) (s:Shared) (σ:St) (H:Hp) (x:V) (xs:List V) (v:Value) (us:List Value) (Q:VK),Inv X pins σ H s->a3_ x v->aX_ xs us->r x xs H Q->
  wpAny (model X.prog X.w) X.A (call (.builtin id) (v::us)) (EP X pins σ Q) X.xe s
theorem aX_.one:∀{x:V}{us:List Value},aX_ [x] us->∃u,us=[u]/\a3_ x u
 |_,_, .cons r .nil=>⟨_,rfl,r⟩
theorem aX_.zero:∀{us:List Value},aX_ [] us->us=[]
 |_, .nil=>rfl
theorem aX_.dropLast {xs:List V}{us:List Value} (h:aX_ xs us):aX_ xs.dropLast us.dropLast:=by
 induction h with
 |nil=>exact .nil
 |cons r t ih=>
  cases t with
  |nil=>exact .nil
  |cons q t'=>exact .cons r ih
theorem aX_.rep {xs:List V}{us:List Value} (h:aX_ xs us):∀k:Nat,aX_ (List.replicate k xs).flatten (List.replicate k us).flatten
 |0=> .nil
 |k+1=>by
  rw [Aq,Aq,C2,C2];exact aX_.append h (aX_.rep h k)
theorem kU_ {α:Type} (l:List α):l.eraseIdx (l.length-1)=l.dropLast:=by
 induction l with
 |nil=>rfl
 |cons a r ih=>
  cases r with
  |nil=>rfl
  |cons b r=>
   have e:(a::b::r).length-1=((b::r).length-1)+1:=by
    have h1:(a::b::r).length=r.length+2:=rfl;have h2:(b::r).length=r.length+1:=rfl;lia
   rw [e,List.eraseIdx_cons_succ,ih];all_goals rfl
theorem if_ (its:List Value):∀(k:Nat) (acc:List Value),
  List.foldl (fun x1 x2=>x1++x2) acc.toArray (List.replicate k its.toArray)=(acc++(List.replicate k its).flatten).toArray
 |0,acc=>by simp
 |k+1,acc=>by
  have e:acc.toArray++its.toArray=(acc++its).toArray:=by simp
  have e2:(acc++its)++(List.replicate k its).flatten=acc++(List.replicate (k+1) its).flatten:=by
   rw [Aq,C2,BC]
  rw [<-e2,<-if_ its k (acc++its),<-e,Aq,Cr]
section
variable {X:Cx}{pins:List (Addr×Obj)}{σ:St}{H:Hp}{s:Shared}{l b:Addr}{xs ys zs:List V}
theorem Inv.lset {its its':List Value}{n:Nat}{f:Array Value->Array Value}{t':Nat} (I:Inv X pins σ H s) (hH:H l=some (.lst xs))
  (e:s.heap.get? l=some {cls:= .type "list",data:= .seq its.toArray n}) (hf:f its.toArray=its'.toArray) (hv:aX_ ys its') (hz:ys.length<=sizeLine):
  Inv X pins σ (upd H l (.lst ys)) {s with heap:=s.heap.update l (Obj.mapSeq f),toks:=t'}:=by
 have q:=PySem.IsL.update e f;rw [hf] at q;refine I.write (x:=l) (e:=l) (by rw [hH];exact trivial) (.inl rfl) (fun b' u hb hu=>(Heap.get?_update_other s.heap (Obj.mapSeq f) (Ne.symm hb)).trans hu) ⟨_,q⟩ ?_;exact⟨hz,its',_,hv,q⟩
theorem Inv.lnew {its:List Value}{t':Nat} (I:Inv X pins σ H s) (hv:aX_ ys its) (hz:ys.length<=sizeLine):
  Inv X pins σ (upd H s.heap.objs.size (.lst ys)) {s with heap:=s.heap.push {cls:= .type "list",data:= .seq its.toArray},toks:=t'}:=
 I.laid (fun _ _ q=>AB _ q) (A7 _) ⟨hz,its,0,hv,AI _ rfl⟩
theorem Inv.fresh (I:Inv X pins σ H s):H s.heap.objs.size=none:=I.hok.fresh (A7 _)
theorem Inv.lstM (I:Inv X pins σ H s) (hH:H l=some (.lst xs)):xs.length<=sizeLine/\∃(its:List Value) (n:Nat),aX_ xs its/\xs.length=its.length/\s.heap.get? l=some {cls:= .type "list",data:= .seq its.toArray n}:=by
 obtain⟨z,its,n,r,e⟩:=I.hok l _ hH;exact⟨z,its,n,r,r.length,e⟩
theorem jU_ {n:Nat} (h:n<=sizeLine):Builtin.List.listTooLong n=false:=by
 unfold Builtin.List.listTooLong;exact AX (by lia)
end
section
variable {X:Cx}
def eZ_:V->List V->Hp->VK->Prop:=fun x vs H Q=>∃l xs y,x= .ref l/\vs=[y]/\H l=some (.lst xs)/\xs.length<sizeLine/\Q .non (upd H l (.lst (xs++[y])))
theorem bS_:MtM X "list.append" eZ_:=by
 intro pins s σ H x vs v us Q I rx rv h;obtain⟨l,xs,y,rfl,rfl,hH,hz,q⟩:=h;cases rx;obtain⟨u,rfl,ru⟩:=rv.one;obtain⟨z,its,n,r,hl,e⟩:=I.lstM hH;refine DC F.slot_list_append ⟨_,e,rfl⟩ F.entry_list_append (F.args_list_append_2 _ _) (PySem.list_append l its.toArray n u (by rw [AA];lia)) ⟨e, ?_⟩;refine⟨.non,_,I.lset (its':=its++[u]) hH e (by simp) (r.append (.cons ru .nil)) ?_,rfl,q⟩;rw [AH,B4];lia
def pM_:V->List V->Hp->VK->Prop:=fun x vs H Q=>∃l b xs zs,x= .ref l/\vs=[.ref b]/\H l=some (.lst xs)/\H b=some (.lst zs)/\xs.length+zs.length<=sizeLine/\Q .non (upd H l (.lst (xs++zs)))
theorem dK_:MtM X "list.extend" pM_:=by
 intro pins s σ H x vs v us Q I rx rv h;obtain⟨l,b,xs,zs,rfl,rfl,hH,hB,hz,q⟩:=h;cases rx;obtain⟨u,rfl,ru⟩:=rv.one;cases ru;obtain⟨z,its,n,r,hl,e⟩:=I.lstM hH;obtain⟨z2,its2,n2,r2,hl2,e2⟩:=I.lstM hB;have hsz:its.toArray.size+its2.toArray.size<=sizeLine:=by rw [AA,AA];lia
 have hlong:¬(!its.toArray.isEmpty&&Builtin.List.listTooLong (its.toArray.size+its2.toArray.size))=true:=by
  rw [jU_ hsz,C8];exact AU
 refine DC F.slot_list_extend ⟨_,e,rfl⟩ F.entry_list_extend (F.args_list_extend_2 _ _)
  (AutoSeq1.list_extend_list_list_0 l its.toArray n b its2.toArray n2 hlong (by rw [AA];lia) (by lia)) ⟨e,e2, ?_⟩
 refine⟨.non,_,I.lset (its':=its++its2) hH e (by simp) (r.append r2) ?_,rfl,q⟩;rw [AH];lia
def uw_:V->List V->Hp->VK->Prop:=fun x vs H Q=>∃l xs y,x= .ref l/\vs=[]/\H l=some (.lst xs)/\xs[xs.length-1]? =some y/\Q y (upd H l (.lst xs.dropLast))
theorem rZ_:MtM X "list.pop" uw_:=by
 intro pins s σ H x vs v us Q I rx rv h;obtain⟨l,xs,y,rfl,rfl,hH,hy,q⟩:=h;cases rx;have hus:=rv.zero;subst hus;obtain⟨z,its,n,r,hl,e⟩:=I.lstM hH;obtain⟨u,hu,ru⟩:=r.get hy;have hy':its.toArray[its.toArray.size-1]? =some u:=by
  show its.toArray[its.length-1]? =some u;rw [<-Bq,<-hl];exact hu
 refine DC F.slot_list_pop ⟨_,e,rfl⟩ F.entry_list_pop (F.args_list_pop_1 _) (MeetsSeq.list_pop_last l its.toArray n u hy' (by rw [AA];lia)) ⟨e, ?_⟩;refine⟨y,_,I.lset (its':=its.dropLast) hH e ?_ r.dropLast ?_,ru,q⟩
 .show its.toArray.eraseIdxIfInBounds (its.toArray.size-1)=its.dropLast.toArray;rw [AA,List.eraseIdxIfInBounds_toArray,kU_]
 .rw [List.length_dropLast];lia
def uz_:R2:=fun x y H Q=>∃l b xs zs,x= .ref l/\y= .ref b/\H l=some (.lst xs)/\H b=some (.lst zs)/\xs.length+zs.length<=sizeLine/\∀p,H p=none->Q (.ref p) (upd H p (.lst (xs++zs)))
theorem rR_:OpR X (binaryOp .Add) uz_:=by
 intro pins s σ H x y v u Q I rx ry h;obtain⟨l,b,xs,zs,rfl,rfl,hH,hB,hz,q⟩:=h;cases rx;cases ry;obtain⟨z,its,n,r,hl,e⟩:=I.lstM hH;obtain⟨z2,its2,n2,r2,hl2,e2⟩:=I.lstM hB;refine PySem.P.add_list e e2 ?_ (by rw [AA,AA];lia);have ea:its.toArray++its2.toArray=(its++its2).toArray:=by simp
 rw [ea];exact⟨.ref _,_,I.lnew (t':=s.toks) (r.append r2) (by rw [AH];lia),rfl,q _ I.fresh⟩
def uv_:R2:=fun x y H Q=>∃l k xs,x= .ref l/\y= .int k/\H l=some (.lst xs)/\-(2^63)<=k/\k<2^63/\xs.length*k.toNat<=sizeLine/\
 ∀p,H p=none->Q (.ref p) (upd H p (.lst (List.replicate k.toNat xs).flatten))
theorem qb_ {α:Type} (xs:List α) (k:Nat):(List.replicate k xs).flatten.length=k*xs.length:=by
 induction k with
 |zero=>simp
 |succ k ih=>rw [Aq,C2,AH,ih,Cw,Nat.add_comm]
theorem l0_:OpR X (binaryOp .Mult) uv_:=by
 intro pins s σ H x y v u Q I rx ry h;obtain⟨l,k,xs,rfl,rfl,hH,h1,h2,hz,q⟩:=h;cases rx;obtain⟨t,rfl⟩:=ry;obtain⟨z,its,n,r,hl,e⟩:=I.lstM hH;have hlen:its.toArray.size*k.toNat<=sizeLine:=by rw [AA,<-hl];exact hz
 have hcap:¬its.toArray.size*k.toNat>(2^63-1)/8:=by
  have:(sizeLine:Nat)<=(2^63-1)/8:=by decide
  lia
 have hfit:¬(!Builtin.List.listFitsIndex k)=true:=by
  rw [fitsIndex_both h1 h2];exact AU
 have hlong:¬Builtin.List.listTooLong (its.toArray.size*k.toNat)=true:=by
  rw [jU_ hlen];exact AU
 have hnew:List.foldl (fun x1 x2=>x1++x2) #[] (List.replicate (if its.toArray.isEmpty=true then 0 else k.toNat) its.toArray)=(List.replicate k.toNat its).flatten.toArray:=by
  have f0:∀m:Nat,List.foldl (fun x1 x2=>x1++x2) #[] (List.replicate m its.toArray)=(List.replicate m its).flatten.toArray:=fun m=>by
   have:=if_ its m [];rw [List.nil_append] at this;exact this
  rw [f0];cases its with
  |nil=>simp
  |cons a r'=>rw [A6 (by simp)]
 refine wpAny_binaryOp_repeat_ref (T:="list") (U:="int") (by decide) ⟨_,e,rfl⟩ (fun s'=>typeIs_int s' k t) noFill_list_mul F.fills_int_mul F.slot_int_rmul repeat_list F.slot_int_index.lookup
  (DC F.slot_int_rmul (typeIs_int s k t) F.entry_int_rmul (F.args_int_rmul_2 _ _) (int___rmul___int_list k t l its.toArray n)
   ⟨e,rfl,⟨_,e,rfl⟩,DC F.slot_list_mul ⟨_,e,rfl⟩ F.entry_list_mul (F.args_list_mul_2 _ _) (AutoListH.list___mul___list_int_3 l its.toArray n k t hfit hcap hlong) ⟨e, ?_⟩⟩)
 rw [hnew];exact⟨.ref _,_,I.lnew (t':=s.toks) (r.rep k.toNat) (by rw [qb_,CA];exact hz),rfl,q _ I.fresh⟩
end
section
variable {prog:Program}{w:World}{A:Around}{E:Value->Shared->Prop}{s:Shared}
end
section
variable {X:Cx}
end
end L2
namespace Att
open PySem PySem.W PySem.Calls PyProof.Rows
theorem fn_ {P:Params}{h:Heap}:∀(ns:List Int) (vs:List Value),WellAll P h vs (ns.map WData.int)->IntsAre vs ns:=by
 intro ns;induction ns with
 |nil=>
  intro vs w;rw [Cy] at w;cases w;exact .nil
 |cons n ns ih=>
  intro vs w;rw [AT] at w;cases w with
  |cons a b=>
   cases a;exact .cons _ _ (ih _ b)
theorem lA_ {l:OpenLaw}{n:Nat} (hn:l.most=some n) {P:Params}{h:Heap}{args:List WData}{vals:List Value}
  (hpre:l.row.toRowW.claim.pre args=true) (hwl:WellAll P h vals args):
  ∃a vs ns,vals=[Value.ref a]/\args=[WData.list (ns.map WData.int)]/\h.get? a=some {cls:= .type "list",data:= .seq vs.toArray}/\IntsAre vs ns/\ns.length<=n:=by
 have hsh:WShape.hasAll [] args [.list .int]=true:=(pre_splitW hpre).1;have hc:l.pre.holds [] {args:=args}=true:=(pre_splitW hpre).2;obtain⟨d,r,rfl,h1,h2⟩:=hasAllW_cons hsh;obtain rfl:=hasAllW_nil h2;obtain⟨xs,rfl,h3⟩:=hasW_list h1;obtain⟨ns,rfl⟩:=items_int h3;have hlen:ns.length<=n:=by
  unfold OpenLaw.pre at hc;have h4:(WTm.not (.lt (.lit (.int (n:Int))) (.len (.arg 0)))).holds [] {args:=[.list (ns.map .int)]}=true:=by
   have h4:=(holds_andW hc).1;rw [hn] at h4;exact h4
  have h5:=condW_of h4 (w_not (w_lt w_lit (w_len_list (w_arg rfl))));rw [A1] at h5;refine Nat.le_of_not_lt fun q=> ?_;have q':(n:Int)<((ns.length:Nat):Int):=by lia
  first
   |(rw [Ak q'] at h5;exact absurd h5 (by decide))
   |(simp at h5;lia)
 cases hwl with
 |cons w1 w2=>
  cases w2;cases w1 with
  |list ho hall=>exact⟨_,_,ns,rfl,rfl,ho,fn_ ns _ hall,hlen⟩
theorem lQ_ (l:OpenLaw) (args:List WData):l.row.toRowW.claim.post args (.bool true) args=true:=
 postW_of (r:=l.row.toRowW) (X:=(true==true))
  (show WShape.has [] (.bool true) .bool=true by first|rfl|decide|simp [WShape.has,WShape.arms,WShape.armsAll])
  (show(WTm.eq .res (.lit (.bool true))).value [] {args:=args,res:=some (.bool true),after:=args}=some (.bool (true==true)) from w_eq_bool (w_res rfl) w_lit) rfl
theorem attach_call {l:OpenLaw}{n:Nat}{q:Program}{loose:List Str}{XP:(Str->Option Value)->Heap->Prop}{YP:World->Heap->Prop}{d:DefRec}
  (hn:l.most=some n) (hdf:d.params.defaults=[])
  (call:∀(w:World) (s₀ s₁:Shared) (mg mb:Str->Option Value) (fa:Addr) (o:Obj) (pm cd doc:Value) (a:Addr) (vs:List Value) (ns:List Int),
   Ground q loose [] XP w s₀ mg mb s₁.heap->YP w s₁.heap->
   s₁.heap.get? fa=some o->o.data= .func (docDef d.name d.params d.body d.scope pm cd doc)->s₁.heap.CodeRec cd d.name->mg d.name=some (.ref fa)->
   s₁.heap.get? a=some {cls:= .type "list",data:= .seq vs.toArray}->IntsAre vs ns->ns.length<=n->s₁.gens= #[]->
   codeAny (model l.prog w) callerA (.call (.ref fa) ⟨[.ref a],[]⟩) (fun r s'=>r= .ok (.ret (.bool true))/\OldK s₁.heap s'.heap/\s'.os=s₁.os/\AllBare s'.gens) s₁):
  WalkO q loose XP YP l.row.toRowW d [] (fun f vs=>PySem.call f vs):=by
 intro w s₀ s₁ mg mb G Y fa o pm cd doc dV kV ho hd hcd hD hmg hg args vals as hpre hlay hrd hwl hlo;obtain rfl:dV= .none:=Dflts.none hD hdf;obtain rfl:kV= .none:=Dflts.noKw hD;obtain⟨a,vs,ns,rfl,rfl,hobj,hints,hlen⟩:=lA_ hn hpre hwl;refine enter_call (D' (call w s₀ s₁ mg mb fa o pm cd doc a vs ns G Y ho (fd_plain hd) hcd hmg hobj hints hlen hg) fun r s' hq=> ?_);obtain⟨rfl,h2,h3,h4⟩:=hq;exact⟨.inl ⟨.bool true, .bool true,[],rfl,fun _=>rfl, .bool true,lQ_ l _,fun _=>⟨List.Pairwise.nil,fun _ hm=>(nomatch hm)⟩⟩,h2,h3,h4⟩
section
variable {prog:Program}{w:World}{A:Around}{E:Value->Shared->Prop}{s:Shared}{K:Frag}
def t7_ (h:Heap) (L d:Addr):List (Addr×Obj):=(List.range h.objs.size).filterMap fun a=>if a=L\/a=d then none else(h.get? a).map fun o=>(a,o)
end
end Att
namespace L2
open PySem PySem.Spec PyProof.Rows
theorem hu_:∀{vs:List Value}{ns:List Int},IntsAre vs ns->aX_ (ns.map V.int) vs
 |_,_, .nil=> .nil
 |_,_, .cons n t h=> .cons ⟨t,rfl⟩ (hu_ h)
def tU_ (H:Hp):Prop:=∀b,H b=none\/∃o xs,H b=some (.frz o (.lst xs))
theorem n0_ {P:Program}{w:World}{K:W.Frag}{mg mb:Str->Option Value}{CX:CXT}{k:Nat}{fa a:Addr}{fd:FuncData}{x:Str}{sp:Sp}{s₁:Shared}{vs:List Value}{ns:List Int}
  (KX:K.In s₁.heap) (hns:s₁.heap.Ns mainGlobals mg) (hb:s₁.heap.Ns builtinsNs mb) (hbb:∀x:Str,x≠"__name__"->mb x=bootBuiltins x) (hlim:s₁.heap.NoLimit) (hg:s₁.gens= #[])
  (ha:s₁.heap.get? a=some {cls:= .type "list",data:= .seq vs.toArray}) (hi:IntsAre vs ns) (hl:ns.length<=sizeLine) (hr:Room k callerA)
  (F:∀base:Heap,K.In base->base.Ns mainGlobals mg->FnOk P w K mg base CX k fa fd [x] sp) (hbind:∀(s:Shared) (u:Value),BindsTo s fd ⟨[u],[]⟩ [(x,u)])
  (hsp:∀H:Hp,tU_ H->SqL K H a (ns.map V.int)->sp [.ref a] H (fun v _=>v= .bl true) fun _ _ _=>False)
  (hCX:∀H e s',CX [] H s₁ (fun _ _ _=>False) e s'->False):
  codeAny (model P w) callerA (.call (.ref fa) ⟨[.ref a],[]⟩) (fun r s'=>r= .ok (.ret (.bool true))/\OldK s₁.heap s'.heap/\s'.os=s₁.os/\AllBare s'.gens) s₁:=by
 have rv:=hu_ hi;have lenV:=hi.length;have core:∀H:Hp,tU_ H->SqL K H a (ns.map V.int)->HOk P w H s₁.heap->(∀b,H b≠none->b=a)->(H a≠none->K.lookup a=none)->
   codeAny (model P w) callerA (.call (.ref fa) ⟨[.ref a],[]⟩) (fun r s'=>r= .ok (.ret (.bool true))/\OldK s₁.heap s'.heap/\s'.os=s₁.os/\AllBare s'.gens) s₁:=by
  intro H hO hS hok hA hK;have base_of:∀{b:Addr}{o:Obj},s₁.heap.get? b=some o->H b=none->(oa_ s₁.heap H).get? b=some o:=fun e n=>n9_ e n;have noA:∀{b:Addr}{o:Obj}{es:Array DictEntry}{ep:Nat},s₁.heap.get? b=some o->o.data= .dict es ep->H b=none:=fun{b o es ep} e d=>by
   cases q:H b with
   |none=>rfl
   |some u=>
    have e':b=a:=hA b (by rw [q];simp);subst e';rw [ha] at e;cases e;have d':Data.seq vs.toArray _=Data.dict es ep:=d;cases d'
  have nsK:∀{b:Addr}{m:Str->Option Value},s₁.heap.Ns b m->(oa_ s₁.heap H).Ns b m:=fun{b m} ⟨o,es,ep,e,d,r⟩=>⟨o,es,ep,base_of e (noA e d),d,r⟩;have hKb:K.In (oa_ s₁.heap H):=fun b o e=>base_of (KX b o e) (by
   cases q:H b with
   |none=>rfl
   |some u=>
    have e':b=a:=hA b (by rw [q];simp);subst e';rw [hK (by rw [q];simp)] at e;cases e)
  have hM:Mod K mg (oa_ s₁.heap H):=⟨hKb,nsK hns,⟨mb,nsK hb,hbb⟩,let ⟨mc,h1,h2⟩:=hlim;⟨mc,nsK h1,h2⟩⟩;have e0:Env0 P w K mg (oa_ s₁.heap H) callerA [] s₁ H:=⟨rfl,hM,fun b o e=>p0_ e,Nat.le_of_eq (mI_ _ _),trivial,fun b hb=>absurd (show b∈([]:List Addr) from hb) (by simp),hok, .of_eq hg⟩;refine D' ((F _ hKb (nsK hns)).run callerA [] s₁ H ⟨[.ref a],[]⟩ [.ref a] [.ref a] _ _ hr e0 (hbind s₁ (.ref a)) (.cons rfl .nil) (hsp H hO hS)) fun r s' h=> ?_;cases r with
  |error e=>exact(hCX H e s' h).elim
  |ok fl=>
   cases fl with
   |next=>exact False.elim h
   |brk=>exact False.elim h
   |cont=>exact False.elim h
   |ret u=>
    obtain⟨v,H',os,bare,un,hok',r',q⟩:=h;have q':v= .bl true:=q;subst q';obtain rfl:u=Value.bool true:=r';refine⟨rfl,OldK.of_keep fun b o e=> ?_,os,bare⟩;cases q:H b with
    |none=>exact un.keep b o e q (by intro z;exact absurd (show b∈([]:List Addr) from z) (by simp)) (by simp)
    |some u=>
     rcases hO b with z|⟨ob,xs,z⟩
     .rw [q] at z;cases z
     .have z2:=un.frzs b ob _ z;obtain⟨e1,_⟩:=hok b _ z;obtain⟨e2,_⟩:=hok' b _ z2;rw [e] at e1;cases e1;exact e2
 cases hk:K.lookup a with
 |some o=>
  have e:=KX a o hk;rw [ha] at e;cases e;refine core (fun _=>none) (fun _=> .inl rfl) (.inr ⟨_,vs.toArray,_,hk,rfl,rfl,rfl,by rw [AA,lenV];exact hl,by simpa using rv⟩) (fun b u z=>by have z':(none:Option HO)=some u:=z;cases z') (fun b z=>absurd rfl z) fun z=>absurd rfl z
 |none=>
  refine core (fun b=>if b=a then some (.frz {cls:= .type "list",data:= .seq vs.toArray} (.lst (ns.map V.int))) else none) (fun b=> ?_) (.inl (.inr ⟨{cls:= .type "list",data:= .seq vs.toArray},A8 rfl⟩)) (fun b u z=> ?_) (fun b z=> ?_) fun _=>hk
  .by_cases hb:b=a
   .exact .inr ⟨_,_,A8 hb⟩
   .exact .inl (A6 hb)
  .by_cases hb:b=a
   .have z':=(A8 hb).symm.trans z;cases z';subst hb;exact⟨ha,by rw [A1];exact hl,vs,_,rv,ha⟩
   .have z':=(A6 hb).symm.trans z;cases z'
  .by_cases hb:b=a
   .exact hb
   .exact absurd (A6 hb) z
end L2
namespace L2
open PySem PySem.Spec PyProof.Rows
theorem pm_ {l:W.OpenLaw}{n k:Nat}{q:Program}{loose:List Str}{XP:(Str->Option Value)->Heap->Prop}{YP:World->Heap->Prop}{d:DefRec}{K:Params->W.Frag}{CX:World->CXT}{sp:World->Sp}{x:Str}
  (hn:l.most=some n) (hn2:n<=sizeLine) (hdf:d.params.defaults=[]) (hr:Room k callerA)
  (hY:∀(w:World) (h:Heap),YP w h->(K w.params).In h)
  (F:∀(w:World) (mg:Str->Option Value) (fa:Addr) (h:Heap),(K w.params).In h->h.Ns mainGlobals mg->mg d.name=some (.ref fa)->
   ∃fd:FuncData,(∀(s:Shared) (u:Value),BindsTo s fd ⟨[u],[]⟩ [(x,u)])/\
    ∀base:Heap,(K w.params).In base->base.Ns mainGlobals mg->FnOk l.prog w (K w.params) mg base (CX w) k fa fd [x] (sp w))
  (hsp:∀(w:World) (H:Hp) (a:Addr) (ns:List Int),ns.length<=n->tU_ H->SqL (K w.params) H a (ns.map V.int)->sp w [.ref a] H (fun v _=>v= .bl true) fun _ _ _=>False)
  (hCX:∀(w:World) (H:Hp) (s:Shared) (e:Value) (s':Shared),CX w [] H s (fun _ _ _=>False) e s'->False):
  W.WalkO q loose XP YP l.row.toRowW d [] (fun f vs=>PySem.call f vs):=by
 refine Att.attach_call hn hdf fun w s₀ s₁ mg mb fa o pm cd doc a vs ns G Y ho hd hcd hmg hobj hints hlen hg=> ?_;have KX:=hY w _ Y;obtain⟨fd,hb,hF⟩:=F w mg fa _ KX G.T.g hmg;exact n0_ KX G.T.g G.T.b G.T.builtins G.T.nolimit hg hobj hints (Ac hlen hn2) hr hF hb (fun H hO hS=>hsp w H a ns hlen hO hS) fun H e s'=>hCX w H s₁ e s'
end L2
namespace L2
open PySem PySem.Spec PyProof.Rows
def ct_ (s:Stmt):Arguments:=match s with
 | .FunctionDef _ a _ _ _ _ _ _ _ _=>a
 |_=>{posonlyargs:=[],args:=[],vararg:=none,kwonlyargs:=[],kw_defaults:=[],kwarg:=none,defaults:=[]}
def bT_ (s:Stmt):List Stmt:=match s with
 | .FunctionDef _ _ b _ _ _ _ _ _ _=>b
 |_=>[]
def af_ (s:Stmt):Scope:=match s with
 | .FunctionDef _ _ _ _ _ _ sc _ _ _=>sc
 |_=>{kind:= .function,names:=[],isGenerator:=false,isCoroutine:=false}
abbrev CX0:CXT:=fun _ _ _ _ _ _=>False
abbrev E0:XK:=fun _ _ _=>False
theorem aq_ {X:Cx}:ge_ CX0 X E0:=fun _ _ _ _ _ _ _ h=>h.elim
structure Fun (K:W.Frag) (x qual:Str) (st:Stmt) (f:Addr) (fd:FuncData):Prop where
 ex:∃(oc:Value) (od:Option Addr) (kV doc pm:Value) (an:Option Addr) (cdv ct:Value) (osl:Array (Option Value)),
  fd=W.fnOf x qual (ct_ st) (bT_ st) (af_ st) .none kV doc pm an cdv ct/\K.lookup f=some ⟨oc,od, .func fd,osl⟩/\W.codeIn K cdv qual=true
 kp:W.keepIn K (.ref f)=true
section
variable {P:Program}{w:World}{K:W.Frag}{mg:Str->Option Value}{base:Heap}
theorem Fun.ok {x qual:Str}{st:Stmt}{f:Addr}{fd:FuncData}{N ps:List Str}{k:Nat}{sp:Sp} (F:Fun K x qual st f fd) (S:FnScope N ps (af_ st)) (len:∀vs H Q E,sp vs H Q E->vs.length=ps.length)
  (hbody:∀(cdv:Value) (A:Around) (outer:List Env) (s:Shared) (H:Hp) (vs:List V) (Q:VK) (E:XK),Room k (A.deeper (envOfC qual (af_ st) s.heap.objs.size f cdv))->sp vs H Q E->
   ∃t,PSs (nh_ CX0 P w K mg base N qual (af_ st) f cdv A outer s H E).nox (bT_ st) t/\t {nx:=fun _ H'=>Q .non H',rt:=Q} (start N vs) H):FnOk P w K mg base CX0 (k+1) f fd ps sp:=by
 obtain⟨oc,od,kV,doc,pm,an,cdv,ct,osl,rfl,lk,hcd⟩:=F.ex;refine si_ lk hcd S len fun A outer s H vs Q E hr hsp=> ?_;obtain⟨t,h,q⟩:=hbody cdv A outer s H vs Q E hr hsp;exact⟨t,h.nox,q⟩
theorem Fun.binds {x qual:Str}{st:Stmt}{f:Addr}{fd:FuncData}{ps:List Str} (F:Fun K x qual st f fd)
  (h:∀(kV doc pm:Value) (an:Option Addr) (cdv ct:Value) (us:List Value),us.length=ps.length->bindArgs (W.fnOf x qual (ct_ st) (bT_ st) (af_ st) .none kV doc pm an cdv ct) ⟨us,[]⟩=pure (ps.zip us)):k5_ K fd ps []:=by
 obtain⟨oc,od,kV,doc,pm,an,cdv,ct,osl,rfl,lk,hcd⟩:=F.ex;exact .all (h kV doc pm an cdv ct)
theorem sg_ {x qual:Str}{st:Stmt}{f:Addr}{oc:Value}{od an:Option Addr}{osl:Array (Option Value)}{kV doc pm cdv ct:Value} (l:K.lookup f=some ⟨oc,od, .func (W.fnOf x qual (ct_ st) (bT_ st) (af_ st) .none kV doc pm an cdv ct),osl⟩)
  (c:W.codeIn K cdv qual=true) (k:W.keepIn K (.ref f)=true):Fun K x qual st f (W.fnOf x qual (ct_ st) (bT_ st) (af_ st) .none kV doc pm an cdv ct):=⟨⟨oc,od,kV,doc,pm,an,cdv,ct,osl,rfl,l,c⟩,k⟩
end
theorem jc_ {A:Around}{k:Nat} (hr:Room k A):A.units+1<cLine:=CS (Nat.add_le_add_left (by decide:1<=64) _) hr.units
theorem aj_ {n:Nat} (h:n<=1000):n<sizeLine:=CS h (by decide)
section
variable {X:Cx}
theorem pv (i:Nat) {x:Str}{pos:Pos} (hN:X.N[i]? =some x:=by rfl) (hv:Vis X.env.scope x:=by first|exact Or.inl rfl|exact Or.inr (Or.inl rfl)|exact Or.inr (Or.inr rfl)) (hd:(x==("__debug__":Str))=false:=by decide)
  (hcd:(x==("__classdict__":Str))=false:=by decide):PE X (.Name x pos) (sE_ i):=rK_ hN hv hd hcd
end
theorem fm_ {A B:Prop} (h:B):if false=true then A else B:=by
 rw [A6 AU];exact h
theorem kS_ {A B:Prop} (h:A):if true=true then A else B:=by
 rw [A8 rfl];exact h
def al_ (H H':Hp):Prop:=∀b o,H b=some o->H' b=some o
theorem al_.refl (H:Hp):al_ H H:=fun _ _ h=>h
theorem al_.trans {H H1 H2:Hp} (a:al_ H H1) (b:al_ H1 H2):al_ H H2:=fun c o h=>b c o (a c o h)
theorem al_.free {H H':Hp} (e:al_ H H') {l:Addr} (h:H' l=Option.none):H l=Option.none:=by
 cases q:H l with
 |none=>rfl
 |some o=>
  rw [e l o q] at h;cases h
theorem al_.seq {K:W.Frag}{H H':Hp}{a:Addr}{xs:List V} (e:al_ H H') (h:SqL K H a xs):SqL K H' a xs:=by
 rcases h with(h|⟨o,h⟩)|h
 .exact .inl (.inl (e _ _ h))
 .exact .inl (.inr ⟨o,e _ _ h⟩)
 .exact .inr h
end L2
set_option maxHeartbeats 4000000
namespace L2
open PySem PySem.Spec PyProof.Rows
section
variable {κ:Type} [DecidableEq κ]
def iD_ (kvs:List (κ×V)) (k:κ):Option V:=(kvs.find? fun kv=>decide (kv.1=k)).map (·.2)
def hG_ (kvs:List (κ×V)) (k:κ) (v:V):List (κ×V):=
 if(kvs.any fun kv=>decide (kv.1=k))=true then kvs.map (fun kv=>if kv.1=k then(kv.1,v) else kv) else kvs++[(k,v)]
theorem gg_ {p:κ×V}{r:List (κ×V)}{k:κ} (e:p.1=k):iD_ (p::r) k=some p.2:=by simp [iD_,BX,e]
theorem gh_ {p:κ×V}{r:List (κ×V)}{k:κ} (e:¬p.1=k):iD_ (p::r) k=iD_ r k:=by simp [iD_,BX,e]
theorem jx_ (k:κ):∀kvs:List (κ×V),(kvs.any fun kv=>decide (kv.1=k))=(iD_ kvs k).isSome
 |[]=>rfl
 |p::r=>by
  rw [List.any_cons];by_cases e:p.1=k
  .simp only [gg_ e,Ak e,Bool.true_or,Option.isSome_some]
  .rw [gh_ e,AX e,Bool.false_or];exact jx_ k r
theorem fg_ (kvs:List (κ×V)) (k:κ) (v:V):(hG_ kvs k v).length<=kvs.length+1:=by
 unfold hG_;split
 .rw [A1];lia
 .rw [AH,Ah,List.length_nil];lia
theorem k3_.isSome_eq {o:Option V}{u:Option Value} (r:k3_ o u):o.isSome=u.isSome:=by
 cases o with
 |none=>cases u with
  |none=>rfl
  |some _=>exact(show False from r).elim
 |some _=>cases u with
  |none=>exact(show False from r).elim
  |some _=>rfl
theorem k3_.getD {o:Option V}{u:Option Value}{d:V}{d':Value} (r:k3_ o u) (rd:a3_ d d'):a3_ (o.getD d) (u.getD d'):=by
 cases o with
 |none=>cases u with
  |none=>exact rd
  |some _=>exact(show False from r).elim
 |some _=>cases u with
  |none=>exact(show False from r).elim
  |some _=>exact r
theorem KV.val {kvs:List (κ×V)}{vs:List (κ×Value)} (r:KV kvs vs) (k:κ):k3_ (iD_ kvs k) (valueAt vs k):=by
 unfold KV at r;induction r with
 |nil=>exact True.intro
 | @cons p q ps qs h t ih=>
  obtain⟨h1,h2⟩:=h;by_cases e:p.1=k
  .have e':q.1=k:=h1.symm.trans e;have b:valueAt (q::qs) k=some q.2:=by simp [valueAt,BX,e']
   rw [gg_ e,b];exact h2
  .have e':¬q.1=k:=fun z=>e (h1.trans z);have b:valueAt (q::qs) k=valueAt qs k:=by simp [valueAt,BX,e']
   rw [gh_ e,b];exact ih
theorem KV.any {kvs:List (κ×V)}{vs:List (κ×Value)} (r:KV kvs vs) (k:κ):(kvs.any fun kv=>decide (kv.1=k))=vs.any fun kv=>decide (kv.1=k):=by
 unfold KV at r;induction r with
 |nil=>rfl
 |cons h t ih=>rw [List.any_cons,List.any_cons,ih,h.1]
theorem KV.repl {kvs:List (κ×V)}{vs:List (κ×Value)} (r:KV kvs vs) (k:κ) {y:V}{u:Value} (ry:a3_ y u):
  KV (kvs.map fun kv=>if kv.1=k then(kv.1,y) else kv) (vs.map fun kv=>if kv.1=k then(kv.1,u) else kv):=by
 unfold KV at r⊢;induction r with
 |nil=>exact .nil
 | @cons p q ps qs h t ih=>
  rw [AT,AT];refine .cons ?_ ih;obtain⟨h1,h2⟩:=h;by_cases e:p.1=k
  .rw [A8 e,A8 (h1.symm.trans e)];exact⟨h1,ry⟩
  .rw [A6 e,A6 (fun z=>e (h1.trans z))];exact⟨h1,h2⟩
theorem KV.put {kvs:List (κ×V)}{vs:List (κ×Value)} (r:KV kvs vs) (k:κ) {y:V}{u:Value} (ry:a3_ y u):KV (hG_ kvs k y) (stored vs k u):=by
 unfold hG_ stored;rw [r.any k];by_cases e:(vs.any fun kv=>decide (kv.1=k))=true
 .rw [A8 e,A8 e];exact r.repl k ry
 .rw [A6 e,A6 e];exact Paired.snoc r ⟨rfl,ry⟩
theorem KV.length {kvs:List (κ×V)}{vs:List (κ×Value)} (r:KV kvs vs):kvs.length=vs.length:=Bt r
end
theorem mx_ {P:Program}{w:World}{k:Key}{u:Value} (r:a3_ (kV k) u):(a2_ P w).is k u=true:=by
 cases k with
 |inl i=>obtain⟨t,e⟩:=(show∃t,u=Value.int i t from r);subst e;exact i7_ P w i t
 |inr x=>obtain⟨t,e⟩:=(show∃t,u=Value.str x t from r);subst e;exact i6_ P w x t
theorem ic_ {P:Program}{w:World}:∀{ks:List Key}{us:List Value},aX_ (ks.map kV) us->ItemsAre (a2_ P w) ks us
 |[],_,r=>by rw [Cy] at r;cases r;exact .nil
 |k::ks,_,r=>by
  rw [AT] at r;cases r with
  |cons h t=>exact .cons (mx_ h) (ic_ t)
abbrev KT (H:Hp):List (List Key×V)->List (List Key×Addr×Value)->Prop:=Paired fun p q=>p.1=q.1/\H q.2.1=some (.tup (p.1.map kV))/\a3_ p.2 q.2.2
theorem KT.val {H:Hp}{kvs:List (List Key×V)}{xs:List (List Key×Addr×Value)} (r:KT H kvs xs) (k:List Key):k3_ (iD_ kvs k) ((atKey xs k).map (·.2)):=by
 induction r with
 |nil=>exact True.intro
 | @cons p q ps qs h t ih=>
  obtain⟨h1,_,h2⟩:=h;by_cases e:p.1=k
  .have e':q.1=k:=h1.symm.trans e;have b:atKey (q::qs) k=some q.2:=by simp [atKey,BX,e']
   rw [gg_ e,b];exact h2
  .have e':¬q.1=k:=fun z=>e (h1.trans z);have b:atKey (q::qs) k=atKey qs k:=by simp [atKey,BX,e']
   rw [gh_ e,b];exact ih
theorem KT.repl {H:Hp}{kvs:List (List Key×V)}{xs:List (List Key×Addr×Value)} (r:KT H kvs xs) (k:List Key) {y:V}{u:Value} (ry:a3_ y u):
  KT H (kvs.map fun kv=>if kv.1=k then(kv.1,y) else kv) (xs.map (putAt k u)):=by
 induction r with
 |nil=>exact .nil
 | @cons p q ps qs h t ih=>
  rw [AT,AT];refine .cons ?_ ih;obtain⟨h1,h2,h3⟩:=h;unfold putAt;by_cases e:p.1=k
  .rw [A8 e,A8 (h1.symm.trans e)];exact⟨h1,h2,ry⟩
  .rw [A6 e,A6 (fun z=>e (h1.trans z))];exact⟨h1,h2,h3⟩
theorem KT.put {H:Hp}{kvs:List (List Key×V)}{xs:List (List Key×Addr×Value)} (r:KT H kvs xs) (k:List Key) {b:Addr}{y:V}{u:Value} (hb:H b=some (.tup (k.map kV))) (ry:a3_ y u):
  KT H (hG_ kvs k y) (storedH xs k b u):=by
 have e:(kvs.any fun kv=>decide (kv.1=k))=(atKey xs k).isSome:=by
  rw [jx_,(r.val k).isSome_eq,Option.isSome_map]
 unfold hG_ storedH;rw [e];by_cases q:(atKey xs k).isSome=true
 .rw [A8 q,A8 q];exact r.repl k ry
 .rw [A6 q,A6 q];exact Paired.snoc r ⟨rfl,hb,ry⟩
theorem KT.keeps {H H':Hp}{kvs:List (List Key×V)}{xs:List (List Key×Addr×Value)} (r:KT H kvs xs) (ht:∀b ys,H b=some (.tup ys)->H' b=some (.tup ys)):KT H' kvs xs:=
 Paired.mapP r fun _ _ z=>⟨z.1,ht _ _ z.2.1,z.2.2⟩
section
variable {P:Program}{w:World}{H:Hp}{h:Heap}{a:Addr}
theorem nD_ {u:HO} (ok:HOk P w H h) (e:Rd H a u):aS_ P w H h a u:=e.ok ok
theorem kW_ {kvs:List (Key×V)} (ok:HOk P w H h) (e:Rd H a (.dK kvs)):kvs.length<=sizeLine/\(a==sysModules)=false/\∃vs,KV kvs vs/\h.DictOf (a2_ P w) a vs:=
 show aS_ P w H h a (.dK kvs) from nD_ ok e
theorem tM_ {kvs:List (Key×V)} (ok:HOk P w H h) (e:H a=some (.dK kvs)):kvs.length<=sizeLine/\(a==sysModules)=false/\∃vs,KV kvs vs/\h.DictOf (a2_ P w) a vs:=kW_ ok (.inl e)
theorem f4_ {ks:List Key} (ok:HOk P w H h) (e:H a=some (.tup (ks.map kV))):(tupleKind (a2_ P w)).is h ks a:=by
 obtain⟨_,its,r,o,h1,h2,n,h3⟩:=(show aS_ P w H h a (.tup (ks.map kV)) from ok a _ e);exact⟨o,its.toArray,n,h1,h2,h3,by simpa using ic_ r⟩
theorem kV_ {kvs:List (List Key×V)} (ok:HOk P w H h) (e:Rd H a (.dT kvs)):kvs.length<=sizeLine/\(a==sysModules)=false/\
  ∃xs,KT H kvs xs/\h.DictOfH (tupleKind (a2_ P w)) a xs:=by
 obtain⟨z,y,xs,r,o,es,ep,h1,h2,h3,h4,h5⟩:=(show aS_ P w H h a (.dT kvs) from nD_ ok e);refine⟨z,y,xs,r,o,es,ep,h1,h2,h3,h4,fun x hx=> ?_,h5⟩;have all:∀{l:List (List Key×V)}{m:List (List Key×Addr×Value)},KT H l m->∀x∈m,(tupleKind (a2_ P w)).is h x.1 x.2.1:=by
  intro l m q;induction q with
  |nil=>intro x hx;exact nomatch hx
  | @cons p q ps qs hq t ih=>
   intro x hx;rcases AO.mp hx with e|hx
   .subst e;exact f4_ ok (by rw [<-hq.1];exact hq.2.1)
   .exact ih x hx
 exact all r x hx
theorem so_ {kvs:List (List Key×V)} (ok:HOk P w H h) (e:H a=some (.dT kvs)):kvs.length<=sizeLine/\(a==sysModules)=false/\
  ∃xs,KT H kvs xs/\h.DictOfH (tupleKind (a2_ P w)) a xs:=kV_ ok (.inl e)
end
def k4_ (H:Hp) (a:Addr) (y:V) (r:Option V):Prop:=
 (∃kvs k,Rd H a (.dK kvs)/\y=kV k/\r=iD_ kvs k)\/∃kvs k b,Rd H a (.dT kvs)/\y= .ref b/\H b=some (.tup (k.map kV))/\r=iD_ kvs k
def q0_ (H:Hp) (a:Addr) (y v:V) (H':Hp):Prop:=
 (∃kvs k,H a=some (.dK kvs)/\y=kV k/\kvs.length<sizeLine/\H'=upd H a (.dK (hG_ kvs k v)))\/
 ∃kvs k b,H a=some (.dT kvs)/\y= .ref b/\H b=some (.tup (k.map kV))/\kvs.length<sizeLine/\H'=upd H a (.dT (hG_ kvs k v))
theorem k4_.t {H:Hp}{a b:Addr}{kvs:List (List Key×V)}{k:List Key} (e:H a=some (.dT kvs)) (eb:H b=some (.tup (k.map kV))):k4_ H a (.ref b) (iD_ kvs k):= .inr ⟨kvs,k,b, .inl e,rfl,eb,rfl⟩
theorem q0_.t {H:Hp}{a b:Addr}{kvs:List (List Key×V)}{k:List Key}{v:V} (e:H a=some (.dT kvs)) (eb:H b=some (.tup (k.map kV))) (hl:kvs.length<sizeLine):
  q0_ H a (.ref b) v (upd H a (.dT (hG_ kvs k v))):= .inr ⟨kvs,k,b,e,rfl,eb,hl,rfl⟩
section
variable {X:Cx}{pins:List (Addr×Obj)}{σ:St}{H:Hp}{s:Shared}{a:Addr}{y v:V}{u r:Value}{o:Option V}{A:Around}{E:Value->Shared->Prop}
theorem Inv.big (I:Inv X pins σ H s):sysModules<s.heap.objs.size:=by
 have h:mainGlobals<s.heap.objs.size:=(I.mod.glob.keeps I.bk).lt;exact Nat.lt_trans (by decide) h
theorem m0_ {Q:Value->Shared->Prop} (hu:A.units+1<cLine) (I:Inv X pins σ H s) (g:k4_ H a y (some v)) (ry:a3_ y u) (h:∀w' s',Inv X pins σ H s'->a3_ v w'->Q w' s'):
  wpAny (model X.prog X.w) A (getItem (.ref a) u) Q E s:=by
 rcases g with⟨kvs,k,e,ey,l⟩|⟨kvs,k,b,e,ey,eb,l⟩
 .subst ey;obtain⟨z,hd,vs,rel,dd⟩:=kW_ I.hok e;obtain⟨w',hw,rw'⟩:=k3_.some_of (v:=v) (o:=valueAt vs k) (by rw [l];exact rel.val k);exact wpAny_getItem_of (mx_ ry) dd.mapOf hw (h w' _ (I.tok _) rw')
 .subst ey;cases (show u=Value.ref b from ry);obtain⟨z,hd,xs,rel,dd⟩:=kV_ I.hok e;obtain⟨w',hw,rw'⟩:=k3_.some_of (v:=v) (o:=(atKey xs k).map (·.2)) (by rw [l];exact rel.val k);obtain⟨p,hp,hp2⟩:=A3.mp hw;refine wpAny_getItem_heap (DB hu) (f4_ I.hok eb) dd hp ?_;rw [hp2];exact h w' _ (I.tok _) rw'
theorem qC_ {Q:Value->Shared->Prop} (hu:A.units+1<cLine) (I:Inv X pins σ H s) (g:k4_ H a y o) (ry:a3_ y u) (h:∀s',Inv X pins σ H s'->Q (.bool (!o.isSome)) s'):
  wpAny (model X.prog X.w) A (compareOp .NotIn u (.ref a)) Q E s:=by
 rcases g with⟨kvs,k,e,ey,l⟩|⟨kvs,k,b,e,ey,eb,l⟩
 .subst ey;obtain⟨z,hd,vs,rel,dd⟩:=kW_ I.hok e;refine wpAny_notIn_of (mx_ ry) hd dd.mapOf ?_;rw [<-(rel.val k).isSome_eq,<-l];exact h _ (I.tok _)
 .subst ey;cases (show u=Value.ref b from ry);obtain⟨z,hd,xs,rel,dd⟩:=kV_ I.hok e;refine wpAny_notIn_heap (DB hu) (f4_ I.hok eb) hd dd ?_;have q:=(rel.val k).isSome_eq;rw [Option.isSome_map] at q;rw [<-q,<-l];exact h _ (I.tok _)
theorem hh_ {h':Heap}{t':Nat}{ob:HO} (I:Inv X pins σ H s) (mu:Mut (H a)) (hs:Heap.SameBut a s.heap h') (he:∃q,h'.get? a=some q) (new:aS_ X.prog X.w (upd H a ob) h' a ob):
  Inv X pins σ (upd H a ob) {s with heap:=h',toks:=t'}:=
 I.write (x:=a) (e:=a) mu (.inl rfl) (fun b q hb z=>(hs.2 b hb).trans z) he new
theorem sp_ {P:Program}{w:World}{H':Hp}{h':Heap}{kvs:List (Key×V)}{vs:List (Key×Value)} (z:kvs.length<=sizeLine) (hd:(a==sysModules)=false) (rel:KV kvs vs) (dd:h'.DictOf (a2_ P w) a vs):
  aS_ P w H' h' a (.dK kvs):=⟨z,hd,vs,rel,dd⟩
theorem mZ_ {H':Hp}{Q:Unit->Shared->Prop} (hu:A.units+1<cLine) (I:Inv X pins σ H s) (g:q0_ H a y v H') (ry:a3_ y u) (rv:a3_ v r) (h:∀s',Inv X pins σ H' s'->Q () s'):
  wpAny (model X.prog X.w) A (setItem (.ref a) u r) Q E s:=by
 rcases g with⟨kvs,k,e,ey,l,eH⟩|⟨kvs,k,b,e,ey,eb,l,eH⟩
 .subst ey eH;obtain⟨z,hd,vs,rel,dd⟩:=tM_ I.hok e;have hz:vs.length<=sizeLine:=by rw [<-rel.length];exact z
  have hl:(hG_ kvs k v).length<=sizeLine:=by have:=fg_ kvs k v;lia
  refine wpAny_setItem_pairs (hsz:=hz) (mx_ ry) dd fun h' dd' hs=>h _ ?_;have he:∃q,h'.get? a=some q:=let ⟨q,_,_,hq,_⟩:=dd';⟨q,hq⟩;exact hh_ I (by rw [e];exact True.intro) hs he (sp_ hl hd (rel.put k rv) dd')
 .subst ey eH;cases (show u=Value.ref b from ry);obtain⟨z,hd,xs,rel,dd⟩:=so_ I.hok e;have hz:xs.length<=sizeLine:=by rw [<-Bt rel];exact z
  have hl:(hG_ kvs k v).length<=sizeLine:=by have:=fg_ kvs k v;lia
  refine wpAny_setItem_heap (hsz:=hz) (DB hu) (f4_ I.hok eb) dd fun h' dd' hs=>h _ ?_;obtain⟨q,es,ep,hq,h2,h3,h4,_,h5⟩:=dd';refine hh_ I (by rw [e];exact True.intro) hs ⟨q,hq⟩ ⟨hl,hd,_,(rel.put k eb rv).keeps fun c ys ec=> ?_,q,es,ep,hq,h2,h3,h4,h5⟩;rw [ar_ (nT_ ec e (fun z=>nomatch z))];exact ec
end
section
variable {X:Cx}{pins:List (Addr×Obj)}{σ:St}{H:Hp}{s:Shared}{a:Addr}{kvs:List (Key×V)}{k:Key}{u:Value}{A:Around}{E:Value->Shared->Prop}
end
def tV_ (i:Expr):Prop:=∀ov iv,subscripted i false ov iv=operate [ov,iv] (getItem ov iv)
theorem lo_ {prog:Program}{w:World}{A:Around}{E:Value->Shared->Prop}{s:Shared}{env:Env}{value slice:Expr}{pos:Pos}{T id:String}{Q:Value->Shared->Prop}
  (hl:typeLookup (.type T) "__getitem__"=pure (some (.builtin id))) (hs:tV_ slice)
  (h:wpAny (model prog w) A (eval value env) (fun o s₁=>wpAny (model prog w) A (eval slice env) (fun i s₂=>s₂.TypeIs o T/\wpAny (model prog w) A (getItem o i) Q E s₂) E s₁) E s):
  wpAny (model prog w) A (eval (.Subscript value slice pos) env) Q E s:=by
 refine Subscript_ (BJ h (fun o s₁ h₁=>BJ h₁ (fun i s₂ h₂=> ?_) fun _ _ x=>x) fun _ _ x=>x);obtain⟨hT,h₂⟩:=h₂;unfold subscriptTail;refine A0 ?_;rw [getitemInPython_of_ne hT.not_modules];refine A0 (wpAny_specialOf hT hl ?_);have fin:wpAny (model prog w) A (subscripted slice false o i) (fun r s₃=>wpAny (model prog w) A (letTemporaryGo value o r>>=fun _=>pure r) Q E s₃) E s₂:=by
  rw [hs o i];exact wpAny_operating (BJ h₂ (fun r s₃ h₃=>A0 (wpAny_letTemporaryGo (A4 h₃))) fun _ _ x=>x)
 first
  |exact A4 (A0 fin)
  |exact A0 (A4 (A0 fin))
  |exact A0 fin
theorem jl_ {X:Cx}{pins:List (Addr×Obj)}{σ:St}{H:Hp}{s:Shared}{a:Addr}{y:V}{o:Option V} (I:Inv X pins σ H s) (g:k4_ H a y o):s.TypeIs (.ref a) "dict":=by
 rcases g with⟨kvs,k,e,_,_⟩|⟨kvs,k,b,e,_,_,_⟩
 .obtain⟨_,_,vs,_,dd⟩:=kW_ I.hok e;exact dd.typeIs
 .obtain⟨_,_,xs,_,dd⟩:=kV_ I.hok e;exact dd.typeIs
def s0_ (td ty:TE):TE:=fun σ H Q=>td σ H fun x H1=>ty σ H1 fun y H2=>∃a v,x= .ref a/\k4_ H2 a y (some v)/\Q v H2
def pv_ (ty td:TE):TE:=fun σ H Q=>ty σ H fun y H1=>td σ H1 fun x H2=>∃a o,x= .ref a/\k4_ H2 a y o/\Q (.bl (!o.isSome)) H2
def tr_ (td ty tv:TE):TS:=fun D σ H=>tv σ H fun v H1=>td σ H1 fun x H2=>ty σ H2 fun y H3=>∃a H4,x= .ref a/\q0_ H3 a y v H4/\D.nx σ H4
section
variable {X:Cx}{o i e value:Expr}{pos pos' tpos:Pos}{td ty tv:TE}
theorem lU_ (hu:X.A.units+1<cLine) (ho:PE X o td) (hi:PE X i ty) (hs:tV_ i):PE X (.Subscript o i pos) (s0_ td ty):=by
 intro pins s σ H Q I h;refine lo_ PySem.F.slot_dict_getitem.lookup hs (thn (ho pins s σ H _ I h) fun u s1 ⟨x,H1,I1,rx,q1⟩=>thn (hi pins s1 σ H1 _ I1 q1) fun iv s2 ⟨y,H2,I2,ry,a,v,ex,g,q2⟩=> ?_);subst ex;obtain rfl:u=Value.ref a:=rx;exact⟨jl_ I2 g,m0_ hu I2 g ry fun w' s3 I3 rw'=>⟨v,H2,I3,rw',q2⟩⟩
theorem lV_ (hu:X.A.units+1<cLine) (hi:PE X i ty) (ho:PE X o td):PC X .NotIn i o (pv_ ty td):=by
 intro pins s σ H Q I h;refine thn (hi pins s σ H _ I h) fun iv s1 ⟨y,H1,I1,ry,q1⟩=>thn (ho pins s1 σ H1 _ I1 q1) fun u s2 ⟨x,H2,I2,rx,a,ov,ex,g,q2⟩=> ?_;subst ex;obtain rfl:u=Value.ref a:=rx;exact qC_ hu I2 g ry fun s3 I3=>⟨.bl (!ov.isSome),H2,I3,rfl,q2⟩
theorem lM_ (hu:X.A.units+1<cLine) (ho:PE X o td) (hi:PE X i ty) (hv:PE X value tv) (hs:swapsWith value (some (.Subscript o i pos')) pos.line X.env=pure false):
  PS X (.Assign [.Subscript o i pos'] value pos) (tr_ td ty tv):=by
 intro pins s σ H D I h;refine wpAny_Assign_Subscript (thn (hv pins s σ H _ I h) fun r s1 ⟨v,H1,I1,rv,q1⟩=>thn (ho pins s1 σ H1 _ I1 q1) fun u s2 ⟨x,H2,I2,rx,q2⟩=>thn (hi pins s2 σ H2 _ I2 q2) fun iv s3 ⟨y,H3,I3,ry,a,H4,ex,g,q3⟩=> ?_) hs;subst ex;obtain rfl:u=Value.ref a:=rx;exact mZ_ hu I3 g ry rv fun s4 I4=>⟨σ,H4,I4,q3⟩
end
theorem ko_ {P:Program}{w:World}{H:Hp} (h:Heap) (hb:sysModules<h.objs.size):aS_ P w H (h.push {cls:= .type "dict",data:= .dict #[]}) h.objs.size (.dT []):=
 ⟨AS _,beq_eq_false_iff_ne.mpr (Ne.symm (AK hb)),[], .nil,_, #[],0,AI _ rfl,⟨rfl,rfl,rfl⟩,rfl,rfl,List.nodup_nil⟩
def rc_:TE:=fun _ H Q=>∀p,H p=none->Q (.ref p) (upd H p (.dT []))
section
variable {X:Cx}{pos:Pos}
theorem jP_:PE X (.Dict [] [] pos) rc_:=fun pins s σ H Q I h=>
 wpAny_Dict_empty ⟨.ref s.heap.objs.size,_,I.laid (a:=s.heap.objs.size) (o:= .dT []) (t':=s.toks) (fun _ _ q=>AB _ q) (A7 _) (ko_ s.heap I.big),rfl,h _ (I.hok.fresh (A7 _))⟩
end
structure M2 (X:Cx) (o:Expr) (m:Str) (apos:Pos) (e f:Expr) (cpos:Pos):Prop where
 base:attributeBase o m X.env (eval o X.env)=eval o X.env
 few:((backTo cpos (starEach [e,f] X.env)).all (fun x=> !x.1)&&(backToKw cpos (keywordEach [] X.env)).all (fun x=>x.1.isSome)
  &&decide (([e,f]:List Expr).length+([]:List Keyword).length+(if([]:List Keyword).isEmpty then 0 else 1)<30))=true
 line:(apos.endLine==cpos.line)=true
 trees:backTo cpos (starEach [e,f] X.env)=[(false,eval e X.env),(false,eval f X.env)]
def IsD (H:Hp) (a:Addr):Prop:=(∃kvs,Rd H a (.dK kvs))\/∃kvs,Rd H a (.dT kvs)
theorem oZ_ {X:Cx}{pins:List (Addr×Obj)}{σ:St}{H:Hp}{s:Shared}{a:Addr} (I:Inv X pins σ H s) (d:IsD H a):
  s.TypeIs (.ref a) "dict"/\(∀b,Value.ref a= .ref b->∃ob,s.heap.get? b=some ob/\ob.dict=none)/\(a==sysModules)=false:=by
 rcases d with⟨kvs,e⟩|⟨kvs,e⟩
 .obtain⟨_,hd,vs,_,dd⟩:=kW_ I.hok e;refine⟨dd.typeIs,fun b q=> ?_,hd⟩;cases q;obtain⟨ob,_,_,h1,h2,_⟩:=dd;exact⟨ob,h1,h2.2.1⟩
 .obtain⟨_,hd,xs,_,dd⟩:=kV_ I.hok e;refine⟨dd.typeIs,fun b q=> ?_,hd⟩;cases q;obtain⟨ob,_,_,h1,h2,_⟩:=dd;exact⟨ob,h1,h2.2.1⟩
section
variable {X:Cx}{pins:List (Addr×Obj)}{σ:St}{H:Hp}{s:Shared}{a:Addr}{y d:V}{u r:Value}{o:Option V}{A:Around}{E:Value->Shared->Prop}
theorem sq_ {Q:Value->Shared->Prop} (hu:A.units+1<cLine) (I:Inv X pins σ H s) (g:k4_ H a y o) (ry:a3_ y u) (rd:a3_ d r) (h:∀w' s',Inv X pins σ H s'->a3_ (o.getD d) w'->Q w' s'):
  wpAny (model X.prog X.w) A (call (.builtin "dict.get") [.ref a,u,r]) Q E s:=by
 rcases g with⟨kvs,k,e,ey,l⟩|⟨kvs,k,b,e,ey,eb,l⟩
 .subst ey;obtain⟨z,hd,vs,rel,dd⟩:=kW_ I.hok e;refine call_meetsIn PySem.F.slot_dict_get dd.typeIs PySem.F.entry_dict_get (PySem.F.args_dict_get_3 _ _ _) (meets_dict_get_default (a2_ X.prog X.w) a (mx_ ry) hd r) ⟨_,dd.mapOf,h _ _ (I.tok _) ?_⟩;rw [l];exact(rel.val k).getD rd
 .subst ey;cases (show u=Value.ref b from ry);obtain⟨z,hd,xs,rel,dd⟩:=kV_ I.hok e;refine call_meetsIn PySem.F.slot_dict_get dd.typeIs PySem.F.entry_dict_get (PySem.F.args_dict_get_3 _ _ _) (meetsH_dict_get_default (tupleKind (a2_ X.prog X.w)) a b hd r) ⟨DB hu,k,xs,f4_ I.hok eb,dd,h _ _ (I.tok _) ?_⟩;rw [l];exact(rel.val k).getD rd
end
def re_ (td ty tx:TE):TE:=fun σ H Q=>td σ H fun x H1=>∃a,x= .ref a/\IsD H1 a/\ty σ H1 fun y H2=>tx σ H2 fun z H3=>∃o,k4_ H3 a y o/\Q (o.getD z) H3
section
variable {X:Cx}{o e f:Expr}{apos cpos:Pos}{td ty tx:TE}
theorem nK_ (hu:X.A.units+1<cLine) (ho:PE X o td) (he:PE X e ty) (hf:PE X f tx) (m:M2 X o "get" apos e f cpos):PE X (.Call (.Attribute o "get" apos) [e,f] [] cpos) (re_ td ty tx):=by
 intro pins s σ H Q I h;refine wpAny_Call_method m.base m.few m.line PySem.F.plainAttrs_dict PySem.F.slot_dict_get PySem.F.type_dict_get (thn (ho pins s σ H _ I h) fun u s1 ⟨x,H1,I1,rx,a,ex,d,q1⟩=> ?_);subst ex;obtain rfl:u=Value.ref a:=rx;obtain⟨t1,t2,_⟩:=oZ_ I1 d;refine⟨t1,t2, ?_⟩;rw [m.trees];refine Cq rfl (Calls.evalArgs_plain (Ce (thn (he pins s1 σ H1 _ I1 q1) fun iv s2 ⟨y,H2,I2,ry,q2⟩=>
  Ce (thn (hf pins s2 σ H2 _ I2 q2) fun fv s3 ⟨z,H3,I3,rz,ov,g,q3⟩=>Calls.spliced_nil ?_))))
 exact sq_ hu I3 g ry rz fun w' s4 I4 rw'=>⟨_,H3,I4,rw',q3⟩
end
section
variable {X:Cx}{pins:List (Addr×Obj)}{σ:St}{H:Hp}{s:Shared}{a:Addr}{kvs:List (Key×V)}{A:Around}{E:Value->Shared->Prop}
end
section
variable {X:Cx}{pins:List (Addr×Obj)}{σ:St}{H:Hp}{s:Shared}{a:Addr}{y:V}{u:Value}{A:Around}{E:Value->Shared->Prop}
end
end L2
namespace L2
open PySem PySem.Spec PyProof.Rows
section
variable {X:Cx}{pos:Pos}{a b c d:Expr}{ta tb tc td:TE}
def CB (m:Nat) (i j:Int):Prop:=i.natAbs<2^m/\j.natAbs<2^m
theorem dm_ {m:Nat} (hm:m+m<=134217728):OpR X (binaryOp .Mult) (rI (CB m) fun i j=> .int (i*j)):=
 opI fun _ _ _ _ _ _ _ hc q=>mul_int q (IntMulOk.of_le (intBits_le_iff.mpr hc.1) (intBits_le_iff.mpr hc.2) hm)
theorem eL_:cu_ X (.builtin "isinstance") (fun xs H Q=>∃x n t b,xs=[x, .ty n]/\TyOf X.K H x t/\W.kitOne X.K t (.type n)=some b/\Q (.bl b) H):=by
 intro pins s σ H xs us Q I r h;obtain⟨x,n,t,b,rfl,ty,e,q⟩:=h;obtain⟨u,w',rfl,ru,rw'⟩:=pn_ r;obtain rfl:w'=Value.type n:=rw';exact mB_ I ru ty e fun tk=>⟨.bl b,H,I.tok tk,rfl,q⟩
end
section
open PySem.W
variable {K:Frag}
theorem g4_ {t:String}:kitOne K (.type t) (.type t)=some true:=by
 unfold kitOne;rw [A8 (by simp)]
theorem f3_ {t c:String}{b:Bool} (h1:(Value.type t==Value.type c)=false) (h2:kitMeta c=true) (h3:(fastBuiltinMro t).map (·.contains (Value.type c))=some b):kitOne K (.type t) (.type c)=some b:=by
 unfold kitOne;rw [A6 (by rw [h1];decide)];unfold kitCls;show(if kitMeta c=true then subIn K (.type t) (.type c) else none)=some b;rw [A8 h2];exact h3
theorem eq_:kitOne K (.type "int") (.type "bool")=some false:=f3_ (by ac_nf) (by ac_nf) (by ac_nf)
theorem ia_:kitOne K (.type "bool") (.type "int")=some true:=f3_ (by ac_nf) (by ac_nf) (by ac_nf)
end
theorem es_ {c A B:Prop} [Decidable c] (h1:c->A) (h2:¬c->B):if decide c=true then A else B:=by
 by_cases h:c
 .rw [A8 (Ak h)];exact h1 h
 .rw [A6 (by rw [AX h];decide)];exact h2 h
theorem tE_ {c A B:Prop} [Decidable c] (h1:¬c->A) (h2:c->B):if(!decide c)=true then A else B:=by
 by_cases h:c
 .rw [A6 (by rw [Ak h];decide)];exact h2 h
 .rw [A8 (by rw [AX h];rfl)];exact h1 h
theorem mA_ {A B:Prop}{i j:Int} (h1:i=j->A) (h2:i≠j->B):if decide (V.int i=V.int j)=true then A else B:=es_ (fun h=>h1 (V.int.inj h)) fun h=>h2 fun e=>h (BR V.int e)
theorem tD_ {A B:Prop}{i j:Int} (h1:i≠j->A) (h2:i=j->B):if(!decide (V.int i=V.int j))=true then A else B:=tE_ (fun h=>h1 fun e=>h (BR V.int e)) fun h=>h2 (V.int.inj h)
theorem al_.put {H H1:Hp}{l:Addr}{o:HO} (s:al_ H H1) (n:H l=none):al_ H (upd H1 l o):=fun b u e=>by
 rw [ar_ (av_ e n)];exact s b u e
theorem al_.new {H:Hp}{l:Addr}{o:HO} (n:H l=none):al_ H (upd H l o):=(al_.refl H).put n
end L2
namespace L2
open PySem PySem.Spec PyProof.Rows
theorem m1_ {prog:Program}{w:World}{A:Around}{R:Result->Shared->Prop}{s:Shared}{elt target iter:Expr}{ifs:List Expr}{scope:Scope}{pos:Pos}{it acc:Value}{env:Env} (I:Nat->Shared->Prop)
  (turn:∀n s,I n s->wpAny (model prog w) A (pyNext it) (fun r s₁=>match r with
   |none=>R (.ok .next) s₁
   |some v=>wpAny (model prog w) A (letOwnedTupleGo target it v) (fun _ s₁'=>wpAny (model prog w) A (assign target env v) (fun _ s₂=>
     wpAny (model prog w) A (forIn ifs true fun c r=>if r=true then do let ok<-isTrue c env (eval c env);pure (ForInStep.yield ok) else pure (ForInStep.yield r)) (fun ok s₃=>
      if ok=true then wpAny (model prog w) A (eval elt env) (fun x s₄=>
       wpAny (model prog w) A (call (.builtin "list.append") [acc,x]) (fun _ s₅=>∃m,m<n/\I m s₅) (notedBy (model prog w) A env fun e s'=>R (.error e) s') s₄) (notedBy (model prog w) A env fun e s'=>R (.error e) s') s₃
      else∃m,m<n/\I m s₃) (notedBy (model prog w) A env fun e s'=>R (.error e) s') s₂) (notedBy (model prog w) A env fun e s'=>R (.error e) s') s₁') (notedBy (model prog w) A env fun e s'=>R (.error e) s') s₁) (notedBy (model prog w) A env fun e s'=>R (.error e) s') s)
  (n:Nat) (h:I n s):
  codeAny (model prog w) A (.compLoop (.ListComp elt [⟨target,iter,ifs,0⟩] scope pos) 0 it acc env) R s:=by
 refine codeAny_loop rfl I (fun n s hI=> ?_) n h;show wpAny _ A ((compTurn (.ListComp elt [⟨target,iter,ifs,0⟩] scope pos) 0 it acc env).onRaise (fun x=>do noteFrame x env;theTreesLotGoes x)) _ _ s;refine wpAny_noted ?_;rw [compTurn_list];refine A0 (wpAny_standAt (A0 (BJ (turn n s hI) (fun r s₁ h₁=> ?_) fun _ _ h'=>h')));cases r with
 |none=>exact A4 h₁
 |some v=>
  refine A0 (BJ h₁ (fun _ s₁' h₁'=>A0 (BJ h₁' (fun _ s₂ h₂=>A0 (BJ h₂ (fun ok s₃ h₃=> ?_) fun _ _ h'=>h')) fun _ _ h'=>h')) fun _ _ h'=>h');cases ok with
  |false=>exact A4 ⟨rfl,h₃⟩
  |true=>
   exact A0 (A0 (BJ h₃ (fun x s₄ h₄=>A0 (BJ h₄ (fun _ s₅ h₅=>A4 (A4 ⟨rfl,h₅⟩)) fun _ _ h'=>h')) fun _ _ h'=>h'))
def jn_ (env:Env):List (Str×NameKind)->List (Str×Addr)->List (Str×Addr)
 |[],cs=>cs
 |(n,k)::r,cs=>jn_ env r (if k= .free then(n,(env.cells.lookup n).getD 0)::cs else cs)
theorem hi_ {env:Env}:∀(ns:List (Str×NameKind)) (cs:List (Str×Addr)),(∀y∈ns,y.2= .free->∃c,env.cells.lookup y.1=some c)->
  (forIn ns cs fun(x:Str×NameKind) (r:List (Str×Addr))=>(if(x.2== .free)=true then do let c<-cellOf env x.1;pure (ForInStep.yield ((x.1,c)::r)) else pure (ForInStep.yield r):Sem (ForInStep (List (Str×Addr)))))=(pure (jn_ env ns cs):Sem _)
 |[],cs,_=>rfl
 |(n,k)::r,cs,h=>by
  have hr:=fun y hy=>h y (Au _ hy);by_cases hk:k= .free
  .obtain⟨c,hc⟩:=h (n,k) B2 hk;subst hk;rw [List.forIn_cons];have e:cellOf env n=pure c:=by unfold cellOf;rw [hc]
   simp only [beq_self_eq_true,C9,e,pure_bind];rw [hi_ r _ hr];show _=pure (jn_ env r (if NameKind.free=NameKind.free then(n,(env.cells.lookup n).getD 0)::cs else cs));rw [A8 rfl,show env.cells.lookup n=some c from hc];rfl
  .have hb:(k==NameKind.free)=false:=by simpa using hk
   rw [List.forIn_cons];simp only [hb,AM,Av,pure_bind];rw [hi_ r _ hr];show _=pure (jn_ env r (if k=NameKind.free then(n,(env.cells.lookup n).getD 0)::cs else cs));rw [A6 hk]
theorem kY_ {env:Env}{scope:Scope} (h:∀y∈scope.names,y.2= .free->∃c,env.cells.lookup y.1=some c):closureFor scope env=pure (jn_ env scope.names []):=by
 unfold closureFor;have e:=hi_ scope.names [] h;simp only [bind_pure] at e⊢;exact e
theorem fx_ {env:Env}{x:Str}{c:Addr}:∀(ns:List (Str×NameKind)) (cs:List (Str×Addr)),(∀y∈ns,y.2= .free->∃c,env.cells.lookup y.1=some c)->(∀x c,cs.lookup x=some c->env.cells.lookup x=some c)->
  (jn_ env ns cs).lookup x=some c->env.cells.lookup x=some c
 |[],cs,_,hc,e=>hc x c e
 |(n,k)::r,cs,h,hc,e=>by
  unfold jn_ at e;refine fx_ r _ (fun y hy=>h y (Au _ hy)) (fun x' c' e'=> ?_) e;by_cases hk:k= .free
  .rw [A8 hk] at e';obtain⟨c0,h0⟩:=h (n,k) B2 hk;rw [h0] at e';rw [Bs] at e';by_cases q:x'==n
   .rw [q] at e';cases e';rw [D3.mp q];exact h0
   .have q':(x'==n)=false:=by simpa using q
    rw [q'] at e';exact hc x' c' e'
  .rw [A6 hk] at e';exact hc x' c' e'
theorem im_ {env:Env}{x:Str}:∀(ns:List (Str×NameKind)) (cs:List (Str×Addr)),(∃c,cs.lookup x=some c)->∃c,(jn_ env ns cs).lookup x=some c
 |[],cs,h=>h
 |(n,k)::r,cs,h=>by
  unfold jn_;refine im_ r _ ?_;by_cases hk:k= .free
  .rw [A8 hk,Bs];by_cases q:x==n
   .rw [q];exact⟨_,rfl⟩
   .have q':(x==n)=false:=by simpa using q
    rw [q'];exact h
  .rw [A6 hk];exact h
theorem hj_ {env:Env}{x:Str}:∀(ns:List (Str×NameKind)) (cs:List (Str×Addr)),(x,NameKind.free)∈ns->∃c,(jn_ env ns cs).lookup x=some c
 |(n,k)::r,cs,h=>by
  unfold jn_;rcases AO.mp h with e|e
  .cases e;rw [A8 rfl];exact im_ r _ ⟨_,by rw [Bs,beq_self_eq_true]⟩
  .exact hj_ r _ e
def Cx.comp (X:Cx) (scope:Scope) (C:Addr) (N:List Str) (s₀:Shared) (H₀:Hp) (ex:List Addr) (E:Value->Shared->Prop):Cx where
 prog:=X.prog
 w:=X.w
 K:=X.K
 mg:=X.mg
 base:=X.base
 A:=X.A
 N:=N
 s₀:=s₀
 H₀:=H₀
 env:=compEnvC scope (jn_ X.env scope.names []) C X.env
 outer:=X.stack
 stack:=X.stack
 ex:=ex
 fn:=fun _=>false
 calm:=X.calm
 pn:=[]
 xe:=E
def qT_ (X:Cx) (ifs:List Expr) (t:TT):Prop:=
 ∀(pins:List (Addr×Obj)) (s:Shared) (σ:St) (H:Hp) (Q:Bool->Hp->Prop),Inv X pins σ H s->t σ H Q->
  wpAny (model X.prog X.w) X.A (forIn ifs true fun c r=>if r=true then do let ok<-isTrue c X.env (eval c X.env);pure (ForInStep.yield ok) else pure (ForInStep.yield r)) (TP X pins σ Q) X.xe s
def q8_:TT:=fun _ H Q=>Q true H
theorem be_ {X:Cx}:qT_ X [] q8_:=fun _ _ _ H _ I h=>wpAny_tests_nil ⟨H,I,h⟩
theorem dC_ {X:Cx}{c:Expr}{t:TT} (h:PT X c t):qT_ X [c] t:=fun pins s σ H Q I q=>wpAny_tests_one (h pins s σ H Q I q)
def m3_ (own:Nat) (js:List Nat) (σ:St):St:=List.replicate own none++js.map fun j=>(σ[j]?).getD none
def ov_ (J:It) (own:Nat) (js:List Nat) (g:TG) (ti:TT) (te:TE) (σ:St) (H1:Hp) (acc:Addr) (Q:VK):Prop:=
 ∃Wq:Nat->Nat->Hp->Prop,(∃m,Wq 0 m (upd H1 acc (.lst [])))/\∀i m H2,Wq i m H2->
  (J.stop i H2/\Q (.ref acc) H2)\/(J.go i H2/\∀x H3,J.yld i H2 x H3->g x (m3_ own js σ) H3 fun σ4 H4=>ti σ4 H4 fun b H5=>
   if b=true then te σ4 H5 fun y H6=>eZ_ (.ref acc) [y] H6 fun _ H7=>∃m',m'<m/\Wq (i+1) m' H7 else∃m',m'<m/\Wq (i+1) m' H5)
def ln_ (own:Nat) (js:List Nat) (wi:TI) (g:TG) (ti:TT) (te:TE):TE:=fun σ H Q=>wi σ H fun J H1=>∀acc,H1 acc=none->ov_ J own js g ti te σ H1 acc Q
end L2
namespace L2
open PySem PySem.Spec PyProof.Rows
theorem pr_ {α:Type}{t:Sem α}{Q Q':α->Shared->Prop}{M:Model}{A:Around}{E:Value->Shared->Prop}{s:Shared} (h:wpAny M A t Q (fun _ _=>False) s) (hQ:∀a s,Q a s->Q' a s):wpAny M A t Q' E s:=BJ h hQ fun _ _ f=>f.elim
theorem cJ_ {scope:Scope}{env:Env}{x:Str}:∀{names:List (Str×NameKind)},((names.map fun(n,k)=>if(k==NameKind.free&&env.scope.kind== .function&&env.kindOf n==some .cell) then(n,NameKind.cell) else(n,k)).lookup x=some .cell\/
  (names.map fun(n,k)=>if(k==NameKind.free&&env.scope.kind== .function&&env.kindOf n==some .cell) then(n,NameKind.cell) else(n,k)).lookup x=some .free)->(∀y∈names,y.2≠ .cell)->(x,NameKind.free)∈names
 |[],h,_=>by simp at h
 |(n,k)::r,h,hc=>by
  have hr:∀y∈r,y.2≠ .cell:=fun y hy=>hc y (Au _ hy);have h0:k≠ .cell:=hc (n,k) B2;rw [AT,Bs] at h;by_cases hb:(k==NameKind.free&&env.scope.kind== .function&&env.kindOf n==some .cell)=true
  .rw [A8 hb] at h;dsimp only at h;by_cases q:x==n
   .have hk:k= .free:=by simp only [A9,D3] at hb;exact hb.1.1
    rw [D3.mp q,hk];exact B2
   .have q':(x==n)=false:=by simpa using q
    rw [q'] at h;exact Au _ (cJ_ (scope:=scope) h hr)
  .rw [A6 hb] at h;dsimp only at h;by_cases q:x==n
   .rw [q] at h;dsimp only at h;have hk:k= .free:=by
     rcases h with h|h
     .exact absurd (An h) h0
     .exact An h
    rw [D3.mp q,hk];exact B2
   .have q':(x==n)=false:=by simpa using q
    rw [q'] at h;exact Au _ (cJ_ (scope:=scope) h hr)
def pk_ (own:Nat) (g:TG):Prop:=∀v σ H (Q:St->Hp->Prop),g v σ H Q->g v σ H fun σ' H'=>Q σ' H'/\σ'.length=σ.length/\∀i,own<=i->σ'[i]? =σ[i]?
theorem aI_ {i own:Nat} (h:i<own):pk_ own (bF_ i):=fun v σ H Q q=>⟨q,BF ..,fun j hj=>by rw [BO (by lia)]⟩
theorem jo_ (own:Nat) (js:List Nat) (σ:St):(m3_ own js σ).length=own+js.length:=by simp [m3_]
theorem in_ {own:Nat}{js:List Nat}{σ:St}{i:Nat}{v:V} (h:(m3_ own js σ)[i]? =some (some v)):own<=i/\∃j,js[i-own]? =some j/\σ[j]? =some (some v):=by
 unfold m3_ at h;by_cases hi:i<own
 .rw [List.getElem?_append_left (by simpa using hi),List.getElem?_replicate,A8 hi] at h;cases h
 .rw [D5 (by simpa using hi),Af,A5] at h;refine⟨by lia, ?_⟩;cases e:js[i-own]? with
  |none=>rw [e] at h;cases h
  |some j=>
   rw [e] at h;refine⟨j,rfl, ?_⟩;have h':(σ[j]?).getD none=some v:=An h;cases e2:σ[j]? with
   |none=>rw [e2] at h';cases h'
   |some o=>rw [e2] at h';exact BR some h'
theorem ik_ {X:Cx}{elt tg iter:Expr}{ifs:List Expr}{scope:Scope}{pos ps:Pos}{N:List Str}{own:Nat}{js:List Nat}{wi:TI}{g:TG}{ti:TT}{te:TE} (hc:X.calm=true)
  (hcell:∀y∈scope.names,y.2≠ .cell) (hkind:scope.kind= .function) (hnames:∀y∈scope.names,y.2= .local->scope.names.lookup y.1=some .local)
  (hfree:∀y∈scope.names,y.2= .free->X.env.kindOf y.1=some .cell\/X.env.kindOf y.1=some .free) (hlen:N.length=own+js.length)
  (hcap:∀(i j:Nat) (x:Str),js[i]? =some j->N[own+i]? =some x->X.N[j]? =some x/\(x,NameKind.free)∈scope.names/\(X.env.kindOf x=some .cell\/X.env.kindOf x=some .free)/\((relabel scope X.env).names.lookup x=some .cell\/(relabel scope X.env).names.lookup x=some .free))
  (hi:PI X tg iter wi) (hg:∀C s₀ H₀ ex,PG (X.comp scope C N s₀ H₀ ex fun _ _=>False) tg g) (ho:pk_ own g) (ht:∀C s₀ H₀ ex,qT_ (X.comp scope C N s₀ H₀ ex fun _ _=>False) ifs ti) (he:∀C s₀ H₀ ex,PE (X.comp scope C N s₀ H₀ ex fun _ _=>False) elt te)
  {pins:List (Addr×Obj)}{s:Shared}{σ:St}{H:Hp}{Q:VK}{use:Option (Value->Sem Unit)}{RQ:Value->Shared->Prop} (I:Inv X pins σ H s) (h:ln_ own js wi g ti te σ H Q)
  (fin:∀(acc C:Addr) (H3:Hp) (s4:Shared) (m:Str->Option Value),Inv X pins σ H3 s4->s4.heap.Ns C m->H3 C=none->C≠X.env.locals->C∉X.fs->X.s₀.heap.objs.size<=C->(∀x c,X.env.cells.lookup x=some c->c≠C)->(∀p∈X.pn++pins,p.1≠C)->
   Q (.ref acc) H3->compPost (model X.prog X.w) X.A X.xe use RQ (.ref acc) C (.ok .next) s4)
  (hs:∀x,foldedSetIterable iter X.env x=pure x:=by intro _;rfl):
  wpAny (model X.prog X.w) X.A (comprehension (.ListComp elt [⟨tg,iter,ifs,0⟩] scope pos) scope X.env ps (newList []) false (eval iter X.env) use) RQ X.xe s:=by
 have hcl:∀y∈scope.names,y.2= .free->∃c,X.env.cells.lookup y.1=some c:=fun y hy hf=>I.ok.has y.1 (hfree y hy hf);refine wpAny_comprehension_free (use:=use) rfl hs (kY_ hcl) hkind hnames (thn (hi pins s σ H _ I h) fun v s1 h1=>thn h1 fun itv s2 h2=> ?_);obtain⟨it,fp,tn,J,H2,e,I2,T,st2,f2,q⟩:=h2;subst e;have nf:H2 s2.heap.objs.size=none:=I2.hok.fresh (A7 _);obtain⟨Wq,⟨m0,w0⟩,turn⟩:=q s2.heap.objs.size nf;refine As (wpAny_newFunctionEnv hcell (by intro y hy;simp at hy) (fun h₁ hns₁ hsb₁=> ?_) hkind);dsimp only at hns₁ hsb₁⊢;generalize hP2:s2.heap.push {cls:= .type "list",dict:=none,data:= .seq ([]:List Value).toArray}=P2 at hns₁ hsb₁⊢;have hC:P2.objs.size=s2.heap.objs.size+1:=by rw [<-hP2,BP]
 have hC1:s2.heap.objs.size<P2.objs.size:=by rw [hC];exact Bb _
 have kp:∀b o,s2.heap.get? b=some o->h₁.get? b=some o:=fun b o e=>hsb₁.extBut b o (AK (Nat.lt_trans (AG e) hC1)) (AB _ (hP2▸AB _ e));have hacc:h₁.get? s2.heap.objs.size=some {cls:= .type "list",dict:=none,data:= .seq ([]:List Value).toArray}:=hsb₁.extBut _ _ (AK hC1) (AB _ (hP2▸AI _ rfl));have lkc:∀x c,(jn_ X.env scope.names []).lookup x=some c->X.env.cells.lookup x=some c:=fun x c e=>fx_ scope.names [] hcl (fun _ _ z=>by simp at z) e;have cne:∀x c,(jn_ X.env scope.names []).lookup x=some c->c<s2.heap.objs.size/\H2 c=none:=fun x c e=>by
  obtain⟨v,o,ho,hd⟩:=I2.cell x c (lkc x c e);exact⟨AG ho,I2.freeC x c (lkc x c e)⟩
 have fpl:∀b∈fp,b<s2.heap.objs.size:=fun b hb=>by
  obtain⟨o,e,_⟩:=T.obj 0 _ st2 b hb;exact AG e
 have hX:(X.comp scope P2.objs.size N s2 H2 fp fun _ _=>False).Ok:={
  mod:=I.ok.mod
  kind:=hkind
  glob:=I.ok.glob
  blt:=I.ok.blt
  above:=Ag hC1
  inj:=fun x y c a b=>I.ok.inj x y c (lkc x c a) (lkc y c b)
  has:=fun x hx=>hj_ scope.names [] (cJ_ (scope:=scope) (env:=X.env) hx hcell)
  cab:=fun x c a _=>by cases (show false=true from a)
  hd:=I.ok.hd
  frames:=I.ok.frames
  stk:= .inl rfl
  exf:=fun b hb=>⟨AK (Nat.lt_trans (fpl b hb) hC1),fun x c a=>(f2 b hb).2.2.2.2.1 x c (lkc x c a)⟩
  bs:=I2.bs
  bsz:=Ac I.ok.bsz I2.sz
  noex:=fun b o e hb=>by
   rcases(f2 b hb).2.2.2.1 with z|z
   .exact I.ok.noex b o e z
   .exact absurd (Ad (Ad (AG e) I.ok.bsz) z) (Bm _)
  exfs:=fun b hb z=>by
   rcases AO.mp (I2.stkSub b z) with z|z
   .exact(f2 b hb).2.1 z
   .exact(f2 b hb).2.2.1 z
  funs:=I2.stack
  frf:=I2.stkFree}
 have I3:∀tk,Inv (X.comp scope P2.objs.size N s2 H2 fp fun _ _=>False) [] (m3_ own js σ) (upd H2 s2.heap.objs.size (.lst [])) {s2 with heap:=h₁,toks:=tk}:=fun tk=>{
  ok:=hX
  os:=rfl
  bare:=I2.bare
  base:=Un.laid kp (A7 _) nf
  loc:=⟨_,hns₁,fun i x v a b c=>by
   obtain⟨hio,j,hj,hv⟩:=in_ b;obtain⟨h3,h4,h5,h6⟩:=hcap (i-own) j x hj (by rw [show own+(i-own)=i by lia];exact a);obtain⟨m,hn,hl⟩:=I2.loc;obtain⟨u,ru,lk⟩:=hl j x v h3 hv (.inr h5);refine⟨u,ru, .inr ⟨h6, ?_⟩⟩;rcases lk with⟨z,_⟩|⟨_,c0,z1,z2⟩
   .rcases h5 with h5|h5<;>(rw [h5] at z;cases z)
   .obtain⟨c1,hc1⟩:=hj_ (env:=X.env) scope.names [] h4;have:=lkc x c1 hc1;rw [z1] at this;cases this;obtain⟨o,ho,hd⟩:=z2;exact⟨c0,hc1,o,kp _ _ ho,hd⟩⟩
  cell:=fun x c a=>by
   obtain⟨v,o,ho,hd⟩:=I2.cell x c (lkc x c a);exact⟨v,o,kp _ _ ho,hd⟩
  free:=by
   show upd H2 _ _ P2.objs.size=none;rw [ar_ (Bu hC1)];exact I2.hok.fresh (Ag hC1)
  freeC:=fun x c a=>by
   rw [ar_ (AK (cne x c a).1)];exact(cne x c a).2
  pin:=fun p hp=>absurd (show p∈([]:List (Addr×Obj)) from hp) (by simp)
  hok:=I2.hok.laid kp (A7 _) ⟨AS _,[],0, .nil,hacc⟩
  len:=by rw [jo_];exact hlen.symm}
 have fr0:∀b∈fp,upd H2 s2.heap.objs.size (.lst []) b=none:=fun b hb=>by
  rw [ar_ (AK (fpl b hb))];exact(f2 b hb).1
 have st3:tn 0 h₁:=T.keep 0 _ _ st2 fun b _ o e=>kp b o e;have stat:∀{H':Hp},(∀b∈fp,H' b=none)->∀b∈fp,jt_ (X.comp scope P2.objs.size N s2 H2 fp fun _ _=>False) [] H' b:=fun hn b hb=>
  ⟨hn b hb,(hX.exf b hb).1,hX.exfs b hb, .inl hb,fun x c a=>(hX.exf b hb).2 x c a,fun p hp=>absurd (show p∈([]:List (Addr×Obj)) from hp) (by simp)⟩
 have loop:∀s₃:Shared,s₃={s2 with heap:=h₁,toks:=s2.toks+([]:List (Str×Value)).length}->
   codeAny (model X.prog X.w) X.A (.compLoop (.ListComp elt [⟨tg,iter,ifs,0⟩] scope pos) 0 (.ref it) (.ref s2.heap.objs.size) (compEnvC scope (jn_ X.env scope.names []) P2.objs.size X.env))
    (compPost (model X.prog X.w) X.A X.xe use RQ (.ref s2.heap.objs.size) P2.objs.size) s₃:=by
  rintro s₃ rfl;refine m1_ (fun n s'=>∃i H',Inv (X.comp scope P2.objs.size N s2 H2 fp fun _ _=>False) [] (m3_ own js σ) H' s'/\tn i s'.heap/\(∀b∈fp,H' b=none)/\Wq i n H') ?_ m0 ⟨0,_,I3 _,st3,fr0,w0⟩;rintro n s3 ⟨i,H3,J3,t3,fr3,w3⟩;rcases turn i n H3 w3 with⟨stop,qd⟩|⟨go,step⟩
  .refine pr_ (T.done (X.comp scope P2.objs.size N s2 H2 fp fun _ _=>False) rfl rfl rfl hc i [] s3 _ H3 _ J3 (stat fr3) t3 stop) fun r s4 ⟨hr,J4⟩=> ?_;subst hr;obtain⟨m,hn,_⟩:=J4.loc;have B:Un (frs X.stack) fp H2 H3 s2.heap s4.heap:=J4.base;have I5:Inv X pins σ H3 s4:=I2.call' J4.os B J4.hok J4.bare fun b hb=>by
    obtain⟨a1,a2,a3,a4,a5,a6⟩:=f2 b hb;exact⟨a4,a2,a5,a6⟩
   have hp:=I2.fpOk (H':=H3) (b:=P2.objs.size) (Ag hC1) J4.free;obtain⟨a1,a2,a3,a4,a5,a6⟩:=hp;exact fin s2.heap.objs.size P2.objs.size H3 s4 m I5 hn a1 a2 a3 (Ac I2.sz (Ag hC1)) a5 a6 qd
  .refine pr_ (T.item (X.comp scope P2.objs.size N s2 H2 fp fun _ _=>False) rfl rfl rfl hc i [] s3 _ H3 _ J3 (stat fr3) t3 go) fun r s4 ⟨u,hr,h4⟩=> ?_;subst hr;refine pr_ h4 fun _ s5 ⟨x,H5,J5,r5,y5,t5,fr5⟩=> ?_;have J5':=J5.pinned (stat fr5) (T.obj _ _ t5);refine pr_ (hg _ _ _ _ _ s5 _ H5 x u _ J5' r5 (ho _ _ _ _ (step x H5 y5))) fun _ s6 ⟨σ6,H6,J6,q6,hl6,ho6⟩=> ?_;have again:∀{s7:Shared}{H7:Hp},Inv (X.comp scope P2.objs.size N s2 H2 fp fun _ _=>False) ([]++hI_ fp s5.heap) σ6 H7 s7->(∃m',m'<n/\Wq (i+1) m' H7)->
     ∃m,m<n/\∃i H',Inv (X.comp scope P2.objs.size N s2 H2 fp fun _ _=>False) [] (m3_ own js σ) H' s7/\tn i s7.heap/\(∀b∈fp,H' b=none)/\Wq i m H':=fun{s7 H7} J7 z=>by
    obtain⟨m',hm,w7⟩:=z;refine⟨m',hm,i+1,H7,J7.unpinned.weak (by rw [hl6]) (fun k v z=> ?_),T.keep _ _ _ t5 fun b hb o e=>(J7.pin (b,o) (Ap _ (Ap _ (cV_ hb e)))).1,fun b hb=> ?_,w7⟩
    .rw [ho6 k (in_ z).1];exact z
    .obtain⟨o,e,d⟩:=T.obj _ _ t5 b hb;exact(J7.pin (b,o) (Ap _ (Ap _ (cV_ hb e)))).2.1
   refine pr_ (ht _ _ _ _ _ s6 σ6 H6 _ J6 q6) fun ok s7 ⟨H7,J7,q7⟩=> ?_;cases ok with
   |false=>exact again J7 q7
   |true=>
    refine pr_ (he _ _ _ _ _ s7 σ6 H7 _ J7 q7) fun y s8 ⟨yv,H8,J8,r8,q8⟩=> ?_;exact pr_ (bS_ _ s8 σ6 H8 (.ref s2.heap.objs.size) [yv] (.ref s2.heap.objs.size) [y] _ J8 rfl (.cons r8 .nil) q8) fun _ s9 ⟨_,H9,J9,_,q9⟩=>again J9 q9
 exact codeAny_compStart_list (loop _ rfl) (T.self X.A 0 _ _ _ st3 (loop _ rfl))
theorem pU_ {X:Cx}{elt tg iter:Expr}{ifs:List Expr}{scope:Scope}{pos:Pos}{N:List Str}{own:Nat}{js:List Nat}{wi:TI}{g:TG}{ti:TT}{te:TE} (hc:X.calm=true)
  (hcell:∀y∈scope.names,y.2≠ .cell) (hkind:scope.kind= .function) (hnames:∀y∈scope.names,y.2= .local->scope.names.lookup y.1=some .local)
  (hfree:∀y∈scope.names,y.2= .free->X.env.kindOf y.1=some .cell\/X.env.kindOf y.1=some .free) (hlen:N.length=own+js.length)
  (hcap:∀(i j:Nat) (x:Str),js[i]? =some j->N[own+i]? =some x->X.N[j]? =some x/\(x,NameKind.free)∈scope.names/\(X.env.kindOf x=some .cell\/X.env.kindOf x=some .free)/\((relabel scope X.env).names.lookup x=some .cell\/(relabel scope X.env).names.lookup x=some .free))
  (hi:PI X tg iter wi) (hg:∀C s₀ H₀ ex,PG (X.comp scope C N s₀ H₀ ex fun _ _=>False) tg g) (ho:pk_ own g) (ht:∀C s₀ H₀ ex,qT_ (X.comp scope C N s₀ H₀ ex fun _ _=>False) ifs ti) (he:∀C s₀ H₀ ex,PE (X.comp scope C N s₀ H₀ ex fun _ _=>False) elt te)
  (hs:∀x,foldedSetIterable iter X.env x=pure x:=by intro _;rfl):PE X (.ListComp elt [⟨tg,iter,ifs,0⟩] scope pos) (ln_ own js wi g ti te):=by
 intro pins s σ H Q I h;rw [eval_ListComp];refine ik_ hc hcell hkind hnames hfree hlen hcap hi hg ho ht he I h (use:=none) (fun acc C H3 s4 m I5 hn c1 c2 c3 c4 c5 c6 q=> ?_) hs;refine⟨m,hn,fun h' sb=>⟨.ref acc,H3, ?_,rfl,q⟩⟩;exact I5.turned (t':=s4.toks) (it:=C) (fun b o hb e=>(sb.2 b hb).trans e) c1 c2 (.inr c4) c5 c6
theorem pO_ {X:Cx}{i:Nat}{y:Str}{py spos:Pos}{elt tg iter:Expr}{ifs:List Expr}{scope:Scope}{pos:Pos}{N:List Str}{own:Nat}{js:List Nat}{wi:TI}{g:TG}{ti:TT}{te:TE} (hN:X.N.Nodup) (hi':X.N[i]? =some y) (hy:Loc X.env.scope y) (hf:X.fn y=true\/X.env.scope.names.lookup y=some .local)
  (hc:X.calm=true)
  (hcell:∀y∈scope.names,y.2≠ .cell) (hkind:scope.kind= .function) (hnames:∀y∈scope.names,y.2= .local->scope.names.lookup y.1=some .local)
  (hfree:∀y∈scope.names,y.2= .free->X.env.kindOf y.1=some .cell\/X.env.kindOf y.1=some .free) (hlen:N.length=own+js.length)
  (hcap:∀(i j:Nat) (x:Str),js[i]? =some j->N[own+i]? =some x->X.N[j]? =some x/\(x,NameKind.free)∈scope.names/\(X.env.kindOf x=some .cell\/X.env.kindOf x=some .free)/\((relabel scope X.env).names.lookup x=some .cell\/(relabel scope X.env).names.lookup x=some .free))
  (hi:PI X tg iter wi) (hg:∀C s₀ H₀ ex,PG (X.comp scope C N s₀ H₀ ex fun _ _=>False) tg g) (ho:pk_ own g) (ht:∀C s₀ H₀ ex,qT_ (X.comp scope C N s₀ H₀ ex fun _ _=>False) ifs ti) (he:∀C s₀ H₀ ex,PE (X.comp scope C N s₀ H₀ ex fun _ _=>False) elt te)
  (hsw:swapsWith (.ListComp elt [⟨tg,iter,ifs,0⟩] scope pos) (some (.Name y py)) spos.line X.env=pure true:=by rfl)
  (hs:∀x,foldedSetIterable iter X.env x=pure x:=by intro _;rfl):PS X (.Assign [.Name y py] (.ListComp elt [⟨tg,iter,ifs,0⟩] scope pos) spos) (rg_ (ln_ own js wi g ti te) (bF_ i)):=by
 intro pins s σ H D I h;rw [exec_Assign_Name_used _ _ _ _ hsw];refine A0 (wpAny_standAt (A0 ?_));show wpAny _ X.A (do let _<-comprehension (.ListComp elt [⟨tg,iter,ifs,0⟩] scope pos) scope X.env _ (newList []) false (eval iter X.env) (some (assign (.Name y py) X.env))) _ _ s;refine A0 (BJ (ik_ hc hcell hkind hnames hfree hlen hcap hi hg ho ht he I h (use:=some (assign (.Name y py) X.env)) (RQ:=fun _ s'=>SP X pins D .next s') (fun acc C H3 s4 m I5 hn c1 c2 c3 c4 c5 c6 q=> ?_) hs) (fun _ s' hq=>A4 (A4 hq)) fun _ _ e=>e);show wpAny _ X.A (assign (.Name y py) X.env (.ref acc)) _ _ _;obtain⟨o,es,ep,ho',hd,hr⟩:=hn;have I6:Inv X (pins++[(C,o)]) σ H3 s4:=I5.pins_of fun p hp=>by
  rcases CO.mp hp with z|z
  .exact I5.pin p (Ap _ z)
  .rw [Ax.mp z];exact⟨ho',c1,c2,c3,fun v z=>by rw [hd] at z;cases z⟩
 refine wpAny_assign_Name (eB_ I6 hN hi' hy (v:= .ref acc) rfl (fun s' I7=> ?_) hf);have hp:=I7.pin (C,o) (Ap _ (Ap _ (by simp)));refine⟨m,⟨o,es,ep,hp.1,hd,hr⟩,fun h' sb=>⟨_,H3, ?_,q⟩⟩;exact I7.unpinned.turned (t':=s'.toks) (it:=C) (fun b o hb e=>(sb.2 b hb).trans e) c1 c2 (.inr c4) c5 c6
end L2
namespace L2
open PySem PySem.Spec PyProof.Rows
def kq_ (XN:List Str) (sc scope:Scope) (own:Nat) (js:List Nat) (N:List Str):Bool:=
 (scope.names.all fun y=>decide (y.2≠ .cell)&&(decide (y.2≠ .local)||decide (scope.names.lookup y.1=some .local))&&(decide (y.2≠ .free)||decide (sc.names.lookup y.1=some .cell)||decide (sc.names.lookup y.1=some .free)))&&
  decide (scope.kind= .function)&&decide (N.length=own+js.length)&&
  (List.range js.length).all fun i=>match js[i]?,N[own+i]? with
   |some j,some x=>decide (XN[j]? =some x)&&decide (scope.names.lookup x=some .free)&&(decide (sc.names.lookup x=some .cell)||decide (sc.names.lookup x=some .free))
   |_,_=>false
theorem bm_ {env:Env}:∀{names:List (Str×NameKind)}{x:Str},names.lookup x=some .free->
  (names.map fun(n,k)=>if(k==NameKind.free&&env.scope.kind== .function&&env.kindOf n==some .cell) then(n,NameKind.cell) else(n,k)).lookup x=some .cell\/
  (names.map fun(n,k)=>if(k==NameKind.free&&env.scope.kind== .function&&env.kindOf n==some .cell) then(n,NameKind.cell) else(n,k)).lookup x=some .free
 |[],_,h=>by simp at h
 |(n,k)::r,x,h=>by
  have ih:= @bm_ env r x;rw [AT,Bs];rw [Bs] at h;by_cases hc:(k==NameKind.free&&env.scope.kind== .function&&env.kindOf n==some .cell)=true
  .rw [A8 hc];dsimp only;cases hx:x==n with
   |true=>exact .inl rfl
   |false=>
    rw [hx] at h;exact ih h
  .rw [A6 hc];dsimp only;cases hx:x==n with
   |true=>
    rw [hx] at h;exact .inr h
   |false=>
    rw [hx] at h;exact ih h
structure CompOk (XN:List Str) (sc scope:Scope) (own:Nat) (js:List Nat) (N:List Str):Prop where
 cell:∀y∈scope.names,y.2≠ .cell
 names:∀y∈scope.names,y.2= .local->scope.names.lookup y.1=some .local
 free:∀y∈scope.names,y.2= .free->sc.names.lookup y.1=some .cell\/sc.names.lookup y.1=some .free
 kind:scope.kind= .function
 len:N.length=own+js.length
 cap:∀(i j:Nat) (x:Str),js[i]? =some j->N[own+i]? =some x->XN[j]? =some x/\scope.names.lookup x=some .free/\(sc.names.lookup x=some .cell\/sc.names.lookup x=some .free)
theorem il_ {XN:List Str}{sc scope:Scope}{own:Nat}{js:List Nat}{N:List Str} (h:kq_ XN sc scope own js N=true):CompOk XN sc scope own js N:=by
 unfold kq_ at h;rw [A9,A9,A9] at h;obtain⟨⟨⟨h1,h2⟩,h3⟩,h4⟩:=h;rw [AQ] at h1 h4;refine⟨fun y hy=> ?_,fun y hy e=> ?_,fun y hy e=> ?_,Aa h2,Aa h3,fun i j x a b=> ?_⟩
 .have:=h1 y hy;rw [A9,A9] at this;exact Aa this.1.1
 .have:=h1 y hy;rw [A9,A9,Bi] at this;rcases this.1.2 with z|z
  .exact absurd e (Aa z)
  .exact Aa z
 .have:=h1 y hy;rw [A9,A9,Bi,Bi,Bi] at this;rcases this.2 with(z|z)|z
  .exact absurd e (Aa z)
  .exact .inl (Aa z)
  .exact .inr (Aa z)
 .have hi:i<js.length:=(A'.mp a).1;have:=h4 i (Al.mpr hi);rw [a,b] at this;dsimp only at this;rw [A9,A9,Bi] at this;exact⟨Aa this.1.1,Aa this.1.2,this.2.imp Aa Aa⟩
section
variable {X:Cx}{XN:List Str}{sc scope:Scope}{elt tg iter:Expr}{ifs:List Expr}{pos:Pos}{N:List Str}{own:Nat}{js:List Nat}{wi:TI}{g:TG}{ti:TT}{te:TE}
theorem bi_ (hc:X.calm=true) (ok:kq_ XN sc scope own js N=true) (hsc:X.env.scope=sc) (hXN:X.N=XN) (hi:PI X tg iter wi) (hg:∀C s₀ H₀ ex,PG (X.comp scope C N s₀ H₀ ex fun _ _=>False) tg g) (ho:pk_ own g)
  (ht:∀C s₀ H₀ ex,qT_ (X.comp scope C N s₀ H₀ ex fun _ _=>False) ifs ti) (he:∀C s₀ H₀ ex,PE (X.comp scope C N s₀ H₀ ex fun _ _=>False) elt te)
  (hs:∀x,foldedSetIterable iter X.env x=pure x:=by intro _;rfl):PE X (.ListComp elt [⟨tg,iter,ifs,0⟩] scope pos) (ln_ own js wi g ti te):=by
 obtain⟨h1,h2,h3,h4,h5,h6⟩:=il_ ok;subst hsc hXN;refine pU_ hc h1 h4 h2 h3 h5 (fun i j x a b=> ?_) hi hg ho ht he hs;obtain⟨z1,z2,z3⟩:=h6 i j x a b;exact⟨z1,Bj z2,z3,bm_ z2⟩
theorem cU_ {i:Nat}{y:Str}{py spos:Pos} (hN:X.N.Nodup) (hi':X.N[i]? =some y) (hy:Loc X.env.scope y) (hf:X.fn y=true\/X.env.scope.names.lookup y=some .local) (hc:X.calm=true) (ok:kq_ XN sc scope own js N=true) (hsc:X.env.scope=sc) (hXN:X.N=XN) (hi:PI X tg iter wi)
  (hg:∀C s₀ H₀ ex,PG (X.comp scope C N s₀ H₀ ex fun _ _=>False) tg g) (ho:pk_ own g)
  (ht:∀C s₀ H₀ ex,qT_ (X.comp scope C N s₀ H₀ ex fun _ _=>False) ifs ti) (he:∀C s₀ H₀ ex,PE (X.comp scope C N s₀ H₀ ex fun _ _=>False) elt te)
  (hsw:swapsWith (.ListComp elt [⟨tg,iter,ifs,0⟩] scope pos) (some (.Name y py)) spos.line X.env=pure true:=by rfl)
  (hs:∀x,foldedSetIterable iter X.env x=pure x:=by intro _;rfl):PS X (.Assign [.Name y py] (.ListComp elt [⟨tg,iter,ifs,0⟩] scope pos) spos) (rg_ (ln_ own js wi g ti te) (bF_ i)):=by
 obtain⟨h1,h2,h3,h4,h5,h6⟩:=il_ ok;subst hsc hXN;refine pO_ hN hi' hy hf hc h1 h4 h2 h3 h5 (fun i j x a b=> ?_) hi hg ho ht he hsw hs;obtain⟨z1,z2,z3⟩:=h6 i j x a b;exact⟨z1,Bj z2,z3,bm_ z2⟩
end
theorem cY_ {lo:Int}{n:Nat}{own:Nat}{js:List Nat}{g:TG}{ti:TT}{te:TE}{σ:St}{H1:Hp}{acc:Addr}{Q:VK} (Pv:Nat->Hp->Prop) (h0:Pv 0 (upd H1 acc (.lst [])))
  (hs:∀i H2,i<n->Pv i H2->g (.int (lo+i)) (m3_ own js σ) H2 fun σ4 H4=>ti σ4 H4 fun b H5=>if b=true then te σ4 H5 fun y H6=>eZ_ (.ref acc) [y] H6 fun _ H7=>Pv (i+1) H7 else Pv (i+1) H5) (hd:∀H2,Pv n H2->Q (.ref acc) H2)
  (mono:∀σ H (R R':St->Hp->Prop) x,(∀σ' H',R σ' H'->R' σ' H')->g x σ H R->g x σ H R') (monoT:∀σ H (R R':Bool->Hp->Prop),(∀b H',R b H'->R' b H')->ti σ H R->ti σ H R') (monoE:∀σ H (R R':VK),(∀v H',R v H'->R' v H')->te σ H R->te σ H R'):
  ov_ (Itr lo n) own js g ti te σ H1 acc Q:=by
 refine⟨fun i m H2=>m=n-i/\i<=n/\Pv i H2,⟨n,by simp,AS _,h0⟩, ?_⟩;rintro i m H2 ⟨rfl,hi,p⟩;by_cases hlt:i<n
 .refine .inr ⟨hlt,fun x H3 y=> ?_⟩;obtain⟨e1,e2⟩:=y;subst e1 e2;refine mono _ _ _ _ _ (fun σ4 H4 q=>monoT _ _ _ _ (fun b H5 q=> ?_) q) (hs i _ hlt p);cases b with
  |true=>
   refine monoE _ _ _ _ (fun v H6 q=> ?_) q;obtain⟨l,xs,y,a1,a2,a3,a4,a5⟩:=q;exact⟨l,xs,y,a1,a2,a3,a4,n-(i+1),by lia,rfl,hlt,a5⟩
  |false=>exact⟨n-(i+1),by lia,rfl,hlt,q⟩
 .have e:i=n:=by lia
  subst e;exact .inl ⟨A7 _,hd H2 p⟩
theorem aW_ {K:W.Frag}{a:Addr}{xs:List V}{own:Nat}{js:List Nat}{g:TG}{ti:TT}{te:TE}{σ:St}{H1:Hp}{acc:Addr}{Q:VK} (Pv:Nat->Hp->Prop) (h0:Pv 0 (upd H1 acc (.lst []))) (hl:∀i H2,i<=xs.length->Pv i H2->SqL K H2 a xs)
  (hs:∀i x H2,xs[i]? =some x->Pv i H2->g x (m3_ own js σ) H2 fun σ4 H4=>ti σ4 H4 fun b H5=>if b=true then te σ4 H5 fun y H6=>eZ_ (.ref acc) [y] H6 fun _ H7=>Pv (i+1) H7 else Pv (i+1) H5) (hd:∀H2,Pv xs.length H2->Q (.ref acc) H2)
  (mono:∀σ H (R R':St->Hp->Prop) x,(∀σ' H',R σ' H'->R' σ' H')->g x σ H R->g x σ H R') (monoT:∀σ H (R R':Bool->Hp->Prop),(∀b H',R b H'->R' b H')->ti σ H R->ti σ H R') (monoE:∀σ H (R R':VK),(∀v H',R v H'->R' v H')->te σ H R->te σ H R'):
  ov_ (Itl K a) own js g ti te σ H1 acc Q:=by
 refine⟨fun i m H2=>m=xs.length-i/\i<=xs.length/\Pv i H2,⟨xs.length,by simp,AS _,h0⟩, ?_⟩;rintro i m H2 ⟨rfl,hi,p⟩;have q:=hl i H2 hi p;by_cases hlt:i<xs.length
 .refine .inr ⟨⟨xs,xs[i],q,by simp [hlt]⟩,fun x H3 y=> ?_⟩;obtain⟨e1,y⟩:=y;subst e1;refine mono _ _ _ _ _ (fun σ4 H4 q=>monoT _ _ _ _ (fun b H5 q=> ?_) q) (hs i x _ (y xs q) p);cases b with
  |true=>
   refine monoE _ _ _ _ (fun v H6 q=> ?_) q;obtain⟨l,xs,y,a1,a2,a3,a4,a5⟩:=q;exact⟨l,xs,y,a1,a2,a3,a4,_,by lia,rfl,hlt,a5⟩
  |false=>exact⟨_,by lia,rfl,hlt,q⟩
 .have e:i=xs.length:=by lia
  subst e;exact .inl ⟨⟨xs,q,A7 _⟩,hd H2 p⟩
theorem aJ_ {i:Nat}:∀(σ:St) (H:Hp) (R R':St->Hp->Prop) (x:V),(∀σ' H',R σ' H'->R' σ' H')->bF_ i x σ H R->bF_ i x σ H R':=fun _ _ _ _ _ k h=>k _ _ h
theorem tW_ {A B:Hp->Prop}{σ:St}{H:Hp} (h:A H):q8_ σ H fun b H5=>if b=true then A H5 else B H5:=by
 show if true=true then A H else B H
 rw [A8 rfl];exact h
theorem k9_ {A B:St->Hp->Prop}{i:Nat}{x:V}{σ:St}{H:Hp} (h:A (σ.set i (some x)) H):bF_ i x σ H fun σ4 H4=>q8_ σ4 H4 fun b H5=>if b=true then A σ4 H5 else B σ4 H5:=by
 show if true=true then A (σ.set i (some x)) H else B (σ.set i (some x)) H
 rw [A8 rfl];exact h
theorem g6_ {n i:Nat} (h:i<n):ixN n (i:Int)=some i:=by
 unfold ixN;rw [A8 (by lia),A8 (by lia),AV]
theorem bf_:∀(σ:St) (H:Hp) (R R':Bool->Hp->Prop),(∀b H',R b H'->R' b H')->q8_ σ H R->q8_ σ H R':=fun _ _ _ _ k h=>k _ _ h
end L2
namespace L2
open PySem PySem.Spec PyProof.Rows
section
variable {X:Cx}{K:W.Frag}
theorem my_ (h:X.K=K):IxR X (t2_ K):=h▸cj_
end
end L2
namespace L2
open PySem PySem.Spec PyProof.Rows
inductive EqR (K:W.Frag) (H:Hp):Nat->V->V->Bool->Prop where
 |int (d:Nat) (i j:Int):EqR K H d (.int i) (.int j) (decide (i=j))
 |lists {d:Nat}{a b:Addr}{xs ys:List V} (es:Nat->Bool) (h1:SqL K H a xs) (h2:SqL K H b ys) (hl:xs.length=ys.length) (he:∀(j:Nat) x y,xs[j]? =some x->ys[j]? =some y->EqR K H d x y (es j)):EqR K H (d+1) (.ref a) (.ref b) ((List.range xs.length).all es)
 |lens {d:Nat}{a b:Addr}{xs ys:List V} (h1:SqL K H a xs) (h2:SqL K H b ys) (hl:xs.length≠ys.length):EqR K H (d+1) (.ref a) (.ref b) false
 |tuples {d:Nat}{a b:Addr}{xs ys:List V} (es:Nat->Bool) (h1:SqT K H a xs) (h2:SqT K H b ys) (he:∀(j:Nat) x y,xs[j]? =some x->ys[j]? =some y->EqR K H d x y (es j)):EqR K H (d+1) (.ref a) (.ref b) ((List.range (min xs.length ys.length)).all es&&xs.length==ys.length)
section
variable {X:Cx}{pins:List (Addr×Obj)}{σ:St}{H:Hp}{s:Shared}
theorem EqR.same (I:Inv X pins σ H s) {d:Nat}{x y:V}{e:Bool} (h:EqR X.K H d x y e):x=y->e=true:=by
 induction h with
 |int d i j=>intro q;cases q;simp
 |lists es h1 h2 hl he ih=>
  intro q;cases q;have z:=I.list_inj h1 h2;subst z;rw [AQ];intro j hj;rw [Al] at hj;have hx:=A2 hj;exact ih j _ _ hx hx rfl
 |lens h1 h2 hl=>
  intro q;cases q;exact absurd (BR List.length (I.list_inj h1 h2)) hl
 | @tuples d a b xs ys es h1 h2 he ih=>
  intro q;cases q;have z:=I.tuple_inj h1 h2;subst z;rw [A9];refine⟨?_,by simp⟩;rw [AQ];intro j hj;rw [Al,Nat.min_self] at hj;have hx:=A2 hj;exact ih j _ _ hx hx rfl
theorem a4_ (A:Around):A.in1.units=A.units+1:=rfl
theorem EqR.at_ (I:Inv X pins σ H s) {d:Nat}{x y:V}{e:Bool} (h:EqR X.K H d x y e):∀{A:Around}{u v:Value},A.units+d<cLine->a3_ x u->a3_ y v->SeqAt.RcAt A s u v e/\SeqAt.RcNeAt A s u v (!e)/\SeqAt.EqAt A s u v e:=by
 induction h with
 |int d i j=>
  intro A u v hu ru rv;obtain⟨t,rfl⟩:=ru;obtain⟨t',rfl⟩:=rv;have e:decide (i=j)=(i==j):=by rw [Bool.beq_eq_decide_eq]
  rw [e];exact⟨SeqAt.RcAt.int_int i t j t',SeqAt.RcNeAt.int_int i t j t',SeqAt.EqAt.int_int i t j t'⟩
 | @lists d a b xs ys es h1 h2 hl he ih=>
  intro A u v hu ru rv;obtain rfl:u=Value.ref a:=ru;obtain rfl:v=Value.ref b:=rv;obtain⟨is,r1,p1,z1⟩:=I.list h1;obtain⟨js,r2,p2,z2⟩:=I.list h2;have l1:=r1.length;have l2:=r2.length;have ln:xs.length=is.toArray.size:=by simpa using l1
  have sz:is.toArray.size=js.toArray.size:=by simp only [AA];lia
  have it:∀j (q1:j<is.toArray.size) (q2:j<js.toArray.size),SeqAt.EqAt A.in1 s is.toArray[j] js.toArray[j] (es j):=fun j q1 q2=>by
   simp only [AA] at q1 q2;have hx:xs[j]? =some xs[j]:=A2 (by lia);have hy:ys[j]? =some ys[j]:=A2 (by lia);obtain⟨u1,e1,ru1⟩:=r1.get hx;obtain⟨u2,e2,ru2⟩:=r2.get hy;have g1:is.toArray[j]=u1:=by
    rw [A2 q1] at e1;simpa using Option.some.inj e1
   have g2:js.toArray[j]=u2:=by
    rw [A2 q2] at e2;simpa using Option.some.inj e2
   rw [g1,g2];exact(ih j _ _ hx hy (by rw [a4_];lia) ru1 ru2).2.2
  rw [ln];have R:=SeqAt.RcAt.lists (A:=A) p1.isList p2.isList sz (by lia) it;refine⟨R,SeqAt.RcNeAt.lists p1.isList p2.isList sz (by lia) it, ?_⟩;by_cases q:a=b
  .subst q;have:=(EqR.lists es h1 h2 hl he).same I rfl;rw [ln] at this;rw [this];exact SeqAt.EqAt.same _
  .exact SeqAt.EqAt.of_refs q R
 | @lens d a b xs ys h1 h2 hl=>
  intro A u v hu ru rv;obtain rfl:u=Value.ref a:=ru;obtain rfl:v=Value.ref b:=rv;obtain⟨is,r1,p1,z1⟩:=I.list h1;obtain⟨js,r2,p2,z2⟩:=I.list h2;have l1:=r1.length;have l2:=r2.length;have sz:(is.toArray.size !=js.toArray.size)=true:=by
   simp only [AA,bne_iff_ne,ne_eq];lia
  have R:=SeqAt.RcAt.lists_lengths (A:=A) p1.isList p2.isList sz (by lia);refine⟨R,SeqAt.RcNeAt.lists_lengths p1.isList p2.isList sz (by lia), ?_⟩;by_cases q:a=b
  .subst q;exact absurd (BR List.length (I.list_inj h1 h2)) hl
  .exact SeqAt.EqAt.of_refs q R
 | @tuples d a b xs ys es h1 h2 he ih=>
  intro A u v hu ru rv;obtain rfl:u=Value.ref a:=ru;obtain rfl:v=Value.ref b:=rv;obtain⟨is,r1,p1,z1⟩:=I.tuple h1;obtain⟨js,r2,p2,z2⟩:=I.tuple h2;have l1:=r1.length;have l2:=r2.length;have ln:xs.length=is.toArray.size:=by simpa using l1
  have ln2:ys.length=js.toArray.size:=by simpa using l2
  have it:∀j (q1:j<is.toArray.size) (q2:j<js.toArray.size),SeqAt.EqAt A.in1 s is.toArray[j] js.toArray[j] (es j):=fun j q1 q2=>by
   simp only [AA] at q1 q2;have hx:xs[j]? =some xs[j]:=A2 (by lia);have hy:ys[j]? =some ys[j]:=A2 (by lia);obtain⟨u1,e1,ru1⟩:=r1.get hx;obtain⟨u2,e2,ru2⟩:=r2.get hy;have g1:is.toArray[j]=u1:=by
    rw [A2 q1] at e1;simpa using Option.some.inj e1
   have g2:js.toArray[j]=u2:=by
    rw [A2 q2] at e2;simpa using Option.some.inj e2
   rw [g1,g2];exact(ih j _ _ hx hy (by rw [a4_];lia) ru1 ru2).2.2
  rw [ln,ln2];have R:=SeqAt.RcAt.tuples (A:=A) (show s.heap.IsTuple a is.toArray from p1) (show s.heap.IsTuple b js.toArray from p2) (by lia) it;refine⟨R,SeqAt.RcNeAt.tuples (show s.heap.IsTuple a is.toArray from p1) (show s.heap.IsTuple b js.toArray from p2) (by lia) it, ?_⟩;by_cases q:a=b
  .subst q;have:=(EqR.tuples es h1 h2 he).same I rfl;rw [ln,ln2] at this;rw [this];exact SeqAt.EqAt.same _
  .exact SeqAt.EqAt.of_refs q R
def uy_ (K:W.Frag) (neg:Bool):R2:=fun x y H Q=>∃d e,EqR K H d x y e/\d<=8/\Q (.bl (if neg then !e else e)) H
theorem rQ_ {k:Nat} (hr:Room k X.A):OpR X (compareOp .Eq) (uy_ X.K false):=by
 intro pins s σ H x y v u Q I rx ry h;obtain⟨d,e,r,hd,q⟩:=h;have hu:=hr.un;exact(r.at_ I (A:=X.A) (by lia) rx ry).1 X.prog X.w X.xe _ ⟨.bl e,H,I,rfl,q⟩
theorem eK_ (hc:X.calm=true):cu_ X (.builtin "sum") (fun xs H Q=>∃(p:Addr) (ns:List Int),xs=[.ref p]/\SqL X.K H p (ns.map V.int)/\Q (.int ns.sum) H):=by
 intro pins s σ H xs us Q I r h;obtain⟨p,ns,rfl,hq,q⟩:=h;obtain⟨u,rfl,rx⟩:=du_ r;cases rx;obtain⟨its,r',pl,hz⟩:=I.list hq;have hi:IntsAre its ns:=eh_ r';obtain⟨ys,e⟩:=hi.allInts.items;have hl:=pl.isList;rw [e] at hl;refine sum_intListG (I.ok.hd hc) hl fun h' tk t' hk=>⟨.int ns.sum,H,I.kept hk,⟨t', ?_⟩,q⟩;have n1:=hi.numsOf;rw [show its=its.toArray.toList from rfl,e,nums_intItems] at n1;rw [preSum_eq,Bv (by simp),n1]
def CDB (_ j:Int):Prop:=j≠0/\j.natAbs<2^512
theorem dG_:OpR X (binaryOp .FloorDiv) (rI CDB fun i j=> .int (i.fdiv j)):=opI fun i j _ _ _ _ _ hc q=>floordiv_int hc.1 q (.inl (PyProof.noPylong_of_log2 (by
 have h0:j.natAbs≠0:=by have:=hc.1;lia
 have:=(Nat.log2_lt h0).mpr hc.2;lia)))
end
end L2
namespace L2
open PySem PySem.Spec PyProof.Rows
section
variable {prog:Program}{w:World}{A:Around}{E:Value->Shared->Prop}{s:Shared}
end
section
variable {X:Cx}{e:Expr}{te:TE}{p1 p2 p3 pos:Pos}
end
end L2
namespace L2
open PySem PySem.Spec PyProof.Rows
def Ite (K:W.Frag) (a:Addr):It:=
 ⟨fun i H=>∃xs x,SqL K H a xs/\xs[i]? =some x,fun i H v H'=>∃x p,(∀xs,SqL K H a xs->xs[i]? =some x)/\v= .ref p/\H p=none/\H'=upd H p (.tup [.int i,x]),fun i H=>∃xs,SqL K H a xs/\xs.length<=i⟩
theorem lh_ {P:Program}{w:World}{K:W.Frag}{elts:List Expr}{k:Nat}{pos:Pos} (a e it:Addr) (hne:e≠it):
  Turn P w K (.Tuple elts k pos) (Ite K a) [e,it] e (fun i h=>(∃old,IsEnum h e it (i:Nat) old)/\h.IsListIter it a i) where
 mem:=by simp
 obj:=fun i h st b hb=>by
  obtain⟨⟨old,h1⟩,o,h2,h3,h4⟩:=st;rcases AO.mp hb with z|z
  .subst z;exact⟨_,h1,fun v y=>by cases y⟩
  .rw [Ax.mp z];exact⟨o,h2,fun v y=>by rw [h4] at y;cases y⟩
 keep:=fun i h h' st kk=>⟨st.1.imp fun old z=>kk e (by simp) _ z,st.2.at fun o z=>kk it (by simp) o z⟩
 item:=by
  intro X hP hw hK hc i pins s σ H E I hf st hg;subst hP hw hK;obtain⟨xs,x,hq,hx⟩:=hg;obtain⟨its,rv,p,hz⟩:=I.list hq;obtain⟨u,hu,ru⟩:=rv.get hx;obtain⟨⟨old,he⟩,hit⟩:=st;have nf:H s.heap.objs.size=none:=I.hok.fresh (A7 _);have ltE:e<s.heap.objs.size:=AG he;refine wpAny_pyNext_enum_item he hit p.isList (x:=u) (by simpa using hu) hne fun h' ho hit' hT hsz hk=>⟨.ref s.heap.objs.size,rfl, ?_⟩;refine wpAny_letOwnedTupleGo_enum ho fun h2 he2 sb=> ?_;have k2:∀b o,b≠e->b≠it->s.heap.get? b=some o->h2.get? b=some o:=fun b o n1 n2 z=>(sb.2 b n1).trans (hk b o n1 n2 z);have hT2:h2.get? s.heap.objs.size=some {cls:= .type "tuple",data:= .seq #[.int i s.toks,u]}:=(sb.2 _ (Bu ltE)).trans hT;have hch:∀b,b∉[e,it]->b≠e/\b≠it:=fun b z=>⟨fun y=>z (by simp [y]),fun y=>z (by simp [y])⟩;refine⟨.ref s.heap.objs.size,upd H s.heap.objs.size (.tup [.int i,x]), ?_,rfl,⟨x,_,fun ys hy=>by rw [I.list_inj hy hq];exact hx,rfl,nf,rfl⟩,⟨⟨u,by simpa using he2⟩,hit'.at fun o z=>(sb.2 it hne.symm).trans z⟩,fun b hb=> ?_⟩
  .refine I.step (s:=s) (h':=h2) (g':=s.gens) (d':=s.drawn) (t':=s.toks+1) (ch:=[e,it]) (fun b hb=> ?_) (fun b o _ _ c z _=>k2 b o (hch b c).1 (hch b c).2 z) (fun b o _ _ c z _=>⟨o.slots,k2 b o (hch b c).1 (hch b c).2 z⟩)
    (fun b o c z n=> ?_) (fun b o c z=>⟨o,k2 b o (hch b c).1 (hch b c).2 z⟩) (fun b ys z=> ?_) (fun b o v z=> ?_) (fun b ps z=>⟨#[], ?_⟩) (fun m hm=> ?_) (fun b v z=> ?_) I.bare
   .obtain⟨a1,a2,a3,a4,a5,a6⟩:=hf b hb;exact⟨a4,a2,a5,a6⟩
   .rw [ar_ (AK (AG z))];exact n
   .rw [ar_ (av_ z nf)];exact z
   .rw [ar_ (av_ z nf)];exact z
   .rw [ar_ (av_ z nf),z];simp
   .obtain⟨o,es,ep,ho',r⟩:=hm;exact⟨o,es,ep,k2 _ o (fun y=>(hf e (by simp)).2.1 y.symm) (fun y=>(hf it (by simp)).2.1 y.symm) ho',r⟩
   .by_cases hb:b=s.heap.objs.size
    .subst hb;rw [ad_] at z;cases z;exact⟨by show 2<=sizeLine;decide,[.int i s.toks,u], .cons ⟨_,rfl⟩ (.cons ru .nil),⟨_,hT2,rfl,_,rfl⟩⟩
    .rw [ar_ hb] at z;refine(I.hok b v z).stay (fun c o hc y=>k2 c o ?_ ?_ y) (fun c y=> ?_) fun c ys y=> ?_
     .rcases hc with q|q
      .rw [q];exact fun y=>by rw [y,(hf e (by simp)).1] at z;cases z
      .exact fun y=>by rw [y,(hf e (by simp)).1] at q;cases q
     .rcases hc with q|q
      .rw [q];exact fun y=>by rw [y,(hf it (by simp)).1] at z;cases z
      .exact fun y=>by rw [y,(hf it (by simp)).1] at q;cases q
     .rw [ar_ (av_ y nf)];exact y
     .rw [ar_ (av_ y nf)];exact y
  .obtain⟨o,z,_⟩:=(show∃o,s.heap.get? b=some o/\True from by
    rcases AO.mp hb with q|q
    .rw [q];exact⟨_,he,trivial⟩
    .rw [Ax.mp q];obtain⟨o,y,_⟩:=hit;exact⟨o,y,trivial⟩)
   rw [ar_ (AK (AG z))];exact(hf b hb).1
 done:=by
  intro X hP hw hK hc i pins s σ H E I hf st hg;subst hP hw hK;obtain⟨xs,hq,hx⟩:=hg;obtain⟨its,rv,p,hz⟩:=I.list hq;obtain⟨⟨old,he⟩,hit⟩:=st;have hl:=rv.length;obtain⟨f0,f1,f2,f3,f4,f5⟩:=hf it (by simp);exact wpAny_pyNext_enum_end (I.ok.hd hc) he hit p.isList (by simp;lia) fun h' eb=>⟨rfl,I.turned (t':=s.toks) (fun b o hb z=>eb b o hb z) f0 f1 f3 f4 f5⟩
 self:=fun _ _ _ _ _ st h=>let ⟨⟨_,z⟩,_⟩:=st;wpAny_pyIter_enum z h
section
variable {X:Cx}{elts:List Expr}{k:Nat}{tpos p pos:Pos}{e:Expr}{te:TE}
def tI_ (K:W.Frag) (tl:TE):TI:=fun σ H R=>tl σ H fun x H1=>∃a,x= .ref a/\(∃xs,SqL K H1 a xs)/\R (Ite K a) H1
theorem d4_ (hg:Gl X "enumerate") (hm:X.mg "enumerate"=none) (hl:PE X e te) (he:starEach [e] X.env=[(false,eval e X.env)]:=by rfl):PI X (.Tuple elts k tpos) (.Call (.Name "enumerate" p) [e] [] pos) (tI_ X.K te):=by
 intro pins s σ H R I h;refine BQ (cL_ I hg hm boot_enumerate ?_);refine BB (thn ((aa_ hl ab_ he) _ pins s σ H (fun vs H1=>match vs with|[x]=>(∃a,x= .ref a/\(∃xs,SqL X.K H1 a xs)/\R (Ite X.K a) H1)|_=>False) I h) fun us s1 ⟨vs,H1,I1,r1,q1⟩=> ?_) he (by rfl)
 match vs,q1,r1 with
 |[x],q1,r1=>
 obtain⟨a,rfl,⟨xs,hq⟩,q⟩:=q1;obtain⟨u,rfl,ru⟩:=du_ r1;obtain rfl:u=Value.ref a:=ru;obtain⟨its,rv,pl,hz⟩:=I1.list hq;refine call_enumerate_list pl.isList fun h' hen hit hsz hk=> ?_;refine wpAny_pyIter_enum hen ?_;refine⟨_,[_,_],_,_,H1,rfl,I1.kept (t':=s1.toks) hk,lh_ a _ _ (Bu (Bb _)),⟨⟨_,by simpa using hen⟩,hit⟩,fun b hb=> ?_,q⟩;have fr:∀b,s1.heap.objs.size<=b->jt_ X pins H1 b:=fun b z=>I1.fpOk z (I1.hok.fresh z);rcases AO.mp hb with z|z
 .rw [z];exact fr _ (Cn _)
 .rw [Ax.mp z];exact fr _ (A7 _)
end
theorem cX_ {K:W.Frag}{a:Addr}{xs:List V}{g:TG}{tb:TS}{D:Ends}{σ:St}{H:Hp} (Pv:Nat->St->Hp->Prop) (h0:Pv 0 σ H) (hl:∀i σ H,i<=xs.length->Pv i σ H->SqL K H a xs)
  (hs:∀i x σ H p,xs[i]? =some x->Pv i σ H->H p=none->g (.ref p) σ (upd H p (.tup [.int i,x])) fun σ2 H2=>tb {D with nx:=Pv (i+1),ct:=Pv (i+1),bk:=D.nx} σ2 H2) (hd:∀σ H,Pv xs.length σ H->D.nx σ H):
  ∃Wq:Nat->Nat->St->Hp->Prop,(∃m,Wq 0 m σ H)/\∀i m σ H,Wq i m σ H->
   ((Ite K a).stop i H/\D.nx σ H)\/((Ite K a).go i H/\∃N:St->Hp->Prop,(∀σ' H',N σ' H'->∃m',m'<m/\Wq (i+1) m' σ' H')/\∀x H',(Ite K a).yld i H x H'->g x σ H' fun σ2 H2=>tb {D with nx:=N,ct:=N,bk:=D.nx} σ2 H2):=by
 refine⟨fun i m σ H=>m=xs.length-i/\i<=xs.length/\Pv i σ H,⟨xs.length,by simp,AS _,h0⟩, ?_⟩;rintro i m σ H ⟨rfl,hi,p⟩;have q:=hl i σ H hi p;by_cases hlt:i<xs.length
 .refine .inr ⟨⟨xs,xs[i],q,by simp [hlt]⟩,Pv (i+1),fun σ' H' p'=>⟨xs.length-(i+1),by lia,rfl,hlt,p'⟩,fun x H' y=> ?_⟩;obtain⟨z,pp,e1,e2,e3,e4⟩:=y;subst e2 e4;exact hs i z σ H pp (e1 xs q) p e3
 .have e:i=xs.length:=by lia
  subst e;exact .inl ⟨⟨xs,q,A7 _⟩,hd σ H p⟩
def tt_ (K:W.Frag):V->V->Hp->VK->Prop:=fun o i H Q=>∃(p:Addr) (xs:List V) (j:Nat) (k:Int) (v:V),o= .ref p/\i= .int k/\k=j/\SqL K H p xs/\xs[j]? =some v/\Q v H
theorem eG_ {X:Cx}:ua_ X (tt_ X.K):=by
 intro pins s σ H o i ov iv Q I r1 r2 h;obtain⟨p,xs,j,k,v,rfl,rfl,e,hq,hx,q⟩:=h;cases r1;obtain⟨t,rfl⟩:=r2;obtain⟨its,r,pl,hz⟩:=I.list hq;obtain⟨w,ew,rw'⟩:=r.get hx;have hl:=r.length;have hn:=f2_;have hj:j<xs.length:=(A'.mp hx).1;exact wpAny_getItem_list pl.isList (by lia) (by lia) (by rw [e,AV];simpa using ew) ⟨v,H,I,rw',q⟩
end L2
namespace L2
open PySem PySem.Spec PyProof.Rows
section
variable {X:Cx}{e:Expr}{te:TE}{st:Expr}{ts:TO}{pos p2:Pos}
end
section
variable {X:Cx}{st:Stmt}{t:TS}
end
end L2
namespace L2
open PySem PySem.Spec PyProof.Rows
def Itv (K:W.Frag) (a:Addr) (n:Nat):It:=
 ⟨fun i H=>∃xs x,SqL K H a xs/\i<n/\xs[n-1-i]? =some x,fun i H x H'=>H'=H/\∀xs,SqL K H a xs->xs[n-1-i]? =some x,fun i _=>i=n⟩
theorem nn_ {P:Program}{w:World}{K:W.Frag}{tg:Expr} (a it:Addr) (n:Nat):Turn P w K tg (Itv K a n) [it] it (fun i h=>h.IsRevIter it a ((n:Int)-1-(i:Int))) where
 mem:=by simp
 obj:=fun i h st b hb=>by
  have e:b=it:=by simpa using hb
  subst e;obtain⟨o,e,c,d⟩:=st;exact⟨o,e,fun v z=>by rw [d] at z;cases z⟩
 keep:=fun i h h' st k=>st.at fun o e=>k it (by simp) o e
 item:=by
  intro X hP hw hK hc i pins s σ H E I hf st hg;subst hP hw hK;obtain⟨xs,x,hq,hi,hx⟩:=hg;obtain⟨its,rv,p,hz⟩:=I.list hq;obtain⟨u,hu,ru⟩:=rv.get hx;obtain⟨f0,f1,f2,f3,f4,f5⟩:=hf it (by simp);have e0:(n:Int)-1-(i:Int)=((n-1-i:Nat):Int):=by lia
  have st:s.heap.IsRevIter it a ((n:Int)-1-(i:Int)):=st;rw [e0] at st;refine wpAny_pyNext_rev_item st p.isList (x:=u) (by simpa using hu) fun h' st' sb=> ?_;have I1:Inv X pins σ H {s with heap:=h'}:=I.turned (t':=s.toks) (fun b o hb e=>(sb.2 b hb).trans e) f0 f1 f3 f4 f5;obtain⟨o,e,c,d⟩:=id st';refine⟨u,rfl,go_of (s:={s with heap:=h'}) e c d (by decide) ⟨x,H,I1,ru,⟨rfl,fun ys hy=>by rw [I.list_inj hy hq];exact hx⟩, ?_,fun b hb=>(hf b hb).1⟩⟩;show h'.IsRevIter it a ((n:Int)-1-((i+1:Nat):Int));rw [show(n:Int)-1-((i+1:Nat):Int)=((n-1-i:Nat):Int)-1 by lia];exact st'
 done:=by
  intro X hP hw hK hc i pins s σ H E I hf st hg;subst hP hw hK;obtain rfl:i=n:=hg;obtain⟨f0,f1,f2,f3,f4,f5⟩:=hf it (by simp);have st:s.heap.IsRevIter it a ((i:Int)-1-(i:Int)):=st;rw [show(i:Int)-1-(i:Int)= -1 by lia] at st;exact wpAny_pyNext_rev_end (I.ok.hd hc) st fun h' eb=>⟨rfl,I.turned (t':=s.toks) (fun b o hb e=>eb b o hb e) f0 f1 f3 f4 f5⟩
 self:=fun _ _ _ _ _ st h=>wpAny_pyIter_revIter st h
section
variable {X:Cx}{tg e:Expr}{p pos:Pos}{te:TE}
def uH_ (K:W.Frag) (tl:TE):TI:=fun σ H R=>tl σ H fun x H1=>∃a xs,x= .ref a/\SqL K H1 a xs/\R (Itv K a xs.length) H1
theorem oL_ (hg:Gl X "reversed") (hm:X.mg "reversed"=none) (hl:PE X e te) (he:starEach [e] X.env=[(false,eval e X.env)]:=by rfl):PI X tg (.Call (.Name "reversed" p) [e] [] pos) (uH_ X.K te):=by
 intro pins s σ H R I h;refine BQ (cL_ I hg hm boot_reversed ?_);refine BB (thn ((aa_ hl ab_ he) _ pins s σ H (fun vs H1=>match vs with|[x]=>(∃a xs,x= .ref a/\SqL X.K H1 a xs/\R (Itv X.K a xs.length) H1)|_=>False) I h) fun us s1 ⟨vs,H1,I1,r1,q1⟩=> ?_) he (by rfl)
 match vs,q1,r1 with
 |[x],q1,r1=>
 obtain⟨a,xs,rfl,hq,q⟩:=q1;obtain⟨u,rfl,ru⟩:=du_ r1;obtain rfl:u=Value.ref a:=ru;obtain⟨its,rv,pl,hz⟩:=I1.list hq;refine call_reversed_list pl.isList ?_;have hit:(s1.heap.push (revObj a ((its.toArray.size:Int)-1))).IsRevIter s1.heap.objs.size a ((its.toArray.size:Int)-1):=⟨_,AI _ rfl,rfl,rfl⟩;refine wpAny_pyIter_revIter hit ?_;refine⟨s1.heap.objs.size,[s1.heap.objs.size],_,_,H1,rfl,I1.kept (t':=s1.toks) fun b o e=>AB _ e,nn_ a _ xs.length, ?_,fun b hb=> ?_,q⟩
 .have el:(its.toArray.size:Int)=(xs.length:Int):=by rw [AA,rv.length]
  rw [el] at hit;show Heap.IsRevIter _ _ a ((xs.length:Int)-1-((0:Nat):Int));rw [show(xs.length:Int)-1-((0:Nat):Int)=(xs.length:Int)-1 by lia,el];exact hit
 .have e:b=s1.heap.objs.size:=by simpa using hb
  subst e;exact I1.fpOk (A7 _) (I1.hok.fresh (A7 _))
end
theorem mP_ {K:W.Frag}{a:Addr}{xs:List V}{n:Nat}{g:TG}{tb:TS}{D:Ends}{σ:St}{H:Hp} (hn:xs.length=n) (Pv:Nat->St->Hp->Prop) (h0:Pv 0 σ H) (hl:∀i σ H,i<=n->Pv i σ H->SqL K H a xs)
  (hs:∀i x σ H,xs.reverse[i]? =some x->Pv i σ H->g x σ H fun σ2 H2=>tb {D with nx:=Pv (i+1),ct:=Pv (i+1),bk:=D.nx} σ2 H2) (hd:∀σ H,Pv n σ H->D.nx σ H):
  ∃Wq:Nat->Nat->St->Hp->Prop,(∃m,Wq 0 m σ H)/\∀i m σ H,Wq i m σ H->
   ((Itv K a n).stop i H/\D.nx σ H)\/((Itv K a n).go i H/\∃N:St->Hp->Prop,(∀σ' H',N σ' H'->∃m',m'<m/\Wq (i+1) m' σ' H')/\∀x H',(Itv K a n).yld i H x H'->g x σ H' fun σ2 H2=>tb {D with nx:=N,ct:=N,bk:=D.nx} σ2 H2):=by
 subst hn;refine⟨fun i m σ H=>m=xs.length-i/\i<=xs.length/\Pv i σ H,⟨xs.length,by simp,AS _,h0⟩, ?_⟩;rintro i m σ H ⟨rfl,hi,p⟩;have q:=hl i σ H hi p;by_cases hlt:i<xs.length
 .refine .inr ⟨⟨xs,xs[xs.length-1-i],q,hlt,by rw [A2 (by lia)]⟩,Pv (i+1),fun σ' H' p'=>⟨xs.length-(i+1),by lia,rfl,hlt,p'⟩,fun x H' y=> ?_⟩;obtain⟨e1,e2⟩:=y;subst e1;exact hs i x σ _ (by rw [List.getElem?_reverse hlt];exact e2 xs q) p
 .have e:i=xs.length:=by lia
  subst e;exact .inl ⟨rfl,hd σ H p⟩
theorem qK_:4096+4096<=134217728:=by decide
end L2
namespace L2
open PySem PySem.Spec PyProof.Rows
inductive D where
 |i (n:Int)|l (xs:List D)|t (xs:List D)
mutual
def Is (H:Hp):D->V->Prop
 | .i n,v=>v= .int n
 | .l xs,v=>∃a vs,v= .ref a/\H a=some (.lst vs)/\Iss H xs vs
 | .t xs,v=>∃a vs,v= .ref a/\H a=some (.tup vs)/\Iss H xs vs
def Iss (H:Hp):List D->List V->Prop
 |[],vs=>vs=[]
 |x::xs,vs=>∃u us,vs=u::us/\Is H x u/\Iss H xs us
end
theorem n5_ {H:Hp}{n:Int}:Is H (.i n) (.int n):=by unfold Is;rfl
theorem da_ {H:Hp}{a:Addr}{xs:List D}{vs:List V} (h:H a=some (.lst vs)) (k:Iss H xs vs):Is H (.l xs) (.ref a):=by unfold Is;exact⟨a,vs,rfl,h,k⟩
theorem ng_ {H:Hp}{a:Addr}{xs:List D}{vs:List V} (h:H a=some (.tup vs)) (k:Iss H xs vs):Is H (.t xs) (.ref a):=by unfold Is;exact⟨a,vs,rfl,h,k⟩
theorem dV_ {H:Hp}{n:Int}{v:V} (h:Is H (.i n) v):v= .int n:=by unfold Is at h;exact h
theorem b9_ {H:Hp}{xs:List D}{v:V} (h:Is H (.l xs) v):∃a vs,v= .ref a/\H a=some (.lst vs)/\Iss H xs vs:=by unfold Is at h;exact h
theorem l6_ {H:Hp}{xs:List D}{v:V} (h:Is H (.t xs) v):∃a vs,v= .ref a/\H a=some (.tup vs)/\Iss H xs vs:=by unfold Is at h;exact h
theorem an_ {H:Hp}:Iss H [] []:=by unfold Iss;rfl
theorem ap_ {H:Hp}{x:D}{xs:List D}{u:V}{us:List V} (h:Is H x u) (k:Iss H xs us):Iss H (x::xs) (u::us):=by unfold Iss;exact⟨u,us,rfl,h,k⟩
theorem aV_ {H:Hp}{x:D}{xs:List D}{vs:List V} (h:Iss H (x::xs) vs):∃u us,vs=u::us/\Is H x u/\Iss H xs us:=by unfold Iss at h;exact h
theorem b0_ {H:Hp}{vs:List V} (h:Iss H [] vs):vs=[]:=by unfold Iss at h;exact h
mutual
theorem Is.mono {H H':Hp} (s:al_ H H'):∀{d:D}{v:V},Is H d v->Is H' d v
 | .i _,_,h=>by rw [dV_ h];exact n5_
 | .l xs,_,h=>by
  obtain⟨a,vs,e,q,r⟩:=b9_ h;rw [e];exact da_ (s _ _ q) (Iss.mono s r)
 | .t xs,_,h=>by
  obtain⟨a,vs,e,q,r⟩:=l6_ h;rw [e];exact ng_ (s _ _ q) (Iss.mono s r)
theorem Iss.mono {H H':Hp} (s:al_ H H'):∀{xs:List D}{vs:List V},Iss H xs vs->Iss H' xs vs
 |[],_,h=>by rw [b0_ h];exact an_
 |x::xs,_,h=>by
  obtain⟨u,us,e,q,r⟩:=aV_ h;rw [e];exact ap_ (Is.mono s q) (Iss.mono s r)
end
theorem Iss.length {H:Hp}:∀{xs:List D}{vs:List V},Iss H xs vs->vs.length=xs.length
 |[],_,h=>by rw [b0_ h];rfl
 |x::xs,_,h=>by
  obtain⟨u,us,rfl,_,r⟩:=aV_ h;rw [Ah,Ah,r.length]
theorem Iss.get {H:Hp}:∀{xs:List D}{vs:List V}{j:Nat}{x:D},Iss H xs vs->xs[j]? =some x->∃v,vs[j]? =some v/\Is H x v
 |[],_,_,_,_,e=>by simp at e
 |x::xs,_,0,_,h,e=>by
  obtain⟨u,us,rfl,q,_⟩:=aV_ h;simp at e;subst e;exact⟨u,rfl,q⟩
 |x::xs,_,j+1,_,h,e=>by
  obtain⟨u,us,rfl,_,r⟩:=aV_ h;obtain⟨v,e',k⟩:=r.get (j:=j) (by simpa using e);exact⟨v,by simpa using e',k⟩
theorem Iss.of_get {H:Hp}{xs:List D}{vs:List V}{j:Nat}{v:V} (h:Iss H xs vs) (e:vs[j]? =some v):∃x,xs[j]? =some x/\Is H x v:=by
 have hj:j<vs.length:=(A'.mp e).1;have hj':j<xs.length:=by rw [<-h.length];exact hj
 obtain⟨u,e1,k⟩:=h.get (A2 hj');rw [e] at e1;cases e1;exact⟨_,A2 hj',k⟩
theorem Iss.append {H:Hp}:∀{xs ys:List D}{vs ws:List V},Iss H xs vs->Iss H ys ws->Iss H (xs++ys) (vs++ws)
 |[],_,_,_,h,k=>by rw [b0_ h];exact k
 |x::xs,_,_,_,h,k=>by
  obtain⟨u,us,rfl,q,r⟩:=aV_ h;exact ap_ q (r.append k)
theorem Iss.take {H:Hp}:∀{xs:List D}{vs:List V} (n:Nat),Iss H xs vs->Iss H (xs.take n) (vs.take n)
 |[],_,n,h=>by rw [b0_ h];simp;exact an_
 |x::xs,_,0,h=>by simp;exact an_
 |x::xs,_,n+1,h=>by
  obtain⟨u,us,rfl,q,r⟩:=aV_ h;exact ap_ q (r.take n)
theorem Iss.drop {H:Hp}:∀{xs:List D}{vs:List V} (n:Nat),Iss H xs vs->Iss H (xs.drop n) (vs.drop n)
 |[],_,n,h=>by rw [b0_ h];simp;exact an_
 |x::xs,_,0,h=>h
 |x::xs,_,n+1,h=>by
  obtain⟨u,us,rfl,q,r⟩:=aV_ h;exact r.drop n
theorem Iss.rep {H:Hp}{x:D}{v:V} (h:Is H x v):∀n:Nat,Iss H (List.replicate n x) (List.replicate n v)
 |0=>an_
 |n+1=>by rw [Aq,Aq];exact ap_ h (Iss.rep h n)
mutual
def Kin:D->D->Prop
 | .i _, .i _=>True
 | .l xs, .l ys=>k8_ xs ys
 | .t xs, .t ys=>k8_ xs ys
 |_,_=>False
def k8_:List D->List D->Prop
 |x::xs,y::ys=>Kin x y/\k8_ xs ys
 |_,_=>True
end
mutual
def eqD:D->D->Bool
 | .i a, .i b=>decide (a=b)
 | .l xs, .l ys=>jj_ xs ys
 | .t xs, .t ys=>jj_ xs ys
 |_,_=>false
def jj_:List D->List D->Bool
 |[],[]=>true
 |x::xs,y::ys=>eqD x y&&jj_ xs ys
 |_,_=>false
end
mutual
def dep:D->Nat
 | .i _=>0
 | .l xs=>mV_ xs+1
 | .t xs=>mV_ xs+1
def mV_:List D->Nat
 |[]=>0
 |x::xs=>max (dep x) (mV_ xs)
end
mutual
theorem qv_:∀{a b:D},eqD a b=true↔a=b
 | .i a, .i b=>by simp [eqD]
 | .i _, .l _=>by simp [eqD]
 | .i _, .t _=>by simp [eqD]
 | .l _, .i _=>by simp [eqD]
 | .l xs, .l ys=>by simp [eqD,eI_ (xs:=xs) (ys:=ys)]
 | .l _, .t _=>by simp [eqD]
 | .t _, .i _=>by simp [eqD]
 | .t _, .l _=>by simp [eqD]
 | .t xs, .t ys=>by simp [eqD,eI_ (xs:=xs) (ys:=ys)]
theorem eI_:∀{xs ys:List D},jj_ xs ys=true↔xs=ys
 |[],[]=>by simp [jj_]
 |[],_::_=>by simp [jj_]
 |_::_,[]=>by simp [jj_]
 |x::xs,y::ys=>by simp [jj_,qv_ (a:=x) (b:=y),eI_ (xs:=xs) (ys:=ys)]
end
theorem he_:∀{xs ys:List D},xs.length=ys.length->jj_ xs ys=(List.range xs.length).all fun j=>eqD (xs.getD j (.i 0)) (ys.getD j (.i 0))
 |[],[],_=>by simp [jj_]
 |x::xs,y::ys,h=>by
  have ih:=he_ (xs:=xs) (ys:=ys) (by simpa using h);rw [jj_,ih,Ah,List.range_succ_eq_map];simp [List.all_map,Function.comp_def]
theorem km_ {xs ys:List D} (h:xs.length≠ys.length):jj_ xs ys=false:=by
 cases e:jj_ xs ys with
 |false=>rfl
 |true=>exact absurd (BR List.length (eI_.mp e)) h
mutual
theorem Is.eqr {K:W.Frag}{H:Hp}:∀{d e:D}{v w:V}{n:Nat},dep d<=n->Kin d e->Is H d v->Is H e w->EqR K H n v w (eqD d e)
 | .i a, .i b,_,_,n,_,_,h,k=>by
  rw [dV_ h,dV_ k,eqD];exact EqR.int n a b
 | .l xs, .l ys,_,_,0,hn,_,_,_=>absurd hn (by unfold dep;lia)
 | .l xs, .l ys,_,_,n+1,hn,hk,h,k=>by
  obtain⟨a,vs,rfl,ha,ra⟩:=b9_ h;obtain⟨b,ws,rfl,hb,rb⟩:=b9_ k;have hn':mV_ xs<=n:=by unfold dep at hn;lia
  have hk':k8_ xs ys:=by unfold Kin at hk;exact hk
  have l1:=ra.length;have l2:=rb.length;rw [eqD];by_cases hl:xs.length=ys.length
  .rw [he_ hl,<-l1];exact EqR.lists _ (SqL.of ha) (SqL.of hb) (by lia) fun j x y hx hy=>Iss.eqr hn' hk' ra rb hx hy
  .rw [km_ hl];exact EqR.lens (SqL.of ha) (SqL.of hb) (by lia)
 | .t xs, .t ys,_,_,0,hn,_,_,_=>absurd hn (by unfold dep;lia)
 | .t xs, .t ys,_,_,n+1,hn,hk,h,k=>by
  obtain⟨a,vs,rfl,ha,ra⟩:=l6_ h;obtain⟨b,ws,rfl,hb,rb⟩:=l6_ k;have hn':mV_ xs<=n:=by unfold dep at hn;lia
  have hk':k8_ xs ys:=by unfold Kin at hk;exact hk
  have l1:=ra.length;have l2:=rb.length;rw [eqD];have q:=EqR.tuples (d:=n) (fun j=>eqD (xs.getD j (.i 0)) (ys.getD j (.i 0))) (SqT.of (K:=K) ha) (SqT.of (K:=K) hb) fun j x y hx hy=>Iss.eqr hn' hk' ra rb hx hy;by_cases hl:xs.length=ys.length
  .rw [he_ hl];rw [l1,l2,<-hl,Nat.min_self] at q;simpa using q
  .rw [km_ hl];have z:(vs.length==ws.length)=false:=by rw [l1,l2];simpa using hl
   rw [z,C8] at q;exact q
 | .i _, .l _,_,_,_,_,hk,_,_=>by unfold Kin at hk;exact hk.elim
 | .i _, .t _,_,_,_,_,hk,_,_=>by unfold Kin at hk;exact hk.elim
 | .l _, .i _,_,_,_,_,hk,_,_=>by unfold Kin at hk;exact hk.elim
 | .l _, .t _,_,_,_,_,hk,_,_=>by unfold Kin at hk;exact hk.elim
 | .t _, .i _,_,_,_,_,hk,_,_=>by unfold Kin at hk;exact hk.elim
 | .t _, .l _,_,_,_,_,hk,_,_=>by unfold Kin at hk;exact hk.elim
theorem Iss.eqr {K:W.Frag}{H:Hp}:∀{xs ys:List D}{vs ws:List V}{n:Nat},mV_ xs<=n->k8_ xs ys->Iss H xs vs->Iss H ys ws->∀{j:Nat}{x y:V},vs[j]? =some x->ws[j]? =some y->
  EqR K H n x y (eqD (xs.getD j (.i 0)) (ys.getD j (.i 0)))
 |[],_,_,_,_,_,_,h,_,_,_,_,e,_=>by rw [b0_ h] at e;simp at e
 |_::_,[],_,_,_,_,_,_,k,_,_,_,_,e=>by rw [b0_ k] at e;simp at e
 |x::xs,y::ys,_,_,n,hn,hk,h,k,0,u,w,e1,e2=>by
  obtain⟨u',us,rfl,q,_⟩:=aV_ h;obtain⟨w',ws,rfl,q',_⟩:=aV_ k;simp at e1 e2;subst e1 e2;have hk':Kin x y/\k8_ xs ys:=by unfold k8_ at hk;exact hk
  have hd:dep x<=n:=by unfold mV_ at hn;lia
  exact Is.eqr (d:=x) (e:=y) hd hk'.1 q q'
 |x::xs,y::ys,_,_,n,hn,hk,h,k,j+1,u,w,e1,e2=>by
  obtain⟨u',us,rfl,_,r⟩:=aV_ h;obtain⟨w',ws,rfl,_,r'⟩:=aV_ k;have hk':Kin x y/\k8_ xs ys:=by unfold k8_ at hk;exact hk
  have hd:mV_ xs<=n:=by unfold mV_ at hn;lia
  have:=Iss.eqr (K:=K) hd hk'.2 r r' (j:=j) (by simpa using e1) (by simpa using e2);simpa using this
end
abbrev Pt:=Int×Int
def pt (p:Pt):D:= .t [.i p.1, .i p.2]
def hid (H:Hp) (a:Addr):Hp:=fun b=>if b=a then none else H b
theorem mH_ {H:Hp}{a b:Addr} (h:b≠a):hid H a b=H b:=by unfold hid;rw [A6 h]
theorem n7_ {H:Hp}{a:Addr}:hid H a a=none:=by unfold hid;rw [A8 rfl]
theorem n8_ {H:Hp}{a:Addr}:al_ (hid H a) H:=fun b o e=>by
 unfold hid at e;split at e
 .cases e
 .exact e
theorem cW_ {H H':Hp}{a:Addr} (s:al_ H H'):al_ (hid H a) (hid H' a):=fun b o e=>by
 unfold hid at e⊢;split at e
 .cases e
 .rename_i h;rw [A6 h];exact s b o e
end L2
namespace L2
open PySem PySem.Spec PyProof.Rows
section
variable {X:Cx}{es:List Expr}{t:TA}{pos:Pos}
def New (H:Hp) (o:HO) (Q:VK):Prop:=∀p H2,H p=none->al_ H H2->H2 p=some o->Q (.ref p) H2
theorem New.at {H:Hp}{o:HO}{Q:VK} (q:New H o Q) {p:Addr} (np:H p=none):Q (.ref p) (upd H p o):=q p _ np (al_.new np) ad_
def sT_ (t:TA):TE:=fun σ H Q=>t σ H fun xs H1=>xs.length<=sizeLine/\New H1 (.tup xs) Q
def sY_ (t:TA):TE:=fun σ H Q=>t σ H fun xs H1=>xs.length<=sizeLine/\New H1 (.lst xs) Q
theorem bu_ {x1} (h:PA X es t):PE X (.Tuple es x1 pos) (sT_ t):=by
 intro pins s σ H Q I hq;refine wpAny_Tuple_spliced (thn (h pos pins s σ H _ I hq) fun us s1 ⟨xs,H1,I1,r,z,q⟩=>⟨by rw [<-r.length];exact z, ?_⟩);refine⟨.ref s1.heap.objs.size,upd H1 s1.heap.objs.size (.tup xs),I1.laid (t':=s1.toks) (fun b u e=>AB _ e) (A7 _) ?_,rfl,q.at (I1.hok.fresh (A7 _))⟩;exact⟨z,us,r,⟨_,AI _ rfl,rfl,_,rfl⟩⟩
theorem aQ_ (h:PA X es t):PE X (.List es pos) (sY_ t):=by
 intro pins s σ H Q I hq;refine wpAny_List_spliced (thn (h pos pins s σ H _ I hq) fun us s1 ⟨xs,H1,I1,r,z,q⟩=>⟨by rw [<-r.length];exact z, ?_⟩);refine⟨.ref s1.heap.objs.size,upd H1 s1.heap.objs.size (.lst xs),I1.laid (t':=s1.toks) (fun b u e=>AB _ e) (A7 _) ?_,rfl,q.at (I1.hok.fresh (A7 _))⟩;exact⟨z,us,0,r,AI _ rfl⟩
theorem OpR.imp {f:Value->Value->Sem Value}{r r':R2} (h:OpR X f r) (k:∀x y H Q,r' x y H Q->r x y H Q):OpR X f r':=fun pins s σ H x y v u Q I rx ry q=>h pins s σ H x y v u Q I rx ry (k _ _ _ _ q)
theorem cu_.imp {f:Value}{r r':List V->Hp->VK->Prop} (h:cu_ X f r) (k:∀xs H Q,r' xs H Q->r xs H Q):cu_ X f r':=fun pins s σ H xs us Q I rs q=>h pins s σ H xs us Q I rs (k _ _ _ q)
theorem gB_:OpR X (binaryOp .Add) (fun x y H Q=>∃xs zs,Is H (.l xs) x/\Is H (.l zs) y/\xs.length+zs.length<=sizeLine/\∀p H2,H p=none->al_ H H2->Is H2 (.l (xs++zs)) (.ref p)->Q (.ref p) H2):=
 rR_.imp fun x y H Q ⟨xs,zs,hx,hz,hl,q⟩=>by
  obtain⟨a,vs,rfl,ha,ra⟩:=b9_ hx;obtain⟨b,ws,rfl,hb,rb⟩:=b9_ hz;exact⟨a,b,vs,ws,rfl,rfl,ha,hb,by rw [ra.length,rb.length];exact hl,fun p np=>q p _ np (al_.new np) (da_ ad_ ((ra.append rb).mono (al_.new np)))⟩
theorem lI_ {α:Type}{x:α}:∀n:Nat,(List.replicate n [x]).flatten=List.replicate n x
 |0=>rfl
 |n+1=>by rw [Aq,C2,lI_ n,Aq];rfl
theorem gA_:OpR X (binaryOp .Mult) (fun x y H Q=>∃d n,Is H (.l [d]) x/\y= .int n/\-(2^63)<=n/\n<2^63/\n.toNat<=sizeLine/\∀p H2,H p=none->al_ H H2->Is H2 (.l (List.replicate n.toNat d)) (.ref p)->Q (.ref p) H2):=
 l0_.imp fun x y H Q ⟨d,n,hx,ey,h1,h2,hl,q⟩=>by
  obtain⟨a,vs,rfl,ha,ra⟩:=b9_ hx;obtain⟨u,us,rfl,hu,ru⟩:=aV_ ra;rw [b0_ ru] at ha;refine⟨a,n,_,rfl,ey,ha,h1,h2,by rw [B4,Nat.one_mul];exact hl,fun p np=>q p _ np (al_.new np) ?_⟩;rw [lI_];exact da_ ad_ ((Iss.rep hu _).mono (al_.new np))
theorem fO_:cu_ X (.type "tuple") (fun vs H Q=>∃v xs,vs=[v]/\Is H (.l xs) v/\∀p H2,H p=none->al_ H H2->Is H2 (.t xs) (.ref p)->Q (.ref p) H2):=
 hk_.imp fun vs H Q ⟨v,xs,ev,hx,q⟩=>by
  subst ev;obtain⟨a,ws,rfl,ha,ra⟩:=b9_ hx;exact⟨a,ws,rfl, .inl ⟨SqL.of ha,fun p np=>q p _ np (al_.new np) (ng_ ad_ (ra.mono (al_.new np)))⟩⟩
theorem sL_ {α:Type}{xs:List α}{i:Int}{j:Nat}{x:α} (e:i=j) (h:xs[j]? =some x):atI xs i=some x:=by rw [e];exact m9_ h
theorem Iss.atI {H:Hp}{xs:List D}{vs:List V}{i:Int}{x:D} (h:Iss H xs vs) (e:L2.atI xs i=some x):∃u,L2.atI vs i=some u/\Is H x u:=by
 unfold L2.atI at e⊢;rw [h.length];cases q:ixN xs.length i with
 |none=>rw [q] at e;cases e
 |some j=>
  rw [q] at e;obtain⟨u,e1,k⟩:=h.get (j:=j) e;exact⟨u,e1,k⟩
theorem n3_:IxR X (fun x y H Q=>∃xs i d,Is H (.l xs) x/\y= .int i/\atI xs i=some d/\∀u,Is H d u->Q u H):=by
 intro value slice pins s σ H x y v u Q I rx ry h hs;obtain⟨xs,i,d,hx,ey,e,q⟩:=h;obtain⟨a,vs,rfl,ha,ra⟩:=b9_ hx;obtain⟨z,ez,hz⟩:=ra.atI e;exact b7_ value slice pins s σ H (.ref a) y v u Q I rx ry ⟨a,vs,i,z,rfl,ey,SqL.of ha,ez,q z hz⟩ hs
theorem aR_:IxR X (fun x y H Q=>∃xs i d,Is H (.t xs) x/\y= .int i/\atI xs i=some d/\∀u,Is H d u->Q u H):=by
 intro value slice pins s σ H x y v u Q I rx ry h hs;obtain⟨xs,i,d,hx,ey,e,q⟩:=h;obtain⟨a,vs,rfl,ha,ra⟩:=l6_ hx;obtain⟨z,ez,hz⟩:=ra.atI e;exact cj_ value slice pins s σ H (.ref a) y v u Q I rx ry ⟨a,vs,i,z,rfl,ey,SqT.of ha,ez,q z hz⟩ hs
end
end L2
namespace L2
open PySem PySem.Spec PyProof.Rows
section
variable {P:Program}{w:World}{H:Hp}{h:Heap}{a:Addr}{o:HO}
theorem aS_.obj (x:aS_ P w H h a o):∃ob,h.get? a=some ob:=by
 cases o with
 |lst xs=>obtain⟨_,_,_,_,e⟩:=x;exact⟨_,e⟩
 |tup xs=>obtain⟨_,_,_,_,e,_⟩:=x;exact⟨_,e⟩
 |dK kvs=>obtain⟨_,_,_,_,_,_,_,e,_⟩:=x;exact⟨_,e⟩
 |dT kvs=>obtain⟨_,_,_,_,_,_,_,e,_⟩:=x;exact⟨_,e⟩
 |set S n=>obtain⟨_,_,_,_,e,_⟩:=x;exact⟨_,e⟩
 |ins C dx fs=>obtain⟨_,_,_,e,_⟩:=x;exact⟨_,e⟩
 |own y=>exact x
 |xd fs=>obtain⟨_,⟨_,_,_,e,_⟩,_⟩:=x;exact⟨_,e⟩
 |rng lo hi=>obtain⟨_,_,_,e⟩:=x;exact⟨_,e⟩
 |frz ob u=>exact⟨_,x.1⟩
 |tbl ps=>exact⟨_,x⟩
 |met f y=>exact⟨_,x⟩
 |ext φ=>exact x.2.1
end
def CX1 (P:Program) (w:World):CXT:=fun outer H s E e s'=>
 ∃(a C:Addr) (H':Hp) (B:Heap) (a0:Value),e= .ref a/\E (.ref C) none H'/\s'.os=s.os/\AllBare s'.gens/\Un (frs outer) [] H H' s.heap s'.heap/\HOk P w H' B/\H' a=none/\
  Heap.FlyingW B outer a (.ref C) a0 s'.heap/\(∀b o,s.heap.get? b=some o->H b=none->b∉frs outer->B.get? b=some o)/\(∀b o,s.heap.get? b=some o->b∉frs outer->∃o',B.get? b=some o')
def ne_ (X:Cx) (E:XK):Prop:=∀(pins:List (Addr×Obj)) (σ:St) (H:Hp) (s:Shared) (h':Heap) (e C:Addr) (args:List Value),Inv X pins σ H s->Heap.MadeExcOf s.heap h' e (.ref C) args->E (.ref C) none H->X.xe (.ref e) {s with heap:=h'}
theorem jQ_ {X:Cx}{P:Program}{w:World}:ge_ (CX1 P w) X E0:=fun _ _ _ _ _ _ _ ⟨_,_,_,_,_,_,z,_⟩=>z.elim
section
variable {X:Cx}{pins:List (Addr×Obj)}{σ:St}{H H':Hp}{s s':Shared}{B h':Heap}{l:List Env}
theorem ox_ (u:Un (frs l) [] H H' s.heap s'.heap) (fl:s'.heap.FunFrames B l) (kB:∀b o,s.heap.get? b=some o->H b=none->b∉frs l->B.get? b=some o) (tB:∀b o,s.heap.get? b=some o->b∉frs l->∃o',B.get? b=some o')
  (st:B.StaysIn h') (up:s'.heap.UpToSlots h'):Un (frs l) [] H H' s.heap h' where
 keep:=fun b o e n hb _=>st b o (kB b o e n hb)
 slot:=fun b o e n hb hx=>by
  obtain⟨sl,e1⟩:=u.slot b o e n hb hx;obtain⟨_,o',e2,d⟩:=fl.mem hb;rw [e1] at e2;cases e2;obtain⟨sl',e3⟩:=up b _ e1 d;exact⟨sl',e3⟩
 free:=u.free
 there:=fun b o e hx=>by
  by_cases hb:b∈frs l
  .obtain⟨_,o',e2,d⟩:=fl.mem hb;obtain⟨sl',e3⟩:=up b _ e2 d;exact⟨_,e3⟩
  .obtain⟨o',e2⟩:=tB b o e hb;exact⟨o',st b o' e2⟩
 tups:=u.tups
 frzs:=u.frzs
 tbls:=u.tbls
theorem Inv.nstk (I:Inv X pins σ H s) {b:Addr}{o:Obj} (e:X.s₀.heap.get? b=some o) (hb:b∉X.fs):b∉frs X.stack:=fun z=>by
 rcases AO.mp (I.stkSub b z) with q|q
 .exact absurd q (AK (Ad (AG e) I.ok.above))
 .exact hb q
theorem sh_ {env:Env}{b:Addr} (he:env∈l) (hf:env.frame=some b):b∈frs l:=D4.mpr ⟨env,he,hf⟩
theorem Inv.hidden (I:Inv X pins σ H s):HOk X.prog X.w H (W.hideAll s.heap (frs X.stack)):=fun a o e=>by
 refine(I.hok a o e).stay (fun b u hb q=>W.hideAll_get _ q fun z=> ?_) (fun _ q=>q) fun _ _ q=>q;have n:=I.stkFree b z;rcases hb with rfl|hb
 .rw [n] at e;cases e
 .rw [n] at hb;cases hb
structure Fnc (X:Cx):Prop where
 ex:X.ex=[]
 stk:X.stack=X.env::X.outer
 fr:X.env.frame=some X.env.locals
theorem CX1.mk {E:XK}{e C:Addr}{a0:Value} (F:Fnc X) (I:Inv X pins σ H s) (os:s'.os=s.os) (bare:AllBare s'.gens) (u:Un (frs X.stack) [] H H' s.heap s'.heap) (hB:HOk X.prog X.w H' B) (hE:E (.ref C) none H') (hn:H' e=none)
  (fl:Heap.FlyingW B X.outer e (.ref C) a0 s'.heap) (kB:∀b o,s.heap.get? b=some o->H b=none->b∉frs X.stack->B.get? b=some o) (tB:∀b o,s.heap.get? b=some o->b∉frs X.stack->∃o',B.get? b=some o'):
  CX1 X.prog X.w X.outer X.H₀ X.s₀ E (.ref e) s':=by
 have J:Inv X pins σ H' s':=I.call' (ch:=[]) os u (hB.kept fl.1) bare fun _ z=>absurd z (by simp);have ub:Un X.fs X.ex X.H₀ H' X.s₀.heap s'.heap:=J.base;have nx:∀b:Addr,b∉X.ex:=fun b=>by rw [F.ex];simp
 rw [F.ex] at ub;refine⟨e,C,H',B,a0,rfl,hE,J.os,J.bare,ub,hB,hn,fl,fun b o q n hb=> ?_,fun b o q hb=> ?_⟩
 .exact kB b o (I.base.keep b o q n hb (nx b)) (I.base.free b o q n (nx b)) (I.nstk q hb)
 .obtain⟨o',q'⟩:=I.base.there b o q (nx b);exact tB b o' q' (I.nstk q hb)
theorem lJ_ {CX:CXT}{E:XK} (F:Fnc X) (hcx:CX=CX1 X.prog X.w) (hxe:X.xe=fun e s'=>wpAny (model X.prog X.w) X.A (leaving X.env e) (fun _ s''=>CX X.outer X.H₀ X.s₀ E e s'') (fun e' s''=>CX X.outer X.H₀ X.s₀ E e' s'') s'):ne_ X E:=by
 intro pins σ H s h' e C args I hx hE;subst hcx;rw [hxe];have fb:=I.stack;have hl:s.heap.FunFrames (W.hideAll s.heap (frs X.stack)) (X.env::X.outer):=by
  rw [F.stk] at fb⊢;exact W.funFrames_hide fb fun env he b hb=>sh_ he hb
 refine wpAny_leaves_madeW (base:=W.hideAll s.heap (frs X.stack)) (by rw [I.ok.frames,F.stk]) F.fr (fun b o q=>W.of_hideAll _ q) hl hx fun h'' t fl _ _ up=> ?_;have kB:∀b o,s.heap.get? b=some o->b∉frs X.stack->(W.hideAll s.heap (frs X.stack)).get? b=some o:=fun b o q n=>W.hideAll_get _ q n;have hn:H e=none:=by
  cases q:H e with
  |none=>rfl
  |some o=>
   obtain⟨ob,z⟩:=(I.hok e o q).obj;rw [hx.new] at z;cases z
 have u0:Un (frs X.stack) [] H H s.heap h':=Un.kept hx.keeps;have fl':h'.FunFrames (W.hideAll s.heap (frs X.stack)) X.stack:=by
  rw [F.stk];rw [F.stk] at hl;exact hl.of_keeps fun b o q _=>⟨o,hx.keeps b o q,rfl⟩
 have u:Un (frs X.stack) [] H H s.heap h'':=ox_ (s':={s with heap:=h'}) u0 fl' (fun b o q _ n=>kB b o q n) (fun b o q n=>⟨o,kB b o q n⟩) fl.1 up;exact CX1.mk (s':={s with heap:=h''}) F I rfl I.bare u I.hidden hE hn fl (fun b o q _ n=>kB b o q n) (fun b o q n=>⟨o,kB b o q n⟩)
theorem lW_ {CX:CXT}{E:XK} (F:Fnc X) (hcx:CX=CX1 X.prog X.w) (hxe:X.xe=fun e s'=>wpAny (model X.prog X.w) X.A (leaving X.env e) (fun _ s''=>CX X.outer X.H₀ X.s₀ E e s'') (fun e' s''=>CX X.outer X.H₀ X.s₀ E e' s'') s'):ge_ (CX1 X.prog X.w) X E:=by
 intro pins σ H s e s' I hc;subst hcx;rw [hxe];obtain⟨a,C,H',B,a0,rfl,hE,os,bare,u,hB,hn,fl,kB,tB⟩:=hc;refine wpAny_leaves_onW (by rw [I.ok.frames,F.stk]) F.fr (by rw [<-F.stk];exact fl) fun h'' fl'' up=> ?_;exact CX1.mk (s':={s' with heap:=h''}) F I os bare (ox_ u fl.2.2.1 kB tB fl''.1 up) hB hE hn fl'' kB tB
end
theorem Fun.okx {P:Program}{w:World}{K:W.Frag}{mg:Str->Option Value}{base:Heap}{x qual:Str}{st:Stmt}{f:Addr}{fd:FuncData}{N ps:List Str}{k:Nat}{sp:Sp} (F:Fun K x qual st f fd) (S:FnScope N ps (af_ st)) (len:∀vs H Q E,sp vs H Q E->vs.length=ps.length)
  (hbody:∀(cdv:Value) (A:Around) (outer:List Env) (s:Shared) (H:Hp) (vs:List V) (Q:VK) (E:XK),Room k (A.deeper (envOfC qual (af_ st) s.heap.objs.size f cdv))->sp vs H Q E->
   ne_ (nh_ (CX1 P w) P w K mg base N qual (af_ st) f cdv A outer s H E) E->ge_ (CX1 P w) (nh_ (CX1 P w) P w K mg base N qual (af_ st) f cdv A outer s H E) E->
   ∃t,PSs (nh_ (CX1 P w) P w K mg base N qual (af_ st) f cdv A outer s H E) (bT_ st) t/\t {nx:=fun _ H'=>Q .non H',rt:=Q} (start N vs) H):FnOk P w K mg base (CX1 P w) (k+1) f fd ps sp:=by
 obtain⟨oc,od,kV,doc,pm,an,cdv,ct,osl,rfl,lk,hcd⟩:=F.ex;refine si_ lk hcd S len fun A outer s H vs Q E hr hsp=> ?_;have Fn:Fnc (nh_ (CX1 P w) P w K mg base N qual (af_ st) f cdv A outer s H E):=⟨rfl,rfl,rfl⟩;exact hbody cdv A outer s H vs Q E hr hsp (lJ_ Fn rfl rfl) (lW_ Fn rfl rfl)
section
variable {X:Cx}{pos np cpos:Pos}{x:Str}{C:Addr}{E:XK}{e:Expr}{es:List Expr}{t:TA}
abbrev bmV:List Value:=[.type "ValueError", .type "Exception", .type "BaseException", .type "object"]
theorem qt_ {K:W.Frag}{h:Heap}{bmB:List Value}{newId:String} (Y:K.In h) (q:W.excIn K C bmB newId=true):
  ∃bm N nm qn bs hdct sn sub ab col dd k0 k1 k2 k3 k5 mN,h.get? C=some (excClassObj nm qn C N bs bm hdct sn sub ab col dd k0 k1 k2 k3 k5 newId)/\h.Ns N mN/\mN "__init__"=none/\OwnTail h bmB bm:=by
 unfold W.excIn at q;split at q
 case h_2=>cases q
 rename_i dd cd sl ho;split at q
 case h_2=>cases q
 rename_i C' bm k0 k1 k2 k3 n k5 hm hs;rw [A9,A9,A9,A9,A9,D3,D3,D3,Bool.not_eq_true'] at q;obtain⟨⟨⟨⟨⟨e1,e2⟩,e3⟩,e4⟩,e5⟩,e6⟩:=q;subst e1 e2;rcases cd with⟨nm,bs,mro,ns,qn,hd,sn,sub,ab,col,del⟩;dsimp only at hm e3 e5 e6;subst hm e3;have hsl:sl= #[k0,k1,k2,k3,some (.builtin n),k5]:=by
  rcases sl with⟨l⟩;have hs':l=_:=hs;rw [hs']
 subst hsl;exact⟨bm,ns,nm,qn,bs,hd,sn,sub,ab,col,dd,k0,k1,k2,k3,k5,_,Y _ _ ho, .of_isNs (W.isNs_of_in Y e5),W.nsMap_none_of_in Y e5 e6,W.tail_of_in Y e4⟩
def oz_ (C:Addr) (E:XK) (t:TA):TS:=fun _ σ H=>t σ H fun vs H1=>vs.length<=sizeLine/\E (.ref C) none H1
theorem nF_ (hR:ne_ X E) (hg:Gl X x) (hm:X.mg x=some (.ref C)) (hC:W.excIn X.K C bmV "ValueError.__new__"=true) (hc:X.calm=true) (ha:PA X (e::es) t) (hdb:(x==("__debug__":Str))=false:=by decide)
  (he:starEach (e::es) X.env=(false,eval e X.env)::starEach es X.env:=by rfl) (hpl:(backTo cpos (starEach es X.env)).any (·.1)=false:=by rfl):
  PS X (.Raise (some (.Call (.Name x np) (e::es) [] cpos)) none pos) (oz_ C E t):=by
 intro pins s σ H D I h;have hcl:=I.ok.mod.kin;obtain⟨bm',N',nm',qn',bs',hdct',sn',sub',ab',col',dd',k0',k1',k2',k3',k5',mN',hCb,hNb,hnib,TLb⟩:=qt_ hcl hC;refine wpAny_Raise_call_subT (q:=qn') (N:=N') (bs:=bs') (bm:=bm') (hdct:=hdct') (sn:=sn') (sub:=sub') (ab:=ab') (col:=col') (dd:=dd') (k0:=k0') (k1:=k1') (k2:=k2') (k3:=k3') (k5:=k5') (nm:=nm') (mN:=mN') PySem.F.excBase_ValueError
  (TLb.hasType (by ac_nf)) (I.ok.hd hc) (by rw [he];show(false||(backTo cpos (starEach es X.env)).any (·.1))=false;rw [hpl];rfl) hnib (i9_ I hg hm ⟨rfl, ?_⟩ hdb)
 have h2:=ha cpos pins s σ H _ I h;rw [he] at h2⊢;refine Calls.evalArgs_plain (thn h2 fun us s1 ⟨vs,H1,I1,r,hz,hE⟩=>⟨rfl,by rw [<-r.length];exact hz,I1.bk _ _ hCb,hNb.keeps I1.bk,TLb.keeps I1.bk,fun h' e' hx=> ?_⟩);exact hR pins σ H1 s1 h' e' C us I1 hx hE
end
theorem PS.quiet {X:Cx}{st:Stmt}{t:TS} (h:PS X.nox st t):PS X st t:=fun pins s σ H D I hw=>BJ (h pins s σ H D (I.wish _) hw) (fun _ _ q=>q.unwish) fun _ _ z=>False.elim z
section
variable {X:Cx}{pos:Pos}{e v:Expr}{es:List Expr}{te:TE}
abbrev TJ:=Str->St->Hp->VK->Prop
def PJ (X:Cx) (es:List Expr) (t:TJ):Prop:=∀(out:Str) (pins:List (Addr×Obj)) (s:Shared) (σ:St) (H:Hp) (Q:VK),Inv X pins σ H s->t out σ H Q->wpAny (model X.prog X.w) X.A (joinParts out (evalEach es X.env)) (EP X pins σ Q) X.xe s
def tJn:TJ:=fun out _ H Q=>out.length<=sizeLine/\Q (.str out) H
def tJc (te:TE) (tr:TJ):TJ:=fun out σ H Q=>te σ H fun x H1=>∃y,x= .str y/\(out++y).length<=sizeLine/\tr (out++y) σ H1 Q
theorem rG_:PJ X [] tJn:=fun out pins s σ H Q I h=>joinParts_nil ⟨.str out,H,I.tok _,⟨_,rfl⟩,h.2⟩ h.1
theorem gx_ {tr:TJ} (he:PE X e te) (hr:PJ X es tr):PJ X (e::es) (tJc te tr):=by
 intro out pins s σ H Q I h;show wpAny _ _ (joinParts out (eval e X.env::evalEach es X.env)) _ _ _;refine joinParts_cons (thn (he pins s σ H _ I h) fun u s1 ⟨x,H1,I1,r1,y,ex,hz,q1⟩=> ?_);subst ex;obtain⟨tk,rfl⟩:=r1;exact⟨hz,hr (out++y) pins s1 σ H1 Q I1 q1⟩
theorem pT_ {v2:Expr}{t:TJ} (h:PJ X (e::v2::es) t):PE X (.JoinedStr (e::v2::es) pos) (fun σ H Q=>t Str.empty σ H Q):=fun pins s σ H Q I hq=>JoinedStr_many (h Str.empty pins s σ H Q I hq)
theorem lT_ (hv:PE X v te):PE X (.FormattedValue v (-1) none pos) (fun σ H Q=>te σ H fun x H1=>∃i,x= .int i/\i.natAbs.log2<1920/\Q (.str (toString i)) H1):=by
 intro pins s σ H Q I h;refine FormattedValue_plain (thn (hv pins s σ H _ I h) fun u s1 ⟨x,H1,I1,r1,i,ex,hz,q1⟩=> ?_);subst ex;obtain⟨tk,rfl⟩:=r1;exact formatField_int_small hz ⟨.str _,H1,I1.tok _,⟨_,rfl⟩,q1⟩
end
section
variable {X:Cx}{CX:CXT}{ps:List Str}{sp:Sp}{E:XK}{x:Str}{p pos:Pos}{e:Expr}{es:List Expr}{t:TA}{i:Nat}
end
end L2
namespace L2
open PySem PySem.Calls PyProof.Rows PySem.W Builtin Builtin.ObjectAttr Builtin.Getset_descriptor
structure XC (K:Frag) (C:Addr):Prop where
 cl:(clsIn K C).isSome=true
 ga:findIn K (.ref C) "__getattribute__"=some (some (.builtin "BaseException.__getattribute__"))
 gt:findIn K (.ref C) "__getattr__"=some none
 ca:findIn K (.ref C) "__class__"=some (some (.builtin "object.__class__"))
 gn:specialIn K (.builtin "object.__class__") "__get__"=some (some (.builtin "getset_descriptor.__get__"))
 tk:takesIn K (.builtin "object.__class__")=some true
 ob:mroIn K C (.type "object")=some true
 be:mroIn K C (.type "BaseException")=some true
section
variable {prog:Program}{w:World}{A:Around}{E:Value->Shared->Prop}{K:Frag}{x C:Addr}{h:Heap}{g:Array GenState}{d:Drawn}{t:Nat}{os:OsState}
end
section
variable {X:Cx}
end
end L2
namespace L2
open PySem PySem.Spec PyProof.Rows PySem.W
section
variable {X:Cx}{pins pn:List (Addr×Obj)}{σ:St}{H H':Hp}{s s':Shared}{z:Value->Shared->Prop}{e:Addr}
end
end L2
namespace L2
open PySem PySem.Spec PyProof.Rows
section
variable {X:Cx}{tg:Expr}
end
end L2
namespace L2
open PySem PySem.Spec PyProof.Rows
def nd_ (H:Hp) (v:V):Prop:=(∃i,v= .int i)\/(∃b,v= .bl b)\/v= .non\/(∃x,v= .str x)\/(∃a xs,v= .ref a/\H a=some (.lst xs))\/(∃a xs,v= .ref a/\H a=some (.tup xs))
def isI (v:V):Bool:=match v with
 | .int _=>true
 |_=>false
def Within (lo hi:Int) (v:V):Prop:=∃i,v= .int i/\lo<=i/\i<=hi
theorem kx_ {lo hi:Int}{v:V} (h:Within lo hi v):isI v=true:=by obtain⟨i,rfl,_⟩:=h;rfl
theorem h8_ {K:W.Frag}:W.kitOne K (.type "NoneType") (.type "int")=some false:=f3_ (by ac_nf) (by ac_nf) (by ac_nf)
theorem ja_ {K:W.Frag}:W.kitOne K (.type "str") (.type "int")=some false:=f3_ (by ac_nf) (by ac_nf) (by ac_nf)
theorem h9_ {K:W.Frag}:W.kitOne K (.type "list") (.type "int")=some false:=f3_ (by ac_nf) (by ac_nf) (by ac_nf)
theorem g3_ {K:W.Frag}:W.kitOne K (.type "tuple") (.type "int")=some false:=f3_ (by ac_nf) (by ac_nf) (by ac_nf)
def ns_:Sp:=fun vs H Q _=>∃v,vs=[v]/\nd_ H v/\Q (.bl (isI v)) H
end L2
namespace L2
open PySem PySem.Spec PyProof.Rows
section
variable {X:Cx}{pins:List (Addr×Obj)}{σ:St}{H:Hp}{s:Shared}{h':Heap}{ch:List Addr}{t':Nat}
theorem jt_.chs (hf:∀b∈ch,jt_ X pins H b):∀b∈ch,(b∈X.ex\/X.s₀.heap.objs.size<=b)/\b≠X.env.locals/\(∀x c,X.env.cells.lookup x=some c->c≠b)/\∀p∈X.pn++pins,p.1≠b:=fun b hb=>by
 obtain⟨_,a2,_,a4,a5,a6⟩:=hf b hb;exact⟨a4,a2,a5,a6⟩
theorem Inv.turnAll (I:Inv X pins σ H s) (hf:∀b∈ch,jt_ X pins H b) (k:∀b o,b∉ch->s.heap.get? b=some o->h'.get? b=some o):Inv X pins σ H {s with heap:=h',toks:=t'}:=by
 have nin:∀{b u},H b=some u->b∉ch:=fun e z=>by rw [(hf _ z).1] at e;cases e
 refine I.step (g':=s.gens) (d':=s.drawn) (ch:=ch) (jt_.chs hf) (fun b o _ _ c e _=>k b o c e) (fun b o _ _ c e _=>⟨o.slots,k b o c e⟩) (fun _ _ _ _ n=>n) (fun b o c e=>⟨o,k b o c e⟩) (fun _ _ e=>e) (fun _ _ _ e=>e) (fun b ps e=>⟨#[],by rw [e];simp⟩) (fun m hm=> ?_) (fun b u e=> ?_) I.bare
 .obtain⟨o,es,ep,ho,r⟩:=hm;exact⟨o,es,ep,k _ o (fun z=>(hf _ z).2.1 rfl) ho,r⟩
 .refine(I.hok b u e).stay (fun c v hc q=>k c v ?_ q) (fun _ q=>q) fun _ _ q=>q;rcases hc with z|z
  .rw [z];exact nin e
  .exact nin z
theorem Inv.turnNew {o:HO} (I:Inv X pins σ H s) (hf:∀b∈ch,jt_ X pins H b) (k:∀b ob,b∉ch->s.heap.get? b=some ob->h'.get? b=some ob) (new:aS_ X.prog X.w (upd H s.heap.objs.size o) h' s.heap.objs.size o):
  Inv X pins σ (upd H s.heap.objs.size o) {s with heap:=h',toks:=t'}:=by
 have nf:H s.heap.objs.size=none:=I.hok.fresh (A7 _);have nin:∀{b u},H b=some u->b∉ch:=fun e z=>by rw [(hf _ z).1] at e;cases e
 refine I.step (g':=s.gens) (d':=s.drawn) (ch:=ch) (jt_.chs hf) (fun b o _ _ c e _=>k b o c e) (fun b o _ _ c e _=>⟨o.slots,k b o c e⟩) (fun b ob c e n=> ?_) (fun b o c e=>⟨o,k b o c e⟩) (fun b ys e=> ?_) (fun b o u e=> ?_) (fun b ps e=>⟨#[], ?_⟩) (fun m hm=> ?_) (fun b u e=> ?_) I.bare
 .rw [ar_ (AK (AG e))];exact n
 .rw [ar_ (av_ e nf)];exact e
 .rw [ar_ (av_ e nf)];exact e
 .rw [ar_ (av_ e nf),e];simp
 .obtain⟨o,es,ep,ho,r⟩:=hm;exact⟨o,es,ep,k _ o (fun z=>(hf _ z).2.1 rfl) ho,r⟩
 .by_cases hb:b=s.heap.objs.size
  .subst hb;rw [ad_] at e;cases e;exact new
  .rw [ar_ hb] at e;refine(I.hok b u e).stay (fun c v hc q=>k c v ?_ q) (fun c q=> ?_) fun c ys q=> ?_
   .rcases hc with z|z
    .rw [z];exact nin e
    .exact nin z
   .rw [ar_ (av_ q nf)];exact q
   .rw [ar_ (av_ q nf)];exact q
end
def Itz (K : W.Frag) (a b : Addr) : It :=
  ⟨fun i H => ∃ xs x ys y, SqL K H a xs /\ SqL K H b ys /\ xs[i]? = some x /\ ys[i]? = some y,
   fun i H v H' => ∃ x y p, (∀ xs, SqL K H a xs -> xs[i]? = some x) /\ (∀ ys, SqL K H b ys -> ys[i]? = some y) /\ v = .ref p /\ H p = none /\ H' = upd H p (.tup [x, y]),
   fun i H => ∃ xs ys, SqL K H a xs /\ SqL K H b ys /\ (xs.length <= i \/ ys.length <= i)⟩
theorem nm_ {P:Program}{w:World}{K:W.Frag}{elts:List Expr}{k:Nat}{pos:Pos}{z TI TO i1 i2 a b:Addr} (D:ZipApart z TI TO i1 i2 a b):
  Turn P w K (.Tuple elts k pos) (Itz K a b) [z,TI,TO,i1,i2] z (fun i h=>IsZip h z TI TO .none/\IsPair h TI (.ref i1) (.ref i2)/\(∃x y,IsPair h TO x y)/\h.IsListIter i1 a i/\h.IsListIter i2 b i) where
 mem:=by simp
 obj:=fun i h st c hc=>by
  obtain⟨h1,h2,⟨x,y,h3⟩,⟨o4,h4,_,d4⟩,⟨o5,h5,_,d5⟩⟩:=st;simp only [AO,B5,C6] at hc;rcases hc with rfl|rfl|rfl|rfl|rfl
  .exact⟨_,h1,fun v q=>by cases q⟩
  .exact⟨_,h2,fun v q=>by cases q⟩
  .exact⟨_,h3,fun v q=>by cases q⟩
  .exact⟨_,h4,fun v q=>by rw [d4] at q;cases q⟩
  .exact⟨_,h5,fun v q=>by rw [d5] at q;cases q⟩
 keep:=fun i h h' st kk=>⟨kk z (by simp) _ st.1,kk TI (by simp) _ st.2.1,st.2.2.1.imp fun x q=>q.imp fun y q=>kk TO (by simp) _ q,st.2.2.2.1.at fun o q=>kk i1 (by simp) o q,st.2.2.2.2.at fun o q=>kk i2 (by simp) o q⟩
 item:=by
  intro X hP hw hK hc i pins s σ H E I hf st hg;subst hP hw hK;obtain⟨xs,x,ys,y,hqa,hqb,hx,hy⟩:=hg;obtain⟨as,ra,pa,za⟩:=I.list hqa;obtain⟨bs,rb,pb,zb⟩:=I.list hqb;obtain⟨u,hu,ru⟩:=ra.get hx;obtain⟨v,hv,rv⟩:=rb.get hy;obtain⟨hz,hTI,⟨_,_,hTO⟩,h1,h2⟩:=st;have ltz:z<s.heap.objs.size:=AG hz;refine wpAny_pyNext_zip_item D hz hTI hTO h1 h2 pa.isList pb.isList (x:=u) (y:=v) (by simpa using hu) (by simpa using hv) fun h' hz' hTO' h1' h2' hT hsz hk=>⟨.ref s.heap.objs.size,rfl, ?_⟩;refine wpAny_letOwnedTupleGo_zip hz' fun h3 hz3 sb=> ?_;have kk:∀c o,c∉[z,TI,TO,i1,i2]->s.heap.get? c=some o->h3.get? c=some o:=fun c o n e=>by
   simp only [AO,B5,C6,not_or] at n;exact(sb.2 c n.1).trans (hk c o n.1 n.2.2.1 n.2.2.2.1 n.2.2.2.2 e)
  have hT3:h3.get? s.heap.objs.size=some {cls:= .type "tuple",data:= .seq #[u,v]}:=(sb.2 _ (Bu ltz)).trans hT;have hTI3:IsPair h3 TI (.ref i1) (.ref i2):=(sb.2 _ D.TIz).trans (hk _ _ D.TIz D.TITO D.TIi1 D.TIi2 hTI);refine⟨.ref s.heap.objs.size,upd H s.heap.objs.size (.tup [x,y]),I.turnNew (t':=s.toks) hf kk ⟨by show 2<=sizeLine;decide,[u,v], .cons ru (.cons rv .nil),⟨_,hT3,rfl,_,rfl⟩⟩,rfl,
   ⟨x,y,_,fun zs hy'=>by rw [I.list_inj hy' hqa];exact hx,fun zs hy'=>by rw [I.list_inj hy' hqb];exact hy,rfl,I.hok.fresh (A7 _),rfl⟩,
   ⟨hz3,hTI3,⟨_,_,(sb.2 _ D.TOz).trans hTO'⟩,h1'.at fun o q=>(sb.2 _ D.i1z).trans q,h2'.at fun o q=>(sb.2 _ D.i2z).trans q⟩,fun c hc=> ?_⟩
  have there:∃o,s.heap.get? c=some o:=by
   simp only [AO,B5,C6] at hc;rcases hc with rfl|rfl|rfl|rfl|rfl
   .exact⟨_,hz⟩
   .exact⟨_,hTI⟩
   .exact⟨_,hTO⟩
   .exact h1.imp fun o q=>q.1
   .exact h2.imp fun o q=>q.1
  obtain⟨o,q⟩:=there;rw [ar_ (AK (AG q))];exact(hf c hc).1
 done:=by
  intro X hP hw hK hc i pins s σ H E I hf st hg;subst hP hw hK;obtain⟨xs,ys,hqa,hqb,hx⟩:=hg;obtain⟨as,ra,pa,za⟩:=I.list hqa;obtain⟨bs,rb,pb,zb⟩:=I.list hqb;obtain⟨hz,hTI,⟨_,_,hTO⟩,h1,h2⟩:=st;have la:=ra.length;have lb:=rb.length;refine wpAny_pyNext_zip_end (I.ok.hd hc) D hz hTI hTO h1 h2 pa.isList pb.isList ?_ fun h' hk=>⟨rfl,I.turnAll (t':=s.toks) hf fun c o n e=> ?_⟩
  .rcases hx with q|q
   .exact .inl (by simp;lia)
   .exact .inr (by simp;lia)
  .simp only [AO,B5,C6,not_or] at n;exact hk c o n.1 n.2.2.1 n.2.2.2.1 n.2.2.2.2 e
 self:=fun _ _ _ _ _ st h=>wpAny_pyIter_zip st.1 h
section
variable {X:Cx}{elts:List Expr}{k:Nat}{tpos p pos:Pos}{e f:Expr}{te tf:TE}
def uF_ (K:W.Frag) (ta:TA):TI:=fun σ H R=>ta σ H fun vs H1=>∃a b,vs=[.ref a, .ref b]/\(∃xs,SqL K H1 a xs)/\(∃ys,SqL K H1 b ys)/\R (Itz K a b) H1
theorem rH_ {ta:TA} (hg:Gl X "zip") (hm:X.mg "zip"=none) (hl:PA X [e,f] ta) (he:starEach [e,f] X.env=(false,eval e X.env)::starEach [f] X.env:=by rfl) (hp:(backTo pos (starEach [f] X.env)).any (·.1)=false:=by rfl):
  PI X (.Tuple elts k tpos) (.Call (.Name "zip" p) [e,f] [] pos) (uF_ X.K ta):=by
 intro pins s σ H R I h;refine BQ (cL_ I hg hm PyProof.Rows.Boot.«zip» ?_);refine BB (thn (hl _ pins s σ H _ I h) fun us s1 ⟨vs,H1,I1,r1,a,b,ev,⟨xs,hqa⟩,⟨ys,hqb⟩,q⟩=> ?_) he hp;subst ev;obtain⟨u,v,rfl,ru,rv⟩:=pn_ r1;obtain rfl:u=Value.ref a:=ru;obtain rfl:v=Value.ref b:=rv;obtain⟨as,ra,pa,za⟩:=I1.list hqa;obtain⟨bs,rb,pb,zb⟩:=I1.list hqb;have la:a<s1.heap.objs.size:=let ⟨_,q,_⟩:=pa.isList;AG q;have lb:b<s1.heap.objs.size:=let ⟨_,q,_⟩:=pb.isList;AG q;refine call_zip_2 pa.isList pb.isList fun h' hz hTI hTO h1 h2 hsz hk=> ?_;refine wpAny_pyIter_zip hz ?_;refine⟨_,[_,_,_,_,_],_,_,H1,rfl,I1.kept (t':=s1.toks) hk,nm_ (zipApart_new la lb),⟨hz,hTI,⟨_,_,hTO⟩,h1,h2⟩,fun c hc=> ?_,q⟩;have fr:∀c,s1.heap.objs.size<=c->jt_ X pins H1 c:=fun c z=>I1.fpOk z (I1.hok.fresh z);simp only [AO,B5,C6] at hc;rcases hc with rfl|rfl|rfl|rfl|rfl<;>exact fr _ (by lia)
end
theorem oo_ {K:W.Frag}{a b:Addr}{xs ys:List V}{n:Nat}{own:Nat}{js:List Nat}{g:TG}{ti:TT}{te:TE}{σ:St}{H1:Hp}{acc:Addr}{Q:VK} (hn:n=min xs.length ys.length) (Pv:Nat->Hp->Prop) (h0:Pv 0 (upd H1 acc (.lst []))) (hl:∀i H2,i<=n->Pv i H2->SqL K H2 a xs/\SqL K H2 b ys)
  (hs:∀i x y H2 p,xs[i]? =some x->ys[i]? =some y->Pv i H2->H2 p=none->g (.ref p) (m3_ own js σ) (upd H2 p (.tup [x,y])) fun σ4 H4=>ti σ4 H4 fun b H5=>if b=true then te σ4 H5 fun y H6=>eZ_ (.ref acc) [y] H6 fun _ H7=>Pv (i+1) H7 else Pv (i+1) H5) (hd:∀H2,Pv n H2->Q (.ref acc) H2)
  (mono:∀σ H (R R':St->Hp->Prop) x,(∀σ' H',R σ' H'->R' σ' H')->g x σ H R->g x σ H R') (monoT:∀σ H (R R':Bool->Hp->Prop),(∀b H',R b H'->R' b H')->ti σ H R->ti σ H R') (monoE:∀σ H (R R':VK),(∀v H',R v H'->R' v H')->te σ H R->te σ H R'):
  ov_ (Itz K a b) own js g ti te σ H1 acc Q:=by
 refine⟨fun i m H2=>m=n-i/\i<=n/\Pv i H2,⟨n,by simp,AS _,h0⟩, ?_⟩;rintro i m H2 ⟨rfl,hi,p⟩;obtain⟨qa,qb⟩:=hl i H2 hi p;by_cases hlt:i<n
 .have lx:i<xs.length:=by lia
  have ly:i<ys.length:=by lia
  refine .inr ⟨⟨xs,xs[i],ys,ys[i],qa,qb,by simp [lx],by simp [ly]⟩,fun v H3 z=> ?_⟩;obtain⟨x,y,pp,e1,e2,e3,e4,e5⟩:=z;subst e3 e5;refine mono _ _ _ _ _ (fun σ4 H4 q=>monoT _ _ _ _ (fun b H5 q=> ?_) q) (hs i x y _ pp (e1 xs qa) (e2 ys qb) p e4);cases b with
  |true=>
   refine monoE _ _ _ _ (fun v H6 q=> ?_) q;obtain⟨l,zs,y,a1,a2,a3,a4,a5⟩:=q;exact⟨l,zs,y,a1,a2,a3,a4,_,by lia,rfl,hlt,a5⟩
  |false=>exact⟨_,by lia,rfl,hlt,q⟩
 .obtain rfl:i=n:=by lia
  exact .inl ⟨⟨xs,ys,qa,qb,by lia⟩,hd H2 p⟩
theorem hJ_ {K:W.Frag}:pk_ 2 (o8_ K 2 (c1_ (bF_ 0) (c1_ (bF_ 1) qq_))):=by
 intro v σ H Q ⟨a,xs,e,hq,hl,x,r,ex,y,r2,er,en,q⟩;refine⟨a,xs,e,hq,hl,x,r,ex,y,r2,er,en,q, ?_,fun i hi=> ?_⟩
 .rw [BF,BF]
 .rw [BO (by lia),BO (by lia)]
theorem hT_ {K:W.Frag}:∀(σ:St) (H:Hp) (R R':St->Hp->Prop) (x:V),(∀σ' H',R σ' H'->R' σ' H')->o8_ K 2 (c1_ (bF_ 0) (c1_ (bF_ 1) qq_)) x σ H R->o8_ K 2 (c1_ (bF_ 0) (c1_ (bF_ 1) qq_)) x σ H R':=
 fun σ H R R' v k ⟨a,xs,e,hq,hl,x,r,ex,y,r2,er,en,q⟩=>⟨a,xs,e,hq,hl,x,r,ex,y,r2,er,en,k _ _ q⟩
theorem iY_ {X:Cx}{es:List Expr}{k:Nat}{pos:Pos}{t:TGs}{n:Nat}{K:W.Frag} (hK:X.K=K) (hc:X.calm=true) (h:PGs X es t)
  (hn:(assignEach es X.env).length=n:=by rfl) (hst:(assignEach es X.env).findIdx? (·.1)=none:=by rfl):PG X (.Tuple es k pos) (o8_ K n t):=hK▸ce_ hc h hn hst
end L2
namespace PySem.SeqAt
open AutoSeq1 (wpAny_loadPart')
open MeetsSeq MeetsSeq2 MeetsSeq3 SeqRoads2
def LtAt (A:Around) (s:Shared) (y x:Value) (b:Bool):Prop:=
 ∀(prog:Program) (w:World) (E:Value->Shared->Prop) (Q:Value->Shared->Prop),Q (.bool b) s->wpAny (model prog w) A (richCompare .Lt y x) Q E s
def lex (e f:Nat->Bool) (m n:Nat):Nat->Nat->Bool
 |0,_=>decide (m<n)
 |k+1,i=>if e i=true then lex e f m n k (i+1) else f i
theorem mj_ (l b:Addr) (items items2:Array Value) (n n2:Nat) (dd dd2:Option Addr) (sl sl2:Array (Option Value)) (e f:Nat->Bool) (k:Nat):
  ∀i:Nat,min items.size items2.size-i=k->Meets (Builtin.«list.__eq__.loop» ⟨[.ref l, .ref b,rawInt i,rawInt 0],[]⟩)
   (fun A R s=>s.heap.get? l=some {cls:= .type "list",dict:=dd,data:= .seq items n,slots:=sl}/\s.heap.get? b=some {cls:= .type "list",dict:=dd2,data:= .seq items2 n2,slots:=sl2}/\
    (∀j (h1:j<items.size) (h2:j<items2.size),EqAt A.in1 s items[j] items2[j] (e j))/\(∀j (h1:j<items.size) (h2:j<items2.size),e j=false->LtAt A.in1 s items[j] items2[j] (f j))/\
    R (.ok (.ret (.bool (lex e f items.size items2.size k i)))) s):=by
 induction k with
 |zero=>
  intro i hk prog w A R s h;obtain⟨hp,g,d,tk,os⟩:=s;obtain⟨hl,hb,he,hf,h⟩:=h
  wp_walk using wpAny_loadPart' hl,C5 hb
  rcases(by lia:items.size<=i\/(i<items.size/\items2.size<=i)) with q|⟨q1,q2⟩
  .have hi1:items[((i:Nat):Int).toNat]? =none:=by simp;lia
   rw [hi1]
   wp_walk using wpAny_loadPart' hl,C5 hb
   exact h
  .have hi1:items[((i:Nat):Int).toNat]? =some items[i]:=by simp [q1]
   have hi2:items2[((i:Nat):Int).toNat]? =none:=by simp;lia
   rw [hi1,hi2]
   wp_walk using wpAny_loadPart' hl,C5 hb
   exact h
 |succ k ih=>
  intro i hk prog w A R s h;obtain⟨hp,g,d,tk,os⟩:=s;obtain⟨hl,hb,he,hf,h⟩:=h
  wp_walk using wpAny_loadPart' hl,C5 hb
  have hlt:i<items.size:=by lia
  have hlt2:i<items2.size:=by lia
  have hi1:items[((i:Nat):Int).toNat]? =some items[i]:=by simp [hlt]
  have hi2:items2[((i:Nat):Int).toNat]? =some items2[i]:=by simp [hlt2]
  have hc:((i:Int)+1)=((i+1:Nat):Int):=by push_cast;rfl
  unfold lex at h;rw [hi1,hi2];refine A0 (he i hlt hlt2 prog w _ _ ?_);cases hb':e i with
  |true=>
   rw [hb',A8 rfl] at h
   wp_walk
   rw [hc];exact⟨D1 plain_eq_loop _,Br entry_eq_loop (by
    rw [Bk plain_eq_loop _];exact ih (i+1) (by lia) prog w A R _ ⟨hl,hb,he,hf,h⟩)⟩
  |false=>
   rw [hb',A6 (by simp)] at h
   wp_walk using wpAny_loadPart' hl,C5 hb
   rw [hi1,hi2];refine A0 (hf i hlt hlt2 hb' prog w _ _ ?_)
   wp_walk
   exact h
theorem h1_ (l b:Addr) (items items2:Array Value) (n n2:Nat) (dd dd2:Option Addr) (sl sl2:Array (Option Value)) (e f:Nat->Bool):
  Meets (Builtin.«list.__lt__» ⟨[.ref l, .ref b],[]⟩)
   (fun A R s=>s.heap.get? l=some {cls:= .type "list",dict:=dd,data:= .seq items n,slots:=sl}/\s.heap.get? b=some {cls:= .type "list",dict:=dd2,data:= .seq items2 n2,slots:=sl2}/\
    (∀j (h1:j<items.size) (h2:j<items2.size),EqAt A.in1 s items[j] items2[j] (e j))/\(∀j (h1:j<items.size) (h2:j<items2.size),e j=false->LtAt A.in1 s items[j] items2[j] (f j))/\
    R (.ok (.ret (.bool (lex e f items.size items2.size (min items.size items2.size) 0)))) s):=by
 intro prog w A R s h;obtain⟨hp,g,d,tk,os⟩:=s;obtain⟨hl,hb,he,hf,h⟩:=h;have f3:=AutoSeq1.sub_list_list
 wp_walk using wpAny_loadPart' hl,C5 hb
 exact⟨D1 plain_eq_loop _,Br entry_eq_loop (by
  rw [Bk plain_eq_loop _];exact mj_ l b items items2 n n2 dd dd2 sl sl2 e f _ 0 rfl prog w A R _ ⟨hl,hb,he,hf,by simpa using h⟩)⟩
theorem kA_ (l b:Addr) (items items2:Array Value) (n n2:Nat) (dd dd2:Option Addr) (sl sl2:Array (Option Value)) (e f:Nat->Bool):
  Meets (Builtin.«tuple.__lt__» ⟨[.ref l, .ref b],[]⟩)
   (fun A R s=>s.heap.get? l=some {cls:= .type "tuple",dict:=dd,data:= .seq items n,slots:=sl}/\s.heap.get? b=some {cls:= .type "tuple",dict:=dd2,data:= .seq items2 n2,slots:=sl2}/\
    (∀j (h1:j<items.size) (h2:j<items2.size),EqAt A.in1 s items[j] items2[j] (e j))/\(∀j (h1:j<items.size) (h2:j<items2.size),e j=false->LtAt A.in1 s items[j] items2[j] (f j))/\
    R (.ok (.ret (.bool (lex e f items.size items2.size (min items.size items2.size) 0)))) s):=
 .of_wp fun prog w A R s h=>by
  obtain⟨hp,g,d,tk,os⟩:=s;obtain⟨hl,hb,he,hf,h⟩:=h;have f2:=AutoSeq1.sub_tuple_tuple;have hZ:(items.toList.zip items2.toList).length=min items.size items2.size:=by simp
  wp_walk using wpAny_loadPart' hl,C5 hb,wpAny_forIn_list _ (fun ek_ b s'=>b.1=none/\s'=⟨hp,g,d,tk,os⟩/\∃i,ek_=(items.toList.zip items2.toList).drop i/\i<=min items.size items2.size/\
   R (.ok (.ret (.bool (lex e f items.size items2.size (min items.size items2.size-i) i)))) ⟨hp,g,d,tk,os⟩) _
  case turn=>
   rintro⟨y,x⟩ ek_ b s' ⟨hb',rfl,i,hz,hile,hR⟩;have hlt:i<(items.toList.zip items2.toList).length:=by
    rcases BH i (items.toList.zip items2.toList).length with h'|h'
    .exact h'
    .rw [List.drop_of_length_le h'] at hz;cases hz
   have hm:i<min items.size items2.size:=hZ▸hlt;have h1:i<items.size:=Ad hm (Nat.min_le_left _ _);have h2:i<items2.size:=Ad hm (Nat.min_le_right _ _);rw [BZ hlt] at hz;injection hz with hyx hrest;have hy:y=items[i]:=by have:=BR Prod.fst hyx;simpa using this
   have hx:x=items2[i]:=by have:=BR Prod.snd hyx;simpa using this
   subst hy hx;rw [show min items.size items2.size-i=(min items.size items2.size-(i+1))+1 by lia,lex] at hR;refine A0 (he i h1 h2 prog w _ _ ?_);cases hy:e i with
   |true=>
    rw [hy,A8 rfl] at hR
    wp_walk
    exact⟨rfl,rfl,i+1,hrest,by lia,hR⟩
   |false=>
    rw [hy,A6 (by simp)] at hR;rw [A8 (show(!false)=true from rfl)];refine A0 (DA ?_);refine A0 (hf i h1 h2 hy prog w _ _ ?_)
    wp_walk
    exact⟨_,rfl,hR⟩
  case fin=>
   rintro⟨b1,b2⟩ s' ⟨hb',rfl,i,hz,hile,hR⟩;simp only at hb';subst hb';have hi:i=min items.size items2.size:=by
    rcases BH i (items.toList.zip items2.toList).length with h'|h'
    .rw [BZ h'] at hz;cases hz
    .lia
   subst hi;rw [Nat.sub_self] at hR
   wp_walk
   exact⟨_,rfl,hR⟩
  case h=>
   exact⟨rfl,rfl,0,rfl,AS _,by simpa using h⟩
section
variable {A:Around}{s:Shared}
theorem LtAt.int_int (i:Int) (t:Tok) (j:Int) (u:Tok):LtAt A s (.int i t) (.int j u) (decide (i<j)):=fun prog w E Q h=>wpAny_lt_int h
theorem LtAt.lists {l b:Addr}{items items2:Array Value}{e f:Nat->Bool} (hl:s.heap.IsList l items) (hb:s.heap.IsList b items2) (hu:A.units<cLine)
  (he:∀j (h1:j<items.size) (h2:j<items2.size),EqAt A.in1 s items[j] items2[j] (e j)) (hf:∀j (h1:j<items.size) (h2:j<items2.size),e j=false->LtAt A.in1 s items[j] items2[j] (f j)):
  LtAt A s (.ref l) (.ref b) (lex e f items.size items2.size (min items.size items2.size) 0):=fun prog w E Q h=>by
 obtain⟨⟨cls,dd,data,sl⟩,ho,hc,n,hd⟩:=id hl;obtain⟨⟨cls2,dd2,data2,sl2⟩,ho2,hc2,n2,hd2⟩:=id hb;simp only at hc hd hc2 hd2;subst hc hd hc2 hd2;exact richCompare_meets_room (op:= .Lt) ⟨_,ho,rfl⟩ ⟨_,ho2,rfl⟩ F.slot_list_lt F.entry_list_lt (F.args_list_lt_2 _ _) (h1_ l b items items2 n n2 dd dd2 sl sl2 e f)
  ⟨ho,ho2,he,hf,show Value.bool (lex e f items.size items2.size (min items.size items2.size) 0)≠Value.notImplemented/\Q (.bool (lex e f items.size items2.size (min items.size items2.size) 0)) s from⟨(fun x=>nomatch x),h⟩⟩ hu
theorem LtAt.tuples {l b:Addr}{items items2:Array Value}{e f:Nat->Bool} (hl:s.heap.IsTuple l items) (hb:s.heap.IsTuple b items2) (hu:A.units<cLine)
  (he:∀j (h1:j<items.size) (h2:j<items2.size),EqAt A.in1 s items[j] items2[j] (e j)) (hf:∀j (h1:j<items.size) (h2:j<items2.size),e j=false->LtAt A.in1 s items[j] items2[j] (f j)):
  LtAt A s (.ref l) (.ref b) (lex e f items.size items2.size (min items.size items2.size) 0):=fun prog w E Q h=>by
 obtain⟨⟨cls,dd,data,sl⟩,ho,hc,n,hd⟩:=id hl;obtain⟨⟨cls2,dd2,data2,sl2⟩,ho2,hc2,n2,hd2⟩:=id hb;simp only at hc hd hc2 hd2;subst hc hd hc2 hd2;exact richCompare_meets_room (op:= .Lt) ⟨_,ho,rfl⟩ ⟨_,ho2,rfl⟩ F.slot_tuple_lt F.entry_tuple_lt (F.args_tuple_lt_2 _ _) (kA_ l b items items2 n n2 dd dd2 sl sl2 e f)
  ⟨ho,ho2,he,hf,show Value.bool (lex e f items.size items2.size (min items.size items2.size) 0)≠Value.notImplemented/\Q (.bool (lex e f items.size items2.size (min items.size items2.size) 0)) s from⟨(fun x=>nomatch x),h⟩⟩ hu
theorem key_lists {prog:Program}{w:World}{E:Value->Shared->Prop}{l b:Addr}{items items2:Array Value}{e f:Nat->Bool}{Q:Bool->Shared->Prop} (hl:s.heap.IsList l items) (hb:s.heap.IsList b items2) (hu:A.units<cLine)
  (he:∀j (h1:j<items.size) (h2:j<items2.size),EqAt A.in1 s items[j] items2[j] (e j)) (hf:∀j (h1:j<items.size) (h2:j<items2.size),e j=false->LtAt A.in1 s items[j] items2[j] (f j))
  (h:Q (lex e f items.size items2.size (min items.size items2.size) 0) s):wpAny (model prog w) A (PyProof.Rows.keyLt' PyProof.Rows.oneType' (.ref l) (.ref b)) Q E s:=by
 rw [PyProof.Rows.keyLt'_oneType,PyProof.Rows.oneLt'_eq];simp only [C9];refine A0 (wpAny_cRoomFor hu ?_);obtain⟨⟨cls,dd,data,sl⟩,ho,hc,n,hd⟩:=id hl;obtain⟨⟨cls2,dd2,data2,sl2⟩,ho2,hc2,n2,hd2⟩:=id hb;simp only at hc hd hc2 hd2;subst hc hd hc2 hd2;refine A0 (wpAny_callSpecialIfBound?_slot (T:="list") ⟨_,ho,rfl⟩ F.slot_list_lt (DC F.slot_list_lt ⟨_,ho,rfl⟩ F.entry_list_lt (F.args_list_lt_2 _ _) (h1_ l b items items2 n n2 dd dd2 sl sl2 e f) ⟨ho,ho2,he,hf, ?_⟩));exact B8 h
end
end PySem.SeqAt
namespace L2
open PySem PySem.Spec PyProof.Rows
inductive LtR (K:W.Frag) (H:Hp):Nat->V->V->Bool->Prop where
 |int (d:Nat) (i j:Int):LtR K H d (.int i) (.int j) (decide (i<j))
 |lists {d:Nat}{a b:Addr}{xs ys:List V} (es fs:Nat->Bool) (h1:SqL K H a xs) (h2:SqL K H b ys) (he:∀(j:Nat) x y,xs[j]? =some x->ys[j]? =some y->EqR K H d x y (es j)) (hf:∀(j:Nat) x y,xs[j]? =some x->ys[j]? =some y->es j=false->LtR K H d x y (fs j)):
  LtR K H (d+1) (.ref a) (.ref b) (SeqAt.lex es fs xs.length ys.length (min xs.length ys.length) 0)
 |tuples {d:Nat}{a b:Addr}{xs ys:List V} (es fs:Nat->Bool) (h1:SqT K H a xs) (h2:SqT K H b ys) (he:∀(j:Nat) x y,xs[j]? =some x->ys[j]? =some y->EqR K H d x y (es j)) (hf:∀(j:Nat) x y,xs[j]? =some x->ys[j]? =some y->es j=false->LtR K H d x y (fs j)):
  LtR K H (d+1) (.ref a) (.ref b) (SeqAt.lex es fs xs.length ys.length (min xs.length ys.length) 0)
section
variable {X:Cx}{pins:List (Addr×Obj)}{σ:St}{H:Hp}{s:Shared}
theorem cx_ {xs:List V}{is:List Value}{j:Nat} (r:aX_ xs is) (q:j<is.toArray.size):∃x,xs[j]? =some x/\a3_ x is.toArray[j]:=by
 have l:=r.length;have q':j<is.length:=by simpa using q
 have hx:xs[j]? =some xs[j]:=A2 (by lia);obtain⟨u,e,ru⟩:=r.get hx;refine⟨_,hx, ?_⟩;have g:is.toArray[j]=u:=by
  rw [A2 q'] at e;simpa using Option.some.inj e
 rw [g];exact ru
theorem LtR.at_ (I:Inv X pins σ H s) {d:Nat}{x y:V}{b:Bool} (h:LtR X.K H d x y b):∀{A:Around}{u v:Value},A.units+d<cLine->a3_ x u->a3_ y v->SeqAt.LtAt A s u v b:=by
 induction h with
 |int d i j=>
  intro A u v hu ru rv;obtain⟨t,rfl⟩:=ru;obtain⟨t',rfl⟩:=rv;exact SeqAt.LtAt.int_int i t j t'
 | @lists d a b xs ys es fs h1 h2 he hf ih=>
  intro A u v hu ru rv;obtain rfl:u=Value.ref a:=ru;obtain rfl:v=Value.ref b:=rv;obtain⟨is,r1,p1,z1⟩:=I.list h1;obtain⟨js,r2,p2,z2⟩:=I.list h2;have l1:xs.length=is.toArray.size:=by have:=r1.length;simpa using this
  have l2:ys.length=js.toArray.size:=by have:=r2.length;simpa using this
  rw [l1,l2];refine SeqAt.LtAt.lists p1.isList p2.isList (by lia) (fun j q1 q2=> ?_) (fun j q1 q2 z=> ?_)
  .obtain⟨x,hx,rx⟩:=cx_ r1 q1;obtain⟨y,hy,ry⟩:=cx_ r2 q2;exact((he j _ _ hx hy).at_ I (by rw [a4_];lia) rx ry).2.2
  .obtain⟨x,hx,rx⟩:=cx_ r1 q1;obtain⟨y,hy,ry⟩:=cx_ r2 q2;exact ih j _ _ hx hy z (by rw [a4_];lia) rx ry
 | @tuples d a b xs ys es fs h1 h2 he hf ih=>
  intro A u v hu ru rv;obtain rfl:u=Value.ref a:=ru;obtain rfl:v=Value.ref b:=rv;obtain⟨is,r1,p1,z1⟩:=I.tuple h1;obtain⟨js,r2,p2,z2⟩:=I.tuple h2;have l1:xs.length=is.toArray.size:=by have:=r1.length;simpa using this
  have l2:ys.length=js.toArray.size:=by have:=r2.length;simpa using this
  rw [l1,l2];refine SeqAt.LtAt.tuples (show s.heap.IsTuple a is.toArray from p1) (show s.heap.IsTuple b js.toArray from p2) (by lia) (fun j q1 q2=> ?_) (fun j q1 q2 z=> ?_)
  .obtain⟨x,hx,rx⟩:=cx_ r1 q1;obtain⟨y,hy,ry⟩:=cx_ r2 q2;exact((he j _ _ hx hy).at_ I (by rw [a4_];lia) rx ry).2.2
  .obtain⟨x,hx,rx⟩:=cx_ r1 q1;obtain⟨y,hy,ry⟩:=cx_ r2 q2;exact ih j _ _ hx hy z (by rw [a4_];lia) rx ry
theorem LtR.key (I:Inv X pins σ H s) {d:Nat}{a b:Addr}{xs ys:List V}{es fs:Nat->Bool} (h1:SqL X.K H a xs) (h2:SqL X.K H b ys) (he:∀(j:Nat) x y,xs[j]? =some x->ys[j]? =some y->EqR X.K H d x y (es j)) (hf:∀(j:Nat) x y,xs[j]? =some x->ys[j]? =some y->es j=false->LtR X.K H d x y (fs j))
  {A:Around} (hu:A.units+(d+1)<cLine) {prog:Program}{w:World}{E:Value->Shared->Prop}{Q:Bool->Shared->Prop} (q:Q (SeqAt.lex es fs xs.length ys.length (min xs.length ys.length) 0) s):
  wpAny (model prog w) A (keyLt' oneType' (.ref a) (.ref b)) Q E s:=by
 obtain⟨is,r1,p1,z1⟩:=I.list h1;obtain⟨js,r2,p2,z2⟩:=I.list h2;have l1:xs.length=is.toArray.size:=by have:=r1.length;simpa using this
 have l2:ys.length=js.toArray.size:=by have:=r2.length;simpa using this
 rw [l1,l2] at q;refine SeqAt.key_lists p1.isList p2.isList (by lia) (fun j q1 q2=> ?_) (fun j q1 q2 z=> ?_) q
 .obtain⟨x,hx,rx⟩:=cx_ r1 q1;obtain⟨y,hy,ry⟩:=cx_ r2 q2;exact((he j _ _ hx hy).at_ I (by rw [a4_];lia) rx ry).2.2
 .obtain⟨x,hx,rx⟩:=cx_ r1 q1;obtain⟨y,hy,ry⟩:=cx_ r2 q2;exact(hf j _ _ hx hy z).at_ I (by rw [a4_];lia) rx ry
end
end L2
namespace L2
open PySem PySem.Spec PyProof.Rows
def r2_ (ns:List Int):Int:=ns.getD (argBest (fun i j=>decide (ns.getD i 0<ns.getD j 0)) (ns.length-1)) 0
def me_ (ns:List Int):Int:=ns.getD (argBest (fun i j=>decide (ns.getD i 0>ns.getD j 0)) (ns.length-1)) 0
section
variable {X:Cx}
theorem eF_ {ys:Array (Int×Tok)}{ns:List Int} (h:ys.toList.map (·.1)=ns) (i:Nat):numAt ys i=ns.getD i 0:=by
 subst h;unfold numAt;rw [List.getD,A5,Bq]
theorem m4_ (hc:X.calm=true):cu_ X (.builtin "min") (fun xs H Q=>∃(p:Addr) (ns:List Int),xs=[.ref p]/\SqL X.K H p (ns.map V.int)/\0<ns.length/\Q (.int (r2_ ns)) H):=by
 intro pins s σ H xs us Q I r h;obtain⟨p,ns,rfl,hq,h0,q⟩:=h;obtain⟨u,rfl,rx⟩:=du_ r;cases rx;obtain⟨its,r',pl,hz⟩:=I.list hq;have hi:IntsAre its ns:=eh_ r';obtain⟨ys,e⟩:=hi.allInts.items;have n1:=hi.numsOf;rw [show its=its.toArray.toList from rfl,e,nums_intItems] at n1;have hsz:ys.size=ns.length:=by rw [<-n1];simp
 have hl:=pl.isList;rw [e] at hl;refine min_intList (I.ok.hd hc) hl (by lia) fun v h' tk hv hk=> ?_;obtain⟨t,rfl⟩:=intItems_at hv;refine⟨.int (r2_ ns),H,I.kept hk,⟨t, ?_⟩,q⟩;unfold r2_;rw [eF_ n1,hsz];simp only [eF_ n1]
theorem ip_ (hc:X.calm=true):cu_ X (.builtin "max") (fun xs H Q=>∃(p:Addr) (ns:List Int),xs=[.ref p]/\SqL X.K H p (ns.map V.int)/\0<ns.length/\Q (.int (me_ ns)) H):=by
 intro pins s σ H xs us Q I r h;obtain⟨p,ns,rfl,hq,h0,q⟩:=h;obtain⟨u,rfl,rx⟩:=du_ r;cases rx;obtain⟨its,r',pl,hz⟩:=I.list hq;have hi:IntsAre its ns:=eh_ r';obtain⟨ys,e⟩:=hi.allInts.items;have n1:=hi.numsOf;rw [show its=its.toArray.toList from rfl,e,nums_intItems] at n1;have hsz:ys.size=ns.length:=by rw [<-n1];simp
 have hl:=pl.isList;rw [e] at hl;refine max_intList (I.ok.hd hc) hl (by lia) fun v h' tk hv hk=> ?_;obtain⟨t,rfl⟩:=intItems_at hv;refine⟨.int (me_ ns),H,I.kept hk,⟨t, ?_⟩,q⟩;unfold me_;rw [eF_ n1,hsz];simp only [eF_ n1]
theorem mw_ {s:Shared}{h':Heap}{o:Obj} (hk:∀b x,b∉[s.heap.objs.size]->(s.heap.push o).get? b=some x->h'.get? b=some x):∀b x,s.heap.get? b=some x->h'.get? b=some x:=
 fun b x e=>hk b x (fun hm=>by rw [Ax.mp hm] at e;exact Bm _ (AG e)) (AB _ e)
theorem or_ (hc:X.calm=true):cu_ X (.builtin "all") (fun xs H Q=>∃(p:Addr) (bs:List Bool),xs=[.ref p]/\SqL X.K H p (bs.map V.bl)/\Q (.bl (bs.all id)) H):=by
 intro pins s σ H xs us Q I r h;obtain⟨p,bs,rfl,hq,q⟩:=h;obtain⟨u,rfl,rx⟩:=du_ r;cases rx;obtain⟨its,r',pl,hz⟩:=I.list hq;have hl:=pl.isList;have hlt:p<s.heap.objs.size:=by obtain⟨_,e,_⟩:=hl;exact AG e
 have hln:its.length=bs.length:=by have:=r'.length;simpa using this.symm
 refine call_all_walk (wpAny_pyIter_list hl ?_);refine⟨s.heap.objs.size,[s.heap.objs.size,p],[s.heap.objs.size],its.toArray.size,_,_,fun i=>(bs[i]?).getD true,rfl,Walks.list (A:=X.A.in1) (I.ok.hd hc) _ p (AK hlt) its.toArray,
  ⟨⟨_,AI _ rfl,rfl,rfl⟩,hl.push _⟩,fun i v s' Q' E' hP hQ=> ?_,fun h' tk hk=> ?_⟩
 .have hv:its[i]? =some v:=by simpa using hP
  have hib:i<bs.length:=by rw [<-hln];exact(A'.mp hv).1
  obtain⟨u,hu,ru⟩:=r'.get (show(bs.map V.bl)[i]? =some (.bl bs[i]) by rw [A5,A2 hib];rfl);rw [hv] at hu;cases hu;obtain rfl:v=Value.bool bs[i]:=ru;simp only [A2 hib,Option.getD_some] at hQ;exact B8 hQ
 .refine⟨.bl (bs.all id),H,I.kept (mw_ hk), ?_,q⟩;show Value.bool _=Value.bool _;rw [AA,hln,PyProof.Rows.LSm.range_all]
theorem oq_ (hc:X.calm=true):cu_ X (.builtin "any") (fun xs H Q=>∃(p:Addr) (bs:List Bool),xs=[.ref p]/\SqL X.K H p (bs.map V.bl)/\Q (.bl (bs.any id)) H):=by
 intro pins s σ H xs us Q I r h;obtain⟨p,bs,rfl,hq,q⟩:=h;obtain⟨u,rfl,rx⟩:=du_ r;cases rx;obtain⟨its,r',pl,hz⟩:=I.list hq;have hl:=pl.isList;have hlt:p<s.heap.objs.size:=by obtain⟨_,e,_⟩:=hl;exact AG e
 have hln:its.length=bs.length:=by have:=r'.length;simpa using this.symm
 refine call_any_walk (wpAny_pyIter_list hl ?_);refine⟨s.heap.objs.size,[s.heap.objs.size,p],[s.heap.objs.size],its.toArray.size,_,_,fun i=>(bs[i]?).getD false,rfl,Walks.list (A:=X.A.in1) (I.ok.hd hc) _ p (AK hlt) its.toArray,
  ⟨⟨_,AI _ rfl,rfl,rfl⟩,hl.push _⟩,fun i v s' Q' E' hP hQ=> ?_,fun h' tk hk=> ?_⟩
 .have hv:its[i]? =some v:=by simpa using hP
  have hib:i<bs.length:=by rw [<-hln];exact(A'.mp hv).1
  obtain⟨u,hu,ru⟩:=r'.get (show(bs.map V.bl)[i]? =some (.bl bs[i]) by rw [A5,A2 hib];rfl);rw [hv] at hu;cases hu;obtain rfl:v=Value.bool bs[i]:=ru;simp only [A2 hib,Option.getD_some] at hQ;exact B8 hQ
 .refine⟨.bl (bs.any id),H,I.kept (mw_ hk), ?_,q⟩;show Value.bool _=Value.bool _;rw [AA,hln,PyProof.Rows.LSm.range_any]
def ipM:TIp:=fun x y H Q=>∃i j,x= .int i/\y= .int j/\sM_ i j/\Q (.int (i*j)) H
theorem qh_:PIp X .Mult ipM:=by
 intro pins s σ H x y v u Q I r1 r2 h;obtain⟨i,j,e1,e2,c,q⟩:=h;subst e1;subst e2;obtain⟨t,rfl⟩:=r1;obtain⟨t',rfl⟩:=r2;exact imul_int ⟨.int _,H,I.tok _,⟨_,rfl⟩,q⟩ c.ok
end
end L2
namespace L2
open PySem PySem.Spec PyProof.Rows
section
variable {X:Cx}{a b:Expr}{ta:TA}{p1 p2 p3 pos:Pos}
end
end L2
namespace L2
open PySem PySem.Spec PyProof.Rows
def tI (xs:List Int):D:= .t (xs.map .i)
theorem g8_ {H:Hp}:∀{xs:List Int}{vs:List V},Iss H (xs.map .i) vs->vs=xs.map V.int
 |[],vs,h=>h
 |x::xs,vs,h=>by
  obtain⟨u,us,rfl,h1,h2⟩:=h;rw [dV_ h1,g8_ h2];rfl
theorem kf_ {H:Hp}:∀(xs:List Int),Iss H (xs.map .i) (xs.map V.int)
 |[]=>rfl
 |x::xs=>⟨_,_,rfl,n5_,kf_ xs⟩
theorem hR_ {H:Hp}{xs:List Int}{v:V} (h:Is H (tI xs) v):∃a,v= .ref a/\H a=some (.tup (xs.map V.int)):=by
 obtain⟨a,vs,rfl,ha,hi⟩:=l6_ h;rw [g8_ hi] at ha;exact⟨a,rfl,ha⟩
theorem jb_ {H:Hp}{xs:List Int}{a:Addr} (h:H a=some (.tup (xs.map V.int))):Is H (tI xs) (.ref a):=ng_ h (kf_ xs)
end L2
namespace L2
open PySem PySem.Spec PyProof.Rows PySem.W
section
variable {n:Nat}
def Ord (n:Nat) (p:Array Nat):Prop:=p.Perm (List.range n).toArray
theorem Ord.size {p:Array Nat} (h:Ord n p):p.size=n:=by
 have:=(D7.mp h).length_eq;simpa using this
theorem Ord.lt {p:Array Nat} (h:Ord n p) {i:Nat} (hi:i∈p.toList):i<n:=by
 have:=(D7.mp h).mem_iff.mp hi;simpa using this
theorem Ord.bubble {p:Array Nat} (h:Ord n p) (i j:Nat):Ord n (PyProof.Rows.bubble p i j):=(bubble_perm p i j).trans h
theorem Ord.kas {p:Array Nat} (h:Ord n p) (i j:Nat):Ord n (kas_rev p i j):=(mirror_perm p i j _).trans h
theorem Ord.getD {p:Array Nat} (h:Ord n p) (hn:0<n) (i:Nat):p.getD i 0<n:=by
 by_cases hi:i<p.size
 .have e:p.getD i 0=p[i]:=by simp [Array.getD,hi]
  rw [e];exact h.lt (by simp)
 .have e:p.getD i 0=0:=by simp [Array.getD,hi]
  rw [e];exact hn
def bh_ (n:Nat) {α:Type} (R:α->Prop):KasT α->Prop
 | .ret a=>R a
 | .ask i j k=>i<n/\j<n/\∀b,bh_ n R (k b)
theorem bh_.bind {α β:Type}{R:α->Prop}{R':β->Prop}{f:α->KasT β} (hf:∀a,R a->bh_ n R' (f a)):∀{t:KasT α},bh_ n R t->bh_ n R' (t.bind f)
 | .ret a,h=>hf a h
 | .ask i j k,h=>⟨h.1,h.2.1,fun b=>bh_.bind hf (h.2.2 b)⟩
variable (hn:0<n)
include hn
theorem mi_ {p:Array Nat} (h:Ord n p):∀f m,bh_ n (fun _=>True) (kas_asc p f m)
 |0,m=>trivial
 |f+1,m=>⟨h.getD hn _,h.getD hn _,fun b=>by
  cases b with
  |true=>exact trivial
  |false=>exact mi_ h f (m+1)⟩
theorem gP_:∀(f:Nat) (p:Array Nat) (m q:Nat),Ord n p->bh_ n (fun r=>Ord n r.1) (kas_desc f p m q)
 |0,p,m,q,h=>h
 |f+1,p,m,q,h=>⟨h.getD hn _,h.getD hn _,fun b=>by
  cases b with
  |true=>
   show bh_ n _ (if q>0 then kas_desc f (kas_rev p (m-(q+1)) m) (m+1) 0 else kas_desc f p (m+1) 0);by_cases hq:q>0
   .rw [A8 hq];exact gP_ f _ _ _ (h.kas _ _)
   .rw [A6 hq];exact gP_ f _ _ _ h
  |false=>
   refine(show bh_ n _ (KasT.ask (p.getD (m-1) 0) (p.getD m 0) fun d=>if d=true then KasT.ret (p,m,q) else kas_desc f p (m+1) (q+1)) from⟨h.getD hn _,h.getD hn _,fun b=> ?_⟩);cases b with
   |true=>exact h
   |false=>exact gP_ f _ _ _ h⟩
theorem mg_ {p:Array Nat} (h:Ord n p) (m k:Nat):bh_ n (fun r=>Ord n r.2) (kas_tail3 m k p):=by
 unfold kas_tail3;refine bh_.bind (fun a _=> ?_) (mi_ hn (h.kas 0 m) _ _);exact h.kas 0 m
theorem mh_ {p:Array Nat} (h:Ord n p) (m k:Nat):bh_ n (fun r=>Ord n r.2) (kas_descPart m k p):=by
 refine(gP_ hn _ _ _ _ h).bind fun r hr=> ?_;by_cases hq:r.2.2>0
 .rw [A8 hq];exact mg_ hn (hr.kas _ _) _ _
 .rw [A6 hq];exact mg_ hn hr _ _
theorem nX_ {p:Array Nat} (h:Ord n p) (k:Nat):bh_ n (fun r=>Ord n r.2) (kas_count k p):=by
 refine(mi_ hn h _ _).bind fun m _=> ?_;by_cases h1:(m==k)=true
 .rw [A8 h1];exact h
 .rw [A6 h1];by_cases h2:m>1
  .rw [A8 h2];refine⟨h.getD hn _,h.getD hn _,fun b=> ?_⟩;cases b with
   |true=>exact h
   |false=>exact mh_ hn (h.kas _ _) _ _
  .rw [A6 h2];exact mh_ hn h _ _
theorem gO_ {p:Array Nat} (h:Ord n p) (k:Nat):∀f l r,bh_ n (fun _=>True) (kas_place p k f l r)
 |0,l,r=>trivial
 |f+1,l,r=>by
  unfold kas_place;by_cases h1:l>=r
  .rw [A8 h1];exact trivial
  .rw [A6 h1];refine⟨h.getD hn _,h.getD hn _,fun b=> ?_⟩;cases b with
   |true=>exact gO_ h k f _ _
   |false=>exact gO_ h k f _ _
theorem oV_:∀(f:Nat) (p:Array Nat) (k:Nat),Ord n p->bh_ n (Ord n) (kas_bin f p k)
 |0,p,k,h=>h
 |f+1,p,k,h=>(gO_ hn h k _ _ _).bind fun l _=>oV_ f _ _ (h.bubble _ _)
theorem p7_:bh_ n (Ord n) (kas_sort n):=by
 refine(nX_ hn (show Ord n (List.range n).toArray from Array.Perm.refl _) n).bind fun r hr=> ?_;by_cases h:r.1<n
 .rw [A8 h];exact oV_ hn _ _ _ hr
 .rw [A6 h];exact hr
end
section
variable {prog:Program}{w:World}{A:Around}{E:Value->Shared->Prop}{s:Shared}
def gi_ (vs:List Value) (i:Nat):Keyed:=(vs.getD i .none,vs.getD i .none)
abbrev aL_ (h:Heap) (a:Addr) (vs:List Value):Heap:=((h.update a (Obj.mapSeq fun _=>(#[]:Array Value))).push (seqObj "tuple" vs.toArray 0)).push (seqObj "list" #[] 0)
theorem iF_ (vs:List Value):(List.toArray (List.range vs.length)).map (gi_ vs)=vs.toArray.zip vs.toArray:=by
 refine Array.ext (by simp) fun i h1 h2=> ?_;have hi:i<vs.length:=by simpa using h1
 simp [gi_,hi]
abbrev dv_ (h:Heap) (vs:List Value):Heap:=aL_ (((h.push (seqObj "list" #[] 0)).update h.objs.size (Obj.mapSeq (· ++vs.toArray))).push (seqObj "list" vs.toArray 0)) (h.objs.size+1) vs
theorem hw_ {h:Heap}{vs:List Value}{b:Addr}{o:Obj} (hb:h.get? b=some o):(dv_ h vs).get? b=some o:=by
 have hlt:b<h.objs.size:=AG hb;have sz:(((h.push (seqObj "list" #[] 0)).update h.objs.size (Obj.mapSeq (· ++vs.toArray))).push (seqObj "list" vs.toArray 0)).objs.size=h.objs.size+2:=by rw [Bl,Ay,Bl]
 have n0:b≠h.objs.size:=AK hlt;have n1:b≠h.objs.size+1:=AK (Ae hlt);have n2:b≠h.objs.size+2:=AK (Ae (Ae hlt));have n3:b≠h.objs.size+2+1:=AK (Ae (Ae (Ae hlt)));rw [Az _ _ _ (by rw [Bl,Ay,sz];exact n3),Az _ _ _ (by rw [Ay,sz];exact n2),D8 _ _ _ _ n1,
  Az _ _ _ (by rw [Ay,Bl];exact n1),D8 _ _ _ _ n0,Az _ _ _ n0]
 exact hb
end
section
variable {prog:Program}{w:World}{A:Around}{E:Value->Shared->Prop}{s:Shared}
theorem jA_ {a:Addr}{vs:List Value}{n:Nat}{P:PySem.Fin->Shared->Prop} (ho:s.heap.get? a=some (seqObj "list" vs.toArray n)) (h2:vs.length<2)
  (h:P (.done (.ret .none)) {s with heap:=sortedHeap s.heap a vs vs.toArray}):wpAny (model prog w) A (Builtin.«list.sort» ⟨[.ref a],[]⟩) P E s:=by
 rw [list_sort_plain];have ha:a<s.heap.objs.size:=AG ho;refine A0 (listItems_at ho rfl ?_);refine A0 (CQ ho rfl ?_ (by rw [AA,B1];lia) (AS _));obtain⟨e1,ho1⟩:∃e1,(s.heap.update a (Obj.mapSeq fun _=>(#[]:Array Value))).get? a=some (seqObj "list" #[] e1):=⟨_,CK ho (fun _=> #[])⟩;refine A0 (seqEpoch_at ho1 rfl ?_);refine A0 (wpAny_newTuple ?_ (by show vs.length<=_;rw [B1];lia));refine A0 (D0 ?_ (AS _));refine B0 ?_;have ho6:(aL_ s.heap a vs).get? a=some (seqObj "list" #[] e1):=by
  rw [Az _ _ _ (by rw [Bl,Ay];exact AK (Ae ha)),Az _ _ _ (by rw [Ay];exact AK ha)];exact ho1
 show wpAny (model prog w) A _ P E {s with heap:=aL_ s.heap a vs};dsimp only;have hn2:vs.toArray.size<2:=by rw [AA];lia
 rw [A8 hn2,A8 hn2];refine A0 (A4 ?_);rw [StateT.run_pure];refine A0 (A4 ?_);dsimp only;have eo:(vs.toArray.zip vs.toArray).map (·.2)=vs.toArray:=by
  refine Array.ext (by simp) fun i h1 h2=> ?_;simp
 refine A0 (seqEpoch_at ho6 rfl ?_);rw [eo];refine A0 (CQ ho6 rfl ?_ (AS _) (by rw [AA,B1];lia));simp only [CY,AM,Av];exact A4 h
theorem kG_ {l:Addr}{vs:List Value}{Q:Value->Shared->Prop} (hl:s.heap.IsList l vs.toArray) (h2:vs.length<2)
  (h:Q (.ref (s.heap.objs.size+1)) {s with heap:=sortedAll s.heap vs vs.toArray}):wpAny (model prog w) A (call (.builtin "sorted") [.ref l]) Q E s:=by
 refine Calls.call_function_entry kind_sorted plain_sorted entry_sorted (args_sorted1 _) ?_;unfold Builtin.«sorted»;refine A0 (m:=checkCount "sorted" 1 1 _) (A4 ?_);refine A0 (collect_list hl ?_ (by rw [B1];lia));refine A0 (D0 ?_ (by rw [B1];lia));have hsz:((s.heap.push (seqObj "list" #[] 0)).update s.heap.objs.size (Obj.mapSeq (· ++vs.toArray))).objs.size=s.heap.objs.size+1:=by
  rw [Ay,Bl]
 have hoL:(((s.heap.push (seqObj "list" #[] 0)).update s.heap.objs.size (Obj.mapSeq (· ++vs.toArray))).push (seqObj "list" vs.toArray 0)).get? (s.heap.objs.size+1)=some (seqObj "list" vs.toArray 0):=by
  rw [<-hsz];exact AI _ rfl
 show wpAny _ _ _ _ _ {s with heap:=((s.heap.push (seqObj "list" #[] 0)).update s.heap.objs.size (Obj.mapSeq (· ++vs.toArray))).push (seqObj "list" vs.toArray 0)};rw [hsz];refine A0 (B0 (At slot_list_sort ⟨_,hoL,rfl⟩ entry_list_sort (jA_ (s:={s with heap:=((s.heap.push (seqObj "list" #[] 0)).update s.heap.objs.size (Obj.mapSeq (· ++vs.toArray))).push (seqObj "list" vs.toArray 0)}) hoL h2 ⟨_,rfl, ?_⟩) (args_list_sort _)));exact A4 ⟨_,rfl,h⟩
end
section
variable {X:Cx}
theorem eQ_ {rs:List V}{its:List Value} (r:aX_ rs its):∀(l:List Nat),(∀i∈l,i<rs.length)->aX_ (l.map fun i=>rs.getD i .non) (l.map fun i=>its.getD i .none)
 |[],_=> .nil
 |i::l,h=>by
  have hi:i<rs.length:=h i (by simp);have e:rs[i]? =some rs[i]:=A2 hi;obtain⟨u,hu,ru⟩:=r.get e;rw [AT,AT];refine .cons ?_ (eQ_ r l fun j hj=>h j (by simp [hj]));rw [List.getD,List.getD,e,hu];exact ru
end
def kP_ (fin:Bool):List Int->List Int->Bool
 |x::xs,y::ys=>if x=y then kP_ fin xs ys else decide (x<y)
 |_,_=>fin
def ltI (xs ys:List Int):Bool:=kP_ (decide (xs.length<ys.length)) xs ys
section
variable {prog:Program}{w:World}{A:Around}{E:Value->Shared->Prop}{s:Shared}
theorem j4_ {fin:Bool}{Q:Bool->Shared->Prop}:∀{xs ys:List Int}{is js:List Value} (i:Nat),aX_ (xs.map V.int) is->aX_ (ys.map V.int) js->Q (kP_ fin xs ys) s->KatLex prog w A true fin Q (is.zip js) i s
 |[],ys,is,js,i,h1,h2,q=>by
  cases h1;rw [List.zip_nil_left];exact kat_nil (by cases ys<;>exact q)
 |x::xs,[],is,js,i,h1,h2,q=>by
  cases h2;rw [List.zip_nil_right];exact kat_nil q
 |x::xs,y::ys,is,js,i,h1,h2,q=>by
  cases h1 with
  |cons r1 h1=>
  cases h2 with
  |cons r2 h2=>
  obtain⟨t,rfl⟩:=r1;obtain⟨t',rfl⟩:=r2;rw [List.zip_cons_cons];refine kat_cons ?_;refine wpAny_eqBool_int ?_;unfold kP_ at q;by_cases e:x=y
  .rw [A8 e] at q;rw [show(x==y)=true by simp [e]];exact kat_yes (j4_ (i+1) h1 h2 q)
  .rw [A6 e] at q;rw [show(x==y)=false by simp [e]];refine kat_no ?_;cases hb:(true&&i==0) with
   |true=>exact oneLt_int q
   |false=>exact kat_one _ _ (SeqAt.LtAt.int_int x t y t' prog w _ _ q)
end
theorem nV_ (xss:List (List Int)):(List.range xss.length).map (fun i=>xss.getD i [])=xss:=by
 refine List.ext_getElem (by simp) fun i h1 h2=> ?_;simp [List.getD,h2]
theorem ke_ {H:Hp}{xss:List (List Int)}{rs:List V} (h:Iss H (xss.map tI) rs):∀(l:List Nat),(∀i∈l,i<xss.length)->Iss H ((l.map fun i=>xss.getD i []).map tI) (l.map fun i=>rs.getD i .non)
 |[],_=>rfl
 |i::l,hl=>by
  have hi:i<xss.length:=hl i (by simp);have hr:i<rs.length:=by rw [h.length,A1];exact hi
  refine⟨_,_,rfl, ?_,ke_ h l fun j hj=>hl j (by simp [hj])⟩;obtain⟨d,hd,h1⟩:=h.of_get (A2 hr);rw [A5,A2 hi] at hd;cases hd;show Is H (tI (xss.getD i [])) (rs.getD i .non);rw [AE,AE,A2 hi,A2 hr];exact h1
section
variable {X:Cx}{pins:List (Addr×Obj)}{σ:St}{H:Hp}{s:Shared}
theorem kb_ (I:Inv X pins σ H s):∀{xss:List (List Int)}{rs:List V}{its:List Value},Iss H (xss.map tI) rs->aX_ rs its->(∀xs∈xss,xs≠[])->∃fs:List Value,KatTups s.heap its fs/\fs.length=its.length/\∀f∈fs,∃z t,f=Value.int z t
 |[],rs,its,h,r,_=>by
  obtain rfl:rs=[]:=h;cases r;exact⟨[],KatTups.nil,rfl,fun _ h=>nomatch h⟩
 |xs::xss,rs,its,h,r,hne=>by
  obtain⟨u,us,rfl,h1,h2⟩:=h;cases r with
  |cons r1 r2=>
  rename_i v its;obtain⟨fs,k1,k2,k3⟩:=kb_ I h2 r2 fun ys hy=>hne ys (by simp [hy]);obtain⟨a,rfl,ha⟩:=hR_ h1;obtain rfl:v=Value.ref a:=r1;obtain⟨is,q1,q2,q3⟩:=I.tuple (SqT.of (K:=X.K) ha);obtain⟨o,ho,hc,n,hd⟩:=(show s.heap.IsTuple a is.toArray from q2)
  match xs,hne xs (by simp) with
  |x::xs',_=>
  cases q1 with
  |cons q0 q1=>
  obtain⟨t,rfl⟩:=q0;refine⟨.int x t::fs,KatTups.cons ho hc hd (by simp) k1,by simp [k2],fun f hf=> ?_⟩;rcases AO.mp hf with rfl|hf
  .exact⟨_,_,rfl⟩
  .exact k3 f hf
theorem n1_ (I:Inv X pins σ H s) {a b:Addr}{xs ys:List Int} (h1:SqT X.K H a (xs.map V.int)) (h2:SqT X.K H b (ys.map V.int)) {A:Around}{prog:Program}{w:World}{E:Value->Shared->Prop}{Q:Bool->Shared->Prop} (q:Q (ltI xs ys) s):
  wpAny (model prog w) A (keyLt' (tuples' true) (.ref a) (.ref b)) Q E s:=by
 obtain⟨is,r1,p1,z1⟩:=I.tuple h1;obtain⟨js,r2,p2,z2⟩:=I.tuple h2;obtain⟨o1,ho1,hc1,n1,hd1⟩:=(show s.heap.IsTuple a is.toArray from p1);obtain⟨o2,ho2,hc2,n2,hd2⟩:=(show s.heap.IsTuple b js.toArray from p2);refine kat_lt ho1 hd1 ho2 hd2 ?_;have l1:is.toArray.size=xs.length:=by have:=r1.length;simp at this⊢;lia
 have l2:js.toArray.size=ys.length:=by have:=r2.length;simp at this⊢;lia
 rw [l1,l2];exact j4_ 0 r1 r2 q
end
end L2
namespace L2
open PySem PySem.Spec PyProof.Rows
def tS_ (K:W.Frag) (H:Hp) (n:Nat) (xs:List V) (x:V) (es:Nat->Bool):Prop:=n<=8/\(∀(j:Nat) z,xs[j]? =some z->(∃a,z= .ref a)/\EqR K H n z x (es j))/\∀(i j:Nat) z,xs[i]? =some z->xs[j]? =some z->es i=es j
section
variable {X:Cx}{pins:List (Addr×Obj)}{σ:St}{H:Hp}{s:Shared}
open Classical in
noncomputable def ii_ (its:List Value) (es:Nat->Bool) (u:Value):Bool:=decide (∃j:Nat,its[j]? =some u/\es j=true)
end
section
variable {X:Cx}
end
end L2
namespace L2
open PySem PySem.Spec PyProof.Rows PySem.W
def Ask (K:W.Frag) (H:Hp) (x y:V) (b:Bool):Prop:=∃(a1 a2:Addr) (xs ys:List V) (d:Nat) (es fs:Nat->Bool),x= .ref a1/\y= .ref a2/\SqL K H a1 xs/\SqL K H a2 ys/\d<=4/\
 (∀(j:Nat) x y,xs[j]? =some x->ys[j]? =some y->EqR K H d x y (es j))/\(∀(j:Nat) x y,xs[j]? =some x->ys[j]? =some y->es j=false->LtR K H d x y (fs j))/\b=SeqAt.lex es fs xs.length ys.length (min xs.length ys.length) 0
section
variable {X:Cx}
end
section
variable {K:W.Frag}{H:Hp}
end
end L2
namespace L2
open PySem PySem.Spec PyProof.Rows PyProof
section
variable {prog:Program}{w:World}{A:Around}{R:Result->Shared->Prop}{I:Addr}{fp wr:List Addr}{n:Nat}{P:Nat->Value->Prop}{St:Nat->Heap->Prop}{nm:Str}{dv:Value}
end
section
variable {prog:Program}{w:World}{A:Around}{E:Value->Shared->Prop}{s:Shared}
end
section
variable {X:Cx}{e e2:Expr}{p pos kpos:Pos}{ta tk:TA}
end
end L2
namespace L2
open PySem PySem.Spec PyProof.Rows PySem.W
def cz_ (c:Nat->Nat->Bool) {α:Type}:KasT α->α
 | .ret a=>a
 | .ask i j k=>cz_ c (k (c i j))
theorem ci_ {c:Nat->Nat->Bool}{α β:Type}{f:α->KasT β}:∀(t:KasT α),cz_ c (t.bind f)=cz_ c (f (cz_ c t))
 | .ret _=>rfl
 | .ask i j k=>ci_ (k (c i j))
structure Ordr (c:Nat->Nat->Bool):Prop where
 asym:∀a b,c a b=true->c b a=false
 tr:∀a b d,c b a=false->c d b=false->c d a=false
section
variable {c:Nat->Nat->Bool}
abbrev at0 (p:Array Nat) (i:Nat):Nat:=p.getD i 0
def Up (c:Nat->Nat->Bool) (p:Array Nat) (m:Nat):Prop:=∀i j,i<j->j<m->c (at0 p j) (at0 p i)=false
def Dn (c:Nat->Nat->Bool) (p:Array Nat) (m:Nat):Prop:=∀i j,i<j->j<m->c (at0 p i) (at0 p j)=false
theorem Up.more (O:Ordr c) {p:Array Nat}{m:Nat} (h:Up c p m) (hm:0<m) (e:c (at0 p m) (at0 p (m-1))=false):Up c p (m+1):=by
 intro i j hij hj;by_cases hjm:j<m
 .exact h i j hij hjm
 .obtain rfl:j=m:=by lia
  by_cases hi:i=j-1
  .subst hi;exact e
  .exact O.tr _ _ _ (h i (j-1) (by lia) (by lia)) e
theorem Dn.more (O:Ordr c) {p:Array Nat}{m:Nat} (h:Dn c p m) (hm:0<m) (e:c (at0 p (m-1)) (at0 p m)=false):Dn c p (m+1):=by
 intro i j hij hj;by_cases hjm:j<m
 .exact h i j hij hjm
 .obtain rfl:j=m:=by lia
  by_cases hi:i=j-1
  .subst hi;exact e
  .exact O.tr _ _ _ e (h i (j-1) (by lia) (by lia))
theorem g2_ (O:Ordr c) {p:Array Nat}:∀(f m:Nat),0<m->Up c p m->m<=cz_ c (kas_asc p f m)/\cz_ c (kas_asc p f m)<=m+f/\Up c p (cz_ c (kas_asc p f m))/\(cz_ c (kas_asc p f m)<m+f->c (at0 p (cz_ c (kas_asc p f m))) (at0 p (cz_ c (kas_asc p f m)-1))=true)
 |0,m,hm,h=>⟨A7 _,A7 _,h,fun z=>absurd z (Bm _)⟩
 |f+1,m,hm,h=>by
  unfold kas_asc cz_;cases e:c (p.getD m 0) (p.getD (m-1) 0) with
  |true=>
   dsimp only;rw [A8 rfl];exact⟨A7 _,by show m<=_;lia,h,fun _=>e⟩
  |false=>
   dsimp only;rw [A6 (by decide)];obtain⟨h1,h2,h3,h4⟩:=g2_ O f (m+1) (by lia) (h.more O hm e);exact⟨by lia,by lia,h3,fun z=>h4 (by lia)⟩
theorem c4_ {p:Array Nat}{i j:Nat} (hj:j<=p.size) (k:Nat):at0 (kas_rev p i j) k=if i<=k/\k<j then at0 p (i+j-1-k) else at0 p k:=by
 have h:=getElem?_mirror_all (xs:=p) (i:=i) hj k;have e:∀q:Array Nat,∀k,at0 q k=(q[k]?).getD 0:=fun q k=>by simp [at0,Array.getD];split<;>simp [*]
 rw [e,e,e];unfold kas_rev;rw [h];split<;>rfl
theorem cq_ (p:Array Nat) (i j:Nat):(kas_rev p i j).size=p.size:=mirror_size _ _ _ _
theorem Dn.rev_all {p:Array Nat}{m:Nat} (h:Dn c p m) (hm:m<=p.size):Up c (kas_rev p 0 m) m:=by
 intro i j hij hj;rw [c4_ hm,c4_ hm,A8 ⟨by lia,hj⟩,A8 ⟨by lia,by lia⟩];exact h _ _ (by lia) (by lia)
theorem Up.rev_all {p:Array Nat}{m:Nat} (h:Up c p m) (hm:m<=p.size):Dn c (kas_rev p 0 m) m:=by
 intro i j hij hj;rw [c4_ hm,c4_ hm,A8 ⟨by lia,by lia⟩,A8 ⟨by lia,hj⟩];exact h _ _ (by lia) (by lia)
theorem Dn.rev_blk {p:Array Nat}{m q:Nat} (h:Dn c p m) (hm:m<=p.size) (hq:q+1<=m) (hb:∀i j,m-(q+1)<=i->i<m->m-(q+1)<=j->j<m->c (at0 p i) (at0 p j)=false):Dn c (kas_rev p (m-(q+1)) m) m:=by
 intro i j hij hj;rw [c4_ hm,c4_ hm];by_cases h1:m-(q+1)<=i
 .rw [A8 ⟨h1,by lia⟩,A8 ⟨by lia,hj⟩];exact hb _ _ (by lia) (by lia) (by lia) (by lia)
 .rw [A6 (by lia)];by_cases h2:m-(q+1)<=j
  .rw [A8 ⟨h2,hj⟩];exact h _ _ (by lia) (by lia)
  .rw [A6 (by lia)];exact h _ _ hij hj
def Blk (c:Nat->Nat->Bool) (p:Array Nat) (m q:Nat):Prop:=q+1<=m/\∀i j,m-(q+1)<=i->i<m->m-(q+1)<=j->j<m->c (at0 p i) (at0 p j)=false
theorem dL_ (O:Ordr c):∀(f:Nat) (p:Array Nat) (m q:Nat),m+f<=p.size->0<m->Dn c p m->Blk c p m q->∀r,r=cz_ c (kas_desc f p m q)->r.1.size=p.size/\m<=r.2.1/\r.2.1<=m+f/\Dn c r.1 r.2.1/\Blk c r.1 r.2.1 r.2.2
 |0,p,m,q,_,_,hd,hb,r,e=>by
  subst e;exact⟨rfl,A7 _,A7 _,hd,hb⟩
 |f+1,p,m,q,hs,hm,hd,hb,r,e=>by
  unfold kas_desc cz_ at e;cases e1:c (p.getD m 0) (p.getD (m-1) 0) with
  |true=>
   rw [e1] at e;dsimp only at e;rw [A8 rfl] at e;have e2:=O.asym _ _ e1;by_cases hq:q>0
   .rw [A8 hq] at e;have hd2:=hd.rev_blk (by lia) hb.1 hb.2;have at_m:at0 (kas_rev p (m-(q+1)) m) m=at0 p m:=by rw [c4_ (by lia),A6 (by lia)]
    have at_m1:at0 (kas_rev p (m-(q+1)) m) (m-1)=at0 p (m-(q+1)+m-1-(m-1)):=by rw [c4_ (by lia),A8 ⟨by have:=hb.1;lia,by lia⟩]
    have e3:c (at0 (kas_rev p (m-(q+1)) m) (m-1)) (at0 (kas_rev p (m-(q+1)) m) m)=false:=by
     rw [at_m,at_m1];have b1:=hb.1;exact O.tr _ _ _ e2 (hb.2 _ (m-1) (by lia) (by lia) (by lia) (by lia))
    have hd3:=hd2.more O hm e3;have hb3:Blk c (kas_rev p (m-(q+1)) m) (m+1) 0:=⟨by lia,fun i j h1 h2 h3 h4=>by
     obtain rfl:i=m:=by lia
     obtain rfl:j=i:=by lia
     cases h:c (at0 (kas_rev p (j-(q+1)) j) j) (at0 (kas_rev p (j-(q+1)) j) j) with
     |false=>rfl
     |true=>have:=O.asym _ _ h;rw [h] at this;cases this⟩
    obtain⟨r1,r2,r3,r4,r5⟩:=dL_ O f _ (m+1) 0 (by rw [cq_];lia) (by lia) hd3 hb3 r e;exact⟨by rw [r1,cq_],by lia,by lia,r4,r5⟩
   .rw [A6 hq] at e;have hd3:=hd.more O hm e2;have hb3:Blk c p (m+1) 0:=⟨by lia,fun i j h1 h2 h3 h4=>by
     obtain rfl:i=m:=by lia
     obtain rfl:j=i:=by lia
     cases h:c (at0 p j) (at0 p j) with
     |false=>rfl
     |true=>have:=O.asym _ _ h;rw [h] at this;cases this⟩
    obtain⟨r1,r2,r3,r4,r5⟩:=dL_ O f _ (m+1) 0 (by lia) (by lia) hd3 hb3 r e;exact⟨r1,by lia,by lia,r4,r5⟩
  |false=>
   rw [e1] at e;dsimp only at e;rw [A6 (by decide)] at e;unfold cz_ at e;cases e2:c (p.getD (m-1) 0) (p.getD m 0) with
   |true=>
    rw [e2] at e;dsimp only at e;rw [A8 rfl] at e;subst e;exact⟨rfl,A7 _,by show m<=_;lia,hd,hb⟩
   |false=>
    rw [e2] at e;dsimp only at e;rw [A6 (by decide)] at e;have hd3:=hd.more O hm e2;have b1:=hb.1;have hb3:Blk c p (m+1) (q+1):=⟨by lia,fun i j h1 h2 h3 h4=>by
     by_cases hi:i=m
     .by_cases hj:j=m
      .subst hi;subst hj;cases h:c (at0 p j) (at0 p j) with
       |false=>rfl
       |true=>have:=O.asym _ _ h;rw [h] at this;cases this
      .subst hi;exact O.tr _ _ _ (hb.2 _ _ (by lia) (by lia) (by lia) (by lia)) e1
     .by_cases hj:j=m
      .subst hj;exact O.tr _ _ _ e2 (hb.2 _ _ (by lia) (by lia) (by lia) (by lia))
      .exact hb.2 _ _ (by lia) (by lia) (by lia) (by lia)⟩
    obtain⟨r1,r2,r3,r4,r5⟩:=dL_ O f _ (m+1) (q+1) (by lia) (by lia) hd3 hb3 r e;exact⟨r1,by lia,by lia,r4,r5⟩
theorem h6_ (O:Ordr c) {p:Array Nat}{m n:Nat} (hn:n<=p.size) (hm:m<=n) (h0:0<m) (hd:Dn c p m):∀r,r=cz_ c (kas_tail3 m n p)->r.2.size=p.size/\0<r.1/\r.1<=n/\Up c r.2 r.1:=by
 intro r e;unfold kas_tail3 at e;rw [ci_] at e;subst e;obtain⟨h1,h2,h3,_⟩:=g2_ O (n-m) m h0 (hd.rev_all (by lia));exact⟨cq_ _ _ _,by show 0<cz_ c _;lia,by show cz_ c _<=n;lia,h3⟩
theorem h7_ (O:Ordr c) {p:Array Nat}{m n:Nat} (hn:n<=p.size) (hm:m<n) (h0:0<m) (hd:Dn c p m) (e:c (at0 p m) (at0 p (m-1))=true):∀r,r=cz_ c (kas_descPart m n p)->r.2.size=p.size/\0<r.1/\r.1<=n/\Up c r.2 r.1:=by
 intro r er;unfold kas_descPart at er;rw [ci_] at er;have hd1:=hd.more O h0 (O.asym _ _ e);have hb1:Blk c p (m+1) 0:=⟨by lia,fun i j h1 h2 h3 h4=>by
  obtain rfl:i=m:=by lia
  obtain rfl:j=i:=by lia
  cases h:c (at0 p j) (at0 p j) with
  |false=>rfl
  |true=>have:=O.asym _ _ h;rw [h] at this;cases this⟩
 obtain⟨r1,r2,r3,r4,r5⟩:=dL_ O (n-(m+1)) p (m+1) 0 (by lia) (by lia) hd1 hb1 _ rfl;generalize cz_ c (kas_desc (n-(m+1)) p (m+1) 0)=d at*
 split at er
 .obtain⟨t1,t2,t3,t4⟩:=h6_ O (p:=kas_rev d.1 (d.2.1-(d.2.2+1)) d.2.1) (m:=d.2.1) (n:=n) (by rw [cq_];lia) (by lia) (by lia) (r4.rev_blk (by lia) r5.1 r5.2) r er;exact⟨by rw [t1,cq_,r1],t2,t3,t4⟩
 .obtain⟨t1,t2,t3,t4⟩:=h6_ O (p:=d.1) (m:=d.2.1) (n:=n) (by lia) (by lia) (by lia) r4 r er;exact⟨by rw [t1,r1],t2,t3,t4⟩
theorem kQ_ (O:Ordr c) {p:Array Nat}{n:Nat} (hn:n<=p.size) (h0:0<n):∀r,r=cz_ c (kas_count n p)->r.2.size=p.size/\0<r.1/\r.1<=n/\Up c r.2 r.1:=by
 intro r er;unfold kas_count at er;rw [ci_] at er;obtain⟨h1,h2,h3,h4⟩:=g2_ O (p:=p) (n-1) 1 (by decide) (fun i j a b=>absurd b (by lia));generalize cz_ c (kas_asc p (n-1) 1)=m at*
 by_cases hm:m=n
 .subst hm;rw [A8 (by simp)] at er;subst er;exact⟨rfl,h0,A7 _,h3⟩
 .rw [A6 (by simp [hm])] at er;have st:=h4 (by lia);by_cases h5:m>1
  .rw [A8 h5] at er;unfold cz_ at er;cases e1:c (p.getD 0 0) (p.getD (m-1) 0) with
   |true=>
    rw [e1] at er;dsimp only at er;rw [A8 rfl] at er;subst er;exact⟨rfl,by show 0<m;lia,by show m<=n;lia,h3⟩
   |false=>
    rw [e1] at er;dsimp only at er;rw [A6 (by decide)] at er;have hd:=h3.rev_all (by lia:m<=p.size);obtain⟨t1,t2,t3,t4⟩:=h7_ O (p:=kas_rev p 0 m) (m:=m) (n:=n) (by rw [cq_];exact hn) (by lia) (by lia) hd (by
     rw [c4_ (by lia),c4_ (by lia),A6 (by lia),A8 ⟨by lia,by lia⟩,show 0+m-1-(m-1)=0 by lia];cases h:c (at0 p m) (at0 p 0) with
     |true=>rfl
     |false=>have:=O.tr _ _ _ e1 h;rw [st] at this;cases this) r er
    exact⟨by rw [t1,cq_],t2,t3,t4⟩
  .rw [A6 h5] at er;obtain rfl:m=1:=by lia
   exact h7_ O hn (by lia) (by decide) (fun i j a b=>absurd b (by lia)) st r er
theorem ee_ (O:Ordr c) {p:Array Nat}{k:Nat} (hu:Up c p k):∀(f l r:Nat),r-l<=f->l<=r->r<=k->(∀i,i<l->c (at0 p k) (at0 p i)=false)->(∀i,r<=i->i<k->c (at0 p k) (at0 p i)=true)->
  cz_ c (kas_place p k f l r)<=k/\(∀i,i<cz_ c (kas_place p k f l r)->c (at0 p k) (at0 p i)=false)/\(∀i,cz_ c (kas_place p k f l r)<=i->i<k->c (at0 p k) (at0 p i)=true)
 |0,l,r,hf,hl,hr,h1,h2=>by
  obtain rfl:l=r:=by lia
  exact⟨hr,h1,h2⟩
 |f+1,l,r,hf,hl,hr,h1,h2=>by
  unfold kas_place;by_cases h:l>=r
  .rw [A8 h];obtain rfl:l=r:=by lia
   exact⟨hr,h1,h2⟩
  .rw [A6 h];unfold cz_;cases e:c (p.getD k 0) (p.getD ((l+r)/2) 0) with
   |true=>
    dsimp only;rw [A8 rfl];refine ee_ O hu f l ((l+r)/2) (by lia) (by lia) (by lia) h1 fun i a b=> ?_;by_cases hi:i=(l+r)/2
    .subst hi;exact e
    .cases q:c (at0 p k) (at0 p i) with
     |true=>rfl
     |false=>have:=O.tr _ _ _ (hu ((l+r)/2) i (by lia) b) q;rw [e] at this;cases this
   |false=>
    dsimp only;rw [A6 (by decide)];refine ee_ O hu f ((l+r)/2+1) r (by lia) (by lia) hr (fun i a=> ?_) h2;by_cases hi:i=(l+r)/2
    .subst hi;exact e
    .exact O.tr _ _ _ (hu i ((l+r)/2) (by lia) (by lia)) e
theorem ph_ {p:Array Nat}{k d:Nat} (hk:k<p.size) (hd:d<=k) (i:Nat):at0 (bubble p k d) i=if i=k-d then at0 p k else if k-d<i/\i<=k then at0 p (i-1) else at0 p i:=by
 have h:=getElem?_bubble hk d hd i;have e:∀q:Array Nat,∀k,at0 q k=(q[k]?).getD 0:=fun q k=>by simp [at0,Array.getD];split<;>simp [*]
 rw [e,e,e,e,h];split
 .rfl
 .split<;>rfl
theorem j7_ (O:Ordr c):∀(f:Nat) (p:Array Nat) (k:Nat),0<k->k+f<=p.size->Up c p k->Up c (cz_ c (kas_bin f p k)) (k+f)
 |0,p,k,_,_,h=>h
 |f+1,p,k,h0,hs,hu=>by
  unfold kas_bin;rw [ci_];obtain⟨a1,a2,a3⟩:=ee_ O hu k 0 k (by lia) (by lia) (A7 _) (fun i z=>absurd z (by lia)) (fun i z1 z2=>absurd z2 (by lia));generalize cz_ c (kas_place p k k 0 k)=l at*
  have hu2:Up c (bubble p k (k-l)) (k+1):=by
   intro i j hij hj;rw [ph_ (by lia) (by lia),ph_ (by lia) (by lia),show k-(k-l)=l by lia];by_cases j1:j=l
   .rw [A8 j1,A6 (by lia),A6 (by lia)];exact a2 i (by lia)
   .rw [A6 j1];by_cases j2:l<j/\j<=k
    .rw [A8 j2];by_cases i1:i=l
     .rw [A8 i1];exact O.asym _ _ (a3 (j-1) (by lia) (by lia))
     .rw [A6 i1];by_cases i2:l<i/\i<=k
      .rw [A8 i2];exact hu _ _ (by lia) (by lia)
      .rw [A6 i2];exact hu _ _ (by lia) (by lia)
    .rw [A6 j2,A6 (by lia),A6 (by lia)];exact hu _ _ hij (by lia)
  have:=j7_ O f (bubble p k (k-l)) (k+1) (by lia) (by rw [bubble_size];lia) hu2;rw [show k+(f+1)=k+1+f by lia];exact this
theorem ms_ (O:Ordr c) {n:Nat} (h0:0<n):Up c (cz_ c (kas_sort n)) n:=by
 unfold kas_sort;rw [ci_];obtain⟨r1,r2,r3,r4⟩:=kQ_ O (p:=List.toArray (List.range n)) (n:=n) (by simp) h0 _ rfl;generalize cz_ c (kas_count n (List.toArray (List.range n)))=r at*
 have sz:r.2.size=n:=by rw [r1];simp
 by_cases h:r.1<n
 .rw [A8 h];have em:max r.1 1=r.1:=by lia
  rw [em];have:=j7_ O (n-r.1) r.2 r.1 r2 (by lia) r4;rw [show r.1+(n-r.1)=n by lia] at this;exact this
 .rw [A6 h];have:r.1=n:=by lia
  rw [this] at r4;exact r4
end
end L2
namespace L2
open PySem PySem.Spec PyProof.Rows PySem.W
theorem bh_.wpc {n:Nat}{c:Nat->Nat->Bool}{α:Type}{R:α->Prop}{cmp:Nat->Nat->(Bool->Shared->Prop)->Shared->Prop}{Q:α->Shared->Prop}{s:Shared} (hc:∀i j,i<n->j<n->∀C:Bool->Shared->Prop,C (c i j) s->cmp i j C s):∀{t:KasT α},(R (cz_ c t)->Q (cz_ c t) s)->bh_ n R t->t.kasWp cmp Q s
 | .ret a,hq,h=>hq h
 | .ask i j k,hq,h=>hc i j h.1 h.2.1 _ (bh_.wpc hc (t:=k (c i j)) hq (h.2.2 (c i j)))
theorem mp_:∀{xs ys zs:List Int},xs.length=ys.length->ys.length=zs.length->kP_ false ys xs=false->kP_ false zs ys=false->kP_ false zs xs=false
 |[],[],[],_,_,_,_=>rfl
 |x::xs,y::ys,z::zs,h1,h2,a,b=>by
  unfold kP_ at a b⊢;by_cases e1:y=x
  .rw [A8 e1] at a;by_cases e2:z=y
   .rw [A8 e2] at b;rw [A8 (e2.trans e1)];exact mp_ (by simpa using h1) (by simpa using h2) a b
   .rw [A6 e2] at b;have:=of_decide_eq_false b;rw [A6 (by lia)];exact AX (by lia)
  .rw [A6 e1] at a;have a:=of_decide_eq_false a;by_cases e2:z=y
   .rw [A6 (by lia)];exact AX (by lia)
   .rw [A6 e2] at b;have:=of_decide_eq_false b;rw [A6 (by lia)];exact AX (by lia)
theorem h4_:∀{xs ys:List Int},xs.length=ys.length->kP_ false xs ys=true->kP_ false ys xs=false
 |[],[],_,h=>nomatch h
 |x::xs,y::ys,hl,h=>by
  unfold kP_ at h⊢;by_cases e:x=y
  .rw [A8 e] at h;rw [A8 e.symm];exact h4_ (by simpa using hl) h
  .rw [A6 e] at h;have:=Aa h;rw [A6 (by lia)];exact AX (by lia)
theorem j0_ {xs ys:List Int} (h:xs.length=ys.length):ltI xs ys=kP_ false xs ys:=by
 unfold ltI;rw [AX (by lia)]
def qY_ (xss:List (List Int)) (i:Nat):List Int:=xss.getD i (xss.headD [])
def qX_ (xss:List (List Int)) (i j:Nat):Bool:=ltI (qY_ xss i) (qY_ xss j)
theorem mv_ {xss:List (List Int)}{i:Nat} (h:i<xss.length):qY_ xss i=xss.getD i []:=by
 unfold qY_;rw [AE,AE,A2 h];rfl
theorem lZ_ {xss:List (List Int)}{i j:Nat} (hi:i<xss.length) (hj:j<xss.length):qX_ xss i j=ltI (xss.getD i []) (xss.getD j []):=by
 unfold qX_;rw [mv_ hi,mv_ hj]
theorem n2_ {xss:List (List Int)}{m:Nat} (h0:0<xss.length) (h:∀xs∈xss,xs.length=m) (i:Nat):(qY_ xss i).length=m:=by
 unfold qY_;rw [AE];cases e:xss[i]? with
 |some x=>exact h x (AL e)
 |none=>
  cases xss with
  |nil=>cases h0
  |cons x xs=>exact h x (by simp)
theorem pV_ {xss:List (List Int)}{m:Nat} (h0:0<xss.length) (h:∀xs∈xss,xs.length=m):Ordr (qX_ xss):=by
 have k:=n2_ h0 h;refine⟨fun a b e=> ?_,fun a b d e1 e2=> ?_⟩
 .unfold qX_ at e⊢;rw [j0_ (by rw [k,k])] at e⊢;exact h4_ (by rw [k,k]) e
 .unfold qX_ at e1 e2⊢;rw [j0_ (by rw [k,k])] at e1 e2⊢;exact mp_ (by rw [k,k]) (by rw [k,k]) e1 e2
section
variable {prog:Program}{w:World}{A:Around}{E:Value->Shared->Prop}{s:Shared}
theorem lu_ {c:Nat->Nat->Bool}{kd:SortKind}{a:Addr}{vs:List Value}{n:Nat}{P:PySem.Fin->Shared->Prop} (ho:s.heap.get? a=some (seqObj "list" vs.toArray n)) (h2:2<=vs.length) (h64:vs.length<64)
  (hkd:∀(R:SortKind->Shared->Prop),R kd {s with heap:=aL_ s.heap a vs}->wpAny (model prog w) A (keyKind' vs.toArray) R E {s with heap:=aL_ s.heap a vs})
  (hc:∀i j,i<vs.length->j<vs.length->∀C:Bool->Shared->Prop,C (c i j) {s with heap:=aL_ s.heap a vs}->wpAny (model prog w) A (keyLt' kd (vs.getD i .none) (vs.getD j .none)) C (fun _ _=>False) {s with heap:=aL_ s.heap a vs})
  (h:∀p,Ord vs.length p->p=cz_ c (kas_sort vs.length)->P (.done (.ret .none)) {s with heap:=sortedHeap s.heap a vs (p.map fun i=>vs.getD i .none)}):wpAny (model prog w) A (Builtin.«list.sort» ⟨[.ref a],[]⟩) P E s:=by
 rw [list_sort_plain];have ha:a<s.heap.objs.size:=AG ho;refine A0 (listItems_at ho rfl ?_);refine A0 (CQ ho rfl ?_ (by rw [AA,B1];lia) (AS _));obtain⟨e1,ho1⟩:∃e1,(s.heap.update a (Obj.mapSeq fun _=>(#[]:Array Value))).get? a=some (seqObj "list" #[] e1):=⟨_,CK ho (fun _=> #[])⟩;refine A0 (seqEpoch_at ho1 rfl ?_);refine A0 (wpAny_newTuple ?_ (by show vs.length<=_;rw [B1];lia));refine A0 (D0 ?_ (AS _));refine B0 ?_;have ho6:(aL_ s.heap a vs).get? a=some (seqObj "list" #[] e1):=by
  rw [Az _ _ _ (by rw [Bl,Ay];exact AK (Ae ha)),Az _ _ _ (by rw [Ay];exact AK ha)];exact ho1
 show wpAny (model prog w) A _ P E {s with heap:=aL_ s.heap a vs};dsimp only;have hn2:¬vs.toArray.size<2:=by rw [AA];lia
 rw [A6 hn2,A6 hn2];refine A0 (hkd _ ?_);have est:kas_st kd (pairsOf vs) (List.toArray (List.range vs.length))=SortSt.mk' kd (vs.toArray.zip vs.toArray) #[] 7 none:=by
  have e:=kas_range (pairsOf vs);rw [pairsOf_size] at e;show SortSt.mk' kd ((List.toArray (List.range vs.length)).map (kas_item (pairsOf vs))) #[] 7 none=SortSt.mk' kd (pairsOf vs) #[] 7 none;rw [e]
 have ask:(kas_sort vs.length).kasWp (kas_cmp prog w A kd (pairsOf vs)) (fun p s'=>s'={s with heap:=aL_ s.heap a vs}/\Ord vs.length p/\p=cz_ c (kas_sort vs.length)) {s with heap:=aL_ s.heap a vs}:=by
  refine bh_.wpc (c:=c) (fun i j hi hj C hC=> ?_) (fun hp=>⟨rfl,hp,rfl⟩) (p7_ (by lia));rw [<-kas_ask_eq];exact hc i j hi hj C hC
 have run:=kas_runs (E:=E) (Q:=fun _ st' s'=>∃p,s'={s with heap:=aL_ s.heap a vs}/\(Ord vs.length p/\p=cz_ c (kas_sort vs.length))/\arrOf st'=p.map (kas_item (pairsOf vs))/\failedOf st'=none) h2 h64 (fun p' st' s' _ a2 a3 a4=>⟨p',a4.1,a4.2,a2,a3⟩) ask;rw [est] at run;refine A0 (BJ run ?_ fun _ _ e=>e);rintro⟨⟨⟩,st'⟩ s' ⟨p,rfl,⟨hp,hpc⟩,har,hf⟩;dsimp only at har hf⊢;have eo:(arrOf st').map (·.2)=p.map fun i=>vs.getD i .none:=by
  rw [har,Array.map_map];refine Array.map_congr_left fun i _=> ?_;show(kas_item (pairsOf vs) i).2=_;rw [kas_item_eq]
 rw [eo];refine A0 (seqEpoch_at ho6 rfl ?_);refine A0 (CQ ho6 rfl ?_ (AS _) (by rw [Array.size_map,B1,hp.size];lia));rw [hf];simp only [CY,AM,Av];exact A4 (h p hp hpc)
end
section
variable {X:Cx}{pins:List (Addr×Obj)}{σ:St}{H:Hp}{s:Shared}
end
end L2
namespace L2
open PySem PySem.Spec PyProof.Rows
section
variable {X:Cx}{K:W.Frag}
end
end L2
namespace HT
open PySem PySem.Spec PyProof.Rows
section
variable {prog:Program}{w:World}{A:Around}{E:Value->Shared->Prop}{s:Shared}
theorem getItem_tuple_all {t sl:Addr}{items:Array Value}{vl vu:Value}{lo hi:Option Int}{Q:Value->Shared->Prop} (ht:IsTup s.heap t items) (hs:s.heap.IsSliceOf sl vl vu .none) (pl:IsPart vl lo) (pu:IsPart vu hi)
  (hw:sIx items.size 0 lo=0/\sIx items.size items.size hi=items.size) (h:Q (.ref t) s):wpAny (model prog w) A (getItem (.ref t) (.ref sl)) Q E s:=by
 obtain⟨os,hos,hcs,hds⟩:=id hs;have hTs:s.TypeIs (.ref sl) "slice":=⟨os,hos,hcs⟩;unfold getItem;try with_reducible refine B0 ?_
 first|refine A0 (A4 ?_)|skip
 refine A0 (wpAny_sequenceKey ht.typeIs (by decide) ?_);refine A0 (BG (name:=Str.ofString "__getitem__") ht.typeIs BD
  (At BD ht.typeIs entry_tuple_getitem ?_ (args_tuple_getitem _ _)))
 show wpAny _ _ (Builtin.Tuple.tupleItemsOf (.ref t)>>=_) _ _ s;refine A0 (tupleItemsOf_ ht ?_);refine A0 (D9 hTs ?_);rw [A8 (by decide)];refine A0 (cv_ hs pl pu ?_);have hyes:(((sIx items.size 0 lo:Nat):Int)==0&&(1:Int)==1&&(sIx items.size items.size hi-sIx items.size 0 lo)==items.size)=true:=by
  rw [hw.1,hw.2];simp
 show wpAny _ _ (if(((sIx items.size 0 lo:Nat):Int)==0&&(1:Int)==1&&(sIx items.size items.size hi-sIx items.size 0 lo)==items.size)=true then _ else _) _ _ s;rw [A8 hyes];unfold Builtin.Tuple.tupleIsExact;refine A0 (A0 (D9 ht.typeIs (A4 ?_)));rw [A8 (by decide)];refine A0 (DA ?_);exact A4 ⟨_,rfl,A4 h⟩
end
end HT
namespace L2
open PySem PySem.Spec PyProof.Rows
section
variable {X:Cx}
def uu_ (K:W.Frag):V->Option Int->Option Int->Hp->VK->Prop:=fun x lo hi H Q=>∃a xs,x= .ref a/\SqT K H a xs/\
 ((HT.sIx xs.length 0 lo=0/\HT.sIx xs.length xs.length hi=xs.length)->Q (.ref a) H)/\(¬(HT.sIx xs.length 0 lo=0/\HT.sIx xs.length xs.length hi=xs.length)->∀p,H p=none->Q (.ref p) (upd H p (.tup (iA_ xs lo hi))))
theorem pG_:SlR X (uu_ X.K):=by
 intro pins s σ H x v vl vu lo hi sl Q I rx hs pl pu h;obtain⟨a,xs,rfl,hx,q1,q2⟩:=h;by_cases hw:HT.sIx xs.length 0 lo=0/\HT.sIx xs.length xs.length hi=xs.length
 .cases rx;obtain⟨its,r,ht,hz⟩:=I.tuple hx;have hlen:its.toArray.size=xs.length:=by rw [AA];exact r.length.symm
  refine⟨"tuple",_,BD.lookup,ht.typeIs, ?_⟩;exact HT.getItem_tuple_all ht hs pl pu (by rw [hlen];exact hw) ⟨.ref a,H,I,rfl,q1 hw⟩
 .exact rw_ pins s σ H _ v vl vu lo hi sl Q I rx hs pl pu ⟨a,xs,rfl,hx,hw,q2 hw⟩
end
end L2
namespace L2
open PySem PySem.Spec PyProof.Rows PySem.W
section
variable {c:Nat->Nat->Bool}
end
section
variable {X:Cx}{pins:List (Addr×Obj)}{σ:St}{H:Hp}{s:Shared}
def bvs (bs:List Bool):Array Value:=(bs.map Value.bool).toArray
def EqT (K:W.Frag) (H:Hp) (n:Nat) (x y:V) (e:Bool):Prop:=∀(X:Cx) (pins:List (Addr×Obj)) (σ:St) (s:Shared),X.K=K->Inv X pins σ H s->∀(A:Around) (u v:Value),A.units+n<cLine->a3_ x u->a3_ y v->SeqAt.EqAt A s u v e
theorem EqR.told {K:W.Frag}{n:Nat}{x y:V}{e:Bool} (h:EqR K H n x y e):EqT K H n x y e:=fun X pins σ s hk I A u v hu ru rv=>by
 subst hk;exact(h.at_ I (A:=A) hu ru rv).2.2
def qQ_ (K:W.Frag) (H:Hp) (n:Nat) (xs:List V) (x:V) (es:Nat->Bool):Prop:=n<=8/\(∀(j:Nat) z,xs[j]? =some z->(∃a,z= .ref a)/\EqT K H n z x (es j))/\∀(i j:Nat) z,xs[i]? =some z->xs[j]? =some z->es i=es j
open Classical in
theorem ih_ {n:Nat}{xs:List V}{x:V}{es:Nat->Bool}{its:List Value} (t:qQ_ X.K H n xs x es) (r:aX_ xs its) {j:Nat}{u:Value} (hu:its[j]? =some u):ii_ its es u=es j:=by
 have same:∀i:Nat,its[i]? =some u->es i=es j:=fun i hi=>by
  have li:=(A'.mp hi).1;have lj:=(A'.mp hu).1;have ln:=r.length;have xi:xs[i]? =some xs[i]:=A2 (by lia);have xj:xs[j]? =some xs[j]:=A2 (by lia);obtain⟨u1,e1,r1⟩:=r.get xi;obtain⟨u2,e2,r2⟩:=r.get xj;rw [hi] at e1;rw [hu] at e2;cases e1;cases e2;obtain⟨⟨a,ea⟩,_⟩:=t.2.1 i _ xi;obtain⟨⟨b,eb⟩,_⟩:=t.2.1 j _ xj;rw [ea] at r1 xi;rw [eb] at r2 xj;obtain rfl:u=Value.ref a:=r1;have:Value.ref a=Value.ref b:=r2;cases this;exact t.2.2 i j _ xi xj
 unfold ii_;cases h:es j with
 |true=>exact Ak ⟨j,hu,h⟩
 |false=>exact AX fun⟨i,hi,e⟩=>by rw [same i hi,h] at e;cases e
def pN_ (K:W.Frag):V->List V->Hp->VK->Prop:=fun o vs H Q=>∃(p:Addr) (xs:List V) (x:V) (n:Nat) (es:Nat->Bool),o= .ref p/\vs=[x]/\SqL K H p xs/\qQ_ K H n xs x es/\Q (.int (((List.range xs.length).countP es:Nat):Int)) H
theorem mb_ {k:Nat} (hr:Room k X.A):MtM X "list.count" (pN_ X.K):=by
 intro pins s σ H o vs v us Q I ro rv h;obtain⟨p,xs,x,n,es,rfl,rfl,hq,t,q⟩:=h;cases ro;obtain⟨u,rfl,ru⟩:=aX_.one rv;have hu:=hr.un;have t8:=t.1;obtain⟨its,r,pl,hz⟩:=I.list hq;have ln:=r.length;obtain⟨⟨cls,dd,data,sl⟩,ho,hc,m,hd⟩:=pl.isList;simp only at hc hd;subst hc hd;have ec:its.toArray.toList.countP (ii_ its es)=(List.range xs.length).countP es:=by
  have e1:its=(List.range its.length).map fun i=>its.getD i .none:=by
   refine List.ext_getElem (by simp) fun i h1 h2=> ?_;simp [h1]
  have e2:its.countP (ii_ its es)=((List.range its.length).map fun i=>its.getD i .none).countP (ii_ its es):=by rw [<-e1]
  show its.countP (ii_ its es)=_;rw [e2,List.countP_map,ln];refine List.countP_congr fun i hi=> ?_;have hi':i<its.length:=by simpa using hi
  have:ii_ its es (its.getD i .none)=es i:=ih_ t r (by rw [AE,A2 hi'];rfl);simp only [Function.comp_apply,this]
 refine DC F.slot_list_count ⟨_,ho,rfl⟩ F.entry_list_count (F.args_list_count_2 _ _) (SeqAt.list_countAt p its.toArray m dd sl u (ii_ its es)) ⟨ho,fun y hy=> ?_, ?_⟩
 .obtain⟨j,hj,e⟩:=BN.mp (by simpa using hy);have ej:its[j]? =some y:=by rw [A2 hj,e]
  have xj:xs[j]? =some xs[j]:=A2 (by lia);obtain⟨u2,e2,r2⟩:=r.get xj;rw [ej] at e2;cases e2;rw [ih_ t r ej];exact(t.2.1 j _ xj).2 X pins σ s rfl I _ _ _ (by rw [a4_];lia) r2 ru
 rw [ec];exact⟨.int _,H,I.tok _,⟨_,rfl⟩,q⟩
end
end L2
namespace L2
open PySem PySem.SetTable
def bU_ (m:Nat) (p:Probe):Probe:=advance {mask:=m,place:= #[],dummies:= #[],finger:=0,led:=true,moves:=0,plain:=true} p
def pAt (m:Nat) (h:Int):Nat->Probe
 |0=>probeStart {mask:=m,place:= #[],dummies:= #[],finger:=0,led:=true,moves:=0,plain:=true} h
 |n+1=>bU_ m (pAt m h n)
def sl (m:Nat) (h:Int) (n:Nat):Nat:=(pAt m h n).j
theorem sC_ (t:SetTable) (p:Probe):advance t p=bU_ t.mask p:=rfl
theorem e5_ {m:Nat}{p:Probe} (h:p.dummy=none):(bU_ m p).dummy=none:=by
 unfold bU_ advance;split<;>exact h
theorem e6_ (m:Nat) (h:Int):∀n,(pAt m h n).dummy=none
 |0=>rfl
 |n+1=>e5_ (e6_ m h n)
def Ris (xs:Array Nat):Prop:=∀i j,i<j->j<xs.size->xs.getD i 0<xs.getD j 0
theorem ki_ {xs:Array Nat}{i:Nat} (h:i<xs.size) (a b:Nat):xs.getD i a=xs.getD i b:=by simp [Array.getD,h]
theorem ho_ {xs:Array Nat}{j:Nat} (r:Ris xs):∀(f lo hi:Nat),hi-lo<=f->lo<=hi->hi<=xs.size->(∀i,i<lo->xs.getD i 0<j)->(∀i,hi<=i->i<xs.size->j<=xs.getD i 0)->
  lo<=below.go xs j f lo hi/\below.go xs j f lo hi<=hi/\(∀i,i<below.go xs j f lo hi->xs.getD i 0<j)/\(∀i,below.go xs j f lo hi<=i->i<xs.size->j<=xs.getD i 0)
 |0,lo,hi,hf,hl,hh,h1,h2=>by
  unfold below.go;have:lo=hi:=by lia
  subst this;exact⟨A7 _,A7 _,h1,h2⟩
 |f+1,lo,hi,hf,hl,hh,h1,h2=>by
  unfold below.go;by_cases c:lo<hi
  .rw [A8 c];dsimp only;have hm:(lo+hi)/2<xs.size:=by lia
   by_cases c2:xs.getD ((lo+hi)/2) j<j
   .rw [A8 c2];rw [ki_ hm j 0] at c2;obtain⟨a,b,c,d⟩:=ho_ r f ((lo+hi)/2+1) hi (by lia) (by lia) hh (fun i hi'=>by
     by_cases e:i=(lo+hi)/2
     .rw [e];exact c2
     .exact Nat.lt_trans (r i _ (by lia) hm) c2) h2
    exact⟨by lia,b,c,d⟩
   .rw [A6 c2];rw [ki_ hm j 0] at c2;obtain⟨a,b,c,d⟩:=ho_ r f lo ((lo+hi)/2) (by lia) (by lia) (by lia) h1 (fun i h3 h4=>by
     by_cases e:i=(lo+hi)/2
     .rw [e];lia
     .have:=r ((lo+hi)/2) i (by lia) h4;lia)
    exact⟨a,by lia,c,d⟩
  .rw [A6 c];have:lo=hi:=by lia
   subst this;exact⟨A7 _,A7 _,h1,h2⟩
theorem dT_ {xs:Array Nat} (r:Ris xs) (j:Nat):below xs j<=xs.size/\(∀i,i<below xs j->xs.getD i 0<j)/\(∀i,below xs j<=i->i<xs.size->j<=xs.getD i 0):=by
 obtain⟨_,b,c,d⟩:=ho_ (j:=j) r xs.size 0 xs.size (by lia) (AS _) (A7 _) (fun i h=>absurd h (by lia)) (fun i h1 h2=>by lia);exact⟨b,c,d⟩
def In (xs:Array Nat) (j:Nat):Prop:=∃i,i<xs.size/\xs.getD i 0=j
theorem ku_ {xs:Array Nat} (r:Ris xs) {i:Nat} (hi:i<xs.size):below xs (xs.getD i 0)=i:=by
 obtain⟨a,b,c⟩:=dT_ r (xs.getD i 0);by_cases h:below xs (xs.getD i 0)<i
 .have:=c _ (A7 _) (by lia);have:=r _ _ h hi;lia
 .by_cases h2:i<below xs (xs.getD i 0)
  .have:=b i h2;lia
  .lia
theorem hx_ {t:SetTable} (r:Ris t.place) {i:Nat} (hi:i<t.place.size):t.slot (t.place.getD i 0)= .live i:=by
 unfold slot;dsimp only;rw [ku_ r hi,A8];simp [Array.getD,hi]
theorem mJ_ (j:Nat):has #[] j=false:=by unfold has;simp
theorem kH_ {t:SetTable} (r:Ris t.place) (hd:t.dummies= #[]) {j:Nat} (h:¬In t.place j):t.slot j= .empty:=by
 unfold slot;dsimp only;have e:(t.place[below t.place j]? ==some j)=false:=by
  cases q:t.place[below t.place j]? with
  |none=>rfl
  |some x=>
   obtain⟨hl,e⟩:=Bp.mp q;have:x≠j:=fun z=>h ⟨_,hl,by simp [Array.getD,hl,e,z]⟩;simpa using this
 rw [e,hd,mJ_];rfl
theorem o2_ (xs:Array Nat) (j:Nat):In xs j\/¬In xs j:=Classical.em _
theorem probe_go {t : SetTable} (r : Ris t.place) (hd : t.dummies = #[]) (hashAt : Nat -> Int) (h : Int) : ∀ (f n0 : Nat), (∃ n1, n0 <= n1 /\ n1 < n0 + f /\ ¬ In t.place (sl t.mask h n1)) ->
    ∃ n, n0 <= n /\ (∀ k, n0 <= k -> k < n -> ∃ i, i < t.place.size /\ t.place.getD i 0 = sl t.mask h k /\ (hashAt i == h) = false) /\
      ((¬ In t.place (sl t.mask h n) /\ probe.go t hashAt h f (pAt t.mask h n0) = some (.empty (sl t.mask h n) none)) \/
       ∃ i, i < t.place.size /\ t.place.getD i 0 = sl t.mask h n /\ (hashAt i == h) = true /\ probe.go t hashAt h f (pAt t.mask h n0) = some (.candidate (sl t.mask h n) i (pAt t.mask h (n + 1))))
  | 0, n0, ⟨n1, h1, h2, _⟩ => absurd h2 (by lia)
  | f + 1, n0, ⟨n1, h1, h2, h3⟩ => by
    unfold probe.go;rcases o2_ t.place (sl t.mask h n0) with c | c
    . obtain ⟨i, hi, e⟩ := c
      have sl' : t.slot (pAt t.mask h n0).j = .live i := by
        show t.slot (sl t.mask h n0) = _;rw [<- e]; exact hx_ r hi
      rw [sl'];dsimp only;cases q : (hashAt i == h) with
      | true =>
        refine ⟨n0, A7 _, fun k h1 h2 => absurd h2 (by lia), .inr ⟨i, hi, e, q, ?_⟩⟩;rw [A8 rfl];rfl
      | false =>
        have ne : n0 ≠ n1 := by rintro rfl; exact h3 ⟨i, hi, e⟩
        obtain ⟨n, a, b, c⟩ := probe_go r hd hashAt h f (n0 + 1) ⟨n1, by lia, by lia, h3⟩;refine ⟨n, by lia, fun k k1 k2 => ?_, ?_⟩
        . by_cases ek : k = n0
          . subst ek; exact ⟨i, hi, e, q⟩
          . exact b k (by lia) k2
        . rw [A6 (by simp), sC_]
          exact c
    . have sl' : t.slot (pAt t.mask h n0).j = .empty := kH_ r hd c
      rw [sl'];refine ⟨n0, A7 _, fun k h1 h2 => absurd h2 (by lia), .inl ⟨c, ?_⟩⟩;dsimp only;rw [e6_];rfl
def oX_ (m:Nat) (q:Nat×Nat):Nat×Nat:=leap m q.1 q.2
def fH_ (m:Nat) (q:Nat×Nat):Probe:={j:=q.1,more:=runEnd m q.1-q.1,i:=q.1,perturb:=q.2,dummy:=none}
def bw_ (m:Nat) (q:Nat×Nat):Nat->Nat×Nat
 |0=>q
 |n+1=>oX_ m (bw_ m q n)
theorem lG_ (m i:Nat):runEnd m i-i<=9:=by unfold runEnd;split<;>lia
def dq_ (m:Nat) (p:Probe):Nat->Probe
 |0=>p
 |n+1=>bU_ m (dq_ m p n)
theorem fc_ (m:Nat) (p:Probe) (a:Nat):∀b,dq_ m p (a+b)=dq_ m (dq_ m p a) b
 |0=>rfl
 |b+1=>by show bU_ m (dq_ m p (a+b))=_;rw [fc_ m p a b];rfl
theorem dF_ (m:Nat) (h:Int) (a:Nat):∀b,pAt m h (a+b)=dq_ m (pAt m h a) b
 |0=>rfl
 |b+1=>by show bU_ m (pAt m h (a+b))=_;rw [dF_ m h a b];rfl
theorem gu_ (m:Nat):∀(k:Nat) (p:Probe),p.more=k->p.dummy=none->dq_ m p (k+1)=fH_ m (oX_ m (p.i,p.perturb))
 |0,p,hm,hd=>by
  show bU_ m p=_;unfold bU_ advance;rw [A6 (by lia)];obtain⟨j,mo,i,pe,du⟩:=p;dsimp only at hm hd;subst hm hd;rfl
 |k+1,p,hm,hd=>by
  have e:dq_ m p (k+1+1)=dq_ m (bU_ m p) (k+1):=by rw [show k+1+1=1+(k+1) by lia,fc_];rfl
  have en:bU_ m p={p with j:=p.j+1,more:=p.more-1}:=by
   unfold bU_ advance;rw [A8 (by lia)]
  rw [e,gu_ m k (bU_ m p) (by rw [en];show p.more-1=k;lia) (e5_ hd),en]
theorem far (m:Nat):∀(L:Nat) (p:Probe),p.more<=9->p.dummy=none->∃n,n<=10*(L+1)/\dq_ m p n=fH_ m (bw_ m (p.i,p.perturb) (L+1))
 |0,p,h9,hd=>⟨p.more+1,by lia,gu_ m p.more p rfl hd⟩
 |L+1,p,h9,hd=>by
  obtain⟨n,hn,e⟩:=far m L p h9 hd;have:=lG_ m (bw_ m (p.i,p.perturb) (L+1)).1;refine⟨n+(runEnd m (bw_ m (p.i,p.perturb) (L+1)).1-(bw_ m (p.i,p.perturb) (L+1)).1+1),by lia, ?_⟩;rw [fc_,e];exact gu_ m _ (fH_ m (bw_ m (p.i,p.perturb) (L+1))) rfl rfl
def Tm (m i:Nat):Nat:=(i*5+1)%(m+1)
def Tn (m i:Nat):Nat->Nat
 |0=>i
 |n+1=>Tm m (Tn m i n)
theorem iv_ (m i a:Nat):∀b,Tn m i (a+b)=Tn m (Tn m i a) b
 |0=>rfl
 |b+1=>by show Tm m (Tn m i (a+b))=_;rw [iv_ m i a b];rfl
theorem dM_ (m:Nat) (q:Nat×Nat) (a:Nat):∀b,bw_ m q (a+b)=bw_ m (bw_ m q a) b
 |0=>rfl
 |b+1=>by show oX_ m (bw_ m q (a+b))=_;rw [dM_ m q a b];rfl
theorem eg_ (m:Nat) (q:Nat×Nat):∀n,(bw_ m q n).2=q.2/32^n
 |0=>by simp [bw_]
 |n+1=>by
  show(bw_ m q n).2/32=_;rw [eg_ m q n,Nat.div_div_eq_div_mul,Nat.pow_succ]
theorem ef_ (m:Nat) (i:Nat):∀n,bw_ m (i,0) n=(Tn m i n,0)
 |0=>rfl
 |n+1=>by
  show oX_ m (bw_ m (i,0) n)=_;rw [ef_ m i n];unfold oX_ leap;simp [Tn,Tm]
def Msk (m:Nat):Prop:=m=7\/m=31\/m=127
def orb (m:Nat):Nat->Nat->List Nat
 |0,_=>[]
 |n+1,i=>i::orb m n (Tm m i)
theorem oR_ (m:Nat):∀(n i e:Nat),e∈orb m n i->∃k,k<n/\Tn m i k=e
 |0,_,_,h=>by simp [orb] at h
 |n+1,i,e,h=>by
  rcases AO.mp h with h|h
  .exact⟨0,by lia,h.symm⟩
  .obtain⟨k,hk,e⟩:=oR_ m n (Tm m i) e h;exact⟨k+1,by lia,by rw [show k+1=1+k by lia,iv_];exact e⟩
theorem uC_:(List.range 8).all (fun e=>(orb 7 8 0).contains e)=true:=by ac_nf
theorem tx_:(List.range 32).all (fun e=>(orb 31 32 0).contains e)=true:=by ac_nf
theorem rP_:(List.range 128).all (fun e=>(orb 127 128 0).contains e)=true:=by ac_nf
theorem uB_:Tn 7 0 8=0:=by ac_nf
theorem tv_:Tn 31 0 32=0:=by ac_nf
theorem rJ_:Tn 127 0 128=0:=by ac_nf
theorem tw_ {m:Nat} (hm:Msk m):(∀e,e<=m->∃k,k<=m/\Tn m 0 k=e)/\Tn m 0 (m+1)=0:=by
 have go:∀n,(List.range (n+1)).all (fun e=>(orb n (n+1) 0).contains e)=true->∀e,e<=n->∃k,k<=n/\Tn n 0 k=e:=fun n h e he=>by
  have:=AQ.mp h e (by simp;lia);obtain⟨k,hk,e⟩:=oR_ n (n+1) 0 e (by simpa using this);exact⟨k,by lia,e⟩
 rcases hm with rfl|rfl|rfl
 .exact⟨go 7 uC_,uB_⟩
 .exact⟨go 31 tx_,tv_⟩
 .exact⟨go 127 rP_,rJ_⟩
theorem pf_ {m:Nat} (hm:Msk m) {i e:Nat} (hi:i<=m) (he:e<=m):∃k,k<=m/\Tn m i k=e:=by
 obtain⟨o,p⟩:=tw_ hm;obtain⟨a,ha,rfl⟩:=o i hi;obtain⟨b,hb,rfl⟩:=o e he;by_cases c:a<=b
 .exact⟨b-a,by lia,by rw [<-iv_];congr 1;lia⟩
 .refine⟨m+1-a+b,by lia, ?_⟩;rw [<-iv_,show a+(m+1-a+b)=m+1+b by lia,iv_,p]
theorem m7_ (h:Int):bits h<2^64:=by unfold bits;lia
theorem tA_ {m:Nat} (hm:Msk m) {p:Probe} (h9:p.more<=9) (hd:p.dummy=none) (hp:p.perturb<2^64) {e:Nat} (he:e<=m):∃n,n<10*turns m/\(dq_ m p n).j=e:=by
 have z:∀L,13<=L->(bw_ m (p.i,p.perturb) L).2=0:=fun L hL=>by
  rw [eg_];apply Nat.div_eq_of_lt;have h1:(32:Nat)^13<=32^L:=Cm (by decide) hL;have h2:(2:Nat)^64<32^13:=by decide
  show p.perturb<_;lia
 have j13:(bw_ m (p.i,p.perturb) 13).1<=m:=by
  show(leap m _ _).1<=m;unfold leap;have:=Ch ((bw_ m (p.i,p.perturb) 12).1*5+1+(bw_ m (p.i,p.perturb) 12).2/32) (show 0<m+1 by lia);dsimp only;lia
 obtain⟨k,hk,ek⟩:=pf_ hm j13 he;obtain⟨n,hn,en⟩:=far m (12+k) p h9 hd;refine⟨n,by unfold turns;lia, ?_⟩;rw [en,show 12+k+1=13+k by lia,dM_];have e13:bw_ m (p.i,p.perturb) 13=((bw_ m (p.i,p.perturb) 13).1,0):=Prod.ext rfl (z 13 (A7 _));rw [e13,ef_];exact ek
theorem lX_ (m:Nat) (h:Int):∀n,(pAt m h n).more<=9/\(pAt m h n).perturb<2^64
 |0=>⟨lG_ m _,m7_ h⟩
 |n+1=>by
  obtain⟨a,b⟩:=lX_ m h n;show(bU_ m (pAt m h n)).more<=9/\(bU_ m (pAt m h n)).perturb<2^64;unfold bU_ advance;split
  .exact⟨by show(pAt m h n).more-1<=9;lia,b⟩
  .unfold leap;dsimp only;exact⟨lG_ _ _,by lia⟩
theorem t6_ {m:Nat} (hm:Msk m) (h:Int) (n0:Nat) {e:Nat} (he:e<=m):∃n1,n0<=n1/\n1<n0+10*turns m/\sl m h n1=e:=by
 obtain⟨n,hn,e⟩:=tA_ hm (lX_ m h n0).1 (e6_ m h n0) (lX_ m h n0).2 he;exact⟨n0+n,by lia,by lia,by unfold sl;rw [dF_];exact e⟩
theorem fY_:∀(k N:Nat) (f:Nat->Nat),(∀j,j<N->∃i,i<k/\f i=j)->N<=k
 |0,N,f,h=>by
  rcases Nat.eq_zero_or_pos N with e|e
  .lia
  .obtain⟨i,hi,_⟩:=h 0 e;lia
 |k+1,N,f,h=>by
  by_cases c:f k<N
  .have:=fY_ k (N-1) (fun i=>if f k<f i then f i-1 else f i) fun j hj=>by
    by_cases e:j<f k
    .obtain⟨i,hi,ei⟩:=h j (by lia);refine⟨i, ?_, ?_⟩
     .by_cases z:i=k
      .subst z;lia
      .lia
     .rw [A6 (by lia)];exact ei
    .obtain⟨i,hi,ei⟩:=h (j+1) (by lia);refine⟨i, ?_, ?_⟩
     .by_cases z:i=k
      .subst z;lia
      .lia
     .rw [A8 (by lia)];lia
   lia
  .have:=fY_ k N f fun j hj=>by
    obtain⟨i,hi,ei⟩:=h j hj;refine⟨i, ?_,ei⟩;by_cases z:i=k
    .subst z;lia
    .lia
   lia
def hAt (es:Array (Int×Value)) (i:Nat):Int:=(es[i]?.map (·.1)).getD 0
structure Tb (t:SetTable) (es:Array (Int×Value)):Prop where
 mask:Msk t.mask
 dum:t.dummies= #[]
 size:t.place.size=es.size
 ris:Ris t.place
 bnd:∀i,i<t.place.size->t.place.getD i 0<=t.mask
 reach:∀i,i<es.size->∃n,sl t.mask (hAt es i) n=t.place.getD i 0/\∀k,k<n->In t.place (sl t.mask (hAt es i) k)
theorem Tb.free {t:SetTable}{es:Array (Int×Value)} (b:Tb t es) (h:es.size<=t.mask):∃e,e<=t.mask/\¬In t.place e:=by
 refine Classical.byContradiction fun z=> ?_;have:=fY_ t.place.size (t.mask+1) (fun i=>t.place.getD i 0) fun j hj=>by
  rcases o2_ t.place j with c|c
  .exact c
  .exact absurd ⟨j,by lia,c⟩ z
 have:=b.size;lia
theorem Tb.probe {t : SetTable} {es : Array (Int × Value)} (b : Tb t es) (hs : es.size <= t.mask) (hashAt : Nat -> Int) (h : Int) (n0 : Nat) :
    ∃ n, n0 <= n /\ (∀ k, n0 <= k -> k < n -> ∃ i, i < t.place.size /\ t.place.getD i 0 = sl t.mask h k /\ (hashAt i == h) = false) /\
      ((¬ In t.place (sl t.mask h n) /\ t.probe hashAt h (pAt t.mask h n0) = some (.empty (sl t.mask h n) none)) \/
       ∃ i, i < t.place.size /\ t.place.getD i 0 = sl t.mask h n /\ (hashAt i == h) = true /\ t.probe hashAt h (pAt t.mask h n0) = some (.candidate (sl t.mask h n) i (pAt t.mask h (n + 1)))) := by
  obtain ⟨e, he, hn⟩ := b.free hs;obtain ⟨n1, h1, h2, h3⟩ := t6_ b.mask h n0 he;exact probe_go b.ris b.dum hashAt h _ n0 ⟨n1, h1, h2, by rw [h3]; exact hn⟩
theorem et_ {α:Type}{xs:Array α}{p:Nat} (hp:p<=xs.size) (x:α) (i:Nat):(insertAt xs p x)[i]? =if i<p then xs[i]? else if i=p then some x else xs[i-1]? :=by
 unfold insertAt;have s1:(xs.extract 0 p).size=p:=by simp;lia
 have s2:((xs.extract 0 p).push x).size=p+1:=by simp;lia
 by_cases h1:i<p
 .rw [A8 h1,Array.getElem?_append_left (by rw [s2];lia),Array.getElem?_push,A6 (by rw [s1];lia)];simp [Array.getElem?_extract];lia
 .rw [A6 h1];by_cases h2:i=p
  .rw [A8 h2,Array.getElem?_append_left (by rw [s2];lia),Array.getElem?_push,A8 (by rw [s1];exact h2)]
  .rw [A6 h2,Array.getElem?_append_right (by rw [s2];lia),s2];simp only [Array.getElem?_extract];by_cases h3:i-(p+1)<xs.size-p
   .rw [A8 (by lia)];congr 1
    lia
   .rw [A6 (by lia)];symm;rw [Array.getElem?_eq_none_iff];lia
theorem bx_ {α:Type}{xs:Array α}{p:Nat} (hp:p<=xs.size) (x:α):(insertAt xs p x).size=xs.size+1:=by
 unfold insertAt;simp;lia
theorem hc_ (xs:Array Nat) (i:Nat):xs.getD i 0=(xs[i]?).getD 0:=by
 by_cases h:i<xs.size<;>simp [Array.getD,h]
theorem b2_ {xs:Array Nat}{p:Nat} (hp:p<=xs.size) (x i:Nat):(insertAt xs p x).getD i 0=if i<p then xs.getD i 0 else if i=p then x else xs.getD (i-1) 0:=by
 rw [hc_,et_ hp,hc_,hc_];split
 .rfl
 .split<;>rfl
theorem sd_ {xs:Array Nat}{p:Nat} (hp:p<=xs.size) (x j:Nat):In (insertAt xs p x) j↔In xs j\/j=x:=by
 constructor
 .rintro⟨i,hi,e⟩;rw [bx_ hp] at hi;rw [b2_ hp] at e;by_cases h1:i<p
  .rw [A8 h1] at e;exact .inl ⟨i,by lia,e⟩
  .rw [A6 h1] at e;by_cases h2:i=p
   .rw [A8 h2] at e;exact .inr e.symm
   .rw [A6 h2] at e;exact .inl ⟨i-1,by lia,e⟩
 .rintro(⟨i,hi,e⟩|rfl)
  .by_cases h1:i<p
   .exact⟨i,by rw [bx_ hp];lia,by rw [b2_ hp,A8 h1];exact e⟩
   .exact⟨i+1,by rw [bx_ hp];lia,by rw [b2_ hp,A6 (by lia),A6 (by lia)];exact e⟩
  .exact⟨p,by rw [bx_ hp];lia,by rw [b2_ hp,A6 (Bm _),A8 rfl]⟩
theorem qi_ {xs:Array Nat} (r:Ris xs) {j:Nat} (h:¬In xs j):Ris (insertAt xs (below xs j) j):=by
 obtain⟨a,b,c⟩:=dT_ r j;have c':∀i,below xs j<=i->i<xs.size->j<xs.getD i 0:=fun i h1 h2=>by
  have:=c i h1 h2;have:xs.getD i 0≠j:=fun z=>h ⟨i,h2,z⟩;lia
 intro i k hik hk;rw [bx_ a] at hk;rw [b2_ a,b2_ a];by_cases h1:k<below xs j
 .rw [A8 h1,A8 (by lia)];exact r i k hik (by lia)
 .rw [A6 h1];by_cases h2:k=below xs j
  .rw [A8 h2,A8 (by lia)];exact b i (by lia)
  .rw [A6 h2];by_cases h3:i<below xs j
   .rw [A8 h3];exact Nat.lt_trans (b i h3) (c' (k-1) (by lia) (by lia))
   .rw [A6 h3];by_cases h4:i=below xs j
    .rw [A8 h4];exact c' (k-1) (by lia) (by lia)
    .rw [A6 h4];exact r (i-1) (k-1) (by lia) (by lia)
theorem oK_ (t:SetTable) (hd:t.dummies= #[]) (j:Nat):t.put j=({t with place:=insertAt t.place (below t.place j) j},below t.place j):=by
 unfold put;dsimp only;rw [hd,mJ_];obtain⟨a,b,c,d,e,f,g⟩:=t;dsimp only at hd;subst hd;rfl
theorem Tb.add {t:SetTable}{es:Array (Int×Value)} (b:Tb t es) (h:Int) (x:Value) (n:Nat) (hn:¬In t.place (sl t.mask h n)) (hm:sl t.mask h n<=t.mask) (hk:∀k,k<n->In t.place (sl t.mask h k)):
  Tb (t.put (sl t.mask h n)).1 (insertAt es (t.put (sl t.mask h n)).2 (h,x)):=by
 rw [oK_ t b.dum];obtain⟨a1,a2,a3⟩:=dT_ b.ris (sl t.mask h n);have a1':below t.place (sl t.mask h n)<=es.size:=by rw [<-b.size];exact a1
 refine⟨b.mask,b.dum, ?_,qi_ b.ris hn, ?_, ?_⟩
 .rw [bx_ a1,bx_ a1',b.size]
 .intro i hi;dsimp only at hi⊢;rw [bx_ a1] at hi;rw [b2_ a1];split
  .exact b.bnd i (by lia)
  .split
   .exact hm
   .exact b.bnd (i-1) (by lia)
 .intro i hi;dsimp only at hi⊢;rw [bx_ a1'] at hi;have sub:∀j,In t.place j->In (insertAt t.place (below t.place (sl t.mask h n)) (sl t.mask h n)) j:=fun j hj=>(sd_ a1 _ j).mpr (.inl hj);have eh:hAt (insertAt es (below t.place (sl t.mask h n)) (h,x)) i=if i<below t.place (sl t.mask h n) then hAt es i else if i=below t.place (sl t.mask h n) then h else hAt es (i-1):=by
   unfold hAt;rw [et_ a1'];split
   .rfl
   .split<;>rfl
  rw [b2_ a1,eh];by_cases h1:i<below t.place (sl t.mask h n)
  .rw [A8 h1,A8 h1];obtain⟨m,e,q⟩:=b.reach i (by lia);exact⟨m,e,fun k hk=>sub _ (q k hk)⟩
  .rw [A6 h1,A6 h1];by_cases h2:i=below t.place (sl t.mask h n)
   .rw [A8 h2,A8 h2];exact⟨n,rfl,fun k hk'=>sub _ (hk k hk')⟩
   .rw [A6 h2,A6 h2];obtain⟨m,e,q⟩:=b.reach (i-1) (by lia);exact⟨m,e,fun k hk=>sub _ (q k hk)⟩
theorem iW_ {m i:Nat} (h:i<=m):i+(runEnd m i-i)<=m:=by unfold runEnd;split<;>lia
theorem lY_ (m:Nat) (h:Int):∀n,(pAt m h n).j+(pAt m h n).more<=m
 |0=>by
  have:=Ch (bits h) (show 0<m+1 by lia);exact iW_ (m:=m) (i:=bits h%(m+1)) (by lia)
 |n+1=>by
  have a:=lY_ m h n;show(bU_ m (pAt m h n)).j+(bU_ m (pAt m h n)).more<=m;unfold bU_ advance;split
  .show(pAt m h n).j+1+((pAt m h n).more-1)<=m;lia
  .unfold leap;dsimp only;have:=Ch ((pAt m h n).i*5+1+(pAt m h n).perturb/32) (show 0<m+1 by lia);exact iW_ (by lia)
theorem rx_ (m:Nat) (h:Int) (n:Nat):sl m h n<=m:=by
 have:=lY_ m h n;unfold sl;lia
abbrev Own:=Array (Option Nat)
def Occ (o:Own) (j:Nat):Prop:=∃k,o[j]? =some (some k)
theorem jF_ (m:Nat) (q:Nat×Nat):∀k,k<=runEnd m q.1-q.1->(dq_ m (fH_ m q) k).j=q.1+k/\(dq_ m (fH_ m q) k).more=runEnd m q.1-q.1-k
 |0,_=>⟨rfl,rfl⟩
 |k+1,h=>by
  obtain⟨a,b⟩:=jF_ m q k (by lia);show(bU_ m (dq_ m (fH_ m q) k)).j=_/\(bU_ m (dq_ m (fH_ m q) k)).more=_;unfold bU_ advance;rw [A8 (by lia)];dsimp only;rw [a,b];exact⟨by lia,by lia⟩
theorem f8_ {p:Nat->Bool}:∀(n:Nat),((List.range n).find? p=none/\∀i,i<n->p i=false)\/∃k,k<n/\(List.range n).find? p=some k/\p k=true/\∀i,i<k->p i=false
 |0=> .inl ⟨rfl,fun i h=>absurd h (by lia)⟩
 |n+1=>by
  rw [B9,List.find?_append];rcases f8_ (p:=p) n with⟨a,b⟩|⟨k,h1,h2,h3,h4⟩
  .rw [a];cases c:p n with
   |true=>exact .inr ⟨n,by lia,by simp [c],c,b⟩
   |false=>
    refine .inl ⟨by simp [c],fun i hi=> ?_⟩;by_cases e:i=n
    .rw [e];exact c
    .exact b i (by lia)
  .rw [h2];exact .inr ⟨k,by lia,rfl,h3,h4⟩
theorem mO_ {m:Nat}{o:Own} (hs:o.size=m+1) (h:Int):∀(f:Nat) (q:Nat×Nat) (n:Nat),q.1<=m->pAt m h n=fH_ m q->(∀k,k<n->Occ o (sl m h k))->(∃L,L<f/\¬Occ o (bw_ m q L).1)->
  ∃n',layClean.free m o f q.1 q.2=some (sl m h n')/\¬Occ o (sl m h n')/\∀k,k<n'->Occ o (sl m h k)
 |0,q,n,hq,hp,ho,⟨L,hL,_⟩=>absurd hL (by lia)
 |f+1,q,n,hq,hp,ho,⟨L,hL,hf⟩=>by
  unfold layClean.free;have run:∀k,k<runEnd m q.1+1-q.1->sl m h (n+k)=q.1+k:=fun k hk=>by
   unfold sl;rw [dF_,hp];exact(jF_ m q k (by lia)).1
  have rb:=iW_ hq;have rl:q.1<=runEnd m q.1:=by unfold runEnd;split<;>lia
  have no:∀j,j<=m->(((o.getD j (some 0)).isNone=false->Occ o j)/\((o.getD j (some 0)).isNone=true->¬Occ o j)):=fun j hj=>by
   have hj':j<o.size:=by lia
   have e:o[j]? =some (o.getD j (some 0)):=by simp [Array.getD,hj']
   constructor
   .intro z;cases c:o.getD j (some 0) with
    |none=>rw [c] at z;cases z
    |some k=>exact⟨k,by rw [e,c]⟩
   .rintro z ⟨k,hk⟩;rw [e] at hk;rw [An hk] at z;cases z
  rcases f8_ (p:=fun k=>(o.getD (q.1+k) (some 0)).isNone) (runEnd m q.1+1-q.1) with⟨a,b⟩|⟨k,h1,h2,h3,h4⟩
  .rw [a];dsimp only;have all:∀k,k<n+(runEnd m q.1-q.1+1)->Occ o (sl m h k):=fun k hk=>by
    by_cases c:k<n
    .exact ho k c
    .have e:k=n+(k-n):=by lia
     rw [e,run (k-n) (by lia)];exact(no _ (by lia)).1 (b (k-n) (by lia))
   have hj:(oX_ m q).1<=m:=by
    show(leap m _ _).1<=m;unfold leap;have:=Ch (q.1*5+1+q.2/32) (show 0<m+1 by lia);dsimp only;lia
   have hp':pAt m h (n+(runEnd m q.1-q.1+1))=fH_ m (oX_ m q):=by
    rw [dF_,hp];exact gu_ m _ (fH_ m q) rfl rfl
   have hL0:L≠0:=by
    rintro rfl;apply hf;have:=(no q.1 hq).1 (b 0 (by unfold runEnd;split<;>lia))
    exact this
   obtain⟨L',rfl⟩:∃L',L=L'+1:=⟨L-1,by lia⟩;exact mO_ hs h f (oX_ m q) _ hj hp' all ⟨L',by lia,by
    rw [show L'+1=1+L' by lia,dM_] at hf;exact hf⟩
  .rw [h2];dsimp only;refine⟨n+k,by rw [run k h1], ?_,fun k' hk'=> ?_⟩
   .rw [run k h1];exact(no _ (by lia)).2 h3
   .by_cases c:k'<n
    .exact ho k' c
    .have e:k'=n+(k'-n):=by lia
     rw [e,run (k'-n) (by lia)];exact(no _ (by lia)).1 (h4 (k'-n) (by lia))
theorem r3_ {m:Nat} (hm:Msk m) (q:Nat×Nat) (hp:q.2<2^64) {e:Nat} (he:e<=m):∃L,L<turns m/\(bw_ m q L).1=e:=by
 have z:(bw_ m q 13).2=0:=by
  rw [eg_];apply Nat.div_eq_of_lt;have h2:(2:Nat)^64<32^13:=by decide
  lia
 have j13:(bw_ m q 13).1<=m:=by
  show(leap m _ _).1<=m;unfold leap;have:=Ch ((bw_ m q 12).1*5+1+(bw_ m q 12).2/32) (show 0<m+1 by lia);dsimp only;lia
 obtain⟨k,hk,ek⟩:=pf_ hm j13 he;refine⟨13+k,by unfold turns;lia, ?_⟩;rw [dM_];have e13:bw_ m q 13=((bw_ m q 13).1,0):=Prod.ext rfl z;rw [e13,ef_];exact ek
structure Lay (m:Nat) (hs:List Int) (o:Own) (ss:Nat->Nat):Prop where
 size:o.size=m+1
 at_:∀i,i<hs.length->ss i<=m/\o[ss i]? =some (some i)
 of_:∀j k,o[j]? =some (some k)->k<hs.length/\ss k=j
 reach:∀(i:Nat) h,hs[i]? =some h->∃n,sl m h n=ss i/\∀k,k<n->Occ o (sl m h k)
theorem Lay.step {m:Nat} (hm:Msk m) {hs:List Int}{o:Own}{ss:Nat->Nat} (l:Lay m hs o ss) (h:Int) (hl:hs.length<=m):
  ∃j,layClean.free m o (turns m) (bits h%(m+1)) (bits h)=some j/\∃ss',Lay m (hs++[h]) (o.setIfInBounds j (some hs.length)) ss':=by
 obtain⟨e,he,hne⟩:∃e,e<=m/\¬Occ o e:=by
  refine Classical.byContradiction fun z=> ?_;have:=fY_ hs.length (m+1) ss fun j hj=>by
   rcases Classical.em (Occ o j) with⟨k,hk⟩|c
   .exact⟨k,(l.of_ j k hk).1,(l.of_ j k hk).2⟩
   .exact absurd ⟨j,by lia,c⟩ z
  lia
 obtain⟨L,hL,eL⟩:=r3_ hm (bits h%(m+1),bits h) (m7_ h) he;have i0:=Ch (bits h) (show 0<m+1 by lia);obtain⟨n,e1,e2,e3⟩:=mO_ l.size h (turns m) (bits h%(m+1),bits h) 0 (by lia) rfl (fun k hk=>absurd hk (by lia)) ⟨L,hL,by rw [eL];exact hne⟩;have jm:=rx_ m h n;have js:sl m h n<o.size:=by rw [l.size];lia
 refine⟨sl m h n,e1,fun i=>if i=hs.length then sl m h n else ss i, ?_⟩;have set_:∀j,(o.setIfInBounds (sl m h n) (some hs.length))[j]? =if j=sl m h n then some (some hs.length) else o[j]? :=fun j=>by
  rw [Array.getElem?_setIfInBounds];by_cases c:sl m h n=j
  .rw [A8 c,A8 c.symm];simp [<-c,js]
  .rw [A6 c,A6 fun z=>c z.symm]
 have sub:∀j,Occ o j->Occ (o.setIfInBounds (sl m h n) (some hs.length)) j:=fun j ⟨k,hk⟩=>by
  refine⟨k, ?_⟩;rw [set_,A6]
  .exact hk
  .rintro rfl;exact e2 ⟨k,hk⟩
 refine⟨by rw [Array.size_setIfInBounds];exact l.size,fun i hi=> ?_,fun j k hk=> ?_,fun i h' hh'=> ?_⟩
 .rw [AH,B4] at hi;by_cases c:i=hs.length
  .rw [A8 c,set_,A8 rfl,c];exact⟨jm,rfl⟩
  .rw [A6 c,set_];obtain⟨a,b⟩:=l.at_ i (by lia);refine⟨a, ?_⟩;rw [A6]
   .exact b
   .intro z;rw [z] at b;exact e2 ⟨i,b⟩
 .rw [set_] at hk;rw [AH,B4];by_cases c:j=sl m h n
  .rw [A8 c] at hk;cases hk;exact⟨by lia,by rw [A8 rfl];exact c.symm⟩
  .rw [A6 c] at hk;obtain⟨a,b⟩:=l.of_ j k hk;exact⟨by lia,by rw [A6 (by lia)];exact b⟩
 .by_cases c:i<hs.length
  .rw [List.getElem?_append_left c] at hh';obtain⟨n',a,b⟩:=l.reach i h' hh';rw [A6 (by lia)];exact⟨n',a,fun k hk=>sub _ (b k hk)⟩
  .have hlt:=(A'.mp hh').1;rw [AH,B4] at hlt;obtain rfl:i=hs.length:=by lia
   rw [D5 (A7 _),Nat.sub_self] at hh';cases hh';rw [A8 rfl];exact⟨n,rfl,fun k hk=>sub _ (e3 k hk)⟩
def fj_ (m:Nat) (acc:Option (Own×Nat)) (h:Int):Option (Own×Nat):=do
 let (owner,k)<-acc
 let j<-layClean.free m owner (turns m) (bits h%(m+1)) (bits h)
 pure (owner.setIfInBounds j (some k),k+1)
theorem j6_ {m:Nat} (hm:Msk m):∀(more hs:List Int) (o:Own) (ss:Nat->Nat),Lay m hs o ss->hs.length+more.length<=m+1->
  ∃o' ss',more.foldl (fj_ m) (some (o,hs.length))=some (o',(hs++more).length)/\Lay m (hs++more) o' ss'
 |[],hs,o,ss,l,_=>⟨o,ss,by simp,by simpa using l⟩
 |h::more,hs,o,ss,l,hl=>by
  rw [Ah] at hl;obtain⟨j,e,ss',l'⟩:=l.step hm h (by lia);obtain⟨o',ss2,e2,l2⟩:=j6_ hm more (hs++[h]) _ ss' l' (by rw [AH,B4];lia);rw [BC,List.singleton_append] at e2 l2;refine⟨o',ss2, ?_,l2⟩;rw [Cr];have es:fj_ m (some (o,hs.length)) h=some (o.setIfInBounds j (some hs.length),(hs++[h]).length):=by
   unfold fj_;simp only [Option.bind_eq_bind,Option.bind_some,e];simp
  rw [es];exact e2
theorem mr_ {m:Nat} (hm:Msk m) (hs:Array Int) (hl:hs.size<=m+1):∃o ss,layClean m hs=some o/\Lay m hs.toList o ss:=by
 have l0:Lay m [] (Array.replicate (m+1) none) (fun _=>0):=⟨by simp,fun i hi=>absurd hi (by simp),fun j k hk=>(by
  rw [Array.getElem?_replicate] at hk;split at hk<;>cases hk),fun i h e=>by simp at e⟩
 obtain⟨o,ss,e,l⟩:=j6_ hm hs.toList [] _ _ l0 (by simpa using hl);refine⟨o,ss, ?_,by simpa using l⟩;unfold layClean;have:hs.foldl (init:=some (Array.replicate (m+1) none,0)) (fj_ m)=some (o,([]++hs.toList).length):=by
  rw [<-Array.foldl_toList];exact e
 have e2:(hs.foldl (init:=some (Array.replicate (m+1) none,0)) fun acc h=>do
  let (owner,k)<-acc
  let j<-layClean.free m owner (turns m) (bits h%(m+1)) (bits h)
  pure (owner.setIfInBounds j (some k),k+1))=hs.foldl (init:=some (Array.replicate (m+1) none,0)) (fj_ m):=rfl
 rw [e2,this];rfl
def bv_ (m:Nat) (o:Own):List (Nat×Nat):=(List.range (m+1)).filterMap fun j=>(o.getD j none).map (j, ·)
theorem gY_ {m:Nat}{o:Own} (hs:o.size=m+1) (j k:Nat):(j,k)∈bv_ m o↔o[j]? =some (some k):=by
 unfold bv_;rw [D4];constructor
 .rintro⟨a,ha,e⟩;obtain⟨k',e1,e2⟩:=A3.mp e;cases e2;have hj:j<o.size:=by rw [hs];simpa using ha
  have e:o[j]? =some (o.getD j none):=by simp [Array.getD,hj]
  rw [e,e1]
 .intro e;obtain⟨hj,e2⟩:=Bp.mp e;refine⟨j,by simpa [hs] using hj, ?_⟩;have:o.getD j none=some k:=by simp [Array.getD,hj,e2]
  rw [this];rfl
theorem p9_ (m:Nat) (o:Own):(bv_ m o).Pairwise fun a b=>a.1<b.1:=by
 unfold bv_;rw [List.pairwise_filterMap];refine List.Pairwise.imp ?_ (List.pairwise_lt_range (n:=m+1));intro a b hab x hx y hy;obtain⟨_,_,e1⟩:=A3.mp hx;obtain⟨_,_,e2⟩:=A3.mp hy;rw [<-e1,<-e2];exact hab
structure Laid (m:Nat) (hs:Array Int) (pl od:Array Nat):Prop where
 ps:pl.size=hs.size
 os:od.size=hs.size
 ris:Ris pl
 bnd:∀i,i<pl.size->pl.getD i 0<=m
 lt:∀i,i<hs.size->od.getD i 0<hs.size
 inj:∀i j,i<hs.size->j<hs.size->od.getD i 0=od.getD j 0->i=j
 sur:∀k,k<hs.size->∃i,i<hs.size/\od.getD i 0=k
 reach:∀i,i<hs.size->∃n,sl m (hs.getD (od.getD i 0) 0) n=pl.getD i 0/\∀k,k<n->In pl (sl m (hs.getD (od.getD i 0) 0) k)
theorem qf_ {m:Nat} (hm:Msk m) (fg mv:Nat) (led plain:Bool) (hs:Array Int) (hl:hs.size<=m+1):
  ∃pl od,laid m fg mv led plain hs=some ({mask:=m,place:=pl,dummies:= #[],finger:=fg,led:=led,moves:=mv,plain:=plain},od)/\Laid m hs pl od:=by
 obtain⟨o,ss,e,l⟩:=mr_ hm hs hl;have ln:hs.toList.length=hs.size:=Ar;refine⟨((bv_ m o).map (·.1)).toArray,((bv_ m o).map (·.2)).toArray, ?_, ?_⟩
 .unfold laid;rw [e];rfl
 have at_:∀i (h:i<(bv_ m o).length),((bv_ m o).map (·.1)).toArray.getD i 0=(bv_ m o)[i].1/\((bv_ m o).map (·.2)).toArray.getD i 0=(bv_ m o)[i].2/\o[(bv_ m o)[i].1]? =some (some (bv_ m o)[i].2):=fun i h=>by
  refine⟨by simp [Array.getD,h],by simp [Array.getD,h],(gY_ l.size _ _).mp ?_⟩;exact Bc h
 have ris:Ris ((bv_ m o).map (·.1)).toArray:=fun i j hij hj=>by
  have hj':j<(bv_ m o).length:=by simpa using hj
  rw [(at_ i (by lia)).1,(at_ j hj').1];exact CF.mp (p9_ m o) i j (by lia) hj' hij
 have sur:∀k,k<hs.size->∃i,∃h:i<(bv_ m o).length,(bv_ m o)[i].2=k/\(bv_ m o)[i].1=ss k:=fun k hk=>by
  have:=(gY_ l.size (ss k) k).mpr (l.at_ k (by rw [ln];exact hk)).2;obtain⟨i,hi,e⟩:=BN.mp this;exact⟨i,hi,by rw [e],by rw [e]⟩
 have size:(bv_ m o).length=hs.size:=by
  have h1:=fY_ (bv_ m o).length hs.size (fun i=>((bv_ m o).map (·.2)).toArray.getD i 0) fun k hk=>by
   obtain⟨i,hi,e,_⟩:=sur k hk;exact⟨i,hi,by rw [(at_ i hi).2.1,e]⟩
  have h2:=fY_ hs.size (bv_ m o).length (fun k=>below ((bv_ m o).map (·.1)).toArray (ss k)) fun i hi=>by
   obtain⟨a1,a2,a3⟩:=at_ i hi;obtain⟨b1,b2⟩:=l.of_ _ _ a3;refine⟨(bv_ m o)[i].2,by lia, ?_⟩;rw [b2,<-a1];exact ku_ ris (by simpa using hi)
  lia
 have inOcc:∀j,Occ o j->In ((bv_ m o).map (·.1)).toArray j:=fun j ⟨k,hk⟩=>by
  obtain⟨i,hi,e⟩:=BN.mp ((gY_ l.size j k).mpr hk);exact⟨i,by simpa using hi,by rw [(at_ i hi).1,e]⟩
 refine⟨by simpa using size,by simpa using size,ris,fun i hi=> ?_,fun i hi=> ?_,fun i j hi hj e=> ?_,fun k hk=> ?_,fun i hi=> ?_⟩
 .have hi':i<(bv_ m o).length:=by simpa using hi
  obtain⟨a1,a2,a3⟩:=at_ i hi';rw [a1];have:=(Bp.mp a3).1;have:=l.size;lia
 .obtain⟨a1,a2,a3⟩:=at_ i (by lia);rw [a2];have:=(l.of_ _ _ a3).1;lia
 .obtain⟨a1,a2,a3⟩:=at_ i (by lia);obtain⟨b1,b2,b3⟩:=at_ j (by lia);rw [a2,b2] at e;have e1:=(l.of_ _ _ a3).2;have e2:=(l.of_ _ _ b3).2;rw [e,e2] at e1;by_cases c:i<j
  .have:=ris i j c (by simp;lia);lia
  .by_cases c2:j<i
   .have:=ris j i c2 (by simp;lia);lia
   .lia
 .obtain⟨i,hi,e,_⟩:=sur k hk;exact⟨i,by lia,by rw [(at_ i hi).2.1,e]⟩
 .obtain⟨a1,a2,a3⟩:=at_ i (by lia);obtain⟨b1,b2⟩:=l.of_ _ _ a3;have hk:(bv_ m o)[i].2<hs.size:=by lia
  have eh:hs.toList[(bv_ m o)[i].2]? =some (hs.getD (bv_ m o)[i].2 0):=by simp [Array.getD,hk]
  obtain⟨n,e,q⟩:=l.reach _ _ eh;rw [a1,a2];exact⟨n,by rw [e,b2],fun k hk=>inOcc _ (q k hk)⟩
theorem o9_ {α β:Type}{f:α->Option β}{g:α->β}:∀(l:List α),(∀a∈l,f a=some (g a))->l.filterMap f=l.map g
 |[],_=>rfl
 |a::l,h=>by
  rw [List.filterMap_cons_some (h a (by simp)),AT,o9_ l fun b hb=>h b (by simp [hb])]
theorem qP_:sizeAbove 20=32:=by decide
theorem qO_:sizeAbove 76=128:=by decide
theorem Tb.again {t:SetTable}{es:Array (Int×Value)} (hm:(t.mask=7/\es.size=5)\/(t.mask=31/\es.size=19)):
  ∃pl od,t.relaid (es.map (·.1)) (grown es.size)=some ({mask:=sizeAbove (grown es.size)-1,place:=pl,dummies:= #[],finger:=t.finger,led:=t.led,moves:=t.movedTo (sizeAbove (grown es.size)-1),plain:=t.plain},od)/\
   Tb {mask:=sizeAbove (grown es.size)-1,place:=pl,dummies:= #[],finger:=t.finger,led:=t.led,moves:=t.movedTo (sizeAbove (grown es.size)-1),plain:=t.plain} (od.filterMap (es[·]?))/\
   (od.filterMap (es[·]?)).size=es.size/\(∀i,i<es.size->∃k,k<es.size/\(od.filterMap (es[·]?))[i]? =es[k]? /\k=od.getD i 0)/\
   (∀i j,i<es.size->j<es.size->od.getD i 0=od.getD j 0->i=j)/\(∀k,k<es.size->∃i,i<es.size/\od.getD i 0=k)/\
   es.size*5<(sizeAbove (grown es.size)-1)*3/\sizeAbove (grown es.size)<=sizeLine:=by
 have hM:Msk (sizeAbove (grown es.size)-1)/\es.size<=sizeAbove (grown es.size)-1+1/\es.size*5<(sizeAbove (grown es.size)-1)*3/\sizeAbove (grown es.size)<=sizeLine:=by
  rcases hm with⟨_,e⟩|⟨_,e⟩
  .rw [e,show grown 5=20 from rfl,qP_];exact⟨.inr (.inl rfl),by decide,by decide,by decide⟩
  .rw [e,show grown 19=76 from rfl,qO_];exact⟨.inr (.inr rfl),by decide,by decide,by decide⟩
 have sz:(es.map (·.1)).size=es.size:=Array.size_map;obtain⟨pl,od,e,L⟩:=qf_ hM.1 t.finger (t.movedTo (sizeAbove (grown es.size)-1)) t.led t.plain (es.map (·.1)) (by rw [sz];exact hM.2.1);have odlt:∀i,i<es.size->od.getD i 0<es.size:=fun i hi=>by have:=L.lt i (by rw [sz];exact hi);rw [sz] at this;exact this
 have ods:od.size=es.size:=by rw [L.os,sz]
 have fm:od.filterMap (es[·]?)=od.map fun k=>es.getD k (0, .none):=by
  apply Array.toList_inj.mp;rw [Array.toList_filterMap,Array.toList_map];refine o9_ _ fun k hk=> ?_;obtain⟨i,hi,ei⟩:=BN.mp hk;have hi':i<od.size:=by simpa using hi
  have:k<es.size:=by
   have:=odlt i (by lia);simp only [Array.getD,hi',dite_true] at this;simp only [Array.getElem_toList] at ei;rw [<-ei];exact this
  simp [Array.getD,this]
 have fs:(od.filterMap (es[·]?)).size=es.size:=by rw [fm,Array.size_map,ods]
 have fat:∀i,i<es.size->(od.filterMap (es[·]?))[i]? =es[od.getD i 0]? :=fun i hi=>by
  have h2:=odlt i hi;have hi':i<od.size:=by lia
  rw [fm,Array.getElem?_map];have e1:od[i]? =some (od.getD i 0):=by simp [Array.getD,hi']
  rw [e1];simp only [Option.map_some];generalize od.getD i 0=k at h2⊢;simp [Array.getD,h2]
 refine⟨pl,od,e,⟨hM.1,rfl,by rw [fs];show pl.size=_;rw [L.ps,sz],L.ris,L.bnd,fun i hi=> ?_⟩,fs,fun i hi=>⟨od.getD i 0,odlt i hi,fat i hi,rfl⟩,fun i j hi hj=>L.inj i j (by rw [sz];exact hi) (by rw [sz];exact hj),fun k hk=> ?_,hM.2.2⟩
 .rw [fs] at hi;obtain⟨n,e1,e2⟩:=L.reach i (by rw [sz];exact hi);have eh:(es.map (·.1)).getD (od.getD i 0) 0=hAt (od.filterMap (es[·]?)) i:=by
   unfold hAt;rw [fat i hi];have h2:=odlt i hi;generalize od.getD i 0=k at h2⊢;simp [Array.getD,h2]
  rw [eh] at e1 e2;exact⟨n,e1,e2⟩
 .obtain⟨i,hi,ei⟩:=L.sur k (by rw [sz];exact hk);exact⟨i,by rw [sz] at hi;exact hi,ei⟩
end L2
namespace L2
open PySem PySem.SetTable PySem.Spec PyProof.Rows
section
variable {prog:Program}{w:World}{A:Around}{E:Value->Shared->Prop}{s:Shared}
theorem kc_ {k:List Int}{vs:List Value} (h:ItemsAre (intKind prog w) k vs):∀v∈vs,∃n t,v= .int n t:=by
 induction h with
 |nil=>intro v hv;simp at hv
 | @cons k v' ks vs h1 _ ih=>
  intro v hv;rcases AO.mp hv with rfl|hv
  .cases v with
   |int n t=>exact⟨n,t,rfl⟩
   |_=>exact absurd h1 (by simp [intKind,Value.isInt])
  .exact ih v hv
theorem fb_ {k:List Int}{x:Addr}{Q:Bool->Shared->Prop} (hx:IsTupleKey (intKind prog w) s.heap k x) (h:Q false s):
  wpAny (model prog w) A (ofAClassStatement 8 (.ref x)) Q E s:=by
 have hT:=hx.typeIs;obtain⟨o,items,n,ho,hc,hd,hi⟩:=hx;unfold ofAClassStatement;refine A0 (D9 hT ?_);show wpAny _ _ ((if("tuple"=="tuple")=true then pure true else isSubtype (.type "tuple") (.type "tuple"))>>=_) _ _ s;refine A0 (A4 ?_);simp only [By,AM,Av];refine A0 (wpAny_seqItems ho hd ?_);refine A0 ?_;show wpAny _ _ (forIn items _ _) _ _ s;rw [<-Array.forIn_toList];refine wpAny_forIn_list _ (fun ek_ r s'=>r.1=none/\s'=s/\∀v∈ek_,∃n t,v=Value.int n t) _ ?_ ?_ _ _ ⟨rfl,rfl,kc_ hi⟩
 .rintro v ek_ r s' ⟨hr,rfl,hall⟩;obtain⟨n,t,rfl⟩:=hall v B2;refine A0 (wpAny_of_eq (show ofAClassStatement 7 (.int n t)=pure false from by unfold ofAClassStatement;rfl) (A4 ?_));simp only [AM,Av];exact⟨trivial,trivial,fun u hu'=>hall u (Au _ hu')⟩
 .rintro⟨r1,r2⟩ s' ⟨hr,rfl,_⟩;simp only at hr;subst hr;exact A4 h
theorem nw_ {k:List Int}{x:Addr}{Q:Bool->Shared->Prop} (hx:IsTupleKey (intKind prog w) s.heap k x) (ys:List Value)
  (hy:∀y∈ys,∃b j,y= .ref b/\IsTupleKey (intKind prog w) s.heap j b) (h:Q false s):
  wpAny (model prog w) A (searchCouldBeSeen (.ref x) ys) Q E s:=by
 unfold searchCouldBeSeen;refine A0 ?_;refine wpAny_forIn_list _ (fun ek_ r s'=>r.1=none/\s'=s/\∀v∈ek_,∃b j,v=Value.ref b/\IsTupleKey (intKind prog w) s.heap j b) _ ?_ ?_ _ _ ⟨rfl,rfl,hy⟩
 .rintro v ek_ r s' ⟨hr,rfl,hall⟩;obtain⟨b,j,rfl,hj⟩:=hall v B2;have hall':∀u∈ek_,∃b j,u=Value.ref b/\IsTupleKey (intKind prog w) s'.heap j b:=fun u hu'=>hall u (Au _ hu');dsimp only;split
  .exact A4 ⟨rfl,rfl,hall'⟩
  .refine A0 (wpAny_eqIsQuiet_tuple hx ?_);simp only [By,AM,Av];refine A0 (wpAny_eqIsQuiet_tuple hj ?_);simp only [By,AM,Av];refine A0 (fb_ hx ?_);simp only [AM,Av];refine A0 (fb_ hj ?_);simp only [AM,Av];exact A4 ⟨rfl,rfl,hall'⟩
 .rintro⟨r1,r2⟩ s' ⟨hr,rfl,_⟩;simp only at hr;subst hr;exact A4 h
structure Ent (prog:Program) (w:World) (h:Heap) (es:Array (Int×Value)):Prop where
 ent:∀i,i<es.size->∃k b,es[i]? =some (tupleKeyHash (intKind prog w) k, .ref b)/\IsTupleKey (intKind prog w) h k b
 dis:∀(i j:Nat) (k:List Int) (b c:Addr) (g g':Int),es[i]? =some (g,Value.ref b)->es[j]? =some (g',Value.ref c)->IsTupleKey (intKind prog w) h k b->IsTupleKey (intKind prog w) h k c->i=j
def qV_ (prog:Program) (w:World) (h:Heap) (es:Array (Int×Value)) (k:List Int):Prop:=∃(i:Nat) (b:Addr),es[i]? =some (tupleKeyHash (intKind prog w) k, .ref b)/\IsTupleKey (intKind prog w) h k b
theorem lz_ (a:Addr) (x:Value) (h:Int) (adding:Bool) (fuel:Nat) (stand:Option Probe):setSearchFrom a x h adding (fuel+1) stand=(do
  let (es,_,t)<-setState a
  if t.gaveWay then unsupported "set:on-a-table-that-gave-way"
  let some met:=t.probe (hAt es) h (stand.getD (t.probeStart h))|unsupported "internal:set-table-without-an-empty-slot"
  match met with
  | .empty j dummy=>
   match dummy with
   |none=>return .free j false
   |some d=>
    if adding&&t.slot d != .dummy then rule "set.search.the-dummy-was-taken";return<-setSearchFrom a x h adding fuel none
    return .free d true
  | .candidate j i next=>
   if !t.led then
    if<-searchCouldBeSeen x ((es.filter (·.1==h)).toList.map (·.2)) then unsupported "set:the-search-would-show-the-table"
   let some (_,y):=es[i]? |unsupported "internal:set-entry"
   let equal<-holding [y] (eqBool y x)
   let (es',_,t')<-setState a
   if adding&&equal then return .there none
   let some same:=t'.sameMemory t.moves t.mask|unsupported "set.changed-during-lookup:is-the-new-block-at-the-old-address"
   let still<-match(if same then t'.slot j else .empty) with
    | .live i'=>match es'[i']? with
     |some (_,y')=>do pure (if<-isSame y' y then some i' else none)
     |none=>pure none
    |_=>pure none
   match still with
   |none=>rule "set.search.anew";setSearchFrom a x h adding fuel none
   |some i'=>if equal then return .there (some i') else setSearchFrom a x h adding fuel (some next)):=rfl
theorem j9_ {h:Heap}{es:Array (Int×Value)} (e:Ent prog w h es) {i:Nat} (hi:i<es.size) {k:List Int}{b:Addr}{g:Int} (he:es[i]? =some (g, .ref b)) (hk:IsTupleKey (intKind prog w) h k b):
  g=tupleKeyHash (intKind prog w) k:=by
 obtain⟨k',b',e',hk'⟩:=e.ent i hi;rw [e'] at he;simp only [Aw,Bg,Bo] at he;obtain⟨rfl,rfl⟩:=he;rw [hk.inj hk']
theorem db_ {α:Type}{xs:Array α}{i:Nat}{a:α} (h:xs[i]? =some a):i<xs.size:=by
 rcases BH i xs.size with c|c
 .exact c
 .rw [BV c] at h;exact nomatch h
theorem de_ {es:Array (Int×Value)}{t:SetTable} (b:Tb t es) (hs:es.size<=t.mask):t.fits es.size=true:=by
 have h1:t.fill<=t.mask:=by
  unfold SetTable.fill;rw [b.dum,b.size];exact hs
 unfold SetTable.fits;rw [b.size,Ak h1];simp
theorem fV_ {a:Addr}{o:Obj}{es:Array (Int×Value)}{ep:Nat}{t:SetTable} (ho:s.heap.get? a=some o) (hd:o.data= .set es ep t) (b:Tb t es) (hs:es.size<=t.mask)
  (hu:A.units<cLine) (en:Ent prog w s.heap es) {k:List Int}{x:Addr} (hx:IsTupleKey (intKind prog w) s.heap k x) {Q:SetFound->Shared->Prop}
  (hT:qV_ prog w s.heap es k->Q (.there none) s)
  (hF:∀n,¬In t.place (sl t.mask (tupleKeyHash (intKind prog w) k) n)->(∀j,j<n->In t.place (sl t.mask (tupleKeyHash (intKind prog w) k) j))->¬qV_ prog w s.heap es k->
   Q (.free (sl t.mask (tupleKeyHash (intKind prog w) k) n) false) s):
  ∀(fuel n0:Nat) (stand:Option Probe),(∃N,n0<=N/\N<n0+fuel/\¬In t.place (sl t.mask (tupleKeyHash (intKind prog w) k) N))->
   (∀j,j<n0->∃i,i<t.place.size/\t.place.getD i 0=sl t.mask (tupleKeyHash (intKind prog w) k) j/\∀g c,es[i]? =some (g,Value.ref c)->¬IsTupleKey (intKind prog w) s.heap k c)->
   stand.getD (t.probeStart (tupleKeyHash (intKind prog w) k))=pAt t.mask (tupleKeyHash (intKind prog w) k) n0->
   wpAny (model prog w) A (setSearchFrom a (.ref x) (tupleKeyHash (intKind prog w) k) true fuel stand) Q E s
 |0,n0,_,⟨N,h1,h2,_⟩,_,_=>absurd h2 (by lia)
 |fuel+1,n0,stand,⟨N,h1,h2,h3⟩,hp,hst=>by
  have hf:t.fits es.size=true:=de_ b hs;have hw:t.gaveWay=false:=by
   unfold SetTable.gaveWay;rcases b.mask with e|e|e<;>rw [e]<;>rfl
  rw [lz_];refine A0 (BE ho hd hf ?_);dsimp only;rw [hw,hst];simp only [AM,Av];obtain⟨n,hn,hq,hr⟩:=b.probe hs (hAt es) (tupleKeyHash (intKind prog w) k) n0;have hp':∀j,j<n->∃i,i<t.place.size/\t.place.getD i 0=sl t.mask (tupleKeyHash (intKind prog w) k) j/\∀g c,es[i]? =some (g,Value.ref c)->¬IsTupleKey (intKind prog w) s.heap k c:=by
   intro j hj;rcases BH j n0 with c|c
   .exact hp j c
   .obtain⟨i,hi,ei,eh⟩:=hq j c hj;refine⟨i,hi,ei,fun g c e hk=> ?_⟩;have:=j9_ en (by rw [<-b.size];exact hi) e hk;unfold hAt at eh;rw [e] at eh;simp [this] at eh
  rcases hr with⟨r1,r2⟩|⟨i,hi,ei,eh,r2⟩
  .rw [r2];refine A4 (hF n r1 (fun j hj=> ?_) fun⟨i,c,e,hk⟩=> ?_)
   .obtain⟨i,hi,ei,_⟩:=hp' j hj;exact⟨i,hi,ei⟩
   .have hil:=db_ e;obtain⟨m,em,hm⟩:=b.reach i hil;have eha:hAt es i=tupleKeyHash (intKind prog w) k:=by unfold hAt;rw [e];rfl
    rw [eha] at em hm;have hmn:m<n:=by
     rcases BH m n with c|c
     .exact c
     .exfalso;rcases BH n m with d|d
      .exact r1 (hm n d)
      .have:m=n:=by lia
       subst this;exact r1 ⟨i,by rw [b.size];exact hil,em.symm⟩
    obtain⟨i',hi',ei',hno⟩:=hp' m hmn;have:i'=i:=by
     rcases Nat.lt_trichotomy i' i with c|c|c
     .have:=b.ris i' i c (by rw [b.size];exact hil);lia
     .exact c
     .have:=b.ris i i' c hi';lia
    subst this;exact hno _ _ e hk
  .rw [r2];dsimp only;have hil:i<es.size:=by rw [<-b.size];exact hi
   obtain⟨k',y,ey,hy⟩:=en.ent i hil;have hSeen:∀y∈(es.filter (fun e=>e.1==tupleKeyHash (intKind prog w) k)).toList.map (·.2),∃b j,y=Value.ref b/\IsTupleKey (intKind prog w) s.heap j b:=by
    intro y hy;obtain⟨e,he,rfl⟩:=AY.mp hy;have he':e∈es:=by
     have:=Array.mem_toList_iff.mp he;exact(Array.mem_filter.mp this).1
    obtain⟨i,hi,ei⟩:=Array.mem_iff_getElem.mp he';obtain⟨k',y,ey,hy'⟩:=en.ent i hi;rw [Ai hi,ei] at ey;simp only [Aw] at ey;subst ey;exact⟨y,k',rfl,hy'⟩
   have goal2:wpAny (model prog w) A (do
     let some (_,y):=es[i]? |unsupported "internal:set-entry"
     let equal<-holding [y] (eqBool y (.ref x))
     let (es',_,t')<-setState a
     if true&&equal then return SetFound.there none
     let some same:=t'.sameMemory t.moves t.mask|unsupported "set.changed-during-lookup:is-the-new-block-at-the-old-address"
     let still<-match(if same then t'.slot (sl t.mask (tupleKeyHash (intKind prog w) k) n) else .empty) with
      | .live i'=>match es'[i']? with
       |some (_,y')=>do pure (if<-isSame y' y then some i' else none)
       |none=>pure none
      |_=>pure none
     match still with
     |none=>rule "set.search.anew";setSearchFrom a (.ref x) (tupleKeyHash (intKind prog w) k) true fuel none
     |some i'=>if equal then return SetFound.there (some i') else setSearchFrom a (.ref x) (tupleKeyHash (intKind prog w) k) true fuel (some (pAt t.mask (tupleKeyHash (intKind prog w) k) (n+1)))) Q E s:=by
    rw [ey];dsimp only;refine A0 (B0 (wpAny_eqBool_tuple hu hy hx ?_));refine A0 (BE ho hd hf ?_);dsimp only;by_cases hkk:k'=k
    .subst hkk;rw [Ak rfl];simp only [Bool.true_and,C9];exact A4 (hT ⟨i,y,ey,hy⟩)
    .rw [AX hkk];simp only [C8,AM,Av];have hsm:t.sameMemory t.moves t.mask=some true:=by unfold SetTable.sameMemory;simp
     rw [hsm];dsimp only;rw [A8 rfl,<-ei,hx_ b.ris hi];dsimp only;rw [ey];dsimp only;refine A0 ?_;refine wpAny_isSame_ref_self ?_;simp only [C9];refine fV_ ho hd b hs hu en hx hT hF fuel (n+1) _ ⟨N, ?_,by lia,h3⟩ ?_ rfl
     .have:n≠N:=fun e=>h3 (by rw [<-e];exact⟨i,hi,ei⟩);have:¬N<n:=fun c=>by
       obtain⟨i',hi',ei',_⟩:=hp' N c;exact h3 ⟨i',hi',ei'⟩
      lia
     .intro j hj;rcases BH j n with c|c
      .exact hp' j c
      .have:j=n:=by lia
       subst this;refine⟨i,hi,ei,fun g c e hk=>hkk ?_⟩;rw [ey] at e;simp only [Aw,Bg,Bo] at e;obtain⟨_,rfl⟩:=e;exact hy.inj hk
   cases hl:t.led with
   |true=>simpa only [By,AM,Av] using goal2
   |false=>
    simp only [Bool.not_false,C9];refine A0 (nw_ hx _ hSeen ?_);simp only [AM,Av];exact goal2
def ni_ (h:Heap) (S:Addr) (led:Bool) (es:Array (Int×Value)):Prop:=
 ∃ep t,h.get? S=some {cls:= .type "set",dict:=none,data:= .set es ep t}/\Tb t es/\t.led=led/\t.plain=true/\es.size*5<t.mask*3
theorem iw_ {h:Heap}{a:Addr}{es:Array (Int×Value)}{ep:Nat}{t:SetTable} (ho:h.get? a=some {cls:= .type "set",dict:=none,data:= .set es ep t}) (es':Array (Int×Value)) (t':SetTable):
  (h.update a (Obj.putSet es' t')).get? a=some {cls:= .type "set",dict:=none,data:= .set es' (ep+1) t'}:=by
 have:=CC (Obj.putSet es' t') ho (by rw [putSet_of es' t' rfl];rfl);rw [putSet_of es' t' rfl] at this;exact this
theorem oW_ {h h':Heap}{S:Addr}{o o':Obj}{es es':Array (Int×Value)}{ep ep':Nat}{t t':SetTable} (q:Heap.SameBut S h h') (e:h.get? S=some o) (hd:o.data= .set es ep t)
  (e':h'.get? S=some o') (hd':o'.data= .set es' ep' t') (k:List Int) (x:Addr):
  IsTupleKey (intKind prog w) h k x↔IsTupleKey (intKind prog w) h' k x:=by
 constructor
 .rintro⟨o,items,n,ho,hc,hdd,hi⟩;refine⟨o,items,n,(q.2 x fun z=> ?_).trans ho,hc,hdd,hi⟩;subst z;rw [ho,Aw] at e;subst e;rw [hd] at hdd;exact nomatch hdd
 .rintro⟨o,items,n,ho,hc,hdd,hi⟩;refine⟨o,items,n,(q.2 x fun z=> ?_).symm.trans ho,hc,hdd,hi⟩;subst z;rw [ho,Aw] at e';subst e';rw [hd'] at hdd;exact nomatch hdd
theorem jp_ {k:List Int}{x:Addr}{Q:Bool->Shared->Prop} (hx:IsTupleKey (intKind prog w) s.heap k x) (h:Q true s):
  wpAny (model prog w) A (hashByValue 8 (.ref x)) Q E s:=by
 have hT:=hx.typeIs;obtain⟨o,items,n,ho,hc,hd,hi⟩:=hx;unfold hashByValue;refine A0 (wpAny_specialOf hT F.slot_tuple_hash.lookup ?_);dsimp only;refine A0 (wpAny_seqItems ho hd ?_);refine A0 ?_;show wpAny _ _ (forIn items _ _) _ _ s;rw [<-Array.forIn_toList];refine wpAny_forIn_list _ (fun ek_ r s'=>r.1=none/\s'=s/\∀v∈ek_,∃n t,v=Value.int n t) _ ?_ ?_ _ _ ⟨rfl,rfl,kc_ hi⟩
 .rintro v ek_ r s' ⟨hr,rfl,hall⟩;obtain⟨n,t,rfl⟩:=hall v B2;refine A0 (wpAny_of_eq (show hashByValue 7 (.int n t)=pure true from by unfold hashByValue;rfl) (A4 ?_));simp only [By,AM,Av];exact⟨trivial,trivial,fun u hu'=>hall u (Au _ hu')⟩
 .rintro⟨r1,r2⟩ s' ⟨hr,rfl,_⟩;simp only at hr;subst hr;exact A4 h
theorem Ent.perm {h h':Heap}{es es':Array (Int×Value)} (en:Ent prog w h es) (hk:∀k x,IsTupleKey (intKind prog w) h k x↔IsTupleKey (intKind prog w) h' k x) (f:Nat->Nat)
  (hf:∀i,i<es'.size->f i<es.size/\es'[i]? =es[f i]?) (hj:∀i j,i<es'.size->j<es'.size->f i=f j->i=j):Ent prog w h' es':=by
 refine⟨fun i hi=> ?_,fun i j k b c g g' e1 e2 k1 k2=> ?_⟩
 .obtain⟨k,b,e,q⟩:=en.ent (f i) (hf i hi).1;exact⟨k,b,by rw [(hf i hi).2];exact e,(hk _ _).mp q⟩
 .have l1:=db_ e1;have l2:=db_ e2;rw [(hf i l1).2] at e1;rw [(hf j l2).2] at e2;exact hj i j l1 l2 (en.dis _ _ k b c g g' e1 e2 ((hk _ _).mpr k1) ((hk _ _).mpr k2))
theorem Ent.insert {h h':Heap}{es:Array (Int×Value)} (en:Ent prog w h es) (hk:∀k x,IsTupleKey (intKind prog w) h k x↔IsTupleKey (intKind prog w) h' k x) {p:Nat} (hp:p<=es.size) {k:List Int}{x:Addr}
  (hx:IsTupleKey (intKind prog w) h k x) (hno:¬qV_ prog w h es k):Ent prog w h' (insertAt es p (tupleKeyHash (intKind prog w) k, .ref x)):=by
 have old:∀(i:Nat) (k':List Int) (b:Addr) (g:Int),es[i]? =some (g,Value.ref b)->IsTupleKey (intKind prog w) h k' b->k'≠k:=by
  rintro i k' b g e q rfl;exact hno ⟨i,b,by rw [e,j9_ en (db_ e) e q],q⟩
 refine⟨fun i hi=> ?_,fun i j k' b c g g' e1 e2 k1 k2=> ?_⟩
 .rw [bx_ hp] at hi;rw [et_ hp];by_cases c1:i<p
  .rw [A8 c1];obtain⟨k',b,e,q⟩:=en.ent i (by lia);exact⟨k',b,e,(hk _ _).mp q⟩
  .rw [A6 c1];by_cases c2:i=p
   .rw [A8 c2];exact⟨k,x,rfl,(hk _ _).mp hx⟩
   .rw [A6 c2];obtain⟨k',b,e,q⟩:=en.ent (i-1) (by lia);exact⟨k',b,e,(hk _ _).mp q⟩
 .rw [et_ hp] at e1 e2;have k1':=(hk _ _).mpr k1;have k2':=(hk _ _).mpr k2;have new:∀(b:Addr) (g:Int),some (tupleKeyHash (intKind prog w) k,Value.ref x)=some (g,Value.ref b)->IsTupleKey (intKind prog w) h k' b->k'=k:=by
   intro b g e q;simp only [Aw,Bg,Bo] at e;obtain⟨_,rfl⟩:=e;exact q.inj hx
  by_cases a1:i<p
  .rw [A8 a1] at e1;by_cases b1:j<p
   .rw [A8 b1] at e2;exact en.dis _ _ _ _ _ _ _ e1 e2 k1' k2'
   .rw [A6 b1] at e2;by_cases b2:j=p
    .rw [A8 b2] at e2;exact absurd (new _ _ e2 k2') (old _ _ _ _ e1 k1')
    .rw [A6 b2] at e2;have:=en.dis _ _ _ _ _ _ _ e1 e2 k1' k2';lia
  .rw [A6 a1] at e1;by_cases a2:i=p
   .rw [A8 a2] at e1;by_cases b1:j<p
    .rw [A8 b1] at e2;exact absurd (new _ _ e1 k1') (old _ _ _ _ e2 k2')
    .rw [A6 b1] at e2;by_cases b2:j=p
     .lia
     .rw [A6 b2] at e2;exact absurd (new _ _ e1 k1') (old _ _ _ _ e2 k2')
   .rw [A6 a2] at e1;by_cases b1:j<p
    .rw [A8 b1] at e2;have:=en.dis _ _ _ _ _ _ _ e1 e2 k1' k2';lia
    .rw [A6 b1] at e2;by_cases b2:j=p
     .rw [A8 b2] at e2;exact absurd (new _ _ e2 k2') (old _ _ _ _ e1 k1')
     .rw [A6 b2] at e2;have:=en.dis _ _ _ _ _ _ _ e1 e2 k1' k2';lia
theorem mE_ {es:Array (Int×Value)}{p:Nat} (hp:p<=es.size) (x v:Int×Value):(∃i:Nat,(insertAt es p x)[i]? =some v)↔(∃i:Nat,es[i]? =some v)\/v=x:=by
 constructor
 .rintro⟨i,e⟩;rw [et_ hp] at e;split at e
  .exact .inl ⟨_,e⟩
  .split at e
   .rw [Aw] at e;exact .inr e.symm
   .exact .inl ⟨_,e⟩
 .rintro(⟨i,e⟩|rfl)
  .by_cases c:i<p
   .exact⟨i,by rw [et_ hp,A8 c];exact e⟩
   .exact⟨i+1,by rw [et_ hp,A6 (by lia),A6 (by lia)];exact e⟩
  .exact⟨p,by rw [et_ hp,A6 (by lia),A8 rfl]⟩
theorem nC_ (a:Addr) (wanted:Nat):setRelay a wanted=(do
  let (es,_,t)<-setState a
  if SetTable.sizeAbove wanted>sizeLine then unsupported "set:memory"
  let (es,t)<-(do
   let some (t,order):=t.relaid (es.map (·.1)) wanted|unsupported "internal:set-table-without-room"
   let es':=order.filterMap (es[·]?)
   if es'.size !=es.size then unsupported "internal:set-table-lost-an-element"
   pure (es',t):Sem (Array (Int×Value)×SetTable))
  storeSet a es t):=rfl
theorem qN_ {S:Addr}{led:Bool}{es:Array (Int×Value)} (hS:ni_ s.heap S led es) (en:Ent prog w s.heap es) {k:List Int}{x:Addr} (hx:IsTupleKey (intKind prog w) s.heap k x)
  (hu:A.units<cLine) (h64:es.size<64) {Q:Bool->Shared->Prop}
  (h:∀b h' es',Heap.SameBut S s.heap h'->ni_ h' S led es'->Ent prog w h' es'->
   (qV_ prog w s.heap es k/\es'=es\/¬qV_ prog w s.heap es k/\es'.size=es.size+1/\∀v,(∃i:Nat,es'[i]? =some v)↔(∃i:Nat,es[i]? =some v)\/v=(tupleKeyHash (intKind prog w) k, .ref x))->Q b {s with heap:=h'}):
  wpAny (model prog w) A (setAddHashed S (.ref x) (tupleKeyHash (intKind prog w) k)) Q E s:=by
 have hS0:=hS;obtain⟨ep,t,ho,b,hl,hp,hr⟩:=hS;have hs:es.size<=t.mask:=by lia
 have hf:=de_ b hs;unfold setAddHashed setAddHashedIn;refine B0 (A0 (BE ho rfl hf ?_));dsimp only;have hsc:byScan (.ref x) es=false:=by unfold byScan;simp [Value.scannable]
 rw [hsc];simp only [AM,Av];unfold setSearch;obtain⟨e,he,hn⟩:=b.free hs;obtain⟨n1,h1,h2,h3⟩:=t6_ b.mask (tupleKeyHash (intKind prog w) k) 0 he;have ht:10*turns t.mask<100000:=by
  unfold turns;rcases b.mask with e|e|e<;>rw [e]<;>decide
 refine A0 (fV_ ho rfl b hs hu en hx (fun hk=> ?_) (fun n ha hb hno=> ?_) 100000 0 none ⟨n1,h1,by lia,by rw [h3];exact hn⟩ (fun j hj=>absurd hj (by lia)) rfl)
 .exact A4 (h false s.heap es (Heap.SameBut.refl _ _) hS0 en (.inl ⟨hk,rfl⟩))
 .dsimp only;refine A0 (BE ho rfl hf ?_);dsimp only;have T1:=b.add (tupleKeyHash (intKind prog w) k) (.ref x) n ha (rx_ _ _ _) hb;have hpl:below t.place (sl t.mask (tupleKeyHash (intKind prog w) k) n)<=es.size:=by rw [<-b.size];exact(dT_ b.ris _).1
  have put:=oK_ t b.dum (sl t.mask (tupleKeyHash (intKind prog w) k) n);rw [put] at T1⊢;dsimp only at T1⊢;rw [A8 hp];refine A0 (jp_ hx ?_);simp only [C9];generalize hpp:below t.place (sl t.mask (tupleKeyHash (intKind prog w) k) n)=p at T1 hpl⊢;generalize htt:({t with place:=insertAt t.place p (sl t.mask (tupleKeyHash (intKind prog w) k) n)}:SetTable)=t1 at T1⊢;have tm:t1.mask=t.mask:=by rw [<-htt]
  have tl:t1.led=led:=by rw [<-htt];exact hl
  have tp:t1.plain=true:=by rw [<-htt];exact hp
  have z1:(insertAt es p (tupleKeyHash (intKind prog w) k,Value.ref x)).size=es.size+1:=bx_ hpl _;have hsl:sizeLine>=4096:=by rw [B1];decide
  refine A0 (wpAny_storeSet_of ho rfl ?_ (by rw [z1];lia));have ho1:=(iw_ ho (insertAt es p (tupleKeyHash (intKind prog w) k,Value.ref x)) t1);have sb1:=B7 s.heap S (Obj.putSet (insertAt es p (tupleKeyHash (intKind prog w) k,Value.ref x)) t1);generalize s.heap.update S (Obj.putSet (insertAt es p (tupleKeyHash (intKind prog w) k,Value.ref x)) t1)=h1 at ho1 sb1⊢;have s1:t1.place.size=es.size+1:=by rw [T1.size,z1]
  have fl:t1.fill=es.size+1:=by unfold SetTable.fill;rw [T1.dum,s1];rfl
  have hk1:∀k x,IsTupleKey (intKind prog w) s.heap k x↔IsTupleKey (intKind prog w) h1 k x:=fun k x=>oW_ sb1 ho rfl ho1 rfl k x;have en1:=en.insert hk1 hpl hx hno;by_cases full:t1.tooFull=true
  .rw [full];simp only [Bool.not_false,Bool.and_self,C9];have fe:(es.size+1)*5>=t.mask*3:=by
    unfold SetTable.tooFull at full;rw [fl,tm] at full;simpa using full
   have hm:(t1.mask=7/\(insertAt es p (tupleKeyHash (intKind prog w) k,Value.ref x)).size=5)\/(t1.mask=31/\(insertAt es p (tupleKeyHash (intKind prog w) k,Value.ref x)).size=19):=by
    rw [z1,tm];rcases b.mask with e|e|e<;>lia
   obtain⟨pl,od,r1,r2,r3,r4,r5,r6,r7,r8⟩:=Tb.again hm;rw [<-z1,nC_];have hf1:t1.fits (insertAt es p (tupleKeyHash (intKind prog w) k,Value.ref x)).size=true:=de_ T1 (by rcases hm with⟨e1,e2⟩|⟨e1,e2⟩<;>lia)
   refine A0 ?_;refine A0 (BE (s:={s with heap:=h1}) ho1 rfl hf1 ?_);dsimp only;rw [A6 (by lia)];rw [r1];dsimp only;rw [show((od.filterMap ((insertAt es p (tupleKeyHash (intKind prog w) k,Value.ref x))[·]?)).size !=(insertAt es p (tupleKeyHash (intKind prog w) k,Value.ref x)).size)=false from by rw [r3];simp];simp only [AM,Av];refine A0 (A4 ?_);refine wpAny_storeSet_of (s:={s with heap:=h1}) ho1 rfl ?_ (by rw [r3,z1];lia);have ho2:=(iw_ ho1 (od.filterMap ((insertAt es p (tupleKeyHash (intKind prog w) k,Value.ref x))[·]?)) {mask:=sizeAbove (grown (insertAt es p (tupleKeyHash (intKind prog w) k,Value.ref x)).size)-1,place:=pl,dummies:= #[],finger:=t1.finger,led:=t1.led,moves:=t1.movedTo (sizeAbove (grown (insertAt es p (tupleKeyHash (intKind prog w) k,Value.ref x)).size)-1),plain:=t1.plain});have sb2:=B7 h1 S (Obj.putSet (od.filterMap ((insertAt es p (tupleKeyHash (intKind prog w) k,Value.ref x))[·]?)) {mask:=sizeAbove (grown (insertAt es p (tupleKeyHash (intKind prog w) k,Value.ref x)).size)-1,place:=pl,dummies:= #[],finger:=t1.finger,led:=t1.led,moves:=t1.movedTo (sizeAbove (grown (insertAt es p (tupleKeyHash (intKind prog w) k,Value.ref x)).size)-1),plain:=t1.plain});dsimp only at ho2 sb2⊢;generalize h1.update S _=h2 at ho2 sb2⊢;have hk2:∀k x,IsTupleKey (intKind prog w) h1 k x↔IsTupleKey (intKind prog w) h2 k x:=fun k x=>oW_ sb2 ho1 rfl ho2 rfl k x;refine A4 (h true h2 _ (sb1.trans sb2) ⟨_,_,ho2,r2,tl,tp,by rw [r3];exact r7⟩ (en1.perm hk2 (fun i=>od.getD i 0) (fun i hi=> ?_) fun i j hi hj e=>r5 i j (by rw [<-r3];exact hi) (by rw [<-r3];exact hj) e) (.inr ⟨hno,by rw [r3,z1],fun v=> ?_⟩))
   .rw [r3] at hi;obtain⟨q,q1,q2,q3⟩:=r4 i hi;rw [<-q3];exact⟨q1,q2⟩
   .rw [<-mE_ hpl];constructor
    .rintro⟨i,e⟩;obtain⟨q,q1,q2,q3⟩:=r4 i (by rw [<-r3];exact db_ e);exact⟨q,by rw [<-q2];exact e⟩
    .rintro⟨i,e⟩;obtain⟨i',hi',e'⟩:=r6 i (db_ e);obtain⟨q,q1,q2,q3⟩:=r4 i' hi';exact⟨i',by rw [q2,q3,e'];exact e⟩
  .rw [show t1.tooFull=false from by simpa using full];simp only [Bool.not_false,C8,AM,Av];have fe:(es.size+1)*5<t1.mask*3:=by
    unfold SetTable.tooFull at full;rw [fl] at full;simpa using full
   exact A4 (h true h1 _ sb1 ⟨_,_,ho1,T1,tl,tp,by rw [z1];exact fe⟩ en1 (.inr ⟨hno,z1,fun v=>mE_ hpl _ _⟩))
end
end L2
namespace L2
open PySem PySem.SetTable PySem.Spec PyProof.Rows
section
variable {prog:Program}{w:World}{A:Around}{E:Value->Shared->Prop}{s:Shared}
theorem Ent.mv {h h':Heap}{es:Array (Int×Value)} (en:Ent prog w h es) (hk:∀(i:Nat) (k:List Int) (g:Int) (x:Addr),es[i]? =some (g,Value.ref x)->IsTupleKey (intKind prog w) h k x->IsTupleKey (intKind prog w) h' k x):Ent prog w h' es:=by
 refine⟨fun i hi=> ?_,fun i j k b c g g' e1 e2 k1 k2=> ?_⟩
 .obtain⟨k,b,e,q⟩:=en.ent i hi;exact⟨k,b,e,hk i k _ b e q⟩
 .obtain⟨k',b',e1',q1⟩:=en.ent i (db_ e1);obtain⟨k'',b'',e2',q2⟩:=en.ent j (db_ e2);rw [e1] at e1';rw [e2] at e2';simp only [Aw,Bg,Bo] at e1' e2';obtain⟨rfl,rfl⟩:=e1';obtain⟨rfl,rfl⟩:=e2';have:=k1.inj (hk i k' _ b e1 q1);subst this;have:=k2.inj (hk j k'' _ c e2 q2);subst this;exact en.dis i j _ _ _ _ _ e1 e2 q1 q2
structure Made (prog:Program) (w:World) (kk:Nat->List Int) (ad:Nat->Addr) (i:Nat) (es:Array (Int×Value)):Prop where
 size:es.size<=i
 from_:∀(p:Nat) (v:Int×Value),es[p]? =some v->∃j,j<i/\v=(tupleKeyHash (intKind prog w) (kk j),Value.ref (ad j))
 all:∀j,j<i->∃(p j':Nat),j'<i/\kk j'=kk j/\es[p]? =some (tupleKeyHash (intKind prog w) (kk j'),Value.ref (ad j'))
theorem Made.step {kk:Nat->List Int}{ad:Nat->Addr}{i:Nat}{es es':Array (Int×Value)}{h:Heap} (m:Made prog w kk ad i es) (en:Ent prog w h es) (hkk:∀j,j<=i->IsTupleKey (intKind prog w) h (kk j) (ad j))
  (c:qV_ prog w h es (kk i)/\es'=es\/¬qV_ prog w h es (kk i)/\es'.size=es.size+1/\∀v,(∃p:Nat,es'[p]? =some v)↔(∃p:Nat,es[p]? =some v)\/v=(tupleKeyHash (intKind prog w) (kk i), .ref (ad i))):
  Made prog w kk ad (i+1) es':=by
 rcases c with⟨⟨p,b,e,q⟩,rfl⟩|⟨_,z,mem⟩
 .refine⟨Nat.le_succ_of_le m.size,fun p v e=> ?_,fun j hj=> ?_⟩
  .obtain⟨j,hj,ev⟩:=m.from_ p v e;exact⟨j,by lia,ev⟩
  .by_cases c:j<i
   .obtain⟨p,j',hj',ek,ev⟩:=m.all j c;exact⟨p,j',by lia,ek,ev⟩
   .have:j=i:=by lia
    subst this;obtain⟨j',hj',ev⟩:=m.from_ p _ e;simp only [Bg,Bo] at ev;obtain⟨_,rfl⟩:=ev;have:=q.inj (hkk j' (by lia));exact⟨p,j',by lia,this.symm,by rw [e,this]⟩
 .refine⟨by rw [z];have:=m.size;lia,fun p v e=> ?_,fun j hj=> ?_⟩
  .rcases(mem v).mp ⟨p,e⟩ with⟨p',e'⟩|e'
   .obtain⟨j,hj,ev⟩:=m.from_ p' v e';exact⟨j,by lia,ev⟩
   .exact⟨i,by lia,e'⟩
  .by_cases c:j<i
   .obtain⟨p,j',hj',ek,ev⟩:=m.all j c;obtain⟨p',e'⟩:=(mem _).mpr (.inl ⟨p,ev⟩);exact⟨p',j',by lia,ek,e'⟩
   .have:j=i:=by lia
    subst this;obtain⟨p',e'⟩:=(mem _).mpr (.inr rfl);exact⟨p',j,by lia,rfl,e'⟩
theorem ni_.mv {h h':Heap}{S:Addr}{led:Bool}{es:Array (Int×Value)} (a:ni_ h S led es) (e:∀o,h.get? S=some o->h'.get? S=some o):ni_ h' S led es:=by
 obtain⟨ep,t,ho,r⟩:=a;exact⟨ep,t,e _ ho,r⟩
theorem ib_ {h h':Heap}{k:List Int}{x:Addr} (q:IsTupleKey (intKind prog w) h k x) (e:∀o,h.get? x=some o->h'.get? x=some o):IsTupleKey (intKind prog w) h' k x:=by
 obtain⟨o,items,n,ho,r⟩:=q;exact⟨o,items,n,e _ ho,r⟩
theorem p2_ (a:Value) {Q₁:Value->Shared->Prop}
  (h:Q₁ (.ref s.heap.objs.size) {s with heap:=s.heap.push {cls:= .type "set",dict:=none,data:= .set #[] 0 (.fresh 0 0 (!w.params.followText "set-order"))}}):
  codeAny (model prog w) A (.call (.builtin "set.__new__") ⟨[.type "set",a],[]⟩) (wants Q₁ E) s:=by
 refine codeAny_of_tree ?_;show wpAny _ A.in1 (do checkBuiltinCall "set.__new__" ⟨[.type "set",a],[]⟩;again (.builtin "set.__new__" ⟨[.type "set",a],[]⟩)) _ _ s;refine A0 (wpAny_of_eq (F.newCall_set_1 a) (A4 ⟨D1 F.plain_set_new _,Br F.entry_set_new ?_⟩));rw [Bk F.plain_set_new _];unfold Builtin.«set.__new__» Builtin.Frozenset.newClass;have hsub:=sub_set_self;obtain⟨hp,g,d,tk,os⟩:=s;dsimp only
 wp_walk
 refine Cv (A4 ?_);dsimp only;simp only [newObj];refine A0 (wpAny_alloc (A4 ?_));exact A4 h
theorem oe_ (led:Bool):Tb (.fresh 0 0 led) #[]:=
 ⟨.inl rfl,rfl,rfl,fun i j _ h=>absurd h (by show¬j<0;lia),fun i h=>absurd h (by show¬i<0;lia),fun i h=>absurd h (by show¬i<0;lia)⟩
end
end L2
namespace L2
open PySem PySem.SetTable PySem.Spec PyProof.Rows
theorem fu_:entryFor table "set.__iter__"=some Builtin.«frozenset.__iter__»:=
 entryFor_alias (id':="frozenset.__iter__") (by kernel_rfl) rfl (by ac_nf) (by kernel_rfl)
theorem c2_:Slot "set_iterator" "__iter__" "set_iterator.__iter__":=
 .of (owner:="set_iterator") (n:="__iter__") (by rw [typeLookup_type,builtinLookup_eq_fast];kernel_rfl) (by ac_nf) (by ac_nf) (by ac_nf)
  (by first|exact .inl (by ac_nf)|exact .inr (by ac_nf)) (by rw [isSubtype_type];kernel_rfl)
theorem ft_:entryFor table "set_iterator.__iter__"=some Builtin.«dict_keyiterator.__iter__»:=
 entryFor_alias (id':="dict_keyiterator.__iter__") (by kernel_rfl) rfl (by ac_nf) (by kernel_rfl)
theorem fR_ (a:Value):argsOk "set_iterator.__iter__" ⟨[a],[]⟩:=by unfold argsOk;kernel_rfl
theorem aZ_:Slot "set_iterator" "__next__" "set_iterator.__next__":=
 .of (owner:="set_iterator") (n:="__next__") (by rw [typeLookup_type,builtinLookup_eq_fast];kernel_rfl) (by ac_nf) (by ac_nf) (by ac_nf)
  (by first|exact .inl (by ac_nf)|exact .inr (by ac_nf)) (by rw [isSubtype_type];kernel_rfl)
theorem cM_:entryFor table "set_iterator.__next__"=some Builtin.«set_iterator.__next__»:=entryFor_of_tree (by kernel_rfl)
theorem dd_ (a:Value):argsOk "set_iterator.__next__" ⟨[a],[]⟩:=by unfold argsOk;kernel_rfl
theorem mS_ {α:Type}:∀(l:List α) (i:Nat) (h:i<l.length),([l[i]]++l.eraseIdx i).Perm l
 |[],i,h=>absurd h (by simp)
 |a::l,0,h=>by simp
 |a::l,i+1,h=>by
  have hi:i<l.length:=by simpa using h
  have:=mS_ l i hi;simp only [List.getElem_cons_succ,List.eraseIdx_cons_succ,List.singleton_append] at this⊢;exact(List.Perm.swap a l[i] _).trans (this.cons a)
theorem lS_ {α:Type} (next:Nat->Nat):∀(f k:Nat) (left:List α) (out:Array α),left.length=f->(pickOrder.go next f k left out).toList.Perm (out.toList++left)
 |0,k,left,out,e=>by
  have:left=[]:=B6.mp e;subst this;unfold pickOrder.go;simp
 |f+1,k,left,out,e=>by
  have hp:next k%left.length<left.length:=Ch _ (by lia);unfold pickOrder.go;rw [A2 hp];dsimp only;refine(lS_ next f (k+1) _ _ (by rw [List.length_eraseIdx_of_lt hp];lia)).trans ?_;rw [Array.toList_push,BC];refine List.Perm.append_left _ ?_;exact mS_ left _ hp
theorem lR_ {α:Type} (next:Nat->Nat) (xs:Array α):(pickOrder next xs).toList.Perm xs.toList:=by
 unfold pickOrder;simpa using lS_ next xs.size 0 xs.toList #[] (by simp)
def nk_ (w:World) (a:Addr) (ep:Nat) (es:Array (Int×Value)):Array (Int×Value):=if w.params.followText "set-order" then pickOrder (w.params.setOrder a ep) es else es
theorem lb_ (w:World) (a:Addr) (ep:Nat) (es:Array (Int×Value)):(nk_ w a ep es).toList.Perm es.toList:=by
 unfold nk_;split
 .exact lR_ _ _
 .exact List.Perm.refl _
theorem iC_ (w:World) (a:Addr) (ep:Nat) (es:Array (Int×Value)):(nk_ w a ep es).size=es.size:=by
 have:=(lb_ w a ep es).length_eq;simpa using this
def fB_ (w:World) (t:SetTable) (i:Nat):Nat:=if w.params.followText "set-order" then 0 else if i=0 then 0 else t.place.getD (i-1) 0+1
theorem iu_ {xs:Array Nat} (r:Ris xs) {j p:Nat} (hp:p<=xs.size) (h1:∀i,i<p->xs.getD i 0<j) (h2:∀i,p<=i->i<xs.size->j<=xs.getD i 0):below xs j=p:=by
 obtain⟨a1,a2,a3⟩:=dT_ r j;rcases Nat.lt_trichotomy (below xs j) p with c|c|c
 .have:=h1 _ c;have:=a3 _ (A7 _) (by lia);lia
 .exact c
 .have:=a2 _ c;have:=h2 p (A7 _) (by lia);lia
theorem os_ {t:SetTable} (r:Ris t.place) {i:Nat} (hi:i<=t.place.size):below t.place (if i=0 then 0 else t.place.getD (i-1) 0+1)=i:=by
 by_cases z:i=0
 .subst z;exact iu_ r (AS _) (fun i h=>absurd h (by lia)) fun i _ _=>AS _
 .rw [A6 z];refine iu_ r hi (fun j hj=> ?_) fun j h1 h2=> ?_
  .rcases BH j (i-1) with c|c
   .have:=r j (i-1) c (by lia);lia
   .have:j=i-1:=by lia
    subst this;lia
  .have:=r (i-1) j (by lia) h2;lia
section
variable {prog:Program}{w:World}{A:Around}{E:Value->Shared->Prop}{s:Shared}
theorem p1_ (a:Addr) (slot given epochThen:Nat):setNext a slot given epochThen=(do
  let (es,epoch,t)<-setState a
  if<-setsByText then
   if epoch !=epochThen then unsupported "set_iterator.__next__:elements-changed"
   return ((<-setWalk a)[given]?).map fun e=>(e.2,slot)
  if !t.plain&&es.size>1 then unsupported "set_iterator.__next__:the-table-is-plain-no-more"
  (do if !t.led&& !es.isEmpty then unsupported "set:maker-not-led":Sem Unit)
  let i:=SetTable.below t.place slot
  return match es[i]?,t.place[i]? with
   |some (_,x),some j=>some (x,j+1)
   |_,_=>none):=rfl
theorem jC_ {S:Addr}{es:Array (Int×Value)}{ep:Nat}{t:SetTable}{i:Nat}{Q:Option (Value×Nat)->Shared->Prop}
  (ho:s.heap.get? S=some {cls:= .type "set",dict:=none,data:= .set es ep t}) (b:Tb t es) (hs:es.size<=t.mask) (hl:t.led= !w.params.followText "set-order") (hp:t.plain=true) (hi:i<=es.size)
  (h:Q (((nk_ w S ep es)[i]?).map fun e=>(e.2,fB_ w t (i+1))) s):wpAny (model prog w) A (setNext S (fB_ w t i) i ep) Q E s:=by
 have hf:=de_ b hs;rw [p1_];refine A0 (BE ho rfl hf ?_);dsimp only;unfold setsByText;refine A0 (A0 (Cv (A4 ?_)));show wpAny _ _ (if(w.params.followText "set-order")=true then _ else _) _ _ s;unfold nk_ fB_ at h;unfold fB_;cases ht:w.params.followText "set-order" with
 |true=>
  rw [ht] at h;simp only [C9] at h⊢;simp only [CY,AM,Av];unfold setWalk;refine A0 (A0 (BE ho rfl hf ?_));dsimp only;unfold setsByText;refine A0 (A0 (Cv (A4 ?_)));show wpAny _ _ (if(w.params.followText "set-order")=true then _ else _) _ _ s;rw [ht];simp only [C9];refine A0 (Cv (A4 ?_));exact A4 h
 |false=>
  rw [ht] at h hl;simp only [AM,Av] at h⊢;rw [hp,hl];simp only [By,Bool.not_false,Bool.false_and,AM,Av];refine A0 (A4 ?_);rw [os_ b.ris (by rw [b.size];exact hi)];refine A4 ?_;rcases BH i es.size with c|c
  .have c':i<t.place.size:=by rw [b.size];exact c
   have e2:t.place.getD (i+1-1) 0=t.place[i]:=by simp [Array.getD,c']
   rw [Ai c] at h⊢;rw [Ai c'];rw [A6 (by lia),e2] at h;exact h
  .rw [BV c] at h⊢;exact h
def fS_ (h:Heap) (it S:Addr) (slot i n ep:Nat):Prop:=∃o,h.get? it=some o/\o.cls= .type "set_iterator"/\o.data= .fields #[.int slot 0, .int i 0, .ref S, .int n 0, .int ep 0]
theorem fS_.typeIs {it S:Addr}{slot i n ep:Nat} (x:fS_ s.heap it S slot i n ep):s.TypeIs (.ref it) "set_iterator":=let ⟨o,ho,hc,_⟩:=x;⟨o,ho,hc⟩
theorem fS_.mv {h h':Heap}{it S:Addr}{slot i n ep:Nat} (x:fS_ h it S slot i n ep) (e:∀o,h.get? it=some o->h'.get? it=some o):fS_ h' it S slot i n ep:=let ⟨o,ho,r⟩:=x;⟨o,e _ ho,r⟩
theorem n4_ {S:Addr}{es:Array (Int×Value)}{ep:Nat}{t:SetTable}{Q:Value->Shared->Prop}
  (ho:s.heap.get? S=some {cls:= .type "set",dict:=none,data:= .set es ep t}) (b:Tb t es) (hs:es.size<=t.mask) (hp:t.plain=true)
  (h:Q (.ref s.heap.objs.size) {s with heap:=s.heap.push {cls:= .type "set_iterator",data:= .fields #[.int (fB_ w t 0:Nat) 0, .int (0:Nat) 0, .ref S, .int es.size 0, .int ep 0]}}):
  wpAny (model prog w) A (pyIter (.ref S)) Q E s:=by
 have hT:s.TypeIs (.ref S) "set":=⟨_,ho,rfl⟩;have hf:=de_ b hs;refine wpAny_pyIter_slot hT F.slot_set_iter (At F.slot_set_iter hT fu_ ?_ (F.args_set_iter_1 _));unfold Builtin.«frozenset.__iter__» Builtin.Frozenset.slot0 slotArgs;simp only [List.isEmpty_nil,By,AM,↓reduceIte,bind_assoc,List.length_nil,CY];unfold Builtin.Frozenset.addrOf Builtin.Frozenset.sizeOf setEntries;refine A0 (A4 ?_);try dsimp only
 refine A0 (A4 ?_);refine A0 (A0 (A0 (BE ho rfl hf (A4 (A4 ?_)))));have hdr:∀{Q':Bool->Shared->Prop},Q' false s->wpAny (model prog w) A.in1 (setDrawn S) Q' E s:=by
  intro Q' q;unfold setDrawn;refine A0 (BE ho rfl hf ?_);dsimp only;unfold setsByText;refine A0 (A0 (Cv (A4 ?_)));refine A4 ?_;have:(!t.plain&&decide (es.size>1))=false:=by rw [hp];rfl
  show Q' (!w.params.followText "set-order"&&(!t.plain&&decide (es.size>1))) s;rw [this,C8];exact q
 refine A0 (hdr ?_);simp only [AM,Av];refine A0 (A4 ?_);refine A0 (wpAny_setEpoch_of ho rfl hf ?_);unfold newFields;refine A0 (As (A4 ⟨_,rfl,"set_iterator",_,⟨_,AI _ rfl,rfl⟩,aZ_.lookup, ?_⟩));have e0:fB_ w t 0=0:=by unfold fB_;split<;>rfl
 rw [e0] at h;simpa [rawInt] using h
theorem f9_ {h:Heap}{a:Addr}{o:Obj}{vs:Array Value} (ho:h.get? a=some o) (hd:o.data= .fields vs) (f:Array Value->Array Value):
  ∃o',(h.update a (Obj.mapFields f)).get? a=some o'/\o'.cls=o.cls/\o'.data= .fields (f vs):=
 ⟨_,CC _ ho (Obj.isFreed_of_fields (C3 hd _)),Obj.cls_mapFields ..,C3 hd _⟩
theorem ly_ {it S:Addr}{es:Array (Int×Value)}{ep:Nat}{t:SetTable}{i:Nat}{e:Int×Value}{Q:Option Value->Shared->Prop} (hit:fS_ s.heap it S (fB_ w t i) i es.size ep)
  (ho:s.heap.get? S=some {cls:= .type "set",dict:=none,data:= .set es ep t}) (b:Tb t es) (hs:es.size<=t.mask) (hl:t.led= !w.params.followText "set-order") (hp:t.plain=true) (hi:i<es.size)
  (he:(nk_ w S ep es)[i]? =some e) (hQ:∀h',fS_ h' it S (fB_ w t (i+1)) (i+1) es.size ep->Heap.SameBut it s.heap h'->Q (some e.2) {s with heap:=h'}):
  wpAny (model prog w) A (pyNext (.ref it)) Q E s:=by
 obtain⟨o,hoi,hc,hd⟩:=id hit;have hf:=de_ b hs;unfold pyNext;refine A0 (CW (BG (name:=Str.ofString "__next__") hit.typeIs aZ_
  (At aZ_ hit.typeIs cM_ ?_ (dd_ _))))
 show wpAny _ _ (fieldsOf (.ref it)>>=_) _ _ s;refine A0 (Ck hoi hd ?_);dsimp only;unfold setEntries;refine A0 (A0 (BE ho rfl hf (A4 ?_)));dsimp only;rw [A6 (by simp)];simp only [AV];refine A0 (jC_ ho b hs hl hp (Ag hi) ?_);rw [he];dsimp only [Option.map_some];refine A0 (CH hoi hd (by simp) ?_);obtain⟨o1,ho1,hc1,hd1⟩:=f9_ hoi hd (·.setIfInBounds 0 (rawInt (fB_ w t (i+1):Nat)));have sb1:=B7 s.heap it (Obj.mapFields (·.setIfInBounds 0 (rawInt (fB_ w t (i+1):Nat))));generalize s.heap.update it (Obj.mapFields (·.setIfInBounds 0 (rawInt (fB_ w t (i+1):Nat))))=h1 at ho1 sb1⊢;refine A0 (CH (s:={s with heap:=h1}) ho1 hd1 (by simp) ?_);obtain⟨o2,ho2,hc2,hd2⟩:=f9_ ho1 hd1 (·.setIfInBounds 1 (rawInt ((i:Int)+1)));have sb2:=B7 h1 it (Obj.mapFields (·.setIfInBounds 1 (rawInt ((i:Int)+1))));dsimp only;generalize h1.update it (Obj.mapFields (·.setIfInBounds 1 (rawInt ((i:Int)+1))))=h2 at ho2 sb2⊢;refine A4 ⟨_,rfl,A4 (hQ _ ⟨o2,ho2,by rw [hc2,hc1,hc], ?_⟩ (sb1.trans sb2))⟩;rw [hd2];simp [rawInt]
theorem nv_ {it S:Addr}{es:Array (Int×Value)}{ep:Nat}{t:SetTable}{Q:Option Value->Shared->Prop} (hh:A.handled=none) (hit:fS_ s.heap it S (fB_ w t es.size) es.size es.size ep)
  (ho:s.heap.get? S=some {cls:= .type "set",dict:=none,data:= .set es ep t}) (b:Tb t es) (hs:es.size<=t.mask) (hl:t.led= !w.params.followText "set-order") (hp:t.plain=true)
  (hQ:∀h',Heap.ExtBut it s.heap h'->Q none {s with heap:=h'}):
  wpAny (model prog w) A (pyNext (.ref it)) Q E s:=by
 obtain⟨o,hoi,hc,hd⟩:=id hit;have hf:=de_ b hs;unfold pyNext;refine A0 (CW (BG (name:=Str.ofString "__next__") hit.typeIs aZ_
  (At aZ_ hit.typeIs cM_ ?_ (dd_ _))))
 show wpAny _ _ (fieldsOf (.ref it)>>=_) _ _ s;refine A0 (Ck hoi hd ?_);dsimp only;unfold setEntries;refine A0 (A0 (BE ho rfl hf (A4 ?_)));dsimp only;rw [A6 (by simp)];simp only [AV];refine A0 (jC_ ho b hs hl hp (A7 _) ?_);rw [BV (by rw [iC_];exact A7 _)];dsimp only [Option.map_none];refine A0 (CH hoi hd (by simp) ?_);show wpAny _ _ (newExc (.type "StopIteration") []>>=_) _ _ _;refine A0 ?_;simp only [newExc,newTuple];refine A0 (As ?_ (by size_fits));refine A0 (m:=firstArgMember _ _) (wpAny_of_eq (a:=Value.none) (by first|rfl|(simp only [firstArgMember];rfl)) ?_);refine As ?_ (by size_fits);simp only [raiseNew];refine A0 (wpAny_handled ?_);rw [show A.in1.handled=none from hh];refine A0 (A4 (wpAny_throw ?_));refine A0 (wpAny_isInstance (T:="StopIteration") (b:=true) ⟨_,AI _ rfl,rfl⟩ isSubtype_stop ?_);exact A4 (hQ _ (((B7 ..).extBut.push _).push _))
theorem nl_ (hh:A.handled=none) (I S:Addr) (hne:S≠I) {es:Array (Int×Value)}{ep:Nat}{t:SetTable} (b:Tb t es) (hs:es.size<=t.mask) (hl:t.led= !w.params.followText "set-order") (hp:t.plain=true):
  Walks prog w A I [I,S] [I] es.size (fun i v=>∃e,(nk_ w S ep es)[i]? =some e/\v=e.2) (fun i h=>fS_ h I S (fB_ w t i) i es.size ep/\h.get? S=some {cls:= .type "set",dict:=none,data:= .set es ep t}) where
 sub:=fun b hb=>by simp at hb;simp [hb]
 frame:=fun _ _ _ st hk=>⟨st.1.mv fun o e=>hk I (by simp) o e,hk S (by simp) _ st.2⟩
 item:=fun i s Q E hi st hQ=>by
  have hi':i<(nk_ w S ep es).size:=by rw [iC_];exact hi
  refine ly_ st.1 st.2 b hs hl hp hi (Ai hi') fun h' hit' hs'=> ?_;exact hQ _ h' s.toks ⟨_,Ai hi',rfl⟩ ⟨hit',hs'.extBut S _ hne st.2⟩ fun b o hb e=>hs'.extBut b o (fun h=>hb (by simp [h])) e
 done:=fun s Q E st hQ=>nv_ hh st.1 st.2 b hs hl hp fun h' he'=>hQ h' s.toks fun b o hb e=>he' b o (fun h=>hb (by simp [h])) e
 self:=fun _ s _ _ st hQ=>by
  refine wpAny_pyIter_slot st.1.typeIs c2_ (At c2_ st.1.typeIs ft_ ?_ (fR_ _));show wpAny _ _ (ret (.ref I)) _ _ s;exact A4 ⟨_,rfl,"set_iterator",_,st.1.typeIs,aZ_.lookup,hQ⟩
end
end L2
namespace L2
open PySem PySem.SetTable PySem.Spec PyProof.Rows PySem.W
section
variable {prog:Program}{w:World}{A:Around}{E:Value->Shared->Prop}{s:Shared}
theorem jm_ {S:Addr}{es:Array (Int×Value)}{ep:Nat}{t:SetTable}{Q:List Value->Shared->Prop} (hh:A.handled=none)
  (ho:s.heap.get? S=some {cls:= .type "set",dict:=none,data:= .set es ep t}) (b:Tb t es) (hs:es.size<=t.mask) (hl:t.led= !w.params.followText "set-order") (hp:t.plain=true)
  (hQ:∀h' tk vs,(∀b o,s.heap.get? b=some o->h'.get? b=some o)->s.heap.objs.size<=h'.objs.size->vs.Perm (es.toList.map (·.2))->Q vs {s with heap:=h',toks:=tk}):
  wpAny (model prog w) A (collect (.ref S)) Q E s:=by
 unfold collect;refine A0 (wpAny_runValue (Br F.entry_proto_collect ?_));rw [Bk F.plain_proto_collect _];show wpAny _ A.in1 (newList []>>=fun l=>again (.builtin "list.__iadd__" ⟨[l, .ref S],[]⟩)) _ _ s;refine A0 (As ?_);refine A4 ⟨D1 F.plain_list_iadd _,Br F.entry_list_iadd ?_⟩;rw [Bk F.plain_list_iadd _];show wpAny _ A.in1 (Builtin.List.listExtendWith (.ref s.heap.objs.size) (.ref S) (.ref s.heap.objs.size)) _ _ _;have hS:S<s.heap.objs.size:=AG ho;have ho1:(s.heap.push {cls:= .type "list",data:= .seq ([]:List Value).toArray}).get? S=some {cls:= .type "set",dict:=none,data:= .set es ep t}:=AB _ ho;have hT:Shared.TypeIs {s with heap:=s.heap.push {cls:= .type "list",data:= .seq ([]:List Value).toArray}} (.ref S) "set":=⟨_,ho1,rfl⟩;unfold Builtin.List.listExtendWith;refine A0 (D9 hT ?_);have h1:Builtin.List.listSameRef (.ref s.heap.objs.size) (.ref S)=false:=by
  show(s.heap.objs.size==S)=false;exact beq_eq_false_iff_ne.mpr (Bu hS)
 have h2:(Value.type "set"==Value.type "list")=false:=by decide
 have h3:(Value.type "set"==Value.type "tuple")=false:=by decide
 simp only [h1,h2,h3,Bool.or_false,AM,Av];refine A0 (n4_ ho1 b hs hp ?_);refine A0 (B0 ?_);unfold Builtin.List.listLengthHint;generalize hH:s.heap.push {cls:= .type "list",data:= .seq ([]:List Value).toArray}=H at ho1 hT⊢;have hHs:H.objs.size=s.heap.objs.size+1:=by rw [<-hH,BP]
 have hT2:Shared.TypeIs {s with heap:=H.push {cls:= .type "set_iterator",data:= .fields #[.int (fB_ w t 0:Nat) 0, .int (0:Nat) 0, .ref S, .int es.size 0, .int ep 0]}} (.ref S) "set":=⟨_,AB _ ho1,rfl⟩;refine A0 (wpAny_specialOf hT2 F.slot_set_len.lookup ?_)
 wp_delta
 refine A0 (wpAny_isInstance (b:=true) hT2 (by rw [isSubtype_type];kernel_rfl) ?_);show wpAny _ A.in1 (typeOf (.ref S)>>=_) _ _ _;refine A0 (D9 hT2 ?_);refine A4 ?_;rw [A8 (by decide)];refine A0 (DA ?_);unfold Builtin.List.listTouch;have hne:S≠H.objs.size:=by rw [hHs];exact AK (Ae hS)
 have hI0:fS_ (H.push {cls:= .type "set_iterator",data:= .fields #[.int (fB_ w t 0:Nat) 0, .int (0:Nat) 0, .ref S, .int es.size 0, .int ep 0]}) H.objs.size S (fB_ w t 0) 0 es.size ep:=⟨_,AI _ rfl,rfl,rfl⟩;have hL:(H.push {cls:= .type "set_iterator",data:= .fields #[.int (fB_ w t 0:Nat) 0, .int (0:Nat) 0, .ref S, .int es.size 0, .int ep 0]}).get? s.heap.objs.size=some (seqObj "list" #[] 0):=AB _ (hH▸AI _ rfl);have hS2:(H.push {cls:= .type "set_iterator",data:= .fields #[.int (fB_ w t 0:Nat) 0, .int (0:Nat) 0, .ref S, .int es.size 0, .int ep 0]}).get? S=some {cls:= .type "set",dict:=none,data:= .set es ep t}:=AB _ ho1;have hold:∀b o,s.heap.get? b=some o->(H.push {cls:= .type "set_iterator",data:= .fields #[.int (fB_ w t 0:Nat) 0, .int (0:Nat) 0, .ref S, .int es.size 0, .int ep 0]}).get? b=some o:=fun b o e=>AB _ (hH▸AB _ e);have hsz:(H.push {cls:= .type "set_iterator",data:= .fields #[.int (fB_ w t 0:Nat) 0, .int (0:Nat) 0, .ref S, .int es.size 0, .int ep 0]}).objs.size=s.heap.objs.size+2:=by rw [BP,hHs]
 generalize H.push {cls:= .type "set_iterator",data:= .fields #[.int (fB_ w t 0:Nat) 0, .int (0:Nat) 0, .ref S, .int es.size 0, .int ep 0]}=H1 at hI0 hL hS2 hold hsz⊢;refine A0 (A0 (CQ (s:={s with heap:=H1}) hL rfl ?_ (AS _) (by decide)));have hL1:=CK hL (fun x=>x.push Value.none);have hu1:∀b,b≠s.heap.objs.size->(H1.update s.heap.objs.size (Obj.mapSeq fun x=>x.push Value.none)).get? b=H1.get? b:=(B7 H1 s.heap.objs.size _).2;dsimp only;generalize H1.update s.heap.objs.size (Obj.mapSeq fun x=>x.push Value.none)=H2 at hL1 hu1⊢;refine CQ (s:={s with heap:=H2}) hL1 rfl ?_ (by simp [B1]) (by simp);have hL2:=CK hL1 (fun x=>x.pop);have hu2:∀b,b≠s.heap.objs.size->(H2.update s.heap.objs.size (Obj.mapSeq fun x=>x.pop)).get? b=H2.get? b:=(B7 H2 s.heap.objs.size _).2;dsimp only;generalize H2.update s.heap.objs.size (Obj.mapSeq fun x=>x.pop)=H3 at hL2 hu2⊢;have hk3:∀b o,b≠s.heap.objs.size->H1.get? b=some o->H3.get? b=some o:=fun b o hb e=>by rw [hu2 b hb,hu1 b hb];exact e
 have hSf:s.heap.objs.size∉[H.objs.size,S]:=by
  rw [hHs];simp only [AO,B5,C6,not_or];exact⟨AK (Bb _),Bu hS⟩
 have hSn:S≠s.heap.objs.size:=AK hS;have hHn:H.objs.size≠s.heap.objs.size:=by rw [hHs];exact Bu (Bb _)
 refine A4 ⟨D1 F.plain_extend_loop _,codeAny_extend_loopS (nl_ (A:=A.in1) (ep:=ep) hh H.objs.size S hne b hs hl hp).toS ?_ _ hSf _ es.size 0 _ _ _ rfl (AS _) ⟨hI0.mv fun o e=>hk3 _ o hHn e,hk3 S _ hSn hS2⟩ hL2 (ItemsOf.nil _) fun s' acc' c' hm hS' hacc=> ?_⟩
 .have:es.size<=127:=by rcases b.mask with e|e|e<;>lia
  rw [B1];lia
 show wpAny _ A (load s.heap.objs.size>>=_) _ _ s';refine A0 (wpAny_load hS' ?_);obtain⟨h',g',d',tk',os'⟩:=s';have eg:g'=s.gens:=hm.gens;have ed:d'=s.drawn:=hm.drawn;have eo:os'=s.os:=hm.os;subst eg;subst ed;subst eo;refine A4 (hQ h' tk' acc'.toList (fun b o e=> ?_) (Ag (AG hS')) ?_)
 .have hlt:=AG e;refine hm.heap b o (fun hb=> ?_) (hk3 b o (AK hlt) (hold b o e));simp only [AO,B5,C6] at hb;rcases hb with hb|hb
  .exact absurd hlt (by rw [hb];exact Bm _)
  .rw [hb,hHs] at hlt;exact absurd hlt (Nat.not_lt.mpr (Cn _))
 .have:acc'.toList=(nk_ w S ep es).toList.map (·.2):=by
   apply List.ext_getElem?;intro i;rw [A5,Bq,Bq];rcases BH i es.size with c|c
   .have hi:i<acc'.size:=by rw [hacc.1];exact c
    obtain⟨e,he,hv⟩:=hacc.2 i _ (Ai hi);rw [Ai hi,hv,he];rfl
   .rw [BV (by rw [hacc.1];exact c),BV (by rw [iC_];exact c)];rfl
  rw [this];exact(lb_ w S ep es).map _
abbrev lsH (h:Heap) (vs:List Value):Heap:=h.push (seqObj "list" vs.toArray 0)
theorem hW_ (h:Heap) (vs:List Value):(lsH h vs).get? h.objs.size=some (seqObj "list" vs.toArray 0):=AI _ rfl
theorem gS_ {h:Heap}{vs:List Value}{b:Addr}{o:Obj} (hb:h.get? b=some o):(aL_ (lsH h vs) h.objs.size vs).get? b=some o:=by
 have hlt:b<h.objs.size:=AG hb;have n0:b≠h.objs.size:=AK hlt;have n1:b≠h.objs.size+1:=AK (Ae hlt);have n2:b≠h.objs.size+1+1:=AK (Ae (Ae hlt));rw [Az _ _ _ (by rw [Bl,Ay,Bl];exact n2),Az _ _ _ (by rw [Ay,Bl];exact n1),D8 _ _ _ _ n0,Az _ _ _ n0];exact hb
theorem hV_ {h:Heap}{vs:List Value}{out:Array Value}{b:Addr}{o:Obj} (hb:h.get? b=some o):(sortedHeap (lsH h vs) h.objs.size vs out).get? b=some o:=by
 unfold sortedHeap;rw [D8 _ _ _ _ (AK (AG hb))];exact gS_ hb
theorem j1_ (h:Heap) (vs:List Value) (out:Array Value):∃e,(sortedHeap (lsH h vs) h.objs.size vs out).get? h.objs.size=some (seqObj "list" out e):=by
 obtain⟨e1,ho1⟩:∃e1,((lsH h vs).update h.objs.size (Obj.mapSeq fun _=>(#[]:Array Value))).get? h.objs.size=some (seqObj "list" #[] e1):=⟨_,CK (hW_ h vs) (fun _=> #[])⟩;have ho6:(aL_ (lsH h vs) h.objs.size vs).get? h.objs.size=some (seqObj "list" #[] e1):=by
  rw [Az _ _ _ (by rw [Bl,Ay,Bl];exact AK (Ae (Bb _))),Az _ _ _ (by rw [Ay,Bl];exact AK (Bb _))];exact ho1
 exact⟨_,CK ho6 (fun _=>out)⟩
theorem kF_ {v:Value}{pl_:List Value->Shared->Prop}{Q:Value->Shared->Prop} (hcol:wpAny (model prog w) A.in1 (collect v) pl_ E s)
  (h:∀vs s1,pl_ vs s1->vs.length<64/\(vs.length<2->Q (.ref s1.heap.objs.size) {s1 with heap:=sortedHeap (lsH s1.heap vs) s1.heap.objs.size vs vs.toArray})/\
   (2<=vs.length->∃(c:Nat->Nat->Bool) (kd:SortKind),
    (∀(R:SortKind->Shared->Prop) (E:Value->Shared->Prop),R kd {s1 with heap:=aL_ (lsH s1.heap vs) s1.heap.objs.size vs}->wpAny (model prog w) A.in1.in1 (keyKind' vs.toArray) R E {s1 with heap:=aL_ (lsH s1.heap vs) s1.heap.objs.size vs})/\
    (∀i j,i<vs.length->j<vs.length->∀C:Bool->Shared->Prop,C (c i j) {s1 with heap:=aL_ (lsH s1.heap vs) s1.heap.objs.size vs}->wpAny (model prog w) A.in1.in1 (keyLt' kd (vs.getD i .none) (vs.getD j .none)) C (fun _ _=>False) {s1 with heap:=aL_ (lsH s1.heap vs) s1.heap.objs.size vs})/\
    ∀p,Ord vs.length p->p=cz_ c (kas_sort vs.length)->Q (.ref s1.heap.objs.size) {s1 with heap:=sortedHeap (lsH s1.heap vs) s1.heap.objs.size vs (p.map fun i=>vs.getD i .none)})):
  wpAny (model prog w) A (call (.builtin "sorted") [v]) Q E s:=by
 refine Calls.call_function_entry kind_sorted plain_sorted entry_sorted (args_sorted1 _) ?_;unfold Builtin.«sorted»;refine A0 (m:=checkCount "sorted" 1 1 _) (A4 ?_);refine A0 (thn hcol fun vs s1 g=> ?_);obtain⟨h64,few,many⟩:=h vs s1 g;refine A0 (D0 ?_ (by rw [B1];lia));show wpAny _ _ _ _ _ {s1 with heap:=lsH s1.heap vs};by_cases h2:vs.length<2
 .refine A0 (B0 (At slot_list_sort ⟨_,hW_ s1.heap vs,rfl⟩ entry_list_sort (jA_ (s:={s1 with heap:=lsH s1.heap vs}) (hW_ s1.heap vs) h2 ⟨_,rfl, ?_⟩) (args_list_sort _)));exact A4 ⟨_,rfl,few h2⟩
 .obtain⟨c,kd,hkd,hc,hq⟩:=many (by lia);refine A0 (B0 (At slot_list_sort ⟨_,hW_ s1.heap vs,rfl⟩ entry_list_sort (lu_ (c:=c) (s:={s1 with heap:=lsH s1.heap vs}) (hW_ s1.heap vs) (by lia) h64 (fun R=>hkd R _) hc fun p hp hpc=>⟨_,rfl, ?_⟩) (args_list_sort _)));exact A4 ⟨_,rfl,hq p hp hpc⟩
end
section
variable {X:Cx}{pins:List (Addr×Obj)}{σ:St}{H:Hp}{s:Shared}
theorem jw_:∀{xs:List Int}{vs:List Value},aX_ (xs.map V.int) vs->∀(prog:Program) (w:World),ItemsAre (intKind prog w) xs vs
 |[],_, .nil,_,_=> .nil
 |x::xs,_, .cons r1 r2,prog,w=>by
  obtain⟨t,rfl⟩:=r1;exact .cons (intKind_is prog w x t) (jw_ r2 prog w)
theorem lj_ (I:Inv X pins σ H s) {a:Addr}{xs:List Int} (h:SqT X.K H a (xs.map V.int)):IsTupleKey (intKind X.prog X.w) s.heap xs a:=by
 obtain⟨its,r,p,z⟩:=I.tuple h;obtain⟨o,ho,hc,n,hd⟩:=p;exact⟨o,_,n,ho,hc,hd,jw_ r _ _⟩
theorem se_ {A:Around}{k:Nat} (hr:Room k A):A.units+8<cLine:=CS (Nat.add_le_add_left (by decide:8<=64) _) hr.units
theorem lt_ (I:Inv X pins σ H s) {rs:List V}{xss:List (List Int)}{m:Nat}{vs:List Value} (hi:Iss H (xss.map tI) rs) (r':aX_ rs vs) (hm:0<m) (hne':∀xs∈xss,xs.length=m) (hlen:xss.length<64) {Q:VK}
  (q:∀(yss:List (List Int)) (q:Addr) (H':Hp),yss.Perm xss->(∀i j,i<j->j<yss.length->ltI (yss.getD j []) (yss.getD i [])=false)->H q=none->al_ H H'->Is H' (.l (yss.map tI)) (.ref q)->Q (.ref q) H') (A:Around):
  vs.length<64/\(vs.length<2->EP X pins σ Q (.ref s.heap.objs.size) {s with heap:=sortedHeap (lsH s.heap vs) s.heap.objs.size vs vs.toArray})/\
   (2<=vs.length->∃(c:Nat->Nat->Bool) (kd:SortKind),
    (∀(R:SortKind->Shared->Prop) (E:Value->Shared->Prop),R kd {s with heap:=aL_ (lsH s.heap vs) s.heap.objs.size vs}->wpAny (model X.prog X.w) A.in1.in1 (keyKind' vs.toArray) R E {s with heap:=aL_ (lsH s.heap vs) s.heap.objs.size vs})/\
    (∀i j,i<vs.length->j<vs.length->∀C:Bool->Shared->Prop,C (c i j) {s with heap:=aL_ (lsH s.heap vs) s.heap.objs.size vs}->wpAny (model X.prog X.w) A.in1.in1 (keyLt' kd (vs.getD i .none) (vs.getD j .none)) C (fun _ _=>False) {s with heap:=aL_ (lsH s.heap vs) s.heap.objs.size vs})/\
    ∀p,Ord vs.length p->p=cz_ c (kas_sort vs.length)->EP X pins σ Q (.ref s.heap.objs.size) {s with heap:=sortedHeap (lsH s.heap vs) s.heap.objs.size vs (p.map fun i=>vs.getD i .none)}):=by
 have hne:∀xs∈xss,xs≠[]:=fun xs hx z=>by have:=hne' xs hx;rw [z] at this;exact absurd this (by show¬0=m;lia)
 have hrs:rs.length=xss.length:=by rw [hi.length,A1]
 have ln:=r'.length;have lns:vs.length=xss.length:=by lia
 refine⟨by lia,fun h2=> ?_,fun h2=>⟨qX_ xss,tuples' true,fun R E hR=> ?_,fun i j hi' hj' C hC=> ?_,fun p ho hpc=> ?_⟩⟩
 .obtain⟨e,he⟩:=j1_ s.heap vs vs.toArray;have fr:=I.hok.fresh (a:=s.heap.objs.size) (A7 _);exact⟨.ref s.heap.objs.size,_,I.laid (t':=s.toks) (fun _ _=>hV_) (A7 _) (show aS_ X.prog X.w _ _ _ (.lst rs) from⟨by rw [B1];lia,vs,e,r',he⟩),rfl,q xss _ _ (List.Perm.refl _) (fun i j a b=>absurd b (by lia)) fr (al_.new fr) (da_ ad_ (hi.mono (al_.new fr)))⟩
 .have I2:Inv X pins σ H {s with heap:=aL_ (lsH s.heap vs) s.heap.objs.size vs}:=I.kept (t':=s.toks) fun b o e=>gS_ e;obtain⟨fs,k1,k2,k3⟩:=kb_ I2 hi r' hne;exact kat_kind (T:= .type "int") k1 (by lia) (fun f hf=>by obtain⟨z,t,rfl⟩:=k3 f hf;exact .now) rfl hR
 .have I2:Inv X pins σ H {s with heap:=aL_ (lsH s.heap vs) s.heap.objs.size vs}:=I.kept (t':=s.toks) fun b o e=>gS_ e;have g:∀i,i<xss.length->∃a,vs.getD i .none= .ref a/\SqT X.K H a ((xss.getD i []).map V.int):=fun i h=>by
   have hr:i<rs.length:=by lia
   obtain⟨d,hd,h1⟩:=hi.of_get (A2 hr);rw [A5,A2 h] at hd;cases hd;obtain⟨a,ea,ha⟩:=hR_ h1;obtain⟨u,hu1,ru⟩:=r'.get (A2 hr);rw [ea] at ru;obtain rfl:u=Value.ref a:=ru;refine⟨a, ?_, ?_⟩
   .rw [AE,hu1];rfl
   .rw [AE,A2 h];exact SqT.of ha
  obtain⟨a1,e1,s1⟩:=g i (by lia);obtain⟨a2,e2,s2⟩:=g j (by lia);rw [e1,e2];rw [lZ_ (by lia) (by lia)] at hC;exact n1_ I2 s1 s2 hC
 .rw [lns] at ho hpc;have hpl:∀i∈p.toList,i<xss.length:=fun i hi=>ho.lt hi;obtain⟨e,he⟩:=j1_ s.heap vs (p.map fun i=>vs.getD i .none);have en:(p.map fun i=>vs.getD i .none)=List.toArray (p.toList.map fun i=>vs.getD i .none):=by
   apply Array.toList_inj.mp;simp
  rw [en] at he⊢;have fr:=I.hok.fresh (a:=s.heap.objs.size) (A7 _);refine⟨.ref s.heap.objs.size,_,I.laid (t':=s.toks) (fun _ _=>hV_) (A7 _) (show aS_ X.prog X.w _ _ _ (.lst (p.toList.map fun i=>rs.getD i .non)) from⟨?_,_,e,eQ_ r' p.toList (fun i hi=>by rw [hrs];exact hpl i hi),he⟩),rfl,q (p.toList.map fun i=>xss.getD i []) _ _ ?_ ?_ fr (al_.new fr) (da_ ad_ ((ke_ hi p.toList hpl).mono (al_.new fr)))⟩
  .rw [A1,Ar,B1,ho.size];lia
  .have pp:=(D7.mp ho).map fun i=>xss.getD i [];rw [show(List.range xss.length).toArray.toList=List.range xss.length from rfl,nV_] at pp;exact pp
  .intro i j hij hj;rw [A1,Ar,ho.size] at hj;have up:=ms_ (pV_ (xss:=xss) (m:=m) (by lia) hne') (n:=xss.length) (by lia) i j hij hj;rw [<-hpc] at up;have g:∀i,i<xss.length->(p.toList.map fun i=>xss.getD i []).getD i []=xss.getD (at0 p i) []/\at0 p i<xss.length:=fun i h=>by
    have hs:i<p.size:=by rw [ho.size];exact h
    have e:at0 p i=p[i]:=by simp [at0,Array.getD,hs]
    rw [e];refine⟨?_,ho.lt (by simp)⟩;rw [AE,A5];simp [hs]
   obtain⟨g1,g2⟩:=g i (by lia);obtain⟨g3,g4⟩:=g j hj;rw [g1,g3];rw [lZ_ g4 g2] at up;exact up
theorem dr_ {α β:Type}{f:β->α}{P:β->Prop}:∀(vs:List α),(∀v∈vs,∃j,P j/\v=f j)->∃js:List β,vs=js.map f/\∀j∈js,P j
 |[],_=>⟨[],rfl,fun _ h=>nomatch h⟩
 |v::vs,h=>by
  obtain⟨j,pj,e⟩:=h v (by simp);obtain⟨js,es,ps⟩:=dr_ vs fun u hu=>h u (by simp [hu]);exact⟨j::js,by rw [e,es];rfl,fun i hi=>by rcases AO.mp hi with rfl|hi;exact pj;exact ps i hi⟩
theorem ht_ (ad:Nat->Addr):∀js:List Nat,aX_ (js.map fun j=>V.ref (ad j)) (js.map fun j=>Value.ref (ad j))
 |[]=> .nil
 |j::js=> .cons rfl (ht_ ad js)
theorem kd_ {H:Hp} (kk:Nat->List Int) (ad:Nat->Addr):∀js:List Nat,(∀j∈js,H (ad j)=some (.tup ((kk j).map V.int)))->Iss H ((js.map kk).map tI) (js.map fun j=>V.ref (ad j))
 |[],_=>an_
 |j::js,h=>ap_ (jb_ (h j (by simp))) (kd_ kk ad js fun i hi=>h i (by simp [hi]))
theorem jB_ {prog:Program}{w:World}{h':Heap}{kk:Nat->List Int}{ad:Nat->Addr}{n:Nat}{es:Array (Int×Value)}{vs:List Value} (en:Ent prog w h' es) (mk:Made prog w kk ad n es)
  (hkey:∀j,j<n->IsTupleKey (intKind prog w) h' (kk j) (ad j)) (hp:vs.Perm (es.toList.map (·.2))):
  ∃js:List Nat,vs=js.map (fun j=>Value.ref (ad j))/\(∀j∈js,j<n)/\(js.map kk).Nodup/\∀j,j<n->kk j∈js.map kk:=by
 have vmem:∀v,v∈vs↔∃p g,es[p]? =some (g,v):=fun v=>by
  rw [hp.mem_iff,AY];constructor
  .rintro⟨⟨g,v'⟩,he,rfl⟩;obtain⟨p,hp,e⟩:=Array.mem_iff_getElem.mp (Array.mem_toList_iff.mp he);exact⟨p,g,by rw [Ai hp,e]⟩
  .rintro⟨p,g,e⟩;have hp:=db_ e;rw [Ai hp,Aw] at e;exact⟨(g,v),by rw [<-e];simp,rfl⟩
 obtain⟨js,ev,pj⟩:=dr_ (f:=fun j=>Value.ref (ad j)) (P:=fun j=>j<n/\∃p g,es[p]? =some (g,Value.ref (ad j))) vs fun v hv=>by
  obtain⟨p,g,e⟩:=(vmem v).mp hv;obtain⟨j,hj,e'⟩:=mk.from_ p _ e;simp only [Bg] at e';obtain⟨_,rfl⟩:=e';exact⟨j,⟨hj,p,g,e⟩,rfl⟩
 have nd:vs.Nodup:=by
  rw [hp.nodup_iff];unfold List.Nodup;rw [CZ,CF];intro i j hi hj hij e;rw [Ar] at hi hj;obtain⟨k,b,e1,q1⟩:=en.ent i hi;obtain⟨k',b',e2,q2⟩:=en.ent j hj;have z1:es.toList[i].2=Value.ref b:=by
   rw [Ai hi,Aw] at e1;simp [e1]
  have z2:es.toList[j].2=Value.ref b':=by
   rw [Ai hj,Aw] at e2;simp [e2]
  rw [z1,z2,Bo] at e;subst e;have:=en.dis i j k b b _ _ e1 e2 q1 q1;lia
 refine⟨js,ev,fun j hj=>(pj j hj).1, ?_,fun j hj=> ?_⟩
 .rw [ev] at nd;unfold List.Nodup at nd⊢;rw [CZ] at nd⊢;refine List.Pairwise.imp_of_mem (fun{a b} ha hb hne e=>hne ?_) nd;obtain⟨la,p,g,ea⟩:=pj a ha;obtain⟨lb,p',g',eb⟩:=pj b hb;have:=en.dis p p' (kk a) _ _ _ _ ea eb (hkey a la) (by rw [e];exact hkey b lb);subst this;rw [ea] at eb;simp only [Aw,Bg] at eb;exact eb.2
 .obtain⟨p,j',hj',ek,e⟩:=mk.all j hj;have:=(vmem _).mpr ⟨p,_,e⟩;rw [ev] at this;obtain⟨i,hi,ei⟩:=AY.mp this;simp only [Bo] at ei;have q1:=hkey i (pj i hi).1;rw [ei] at q1;have:=q1.inj (hkey j' hj');rw [<-ek,<-this];exact Ct hi
end
end L2
namespace L2
open PySem PySem.Spec PyProof.Rows PySem.W
section
variable {prog:Program}{w:World}{A:Around}{E:Value->Shared->Prop}{s:Shared}
theorem oj_ {d:Addr}{o:Obj}{es:Array DictEntry}{ep:Nat}{Q:Value->Shared->Prop} (hd:(d==sysModules)=false) (ho:s.heap.get? d=some o) (hc:o.ExactDict) (hdat:o.data= .dict es ep)
  (hQ:Q (.ref s.heap.objs.size) {s with heap:=s.heap.push {cls:= .type "dict_keyiterator",data:= .fields #[.ref d, .int 0 0, .int es.size 0, .int ep 0]}}):
  wpAny (model prog w) A (pyIter (.ref d)) Q E s:=by
 have hT:s.TypeIs (.ref d) "dict":=⟨o,ho,hc.1⟩;refine wpAny_pyIter_slot hT PySem.F.slot_dict_iter (At PySem.F.slot_dict_iter hT PySem.F.entry_dict_iter ?_ (PySem.F.args_dict_iter_1 _));unfold Builtin.«dict.__iter__»;refine A0 ?_;unfold Builtin.Dict.dictSlotNone;refine A0 (wpAny_notOrdered_dict hT ?_);show wpAny _ _ (pure (Value.ref d)) _ _ s;refine A4 ?_;show wpAny _ _ (Builtin.Dict.showsAll d>>=_) _ _ s;unfold Builtin.Dict.showsAll;rw [A6 (by rw [hd];exact AU)];refine A0 (A4 ?_);refine A0 (CD ho hdat ?_);refine A0 (Cd ho hdat ?_);refine A0 (As (A4 ⟨_,rfl,"dict_keyiterator",_,⟨_,AI _ rfl,rfl⟩,BL.lookup, ?_⟩));simpa [rawInt] using hQ
theorem ok_ {it d:Addr}{o:Obj}{es:Array DictEntry}{i ep:Nat}{e:DictEntry}{Q:Option Value->Shared->Prop} (hit:s.heap.IsKeyIter it d i es.size ep) (hod:s.heap.get? d=some o) (hdd:o.data= .dict es ep) (he:es[i]? =some e)
  (hQ:∀h',h'.IsKeyIter it d (i+1) es.size ep->Heap.SameBut it s.heap h'->Q (some e.key) {s with heap:=h'}):wpAny (model prog w) A (pyNext (.ref it)) Q E s:=by
 obtain⟨oi,ho,hc,hd⟩:=id hit;have hlt:i<es.size:=(Bp.mp he).1;unfold pyNext;refine A0 (CW (BG (name:=Str.ofString "__next__") hit.typeIs BL (At BL hit.typeIs PySem.F.entry_dict_keyiterator_next ?_ (PySem.F.args_dict_keyiterator_next_1 _))));refine A0 (A4 ?_);refine A0 ?_;refine A0 ?_;first|refine A0 (C0 hit.typeIs (A4 ?_));skip|refine A0 (CV hit.typeIs (A4 ?_));skip
 refine A0 (Ck ho hd ?_);have hown:Builtin.Dict_items.ownsTuple "dict_keyiterator"=false:=by decide
 simp only [hown,AM,Av];show wpAny _ _ (if(Value.ref d==Value.none)=true then _ else _) _ _ s;rw [A6 (show¬((Value.ref d==Value.none)=true) from AU)];refine A0 (A4 ?_);refine A0 (CD hod hdd ?_);rw [A6 (by simp)];refine A0 (A4 ?_);refine A0 (Cd hod hdd ?_);rw [A6 (by simp)];refine A4 ?_;simp only [show¬((i:Int)<0) from by lia,Av,AV,he];refine A0 ?_;first|refine A0 (C0 hit.typeIs (A4 ?_));skip|refine A0 (CV hit.typeIs (A4 ?_));skip
 refine A0 (wpAny_isOneOf_keyiter hit.typeIs ?_);show wpAny _ _ (setField (.ref it) 1 (rawInt ((i:Int)+1))>>=_) _ _ s;refine A0 (CH ho hd (by simp) ?_);have st':(s.heap.update it (Obj.mapFields (·.setIfInBounds 1 (rawInt ((i:Int)+1))))).IsKeyIter it d (i+1) es.size ep:=⟨_,CC _ ho (Obj.isFreed_of_fields (C3 hd _)),(Obj.cls_mapFields ..).trans hc,by rw [C3 hd];simp [rawInt]⟩;refine A0 (B0 ?_);refine A0 (wpAny_isOneOf_keyiter (s:={s with heap:=s.heap.update it (Obj.mapFields (·.setIfInBounds 1 (rawInt ((i:Int)+1))))}) st'.typeIs ?_);show wpAny _ _ (pure e.key) _ _ _;exact A4 (A4 ⟨_,rfl,A4 (hQ _ st' (B7 ..))⟩)
theorem qA_ {it d:Addr}{o:Obj}{es:Array DictEntry}{i ep:Nat}{Q:Option Value->Shared->Prop} (hh:A.handled=none) (hit:s.heap.IsKeyIter it d i es.size ep) (hod:s.heap.get? d=some o) (hdd:o.data= .dict es ep) (he:es.size<=i)
  (hQ:∀h',Heap.ExtBut it s.heap h'->Q none {s with heap:=h'}):wpAny (model prog w) A (pyNext (.ref it)) Q E s:=by
 obtain⟨oi,ho,hc,hd⟩:=id hit;unfold pyNext;refine A0 (CW (BG (name:=Str.ofString "__next__") hit.typeIs BL (At BL hit.typeIs PySem.F.entry_dict_keyiterator_next ?_ (PySem.F.args_dict_keyiterator_next_1 _))));refine A0 (A4 ?_);refine A0 ?_;refine A0 ?_;first|refine A0 (C0 hit.typeIs (A4 ?_));skip|refine A0 (CV hit.typeIs (A4 ?_));skip
 refine A0 (Ck ho hd ?_);have hown:Builtin.Dict_items.ownsTuple "dict_keyiterator"=false:=by decide
 simp only [hown,AM,Av];show wpAny _ _ (if(Value.ref d==Value.none)=true then _ else _) _ _ s;rw [A6 (show¬((Value.ref d==Value.none)=true) from AU)];refine A0 (A4 ?_);refine A0 (CD hod hdd ?_);rw [A6 (by simp)];refine A0 (A4 ?_);refine A0 (Cd hod hdd ?_);rw [A6 (by simp)];refine A4 ?_;simp only [show¬((i:Int)<0) from by lia,Av,AV,BV he];refine A0 ?_;first|refine A0 (C0 hit.typeIs (A4 ?_));skip|refine A0 (CV hit.typeIs (A4 ?_));skip
 show wpAny _ _ (setField (.ref it) 0 .none>>=_) _ _ s;refine A0 (CH ho hd (by simp) ?_);show wpAny _ _ (newExc (.type "StopIteration") []>>=_) _ _ _;refine A0 ?_;simp only [newExc,newTuple];refine A0 (As ?_ (by size_fits));refine A0 (m:=firstArgMember _ _) (wpAny_of_eq (a:=Value.none) (by first|rfl|(simp only [firstArgMember];rfl)) ?_);refine As ?_ (by size_fits);simp only [raiseNew];refine A0 (wpAny_handled ?_);rw [show A.in1.handled=none from hh];refine A0 (A4 (wpAny_throw ?_));refine A0 (wpAny_isInstance (T:="StopIteration") (b:=true) ⟨_,AI _ rfl,rfl⟩ isSubtype_stop ?_);exact A4 (hQ _ (((B7 ..).extBut.push _).push _))
end
section
variable {prog:Program}{w:World}{A:Around}{E:Value->Shared->Prop}{s:Shared}
theorem qy_ {d:Addr}{o:Obj}{Q:Value->Shared->Prop} (hd:(d==sysModules)=false) (ho:s.heap.get? d=some o) (hc:o.ExactDict)
  (hQ:Q (.ref s.heap.objs.size) {s with heap:=s.heap.push {cls:= .type "dict_values",data:= .fields #[.ref d]}}):wpAny (model prog w) A (call (.builtin "dict.values") [.ref d]) Q E s:=by
 have hT:s.TypeIs (.ref d) "dict":=⟨o,ho,hc.1⟩;refine At PySem.F.slot_dict_values hT PySem.F.entry_dict_values ?_ (PySem.F.args_dict_values_1 _);refine A0 ?_;unfold Builtin.Dict.noArgs;refine A0 (wpAny_notOrdered_dict hT ?_);show wpAny _ _ (pure d) _ _ s;refine A4 ?_;show wpAny _ _ (Builtin.Dict.showsAll d>>=_) _ _ s;unfold Builtin.Dict.showsAll;rw [A6 (by rw [hd];exact AU)];refine A0 (A4 ?_);exact A0 (As (A4 ⟨_,rfl,hQ⟩))
theorem qw_ {v d:Addr}{o:Obj}{es:Array DictEntry}{ep:Nat}{Q:Value->Shared->Prop} (hv:s.heap.IsValuesView v d) (ho:s.heap.get? d=some o) (hdat:o.data= .dict es ep)
  (hQ:Q (.ref s.heap.objs.size) {s with heap:=s.heap.push {cls:= .type "dict_valueiterator",data:= .fields #[.ref d, .int 0 0, .int es.size 0, .int ep 0]}}):
  wpAny (model prog w) A (pyIter (.ref v)) Q E s:=by
 obtain⟨ov,hov,hcv,hdv⟩:=id hv;refine wpAny_pyIter_slot hv.typeIs PySem.F.slot_dict_values_iter (At PySem.F.slot_dict_values_iter hv.typeIs PySem.F.entry_dict_values_iter ?_ (PySem.F.args_dict_values_iter_1 _));unfold Builtin.«dict_values.__iter__»;refine A0 (A4 ?_);refine A0 ?_;unfold Builtin.Dict_items.dictOf;refine A0 (wpAny_field hov hdv (x:= .ref d) rfl (A4 ?_));refine A0 ?_;unfold Builtin.Dict_items.newIterator;refine A0 (CD ho hdat ?_);refine A0 (Cd ho hdat ?_);have hown:Builtin.Dict_items.ownsTuple "dict_valueiterator"=false:=by decide
 simp only [hown,AM,Av];refine As (A4 ⟨_,rfl,"dict_valueiterator",_,⟨_,AI _ rfl,rfl⟩,BI.lookup, ?_⟩);simpa [rawInt] using hQ
theorem qx_ {it d:Addr}{o:Obj}{es:Array DictEntry}{i ep:Nat}{e:DictEntry}{Q:Option Value->Shared->Prop} (hit:s.heap.IsValIter it d i es.size ep) (hod:s.heap.get? d=some o) (hdd:o.data= .dict es ep) (he:es[i]? =some e)
  (hQ:∀h',h'.IsValIter it d (i+1) es.size ep->Heap.SameBut it s.heap h'->Q (some e.val) {s with heap:=h'}):wpAny (model prog w) A (pyNext (.ref it)) Q E s:=by
 obtain⟨oi,ho,hc,hd⟩:=id hit;have hlt:i<es.size:=(Bp.mp he).1;unfold pyNext;refine A0 (CW (BG (name:=Str.ofString "__next__") hit.typeIs BI (At BI hit.typeIs PySem.F.entry_dict_valueiterator_next ?_ (PySem.F.args_dict_valueiterator_next_1 _))));refine A0 (A4 ?_);refine A0 ?_;refine A0 ?_;first|refine A0 (Bz hit.typeIs (A4 ?_));skip|refine A0 (CU hit.typeIs (A4 ?_));skip
 refine A0 (Ck ho hd ?_);have hown:Builtin.Dict_items.ownsTuple "dict_valueiterator"=false:=by decide
 simp only [hown,AM,Av];show wpAny _ _ (if(Value.ref d==Value.none)=true then _ else _) _ _ s;rw [A6 (show¬((Value.ref d==Value.none)=true) from AU)];refine A0 (A4 ?_);refine A0 (CD hod hdd ?_);rw [A6 (by simp)];refine A0 (A4 ?_);refine A0 (Cd hod hdd ?_);rw [A6 (by simp)];refine A4 ?_;simp only [show¬((i:Int)<0) from by lia,Av,AV,he];refine A0 ?_;first|refine A0 (Bz hit.typeIs (A4 ?_));skip|refine A0 (CU hit.typeIs (A4 ?_));skip
 refine A0 (wpAny_isOneOf_valiter hit.typeIs ?_);show wpAny _ _ (setField (.ref it) 1 (rawInt ((i:Int)+1))>>=_) _ _ s;refine A0 (CH ho hd (by simp) ?_);have st':(s.heap.update it (Obj.mapFields (·.setIfInBounds 1 (rawInt ((i:Int)+1))))).IsValIter it d (i+1) es.size ep:=⟨_,CC _ ho (Obj.isFreed_of_fields (C3 hd _)),(Obj.cls_mapFields ..).trans hc,by rw [C3 hd];simp [rawInt]⟩;refine A0 (B0 ?_);refine A0 (wpAny_isOneOf_valiter (s:={s with heap:=s.heap.update it (Obj.mapFields (·.setIfInBounds 1 (rawInt ((i:Int)+1))))}) st'.typeIs ?_);refine A0 (wpAny_isOneOf_valiter (s:={s with heap:=s.heap.update it (Obj.mapFields (·.setIfInBounds 1 (rawInt ((i:Int)+1))))}) st'.typeIs ?_);show wpAny _ _ (pure e.val) _ _ _;exact A4 (A4 ⟨_,rfl,A4 (hQ _ st' (B7 ..))⟩)
theorem sn_ {it d:Addr}{o:Obj}{es:Array DictEntry}{i ep:Nat}{Q:Option Value->Shared->Prop} (hh:A.handled=none) (hit:s.heap.IsValIter it d i es.size ep) (hod:s.heap.get? d=some o) (hdd:o.data= .dict es ep) (he:es.size<=i)
  (hQ:∀h',Heap.ExtBut it s.heap h'->Q none {s with heap:=h'}):wpAny (model prog w) A (pyNext (.ref it)) Q E s:=by
 obtain⟨oi,ho,hc,hd⟩:=id hit;unfold pyNext;refine A0 (CW (BG (name:=Str.ofString "__next__") hit.typeIs BI (At BI hit.typeIs PySem.F.entry_dict_valueiterator_next ?_ (PySem.F.args_dict_valueiterator_next_1 _))));refine A0 (A4 ?_);refine A0 ?_;refine A0 ?_;first|refine A0 (Bz hit.typeIs (A4 ?_));skip|refine A0 (CU hit.typeIs (A4 ?_));skip
 refine A0 (Ck ho hd ?_);have hown:Builtin.Dict_items.ownsTuple "dict_valueiterator"=false:=by decide
 simp only [hown,AM,Av];show wpAny _ _ (if(Value.ref d==Value.none)=true then _ else _) _ _ s;rw [A6 (show¬((Value.ref d==Value.none)=true) from AU)];refine A0 (A4 ?_);refine A0 (CD hod hdd ?_);rw [A6 (by simp)];refine A0 (A4 ?_);refine A0 (Cd hod hdd ?_);rw [A6 (by simp)];refine A4 ?_;simp only [show¬((i:Int)<0) from by lia,Av,AV,BV he];refine A0 ?_;first|refine A0 (Bz hit.typeIs (A4 ?_));skip|refine A0 (CU hit.typeIs (A4 ?_));skip
 show wpAny _ _ (setField (.ref it) 0 .none>>=_) _ _ s;refine A0 (CH ho hd (by simp) ?_);show wpAny _ _ (newExc (.type "StopIteration") []>>=_) _ _ _;refine A0 ?_;simp only [newExc,newTuple];refine A0 (As ?_ (by size_fits));refine A0 (m:=firstArgMember _ _) (wpAny_of_eq (a:=Value.none) (by first|rfl|(simp only [firstArgMember];rfl)) ?_);refine As ?_ (by size_fits);simp only [raiseNew];refine A0 (wpAny_handled ?_);rw [show A.in1.handled=none from hh];refine A0 (A4 (wpAny_throw ?_));refine A0 (wpAny_isInstance (T:="StopIteration") (b:=true) ⟨_,AI _ rfl,rfl⟩ isSubtype_stop ?_);exact A4 (hQ _ (((B7 ..).extBut.push _).push _))
theorem lc_ (hh:A.handled=none) (I d:Addr) (hne:d≠I) {o:Obj}{es:Array DictEntry}{ep:Nat} (hdat:o.data= .dict es ep):
  Walks prog w A I [I,d] [I] es.size (fun i v=>∃e,es[i]? =some e/\v=e.val) (fun i h=>h.IsValIter I d i es.size ep/\h.get? d=some o) where
 sub:=fun b hb=>by simp at hb;simp [hb]
 frame:=fun _ _ _ st hk=>⟨st.1.at fun o e=>hk I (by simp) o e,hk d (by simp) _ st.2⟩
 item:=fun i s Q E hi st hQ=>qx_ st.1 st.2 hdat (Ai hi) fun h' hit' hs'=>hQ _ h' s.toks ⟨_,Ai hi,rfl⟩ ⟨hit',hs'.extBut d _ hne st.2⟩ fun b o hb e=>hs'.extBut b o (fun h=>hb (by simp [h])) e
 done:=fun s Q E st hQ=>sn_ hh st.1 st.2 hdat (A7 _) fun h' he'=>hQ h' s.toks fun b o hb e=>he' b o (fun h=>hb (by simp [h])) e
 self:=fun _ _ _ _ st hQ=>wpAny_pyIter_valiter st.1 hQ
theorem lP_ (ns:List Int):∀k,k<=ns.length->preSum (fun i=>ns.getD i 0) k=(ns.take k).sum
 |0,_=>by simp [preSum]
 |k+1,h=>by
  have hk:k<ns.length:=by lia
  have g:ns.getD k 0=ns[k]:=by simp [List.getD,hk]
  rw [preSum,lP_ ns k (by lia),AF,A2 hk,CM];show _+ns.getD k 0=_+[ns[k]].sum;rw [g];simp
end
theorem d5_ {α β:Type}{R:α->β->Prop}:∀{xs:List α}{ys:List β}{i:Nat}{x:α},Paired R xs ys->xs[i]? =some x->∃y,ys[i]? =some y/\R x y
 |_,_,i,x, .nil,h=>by simp at h
 |_,_,0,x, .cons r _,h=>by simp at h;subst h;exact⟨_,rfl,r⟩
 |_,_,i+1,x, .cons _ t,h=>by simp at h;obtain⟨y,e,r⟩:=d5_ t h;exact⟨y,by simpa using e,r⟩
def Itk (d:Addr) (o:Obj) (kvs:List (List Key×V)):It:=
 ⟨fun i H=>H d=some (.frz o (.dT kvs))/\i<kvs.length,fun i H x H'=>H'=H/\∃b k v,x= .ref b/\kvs[i]? =some (k,v)/\H b=some (.tup (k.map kV)),fun i H=>H d=some (.frz o (.dT kvs))/\kvs.length<=i⟩
def tJ_ (td:TE):TI:=fun σ H R=>td σ H fun x H1=>∃(d:Addr) (kvs:List (List Key×V)),x= .ref d/\Rd H1 d (.dT kvs)/\∀(o:Obj) (H2:Hp),H2 d=some (.frz o (.dT kvs))->(∀b,b≠d->H2 b=H1 b)->R (Itk d o kvs) H2
theorem li_ {P:Program}{w:World}{K:W.Frag}{tg:Expr} (d it:Addr) (o:Obj) (kvs:List (List Key×V)) (ep:Nat) (hep:∀es' ep',o.data= .dict es' ep'->ep'=ep):Turn P w K tg (Itk d o kvs) [it] it (fun i h=>h.IsKeyIter it d i kvs.length ep) where
 mem:=by simp
 obj:=fun i h st b hb=>by
  have e:b=it:=by simpa using hb
  subst e;obtain⟨o,e,c,d⟩:=st;exact⟨o,e,fun v z=>by rw [d] at z;cases z⟩
 keep:=fun i h h' st k=>st.at fun o e=>k it (by simp) o e
 item:=by
  intro X hP hw hK hc i pins s σ H E I hf st hg;subst hP hw hK;obtain⟨hq,hi⟩:=hg;obtain⟨ho,z,y,xs,rel,o',es,ep',h1,h2,h3,h4,h5⟩:=(show aS_ X.prog X.w H s.heap d (.frz o (.dT kvs)) from I.hok d _ hq);obtain rfl:o=o':=An (ho.symm.trans h1);obtain rfl:ep'=ep:=hep _ _ h3;have hx:kvs[i]? =some kvs[i]:=A2 hi;obtain⟨q,hq1,e1,e2,e3⟩:=d5_ rel hx;have hsz:es.size=kvs.length:=by rw [<-Ar,h4,A1,<-Bt rel]
  have he:es[i]? =some (entryOfKey (tupleKind (a2_ X.prog X.w)) q):=by rw [<-Bq,h4,A5,hq1];rfl
  obtain⟨f0,f1,f2,f3,f4,f5⟩:=hf it (by simp);rw [<-hsz] at st;refine ok_ st ho h3 he fun h' st' sb=> ?_;have I1:Inv X pins σ H {s with heap:=h'}:=I.turned (t':=s.toks) (fun b o hb e=>(sb.2 b hb).trans e) f0 f1 f3 f4 f5;obtain⟨oo,e,c,d'⟩:=id st';rw [hsz] at st';exact⟨_,rfl,go_of (s:={s with heap:=h'}) e c d' (by decide) ⟨.ref q.2.1,H,I1,rfl,⟨rfl,q.2.1,kvs[i].1,kvs[i].2,rfl,hx,e2⟩,st',fun b hb=>(hf b hb).1⟩⟩
 done:=by
  intro X hP hw hK hc i pins s σ H E I hf st hg;subst hP hw hK;obtain⟨hq,hi⟩:=hg;obtain⟨ho,z,y,xs,rel,o',es,ep',h1,h2,h3,h4,h5⟩:=(show aS_ X.prog X.w H s.heap d (.frz o (.dT kvs)) from I.hok d _ hq);obtain rfl:o=o':=An (ho.symm.trans h1);obtain rfl:ep'=ep:=hep _ _ h3;have hsz:es.size=kvs.length:=by rw [<-Ar,h4,A1,<-Bt rel]
  obtain⟨f0,f1,f2,f3,f4,f5⟩:=hf it (by simp);rw [<-hsz] at st;exact qA_ (I.ok.hd hc) st ho h3 (by lia) fun h' eb=>⟨rfl,I.turned (t':=s.toks) (fun b o hb e=>eb b o hb e) f0 f1 f3 f4 f5⟩
 self:=fun _ _ _ _ _ st h=>wpAny_pyIter_keyiter st h
section
variable {X:Cx}{tg:Expr}
theorem qz_ {P:Program}{w:World}{H H':Hp}{h:Heap}{d:Addr}{kvs:List (List Key×V)} (q:aS_ P w H h d (.dT kvs)) (k:∀b ys,H b=some (.tup ys)->H' b=some (.tup ys)):aS_ P w H' h d (.dT kvs):=by
 obtain⟨z,y,xs,rel,r⟩:=q;exact⟨z,y,xs,KT.keeps rel fun c ys ec=>k c ys ec,r⟩
theorem pP_ {l:Expr}{tl:TE} (hl:PE X l tl):PI X tg l (tJ_ tl):=by
 intro pins s σ H R I h;refine thn (hl pins s σ H _ I h) fun v s1 ⟨x,H1,I1,r1,q1⟩=> ?_;obtain⟨d,kvs,rfl,hq,q⟩:=q1;cases r1;have hob:aS_ X.prog X.w H1 s1.heap d (.dT kvs):=nD_ I1.hok hq;obtain⟨z,y,xs,rel,o,es,ep,h1,h2,h3,h4,h5⟩:=id hob;have hsz:es.size=kvs.length:=by rw [<-Ar,h4,A1,<-Bt rel]
 obtain⟨H2,I2,e2,k2⟩:∃H2,Inv X pins σ H2 s1/\H2 d=some (.frz o (.dT kvs))/\∀b,b≠d->H2 b=H1 b:=by
  rcases hq with hq|⟨o',hq⟩
  .exact⟨_,hh_ (t':=s1.toks) I1 (by rw [hq];exact True.intro) (Heap.SameBut.refl _ _) ⟨o,h1⟩ (show aS_ X.prog X.w (upd H1 d (.frz o (.dT kvs))) s1.heap d (.frz o (.dT kvs)) from⟨h1,qz_ hob fun b ys e=>by rw [ar_ (nT_ e hq (fun z=>nomatch z))];exact e⟩),ad_,fun b hb=>ar_ hb⟩
  .obtain⟨ho',_⟩:=(show aS_ X.prog X.w H1 s1.heap d (.frz o' (.dT kvs)) from I1.hok d _ hq);obtain rfl:o'=o:=An (ho'.symm.trans h1);exact⟨H1,I1,hq,fun _ _=>rfl⟩
 refine oj_ y h1 h2 h3 ?_;rw [hsz];refine⟨s1.heap.objs.size,[s1.heap.objs.size],_,_,_,rfl,I2.kept (t':=s1.toks) fun b o e=>AB _ e,li_ d _ o kvs ep (fun es' ep' e=>by rw [h3] at e;cases e;rfl),⟨_,AI _ rfl,rfl,rfl⟩,fun b hb=> ?_,q o H2 e2 k2⟩;have e:b=s1.heap.objs.size:=by simpa using hb
 subst e;exact I2.fpOk (A7 _) (I2.hok.fresh (A7 _))
theorem og_ {d:Addr}{o:Obj}{kvs:List (List Key×V)}{g:TG}{tb:TS}{D:Ends}{σ:St}{H:Hp} (Pv:Nat->St->Hp->Prop) (h0:Pv 0 σ H) (hl:∀i σ H,i<=kvs.length->Pv i σ H->H d=some (.frz o (.dT kvs)))
  (hs:∀i k v b σ H,kvs[i]? =some (k,v)->Pv i σ H->H b=some (.tup (k.map kV))->g (.ref b) σ H fun σ2 H2=>tb {D with nx:=Pv (i+1),ct:=Pv (i+1),bk:=D.nx} σ2 H2) (hd:∀σ H,Pv kvs.length σ H->D.nx σ H):
  ∃Wq:Nat->Nat->St->Hp->Prop,(∃m,Wq 0 m σ H)/\∀i m σ H,Wq i m σ H->
   ((Itk d o kvs).stop i H/\D.nx σ H)\/((Itk d o kvs).go i H/\∃N:St->Hp->Prop,(∀σ' H',N σ' H'->∃m',m'<m/\Wq (i+1) m' σ' H')/\∀x H',(Itk d o kvs).yld i H x H'->g x σ H' fun σ2 H2=>tb {D with nx:=N,ct:=N,bk:=D.nx} σ2 H2):=by
 refine⟨fun i m σ H=>m=kvs.length-i/\i<=kvs.length/\Pv i σ H,⟨kvs.length,by simp,AS _,h0⟩, ?_⟩;rintro i m σ H ⟨rfl,hi,p⟩;have q:=hl i σ H hi p;by_cases hlt:i<kvs.length
 .refine .inr ⟨⟨q,hlt⟩,Pv (i+1),fun σ' H' p'=>⟨kvs.length-(i+1),by lia,rfl,hlt,p'⟩, ?_⟩;rintro x H' ⟨rfl,b,k,v,rfl,e,hb⟩;exact hs i k v b σ _ e p hb
 .obtain rfl:i=kvs.length:=by lia
  exact .inl ⟨⟨q,A7 _⟩,hd σ H p⟩
def rb_ (tk tv:TE):TE:=fun σ H Q=>∀p,H p=none->tk σ (upd H p (.dT [])) fun x H1=>tv σ H1 fun y H2=>H2 p=some (.dT [])/\∃k b,x= .ref b/\H2 b=some (.tup (k.map kV))/\Q (.ref p) (upd H2 p (.dT (hG_ [] k y)))
theorem nI_ {ek ev:Expr}{tk tv:TE}{pos:Pos} (hu:X.A.units+1<cLine) (hk:PE X ek tk) (hv:PE X ev tv):PE X (.Dict [some ek] [ev] pos) (rb_ tk tv):=by
 intro pins s σ H Q I q;have hn:=I.hok.fresh (A7 s.heap.objs.size);have I1:=I.laid (a:=s.heap.objs.size) (o:= .dT []) (h':=s.heap.push {cls:= .type "dict",data:= .dict #[]}) (t':=s.toks) (fun _ _ q=>AB _ q) (A7 _) (ko_ s.heap I.big);rw [arm_eval_Dict,zip_pairTrees [some ek] [ev] X.env pos rfl rfl,dictDisplay_pairs (pairTrees [some ek] [ev] X.env pos) (by intro z;cases z) (show 1<17 by decide)];refine A0 (wpAny_standAt (A0 ?_));unfold subDict;refine A0 (wpAny_alloc ?_);refine A0 (B0 ?_);rw [A8 (show(pairTrees [some ek] [ev] X.env pos).length<=15 from(by decide:1<=15))];refine A0 (pairTrees_cons_walk (thn (hk pins _ σ _ _ I1 (q _ hn)) fun u s1 ⟨x,H1,I2,rx,q1⟩=>thn (hv pins s1 σ H1 _ I2 q1) fun w2 s2 ⟨y,H2,I3,ry,e,k,b,ex,eb,q2⟩=>pairTrees_nil_walk ?_));subst ex;cases (show u=Value.ref b from rx);obtain⟨z,hd,xs,rel,dd⟩:=so_ I3.hok e;cases rel;refine wpAny_holding (wpAny_bind ?_);rw [List.forIn_cons];dsimp only;refine A0 (A0 (wpAny_dictSet_heap (knd:=tupleKind (a2_ X.prog X.w)) (show X.A.units<cLine by lia) (f4_ I3.hok eb) dd (fun h' dd' hs=>A4 ?_) (AS _)));dsimp only;rw [List.forIn_nil];refine wpAny_pure (wpAny_pure (wpAny_pure (wpAny_pure ?_)));obtain⟨o,es,ep,hq,h2,h3,h4,_,h5⟩:=dd';refine⟨.ref s.heap.objs.size,_,hh_ I3 (by rw [e];exact True.intro) hs ⟨o,hq⟩ (show aS_ X.prog X.w (upd H2 s.heap.objs.size (.dT (hG_ [] k y))) h' s.heap.objs.size (.dT (hG_ [] k y)) from⟨(by show 1<=sizeLine;decide),hd,_,KT.keeps (KT.put .nil k eb ry) fun c ys ec=> ?_,o,es,ep,hq,h2,h3,h4,h5⟩),rfl,q2⟩;rw [ar_ (nT_ ec e (fun z=>nomatch z))];exact ec
def sU_ (td:TE):TE:=fun σ H Q=>td σ H fun x H1=>∃(d:Addr) (kvs:List (List Key×V)) (ns:List Int),x= .ref d/\Rd H1 d (.dT kvs)/\kvs.map (·.2)=ns.map V.int/\Q (.int ns.sum) H1
theorem pR_ {e:Expr}{td:TE}{p apos cpos pos:Pos} (hc:X.calm=true) (hg:Gl X "sum") (hm:X.mg "sum"=none) (he:PE X e td)
  (he2:starEach [Expr.Call (.Attribute e "values" apos) [] [] cpos] X.env=(false,eval (Expr.Call (.Attribute e "values" apos) [] [] cpos) X.env)::starEach [] X.env:=by rfl)
  (hbase:attributeBase e "values" X.env (eval e X.env)=eval e X.env:=by rfl) (hline:(apos.endLine==cpos.line)=true:=by rfl):
  PE X (.Call (.Name "sum" p) [.Call (.Attribute e "values" apos) [] [] cpos] [] pos) (sU_ td):=by
 intro pins s σ H Q I h;refine BQ (cL_ I hg hm (by first|exact boot_sum|rfl|ac_nf) ?_ (by decide) (by decide));refine Cg ?_ he2 (by rfl);rw [he2];show wpAny _ _ (spliced ((false,eval (Expr.Call (.Attribute e "values" apos) [] [] cpos) X.env)::backTo pos (starEach [] X.env))) _ _ s;refine Ce ?_;refine wpAny_Call_method0_late hbase hline (thn (he pins s σ H _ I h) fun v s1 ⟨x,H1,I1,r1,q1⟩=> ?_);obtain⟨d,kvs,ns,rfl,hrd,hns,q⟩:=q1;cases r1;obtain⟨hT,hdi,hsys⟩:=oZ_ I1 (.inr ⟨kvs,hrd⟩);obtain⟨z,y,xs,rel,o,es,ep,h1,h2,h3,h4,h5⟩:=(show aS_ X.prog X.w H1 s1.heap d (.dT kvs) from nD_ I1.hok hrd);refine⟨"dict","dict.values",PySem.F.plainAttrs_dict,PySem.F.slot_dict_values,PySem.F.type_dict_values,hT,hdi,Cq rfl (PySem.evalArgs_none (qy_ hsys h1 h2 (A4 ?_)))⟩;show wpAny _ _ (call (.builtin "sum") [.ref s1.heap.objs.size]) _ _ _;have h1':(s1.heap.push {cls:= .type "dict_values",data:= .fields #[.ref d]}).get? d=some o:=AB _ h1;have hdl:d<s1.heap.objs.size:=AG h1;have hsz:es.size=kvs.length:=by rw [<-Ar,h4,A1,<-Bt rel]
 have hnl:ns.length=kvs.length:=by have:=BR List.length hns;simpa using this.symm
 refine call_sum_walkAnyS (qw_ (s:={s1 with heap:=s1.heap.push {cls:= .type "dict_values",data:= .fields #[.ref d]}}) ⟨_,AI _ rfl,rfl,rfl⟩ h1' h3 ?_);refine⟨_,_,_,_,_,_,_,fun i=>ns.getD i 0,rfl,(lc_ (A:=X.A.in1) (I.ok.hd hc) (s1.heap.push {cls:= .type "dict_values",data:= .fields #[.ref d]}).objs.size d (by rw [BP];exact AK (Ae hdl)) h3).toS,⟨⟨_,AI _ rfl,rfl,rfl⟩,AB _ h1'⟩, ?_, ?_, ?_⟩
 .intro b hb;simp only [AO,B5,C6] at hb;rcases hb with rfl|rfl
  .show _<(Heap.push (s1.heap.push _) _).objs.size;rw [BP (s1.heap.push _)];exact Bb _
  .show _<(Heap.push (s1.heap.push _) _).objs.size;rw [BP,BP];exact Ae (Ae hdl)
 .rintro i v ⟨e,hei,rfl⟩;rw [<-Bq,h4,A5] at hei;obtain⟨q',hq',rfl⟩:=A3.mp hei;have hi:i<kvs.length:=by rw [Bt rel];exact(A'.mp hq').1
  obtain⟨q2,hq2,e1,e2,e3⟩:=d5_ rel (A2 hi);rw [hq'] at hq2;cases hq2;have:kvs[i].2=V.int (ns.getD i 0):=by
   have z1:(kvs.map (·.2))[i]? =some kvs[i].2:=by rw [A5,A2 hi];rfl
   rw [hns,A5,A2 (by lia)] at z1;simp only [Option.map_some,Aw] at z1;rw [<-z1,AE,A2 (by lia)];rfl
  rw [this] at e3;exact e3
 .intro s' t' hm';obtain⟨h',g',d',tk',os'⟩:=s';have eg:g'=s1.gens:=hm'.gens;have ed:d'=s1.drawn:=hm'.drawn;have eo:os'=s1.os:=hm'.os;subst eg;subst ed;subst eo;have es:preSum (fun i=>ns.getD i 0) es.size=ns.sum:=by rw [hsz,<-hnl,lP_ ns ns.length (A7 _),AR]
  rw [es];refine⟨.int ns.sum,H1,I1.kept fun b o e=>hm'.heap b o (fun hb=> ?_) (AB _ (AB _ e)),⟨t',rfl⟩,q⟩;simp only [AO,B5,C6] at hb;have:=AG e;rw [hb,BP] at this;exact absurd this (Nat.not_lt.mpr (Cn _))
end
end L2
namespace L2
open PySem PySem.Spec PyProof.Rows
section
variable {X:Cx}
theorem l2_:OpR X (binaryOp .Add) (fun x y H Q=>∃xs ys,Is H (.t xs) x/\Is H (.t ys) y/\xs.length+ys.length<=sizeLine/\∀v H2,al_ H H2->Is H2 (.t (xs++ys)) v->Q v H2):=by
 intro pins s σ H x y v u Q I rx ry h;obtain⟨xs,ys,hx,hy,hz,q⟩:=h;obtain⟨a,vs,rfl,ha,ra⟩:=l6_ hx;obtain⟨b,ws,rfl,hb,rb⟩:=l6_ hy;have l1:=ra.length;have l2:=rb.length;by_cases h1:vs=[]
 .subst h1;have hx0:xs=[]:=B6.mp (by rw [<-l1];rfl);subst hx0;cases rx;cases ry;obtain⟨its,r1,p1,_⟩:=I.tuple (SqT.of (K:=X.K) ha);obtain⟨its2,r2,p2,_⟩:=I.tuple (SqT.of (K:=X.K) hb);cases r1;obtain⟨⟨cls,dd,data,sl⟩,ho,hc,n,hd⟩:=p1;obtain⟨⟨cls2,dd2,data2,sl2⟩,ho2,hc2,n2,hd2⟩:=p2;simp only at hc hd hc2 hd2;subst hc hd hc2 hd2;exact concat_meets ⟨_,ho,rfl⟩ ⟨_,ho2,rfl⟩ noFill_tuple_add seq_tuple_add PySem.F.slot_tuple_add PySem.F.entry_tuple_add (PySem.F.args_tuple_add_2 _ _) (tuple_addW0 a b _ _ n n2 dd dd2 sl sl2 (by simp)) ⟨ho,ho2,⟨.ref b,H,I,rfl,q _ H (al_.refl H) hy⟩⟩
 .refine pW_ pins s σ H (.ref a) (.ref b) v u Q I rx ry ⟨a,b,vs,ws,rfl,rfl,SqT.of ha,SqT.of hb,h1,by lia,fun e=> ?_,fun _ p np=> ?_⟩
  .have:ys=[]:=B6.mp (by rw [<-l2,e];rfl);subst this;exact q _ H (al_.refl H) (by rw [BY];exact hx)
  .exact q _ _ (al_.new np) (ng_ ad_ ((ra.append rb).mono (al_.new np)))
theorem lx_:SlR X (fun x lo hi H Q=>∃xs xs',Is H (.t xs) x/\(∀(H':Hp) (vs:List V),Iss H' xs vs->Iss H' xs' (iA_ vs lo hi))/\(∀vs:List V,vs.length=xs.length->(HT.sIx vs.length 0 lo=0/\HT.sIx vs.length vs.length hi=vs.length)->xs'=xs)/\∀v H2,al_ H H2->Is H2 (.t xs') v->Q v H2):=by
 intro pins s σ H x v vl vu lo hi sl Q I rx hs pl pu h;obtain⟨xs,xs',hx,hc,hw,q⟩:=h;obtain⟨a,vs,rfl,ha,ra⟩:=l6_ hx;refine pG_ pins s σ H (.ref a) v vl vu lo hi sl Q I rx hs pl pu ⟨a,vs,rfl,SqT.of ha,fun e=> ?_,fun e p np=> ?_⟩
 .have:=hw vs ra.length e;subst this;exact q _ H (al_.refl H) hx
 .exact q _ _ (al_.new np) (ng_ ad_ ((hc _ _ ra).mono (al_.new np)))
end
def LTS (H H':Hp):Prop:=(∀b xs,H b=some (.lst xs)->H' b=some (.lst xs))/\∀b xs,H b=some (.tup xs)->H' b=some (.tup xs)
theorem LTS.dict {H:Hp}{d:Addr}{kvs:List (List Key×V)}{o:HO} (h:H d=some (.dT kvs)):LTS H (upd H d o):=
 ⟨fun b xs e=>by rw [ar_ (by rintro rfl;rw [h] at e;cases e)];exact e,fun b xs e=>by rw [ar_ (by rintro rfl;rw [h] at e;cases e)];exact e⟩
theorem LTS.rd {H H':Hp}{d:Addr}{kvs:List (List Key×V)} (h:Rd H d (.dT kvs)) (k:∀b,b≠d->H' b=H b):LTS H H':=by
 have nd:∀b o,H b=some o->(∀kvs,o≠ .dT kvs)->(∀ob u,o≠ .frz ob u)->b≠d:=by
  rintro b o e n1 n2 rfl;rcases h with h|⟨ob,h⟩
  .rw [h] at e;cases e;exact n1 _ rfl
  .rw [h] at e;cases e;exact n2 _ _ rfl
 exact⟨fun b xs e=>by rw [k b (nd b _ e (fun _ z=>nomatch z) fun _ _ z=>nomatch z)];exact e,fun b xs e=>by rw [k b (nd b _ e (fun _ z=>nomatch z) fun _ _ z=>nomatch z)];exact e⟩
mutual
theorem Is.lts {H H':Hp} (s:LTS H H'):∀{d:D}{v:V},Is H d v->Is H' d v
 | .i _,_,h=>by rw [dV_ h];exact n5_
 | .l xs,_,h=>by
  obtain⟨a,vs,e,q,r⟩:=b9_ h;rw [e];exact da_ (s.1 _ _ q) (Iss.lts s r)
 | .t xs,_,h=>by
  obtain⟨a,vs,e,q,r⟩:=l6_ h;rw [e];exact ng_ (s.2 _ _ q) (Iss.lts s r)
theorem Iss.lts {H H':Hp} (s:LTS H H'):∀{xs:List D}{vs:List V},Iss H xs vs->Iss H' xs vs
 |[],_,h=>by rw [b0_ h];exact an_
 |x::xs,_,h=>by
  obtain⟨u,us,e,q,r⟩:=aV_ h;rw [e];exact ap_ (Is.lts s q) (Iss.lts s r)
end
end L2
namespace L2
open PySem PyProof.Rows
def mN_:Bool->Keyed->Array Keyed->Nat->Nat->Nat->StateT SortSt Sem (Option Nat):=sortPriv%PySem.Builtin.gallop
def kL_:Array Keyed->Array Keyed->StateT SortSt Sem (Array Keyed):=sortPriv%PySem.Builtin.mergeLo
def b1_ {γ:Type} (step:γ->Option (Bool×γ)):Nat->γ->Option γ
 |0,g=>some g
 |f+1,g=>(step g).bind fun r=>if r.1=true then some r.2 else b1_ step f r.2
section
variable {M:Model}{A:Around}{E:Value->Shared->Prop}{s:Shared}{σ:Type}
theorem aA_ {β γ:Type}{step:γ->Option (Bool×γ)} (φ:γ->β) (τ:γ->σ) {f:Nat->β->StateT σ Sem (ForInStep β)}{Q:β->σ->Prop}
  (hs:∀x g r,step g=some r->∀R:ForInStep β->σ->Prop,R (if r.1=true then .done (φ r.2) else .yield (φ r.2)) (τ r.2)->wpS M A E s (f x (φ g)) R (τ g))
  {a b:Nat}{g g':γ} (h:b1_ step (b-a) g=some g') (hq:Q (φ g') (τ g')):wpS M A E s (forIn [a:b] (φ g) f) Q (τ g):=by
 rw [Std.Legacy.Range.forIn_eq_forIn_range'];have hsz:([a:b]:Std.Legacy.Range).size=b-a:=by simp [Std.Legacy.Range.size]
 show wpS M A E s (forIn (List.range' a ([a:b]:Std.Legacy.Range).size 1) (φ g) f) Q (τ g);rw [hsz];have go:∀(k:Nat) (l:List Nat) (g:γ),l.length=k->b1_ step k g=some g'->wpS M A E s (forIn l (φ g) f) Q (τ g):=by
  intro k;induction k with
  |zero=>
   intro l g hl h;cases l with
   |nil=>rw [List.forIn_nil];cases h;exact AZ hq
   |cons _ _=>simp at hl
  |succ k ih=>
   intro l g hl h;cases l with
   |nil=>simp at hl
   |cons x l=>
    rw [List.forIn_cons];unfold b1_ at h;obtain⟨r,hr,h⟩:=AC.mp h;refine AJ (hs x g r hr _ ?_);by_cases hd:r.1=true
    .rw [A8 hd] at h⊢;cases h;exact AZ hq
    .rw [A6 hd] at h⊢;exact ih l r.2 (by simpa using hl) h
 exact go _ _ g (by simp) h
end
section
variable {prog:Program}{w:World}{A:Around}{E:Value->Shared->Prop}{s:Shared}{item:Nat->Keyed}{c:Nat->Nat->Option Bool}{kd:SortKind}
def cO_ (kd:SortKind) (prog:Program) (w:World) (A:Around) (s:Shared) (item:Nat->Keyed) (c:Nat->Nat->Option Bool):Prop:=
 ∀i j b,c i j=some b->∀Q:Bool->Shared->Prop,Q b s->wpAny (model prog w) A (keyLt' kd (item i).1 (item j).1) Q (fun _ _=>False) s
theorem eR_ (hc:cO_ kd prog w A s item c) {st:SortSt} (hk:kindOf st=kd) {i j:Nat}{b:Bool} (h:c i j=some b) {Q:Option Bool->SortSt->Prop} (hq:Q (some b) st):wpS (model prog w) A E s (lt' (item i) (item j)) Q st:=by
 rw [lt'_eq];refine AJ (wpS_get ?_);rw [hk];refine AJ (wpS_lift (CW (BJ (hc i j b h _ ⟨rfl,AZ hq⟩) (fun _ _ h=>h) fun _ _ hF=>hF.elim)))
theorem bz_ {st:SortSt}{arr:Array Nat}{i x:Nat} (h:arr[i]? =some x) {Q:Keyed->SortSt->Prop} (hq:Q (item x) st):wpS (model prog w) A E s (elem' (arr.map item) i) Q st:=by
 rw [elem'_eq,Array.getElem?_map,h];exact AZ hq
def dR_ (c:Nat->Nat->Option Bool) (left:Bool) (key:Nat) (arr:Array Nat) (i:Nat):Option Bool:=arr[i]?.bind fun x=>if left=true then c x key else(c key x).map (!·)
def qp_ (b:Nat->Option Bool) (m:Nat) (g:Nat×Nat):Option (Bool×Nat×Nat):=if g.2>=m then some (true,g) else(b g.2).map fun y=>if y=true then(false,g.2,2*g.2+1) else(true,g)
def qr_ (b:Nat->Option Bool) (m:Nat) (g:Nat×Nat):Option (Bool×Nat×Nat):=if g.2>=m then some (true,g) else(b g.2).map fun y=>if y=true then(true,g) else(false,g.2,2*g.2+1)
def ie_ (b:Nat->Option Bool) (g:Nat×Nat):Option (Bool×Nat×Nat):=
 if g.1>=g.2 then some (true,g) else(b (g.1+(g.2-g.1)/2)).map fun y=>if y=true then(false,g.1+(g.2-g.1)/2+1,g.2) else(false,g.1,g.1+(g.2-g.1)/2)
def qo_ (c:Nat->Nat->Option Bool) (left:Bool) (key:Nat) (arr:Array Nat) (base n hint:Nat):Option Nat:=
 (dR_ c left key arr (base+hint)).bind fun right=>
  (if right=true then(b1_ (qp_ (fun o=>dR_ c left key arr (base+(hint+o))) (n-hint)) n (0,1)).map fun g=>(hint+g.1+1,hint+min g.2 (n-hint))
   else(b1_ (qr_ (fun o=>dR_ c left key arr (base+(hint-o))) (hint+1)) n (0,1)).map fun g=>(hint+1-min g.2 (hint+1),hint-g.1)).bind fun lh=>
   (b1_ (ie_ fun i=>dR_ c left key arr (base+i)) n lh).map (·.2)
theorem cb_ (hc:cO_ kd prog w A s item c) {st:SortSt} (hk:kindOf st=kd) {left:Bool}{key:Nat}{arr:Array Nat}{i:Nat}{b:Bool} (h:dR_ c left key arr i=some b) {Q:Option Bool->SortSt->Prop} (hq:Q (some b) st):
  wpS (model prog w) A E s (do
   let x<-elem' (arr.map item) i
   if left=true then lt' x (item key) else do
    let y<-lt' (item key) x
    pure (y.map (!·))) Q st:=by
 obtain⟨x,hx,h⟩:=AC.mp h;refine AJ (bz_ hx ?_);by_cases hl:left=true
 .rw [A8 hl] at h⊢;exact eR_ hc hk h hq
 .rw [A6 hl] at h⊢;obtain⟨y,hy,rfl⟩:=A3.mp h;exact AJ (eR_ hc hk hy (AZ hq))
theorem fT_ (hc:cO_ kd prog w A s item c) {st:SortSt} (hk:kindOf st=kd) {left:Bool}{key:Nat}{arr:Array Nat}{base n hint k:Nat} (h:qo_ c left key arr base n hint=some k) {Q:Option Nat->SortSt->Prop} (hq:Q (some k) st):
  wpS (model prog w) A E s (mN_ left (item key) (arr.map item) base n hint) Q st:=by
 (unfold wpS;wp_delta;wp_delta;wp_delta;refine(show wpS _ _ _ _ _ _ _ from ?_))
 dsimp only;obtain⟨right,hr,h⟩:=AC.mp h;obtain⟨lh,h1,h2⟩:=AC.mp h;obtain⟨lh2,h3,rfl⟩:=A3.mp h2;refine AJ (cb_ hc hk hr ?_);dsimp only;by_cases e:right=true
 .rw [A8 e] at h1⊢;obtain⟨g0,h0,rfl⟩:=A3.mp h1;refine AJ (aA_ (γ:=Nat×Nat) (step:=qp_ (fun o=>dR_ c left key arr (base+(hint+o))) (n-hint)) (fun g=>(none,g.1,g.2)) (fun _=>st) (fun x g r hs R hR=> ?_) (a:=0) (b:=n) (g:=(0,1)) (g':=g0) h0 ?_)
  .unfold qp_ at hs;dsimp only;by_cases e:g.2>=n-hint
   .rw [A8 e] at hs⊢;cases hs;exact AZ hR
   .rw [A6 e] at hs⊢;obtain⟨y,hy,rfl⟩:=A3.mp hs;refine AJ (cb_ hc hk hy ?_);cases y<;>exact AZ hR
  .dsimp only;refine AJ (aA_ (γ:=Nat×Nat) (step:=ie_ fun i=>dR_ c left key arr (base+i)) (fun g=>(none,g.1,g.2)) (fun _=>st) (fun x g r hs R hR=> ?_) (a:=0) (b:=n) (g:=(hint+g0.1+1,hint+min g0.2 (n-hint))) (g':=lh2) h3 (AZ hq));unfold ie_ at hs;dsimp only;by_cases e:g.1>=g.2
   .rw [A8 e] at hs⊢;cases hs;exact AZ hR
   .rw [A6 e] at hs⊢;obtain⟨y,hy,rfl⟩:=A3.mp hs;refine AJ (cb_ hc hk hy ?_);cases y<;>exact AZ hR
 .rw [A6 e] at h1⊢;obtain⟨g0,h0,rfl⟩:=A3.mp h1;refine AJ (aA_ (γ:=Nat×Nat) (step:=qr_ (fun o=>dR_ c left key arr (base+(hint-o))) (hint+1)) (fun g=>(none,g.1,g.2)) (fun _=>st) (fun x g r hs R hR=> ?_) (a:=0) (b:=n) (g:=(0,1)) (g':=g0) h0 ?_)
  .unfold qr_ at hs;dsimp only;by_cases e:g.2>=hint+1
   .rw [A8 e] at hs⊢;cases hs;exact AZ hR
   .rw [A6 e] at hs⊢;obtain⟨y,hy,rfl⟩:=A3.mp hs;refine AJ (cb_ hc hk hy ?_);cases y<;>exact AZ hR
  .dsimp only;refine AJ (aA_ (γ:=Nat×Nat) (step:=ie_ fun i=>dR_ c left key arr (base+i)) (fun g=>(none,g.1,g.2)) (fun _=>st) (fun x g r hs R hR=> ?_) (a:=0) (b:=n) (g:=(hint+1-min g0.2 (hint+1),hint-g0.1)) (g':=lh2) h3 (AZ hq));unfold ie_ at hs;dsimp only;by_cases e:g.1>=g.2
   .rw [A8 e] at hs⊢;cases hs;exact AZ hR
   .rw [A6 e] at hs⊢;obtain⟨y,hy,rfl⟩:=A3.mp hs;refine AJ (cb_ hc hk hy ?_);cases y<;>exact AZ hR
def gX_ (a b out:Array Nat) (ia ib:Nat):Array Nat:=out++a.extract ia a.size++b.extract ib b.size
def gW_ (a b out:Array Nat) (ia ib:Nat):Array Nat:=out++b.extract ib b.size++a.extract ia a.size
def p5_ (c:Nat->Nat->Option Bool) (a b:Array Nat) (sg:Nat):Option (Array Nat×Nat):=
 b[0]?.bind fun y=>
  if(1==b.size)=true then some (gX_ a b #[y] 0 1,sg)
  else if(0+1==a.size)=true then some (gW_ a b #[y] 0 1,sg)
  else none
abbrev s5_ (st:SortSt) (g:Nat):SortSt:=SortSt.mk' (kindOf st) (arrOf st) (pendingOf st) g (failedOf st)
theorem h0_ (a b out:Array Nat) (ia ib:Nat):(gX_ a b out ia ib).map item=out.map item++(a.map item).extract ia (a.map item).size++(b.map item).extract ib (b.map item).size:=by
 unfold gX_;simp
theorem hZ_ (a b out:Array Nat) (ia ib:Nat):(gW_ a b out ia ib).map item=out.map item++(b.map item).extract ib (b.map item).size++(a.map item).extract ia (a.map item).size:=by
 unfold gW_;simp
theorem cB_ {M:Model}{σ α:Type}{c:Prop} [Decidable c] {x y:StateT σ Sem α}{Q:α->σ->Prop}{st:σ} (hc:c) (h:wpS M A E s x Q st):wpS M A E s (if c then x else y) Q st:=by
 rw [A8 hc];exact h
theorem eO_ {M:Model}{σ α:Type}{c:Prop} [Decidable c] {x y:StateT σ Sem α}{Q:α->σ->Prop}{st:σ} (hc:¬c) (h:wpS M A E s y Q st):wpS M A E s (if c then x else y) Q st:=by
 rw [A6 hc];exact h
set_option maxHeartbeats 4000000 in
theorem kC_ (hc:cO_ kd prog w A s item c) {st:SortSt} (hk:kindOf st=kd) {a b out:Array Nat}{g:Nat} (h:p5_ c a b (gallopOf st)=some (out,g)) {Q:Array Keyed->SortSt->Prop} (hq:Q (out.map item) (s5_ st g)):
  wpS (model prog w) A E s (kL_ (a.map item) (b.map item)) Q st:=by
 obtain⟨κ,ar,pd,g0,fl⟩:=st
 (unfold wpS;wp_delta;wp_delta;wp_delta;refine(show wpS _ _ _ _ _ _ _ from ?_))
 refine AJ (wpS_lift (DA ⟨rfl, ?_⟩));unfold p5_ at h;obtain⟨y,hy,h⟩:=AC.mp h;refine AJ (bz_ hy ?_);by_cases e1:(1==b.size)=true
 .rw [A8 e1] at h;cases h;refine cB_ (by simpa using e1) (AZ ?_);rw [h0_] at hq;simpa using hq
 rw [A6 e1] at h;by_cases e2:(0+1==a.size)=true
 .rw [A8 e2] at h;cases h;refine eO_ (by simpa using e1) (cB_ (by simpa using e2) (AZ ?_));rw [hZ_] at hq;simpa using hq
 rw [A6 e2] at h;cases h
end
end L2
namespace L2
open PySem PyProof.Rows
section
variable {prog:Program}{w:World}{A:Around}{E:Value->Shared->Prop}{s:Shared}{item:Nat->Keyed}{c:Nat->Nat->Option Bool}{kd:SortKind}
def tB_ (c:Nat->Nat->Option Bool) (a b:Array Nat) (sg:Nat):Option (Array Nat×Nat):=none
end
end L2
namespace L2
open PySem PyProof.Rows
def fl_ {γ:Type} (step:Nat->γ->Option (Bool×γ)):Nat->Nat->γ->Option γ
 |0,_,g=>some g
 |f+1,i,g=>(step i g).bind fun r=>if r.1=true then some r.2 else fl_ step f (i+1) r.2
section
variable {M:Model}{A:Around}{E:Value->Shared->Prop}{s:Shared}{σ:Type}
theorem iB_ {β γ:Type}{step:Nat->γ->Option (Bool×γ)} (φ:γ->β) (τ:γ->σ) {f:Nat->β->StateT σ Sem (ForInStep β)}{Q:β->σ->Prop}
  (hs:∀x g r,step x g=some r->∀R:ForInStep β->σ->Prop,R (if r.1=true then .done (φ r.2) else .yield (φ r.2)) (τ r.2)->wpS M A E s (f x (φ g)) R (τ g))
  {a b:Nat}{g g':γ} (h:fl_ step (b-a) a g=some g') (hq:Q (φ g') (τ g')):wpS M A E s (forIn [a:b] (φ g) f) Q (τ g):=by
 rw [Std.Legacy.Range.forIn_eq_forIn_range'];have hsz:([a:b]:Std.Legacy.Range).size=b-a:=by simp [Std.Legacy.Range.size]
 show wpS M A E s (forIn (List.range' a ([a:b]:Std.Legacy.Range).size 1) (φ g) f) Q (τ g);rw [hsz];have go:∀(k i:Nat) (g:γ),fl_ step k i g=some g'->wpS M A E s (forIn (List.range' i k 1) (φ g) f) Q (τ g):=by
  intro k;induction k with
  |zero=>
   intro i g h;cases h;rw [List.range'_zero,List.forIn_nil];exact AZ hq
  |succ k ih=>
   intro i g h;rw [List.range'_succ,List.forIn_cons];unfold fl_ at h;obtain⟨r,hr,h⟩:=AC.mp h;refine AJ (hs i g r hr _ ?_);by_cases hd:r.1=true
   .rw [A8 hd] at h⊢;cases h;exact AZ hq
   .rw [A6 hd] at h⊢;exact ih (i+1) r.2 h
 exact go _ a g h
end
section
variable {prog:Program}{w:World}{A:Around}{E:Value->Shared->Prop}{s:Shared}{item:Nat->Keyed}{c:Nat->Nat->Option Bool}{kd:SortKind}{pd:Array (Nat×Nat×Nat)}{g:Nat}
abbrev bp_ (kd:SortKind) (item:Nat->Keyed) (p:Array Nat) (pd:Array (Nat×Nat×Nat)) (g:Nat):SortSt:=SortSt.mk' kd (p.map item) pd g none
def kZ_ (c:Nat->Nat->Option Bool) (p:Array Nat) (i j:Nat):Option Bool:=p[i]?.bind fun x=>p[j]?.bind fun y=>c x y
theorem a5_ (hc:cO_ kd prog w A s item c) {p:Array Nat}{i j:Nat}{b:Bool} (h:kZ_ c p i j=some b) {Q:Option Bool->SortSt->Prop} (hq:Q (some b) (bp_ kd item p pd g)):wpS (model prog w) A E s (ltAt' i j) Q (bp_ kd item p pd g):=by
 obtain⟨x,hx,h⟩:=AC.mp h;obtain⟨y,hy,h⟩:=AC.mp h;rw [ltAt'_eq];refine AJ (wpS_get ?_);dsimp only;exact AJ (bz_ hx (AJ (bz_ hy (eR_ hc rfl h hq))))
def iX_ (p:Array Nat) (i j:Nat):Array Nat:=mirror p i j ((j-i)/2)
theorem ba_ {p:Array Nat}{i j:Nat}{Q:Unit->SortSt->Prop} (h:Q () (bp_ kd item (iX_ p i j) pd g)):wpS (model prog w) A E s (reverseSlice' i j) Q (bp_ kd item p pd g):=by
 rw [reverseSlice'_eq];refine Cs ?_;have e1:mirror (p.map item) i j ((j-i)/2)=(iX_ p i j).map item:=W.kas_swaps_map item (fun k=>i+k) (fun k=>j-1-k) _ p;show Q () (SortSt.mk' kd (mirror (p.map item) i j ((j-i)/2)) pd g none);rw [e1];exact h
theorem iH_ {p:Array Nat}{k l:Nat}{Q:Unit->SortSt->Prop} (h:Q () (bp_ kd item (bubble p k (k-l)) pd g)):wpS (model prog w) A E s (moveDown' k l) Q (bp_ kd item p pd g):=by
 rw [moveDown'_eq];refine Cs ?_;have e1:bubble (p.map item) k (k-l)=(bubble p k (k-l)).map item:=W.kas_swaps_map item (fun i=>k-i) (fun i=>k-i-1) _ p;show Q () (SortSt.mk' kd (bubble (p.map item) k (k-l)) pd g none);rw [e1];exact h
def fz_ (c:Nat->Nat->Option Bool) (p:Array Nat) (l:Nat) (m:Nat):Option (Bool×Nat):=(kZ_ c p (l+m) (l+m-1)).map fun q=>if q=true then(true,m) else(false,m+1)
def fy_ (c:Nat->Nat->Option Bool) (l:Nat) (t:Array Nat×Nat×Nat):Option (Bool×Array Nat×Nat×Nat):=
 (kZ_ c t.1 (l+t.2.1) (l+t.2.1-1)).bind fun q=>
  if q=true then if t.2.2>0 then some (false,iX_ t.1 (l+t.2.1-(t.2.2+1)) (l+t.2.1),t.2.1+1,0) else some (false,t.1,t.2.1+1,0)
  else(kZ_ c t.1 (l+t.2.1-1) (l+t.2.1)).bind fun r=>if r=true then some (true,t.1,t.2.1,t.2.2) else some (false,t.1,t.2.1+1,t.2.2+1)
def hm_ (c:Nat->Nat->Option Bool) (l n:Nat) (p:Array Nat) (m:Nat):Option (Nat×Array Nat):=(b1_ (fz_ c (iX_ p l (l+m)) l) (n-m) m).map fun k=>(k,iX_ p l (l+m))
def hn_ (c:Nat->Nat->Option Bool) (l n:Nat) (p:Array Nat) (m:Nat):Option (Nat×Array Nat):=
 (b1_ (fy_ c l) (n-(m+1)) (p,m+1,0)).bind fun t=>if t.2.2>0 then hm_ c l n (iX_ t.1 (l+t.2.1-(t.2.2+1)) (l+t.2.1)) t.2.1 else hm_ c l n t.1 t.2.1
def m6_ (c:Nat->Nat->Option Bool) (l n:Nat) (p:Array Nat):Option (Nat×Array Nat):=
 (b1_ (fz_ c p l) (n-1) 1).bind fun m=>if(m==n)=true then some (m,p) else if m>1 then(kZ_ c p l (l+m-1)).bind fun q=>if q=true then some (m,p) else hn_ c l n (iX_ p l (l+m)) m else hn_ c l n p m
set_option maxHeartbeats 2000000 in
theorem kB_ (hc:cO_ kd prog w A s item c) {l n k:Nat}{p p':Array Nat} (h:m6_ c l n p=some (k,p')) {Q:Option Nat->SortSt->Prop} (hq:Q (some k) (bp_ kd item p' pd g)):wpS (model prog w) A E s (countRun' l n) Q (bp_ kd item p pd g):=by
 (unfold wpS;wp_delta;wp_delta;wp_delta;refine(show wpS _ _ _ _ _ _ _ from ?_))
 dsimp only;unfold m6_ at h;obtain⟨m,h0,h⟩:=AC.mp h;have hz:=h0
 (
  refine AJ (aA_ (γ:=Nat) (step:=fz_ c _ l) (fun m=>(none,m)) (fun _=>bp_ kd item _ pd g) (fun x m r hs R hR=> ?_) hz ?_)
  .obtain⟨q,hq1,rfl⟩:=A3.mp hs;refine AJ (a5_ hc hq1 ?_);cases q<;>exact AZ hR)
 dsimp only;by_cases e1:(m==n)=true
 .rw [A8 e1] at h⊢;cases h;exact AZ hq
 rw [A6 e1] at h⊢;by_cases e2:m>1
 .rw [A8 e2] at h⊢;obtain⟨q,hq1,h⟩:=AC.mp h;refine AJ (a5_ hc hq1 ?_);dsimp only;by_cases e3:q=true
  .rw [A8 e3] at h⊢;cases h;exact AZ hq
  rw [A6 e3] at h⊢;refine AJ (ba_ ?_);unfold hn_ hm_ at h
  (
   refine AJ (wpS_lift (DA ⟨rfl, ?_⟩));obtain⟨t,h1,h2⟩:=AC.mp h;refine AJ (aA_ (γ:=Array Nat×Nat×Nat) (step:=fy_ c l) (fun t=>(none,t.2.1,t.2.2)) (fun t=>bp_ kd item t.1 pd g) (fun x t r hs R hR=> ?_) h1 ?_)
   .unfold fy_ at hs;obtain⟨q,hq1,hs⟩:=AC.mp hs;refine AJ (a5_ hc hq1 ?_);cases q with
    |true=>
     dsimp only;rw [A8 rfl] at hs⊢;split at hs
     .rename_i z;rw [A8 z];cases hs;exact AJ (ba_ (AZ hR))
     .rename_i z;rw [A6 z];cases hs;exact AZ hR
    |false=>
     dsimp only;rw [A6 (by simp)] at hs⊢;obtain⟨r,hr1,hs⟩:=AC.mp hs;refine AJ (a5_ hc hr1 ?_);cases r<;>(cases hs;exact AZ hR)
   .dsimp only;split at h2
    .rename_i z;rw [A8 z];refine AJ (ba_ ?_);refine AJ (ba_ ?_);obtain⟨k2,h3,h4⟩:=A3.mp h2;cases h4;have hz:=h3
     (
      refine AJ (aA_ (γ:=Nat) (step:=fz_ c _ l) (fun m=>(none,m)) (fun _=>bp_ kd item _ pd g) (fun x m r hs R hR=> ?_) hz ?_)
      .obtain⟨q,hq1,rfl⟩:=A3.mp hs;refine AJ (a5_ hc hq1 ?_);cases q<;>exact AZ hR)
     exact AZ hq
    .rename_i z;rw [A6 z];refine AJ (ba_ ?_);obtain⟨k2,h3,h4⟩:=A3.mp h2;cases h4;have hz:=h3
     (
      refine AJ (aA_ (γ:=Nat) (step:=fz_ c _ l) (fun m=>(none,m)) (fun _=>bp_ kd item _ pd g) (fun x m r hs R hR=> ?_) hz ?_)
      .obtain⟨q,hq1,rfl⟩:=A3.mp hs;refine AJ (a5_ hc hq1 ?_);cases q<;>exact AZ hR)
     exact AZ hq)
 .rw [A6 e2] at h⊢;unfold hn_ hm_ at h
  (
   refine AJ (wpS_lift (DA ⟨rfl, ?_⟩));obtain⟨t,h1,h2⟩:=AC.mp h;refine AJ (aA_ (γ:=Array Nat×Nat×Nat) (step:=fy_ c l) (fun t=>(none,t.2.1,t.2.2)) (fun t=>bp_ kd item t.1 pd g) (fun x t r hs R hR=> ?_) h1 ?_)
   .unfold fy_ at hs;obtain⟨q,hq1,hs⟩:=AC.mp hs;refine AJ (a5_ hc hq1 ?_);cases q with
    |true=>
     dsimp only;rw [A8 rfl] at hs⊢;split at hs
     .rename_i z;rw [A8 z];cases hs;exact AJ (ba_ (AZ hR))
     .rename_i z;rw [A6 z];cases hs;exact AZ hR
    |false=>
     dsimp only;rw [A6 (by simp)] at hs⊢;obtain⟨r,hr1,hs⟩:=AC.mp hs;refine AJ (a5_ hc hr1 ?_);cases r<;>(cases hs;exact AZ hR)
   .dsimp only;split at h2
    .rename_i z;rw [A8 z];refine AJ (ba_ ?_);refine AJ (ba_ ?_);obtain⟨k2,h3,h4⟩:=A3.mp h2;cases h4;have hz:=h3
     (
      refine AJ (aA_ (γ:=Nat) (step:=fz_ c _ l) (fun m=>(none,m)) (fun _=>bp_ kd item _ pd g) (fun x m r hs R hR=> ?_) hz ?_)
      .obtain⟨q,hq1,rfl⟩:=A3.mp hs;refine AJ (a5_ hc hq1 ?_);cases q<;>exact AZ hR)
     exact AZ hq
    .rename_i z;rw [A6 z];refine AJ (ba_ ?_);obtain⟨k2,h3,h4⟩:=A3.mp h2;cases h4;have hz:=h3
     (
      refine AJ (aA_ (γ:=Nat) (step:=fz_ c _ l) (fun m=>(none,m)) (fun _=>bp_ kd item _ pd g) (fun x m r hs R hR=> ?_) hz ?_)
      .obtain⟨q,hq1,rfl⟩:=A3.mp hs;refine AJ (a5_ hc hq1 ?_);cases q<;>exact AZ hR)
     exact AZ hq)
def qL_ (c:Nat->Nat->Option Bool) (p:Array Nat) (l k:Nat) (t:Nat×Nat):Option (Bool×Nat×Nat):=
 if t.1>=t.2 then some (true,t.1,t.2) else(kZ_ c p (l+k) (l+(t.1+t.2)/2)).bind fun q=>if q=true then some (false,t.1,(t.1+t.2)/2) else some (false,(t.1+t.2)/2+1,t.2)
def pi_ (c:Nat->Nat->Option Bool) (l k:Nat) (p:Array Nat):Option (Bool×Array Nat):=(b1_ (qL_ c p l k) k (0,k)).map fun t=>(false,bubble p (l+k) (l+k-(l+t.1)))
def m8_ (c:Nat->Nat->Option Bool) (l n ok:Nat) (p:Array Nat):Option (Array Nat):=fl_ (pi_ c l) (n-max ok 1) (max ok 1) p
theorem kD_ (hc:cO_ kd prog w A s item c) {l n ok:Nat}{p p':Array Nat} (h:m8_ c l n ok p=some p') {Q:Bool->SortSt->Prop} (hq:Q true (bp_ kd item p' pd g)):wpS (model prog w) A E s (binarySort' l n ok) Q (bp_ kd item p pd g):=by
 (unfold wpS;wp_delta;wp_delta;wp_delta;refine(show wpS _ _ _ _ _ _ _ from ?_))
 dsimp only;refine AJ (iB_ (γ:=Array Nat) (step:=pi_ c l) (fun _=>(none,())) (fun p=>bp_ kd item p pd g) (fun k p r hs R hR=> ?_) h (AZ hq));obtain⟨t,ht,rfl⟩:=A3.mp hs;refine AJ (aA_ (γ:=Nat×Nat) (step:=qL_ c p l k) (fun t=>(none,t.1,t.2)) (fun _=>bp_ kd item p pd g) (fun x t r hs R hR=> ?_) (a:=0) (b:=k) ht ?_)
 .unfold qL_ at hs;dsimp only;by_cases e:t.1>=t.2
  .rw [A8 e] at hs⊢;cases hs;exact AZ hR
  .rw [A6 e] at hs⊢;obtain⟨q,hq1,hs⟩:=AC.mp hs;refine AJ (a5_ hc hq1 ?_);cases q<;>(cases hs;exact AZ hR)
 .exact AJ (iH_ (AZ hR))
end
end L2
namespace L2
open PySem PyProof.Rows
section
variable {prog:Program}{w:World}{A:Around}{E:Value->Shared->Prop}{s:Shared}{item:Nat->Keyed}{c:Nat->Nat->Option Bool}{kd:SortKind}
abbrev uM_:=Array (Nat×Nat×Nat)
def qd_ (p:Array Nat) (o:Nat) (xs:Array Nat):Array Nat:=xs.toList.zipIdx.foldl (fun a x=>a.setIfInBounds (o+x.2) x.1) p
theorem mq_ (p:Array Nat) (o:Nat) (xs:Array Nat):(xs.map item).toList.zipIdx.foldl (fun a x=>a.setIfInBounds (o+x.2) x.1) (p.map item)=(qd_ p o xs).map item:=by
 have go:∀(l:List Nat) (k:Nat) (p:Array Nat),((l.map item).zipIdx k).foldl (fun a x=>a.setIfInBounds (o+x.2) x.1) (p.map item)=((l.zipIdx k).foldl (fun a x=>a.setIfInBounds (o+x.2) x.1) p).map item:=by
  intro l;induction l with
  |nil=>intro k p;rfl
  |cons x l ih=>
   intro k p;rw [AT,List.zipIdx_cons,List.zipIdx_cons,Cr,Cr];rw [show(p.map item).setIfInBounds (o+k) (item x)=(p.setIfInBounds (o+k) x).map item from(Array.map_setIfInBounds ..).symm];exact ih _ _
 rw [Array.toList_map];exact go _ 0 p
abbrev js_:=Array Nat×uM_×Nat
def nW_ (c:Nat->Nat->Option Bool) (i:Nat) (t:js_):Option js_:=
 t.2.1[i]?.bind fun u=>t.2.1[i+1]?.bind fun v=>t.1[v.1]?.bind fun y=>(qo_ c false y t.1 u.1 u.2.1 0).bind fun k=>
  if(u.2.1-k==0)=true then some (t.1,(t.2.1.setIfInBounds i (u.1,u.2.1+v.2.1,u.2.2)).eraseIdxIfInBounds (i+1),t.2.2)
  else t.1[u.1+k+(u.2.1-k)-1]?.bind fun x=>(qo_ c true x t.1 v.1 v.2.1 (v.2.1-1)).bind fun nb=>
   if(nb==0)=true then some (t.1,(t.2.1.setIfInBounds i (u.1,u.2.1+v.2.1,u.2.2)).eraseIdxIfInBounds (i+1),t.2.2)
   else if u.2.1-k<=nb then(p5_ c (t.1.extract (u.1+k) v.1) (t.1.extract v.1 (v.1+nb)) t.2.2).bind fun r=>some (qd_ t.1 (u.1+k) r.1,(t.2.1.setIfInBounds i (u.1,u.2.1+v.2.1,u.2.2)).eraseIdxIfInBounds (i+1),r.2)
   else(tB_ c (t.1.extract (u.1+k) v.1) (t.1.extract v.1 (v.1+nb)) t.2.2).bind fun r=>some (qd_ t.1 (u.1+k) r.1,(t.2.1.setIfInBounds i (u.1,u.2.1+v.2.1,u.2.2)).eraseIdxIfInBounds (i+1),r.2)
theorem la_ {M:Model}{σ:Type}{x:σ}{Q:PUnit->σ->Prop}{st:σ} (h:Q ⟨⟩ x):wpS M A E s (set x:StateT σ Sem PUnit) Q st:=by
 unfold wpS;show wpAny M A (pure ((),x)) _ E s;exact A4 ⟨rfl,h⟩
set_option maxHeartbeats 2000000 in
theorem dW_ (hc:cO_ kd prog w A s item c) {i:Nat}{t t':js_} (h:nW_ c i t=some t') {Q:Bool->SortSt->Prop} (hq:Q true (bp_ kd item t'.1 t'.2.1 t'.2.2)):wpS (model prog w) A E s (mergeAt' i) Q (bp_ kd item t.1 t.2.1 t.2.2):=by
 (unfold wpS;wp_delta;wp_delta;wp_delta;refine(show wpS _ _ _ _ _ _ _ from ?_))
 dsimp only;refine AJ (wpS_get ?_);unfold nW_ at h;obtain⟨⟨sa,na,pw⟩,hu,h⟩:=AC.mp h;obtain⟨⟨sb,nb,pw2⟩,hv,h⟩:=AC.mp h;obtain⟨y,hy,h⟩:=AC.mp h;obtain⟨k,hk,h⟩:=AC.mp h;dsimp only at*
 rw [hu,hv];dsimp only;refine AJ (la_ ?_);refine AJ (bz_ hy ?_);refine AJ (fT_ hc rfl hk ?_);dsimp only;by_cases e1:(na-k==0)=true
 .rw [A8 e1] at h;cases h;exact cB_ e1 (AZ hq)
 rw [A6 e1] at h;refine eO_ e1 ?_;obtain⟨x,hx,h⟩:=AC.mp h;obtain⟨nb2,hk2,h⟩:=AC.mp h;refine AJ (bz_ hx ?_);refine AJ (fT_ hc rfl hk2 ?_);by_cases e2:(nb2==0)=true
 .rw [A8 e2] at h;cases h;exact cB_ e2 (AZ hq)
 rw [A6 e2] at h;refine eO_ e2 ?_;have x1:(t.1.map item).extract (sa+k) sb=(t.1.extract (sa+k) sb).map item:=by simp
 have x2:(t.1.map item).extract sb (sb+nb2)=(t.1.extract sb (sb+nb2)).map item:=by simp
 by_cases e3:na-k<=nb2
 .rw [A8 e3] at h;obtain⟨r,hr,h⟩:=AC.mp h;cases h;refine cB_ e3 (AJ (by
   rw [x1,x2];refine kC_ hc rfl hr ?_;refine AJ (Cs ?_);refine AJ (wpS_get (AZ ?_));dsimp only;rw [mq_];exact hq))
 .rw [A6 e3] at h;obtain⟨r,hr,h⟩:=AC.mp h;cases hr
end
end L2
namespace L2
open PySem PyProof.Rows
section
variable {prog:Program}{w:World}{A:Around}{E:Value->Shared->Prop}{s:Shared}{item:Nat->Keyed}{c:Nat->Nat->Option Bool}{kd:SortKind}
def hD_ (c:Nat->Nat->Option Bool) (pw:Nat) (t:js_):Option (Bool×js_):=
 match(if t.2.1.size>1 then t.2.1[t.2.1.size-2]? else none) with
 |some u=>if u.2.2<=pw then some (true,t) else(nW_ c (t.2.1.size-2) t).bind fun t'=>some (false,t')
 |none=>some (true,t)
def gt_ (c:Nat->Nat->Option Bool) (size lo n:Nat) (t:js_):Option (Bool×Nat×js_):=
 match t.2.1.back? with
 |some u=>(b1_ (hD_ c (power' size (2*u.1+u.2.1) (2*u.1+u.2.1+u.2.1+n) size)) size t).bind fun t'=>
  some (false,lo+n,t'.1,(t'.2.1.modify (t'.2.1.size-1) fun x=>(x.1,x.2.1,power' size (2*u.1+u.2.1) (2*u.1+u.2.1+u.2.1+n) size)).push (lo,n,0),t'.2.2)
 |none=>some (false,lo+n,t.1,t.2.1.push (lo,n,0),t.2.2)
def lD_ (c:Nat->Nat->Option Bool) (size:Nat) (g:Nat×js_):Option (Bool×Nat×js_):=
 if g.1>=size then some (true,g) else(m6_ c g.1 (size-g.1) g.2.1).bind fun r=>
  if r.1<minRun' size size 0 then(m8_ c g.1 (min (size-g.1) (minRun' size size 0)) r.1 r.2).bind fun p2=>gt_ c size g.1 (min (size-g.1) (minRun' size size 0)) (p2,g.2.2)
  else gt_ c size g.1 r.1 (r.2,g.2.2)
def lE_ (c:Nat->Nat->Option Bool) (t:js_):Option (Bool×js_):=
 if t.2.1.size<=1 then some (true,t)
 else(nW_ c (if Option.any (fun x=>decide (x<t.2.1[t.2.1.size-2+1]?.elim 0 fun x=>x.2.1)) (if t.2.1.size-2>0 then Option.map (fun x=>x.2.1) t.2.1[t.2.1.size-2-1]? else none)=true then t.2.1.size-2-1 else t.2.1.size-2) t).bind fun t'=>some (false,t')
def dA_ (c:Nat->Nat->Option Bool) (n:Nat):Option (Array Nat):=
 (b1_ (lD_ c n) n (0,List.toArray (List.range n), #[],7)).bind fun g=>(b1_ (lE_ c) n g.2).map (·.1)
set_option maxHeartbeats 2000000 in
theorem iG_ (hc:cO_ kd prog w A s item c) {n:Nat}{p:Array Nat} (h:dA_ c n=some p) {Q:Unit->SortSt->Prop} (hq:∀pd g,Q () (bp_ kd item p pd g)):wpS (model prog w) A E s sortRuns' Q (bp_ kd item (List.toArray (List.range n)) #[] 7):=by
 rw [sortRuns'_eq];try dsimp only
 refine AJ (wpS_get ?_);have hz:(arrOf (bp_ kd item (List.toArray (List.range n)) #[] 7)).size=n:=by
  show((List.toArray (List.range n)).map item).size=n;simp
 rw [hz];unfold dA_ at h;obtain⟨g,h1,h⟩:=AC.mp h;obtain⟨t,h2,rfl⟩:=A3.mp h;refine AJ (aA_ (γ:=Nat×js_) (step:=lD_ c n) (fun g=>(none,g.1)) (fun g=>bp_ kd item g.2.1 g.2.2.1 g.2.2.2) (fun x g r hs R hR=> ?_) (a:=0) (b:=n) (g:=(0,List.toArray (List.range n), #[],7)) h1 ?_)
 .unfold lD_ at hs;try dsimp only
  by_cases e1:g.1>=n
  .rw [A8 e1] at hs⊢;cases hs;exact AZ hR
  rw [A6 e1] at hs⊢;obtain⟨k,hk,hs⟩:=AC.mp hs;refine AJ (kB_ hc hk ?_);try dsimp only
  by_cases e2:k.1<minRun' n n 0
  .rw [A8 e2] at hs⊢;obtain⟨p2,hp,hs⟩:=AC.mp hs;refine AJ (wpS_lift (DA ⟨rfl, ?_⟩));refine AJ (kD_ hc hp ?_);simp only [By,AM,Av]
   (
    unfold gt_ at hs;refine AJ (wpS_get ?_);try dsimp only at hs⊢
    split at hs
    .rename_i u hu;rw [hu];try dsimp only
     obtain⟨t',ht,hs⟩:=AC.mp hs;cases hs;refine AJ (aA_ (γ:=js_) (step:=hD_ c _) (fun _=>(none,())) (fun t=>bp_ kd item t.1 t.2.1 t.2.2) (fun x t r hs R hR=> ?_) (a:=0) ht ?_)
     .unfold hD_ at hs;refine AJ (wpS_get ?_);try dsimp only
      split at hs
      .rename_i v hv;rw [hv];try dsimp only
       split at hs
       .rename_i z;rw [A8 z];cases hs;exact AZ hR
       .rename_i z;rw [A6 z];obtain⟨t',hm,hs⟩:=AC.mp hs;cases hs;exact AJ (dW_ hc hm (AZ hR))
      .rename_i hv;rw [hv];cases hs;exact AZ hR
     .try dsimp only
      exact AJ (Cs (AJ (Cs (AZ hR))))
    .rename_i hu;rw [hu];cases hs;exact AJ (Cs (AZ hR)))
  .rw [A6 e2] at hs⊢
   (
    unfold gt_ at hs;refine AJ (wpS_get ?_);try dsimp only at hs⊢
    split at hs
    .rename_i u hu;rw [hu];try dsimp only
     obtain⟨t',ht,hs⟩:=AC.mp hs;cases hs;refine AJ (aA_ (γ:=js_) (step:=hD_ c _) (fun _=>(none,())) (fun t=>bp_ kd item t.1 t.2.1 t.2.2) (fun x t r hs R hR=> ?_) (a:=0) ht ?_)
     .unfold hD_ at hs;refine AJ (wpS_get ?_);try dsimp only
      split at hs
      .rename_i v hv;rw [hv];try dsimp only
       split at hs
       .rename_i z;rw [A8 z];cases hs;exact AZ hR
       .rename_i z;rw [A6 z];obtain⟨t',hm,hs⟩:=AC.mp hs;cases hs;exact AJ (dW_ hc hm (AZ hR))
      .rename_i hv;rw [hv];cases hs;exact AZ hR
     .try dsimp only
      exact AJ (Cs (AJ (Cs (AZ hR))))
    .rename_i hu;rw [hu];cases hs;exact AJ (Cs (AZ hR)))
 .try dsimp only
  refine AJ (aA_ (γ:=js_) (step:=lE_ c) (fun _=>(none,())) (fun t=>bp_ kd item t.1 t.2.1 t.2.2) (fun x t r hs R hR=> ?_) (a:=0) (b:=n) (g:=g.2) h2 (AZ (hq _ _)));unfold lE_ at hs;refine AJ (wpS_get ?_);try dsimp only
  by_cases e1:t.2.1.size<=1
  .rw [A8 e1] at hs⊢;cases hs;exact AZ hR
  rw [A6 e1] at hs⊢;obtain⟨t',hm,hs⟩:=AC.mp hs;cases hs;exact AJ (dW_ hc hm (AZ hR))
end
end L2
namespace L2
open PySem PySem.Spec PyProof.Rows PySem.W
section
variable {prog:Program}{w:World}{A:Around}{E:Value->Shared->Prop}{s:Shared}
theorem iL_ {kd:SortKind}{a:Addr}{vs:List Value}{n:Nat}{c:Nat->Nat->Option Bool}{p:Array Nat}{P:PySem.Fin->Shared->Prop} (ho:s.heap.get? a=some (seqObj "list" vs.toArray n)) (h2:2<=vs.length) (hL:vs.length<=1000) (hp:p.size<=1000)
  (hkd:∀(R:SortKind->Shared->Prop),R kd {s with heap:=aL_ s.heap a vs}->wpAny (model prog w) A (keyKind' vs.toArray) R E {s with heap:=aL_ s.heap a vs}) (hc:cO_ kd prog w A {s with heap:=aL_ s.heap a vs} (gi_ vs) c) (hs:dA_ c vs.length=some p)
  (h:P (.done (.ret .none)) {s with heap:=sortedHeap s.heap a vs (p.map fun i=>vs.getD i .none)}):wpAny (model prog w) A (Builtin.«list.sort» ⟨[.ref a],[]⟩) P E s:=by
 rw [list_sort_plain];have ha:a<s.heap.objs.size:=AG ho;refine A0 (listItems_at ho rfl ?_);refine A0 (CQ ho rfl ?_ (by rw [AA,B1];lia) (AS _));obtain⟨e1,ho1⟩:∃e1,(s.heap.update a (Obj.mapSeq fun _=>(#[]:Array Value))).get? a=some (seqObj "list" #[] e1):=⟨_,CK ho (fun _=> #[])⟩;refine A0 (seqEpoch_at ho1 rfl ?_);refine A0 (wpAny_newTuple ?_ (by show vs.length<=_;rw [B1];lia));refine A0 (D0 ?_ (AS _));refine B0 ?_;have ho6:(aL_ s.heap a vs).get? a=some (seqObj "list" #[] e1):=by
  rw [Az _ _ _ (by rw [Bl,Ay];exact AK (Ae ha)),Az _ _ _ (by rw [Ay];exact AK ha)];exact ho1
 show wpAny (model prog w) A _ P E {s with heap:=aL_ s.heap a vs};dsimp only;have hn2:¬vs.toArray.size<2:=by rw [AA];lia
 rw [A6 hn2,A6 hn2];refine A0 (hkd _ ?_);have run:=iG_ (E:=E) hc hs (Q:=fun _ st'=>arrOf st'=p.map (gi_ vs)/\failedOf st'=none) fun pd g=>⟨rfl,rfl⟩;have est:bp_ kd (gi_ vs) (List.toArray (List.range vs.length)) #[] 7=SortSt.mk' kd (vs.toArray.zip vs.toArray) #[] 7 none:=by
  show SortSt.mk' kd ((List.toArray (List.range vs.length)).map (gi_ vs)) #[] 7 none=_;rw [iF_]
 rw [est] at run;refine A0 (BJ run ?_ fun _ _ e=>e);rintro⟨⟨⟩,st'⟩ s' ⟨rfl,har,hf⟩;dsimp only at har hf⊢;have eo:(arrOf st').map (·.2)=p.map fun i=>vs.getD i .none:=by
  rw [har,Array.map_map];rfl
 rw [eo];refine A0 (seqEpoch_at ho6 rfl ?_);refine A0 (CQ ho6 rfl ?_ (AS _) (by rw [Array.size_map,B1];lia));rw [hf];simp only [CY,AM,Av];exact A4 h
theorem gm_ {kd:SortKind}{l:Addr}{vs:List Value}{c:Nat->Nat->Option Bool}{p:Array Nat}{Q:Value->Shared->Prop} (hl:s.heap.IsList l vs.toArray) (h2:2<=vs.length) (hL:vs.length<=1000) (hp:p.size<=1000)
  (hkd:∀(R:SortKind->Shared->Prop) (E:Value->Shared->Prop),R kd {s with heap:=dv_ s.heap vs}->wpAny (model prog w) A.in1.in1 (keyKind' vs.toArray) R E {s with heap:=dv_ s.heap vs}) (hc:cO_ kd prog w A.in1.in1 {s with heap:=dv_ s.heap vs} (gi_ vs) c) (hs:dA_ c vs.length=some p)
  (h:Q (.ref (s.heap.objs.size+1)) {s with heap:=sortedAll s.heap vs (p.map fun i=>vs.getD i .none)}):wpAny (model prog w) A (call (.builtin "sorted") [.ref l]) Q E s:=by
 refine Calls.call_function_entry kind_sorted plain_sorted entry_sorted (args_sorted1 _) ?_;unfold Builtin.«sorted»;refine A0 (m:=checkCount "sorted" 1 1 _) (A4 ?_);refine A0 (collect_list hl ?_ (by rw [B1];lia));refine A0 (D0 ?_ (by rw [B1];lia));have hsz:((s.heap.push (seqObj "list" #[] 0)).update s.heap.objs.size (Obj.mapSeq (· ++vs.toArray))).objs.size=s.heap.objs.size+1:=by
  rw [Ay,Bl]
 have hoL:(((s.heap.push (seqObj "list" #[] 0)).update s.heap.objs.size (Obj.mapSeq (· ++vs.toArray))).push (seqObj "list" vs.toArray 0)).get? (s.heap.objs.size+1)=some (seqObj "list" vs.toArray 0):=by
  rw [<-hsz];exact AI _ rfl
 show wpAny _ _ _ _ _ {s with heap:=((s.heap.push (seqObj "list" #[] 0)).update s.heap.objs.size (Obj.mapSeq (· ++vs.toArray))).push (seqObj "list" vs.toArray 0)};rw [hsz];refine A0 (B0 (At slot_list_sort ⟨_,hoL,rfl⟩ entry_list_sort (iL_ (s:={s with heap:=((s.heap.push (seqObj "list" #[] 0)).update s.heap.objs.size (Obj.mapSeq (· ++vs.toArray))).push (seqObj "list" vs.toArray 0)}) hoL h2 hL hp (fun R=>hkd R _) hc hs ⟨_,rfl, ?_⟩) (args_list_sort _)));exact A4 ⟨_,rfl,h⟩
end
def hE_ (K:W.Frag):List V->Hp->VK->Prop:=fun vs H Q=>∃(l:Addr) (rs:List V) (c:Nat->Nat->Option Bool) (p:Array Nat),vs=[.ref l]/\SqL K H l rs/\2<=rs.length/\rs.length<=1000/\p.size<=1000/\(∀r∈rs,∃a ys,r= .ref a/\SqL K H a ys)/\
 (∀i j b,c i j=some b->∃x y,rs[i]? =some x/\rs[j]? =some y/\Ask K H x y b)/\dA_ c rs.length=some p/\(∀i∈p.toList,i<rs.length)/\∀q,H q=none->Q (.ref q) (upd H q (.lst (p.toList.map fun i=>rs.getD i .non)))
section
variable {X:Cx}
theorem fP_ {k:Nat} (hr:Room k X.A):cu_ X (.builtin "sorted") (hE_ X.K):=by
 intro pins s σ H xs us Q I r h;obtain⟨l,rs,c,p,rfl,hq,h2,hL,hps,hty,hask,hs,hpl,q⟩:=h;obtain⟨u,rfl,rx⟩:=du_ r;cases rx;obtain⟨its,r',pl,hz⟩:=I.list hq;have ln:=r'.length;have hu:=hr.un;have I2:Inv X pins σ H {s with heap:=dv_ s.heap its}:=I.kept (t':=s.toks) fun b o e=>hw_ e;refine gm_ (kd:=oneType') (vs:=its) (c:=c) (p:=p) pl.isList (by lia) (by lia) hps (fun R E hR=>kas_kind (T:= .type "list") (by lia) (fun v hv=> ?_) rfl rfl hR) (fun i j b hb Q' hq'=> ?_) (by rw [<-ln];exact hs) ?_
 .obtain⟨i,hi,rfl⟩:=BN.mp hv;have hi':i<rs.length:=by lia
  obtain⟨a,ys,e1,hy⟩:=hty rs[i] (Bc hi');obtain⟨u,hu1,ru⟩:=r'.get (A2 hi');rw [A2 hi] at hu1;rw [e1] at ru;obtain rfl:u=Value.ref a:=ru;rw [An hu1];obtain⟨js,r2,p2,z2⟩:=I2.list hy;obtain⟨o,ho,hc,_⟩:=p2.isList;exact hc▸(Looks.ld ho).andThen .now
 .obtain⟨x,y,hx,hy,a1,a2,xs,ys,d,es,fs,rfl,rfl,h1,h2,hd,he,hf,rfl⟩:=hask i j b hb;obtain⟨u,hu1,ru⟩:=r'.get hx;obtain⟨v,hv1,rv⟩:=r'.get hy;obtain rfl:u=Value.ref a1:=ru;obtain rfl:v=Value.ref a2:=rv;have g1:(gi_ its i).1= .ref a1:=by show its.getD i .none=_;rw [List.getD,hu1];rfl
  have g2:(gi_ its j).1= .ref a2:=by show its.getD j .none=_;rw [List.getD,hv1];rfl
  rw [g1,g2];exact LtR.key I2 h1 h2 he hf (by rw [a4_,a4_];lia) hq'
 .obtain⟨e,he⟩:=sortedAll_at s.heap its (p.map fun i=>its.getD i .none);have en:(p.map fun i=>its.getD i .none)=List.toArray (p.toList.map fun i=>its.getD i .none):=by
   apply Array.toList_inj.mp;simp
  rw [en] at he⊢;refine⟨.ref (s.heap.objs.size+1),_,I.laid (t':=s.toks) (fun _ _=>sortedAll_old) (Cn _) (show aS_ X.prog X.w _ _ _ (.lst (p.toList.map fun i=>rs.getD i .non)) from⟨?_,_,e,eQ_ r' p.toList hpl,he⟩),rfl,q _ (I.hok.fresh (Cn _))⟩;rw [A1,Ar,B1];lia
end
section
variable {X:Cx}
def kI_ (K:W.Frag):List V->Hp->VK->Prop:=fun vs H Q=>(∃(l:Addr) (rs:List V),vs=[.ref l]/\SqL K H l rs/\rs.length<2/\∀q,H q=none->Q (.ref q) (upd H q (.lst rs)))\/hE_ K vs H Q
theorem dc_ {k:Nat} (hr:Room k X.A):cu_ X (.builtin "sorted") (kI_ X.K):=by
 intro pins s σ H xs us Q I r h;rcases h with h|h
 .obtain⟨l,rs,rfl,hq,h2,q⟩:=h;obtain⟨u,rfl,rx⟩:=du_ r;cases rx;obtain⟨its,r',pl,hz⟩:=I.list hq;have ln:=r'.length;refine kG_ (vs:=its) pl.isList (by lia) ?_;obtain⟨e,he⟩:=sortedAll_at s.heap its its.toArray;exact⟨.ref (s.heap.objs.size+1),_,I.laid (t':=s.toks) (fun _ _=>sortedAll_old) (Cn _) (show aS_ X.prog X.w _ _ _ (.lst rs) from⟨hz,its,e,r',he⟩),rfl,q _ (I.hok.fresh (Cn _))⟩
 .exact fP_ hr pins s σ H xs us Q I r h
end
end L2
namespace L2
open PySem PySem.SetTable PySem.Spec PyProof.Rows
theorem gM_ {α:Type} [DecidableEq α]:∀{xs F:List α},xs.Nodup->(∀x∈xs,x∈F)->xs.length<=F.length
 |[],_,_,_=>AS _
 |x::xs,F,nd,h=>by
  obtain⟨n1,n2⟩:=BW.mp nd;have hx:=h x (by simp);have:=gM_ (F:=F.erase x) n2 fun y hy=>(List.mem_erase_of_ne (by rintro rfl;exact n1 hy)).mpr (h y (by simp [hy]));rw [List.length_erase_of_mem hx] at this;have:0<F.length:=List.length_pos_of_mem hx;rw [Ah];lia
theorem p4_ {prog:Program}{w:World}{h:Heap}{kk:Nat->List Int}{ad:Nat->Addr}{i:Nat}{es:Array (Int×Value)} (en:Ent prog w h es) (mk:Made prog w kk ad i es) (hkk:∀j,j<i->IsTupleKey (intKind prog w) h (kk j) (ad j))
  (hb:∃F:List (List Int),F.length<60/\∀j,j<i->kk j∈F):es.size<60:=by
 obtain⟨F,hF,hin⟩:=hb;obtain⟨js,ev,lt,nd,_⟩:=jB_ en mk hkk (List.Perm.refl _);have:=gM_ nd (F:=F) fun z hz=>by
  obtain⟨j,hj,rfl⟩:=AY.mp hz;exact hin j (lt j hj)
 have e:=BR List.length ev;rw [A1,A1,Ar] at e;rw [A1] at this;lia
section
variable {prog:Program}{w:World}{A:Around}{E:Value->Shared->Prop}{s:Shared}
theorem le_ {R:Result->Shared->Prop}{I:Addr}{fp wr:List Addr}{G:Array GenState->Array GenState->Prop}{n:Nat}{P:Nat->Value->Prop}{St:Nat->Shared->Prop}
  (Wq:WalksS prog w A.in1 I fp wr G n P St) (S:Addr) (hSf:S∉fp) (hu:A.in1.units<cLine) (led:Bool)
  (kk:Nat->List Int) (ad:Nat->Addr) (hval:∀i v,P i v->v= .ref (ad i)) (hwr:∀i,i<n->ad i∉wr) (hb:∃F:List (List Int),F.length<60/\∀i,i<n->kk i∈F):
  ∀(k i:Nat) (s:Shared) (es:Array (Int×Value)),n-i=k->i<=n->St i s->ni_ s.heap S led es->Ent prog w s.heap es->Made prog w kk ad i es->(∀j,j<n->IsTupleKey (intKind prog w) s.heap (kk j) (ad j))->
   (∀s' es',Moved (S::wr) G s s'->ni_ s'.heap S led es'->Ent prog w s'.heap es'->Made prog w kk ad n es'->R (.ok (.ret .none)) s')->
   codeAny (model prog w) A (.builtin "set.update.loop" ⟨[.ref S, .ref I],[]⟩) R s:=by
 have hSw:S∉wr:=fun h=>hSf (Wq.sub _ h);have hsub:∀b∈wr,b∈S::wr:=fun b hb=>Au _ hb;intro k;induction k with
 |zero=>
  intro i s es hk hi hst hS en mk hkk hR;have hin:i=n:=by lia
  subst hin;refine Br F.entry_set_update_loop ?_;rw [Bk F.plain_set_update_loop _];show wpAny _ A.in1 (pyNext (.ref I)>>=_) _ _ s;refine A0 (Wq.done s _ _ hst fun s' hm=> ?_);show wpAny _ A.in1 (ret Value.none) _ _ s';refine A4 (hR s' es (hm.mono hsub) (hS.mv fun o e=>hm.heap S o hSw e) (en.mv fun p k g x e q=>ib_ q fun o e'=> ?_) mk);obtain⟨j,hj,ev⟩:=mk.from_ p _ e;simp only [Bg,Bo] at ev;obtain⟨_,rfl⟩:=ev;exact hm.heap _ o (hwr j hj) e'
 |succ k ih=>
  intro i s es hk hi hst hS en mk hkk hR;have hlt:i<n:=by lia
  refine Br F.entry_set_update_loop ?_;rw [Bk F.plain_set_update_loop _];show wpAny _ A.in1 (pyNext (.ref I)>>=_) _ _ s;refine A0 (Wq.item i s _ _ hlt hst fun v s' hP hst' hm=> ?_);obtain rfl:=hval i v hP;have hS':ni_ s'.heap S led es:=hS.mv fun o e=>hm.heap S o hSw e;have hkk':∀j,j<n->IsTupleKey (intKind prog w) s'.heap (kk j) (ad j):=fun j hj=>ib_ (hkk j hj) fun o e=>hm.heap _ o (hwr j hj) e;have en':Ent prog w s'.heap es:=en.mv fun p k g x e q=>ib_ q fun o e'=>by
   obtain⟨j,hj,ev⟩:=mk.from_ p _ e;simp only [Bg,Bo] at ev;obtain⟨_,rfl⟩:=ev;exact hm.heap _ o (hwr j (by lia)) e'
  show wpAny _ A.in1 (holding [Value.ref (ad i)] (setAdd S (.ref (ad i)))>>=_) _ _ s';refine A0 (B0 ?_);unfold setAdd;refine B0 ?_;refine A0 (wpAny_pyHash_tuple hu (hkk' i hlt) ?_);refine qN_ (s:={s' with toks:=s'.toks+((kk i).length+1)}) hS' en' (hkk' i hlt) hu (by have:=p4_ en' mk (fun j hj=>hkk' j (by lia)) (hb.imp fun F hF=>⟨hF.1,fun j hj=>hF.2 j (by lia)⟩);lia) fun b h' es' hsb hS2 en2 c=> ?_;have hkS:∀j,j<n->ad j≠S:=by
   intro j hj e;obtain⟨o,items,m,ho,_,hd,_⟩:=hkk' j hj;obtain⟨ep,t,ho',_⟩:=hS';rw [e,ho',Aw] at ho;subst ho;exact nomatch hd
  refine A4 ⟨D1 F.plain_set_update_loop _,ih (i+1) _ es' (by lia) hlt (Wq.frame _ s' _ _ hst' (Nat.le_add_right _ _) fun b hb o e=> ?_) hS2 en2 (mk.step en' (fun j hj=>hkk' j (by lia)) c) (fun j hj=>ib_ (hkk' j hj) fun o e=> ?_) fun s'' es'' hm'' hS'' en'' mk''=> ?_⟩
  .rw [hsb.2 b (fun h:b=S=>hSf (by rw [<-h];exact hb))];exact e
  .show h'.get? _=_;rw [hsb.2 _ (hkS j hj)];exact e
  .refine hR s'' es'' (Moved.trans Wq.gtrans ((hm.mono hsub).then_heap (Nat.le_add_right _ _) fun b o hb e=> ?_) hm'') hS'' en'' mk'';rw [hsb.2 b (fun h:b=S=>hb (by rw [h];exact B2))];exact e
set_option maxHeartbeats 3200000 in
theorem hl_ {l:Addr}{items:Array Value}{kk:Nat->List Int}{ad:Nat->Addr}{Q:Value->Shared->Prop}
  (hh:A.handled=none) (hu:A.units+8<cLine) (hl:s.heap.IsList l items) (hn:∃F:List (List Int),F.length<60/\∀i,i<items.size->kk i∈F)
  (hk:∀i,i<items.size->items[i]? =some (.ref (ad i))/\IsTupleKey (intKind prog w) s.heap (kk i) (ad i))
  (h:∀(h':Heap) (tk:Nat) (es:Array (Int×Value)),ni_ h' s.heap.objs.size (!w.params.followText "set-order") es->Ent prog w h' es->Made prog w kk ad items.size es->
   (∀b o,b<s.heap.objs.size->s.heap.get? b=some o->h'.get? b=some o)->Q (.ref s.heap.objs.size) {s with heap:=h',toks:=tk}):
  wpAny (model prog w) A (call (.type "set") [.ref l]) Q E s:=by
 obtain⟨c,tl,hmro⟩:=CT.mro;have hmade:=CT.made;have hsub:=CT.sub;refine wpAny_call (codeAny_of_tree ?_);show wpAny _ _ (callAny (.type "set") _) _ _ _;refine A4 ⟨Code.quiet_builtin _ (by ac_nf),Br F.entry_type_call ?_⟩;rw [Around.under_plain (weight_type_call_type "set" [.ref l] []) rfl];have h1:=CT.notType;have h2:=CT.canCreate;have hct:=F.typeCall_set_1 (.ref l)
 repeat (any_goals (first|assumption|wp_step))
 refine D' (p2_ (.ref l) (E:=E) (Q₁:=fun obj s₁=>obj= .ref s.heap.objs.size/\s₁={s with heap:=s.heap.push {cls:= .type "set",dict:=none,data:= .set #[] 0 (.fresh 0 0 (!w.params.followText "set-order"))}}) ⟨rfl,rfl⟩) fun r s₁ hr=> ?_;generalize (!w.params.followText "set-order")=led at h hr;cases r with
 |error e=>exact hr
 |ok fl=>
  cases fl with
  |ret obj=>
   obtain⟨rfl,rfl⟩:=hr;have hS:(s.heap.push {cls:= .type "set",dict:=none,data:= .set #[] 0 (.fresh 0 0 led)}).get? s.heap.objs.size=some {cls:= .type "set",dict:=none,data:= .set #[] 0 (.fresh 0 0 led)}:=AI _ rfl;have hT:Shared.TypeIs {s with heap:=s.heap.push {cls:= .type "set",dict:=none,data:= .set #[] 0 (.fresh 0 0 led)}} (.ref s.heap.objs.size) "set":=⟨_,hS,rfl⟩;have hli:=CT.init.lookup;have hbi:=CT.init.bind (.ref s.heap.objs.size)
   repeat (any_goals (first|assumption|wp_step))
   refine D' (codeAny_call_builtin (R:=wants (fun r s₂=>r= .none/\∃h' tk es,s₂={s with heap:=h',toks:=tk}/\
     ni_ h' s.heap.objs.size led es/\Ent prog w h' es/\Made prog w kk ad items.size es/\
     (∀b o,b<s.heap.objs.size->s.heap.get? b=some o->h'.get? b=some o)) E) CT.init.plain F.entry_set_init (check_set_init_1 hT ?_)) fun r₂ s₂ hr₂=> ?_
   .obtain⟨ol,hol,hcl,nl,hdl⟩:=hl;obtain⟨ocls,odict,odata,oslots⟩:=ol;simp only at hcl hdl;subst hcl;subst hdl;have hol':(s.heap.push {cls:= .type "set",dict:=none,data:= .set #[] 0 (.fresh 0 0 led)}).get? l=some {cls:= .type "list",dict:=odict,data:= .seq items nl,slots:=oslots}:=AB _ hol;have hsls:=F.sub_list_set;have hslf:=F.sub_list_frozenset;have hne:(Value.type "list"==Value.type "dict")=false:=by decide
    have hl1:(s.heap.push {cls:= .type "set",dict:=none,data:= .set #[] 0 (.fresh 0 0 led)}).IsList l items:=⟨_,hol',rfl,nl,rfl⟩;unfold Builtin.«set.__init__» noKeywords Builtin.Frozenset.updateFrom;generalize hPI:pyIter=PI
    wp_walk
    subst hPI;refine wpAny_pyIter_list hl1 ?_;refine A0 (wpAny_runValue ?_);have hlS:l<s.heap.objs.size:=AG hol;have hh3:A.in1.in1.in1.handled=none:=by simp [hh]
    have hneI:l≠(s.heap.push {cls:= .type "set",dict:=none,data:= .set #[] 0 (.fresh 0 0 led)}).objs.size:=by
     rw [BP];exact AK (Ae hlS)
    have hSf:s.heap.objs.size∉[(s.heap.push {cls:= .type "set",dict:=none,data:= .set #[] 0 (.fresh 0 0 led)}).objs.size,l]:=by
     rw [BP];simp only [AO,Ax,B5,C6,not_or];exact⟨AK (Bb _),Bu hlS⟩
    refine le_ ((Walks.list hh3 _ l hneI items).toS) s.heap.objs.size
     hSf ?hu led kk ad ?hval ?hwr hn (items.size-0) 0 _ #[] (by lia) (AS _)
     ⟨⟨_,AI _ rfl,rfl,rfl⟩,(hl1.push _)⟩ ?hS0 ?hE0 ?hM0 ?hkk ?hR
    case hu=>show A.units+3<cLine;lia
    case hval=>
     intro i v hv;have hi:i<items.size:=db_ hv;rw [(hk i hi).1,Aw] at hv;exact hv.symm
    case hwr=>
     intro i hi;obtain⟨o,_,_,ho,_⟩:=(hk i hi).2;have:=AG ho;rw [BP];simp only [AO,B5,C6];exact AK (Ae this)
    case hS0=>exact⟨_,_,AB _ hS,oe_ led,rfl,rfl,by show 0*5<7*3;decide⟩
    case hE0=>exact⟨fun i hi=>absurd hi (by show¬i<0;lia),fun i j k b c g g' e=>by simp at e⟩
    case hM0=>exact⟨A7 0,fun p v e=>by simp at e,fun j hj=>absurd hj (by lia)⟩
    case hkk=>exact fun j hj=>ib_ (hk j hj).2 fun o e=>AB _ (AB _ e)
    case hR=>
     intro s' es' hm hS' en' mk';obtain⟨h',g',d',tk',os'⟩:=s';have eg:g'=s.gens:=hm.gens;have ed:d'=s.drawn:=hm.drawn;have eo:os'=s.os:=hm.os;subst eg;subst ed;subst eo;show wpAny _ _ _ _ _ _;refine A4 ?_;show wpAny _ _ (ret Value.none) _ _ _;refine A4 ⟨rfl,h',tk',es',rfl,hS',en',mk',fun b o hb e=> ?_⟩;have hb1:b≠s.heap.objs.size:=AK hb;have hb2:b≠(s.heap.push {cls:= .type "set",dict:=none,data:= .set #[] 0 (.fresh 0 0 led)}).objs.size:=by
      rw [BP];exact AK (Ae hb)
     exact hm.heap b o (by simp only [AO,Ax,B5,C6,not_or];exact⟨hb1,hb2⟩) (AB _ (AB _ e))
   .cases r₂ with
    |error e=>exact hr₂
    |ok fl₂=>
     cases fl₂ with
     |ret r=>
      obtain⟨rfl,h',tk,es,rfl,hS',en',mk',hk'⟩:=hr₂
      repeat (any_goals (first|assumption|wp_step))
      exact h _ _ _ hS' en' mk' hk'
     |_=>exact hr₂.elim
  |_=>exact hr.elim
end
end L2
namespace L2
open PySem PySem.SetTable PySem.Spec PyProof.Rows PySem.W
section
variable {X:Cx}{pins:List (Addr×Obj)}{σ:St}{H:Hp}{s:Shared}
def rE_:List V->Hp->VK->Prop:=fun vs H Q=>∃(v:V) (xss:List (List Int)) (m:Nat),vs=[v]/\Is H (.l (xss.map tI)) v/\0<m/\(∀xs∈xss,xs.length=m)/\(∃F:List (List Int),F.length<60/\∀xs∈xss,xs∈F)/\
 ∀(yss:List (List Int)) (q:Addr) (H':Hp),yss.Nodup->(∀z,z∈yss↔z∈xss)->(∀i j,i<j->j<yss.length->ltI (yss.getD j []) (yss.getD i [])=false)->H q=none->al_ H H'->Is H' (.l (yss.map tI)) (.ref q)->Q (.ref q) H'
theorem nH_ {e:Expr}{ta:TA}{p p2 pos pos2:Pos} (hu:X.A.units+8<cLine) (hh:X.A.handled=none) (hg:Gl X "sorted") (hm:X.mg "sorted"=none) (hg2:Gl X "set") (hm2:X.mg "set"=none)
  (ha:PA X [e] ta) (he:starEach [e] X.env=(false,eval e X.env)::starEach [] X.env:=by rfl)
  (he2:starEach [Expr.Call (.Name "set" p2) [e] [] pos2] X.env=(false,eval (Expr.Call (.Name "set" p2) [e] [] pos2) X.env)::starEach [] X.env:=by rfl):
  PE X (.Call (.Name "sorted" p) [.Call (.Name "set" p2) [e] [] pos2] [] pos) (tCB rE_ ta):=by
 intro pins s σ H Q I h;refine BQ (cL_ I hg hm (by first|exact boot_sorted|rfl|ac_nf) ?_ (by decide) (by decide));refine Cg ?_ he2 (by rfl);rw [he2];show wpAny _ _ (spliced ((false,eval (Expr.Call (.Name "set" p2) [e] [] pos2) X.env)::backTo pos (starEach [] X.env))) _ _ s;refine Ce ?_;refine BQ (cL_ I hg2 hm2 (by first|rfl|ac_nf) ?_ (by decide) (by decide));refine BB (thn (ha pos2 pins s σ H _ I h) fun us s1 ⟨vs,H1,I1,r1,q1⟩=> ?_) he (by rfl);obtain⟨v,xss,m,rfl,hv,hm',hne',⟨F,hF,hin⟩,q⟩:=q1;obtain⟨l,rs,rfl,hl,hi⟩:=b9_ hv;have hrs:rs.length=xss.length:=by rw [hi.length,A1]
 obtain⟨u,rfl,rx⟩:=du_ r1;cases rx;obtain⟨its,r',pl,hz⟩:=I1.list (SqL.of (K:=X.K) hl);have ln:=r'.length;have g:∀i,∃a,i<xss.length->its[i]? =some (.ref a)/\rs[i]? =some (.ref a)/\H1 a=some (.tup ((xss.getD i []).map V.int)):=fun i=>by
  by_cases h:i<xss.length
  .have hr:i<rs.length:=by lia
   obtain⟨d,hd,h1⟩:=hi.of_get (A2 hr);rw [A5,A2 h] at hd;cases hd;obtain⟨a,ea,ha⟩:=hR_ h1;obtain⟨u,hu1,ru⟩:=r'.get (A2 hr);rw [ea] at ru;obtain rfl:u=Value.ref a:=ru;refine⟨a,fun _=>⟨hu1,by rw [A2 hr,ea], ?_⟩⟩;rw [AE,A2 h];exact ha
  .exact⟨0,fun c=>absurd c h⟩
 let ad:Nat->Addr:=fun i=>Classical.choose (g i)
 have hg:∀i,i<xss.length->its[i]? =some (.ref (ad i))/\rs[i]? =some (.ref (ad i))/\H1 (ad i)=some (.tup ((xss.getD i []).map V.int)):=fun i hi=>Classical.choose_spec (g i) hi;generalize ad=ad at hg;refine hl_ (kk:=fun i=>xss.getD i []) (ad:=ad) (items:=its.toArray) hh (by lia) pl.isList ⟨F,hF,fun i hi=>by
   rw [AA] at hi;refine hin _ ?_;rw [AE,A2 (show i<xss.length by lia)];exact Bc _⟩ (fun i hi=> ?_) fun h' tk es hS en mk hk=> ?_
 .rw [AA] at hi;have hg':=hg i (by lia);exact⟨by rw [List.getElem?_toArray];exact hg'.1,lj_ I1 (SqT.of hg'.2.2)⟩
 .have I2:Inv X pins σ H1 {s1 with heap:=h',toks:=tk}:=I1.kept fun b o e=>hk b o (AG e) e;refine A4 ?_;show wpAny _ _ (call (.builtin "sorted") [.ref s1.heap.objs.size]) _ _ {s1 with heap:=h',toks:=tk};obtain⟨ep,t,ho,tb,tl,tp,tr⟩:=hS;refine kF_ (jm_ (s:={s1 with heap:=h',toks:=tk}) (A:=X.A.in1) hh ho tb (by lia) tl tp fun h'' tk' vs hk' hsz hp=> ?_) fun vs s' g=>g;have hkey:∀j,j<its.toArray.size->IsTupleKey (intKind X.prog X.w) h' (xss.getD j []) (ad j):=fun j hj=>by
   rw [AA] at hj;exact lj_ I2 (SqT.of (hg j (by lia)).2.2)
  obtain⟨js,ev,lt,nd,all⟩:=jB_ en mk hkey hp;have I3:Inv X pins σ H1 {s1 with heap:=h'',toks:=tk'}:=I2.kept hk';have lt':∀j∈js,j<xss.length:=fun j hj=>by have:=lt j hj;rw [AA] at this;lia
  subst ev;have mem:∀z,z∈js.map (fun i=>xss.getD i [])↔z∈xss:=fun z=>by
   constructor
   .intro hz;obtain⟨j,hj,rfl⟩:=AY.mp hz;rw [AE,A2 (lt' j hj)];exact Bc _
   .intro hz;obtain⟨j,hj,e⟩:=List.getElem_of_mem hz;have:=all j (by rw [AA];lia);rw [AE,A2 hj,e] at this;exact this
  have bound:(js.map fun i=>xss.getD i []).length<64:=by
   have:=gM_ nd (F:=F) fun z hz=>hin z ((mem z).mp hz);lia
  refine lt_ I3 (rs:=js.map fun j=>V.ref (ad j)) (xss:=js.map fun i=>xss.getD i []) (kd_ _ ad js fun j hj=>(hg j (lt' j hj)).2.2) (ht_ ad js) hm' (fun xs hx=>hne' xs ((mem xs).mp hx)) (by lia) (fun yss q' H' pm srt hq sm his=> ?_) X.A;exact q yss q' H' (pm.nodup_iff.mpr nd) (fun z=>by rw [pm.mem_iff];exact mem z) srt hq sm his
end
end L2
namespace L2
open PySem PySem.Spec PyProof.Rows
def n6_ (v:Value) (k:Int):Bool:=match v with
 | .int i _=>decide (i=k)
 |_=>false
def hf_:List DictEntry->List (Int×Int)->Bool
 |[],[]=>true
 |e::es,p::kvs=>n6_ e.key p.1&&decide (e.hash=hashInt p.1)&&n6_ e.val p.2&&hf_ es kvs
 |_,_=>false
def rV_ (o:Obj) (kvs:List (Int×Int)):Bool:=match o.cls,o.dict,o.data with
 | .type c,none, .dict es _=>c=="dict"&&o.slots.isEmpty&&hf_ es.toList kvs
 |_,_,_=>false
def kn_ (K:W.Frag) (a:Addr) (kvs:List (Int×Int)):Bool:=match K.lookup a with
 |some o=>rV_ o kvs
 |none=>false
theorem kg_ {v:Value}{k:Int} (h:n6_ v k=true):∃t,v= .int k t:=by
 unfold n6_ at h;split at h
 .rename_i i t;exact⟨t,by rw [Aa h]⟩
 .cases h
theorem gd_ {e:DictEntry}{es:List DictEntry}{p:Int×Int}{kvs:List (Int×Int)} (h:hf_ (e::es) (p::kvs)=true):(∃t,e.key= .int p.1 t)/\e.hash=hashInt p.1/\(∃t,e.val= .int p.2 t)/\hf_ es kvs=true:=by
 unfold hf_ at h;rw [A9,A9,A9] at h;exact⟨kg_ h.1.1.1,Aa h.1.1.2,kg_ h.1.2,h.2⟩
theorem gb_:∀{es:List DictEntry}{kvs:List (Int×Int)},hf_ es kvs=true->∀e∈es,∃k,Value.isInt k e.key=true/\e.hash=hashInt k
 |[],_,_,e,he=>nomatch he
 |e::es,[],h,_,_=>by unfold hf_ at h;cases h
 |e::es,p::kvs,h,e',he=>by
  obtain⟨⟨t,h1⟩,h2,_,h4⟩:=gd_ h;rcases AO.mp he with rfl|he
  .exact⟨p.1,by rw [h1];simp [Value.isInt],h2⟩
  .exact gb_ h4 e' he
theorem gc_ {k v:Int}:∀{es:List DictEntry}{kvs:List (Int×Int)},hf_ es kvs=true->kvs.lookup k=some v->∃t,(es.find? fun e=>Value.isInt k e.key).map (·.val)=some (.int v t)
 |_,[],_,hv=>nomatch hv
 |[],p::kvs,h,_=>by unfold hf_ at h;cases h
 |e::es,p::kvs,h,hv=>by
  obtain⟨⟨t,h1⟩,h2,⟨u,h3⟩,h4⟩:=gd_ h;rw [Bs] at hv;rw [BX];by_cases q:k=p.1
  .have b:(k==p.1)=true:=by simp [q]
   rw [b] at hv;have hv':p.2=v:=An hv;have i:Value.isInt k e.key=true:=by rw [h1,q];simp [Value.isInt]
   rw [i];exact⟨u,by rw [<-hv',<-h3];rfl⟩
  .have b:(k==p.1)=false:=by simp [q]
   rw [b] at hv;have i:Value.isInt k e.key=false:=by rw [h1];simp [Value.isInt];exact fun z=>q z.symm
   rw [i];exact gc_ h4 hv
def rd_ (K:W.Frag) (td ty:TE):TE:=fun σ H Q=>td σ H fun x H1=>ty σ H1 fun y H2=>∃a kvs k v,x= .ref a/\kn_ K a kvs=true/\y= .int k/\kvs.lookup k=some v/\Q (.int v) H2
theorem nJ_ {X:Cx}{o i:Expr}{pos:Pos}{td ty:TE} (ho:PE X o td) (hi:PE X i ty) (hs:tV_ i):PE X (.Subscript o i pos) (rd_ X.K td ty):=by
 intro pins s σ H Q I h;refine lo_ PySem.F.slot_dict_getitem.lookup hs (thn (ho pins s σ H _ I h) fun u s1 ⟨x,H1,I1,rx,q1⟩=>thn (hi pins s1 σ H1 _ I1 q1) fun iv s2 ⟨y,H2,I2,ry,a,kvs,k,v,ex,hd,ey,hv,q2⟩=> ?_);subst ex ey;obtain rfl:u=Value.ref a:=rx;obtain⟨t,rfl⟩:=ry;unfold kn_ at hd;split at hd
 .rename_i ob hob;have hg:=I2.kIn a ob hob;unfold rV_ at hd;split at hd
  .rename_i c es ep hc hdi hda;rw [A9,A9] at hd;obtain⟨⟨d1,d2⟩,d3⟩:=hd;have hc':ob.cls= .type "dict":=by rw [hc,eq_of_beq d1]
   obtain⟨t',ht⟩:=gc_ d3 hv;have mp:s2.heap.MapOf (intKind X.prog X.w) a (findBy Value.isInt es):=⟨ob,es,ep,hg,⟨hc',hdi,Array.isEmpty_iff.mp d2⟩,hda,fun e he=>gb_ d3 e (by simpa using he),fun _=>rfl⟩;refine⟨⟨ob,hg,hc'⟩,wpAny_getItem_of (knd:=intKind X.prog X.w) (k:=k) (by simp [intKind,Value.isInt]) mp (v:= .int v t') ?_ ⟨.int v,H2,I2.tok _,⟨_,rfl⟩,q2⟩⟩;show findBy Value.isInt es k=_;unfold findBy;obtain⟨l⟩:=es;simpa using ht
  .cases hd
 .cases hd
end L2
namespace Mine
open PySem L2 PyProof.Rows
def top (i:Nat):Stmt:=PySem.Challenge.pw_floorcurves_k93_whole_polynomials.main.body.getD i (.Pass ⟨0,0,0,0⟩)
abbrev dZ_:Stmt:=top 7
theorem iQ_:FnScope ["thing"] ["thing"] (af_ dZ_):=⟨rfl,rfl,rfl,by ac_nf,rfl,by ac_nf,by ac_nf⟩
abbrev b4_:Stmt:=top 8
theorem eT_:FnScope ["thing","least","greatest"] ["thing","least","greatest"] (af_ b4_):=⟨rfl,rfl,rfl,by ac_nf,rfl,by ac_nf,by ac_nf⟩
abbrev dk_:Stmt:=top 9
theorem hB_:FnScope ["d","k"] ["d","k"] (af_ dk_):=⟨rfl,rfl,rfl,by ac_nf,rfl,by ac_nf,by ac_nf⟩
abbrev cp_:Stmt:=top 10
theorem fE_:FnScope ["d"] ["d"] (af_ cp_):=⟨rfl,rfl,rfl,by ac_nf,rfl,by ac_nf,by ac_nf⟩
abbrev a1_:Stmt:=top 12
theorem bq_:FnScope ["numbers","kept"] ["numbers"] (af_ a1_):=⟨rfl,rfl,rfl,by ac_nf,rfl,by ac_nf,by ac_nf⟩
abbrev b3_:Stmt:=top 13
theorem a6_:FnScope ["one","other","total","numbers","place","number"] ["one","other"] (af_ b3_):=⟨rfl,rfl,rfl,by ac_nf,rfl,by ac_nf,by ac_nf⟩
abbrev bs_:Stmt:=top 14
theorem aB_:FnScope ["one","other","total","place","number","further","factor"] ["one","other"] (af_ bs_):=⟨rfl,rfl,rfl,by ac_nf,rfl,by ac_nf,by ac_nf⟩
abbrev di_:Stmt:=top 15
theorem hz_:FnScope ["numbers","place","more"] ["numbers","place","more"] (af_ di_):=⟨rfl,rfl,rfl,by ac_nf,rfl,by ac_nf,by ac_nf⟩
abbrev bI_:Stmt:=top 17
theorem aG_:FnScope ["one","other","greater","lesser","rest"] ["one","other"] (af_ bI_):=⟨rfl,rfl,rfl,by ac_nf,rfl,by ac_nf,by ac_nf⟩
abbrev dY_:Stmt:=top 18
theorem ck_:FnScope ["tops","bottom","divisor","top"] ["tops","bottom"] (af_ dY_):=⟨rfl,rfl,rfl,by ac_nf,rfl,by ac_nf,by ac_nf⟩
abbrev jD_:Stmt:=top 19
theorem iO_:FnScope ["tops","bottom","kept","divisor"] ["tops","bottom"] (af_ jD_):=⟨rfl,rfl,rfl,by ac_nf,rfl,by ac_nf,by ac_nf⟩
abbrev hC_:Stmt:=top 20
theorem iP_:FnScope ["one","other","widened","other_widened"] ["one","other"] (af_ hC_):=⟨rfl,rfl,rfl,by ac_nf,rfl,by ac_nf,by ac_nf⟩
abbrev iU_:Stmt:=top 21
theorem nx_:FnScope ["one","other"] ["one","other"] (af_ iU_):=⟨rfl,rfl,rfl,by ac_nf,rfl,by ac_nf,by ac_nf⟩
abbrev iT_:Stmt:=top 22
theorem dw_:FnScope ["one","at","total","top","divisor"] ["one","at"] (af_ iT_):=⟨rfl,rfl,rfl,by ac_nf,rfl,by ac_nf,by ac_nf⟩
abbrev dz_:Stmt:=top 23
theorem bc_:FnScope ["start","values","total","choosing","differences","taken"] ["start","values"] (af_ dz_):=⟨rfl,rfl,rfl,by ac_nf,rfl,by ac_nf,by ac_nf⟩
abbrev eW_:Stmt:=top 25
theorem cd_:FnScope ["d","drawing","ends","i","j","w"] ["d","drawing"] (af_ eW_):=⟨rfl,rfl,rfl,by ac_nf,rfl,by ac_nf,by ac_nf⟩
abbrev iV_:Stmt:=top 26
theorem ny_:FnScope ["d","drawing"] ["d","drawing"] (af_ iV_):=⟨rfl,rfl,rfl,by ac_nf,rfl,by ac_nf,by ac_nf⟩
abbrev lC_:Stmt:=top 27
theorem pI_:FnScope ["lift"] ["lift"] (af_ lC_):=⟨rfl,rfl,rfl,by ac_nf,rfl,by ac_nf,by ac_nf⟩
abbrev cF_:Stmt:=top 28
theorem bM_:FnScope ["d","floor","weight","spare","found","j","w"] ["d","floor","weight","spare"] (af_ cF_):=⟨rfl,rfl,rfl,by ac_nf,rfl,by ac_nf,by ac_nf⟩
abbrev eV_:Stmt:=top 29
theorem cc_:FnScope ["lifts","weight","spare","found","place","lift","rest"] ["lifts","weight","spare"] (af_ eV_):=⟨rfl,rfl,rfl,by ac_nf,rfl,by ac_nf,by ac_nf⟩
abbrev bD_:Stmt:=top 30
theorem bb_:FnScope ["d","floor","drawing","spare","there","found","lifts","ends","left"] ["d","floor","drawing","spare"] (af_ bD_):=⟨rfl,rfl,rfl,by ac_nf,rfl,by ac_nf,by ac_nf⟩
abbrev cT_:Stmt:=top 31
theorem bk_:FnScope ["d","k","begun","floor","longer","drawing","spare"] ["d","k"] (af_ cT_):=⟨rfl,rfl,rfl,by ac_nf,rfl,by ac_nf,by ac_nf⟩
abbrev iS_:Stmt:=top 32
theorem eC_:FnScope ["drawing","product","lift"] ["drawing"] (af_ iS_):=⟨rfl,rfl,rfl,by ac_nf,rfl,by ac_nf,by ac_nf⟩
abbrev gs_:Stmt:=top 34
theorem dy_:FnScope ["number","chosen","found","place"] ["number","chosen"] (af_ gs_):=⟨rfl,rfl,rfl,by ac_nf,rfl,by ac_nf,by ac_nf⟩
abbrev cE_:Stmt:=top 36
theorem gp_:FnScope ["d","drawing"] ["d","drawing"] (af_ cE_):=⟨rfl,rfl,rfl,by ac_nf,rfl,by ac_nf,by ac_nf⟩
abbrev dl_:Stmt:=top 37
theorem bV_:FnScope ["d","drawing","found","place","number"] ["d","drawing"] (af_ dl_):=⟨rfl,rfl,rfl,by ac_nf,rfl,by ac_nf,by ac_nf⟩
abbrev co_:Stmt:=top 38
theorem a0_:FnScope ["numbers","first","last","alike","found","here","choices","fuller","others"] ["numbers","first","last","alike"] (af_ co_):=⟨rfl,rfl,rfl,by ac_nf,rfl,by ac_nf,by ac_nf⟩
abbrev bA_:Stmt:=top 39
theorem aw_:FnScope ["d","marks","known","mark","fuller","numbers","further","choices"] ["d","marks"] (af_ bA_):=⟨rfl,rfl,rfl,by ac_nf,rfl,by ac_nf,by ac_nf⟩
abbrev d0_:Stmt:=top 40
theorem iR_:FnScope ["d","drawing"] ["d","drawing"] (af_ d0_):=⟨rfl,rfl,rfl,by ac_nf,rfl,by ac_nf,by ac_nf⟩
abbrev bd_:Stmt:=top 41
theorem dx_:FnScope ["d","k"] ["d","k"] (af_ bd_):=⟨rfl,rfl,rfl,by ac_nf,rfl,by ac_nf,by ac_nf⟩
abbrev eD_:Stmt:=top 43
theorem lB_:FnScope ["template"] ["template"] (af_ eD_):=⟨rfl,rfl,rfl,by ac_nf,rfl,by ac_nf,by ac_nf⟩
abbrev bW_:Stmt:=top 44
theorem bL_:FnScope ["k","found","i","j"] ["k"] (af_ bW_):=⟨rfl,rfl,rfl,by ac_nf,rfl,by ac_nf,by ac_nf⟩
abbrev gr_:Stmt:=top 45
theorem cC_:FnScope ["lifts","k","found","place","lift","rest"] ["lifts","k"] (af_ gr_):=⟨rfl,rfl,rfl,by ac_nf,rfl,by ac_nf,by ac_nf⟩
abbrev bO_:Stmt:=top 46
theorem fF_:FnScope ["number","lifts"] ["number","lifts"] (af_ bO_):=⟨rfl,rfl,rfl,by ac_nf,rfl,by ac_nf,by ac_nf⟩
abbrev bQ_:Stmt:=top 47
theorem c3_:FnScope ["lifts","between"] ["lifts"] (af_ bQ_):=⟨rfl,rfl,rfl,by ac_nf,rfl,by ac_nf,by ac_nf⟩
abbrev cm_:Stmt:=top 48
theorem hA_:FnScope ["k"] ["k"] (af_ cm_):=⟨rfl,rfl,rfl,by ac_nf,rfl,by ac_nf,by ac_nf⟩
abbrev jE_:Stmt:=top 49
theorem pJ_:FnScope ["template","j"] ["template","j"] (af_ jE_):=⟨rfl,rfl,rfl,by ac_nf,rfl,by ac_nf,by ac_nf⟩
abbrev bP_:Stmt:=top 50
theorem fG_:FnScope ["template"] ["template"] (af_ bP_):=⟨rfl,rfl,rfl,by ac_nf,rfl,by ac_nf,by ac_nf⟩
abbrev cS_:Stmt:=top 51
theorem dg_:FnScope ["template","place","marks","j"] ["template","place"] (af_ cS_):=⟨rfl,rfl,rfl,by ac_nf,rfl,by ac_nf,by ac_nf⟩
abbrev bX_:Stmt:=top 52
theorem cl_:FnScope ["d","template","reached","heavy"] ["d","template"] (af_ bX_):=⟨rfl,rfl,rfl,by ac_nf,rfl,by ac_nf,by ac_nf⟩
abbrev dj_:Stmt:=top 53
theorem bn_:FnScope ["d","k","found","crossings","template","place","counts"] ["d","k"] (af_ dj_):=⟨rfl,rfl,rfl,by ac_nf,rfl,by ac_nf,by ac_nf⟩
abbrev eX_:Stmt:=top 54
theorem bo_:FnScope ["k","first","standing","known","key","total","crossings","place","behind","counts"] ["k","first","standing","known"] (af_ eX_):=⟨rfl,rfl,rfl,by ac_nf,rfl,by ac_nf,by ac_nf⟩
abbrev bR_:Stmt:=top 55
theorem ev_:FnScope ["d","k"] ["d","k"] (af_ bR_):=⟨rfl,rfl,rfl,by ac_nf,rfl,by ac_nf,by ac_nf⟩
abbrev bg_:Stmt:=top 56
theorem cD_:FnScope ["d","k"] ["d","k"] (af_ bg_):=⟨rfl,rfl,rfl,by ac_nf,rfl,by ac_nf,by ac_nf⟩
abbrev cn_:Stmt:=top 58
theorem fD_:FnScope ["k"] ["k"] (af_ cn_):=⟨rfl,rfl,rfl,by ac_nf,rfl,by ac_nf,by ac_nf⟩
abbrev bt_:Stmt:=top 59
theorem cw_:FnScope ["k","start"] ["k"] (af_ bt_):=⟨rfl,rfl,rfl,by ac_nf,rfl,by ac_nf,by ac_nf⟩
abbrev cG_:Stmt:=top 60
theorem bN_:FnScope ["k","one","degree"] ["k"] (af_ cG_):=⟨rfl,rfl,rfl,by ac_nf,rfl,by ac_nf,by ac_nf⟩
abbrev b5_:Stmt:=top 62
theorem eU_:FnScope ["_law_script","_law_k"] ["_law_script","_law_k"] (af_ b5_):=⟨rfl,rfl,rfl,by ac_nf,rfl,by ac_nf,by ac_nf⟩
abbrev d1_:Stmt:=top 63
theorem dh_:FnScope ["_law_cell","_law_place","_law_far"] ["_law_cell","_law_place"] (af_ d1_):=⟨rfl,rfl,rfl,by ac_nf,rfl,by ac_nf,by ac_nf⟩
abbrev cH_:Stmt:=top 64
theorem gq_:FnScope ["_law_bag_here"] ["_law_bag_here"] (af_ cH_):=⟨rfl,rfl,rfl,by ac_nf,rfl,by ac_nf,by ac_nf⟩
abbrev cI_:Stmt:=top 65
theorem br_:FnScope ["_law_bag_here","_law_many","_law_found","_law_k"] ["_law_bag_here","_law_many"] (af_ cI_):=⟨rfl,rfl,rfl,by ac_nf,rfl,by ac_nf,by ac_nf⟩
abbrev eY_:Stmt:=top 66
theorem cR_:FnScope ["_law_tops","_law_d","_law_total","_law_top"] ["_law_tops","_law_d"] (af_ eY_):=⟨rfl,rfl,rfl,by ac_nf,rfl,by ac_nf,by ac_nf⟩
abbrev pK_:Stmt:=top 67
theorem ej_:FnScope ["_law_script","_law_bag_here","_law_k","_law_d","_law_tops","_law_bottom","_law_start","_law_count"] ["_law_script"] (af_ pK_):=⟨rfl,rfl,rfl,by ac_nf,rfl,by ac_nf,by ac_nf⟩
set_option genInjectivity false
set_option genSizeOfSpec false
structure Fb (K:W.Frag) (mg:Str->Option Value) (n:Str) (st:Stmt) (ps:List Str) (f:Addr) (d:FuncData):Prop where
 F:Fun K n n st f d
 B:k5_ K d ps []
 m:mg n=some (.ref f)
structure Fns (K:W.Frag) (mg:Str->Option Value) where
 f0:Addr
 d0:FuncData
 f1:Addr
 d1:FuncData
 f2:Addr
 d2:FuncData
 f3:Addr
 d3:FuncData
 f4:Addr
 d4:FuncData
 f5:Addr
 d5:FuncData
 f6:Addr
 d6:FuncData
 f7:Addr
 d7:FuncData
 f8:Addr
 d8:FuncData
 f9:Addr
 d9:FuncData
 f10:Addr
 d10:FuncData
 f11:Addr
 d11:FuncData
 f12:Addr
 d12:FuncData
 f13:Addr
 d13:FuncData
 f14:Addr
 d14:FuncData
 f15:Addr
 d15:FuncData
 f16:Addr
 d16:FuncData
 f17:Addr
 d17:FuncData
 f18:Addr
 d18:FuncData
 f19:Addr
 d19:FuncData
 f20:Addr
 d20:FuncData
 f21:Addr
 d21:FuncData
 f22:Addr
 d22:FuncData
 f23:Addr
 d23:FuncData
 f24:Addr
 d24:FuncData
 f25:Addr
 d25:FuncData
 f26:Addr
 d26:FuncData
 f27:Addr
 d27:FuncData
 f28:Addr
 d28:FuncData
 f29:Addr
 d29:FuncData
 f30:Addr
 d30:FuncData
 f31:Addr
 d31:FuncData
 f32:Addr
 d32:FuncData
 f33:Addr
 d33:FuncData
 f34:Addr
 d34:FuncData
 f35:Addr
 d35:FuncData
 f36:Addr
 d36:FuncData
 f37:Addr
 d37:FuncData
 f38:Addr
 d38:FuncData
 f39:Addr
 d39:FuncData
 f40:Addr
 d40:FuncData
 f41:Addr
 d41:FuncData
 f42:Addr
 d42:FuncData
 f43:Addr
 d43:FuncData
 f44:Addr
 d44:FuncData
 f45:Addr
 d45:FuncData
 f46:Addr
 d46:FuncData
 f47:Addr
 d47:FuncData
 f48:Addr
 d48:FuncData
 f49:Addr
 d49:FuncData
 f50:Addr
 d50:FuncData
 f51:Addr
 d51:FuncData
 f52:Addr
 d52:FuncData
 X0:Fb K mg "is_whole" dZ_ ["thing"] f0 d0
 X1:Fb K mg "need_between" b4_ ["thing","least","greatest"] f1 d1
 X2:Fb K mg "need_wide" dk_ ["d","k"] f2 d2
 X3:Fb K mg "need_degree" cp_ ["d"] f3 d3
 X4:Fb K mg "without_last_noughts" a1_ ["numbers"] f4 d4
 X5:Fb K mg "sum_by_place" b3_ ["one","other"] f5 d5
 X6:Fb K mg "product_by_place" bs_ ["one","other"] f6 d6
 X7:Fb K mg "with_more" di_ ["numbers","place","more"] f7 d7
 X8:Fb K mg "common_divisor" bI_ ["one","other"] f8 d8
 X9:Fb K mg "lowering" dY_ ["tops","bottom"] f9 d9
 X10:Fb K mg "poly" jD_ ["tops","bottom"] f10 d10
 X11:Fb K mg "plus" hC_ ["one","other"] f11 d11
 X12:Fb K mg "times" iU_ ["one","other"] f12 d12
 X13:Fb K mg "value" iT_ ["one","at"] f13 d13
 X14:Fb K mg "through" dz_ ["start","values"] f14 d14
 X15:Fb K mg "ends_at" eW_ ["d","drawing"] f15 d15
 X16:Fb K mg "sound" iV_ ["d","drawing"] f16 d16
 X17:Fb K mg "lost" lC_ ["lift"] f17 d17
 X18:Fb K mg "lifts_from" cF_ ["d","floor","weight","spare"] f18 d18
 X19:Fb K mg "leaving" eV_ ["lifts","weight","spare"] f19 d19
 X20:Fb K mg "with_floor" bD_ ["d","floor","drawing","spare"] f20 d20
 X21:Fb K mg "drawings" cT_ ["d","k"] f21 d21
 X22:Fb K mg "worth" iS_ ["drawing"] f22 d22
 X23:Fb K mg "choose" gs_ ["number","chosen"] f23 d23
 X24:Fb K mg "need_sound" cE_ ["d","drawing"] f24 d24
 X25:Fb K mg "end_marks" dl_ ["d","drawing"] f25 d25
 X26:Fb K mg "put_between" co_ ["numbers","first","last","alike"] f26 d26
 X27:Fb K mg "how_many_orders" bA_ ["d","marks"] f27 d27
 X28:Fb K mg "how_many" d0_ ["d","drawing"] f28 d28
 X29:Fb K mg "count_by_floors" bd_ ["d","k"] f29 d29
 X30:Fb K mg "length" eD_ ["template"] f30 d30
 X31:Fb K mg "long_lifts" bW_ ["k"] f31 d31
 X32:Fb K mg "losing" gr_ ["lifts","k"] f32 d32
 X33:Fb K mg "lies_within" bO_ ["number","lifts"] f33 d33
 X34:Fb K mg "is_template" bQ_ ["lifts"] f34 d34
 X35:Fb K mg "templates" cm_ ["k"] f35 d35
 X36:Fb K mg "load" jE_ ["template","j"] f36 d36
 X37:Fb K mg "least_place" bP_ ["template"] f37 d37
 X38:Fb K mg "words_at" cS_ ["template","place"] f38 d38
 X39:Fb K mg "last_place" bX_ ["d","template"] f39 d39
 X40:Fb K mg "standings" dj_ ["d","k"] f40 d40
 X41:Fb K mg "counted" eX_ ["k","first","standing","known"] f41 d41
 X42:Fb K mg "count_of_rows" bR_ ["d","k"] f42 d42
 X43:Fb K mg "count_by_templates" bg_ ["d","k"] f43 d43
 X44:Fb K mg "surely_from" cn_ ["k"] f44 d44
 X45:Fb K mg "polynomial_of" bt_ ["k"] f45 d45
 X46:Fb K mg "holds_from" cG_ ["k"] f46 d46
 X47:Fb K mg "_law_cell_at" b5_ ["_law_script","_law_k"] f47 d47
 X48:Fb K mg "_law_bag" d1_ ["_law_cell","_law_place"] f48 d48
 X49:Fb K mg "_law_mixed" cH_ ["_law_bag_here"] f49 d49
 X50:Fb K mg "_law_digit" cI_ ["_law_bag_here","_law_many"] f50 d50
 X51:Fb K mg "_law_at" eY_ ["_law_tops","_law_d"] f51 d51
 X52:Fb K mg "law" pK_ ["_law_script"] f52 d52
 n_isinstance:mg "isinstance"=none
 n_int:mg "int"=none
 n_bool:mg "bool"=none
 n_list:mg "list"=none
 n_max:mg "max"=none
 n_enumerate:mg "enumerate"=none
 n_len:mg "len"=none
 n_abs:mg "abs"=none
 n_reversed:mg "reversed"=none
 n_zip:mg "zip"=none
 n_min:mg "min"=none
 n_range:mg "range"=none
 n_sum:mg "sum"=none
 n_sorted:mg "sorted"=none
 n_tuple:mg "tuple"=none
 n_set:mg "set"=none
 n_any:mg "any"=none
 n_all:mg "all"=none
 a_WIDE:Addr
 m_WIDE:mg "WIDE"=some (.ref a_WIDE)
 D_WIDE:kn_ K a_WIDE [(1,6),(2,6),(3,6),(4,6),(5,3)]=true
 c_NoBound:Addr
 m_NoBound:mg "NoBound"=some (.ref c_NoBound)
 c_NoNumber:Addr
 m_NoNumber:mg "NoNumber"=some (.ref c_NoNumber)
 c_NoDrawing:Addr
 m_NoDrawing:mg "NoDrawing"=some (.ref c_NoDrawing)
 x_NoBound:W.excIn K c_NoBound bmV "ValueError.__new__"=true
 X_NoBound:XC K c_NoBound
 x_NoNumber:W.excIn K c_NoNumber bmV "ValueError.__new__"=true
 X_NoNumber:XC K c_NoNumber
 x_NoDrawing:W.excIn K c_NoDrawing bmV "ValueError.__new__"=true
 X_NoDrawing:XC K c_NoDrawing
def t3_ (ns:List Int) (n:Nat):List Nat:=(List.range n).filter fun k=>decide (ns.getD k 0≠0)
theorem jk_ {ns cs:List Int}{b:Nat}{z:Int} (h:ns=cs++[z]++List.replicate b 0) (hz:z=0):ns=cs++List.replicate (b+1) 0:=by
 rw [h,hz,Aq];simp
def aH_:List Int->Nat->List Int->List Int
 |[],_,_=>[]
 |t::ts,p+1,zs=>t::aH_ ts p zs
 |t::ts,0,[]=>t::ts
 |t::ts,0,z::zs=>(t+z)::aH_ ts 0 zs
theorem au_:∀(ts:List Int) (p:Nat) (zs:List Int),(aH_ ts p zs).length=ts.length
 |[],_,_=>rfl
 |t::ts,p+1,zs=>by simp [aH_,au_ ts p zs]
 |t::ts,0,[]=>rfl
 |t::ts,0,z::zs=>by simp [aH_,au_ ts 0 zs]
theorem fA_:∀(ts:List Int) (p:Nat),aH_ ts p []=ts
 |[],_=>rfl
 |t::ts,p+1=>by simp [aH_,fA_ ts p]
 |t::ts,0=>rfl
theorem cZ_:∀(ts:List Int) (p:Nat) (ws:List Int) (z:Int),p+ws.length<ts.length->(aH_ ts p ws).set (p+ws.length) ((aH_ ts p ws).getD (p+ws.length) 0+z)=aH_ ts p (ws++[z])
 |[],_,_,_,h=>by simp at h
 |t::ts,p+1,ws,z,h=>by
  have:=cZ_ ts p ws z (by simp at h;lia);rw [show p+1+ws.length=p+ws.length+1 by lia];simp only [aH_,List.set_cons_succ,Cu];rw [this]
 |t::ts,0,[],z,h=>by
  cases ts<;>simp [aH_]
 |t::ts,0,w::ws,z,h=>by
  have:=cZ_ ts 0 ws z (by simp at h⊢;lia);rw [Nat.zero_add] at this;simp only [aH_,Ah,Nat.zero_add,List.set_cons_succ,Cu,List.cons_append];rw [this]
def cv (xs ys:List Int):Nat->List Int
 |0=>List.replicate (xs.length+ys.length) 0
 |i+1=>aH_ (cv xs ys i) i (ys.map (xs.getD i 0* ·))
theorem cN_ (xs ys:List Int):∀i,(cv xs ys i).length=xs.length+ys.length
 |0=>by simp [cv]
 |i+1=>by rw [cv,au_,cN_ xs ys i]
def gl_ (xs ys:List Int):List Int:=aH_ (aH_ (List.replicate (max xs.length ys.length) 0) 0 xs) 0 ys
def gz (zs:List Int) (k:Int):Int:=if 0<=k then zs.getD k.toNat 0 else 0
theorem fp_ (zs:List Int) (i:Nat):gz zs (i:Int)=zs.getD i 0:=by
 unfold gz;rw [A8 (by lia),AV]
theorem mK_ {zs:List Int}{k:Int} (h:k<0):gz zs k=0:=by
 unfold gz;rw [A6 (by lia)]
theorem o5_ {zs:List Int}{k:Int} (h:(zs.length:Int)<=k):gz zs k=0:=by
 unfold gz;split
 .rw [List.getD,Cf (by lia)];rfl
 .rfl
theorem fo_ (k:Int):gz [] k=0:=by
 unfold gz;split<;>simp
theorem b8_ (x:Int) (xs:List Int) (k:Int):gz (x::xs) k=(if k=0 then x else 0)+gz xs (k-1):=by
 by_cases h:k<0
 .rw [mK_ h,mK_ (by lia),A6 (by lia)];rfl
 .obtain⟨n,rfl⟩:∃n:Nat,k=n:=⟨k.toNat,by lia⟩;cases n with
  |zero=>rw [fp_,A8 (by lia),mK_ (by lia)];simp
  |succ n=>
   rw [fp_,A6 (by lia),show((n+1:Nat):Int)-1=(n:Int) by lia,fp_];simp
theorem mL_ (xs ys:List Int) (k:Int):gz (xs++ys) k=gz xs k+gz ys (k-xs.length):=by
 induction xs generalizing k with
 |nil=>rw [fo_,List.nil_append];simp
 |cons x xs ih=>
  rw [List.cons_append,b8_,b8_,ih];rw [show k-1-(xs.length:Int)=k-((x::xs).length:Int) by simp;lia];lia
theorem kh_ (n:Nat) (k:Int):gz (List.replicate n 0) k=0:=by
 induction n generalizing k with
 |zero=>exact fo_ k
 |succ n ih=>rw [Aq,b8_,ih];split<;>rfl
theorem fq_:∀(ts:List Int) (p:Nat) (zs:List Int) (k:Int),p+zs.length<=ts.length->gz (aH_ ts p zs) k=gz ts k+gz zs (k-p)
 |[],p,zs,k,h=>by
  have:zs=[]:=B6.mp (by rw [List.length_nil] at h;lia);rw [this,fo_];simp [aH_,fo_]
 |t::ts,p+1,zs,k,h=>by
  rw [aH_,b8_,b8_,fq_ ts p zs (k-1) (by simp at h;lia),show k-1-(p:Int)=k-((p+1:Nat):Int) by lia];lia
 |t::ts,0,[],k,h=>by
  rw [aH_,fo_];simp
 |t::ts,0,z::zs,k,h=>by
  rw [aH_,b8_,b8_,fq_ ts 0 zs (k-1) (by simp at h⊢;lia),show k-((0:Nat):Int)=k by lia,b8_ z,show k-1-((0:Nat):Int)=k-1 by lia];split<;>lia
theorem bB_ (x:Int) (ys:List Int) (k:Int):gz (ys.map (x* ·)) k=x*gz ys k:=by
 induction ys generalizing k with
 |nil=>rw [Cy,fo_,Int.mul_zero]
 |cons y ys ih=>
  rw [AT,b8_,b8_,ih,Int.mul_add];split
  .rfl
  .rw [Int.mul_zero]
def cz:List Int->List Int->Int->Int
 |[],_,_=>0
 |x::xs,ys,k=>x*gz ys k+cz xs ys (k-1)
theorem qD_ (xs:List Int) (x:Int) (ys:List Int) (k:Int):cz (xs++[x]) ys k=cz xs ys k+x*gz ys (k-xs.length):=by
 induction xs generalizing k with
 |nil=>simp [cz]
 |cons y xs ih=>
  rw [List.cons_append,cz,cz,ih,show k-1-(xs.length:Int)=k-((y::xs).length:Int) by simp;lia];lia
theorem sf_ (xs ys:List Int) (k:Int):∀i,i<=xs.length->gz (cv xs ys i) k=cz (xs.take i) ys k
 |0,_=>by rw [cv,kh_,List.take_zero];rfl
 |i+1,h=>by
  have e:xs.take (i+1)=xs.take i++[xs.getD i 0]:=by
   rw [AF,A2 (by lia)];simp [List.getD,show i<xs.length by lia]
  rw [cv,fq_ _ _ _ _ (by rw [cN_,A1];lia),sf_ xs ys k i (by lia),bB_,e,qD_,AW,CL (by lia)]
def Kp (ns ks:List Int):Prop:=(∃b:Nat,ns=ks++List.replicate b 0)/\(ks=[]\/ks.getLast? ≠some 0)
theorem Kp.coef {ns ks:List Int} (h:Kp ns ks) (k:Int):gz ns k=gz ks k:=by
 obtain⟨⟨b,e⟩,_⟩:=h;rw [e,mL_,kh_];lia
theorem Kp.len {ns ks:List Int} (h:Kp ns ks):ks.length<=ns.length:=by
 obtain⟨⟨b,e⟩,_⟩:=h;rw [e,AH];lia
theorem Kp.mem {ns ks:List Int} (h:Kp ns ks):∀x∈ks,x∈ns:=fun x hx=>by
 obtain⟨⟨b,e⟩,_⟩:=h;rw [e];simp [hx]
theorem Kp.le {ns ks ms js:List Int} (h:Kp ns ks) (h':Kp ms js) (e:∀k,gz ns k=gz ms k):ks.length<=js.length:=by
 rcases BH js.length ks.length with q|q
 .exfalso;have e1:=e ((ks.length:Int)-1);rw [h.coef,h'.coef,o5_ (zs:=js) (by lia)] at e1;have pos:0<ks.length:=by lia
  rw [show(ks.length:Int)-1=((ks.length-1:Nat):Int) by lia,fp_,List.getD] at e1;rcases h.2 with z|z
  .rw [z] at pos;simp at pos
  .refine z ?_;rw [List.getLast?_eq_getElem?,A2 (by lia)];rw [A2 (by lia)] at e1;exact BR some e1
 .exact q
theorem Kp.same {ns ks ms js:List Int} (h:Kp ns ks) (h':Kp ms js) (e:∀k,gz ns k=gz ms k):ks=js:=by
 have l1:=h.le h' e;have l2:=h'.le h fun k=>(e k).symm;refine List.ext_getElem (by lia) fun i p q=> ?_;have:=e (i:Int);rw [h.coef,h'.coef,fp_,fp_] at this;simpa [List.getD,p,q] using this
def dt_ (b:Nat) (ts:List Int):Nat:=ts.foldl (fun g t=>Nat.gcd g t.natAbs) b
theorem dQ_ (b:Nat) (ts:List Int):dt_ b ts∣b:=by
 unfold dt_;induction ts generalizing b with
 |nil=>exact Nat.dvd_refl b
 |cons t ts ih=>exact Nat.dvd_trans (ih (Nat.gcd b t.natAbs)) (Nat.gcd_dvd_left ..)
theorem mM_ (b:Nat) (ts:List Int) (t:Int):dt_ b (ts++[t])=Nat.gcd (dt_ b ts) t.natAbs:=by
 unfold dt_;rw [Ca];rfl
theorem eH_ {b:Nat} (h:0<b) (ts:List Int):0<dt_ b ts:=Nat.pos_of_dvd_of_pos (dQ_ b ts) h
theorem jf_ {b:Nat} (h:0<b) (ts:List Int):dt_ b ts<=b:=Nat.le_of_dvd h (dQ_ b ts)
def Lo (ns:List Int) (b:Int) (zs:List Int) (bt:Int):Prop:=∃ks,Kp ns ks/\zs=ks.map (fun t=>t.fdiv (dt_ b.natAbs ks:Int))/\bt=b.fdiv (dt_ b.natAbs ks:Int)
theorem mQ_ {t B:Int}{g:Nat} (hg:0<g) (h: -B<=t/\t<=B): -B<=t.fdiv (g:Int)/\t.fdiv (g:Int)<=B:=by
 have hg':(0:Int)<g:=by lia
 rw [BU _ (by lia:(0:Int)<=g)];constructor
 .rcases(by lia:0<=t\/t<0) with z|z
  .have:=Int.ediv_nonneg z (by lia:(0:Int)<=g);lia
  .have:t<=t/(g:Int):=by
    rw [Int.le_ediv_iff_mul_le hg'];obtain⟨n,rfl⟩:∃n:Nat,t= -(n:Int):=⟨t.natAbs,by lia⟩;have h1:n<=n*g:=Nat.le_mul_of_pos_right n hg;rw [Int.neg_mul];have h2:((n*g:Nat):Int)=(n:Int)*(g:Int):=Int.natCast_mul ..
    lia
   lia
 .rcases(by lia:0<=t\/t<0) with z|z
  .have:=Int.ediv_le_self (g:Int) z;lia
  .have:=Int.ediv_neg_of_neg_of_pos z hg';lia
abbrev Bd (B:Int) (l:List Int):Prop:=∀x∈l,-B<=x/\x<=B
theorem Bd.mono {A B:Int}{l:List Int} (h:Bd A l) (e:A<=B):Bd B l:=fun x hx=>by have:=h x hx;lia
theorem dU_ {A B:Int} (hA:0<=A) (hB:0<=B):∀(ts:List Int) (p:Nat) (zs:List Int),Bd A ts->Bd B zs->Bd (A+B) (aH_ ts p zs)
 |[],_,_,_,_=>by intro x hx;simp [aH_] at hx
 |t::ts,p+1,zs,h1,h2=>by
  intro x hx;rw [aH_] at hx;rcases AO.mp hx with e|e
  .have:=h1 t (by simp);lia
  .exact dU_ hA hB ts p zs (fun y hy=>h1 y (by simp [hy])) h2 x e
 |t::ts,0,[],h1,h2=>by
  intro x hx;rw [aH_] at hx;have:=h1 x hx;lia
 |t::ts,0,z::zs,h1,h2=>by
  intro x hx;rw [aH_] at hx;rcases AO.mp hx with e|e
  .have a1:=h1 t (by simp);have a2:=h2 z (by simp);lia
  .exact dU_ hA hB ts 0 zs (fun y hy=>h1 y (by simp [hy])) (fun y hy=>h2 y (by simp [hy])) x e
theorem oI_ (n:Nat):Bd 0 (List.replicate n 0):=fun x hx=>by
 rw [List.eq_of_mem_replicate hx];decide
theorem rY_ {x y:Int}{A B:Nat} (hx: -(A:Int)<=x/\x<=A) (hy: -(B:Int)<=y/\y<=B): -((A*B:Nat):Int)<=x*y/\x*y<=((A*B:Nat):Int):=by
 have h:(x*y).natAbs<=A*B:=by
  rw [Cc];exact BS (by lia) (by lia)
 lia
def cvA (n:Nat) (xs ys:List Int):Nat->List Int
 |0=>List.replicate n 0
 |i+1=>aH_ (cvA n xs ys i) i (ys.map (xs.getD i 0* ·))
theorem pe_ {n:Nat}{xs ys:List Int}{A B:Nat} (h1:Bd A xs) (h2:Bd B ys):∀i:Nat,i<=xs.length->Bd ((i*(A*B):Nat):Int) (cvA n xs ys i)
 |0,_=>by
  rw [Nat.zero_mul];exact oI_ n
 |i+1,h=>by
  have:=dU_ (A:=((i*(A*B):Nat):Int)) (B:=((A*B:Nat):Int)) (by lia) (by lia) (cvA n xs ys i) i (ys.map (xs.getD i 0* ·)) (pe_ h1 h2 i (by lia)) fun x hx=>by
   obtain⟨y,hy,rfl⟩:=AY.mp hx;exact rY_ (h1 _ (by simp [List.getD,show i<xs.length by lia])) (h2 y hy)
  rw [cvA];refine this.mono ?_;rw [Cw];lia
def hor (a:Int) (l:List Int):Int:=l.foldl (fun s t=>s*a+t) 0
def uA_ (a:Int):List Int->Int->Int
 |[],_=>0
 |t::ts,p=>t*p+uA_ a ts (p*a)
theorem dO_ (a:Int) (l:List Int) (t:Int):hor a (l++[t])=hor a l*a+t:=by
 unfold hor;rw [Ca];rfl
theorem o4_ {a:Int}{l:List Int} (ha:a.natAbs<=2^67) (hl:∀x∈l,x.natAbs<=2^87):∀i,i<=l.length->(hor a (l.take i)).natAbs<=2^(100*i)
 |0,_=>by simp [hor]
 |i+1,h=>by
  have e:l.take (i+1)=l.take i++[l[i]]:=by
   rw [AF,A2 (by lia)];rfl
  rw [e,dO_];have h1:=o4_ ha hl i (by lia);have h2:=hl l[i] (by simp);have h3:(hor a (l.take i)*a).natAbs<=2^(100*i)*2^67:=by
   rw [Cc];exact BS h1 ha
  have h4:2^87<=2^(100*i)*2^87:=Nat.le_mul_of_pos_left _ (Nat.pow_pos (by decide));have h5:2^(100*(i+1))=2^(100*i)*2^100:=by rw [Nat.mul_add,Nat.pow_add]
  have h6:2^(100*i)*2^67+2^(100*i)*2^87<=2^(100*i)*2^100:=by
   rw [<-Nat.mul_add];exact Nat.mul_le_mul_left _ (by decide)
  have h7:=Int.natAbs_add_le (hor a (l.take i)*a) l[i];lia
theorem bY_ {x n:Nat} (h:x<=2^n) (hn:n<4096):x<2^4096:=CS h (Nat.pow_lt_pow_right (by decide) hn)
def Vl (s b:Int) (x y:Int):Prop:=x=s.fdiv (Nat.gcd b.natAbs s.natAbs:Int)/\y=b.fdiv (Nat.gcd b.natAbs s.natAbs:Int)
theorem oc_ (x y:Nat):Nat.gcd y (x%y)=Nat.gcd x y:=by
 rw [Nat.gcd_comm x y,Nat.gcd_rec y x,Nat.gcd_comm]
theorem Lo.len {ns zs:List Int}{b bt:Int} (h:Lo ns b zs bt):zs.length<=ns.length:=by
 obtain⟨ks,k1,k2,_⟩:=h;rw [k2,A1];exact k1.len
def ev:List Int->Int->Int
 |[],_=>0
 |t::ts,x=>t+x*ev ts x
theorem fs_ (x:Int):∀xs ys:List Int,ev (xs++ys) x=ev xs x+x^xs.length*ev ys x
 |[],ys=>by simp [ev]
 |t::ts,ys=>by
  rw [List.cons_append,ev,ev,fs_ x ts ys,Ah,Cb]
  grind
theorem kl_ (x:Int):∀n:Nat,ev (List.replicate n 0) x=0
 |0=>rfl
 |n+1=>by rw [Aq,ev,kl_ x n];simp
theorem fr_ (c x:Int):∀xs:List Int,ev (xs.map (c* ·)) x=c*ev xs x
 |[]=>by simp [ev]
 |t::ts=>by rw [AT,ev,ev,fr_ c x ts];grind
theorem ji_ (c x:Int):∀xs:List Int,ev (xs.map (· *c)) x=ev xs x*c
 |[]=>by simp [ev]
 |t::ts=>by rw [AT,ev,ev,ji_ c x ts];grind
theorem ga_ (x:Int):∀(ts:List Int) (p:Nat) (zs:List Int),p+zs.length<=ts.length->ev (aH_ ts p zs) x=ev ts x+x^p*ev zs x
 |[],p,zs,h=>by
  have:zs=[]:=by
   cases zs with
   |nil=>rfl
   |cons _ _=>simp at h
  subst this;simp [aH_,ev]
 |t::ts,p+1,zs,h=>by
  rw [aH_,ev,ev,ga_ x ts p zs (by simp at h;lia),Cb]
  grind
 |t::ts,0,[],h=>by simp [aH_,ev]
 |t::ts,0,z::zs,h=>by
  rw [aH_,ev,ev,ev,ga_ x ts 0 zs (by simp at h⊢;lia)];simp only [Int.pow_zero]
  grind
theorem jh_ (x:Int) (xs ys:List Int):ev (gl_ xs ys) x=ev xs x+ev ys x:=by
 unfold gl_;rw [ga_ x _ 0 ys (by rw [au_,Af];lia),ga_ x _ 0 xs (by rw [Af];lia),kl_];simp
theorem sk_ (x:Int) (xs ys:List Int):∀i,i<=xs.length->ev (cv xs ys i) x=ev (xs.take i) x*ev ys x
 |0,_=>by simp [cv,kl_,ev]
 |i+1,h=>by
  have hi:i<xs.length:=by lia
  rw [cv,ga_ x _ i _ (by rw [cN_,A1];lia),sk_ x xs ys i (by lia),fr_];have e:xs.take (i+1)=xs.take i++[xs.getD i 0]:=by rw [AF,List.getD,A2 hi];rfl
  rw [e,fs_,AW,CL (by lia)];simp only [ev]
  grind
theorem mR_ (x:Int) (xs ys:List Int):ev (cv xs ys xs.length) x=ev xs x*ev ys x:=by rw [sk_ x xs ys _ (A7 _),AR]
theorem mG_ (x:Int):∀zs:List Int,hor x zs.reverse=ev zs x
 |[]=>rfl
 |t::ts=>by rw [List.reverse_cons,dO_,mG_ x ts,ev];grind
theorem kj_:∀{ts:List Int}{b:Nat}{t:Int},t∈ts->dt_ b ts∣t.natAbs
 |u::ts,b,t,h=>by
  show dt_ (Nat.gcd b u.natAbs) ts∣t.natAbs;rcases AO.mp h with e|e
  .subst e;exact Nat.dvd_trans (dQ_ _ ts) (Nat.gcd_dvd_right ..)
  .exact kj_ e
theorem dP_ (g:Nat):∀(ts:List Int) (b:Nat),dt_ (g*b) (ts.map ((g:Int)* ·))=g*dt_ b ts
 |[],b=>rfl
 |t::ts,b=>by
  show dt_ (Nat.gcd (g*b) ((g:Int)*t).natAbs) (ts.map ((g:Int)* ·))=g*dt_ (Nat.gcd b t.natAbs) ts;rw [Cc,Int.natAbs_natCast,Nat.gcd_mul_left];exact dP_ g ts _
theorem od_ (ts:List Int):dt_ 1 ts=1:=Nat.dvd_one.mp (dQ_ 1 ts)
theorem mf_ {f:Int->Int}:∀{l:List Int},(∀t∈l,f t=t)->l.map f=l
 |[],_=>rfl
 |t::ts,h=>by rw [AT,h t (by simp),mf_ fun u hu=>h u (by simp [hu])]
def Low (zs:List Int) (b:Int):Prop:=1<=b/\dt_ b.natAbs zs=1/\(zs=[]\/zs.getLast? ≠some 0)
theorem Lo.back {ns zs:List Int}{b bt:Int} (h:Lo ns b zs bt) (hb:0<b):∃(ks:List Int) (g:Nat),0<g/\Kp ns ks/\ks=zs.map ((g:Int)* ·)/\b=(g:Int)*bt/\g=dt_ b.natAbs ks:=by
 obtain⟨ks,k1,e1,e2⟩:=h;have hp:0<b.natAbs:=by lia
 have gp:=eH_ hp ks;refine⟨ks,dt_ b.natAbs ks,gp,k1, ?_, ?_,rfl⟩
 .rw [e1,Bh];refine(mf_ fun t ht=> ?_).symm;have d:((dt_ b.natAbs ks:Nat):Int)∣t:=D6.mpr (kj_ ht);show((dt_ b.natAbs ks:Nat):Int)*t.fdiv ((dt_ b.natAbs ks:Nat):Int)=t;rw [BU _ (by lia)];exact Cp d
 .rw [e2];have d:((dt_ b.natAbs ks:Nat):Int)∣b:=D6.mpr (dQ_ _ _);rw [BU _ (by lia)];exact(Cp d).symm
theorem Kp.ev {ns ks:List Int} (h:Kp ns ks) (x:Int):ev ns x=Mine.ev ks x:=by
 obtain⟨⟨b,e⟩,_⟩:=h;rw [e,fs_,kl_];simp
theorem Lo.ev {ns zs:List Int}{b bt:Int} (h:Lo ns b zs bt) (hb:0<b) (x:Int):Mine.ev zs x*b=Mine.ev ns x*bt:=by
 obtain⟨ks,g,gp,k1,e1,e2,_⟩:=h.back hb;rw [k1.ev x,e1,fr_,e2]
 grind
theorem g1_ {f:Int->Int}{zs:List Int}:(zs.map f).getLast? =zs.getLast?.map f:=by rw [List.getLast?_map]
theorem Lo.low {ns zs:List Int}{b bt:Int} (h:Lo ns b zs bt) (hb:0<b):Low zs bt:=by
 obtain⟨ks,g,gp,k1,e1,e2,e3⟩:=h.back hb;have bp:0<bt:=by
  have:(0:Int)<(g:Int)*bt:=by lia
  rcases Int.lt_or_le 0 bt with q|q
  .exact q
  .have:=Int.mul_le_mul_of_nonneg_left q (show(0:Int)<=g by lia);lia
 refine⟨by lia, ?_, ?_⟩
 .have e4:b.natAbs=g*bt.natAbs:=by rw [e2,Cc,Int.natAbs_natCast]
  rw [e1,e4,dP_] at e3;have:g*1=g*dt_ bt.natAbs zs:=by rw [Nat.mul_one];exact e3
  exact(Nat.eq_of_mul_eq_mul_left gp this).symm
 .rcases k1.2 with z|z
  .left;rw [e1] at z;exact List.map_eq_nil_iff.mp z
  .right;intro q;refine z ?_;rw [e1,g1_,q];simp
def bin:Nat->Nat->Nat
 |_,0=>1
 |0,_+1=>0
 |m+1,r+1=>bin m r+bin m (r+1)
theorem dS_ (m:Nat):bin m 0=1:=by cases m<;>rfl
theorem eN_:∀(m i:Nat),((i:Int)+1)*(bin m (i+1):Int)=((m:Int)-(i:Int))*(bin m i:Int)
 |0,0=>by simp [bin]
 |0,i+1=>by simp [bin]
 |m+1,0=>by
  have:=eN_ m 0;rw [dS_] at this⊢;rw [show bin (m+1) (0+1)=bin m 0+bin m (0+1) from rfl,dS_];simp at this⊢;lia
 |m+1,i+1=>by
  have h1:=eN_ m i;have h2:=eN_ m (i+1);rw [bin,bin];simp only [Int.natCast_add,Int.natCast_one] at*
  grind
def dl (v:Nat->Int):Nat->Nat->Int
 |0,j=>v j
 |r+1,j=>dl v r (j+1)-dl v r j
def sm (f:Nat->Int):Nat->Int
 |0=>0
 |n+1=>sm f n+f n
theorem iM_ (f:Nat->Int):∀n,sm f (n+1)=f 0+sm (fun r=>f (r+1)) n
 |0=>by simp [sm]
 |n+1=>by rw [sm,iM_ f n,sm];lia
theorem oF_ (f g:Nat->Int):∀n,sm (fun r=>f r+g r) n=sm f n+sm g n
 |0=>rfl
 |n+1=>by simp only [sm];rw [oF_ f g n];lia
theorem gn_ {f g:Nat->Int}:∀n,(∀r,r<n->f r=g r)->sm f n=sm g n
 |0,_=>rfl
 |n+1,h=>by simp only [sm];rw [gn_ n fun r hr=>h r (by lia),h n (by lia)]
theorem lw_:∀n,sm (fun _=>0) n=0
 |0=>rfl
 |n+1=>by simp only [sm];rw [lw_ n];rfl
theorem l9_ (v:Nat->Int):∀(m s N:Nat),m<N->dl v s m=sm (fun r=>(bin m r:Int)*dl v (s+r) 0) N
 |0,s,N,h=>by
  obtain⟨N,rfl⟩:∃k,N=k+1:=⟨N-1,by lia⟩;rw [iM_,gn_ (g:=fun _=>0) N (fun r _=>by simp [bin]),lw_];simp [bin]
 |m+1,s,N,h=>by
  obtain⟨N,rfl⟩:∃k,N=k+1:=⟨N-1,by lia⟩;have h1:=l9_ v m s (N+1) (by lia);have h2:=l9_ v m (s+1) N (by lia);rw [iM_] at h1⊢;have e:dl v s (m+1)=dl v s m+dl v (s+1) m:=by show _=_+(dl v s (m+1)-dl v s m);lia
  rw [e,h1,h2,dS_,dS_,Int.add_assoc,<-oF_];refine BR _ (gn_ N fun r _=> ?_);rw [bin,show s+1+r=s+(r+1) by lia];simp only [Int.natCast_add]
  grind
def quo:List Int->Int->List Int
 |[],_=>[]
 |_::ts,a=>aH_ ts 0 ((quo ts a).map (a* ·))
theorem d2_ (a:Int):∀ps:List Int,(quo ps a).length=ps.length-1
 |[]=>rfl
 |t::ts=>by rw [quo,au_];simp
theorem oJ_ (a x:Int):∀ps:List Int,ev ps x=ev ps a+(x-a)*ev (quo ps a) x
 |[]=>by simp [ev,quo]
 |t::ts=>by
  have ih:=oJ_ a x ts;rw [quo,ga_ x ts 0 _ (by rw [A1,d2_];lia),fr_,ev,ev];simp only [Int.pow_zero,Int.one_mul];have e:x*ev ts x-a*ev ts a=(x-a)*ev ts x+a*(ev ts x-ev ts a):=by grind
  have e2:ev ts x-ev ts a=(x-a)*ev (quo ts a) x:=by lia
  rw [e2] at e
  grind
theorem kw_:∀(ts zs:List Int),zs.length<ts.length->(aH_ ts 0 zs).getLast? =ts.getLast?
 |[],_,h=>by simp at h
 |t::ts,[],_=>rfl
 |t::ts,z::zs,h=>by
  have h':zs.length<ts.length:=by simpa using h
  rw [aH_];cases ts with
  |nil=>simp at h'
  |cons u us=>
   have:=kw_ (u::us) zs h';cases e:aH_ (u::us) 0 zs with
   |nil=>rw [<-B6,au_] at e;simp at e
   |cons w ws=>rw [e] at this;rw [List.getLast?_cons_cons,List.getLast?_cons_cons,this]
theorem gN_:∀(n:Nat) (ps:List Int) (s c:Int),ps.length=n->ps.getLast? =some c->c≠0->(∀m:Nat,m<n->ev ps (s+m)=0)->False
 |0,ps,_,_,hl,hc,_,_=>by rw [B6.mp hl] at hc;simp at hc
 |1,ps,s,c,hl,hc,h0,h=>by
  obtain⟨t,rfl⟩:=List.length_eq_one_iff.mp hl;have:=h 0 (by lia);simp [ev] at this hc;exact h0 (by rw [<-hc,this])
 |n+2,ps,s,c,hl,hc,h0,h=>by
  match ps,hl,hc,h with
  |t::u::us,hl,hc,h=>
   refine gN_ (n+1) (quo (t::u::us) s) (s+1) c (by rw [d2_];simp at hl⊢;lia) ?_ h0 fun m hm=> ?_
   .rw [quo,kw_ _ _ (by rw [A1,d2_];simp),<-hc,List.getLast?_cons_cons]
   .have e0:=h 0 (by lia);have e1:=h (m+1) (by lia);rw [oJ_ s] at e1;simp only [Int.natCast_zero,Int.add_zero] at e0;rw [e0] at e1;have e2:s+((m+1:Nat):Int)=s+1+(m:Int):=by lia
    rw [e2,Int.zero_add] at e1;rcases Int.mul_eq_zero.mp e1 with q|q
    .lia
    .exact q
theorem Kp.ex:∀(n:Nat) (ns:List Int),ns.length=n->∃ks,Kp ns ks
 |0,ns,h=>⟨[],⟨0,by rw [B6.mp h];rfl⟩, .inl rfl⟩
 |n+1,ns,h=>by
  rcases List.eq_nil_or_concat ns with rfl|⟨ms,c,rfl⟩
  .simp at h
  .by_cases hc:c=0
   .obtain⟨ks,⟨b,e⟩,k⟩:=Kp.ex n ms (by simpa using h);exact⟨ks,⟨b+1,by rw [e,hc,List.concat_eq_append,List.replicate_succ',BC]⟩,k⟩
   .exact⟨ms.concat c,⟨0,by simp⟩, .inr (by rw [List.concat_eq_append,List.getLast?_append];simpa using hc)⟩
theorem o6_ {ns:List Int} (h:Kp ns []) (k:Int):gz ns k=0:=by rw [h.coef,fo_]
theorem only{zs tops:List Int}{b s:Int}{n:Nat} (hl:Low zs b) (ht:tops=[]\/tops.getLast? ≠some 0) (l1:zs.length<=n) (l2:tops.length<=n) (h:∀m:Nat,m<n->ev zs (s+m)=ev tops (s+m)*b):zs=tops/\b=1:=by
 obtain⟨hb,hg,hz⟩:=hl;obtain⟨ks,hk⟩:=Kp.ex _ (gl_ zs (tops.map (-b* ·))) rfl;have len:(gl_ zs (tops.map (-b* ·))).length<=n:=by
  unfold gl_;rw [au_,au_,Af,A1];lia
 have z0:ks=[]:=by
  rcases hk.2 with q|q
  .exact q
  .cases e:ks.getLast? with
   |none=>exact List.getLast?_eq_none_iff.mp e
   |some c=>
    exfalso;have kl:=hk.len;refine gN_ ks.length ks s c rfl e (fun z=>q (by rw [e,z])) fun m hm=> ?_;rw [<-hk.ev,jh_,fr_,h m (by lia)]
    grind
 subst z0;have co:∀k,gz zs k=gz (tops.map (b* ·)) k:=fun k=>by
  have:=o6_ hk k;unfold gl_ at this;rw [fq_ _ 0 _ _ (by rw [au_,Af];lia),fq_ _ 0 _ _ (by rw [Af];lia),kh_,bB_] at this;rw [bB_];simp at this
  grind
 have kz:Kp zs zs:=⟨⟨0,by simp⟩,hz⟩;have kt:Kp (tops.map (b* ·)) (tops.map (b* ·)):=by
  refine⟨⟨0,by simp⟩, ?_⟩;rcases ht with q|q
  .left;rw [q];rfl
  .right;rw [g1_];cases e:tops.getLast? with
   |none=>simp
   |some c=>
    rw [e] at q;simp at q⊢;lia
 have e:=kz.same kt co;have e1:b=1:=by
  have:=dP_ b.natAbs tops 1;rw [show((b.natAbs:Nat):Int)=b by lia,<-e,Nat.mul_one,hg,od_] at this;lia
 rw [e1] at e;simp at e;exact⟨e,e1⟩
theorem by_ {x n m:Nat} (h:x<=2^n) (hn:n<=m):x<=2^m:=Ac h (Cm (by decide) hn)
theorem d9_ {x y:Int}{a b c:Nat} (h1:x.natAbs<=2^a) (h2:y.natAbs<=2^b) (h:a+b<=c):(x*y).natAbs<=2^c:=by
 rw [Cc];refine by_ (n:=a+b) ?_ h;rw [Nat.pow_add];exact BS h1 h2
theorem nc_ {x y:Int}{a b c:Nat} (h1:x.natAbs<=2^a) (h2:y.natAbs<=2^b) (ha:a+1<=c) (hb:b+1<=c):(x+y).natAbs<=2^c:=by
 have h:=Int.natAbs_add_le x y;have e:2^c=2^(c-1)+2^(c-1):=by
  obtain⟨d,rfl⟩:∃d,c=d+1:=⟨c-1,by lia⟩;rw [Nat.pow_succ];simp;lia
 have p1:=by_ h1 (show a<=c-1 by lia);have p2:=by_ h2 (show b<=c-1 by lia);lia
def Bn (n:Nat) (l:List Int):Prop:=∀x∈l,x.natAbs<=2^n
theorem Bn.mono {n m:Nat}{l:List Int} (h:Bn n l) (e:n<=m):Bn m l:=fun x hx=>by_ (h x hx) e
theorem Bn.bd {n:Nat}{l:List Int} (h:Bn n l):Bd ((2^n:Nat):Int) l:=fun x hx=>by have:=h x hx;lia
theorem Bd.bn {n:Nat}{l:List Int} (h:Bd ((2^n:Nat):Int) l):Bn n l:=fun x hx=>by have:=h x hx;lia
theorem tN_ {xs ys:List Int}{A B:Nat} (h1:Bd A xs) (h2:Bd B ys):Bd ((xs.length*(A*B):Nat):Int) (cv xs ys xs.length):=by
 have e:∀i,cv xs ys i=cvA (xs.length+ys.length) xs ys i:=fun i=>by
  induction i with
  |zero=>rfl
  |succ i ih=>rw [cv,cvA,ih]
 rw [e];exact pe_ h1 h2 _ (A7 _)
theorem sr_ {xs ys:List Int}{a b c:Nat} (h1:Bn a xs) (h2:Bn b ys) (hl:xs.length<=16) (h:a+b+4<=c):Bn c (cv xs ys xs.length):=by
 have:=tN_ h1.bd h2.bd;refine Bd.bn (this.mono ?_);have e1:xs.length*(2^a*2^b)<=2^4*(2^a*2^b):=Nat.mul_le_mul_right _ (by lia);have e2:2^4*(2^a*2^b)=2^(a+b+4):=by rw [<-Nat.pow_add,<-Nat.pow_add,Nat.add_comm]
 have e3:=by_ (x:=2^(a+b+4)) (A7 _) h;lia
theorem ma_ {xs:List Int}{c:Int}{a b d:Nat} (h1:Bn a xs) (h2:c.natAbs<=2^b) (h:a+b<=d):Bn d (xs.map (· *c)):=fun x hx=>by
 obtain⟨y,hy,rfl⟩:=AY.mp hx;exact d9_ (h1 y hy) h2 h
theorem rh_ {xs ys:List Int}{a b c:Nat} (h1:Bn a xs) (h2:Bn b ys) (ha:a+1<=c) (hb:b+1<=c):Bn c (gl_ xs ys):=by
 have p:Bd ((2^(c-1):Nat):Int) xs:=(h1.mono (show a<=c-1 by lia)).bd;have q:Bd ((2^(c-1):Nat):Int) ys:=(h2.mono (show b<=c-1 by lia)).bd;have nn:=Int.natCast_nonneg (2^(c-1));refine Bd.bn ((dU_ (by lia) nn _ 0 _ (dU_ (by decide) nn _ 0 _ (oI_ (max xs.length ys.length)) p) q).mono ?_);obtain⟨d,rfl⟩:∃d,c=d+1:=⟨c-1,by lia⟩;rw [Nat.pow_succ];simp;lia
theorem Lo.nat {ns zs:List Int}{b bt:Int} (h:Lo ns b zs bt) (hb:0<b):1<=bt/\bt<=b/\∀n,Bn n ns->Bn n zs:=by
 obtain⟨ks,k1,k2,k3⟩:=h;have hp:0<b.natAbs:=by lia
 have g1:=eH_ hp ks;have g2:=jf_ hp ks;refine⟨?_, ?_,fun n hn x hx=> ?_⟩
 .rw [k3,BU _ (by lia),Int.le_ediv_iff_mul_le (by lia)];lia
 .have:=(mQ_ (B:=b) g1 ⟨by lia,Int.le_refl _⟩).2;lia
 .rw [k2] at hx;obtain⟨t,ht,rfl⟩:=AY.mp hx;have:=hn t (k1.mem t ht);have:=mQ_ (t:=t) (B:=((2^n:Nat):Int)) g1 ⟨by lia,by lia⟩;lia
theorem qm_ {zs:List Int} (h:zs≠[]) (hl:zs.getLast? ≠some 0):gz zs ((zs.length-1:Nat):Int)≠0:=by
 rw [fp_,List.getD];have:zs.length≠0:=fun z=>h (B6.mp z);intro z;refine hl ?_;rw [List.getLast?_eq_getElem?];rw [A2 (by lia)] at z⊢;simp at z;rw [z]
theorem Lo.short {ns zs:List Int}{b bt:Int} (h:Lo ns b zs bt) (m:Nat) (e:∀k:Int,(m:Int)<=k->gz ns k=0):zs.length<=m:=by
 obtain⟨ks,k1,k2,_⟩:=h;rw [k2,A1];rcases k1.2 with q|q
 .rw [q];exact AS _
 .rcases BH m ks.length with z|z
  .exfalso;refine qm_ (fun y=>by rw [y] at z;simp at z) q ?_;rw [<-k1.coef];exact e _ (by lia)
  .exact z
theorem pd_ (ys:List Int):∀(xs:List Int) (k:Int),(xs.length:Int)+ys.length-1<=k->cz xs ys k=0
 |[],k,_=>rfl
 |x::xs,k,h=>by
  simp only [Ah] at h;rw [cz,pd_ ys xs (k-1) (by lia),o5_ (by lia)];simp
theorem Lo.prod {xs ys zs:List Int}{b bt:Int} (h:Lo (cv xs ys xs.length) b zs bt):zs.length<=xs.length+ys.length-1:=
 h.short _ fun k hk=>by
  rw [sf_ _ _ _ _ (A7 _),AR];exact pd_ ys xs k (by lia)
theorem o3_ {a:Int}{l:List Int}{p q:Nat} (ha:a.natAbs<=2^p) (hl:Bn q l):∀i,i<=l.length->(hor a (l.take i)).natAbs<=2^(q+(p+1)*i)
 |0,_=>by simp [hor]
 |i+1,h=>by
  have e:l.take (i+1)=l.take i++[l[i]]:=by
   rw [AF,A2 (by lia)];rfl
  rw [e,dO_];have e2:(p+1)*(i+1)=(p+1)*i+(p+1):=Nat.mul_succ ..
  exact nc_ (d9_ (o3_ ha hl i (by lia)) ha (A7 _)) (hl l[i] (by simp)) (by lia) (by lia)
def vf (vs:List Int) (j:Nat):Int:=vs.getD j 0
structure Tv (s:Int) (vs:List Int) (i:Nat) (zt:List Int) (bt:Int) (zc:List Int) (bc:Int) (ds:List Int):Prop where
 le:i<=vs.length
 ds:ds=(List.range (vs.length-i)).map (dl (vf vs) i)
 lt:Low zt bt
 lc:1<=bc
 et:∀m:Nat,ev zt (s+m)=sm (fun r=>(bin m r:Int)*dl (vf vs) r 0) i*bt
 ec:∀m:Nat,ev zc (s+m)=(bin m i:Int)*bc
 nt:zt.length<=i
 nc:zc.length<=i+1
 bt:bt.natAbs<=2^(2*i*i)
 bc:bc.natAbs<=2^(4*i)
 dt:Bn (500+100*i) zt
 dc:Bn (45*i) zc
def t9_ (s:Int) (vs zs:List Int) (b:Int):Prop:=Low zs b/\zs.length<=vs.length/\(∀m:Nat,m<vs.length->ev zs (s+m)=vs.getD m 0*b)/\b.natAbs<=2^300/\Bn 1800 zs
theorem oh_ {v:Nat->Int}{n:Nat} (h:∀j,(v j).natAbs<=2^n):∀i j,(dl v i j).natAbs<=2^(n+i)
 |0,j=>h j
 |i+1,j=>by
  rw [dl,Int.sub_eq_add_neg];exact nc_ (oh_ h i (j+1)) (by rw [Int.natAbs_neg];exact oh_ h i j) (by lia) (by lia)
theorem q4_ {vs:List Int}{n:Nat} (h:Bn n vs) (j:Nat):(vf vs j).natAbs<=2^n:=by
 unfold vf;rw [List.getD];cases e:vs[j]? with
 |none=>simp
 |some x=>exact h x (AL e)
theorem Tv.start {s:Int}{vs zt zc:List Int}{bt bc:Int} (h1:Lo [] 1 zt bt) (h2:Lo [1] 1 zc bc):Tv s vs 0 zt bt zc bc vs:=by
 obtain⟨a1,a2,a3⟩:=h1.nat (by decide);obtain⟨c1,c2,c3⟩:=h2.nat (by decide);have l1:=h1.len;have l2:=h2.len;refine⟨AS _, ?_,h1.low (by decide),c1,fun m=> ?_,fun m=> ?_,l1,l2,by simp;lia,by simp;lia,a3 _ (fun x hx=>by simp at hx),c3 _ (fun x hx=> ?_)⟩
 .refine List.ext_getElem (by simp) fun j p q=> ?_;simp [dl,vf,p]
 .have:=h1.ev (by decide) (s+m);simp [ev,sm] at this⊢;exact this
 .have:=h2.ev (by decide) (s+m);simp [ev,dS_] at this⊢;exact this
 .rw [Ax.mp hx];decide
theorem Tv.done {s:Int}{vs zt zc ds:List Int}{bt bc:Int}{i:Nat} (h:Tv s vs i zt bt zc bc ds) (hn:vs.length<=12) (hd:ds=[]):t9_ s vs zt bt:=by
 have e:i=vs.length:=by
  have:=h.ds;rw [hd] at this;have:=BR List.length this;simp at this;have:=h.le;lia
 have hi:2*i*i<=300:=Ac (BS (show 2*i<=24 by lia) (show i<=12 by lia)) (by decide);refine⟨h.lt,by have:=h.nt;lia,fun m hm=> ?_,by_ h.bt hi,h.dt.mono (by lia)⟩;rw [h.et m];have:=l9_ (vf vs) m 0 i (by lia);simp only [Nat.zero_add] at this;rw [<-this];rfl
theorem Tv.one {d s:Int}{z:List Int}{b:Int} (hd:d.natAbs<=2^212) (e:Lo [d] 1 z b):z.length<=1/\b=1/\Bn 212 z/\∀x,ev z x=d:=by
 obtain⟨a1,a2,a3⟩:=e.nat (by decide);have l1:=e.len;refine⟨l1,by lia,a3 _ (fun x hx=>by rw [Ax.mp hx];exact hd),fun x=> ?_⟩;have:=e.ev (by decide) x;simp [ev] at this;rw [this,show b=1 by lia];simp
theorem Tv.two {s d:Int}{vs zt zc ds z3 z4:List Int}{bt bc b3 b4:Int}{i:Nat} (h:Tv s vs i zt bt zc bc ds) (hi:i<12) (hd:d.natAbs<=2^212) (e3:Lo [d] 1 z3 b3) (e4:Lo (cv zc z3 zc.length) (bc*b3) z4 b4):z4.length<=i+1/\1<=b4/\b4.natAbs<=2^(4*i)/\Bn (45*i+216) z4/\∀m:Nat,ev z4 (s+m)=(bin m i:Int)*d*b4:=by
 obtain⟨f1,rfl,f3,f4⟩:=Tv.one (s:=s) hd e3;have lc:=h.lc;have bp:0<bc*1:=by lia
 obtain⟨a1,a2,a3⟩:=e4.nat bp;have l:=e4.prod;have nc:=h.nc;refine⟨by lia,a1, ?_,a3 _ (sr_ h.dc f3 (by lia) (by lia)),fun m=> ?_⟩
 .have:=h.bc;lia
 .have q:=e4.ev bp (s+m);rw [mR_,h.ec m,f4,Int.mul_one] at q;refine C7 (show bc≠0 by lia) ?_;rw [q]
  grind
theorem Tv.five {s b5:Int}{z5:List Int}{i:Nat} (hi:i<12) (hs:s.natAbs<=2^40) (e5:Lo [-s-i,1] ((i:Int)+1) z5 b5):z5.length<=2/\1<=b5/\b5.natAbs<=2^4/\Bn 41 z5:=by
 obtain⟨a1,a2,a3⟩:=e5.nat (by lia);have l:=e5.len;refine⟨l,a1,by lia,a3 _ fun x hx=> ?_⟩;simp only [AO,B5,C6] at hx;rcases hx with q|q
 .subst q;lia
 .subst q;decide
theorem Tv.step {s:Int}{vs zt zc ds z3 z4 z5 z6 z7:List Int}{bt bc b3 b4 b5 b6 b7:Int}{i:Nat} (h:Tv s vs i zt bt zc bc ds) (hn:vs.length<=12) (hi:i<vs.length) (hv:Bn 200 vs) (hs:s.natAbs<=2^40)
  (e3:Lo [dl (vf vs) i 0] 1 z3 b3) (e4:Lo (cv zc z3 zc.length) (bc*b3) z4 b4) (e7:Lo (gl_ (zt.map (· *b4)) (z4.map (· *bt))) (bt*b4) z7 b7) (e5:Lo [-s-i,1] ((i:Int)+1) z5 b5) (e6:Lo (cv zc z5 zc.length) (bc*b5) z6 b6):
  Tv s vs (i+1) z7 b7 z6 b6 ((List.range (vs.length-(i+1))).map (dl (vf vs) (i+1))):=by
 have hd:(dl (vf vs) i 0).natAbs<=2^212:=by_ (oh_ (q4_ hv) i 0) (by lia);obtain⟨f1,f2,f3,f4,f5⟩:=h.two (by lia) hd e3 e4;obtain⟨g1,g2,g3,g4⟩:=Tv.five (by lia) hs e5;have lc:=h.lc;have lt:=h.lt.1;have p7:0<bt*b4:=Int.mul_pos (by lia) (by lia);have p6:0<bc*b5:=Int.mul_pos (by lia) (by lia);obtain⟨a1,a2,a3⟩:=e7.nat p7;obtain⟨c1,c2,c3⟩:=e6.nat p6;have l7:=e7.len;have l6:=e6.prod;have nc:=h.nc;have nt:=h.nt;have e:2*(i+1)*(i+1)=2*i*i+4*i+2:=by grind
 have q7:b7.natAbs<=(bt*b4).natAbs:=by lia
 have q6:b6.natAbs<=(bc*b5).natAbs:=by lia
 have sq:2*i*i<=22*11:=BS (by lia) (by lia);refine⟨by lia,rfl,e7.low p7,c1,fun m=> ?_,fun m=> ?_, ?_,by lia, ?_, ?_,a3 _ ?_,c3 _ (sr_ h.dc g4 (by lia) (by lia))⟩
 .have q:=e7.ev p7 (s+m);rw [jh_,ji_,ji_,h.et m,f5 m] at q;refine C7 (show bt*b4≠0 by lia) ?_;rw [q,sm]
  grind
 .have q:=e6.ev p6 (s+m);have r:=e5.ev (by lia) (s+m);have st:=eN_ m i;rw [mR_,h.ec m] at q;simp only [ev] at r;have r2:ev z5 (s+m)*((i:Int)+1)=((m:Int)-i)*b5:=by rw [r];grind
  refine C7 (show bc*b5≠0 by lia) ?_;rw [q];refine C7 (show(i:Int)+1≠0 by lia) ?_;have t1:(bin m i:Int)*bc*ev z5 (s+m)*b6*((i:Int)+1)=(bin m i:Int)*bc*b6*(ev z5 (s+m)*((i:Int)+1)):=by grind
  rw [t1,r2];have t2:(bin m (i+1):Int)*b6*(bc*b5)*((i:Int)+1)=(((i:Int)+1)*(bin m (i+1):Int))*(b6*bc*b5):=by grind
  rw [t2,st]
  grind
 .refine Ac l7 ?_;unfold gl_;rw [au_,au_,Af,A1,A1];lia
 .refine Ac q7 ?_;exact d9_ h.bt f3 (by lia)
 .refine Ac q6 ?_;exact d9_ h.bc g3 (by lia)
 .exact rh_ (ma_ h.dt f3 (A7 _)) (ma_ f4 h.bt (A7 _)) (by lia) (by lia)
abbrev Lf:=Int×Int×Int
def eb_ (e:List Int) (p:Lf):List Int:=(e.set (p.1-1).toNat (e.getD (p.1-1).toNat 0-p.2.2)).set (p.2.1-1).toNat ((e.set (p.1-1).toNat (e.getD (p.1-1).toNat 0-p.2.2)).getD (p.2.1-1).toNat 0+p.2.2)
def bG_ (n:Nat) (ps:List Lf):List Int:=ps.foldl eb_ (List.replicate n 1)
def fM_ (ps:List Lf) (f:Int):Int:=((ps.filter fun p=>decide (p.2.1=f)).map (·.2.2)).sum
def c9_ (ps:List Lf) (f:Int):Int:=((ps.filter fun p=>decide (p.1=f)).map (·.2.2)).sum
def Okl (n:Nat) (p:Lf):Prop:=1<=p.1/\p.1<=n/\1<=p.2.1/\p.2.1<=n
theorem hb_ {l:List Int}{i j:Nat}{v:Int} (h:i<l.length):(l.set i v).getD j 0=if i=j then v else l.getD j 0:=by
 rw [List.getD,List.getElem?_set];by_cases e:i=j
 .subst e;rw [A8 rfl,A8 rfl,A8 h];rfl
 .rw [A6 e,A6 e];rfl
theorem ml_ {e:List Int}{p:Lf}:(eb_ e p).length=e.length:=by unfold eb_;rw [BF,BF]
theorem nY_ {n:Nat}{e:List Int}{p:Lf} (he:e.length=n) (hp:Okl n p) (i:Nat):(eb_ e p).getD i 0=e.getD i 0+(if p.2.1=1+(i:Int) then p.2.2 else 0)-(if p.1=1+(i:Int) then p.2.2 else 0):=by
 obtain⟨h1,h2,h3,h4⟩:=hp;unfold eb_;have a1:(p.1-1).toNat<e.length:=by lia
 rw [hb_ (by rw [BF];lia),hb_ a1];by_cases c1:(p.2.1-1).toNat=i
 .have d1:p.2.1=1+(i:Int):=by lia
  rw [A8 c1,A8 d1,c1];by_cases c2:(p.1-1).toNat=i
  .have d2:p.1=1+(i:Int):=by lia
   rw [A8 c2,A8 d2,c2];lia
  .have d2:¬p.1=1+(i:Int):=by lia
   rw [A6 c2,A6 d2];lia
 .have d1:¬p.2.1=1+(i:Int):=by lia
  rw [A6 c1,A6 d1,hb_ a1];by_cases c2:(p.1-1).toNat=i
  .have d2:p.1=1+(i:Int):=by lia
   rw [A8 c2,A8 d2,c2];lia
  .have d2:¬p.1=1+(i:Int):=by lia
   rw [A6 c2,A6 d2];lia
theorem ei_ (p:Lf) (ps:List Lf) (f:Int):fM_ (p::ps) f=(if p.2.1=f then p.2.2 else 0)+fM_ ps f:=by
 unfold fM_;rw [List.filter_cons];by_cases h:p.2.1=f<;>simp [h]
theorem ds_ (p:Lf) (ps:List Lf) (f:Int):c9_ (p::ps) f=(if p.1=f then p.2.2 else 0)+c9_ ps f:=by
 unfold c9_;rw [List.filter_cons];by_cases h:p.1=f<;>simp [h]
theorem hd_ {n:Nat}:∀(ps:List Lf) (e:List Int),e.length=n->(∀p∈ps,Okl n p)->(ps.foldl eb_ e).length=n/\∀i:Nat,(ps.foldl eb_ e).getD i 0=e.getD i 0+fM_ ps (1+(i:Int))-c9_ ps (1+(i:Int))
 |[],e,he,_=>⟨he,fun i=>by simp [fM_,c9_]⟩
 |p::ps,e,he,h=>by
  rw [Cr];obtain⟨h1,h2⟩:=hd_ ps (eb_ e p) (by rw [ml_];exact he) fun q hq=>h q (by simp [hq]);refine⟨h1,fun i=> ?_⟩;rw [h2 i,nY_ he (h p (by simp)) i,ei_,ds_];lia
theorem eJ_ (n:Nat) (ps:List Lf) (h:∀p∈ps,Okl n p):(bG_ n ps).length=n:=(hd_ ps _ (by simp) h).1
def back (xs:List Int):Lf:=(xs.getD 0 0,xs.getD 1 0,xs.getD 2 0)
def fC_ (p:Lf):List Int:=[p.1,p.2.1,p.2.2]
theorem kv_ (p:Lf):back (fC_ p)=p:=rfl
theorem je_ {ks:List Int}{i:Nat} (h:i<ks.length):(ks.map V.int)[i]? =some (.int (ks.getD i 0)):=by rw [A5,A2 h];simp [List.getD,h]
theorem map_set {l:List Int}{i:Nat}{v:Int}:(l.set i v).map V.int=(l.map V.int).set i (.int v):=by rw [List.map_set]
def lf (p:Lf):D:=tI (fC_ p)
def lfs (ps:List Lf):D:= .l (ps.map lf)
theorem gJ_ {H:Hp}{p:Lf}{v:V} (h:Is H (lf p) v):∃a,v= .ref a/\H a=some (.tup [.int p.1, .int p.2.1, .int p.2.2]):=hR_ h
theorem g9_ {H:Hp}{p:Lf}{a:Addr} (h:H a=some (.tup [.int p.1, .int p.2.1, .int p.2.2])):Is H (lf p) (.ref a):=jb_ (xs:=fC_ p) h
theorem j2_ (ps:List Lf):lfs ps= .l ((ps.map fC_).map tI):=by unfold lfs;rw [Bh];rfl
def cA_ (H H':Hp):Prop:=∀a xs,H a=some (.tup xs)->H' a=some (.tup xs)
theorem cA_.of_same {H H':Hp} (s:al_ H H'):cA_ H H':=fun a xs e=>s _ _ e
theorem cA_.trans {H H' H'':Hp} (s:cA_ H H') (t:cA_ H' H''):cA_ H H'':=fun a xs e=>t _ _ (s _ _ e)
theorem cA_.upd {H:Hp}{b:Addr}{zs ys:List V} (hb:H b=some (.lst zs)):cA_ H (L2.upd H b (.lst ys)):=fun a xs e=>by
 rw [ar_ (by rintro rfl;rw [hb] at e;cases e)];exact e
theorem dN_ {H H':Hp} (t:cA_ H H'):∀{ps:List Lf}{vs:List V},Iss H (ps.map lf) vs->Iss H' (ps.map lf) vs
 |[],_,h=>by rw [b0_ h];exact an_
 |p::ps,_,h=>by
  obtain⟨u,us,rfl,h1,h2⟩:=aV_ h;obtain⟨a,rfl,ha⟩:=gJ_ h1;exact ap_ (g9_ (t _ _ ha)) (dN_ t h2)
def ex_ (p q:Lf):Bool:=if p.1=q.1 then(if p.2.1=q.2.1 then decide (p.2.2<q.2.2) else decide (p.2.1<q.2.1)) else decide (p.1<q.1)
def hU_:List Lf->List Lf->Bool
 |_,[]=>false
 |[],_::_=>true
 |x::xs,y::ys=>if x=y then hU_ xs ys else ex_ x y
theorem pa_ {K:W.Frag}{H:Hp}{p q:Lf}{v w:V} (h:Is H (lf p) v) (k:Is H (lf q) w):EqR K H 1 v w (decide (p=q)):=by
 have e:=h.eqr (K:=K) (n:=1) (by simp [lf,tI,fC_,dep,mV_]) (by simp [lf,tI,fC_,Kin,k8_]) k;have:eqD (lf p) (lf q)=decide (p=q):=by
  obtain⟨a,b,c⟩:=p;obtain⟨d,e,f⟩:=q;simp [lf,tI,fC_,eqD,jj_,Bool.and_assoc]
 rwa [this] at e
theorem r4_ {K:W.Frag}{H:Hp}{p q:Lf}{v w:V} (h:Is H (lf p) v) (k:Is H (lf q) w):LtR K H 1 v w (ex_ p q):=by
 obtain⟨a,rfl,ha⟩:=gJ_ h;obtain⟨b,rfl,hb⟩:=gJ_ k;have e:=LtR.tuples (K:=K) (H:=H) (d:=0) (a:=a) (b:=b) (fun j=>if j=0 then decide (p.1=q.1) else if j=1 then decide (p.2.1=q.2.1) else decide (p.2.2=q.2.2)) (fun j=>if j=0 then decide (p.1<q.1) else if j=1 then decide (p.2.1<q.2.1) else decide (p.2.2<q.2.2)) (SqT.of ha) (SqT.of hb) (fun j x y hx hy=> ?_) (fun j x y hx hy _=> ?_)
 .have e2:SeqAt.lex (fun j=>if j=0 then decide (p.1=q.1) else if j=1 then decide (p.2.1=q.2.1) else decide (p.2.2=q.2.2)) (fun j=>if j=0 then decide (p.1<q.1) else if j=1 then decide (p.2.1<q.2.1) else decide (p.2.2<q.2.2)) 3 3 3 0=ex_ p q:=by
   unfold ex_;by_cases e0:p.1=q.1
   .by_cases e1:p.2.1=q.2.1
    .by_cases e2:p.2.2=q.2.2
     .simp [SeqAt.lex,e0,e1,e2]
     .simp [SeqAt.lex,e0,e1,e2]
    .simp [SeqAt.lex,e0,e1]
   .simp [SeqAt.lex,e0]
  exact e2▸e
 .match j,hx,hy with
  |0,hx,hy=>cases hx;cases hy;exact EqR.int 0 _ _
  |1,hx,hy=>cases hx;cases hy;exact EqR.int 0 _ _
  |2,hx,hy=>cases hx;cases hy;exact EqR.int 0 _ _
  |j+3,hx,_=>simp at hx
 .match j,hx,hy with
  |0,hx,hy=>cases hx;cases hy;exact LtR.int 0 _ _
  |1,hx,hy=>cases hx;cases hy;exact LtR.int 0 _ _
  |2,hx,hy=>cases hx;cases hy;exact LtR.int 0 _ _
  |j+3,hx,_=>simp at hx
theorem mo_ (p q:List Lf):∀(k i:Nat),min p.length q.length-i=k->i<=min p.length q.length->SeqAt.lex (fun j=>decide (p.getD j (0,0,0)=q.getD j (0,0,0))) (fun j=>ex_ (p.getD j (0,0,0)) (q.getD j (0,0,0))) p.length q.length k i=hU_ (p.drop i) (q.drop i)
 |0,i,hk,hi=>by
  rw [SeqAt.lex];rcases(by lia:q.length=i\/(p.length=i/\i<q.length)) with e|⟨e,e2⟩
  .rw [List.drop_of_length_le (l:=q) (by lia)];have:¬p.length<q.length:=by lia
   cases p.drop i<;>simp [hU_,this]
  .rw [List.drop_of_length_le (l:=p) (by lia),BZ e2];have:p.length<q.length:=by lia
   simp [hU_,this]
 |k+1,i,hk,hi=>by
  have h1:i<p.length:=by lia
  have h2:i<q.length:=by lia
  have g1:p.getD i (0,0,0)=p[i]:=by simp [List.getD,h1]
  have g2:q.getD i (0,0,0)=q[i]:=by simp [List.getD,h2]
  rw [SeqAt.lex,BZ h1,BZ h2,hU_,g1,g2];by_cases e:p[i]=q[i]
  .rw [A8 (Ak e),A8 e];exact mo_ p q k (i+1) (by lia) (by lia)
  .rw [A6 (by simpa using e),A6 e]
theorem mn_ {K:W.Frag}{H:Hp}{p q:List Lf}{vs ws:List V} (h:Iss H (p.map lf) vs) (k:Iss H (q.map lf) ws):
  (∀(j:Nat) x y,vs[j]? =some x->ws[j]? =some y->EqR K H 1 x y (decide (p.getD j (0,0,0)=q.getD j (0,0,0))))/\(∀(j:Nat) x y,vs[j]? =some x->ws[j]? =some y->decide (p.getD j (0,0,0)=q.getD j (0,0,0))=false->LtR K H 1 x y (ex_ (p.getD j (0,0,0)) (q.getD j (0,0,0)))):=by
 have go:∀(j:Nat) x y,vs[j]? =some x->ws[j]? =some y->Is H (lf (p.getD j (0,0,0))) x/\Is H (lf (q.getD j (0,0,0))) y:=fun j x y hx hy=>by
  obtain⟨d,hd,h1⟩:=h.of_get hx;obtain⟨e,he,h2⟩:=k.of_get hy;rw [A5] at hd he;obtain⟨d',hd',rfl⟩:=A3.mp hd;obtain⟨e',he',rfl⟩:=A3.mp he;rw [List.getD,hd',List.getD,he'];exact⟨h1,h2⟩
 exact⟨fun j x y hx hy=>pa_ (go j x y hx hy).1 (go j x y hx hy).2,fun j x y hx hy _=>r4_ (go j x y hx hy).1 (go j x y hx hy).2⟩
theorem nb_ {K:W.Frag}{H:Hp}{p q:List Lf}{v w:V} (h:Is H (lfs p) v) (k:Is H (lfs q) w):Ask K H v w (hU_ p q):=by
 obtain⟨a,vs,rfl,ha,h⟩:=b9_ h;obtain⟨b,ws,rfl,hb,k⟩:=b9_ k;obtain⟨e1,e2⟩:=mn_ (K:=K) h k;refine⟨a,b,vs,ws,1,_,_,rfl,rfl,SqL.of ha,SqL.of hb,by decide,e1,e2, ?_⟩;rw [h.length,k.length,A1,A1,mo_ p q _ 0 (Nat.sub_zero _) (AS _),List.drop_zero,List.drop_zero]
def nw (H0 H:Hp):Hp:=fun b=>match H0 b with|some (.lst _)=>none|_=>H b
theorem a8_ {H0 H:Hp}:al_ (nw H0 H) H:=fun b o e=>by
 unfold nw at e;split at e
 .cases e
 .exact e
theorem dp_ {H0 H H':Hp} (s:al_ H H'):al_ (nw H0 H) (nw H0 H'):=fun b o e=>by
 unfold nw at e⊢;split at e
 .cases e
 .exact s _ _ e
theorem gK_ {H0 H1 H:Hp} (s:al_ H0 H1):al_ (nw H1 H) (nw H0 H):=fun b o e=>by
 unfold nw at e⊢;split at e
 .cases e
 .rename_i h;split
  .rename_i xs h0;exact absurd (s _ _ h0) (h xs)
  .exact e
theorem hS_ {H0 H1 H:Hp}{a:Addr}{xs:List V} (s:al_ H0 H1) (ha:H1 a=some (.lst xs)):al_ (nw H1 H) (hid (nw H0 H) a):=fun b o e=>by
 have hb:b≠a:=by
  rintro rfl;unfold nw at e;rw [ha] at e;cases e
 rw [mH_ hb];exact gK_ s b o e
theorem cg_ {H0 H:Hp}{a:Addr} (h:H0 a=none):nw H0 H a=H a:=by unfold nw;rw [h]
theorem rW_ {H0 H:Hp}{a:Addr}{xs:List V} (s:al_ H0 H) (h:H a=some (.tup xs)):nw H0 H a=some (.tup xs):=by
 unfold nw;split
 .rename_i ys e;rw [s _ _ e] at h;cases h
 .exact h
theorem rX_ {H0 H:Hp}{ps:List Lf}{vs:List V} (s:al_ H0 H) (h:Iss H (ps.map lf) vs):Iss (nw H0 H) (ps.map lf) vs:=dN_ (fun a xs e=>rW_ s e) h
theorem l8_ {H0 H:Hp}{ps:List Lf}{a:Addr} (s:al_ H0 H) (n:H0 a=none) (h:Is H (lfs ps) (.ref a)):Is (nw H0 H) (lfs ps) (.ref a):=by
 obtain⟨_,vs,e,ha,hi⟩:=b9_ h;cases e;exact da_ (by rw [cg_ n];exact ha) (rX_ s hi)
def Acc (H0 H:Hp) (a:Addr) (xs:List D):Prop:=∃vs,H a=some (.lst vs)/\Iss (hid (nw H0 H) a) xs vs
theorem Acc.start {H0 H:Hp}{a:Addr} (h:H a=some (.lst [])):Acc H0 H a []:=⟨[],h,an_⟩
theorem Acc.mono {H0 H H':Hp}{a:Addr}{xs:List D} (s:al_ H H') (g:Acc H0 H a xs):Acc H0 H' a xs:=let ⟨vs,e,h⟩:=g;⟨vs,s _ _ e,h.mono (cW_ (dp_ s))⟩
theorem f6_ {H0 H:Hp}{a:Addr}{o:HO}:hid (nw H0 (upd H a o)) a=hid (nw H0 H) a:=by
 funext b
 unfold hid;split
 .rfl
 .rename_i h;unfold nw;rw [ar_ h]
theorem Acc.add {H0 H1 H2:Hp}{a:Addr}{xs:List D}{x:D}{vs:List V}{v:V} (s01:al_ H0 H1) (s12:al_ H1 H2) (ha:H1 a=some (.lst vs)) (h:Iss (hid (nw H0 H1) a) xs vs) (k:Is (nw H1 H2) x v):Acc H0 (upd H2 a (.lst (vs++[v]))) a (xs++[x]):=
 ⟨vs++[v],ad_,by rw [f6_];exact(h.mono (cW_ (dp_ s12))).append (ap_ (k.mono (hS_ s01 ha)) an_)⟩
theorem Acc.adds {H0 H1 H2:Hp}{a:Addr}{xs ys:List D}{vs us:List V} (s01:al_ H0 H1) (s12:al_ H1 H2) (ha:H1 a=some (.lst vs)) (h:Iss (hid (nw H0 H1) a) xs vs) (k:Iss (nw H1 H2) ys us):Acc H0 (upd H2 a (.lst (vs++us))) a (xs++ys):=
 ⟨vs++us,ad_,by rw [f6_];exact(h.mono (cW_ (dp_ s12))).append (k.mono (hS_ s01 ha))⟩
theorem Acc.is {H0 H:Hp}{a:Addr}{xs:List D} (n:H0 a=none) (g:Acc H0 H a xs):Is (nw H0 H) (.l xs) (.ref a):=let ⟨_,e,h⟩:=g;da_ (by rw [cg_ n];exact e) (h.mono n8_)
def aN_ (p:Lf):Int:=(p.2.1-p.1)*p.2.2-1
def nf_ (f j:Int) (n:Nat) (sp:Int):List Lf:=((List.range n).map fun w:Nat=>((f,j,1+(w:Int)):Lf)).filter fun p=>decide (aN_ p<=sp)
def kO_ (f:Int) (m n:Nat) (sp:Int):List Lf:=(List.range m).flatMap fun i:Nat=>nf_ f (f+1+(i:Int)) n sp
def c0_:Nat->List Lf->Int->Int->List (List Lf)
 |0,_,_,_=>[[]]
 |n+1,ls,wt,sp=>[[]]++(List.range ls.length).flatMap fun i=>match ls[i]? with
  |none=>[]
  |some p=>if p.2.2<=wt/\aN_ p<=sp then(c0_ n (ls.drop i) (wt-p.2.2) (sp-aN_ p)).map (p:: ·) else []
def ed_ (n:Nat) (ls:List Lf) (wt sp:Int) (i:Nat):List (List Lf):=match ls[i]? with
  |none=>[]
  |some p=>if p.2.2<=wt/\aN_ p<=sp then(c0_ n (ls.drop i) (wt-p.2.2) (sp-aN_ p)).map (p:: ·) else []
theorem fh_ (n:Nat) (ls:List Lf) (wt sp:Int):c0_ (n+1) ls wt sp=[[]]++(List.range ls.length).flatMap (ed_ n ls wt sp):=rfl
def thF (d f:Nat) (ps:List Lf):Int:=(bG_ d ps).getD (f-1) 0
def g0_ (d f:Nat) (th sp:Int) (ls:List Lf):Int:=sp-(ls.map aN_).sum-(th-(ls.map (·.2.2)).sum)*((d:Int)-(f:Int))
def p6_ (d f:Nat) (th sp:Int):List (List Lf):=c0_ 8 (kO_ f (d-f) th.toNat sp) th sp
def eP_ (d f:Nat) (ps:List Lf) (sp:Int):List (List Lf×Int):=((p6_ d f (thF d f ps) sp).filter fun ls=>decide (0<=g0_ d f (thF d f ps) sp ls)).map fun ls=>(ps++ls,g0_ d f (thF d f ps) sp ls)
def fQ_ (d:Nat) (k:Int):Nat->List (List Lf×Int)
 |0=>[([],k)]
 |f+1=>(fQ_ d k f).flatMap fun x=>eP_ d (f+1) x.1 x.2
def dB_ (d k:Nat):List (List Lf):=((fQ_ d k d).filter fun x=>decide (x.2=0)).map (·.1)
def rS_ (d:Nat) (p:Lf):Bool:=decide (1<=p.1)&&decide (p.1<p.2.1)&&decide (p.2.1<=d)&&decide (1<=p.2.2)&&decide (p.2.2<=8)
def stB (d f:Nat) (x:List Lf×Int):Bool:=x.1.all (rS_ d)&&decide (x.1.length<=20)&&decide (0<=thF d (f+1) x.1)&&decide (thF d (f+1) x.1<8)&&decide (0<=x.2)&&decide (x.2<=6)&&decide ((p6_ d (f+1) (thF d (f+1) x.1) x.2).length<=200)
def okB (d k:Nat):Bool:=(List.range d).all (fun f=>(fQ_ d k f).all (stB d f)&&decide ((fQ_ d k (f+1)).length<=900))&&(fQ_ d k d).all fun x=>decide (x.1.length<=20)
def Wide (d k:Nat):Prop:=1<=d/\((d<=4/\k<=6)\/(d=5/\k<=3))
theorem h2_ (f j:Int) (n:Nat) (sp:Int):nf_ f j (n+1) sp=nf_ f j n sp++(if aN_ (f,j,1+(n:Int))<=sp then [(f,j,1+(n:Int))] else []):=by
 unfold nf_;rw [B9,AD,B3];by_cases h:aN_ (f,j,1+(n:Int))<=sp<;>simp [h]
theorem h3_ (f:Int) (m n:Nat) (sp:Int):kO_ f (m+1) n sp=kO_ f m n sp++nf_ f (f+1+(m:Int)) n sp:=by
 unfold kO_;rw [B9,CG];simp
theorem j3_ (f j:Int) (n:Nat) (sp:Int):(nf_ f j n sp).length<=n:=by
 unfold nf_;exact Ac (Ba _ _) (by simp)
theorem gZ_ (f:Int) (n:Nat) (sp:Int):∀m,(kO_ f m n sp).length<=m*n
 |0=>by simp [kO_]
 |m+1=>by
  rw [h3_,AH,Cw];have:=gZ_ f n sp m;have:=j3_ f (f+1+(m:Int)) n sp;lia
theorem i8_ {f:Int}{m n:Nat}{sp:Int}{p:Lf} (h:p∈kO_ f m n sp):p.1=f/\f<p.2.1/\p.2.1<=f+m/\1<=p.2.2/\p.2.2<=n:=by
 unfold kO_ nf_ at h;simp only [Ci,Al,CN,AY] at h;obtain⟨i,hi,⟨w,hw,rfl⟩,_⟩:=h;refine⟨rfl, ?_, ?_, ?_, ?_⟩
 .show f<f+1+(i:Int);lia
 .show f+1+(i:Int)<=f+m;lia
 .show 1<=1+(w:Int);lia
 .show 1+(w:Int)<=n;lia
theorem aO_ {α:Type} (g:Nat->List α) (i:Nat):(List.range (i+1)).flatMap g=(List.range i).flatMap g++g i:=by
 rw [B9,CG];simp
theorem e0_ {α:Type} (g:Nat->List α):∀{m i:Nat},i<m->((List.range i).flatMap g).length+(g i).length<=((List.range m).flatMap g).length
 |0,i,h=>absurd h (by lia)
 |m+1,i,h=>by
  rw [aO_,AH];by_cases e:i=m
  .rw [e];exact A7 _
  .have:=e0_ g (m:=m) (i:=i) (by lia);lia
theorem qc_ {n:Nat}{ls:List Lf}{wt sp:Int}{x:List Lf} (h:x∈c0_ (n+1) ls wt sp):x=[]\/∃(i:Nat) (p:Lf) (r:List Lf),ls[i]? =some p/\p.2.2<=wt/\aN_ p<=sp/\r∈c0_ n (ls.drop i) (wt-p.2.2) (sp-aN_ p)/\x=p::r:=by
 rw [fh_] at h;rcases CO.mp h with h|h
 .exact .inl (Ax.mp h)
 .obtain⟨i,hi,h⟩:=Ci.mp h;unfold ed_ at h;split at h
  .cases h
  .rename_i p hp;split at h
   .rename_i c;obtain⟨r,hr,rfl⟩:=AY.mp h;exact .inr ⟨i,p,r,hp,c.1,c.2,hr,rfl⟩
   .cases h
theorem fi_:∀{n:Nat}{ls:List Lf}{wt sp:Int}{x:List Lf},(∀p∈ls,1<=p.2.2)->0<=wt->x∈c0_ n ls wt sp->x.length<=n/\0<=(x.map (·.2.2)).sum/\(x.map (·.2.2)).sum<=wt/\∀p∈x,p∈ls
 |0,ls,wt,sp,x,_,h0,h=>by
  rw [c0_] at h;rw [Ax.mp h];exact⟨by simp,by simp,by simpa using h0,fun p hp=>nomatch hp⟩
 |n+1,ls,wt,sp,x,hw,h0,h=>by
  rcases qc_ h with rfl|⟨i,p,r,hp,c1,c2,hr,rfl⟩
  .exact⟨by simp,by simp,by simpa using h0,fun p hp=>nomatch hp⟩
  .have pm:=AL hp;have p1:=hw p pm;obtain⟨a,b,c,d⟩:=fi_ (fun q hq=>hw q (BM hq)) (by lia) hr;refine⟨by rw [Ah];lia, ?_, ?_,fun q hq=> ?_⟩
   .rw [AT,B'];lia
   .rw [AT,B'];lia
   .rcases AO.mp hq with rfl|hq
    .exact pm
    .exact BM (d q hq)
theorem gC_ {d:Nat}{p:Lf}:rS_ d p=true↔1<=p.1/\p.1<p.2.1/\p.2.1<=d/\1<=p.2.2/\p.2.2<=8:=by
 unfold rS_;simp only [A9,Ab];constructor
 .rintro⟨⟨⟨⟨a,b⟩,c⟩,d⟩,e⟩;exact⟨a,b,c,d,e⟩
 .rintro⟨a,b,c,d,e⟩;exact⟨⟨⟨⟨a,b⟩,c⟩,d⟩,e⟩
theorem px_ {d f:Nat}{x:List Lf×Int} (h:stB d f x=true):(∀p∈x.1,rS_ d p=true)/\x.1.length<=20/\0<=thF d (f+1) x.1/\thF d (f+1) x.1<8/\0<=x.2/\x.2<=6/\(p6_ d (f+1) (thF d (f+1) x.1) x.2).length<=200:=by
 unfold stB at h;simp only [A9,Ab,AQ] at h;obtain⟨⟨⟨⟨⟨⟨a,b⟩,c⟩,d⟩,e⟩,f⟩,g⟩:=h;exact⟨a,b,c,d,e,f,g⟩
theorem pY_ {d k:Nat} (h:okB d k=true):(∀f<d,(∀x∈fQ_ d k f,stB d f x=true)/\(fQ_ d k (f+1)).length<=900)/\∀x∈fQ_ d k d,x.1.length<=20:=by
 unfold okB at h;simp only [A9,Ab,AQ,Al] at h;exact h
theorem r5_ (p q:Lf):ltI (fC_ p) (fC_ q)=ex_ p q:=by
 unfold ex_ ltI fC_;simp only [kP_,Ah,List.length_nil];split
 .split
  .split
   .rename_i h;simp [h]
   .rfl
  .rfl
 .rfl
def Srt (ps:List Lf):Prop:=ps.Pairwise fun a b=>ex_ b a=false
theorem oB_ {α:Type} (g:α->Int):∀{xs:List α},(∀x∈xs,0<=g x)->0<=(xs.map g).sum
 |[],_=>by simp
 |x::xs,h=>by
  rw [AT,B'];have:=oB_ g (xs:=xs) fun y hy=>h y (by simp [hy]);have:=h x (by simp);lia
structure Snd (d:Nat) (ps:List Lf):Prop where
 ok:∀p∈ps,1<=p.1/\p.1<p.2.1/\p.2.1<=d/\1<=p.2.2
 nn:∀i:Nat,i<d->0<=1+fM_ ps (1+(i:Int))-c9_ ps (1+(i:Int))
 so:Srt ps
def eF (ps:List Lf) (i:Nat):Int:=1+fM_ ps (1+(i:Int))-c9_ ps (1+(i:Int))
theorem p8_ {p:Lf} (h1:p.1<p.2.1) (h2:1<=p.2.2):0<=aN_ p:=by
 unfold aN_;have:1*1<=(p.2.1-p.1)*p.2.2:=Int.mul_le_mul (by lia) h2 (by decide) (by lia);lia
def ix_ (d:Nat) (g:Nat->Int) (n:Nat):Int:=((List.range n).map fun i=>g i*((d:Int)-((i+1:Nat):Int))).sum
theorem bC_ (d:Nat) (g:Nat->Int) (n:Nat):ix_ d g (n+1)=ix_ d g n+g n*((d:Int)-((n+1:Nat):Int)):=by
 unfold ix_;rw [B9,AD,CM];simp
theorem i0_ (d:Nat) (j w:Int) (h1:1<=j):∀n:Nat,ix_ d (fun i=>if j=1+(i:Int) then w else 0) n=if j<=n then w*((d:Int)-j) else 0
 |0=>by
  rw [A6 (by lia)];rfl
 |n+1=>by
  rw [bC_,i0_ d j w h1 n];by_cases c:j=1+(n:Int)
  .have c':¬j<=(n:Int):=by lia
   have c2:j<=((n+1:Nat):Int):=by lia
   rw [A8 c,A6 c',A8 c2,c,show(((n+1:Nat):Int))=1+(n:Int) by lia,Int.zero_add]
  .rw [A6 c,Int.zero_mul,Int.add_zero];by_cases c2:j<=(n:Int)
   .rw [A8 c2,A8 (by lia)]
   .rw [A6 c2,A6 (by lia)]
theorem jv_ (d:Nat) (g h:Nat->Int):∀n,ix_ d (fun i=>g i+h i) n=ix_ d g n+ix_ d h n
 |0=>rfl
 |n+1=>by
  rw [bC_,bC_,bC_,jv_ d g h n,Int.add_mul];lia
theorem ju_ (d:Nat) (g h:Nat->Int):∀n,ix_ d (fun i=>g i-h i) n=ix_ d g n-ix_ d h n
 |0=>rfl
 |n+1=>by
  rw [bC_,bC_,bC_,ju_ d g h n,Int.sub_mul];lia
theorem sl_ {d:Nat}:∀{ps:List Lf},(∀p∈ps,1<=p.1/\p.1<p.2.1/\p.2.1<=d/\1<=p.2.2)->ix_ d (eF ps) d+(ps.map aN_).sum+ps.length=ix_ d (fun _=>1) d
 |[],_=>by
  have:eF []=fun _=>1:=by funext i;simp [eF,fM_,c9_]
  rw [this];simp
 |p::ps,h=>by
  have ih:=sl_ (ps:=ps) fun q hq=>h q (by simp [hq]);obtain⟨p1,p2,p3,p4⟩:=h p (by simp);have e:eF (p::ps)=fun i:Nat=>(eF ps i+(if p.2.1=1+(i:Int) then p.2.2 else 0))-(if p.1=1+(i:Int) then p.2.2 else 0):=by
   funext i
   unfold eF;rw [ei_,ds_];lia
  rw [e,ju_ d (fun i:Nat=>eF ps i+(if p.2.1=1+(i:Int) then p.2.2 else 0)),jv_ d (eF ps),i0_ d p.2.1 p.2.2 (by lia),i0_ d p.1 p.2.2 p1,A8 p3,A8 (by lia),AT,B',Ah];have l:aN_ p=p.2.2*((d:Int)-p.1)-p.2.2*((d:Int)-p.2.1)-1:=by
   unfold aN_;rw [<-Int.mul_sub,Cz];congr 2
   lia
  rw [l]
  push_cast
  lia
theorem hg_ {d:Nat}{ps:List Lf} (h:∀p∈ps,Okl d p) {i:Nat} (hi:i<d):(bG_ d ps).getD i 0=eF ps i:=by
 have:=(hd_ ps (List.replicate d 1) (by simp) h).2 i;unfold bG_;rw [this];unfold eF;have:(List.replicate d (1:Int)).getD i 0=1:=by simp [List.getD,hi]
 rw [this]
theorem ob_ {d:Nat} (h1:1<=d) (h5:d<=5):ix_ d (fun _=>1) d=((d*(d-1)/2:Nat):Int):=by
 have:d=1\/d=2\/d=3\/d=4\/d=5:=by lia
 rcases this with rfl|rfl|rfl|rfl|rfl<;>decide
def pl_ (d:Nat) (ps:List Lf):Prop:=(∀p∈ps,1<=p.1/\p.1<p.2.1/\p.2.1<=d/\1<=p.2.2)/\∀i:Nat,i<d->0<=eF ps i
theorem pl_.okl {d:Nat}{ps:List Lf} (h:pl_ d ps):∀p∈ps,Okl d p:=fun p hp=>by
 obtain⟨a,b,c,_⟩:=h.1 p hp;exact⟨a,by lia,by lia,c⟩
theorem gf_ {d:Nat}{g:Nat->Int}:∀{n i:Nat},n<=d->(∀j<n,0<=g j)->i<n->g i*((d:Int)-((i+1:Nat):Int))<=ix_ d g n/\0<=ix_ d g n
 |0,i,_,_,h=>absurd h (by lia)
 |n+1,i,hd,hg,h=>by
  rw [bC_];have a:0<=g n*((d:Int)-((n+1:Nat):Int)):=Int.mul_nonneg (hg n (by lia)) (by lia);have b:0<=ix_ d g n:=by
   cases n with
   |zero=>exact Int.le_refl _
   |succ n=>exact(gf_ (d:=d) (g:=g) (n:=n+1) (i:=0) (by lia) (fun j hj=>hg j (by lia)) (by lia)).2
  by_cases e:i=n
  .subst e;exact⟨by lia,by lia⟩
  .have:=(gf_ (d:=d) (g:=g) (n:=n) (i:=i) (by lia) (fun j hj=>hg j (by lia)) (by lia)).1;exact⟨by lia,by lia⟩
theorem pl_.len {d:Nat}{ps:List Lf} (h:pl_ d ps) (d1:1<=d) (d5:d<=5):ps.length<=d*(d-1)/2/\d*(d-1)/2<=10/\∀i:Nat,i+1<d->eF ps i<=10:=by
 have a:=sl_ h.1;rw [ob_ d1 d5] at a;have n1:=oB_ aN_ (xs:=ps) fun p hp=>by
  have:=h.1 p hp;exact p8_ this.2.1 this.2.2.2
 have n2:=(gf_ (d:=d) (g:=eF ps) (n:=d) (i:=0) (A7 _) h.2 (by lia)).2;have d10:d*(d-1)/2<=10:=by
  have:d=1\/d=2\/d=3\/d=4\/d=5:=by lia
  rcases this with rfl|rfl|rfl|rfl|rfl<;>decide
 refine⟨by lia,d10,fun i hi=> ?_⟩;have b:=(gf_ (d:=d) (g:=eF ps) (n:=d) (i:=i) (A7 _) h.2 (by lia)).1;have c:eF ps i*1<=eF ps i*((d:Int)-((i+1:Nat):Int)):=Int.mul_le_mul_of_nonneg_left (by lia) (h.2 i (by lia));lia
def o1_ (x:Lf):List Lf->List Lf
 |[]=>[x]
 |y::ys=>if ex_ x y then x::y::ys else if x=y then y::ys else y::o1_ x ys
def hq_ (xs:List Lf):List Lf:=xs.foldr o1_ []
def k6_ (d:Nat) (es:List Int) (i:Nat):List Lf:=List.replicate (es.getD i 0).toNat (1+(i:Int),(d:Int)+1,1)
def fL_ (d:Nat) (es:List Int):List Lf:=(List.range d).flatMap (k6_ d es)
theorem gR_ {p q:Lf}:ex_ p q=true↔p.1<q.1\/(p.1=q.1/\(p.2.1<q.2.1\/(p.2.1=q.2.1/\p.2.2<q.2.2))):=by
 unfold ex_;by_cases e0:p.1=q.1
 .by_cases e1:p.2.1=q.2.1
  .simp [e0,e1]
  .simp [e0,e1]
 .simp [e0]
theorem gQ_ {p:Lf}:¬ex_ p p=true:=by rw [gR_];lia
theorem mk_ {p q r:Lf} (h:ex_ p q=true) (k:ex_ q r=true):ex_ p r=true:=by rw [gR_] at*;lia
theorem jZ_ {p q:Lf} (h:¬ex_ p q=true) (k:p≠q):ex_ q p=true:=by
 rw [gR_] at*
 obtain⟨a,b,c⟩:=p;obtain⟨d,e,f⟩:=q;simp only [ne_eq,Bg,not_and] at*
 lia
theorem ha_ {x z:Lf}:∀{ys:List Lf},z∈o1_ x ys↔z=x\/z∈ys
 |[]=>by simp [o1_]
 |y::ys=>by
  unfold o1_;split
  .simp
  .split
   .rename_i e;subst e;simp
   .simp [ha_ (ys:=ys)];constructor
    .rintro(h|h|h)
     .exact .inr (.inl h)
     .exact .inl h
     .exact .inr (.inr h)
    .rintro(h|h|h)
     .exact .inr (.inl h)
     .exact .inl h
     .exact .inr (.inr h)
theorem mF_ {x:Lf}:∀{ys:List Lf},(ys.Pairwise fun a b=>ex_ a b=true)->(o1_ x ys).Pairwise fun a b=>ex_ a b=true
 |[],_=>by simp [o1_]
 |y::ys,h=>by
  unfold o1_;split
  .rename_i e;refine List.Pairwise.cons (fun z hz=> ?_) h;rcases AO.mp hz with rfl|hz
   .exact e
   .exact mk_ e ((Bw.mp h).1 z hz)
  .split
   .exact h
   .rename_i e1 e2;refine List.Pairwise.cons (fun z hz=> ?_) (mF_ (Bw.mp h).2);rcases ha_.mp hz with rfl|hz
    .exact jZ_ e1 e2
    .exact(Bw.mp h).1 z hz
theorem cP_ {z:Lf}:∀{xs:List Lf},z∈hq_ xs↔z∈xs
 |[]=>by simp [hq_]
 |x::xs=>by
  have:=cP_ (z:=z) (xs:=xs);unfold hq_ at this⊢;rw [List.foldr_cons,ha_,this,AO]
theorem iJ_:∀(xs:List Lf),(hq_ xs).Pairwise fun a b=>ex_ a b=true
 |[]=>by simp [hq_]
 |x::xs=>by
  have:=iJ_ xs;unfold hq_ at this⊢;rw [List.foldr_cons];exact mF_ this
theorem hF_:∀{xs ys:List Lf},(xs.Pairwise fun a b=>ex_ a b=true)->(ys.Pairwise fun a b=>ex_ a b=true)->(∀z,z∈xs↔z∈ys)->xs=ys
 |[],[],_,_,_=>rfl
 |[],y::ys,_,_,h=>absurd ((h y).mpr (by simp)) (by simp)
 |x::xs,[],_,_,h=>absurd ((h x).mp (by simp)) (by simp)
 |x::xs,y::ys,h1,h2,h=>by
  have a1:=Bw.mp h1;have a2:=Bw.mp h2;have e:x=y:=by
   refine Classical.byContradiction fun ne=> ?_;have m1:x∈ys:=by rcases AO.mp ((h x).mp (by simp)) with e|e;exact absurd e ne;exact e
   have m2:y∈xs:=by rcases AO.mp ((h y).mpr (by simp)) with e|e;exact absurd e.symm ne;exact e
   exact gQ_ (mk_ (a1.1 y m2) (a2.1 x m1))
  subst e;have:xs=ys:=hF_ a1.2 a2.2 fun z=>by
   have hz:=h z;rw [AO,AO] at hz;constructor
   .intro m;rcases hz.mp (.inr m) with e|e
    .subst e;exact absurd (a1.1 z m) gQ_
    .exact e
   .intro m;rcases hz.mpr (.inr m) with e|e
    .subst e;exact absurd (a2.1 z m) gQ_
    .exact e
  rw [this]
theorem nA_ {p q:Lf} (h:fC_ p=fC_ q):p=q:=by rw [<-kv_ p,<-kv_ q,h]
theorem pz_ {ps:List Lf}{yss:List (List Int)} (nd:yss.Nodup) (mem:∀z,z∈yss↔z∈ps.map fC_) (so:∀i j,i<j->j<yss.length->ltI (yss.getD j []) (yss.getD i [])=false):yss=(hq_ ps).map fC_:=by
 obtain⟨qs,e,hq⟩:=dr_ (f:=fC_) (P:=fun p=>p∈ps) yss fun v hv=>by
  obtain⟨p,hp,rfl⟩:=AY.mp ((mem v).mp hv);exact⟨p,hp,rfl⟩
 subst e;have:qs=hq_ ps:=by
  refine hF_ ?_ (iJ_ ps) fun z=> ?_
  .rw [CF];intro i j hi hj hij;have h1:=so i j hij (by rw [A1];exact hj);rw [AE,AE,A5,A5,A2 hi,A2 hj] at h1;simp only [Option.map_some,Option.getD_some] at h1;rw [r5_] at h1;refine jZ_ (by rw [h1];simp) fun e=> ?_;unfold List.Nodup at nd;rw [CZ,CF] at nd;exact nd i j hi hj hij (by rw [e])
  .rw [cP_];constructor
   .exact hq z
   .intro hz;obtain⟨q,hq',e⟩:=AY.mp ((mem (fC_ z)).mpr (Ct hz));rw [<-nA_ e];exact hq'
 rw [this]
def chF (n:Int):Nat->Int
 |0=>1
 |k+1=>chF n k*(n-(k:Int))/((k:Int)+1)
def wmF (t:List Int) (p:Nat) (m:Int):List Int:=t.set p (t.getD p 0+m)
theorem hs_ (t:List Int) (p:Nat) (m:Int):(wmF t p m).length=t.length:=by unfold wmF;rw [BF]
theorem nj_ {t:List Int}{p i:Nat}{m:Int} (h:p<t.length):(wmF t p m).getD i 0=t.getD i 0+if p=i then m else 0:=by
 unfold wmF;rw [AE,List.getElem?_set];by_cases e:p=i
 .subst e;simp [h]
 .simp [e]
theorem pH_ {t:List Int}{p:Nat}{x:Int} (h:p<t.length):t.take p++[x]++t.drop (p+1)=t.set p x:=by
 rw [List.set_eq_take_append_cons_drop,A8 h];simp
def spR:Nat->Nat->List (List Nat)
 |0,a=>[[a]]
 |g+1,a=>(List.range (a+1)).flatMap fun h=>(spR g (a-h)).map (h:: ·)
def fW_ (t:List Int):Nat->List Nat->Int
 |_,[]=>1
 |p,s::r=>chF (t.getD p 0+(s:Int)) s*fW_ t (p+1) r
def jr_ (t:List Int):Nat->List Nat->List Int
 |_,[]=>t
 |p,s::r=>jr_ (wmF t p (s:Int)) (p+1) r
theorem lH_ {t:List Int}{m:Int}{q:Nat} (hq:q<t.length):∀{r:List Nat}{p:Nat},q<p->fW_ (wmF t q m) p r=fW_ t p r
 |[],p,_=>rfl
 |s::r,p,h=>by
  unfold fW_;rw [nj_ hq,A6 (by lia),lH_ hq (r:=r) (by lia)];simp
def pbF:Nat->List Int->Nat->Nat->List (List Int×Int)
 |0,t,p,a=>[(wmF t p (a:Int),chF (t.getD p 0+(a:Int)) a)]
 |g+1,t,p,a=>(List.range (a+1)).flatMap fun h:Nat=>(pbF g (wmF t p (h:Int)) (p+1) (a-h)).map fun x=>(x.1,chF (t.getD p 0+(h:Int)) h*x.2)
theorem f7_ {α β:Type}{f g:α->List β}:∀{xs:List α},(∀x∈xs,f x=g x)->xs.flatMap f=xs.flatMap g
 |[],_=>rfl
 |x::xs,h=>by rw [List.flatMap_cons,List.flatMap_cons,h x (by simp),f7_ fun y hy=>h y (by simp [hy])]
theorem rO_:∀{g:Nat}{t:List Int}{p a:Nat},p+g<t.length->pbF g t p a=(spR g a).map fun r=>(jr_ t p r,fW_ t p r)
 |0,t,p,a,_=>by simp [pbF,spR,jr_,fW_]
 |g+1,t,p,a,h=>by
  unfold pbF spR;rw [List.map_flatMap];refine f7_ fun x _=> ?_;rw [rO_ (by rw [hs_];lia),Bh,Bh];refine BA fun r _=> ?_;simp only [Function.comp,jr_,fW_];rw [lH_ (by lia) (Bb p)]
theorem iK_:∀{g a:Nat}{r:List Nat},r∈spR g a->r.length=g+1/\r.sum=a
 |0,a,r,h=>by simp [spR] at h;subst h;simp
 |g+1,a,r,h=>by
  unfold spR at h;obtain⟨x,hx,h⟩:=Ci.mp h;obtain⟨r',h',rfl⟩:=AY.mp h;have hx:=Al.mp hx;obtain⟨e1,e2⟩:=iK_ h';simp [e1,e2];lia
abbrev Tab:=List (List Int×Int)
def eA_ (D:Tab) (g:List Int->Int):Int:=(D.map fun x=>x.2*g x.1).sum
def iE_ (D:Tab) (k:List Int):Int:=((D.find? fun x=>decide (x.1=k)).map (·.2)).getD 0
def jI_ (D:Tab) (k:List Int) (v:Int):Tab:=if(D.any fun x=>decide (x.1=k))=true then D.map (fun x=>if x.1=k then(x.1,v) else x) else D++[(k,v)]
def qZ_ (D:Tab) (k:List Int) (v:Int):Tab:=jI_ D k (iE_ D k+v)
theorem j8_ (D:Tab) (k:List Int) (v:Int):(jI_ D k v).map (·.1)=if k∈D.map (·.1) then D.map (·.1) else D.map (·.1)++[k]:=by
 unfold jI_;have:(D.any fun x=>decide (x.1=k))=true↔k∈D.map (·.1):=by
  rw [List.any_eq_true,AY];simp
 by_cases h:k∈D.map (·.1)
 .rw [A8 h,A8 (this.mpr h),Bh];refine BA fun x _=> ?_;simp only [Function.comp];split<;>rfl
 .rw [A6 h,A6 (fun z=>h (this.mp z)),AD];rfl
theorem iI_ {D:Tab}{k:List Int}{v:Int}{g:List Int->Int} (h:k∉D.map (·.1)):eA_ (jI_ D k v) g=eA_ D g+v*g k/\iE_ D k=0:=by
 have hn:∀x∈D,x.1≠k:=fun x hx e=>h (AY.mpr ⟨x,hx,e⟩);have e1:(D.any fun x=>decide (x.1=k))=false:=by
  rw [List.any_eq_false];intro x hx;simpa using hn x hx
 have e2:D.find? (fun x=>decide (x.1=k))=none:=by
  rw [List.find?_eq_none];intro x hx;simpa using hn x hx
 unfold jI_ iE_ eA_;rw [e1,e2];simp
theorem eS_:∀{D:Tab}{k:List Int}{v:Int}{g:List Int->Int},(D.map (·.1)).Nodup->k∈D.map (·.1)->eA_ (D.map fun x=>if x.1=k then(x.1,v) else x) g=eA_ D g+(v-iE_ D k)*g k
 |[],_,_,_,_,h=>by simp at h
 |x::D,k,v,g,nd,h=>by
  rw [AT,BW] at nd;by_cases e:x.1=k
  .subst e;have hn:∀y∈D,y.1≠x.1:=fun y hy e=>nd.1 (AY.mpr ⟨y,hy,e⟩);have e1:(D.map fun y=>if y.1=x.1 then(y.1,v) else y)=D:=by
    conv=>rhs;rw [<-List.map_id D]
    refine BA fun y hy=> ?_;rw [A6 (hn y hy)];rfl
   have e2:iE_ (x::D) x.1=x.2:=by simp [iE_]
   rw [AT,e1,e2];simp only [eA_,C9,AT,B'];rw [Int.sub_mul];lia
  .have hk:k∈D.map (·.1):=by
    rw [AT,AO] at h;rcases h with h|h
    .exact absurd h.symm e
    .exact h
   have ih:=eS_ (g:=g) (v:=v) nd.2 hk;have e2:iE_ (x::D) k=iE_ D k:=by simp [iE_,BX,e]
   rw [e2,AT];simp only [eA_,AT,B',A6 e] at ih⊢;lia
theorem nq_ {D:Tab} (nd:(D.map (·.1)).Nodup) (k:List Int) (v:Int) (g:List Int->Int):eA_ (qZ_ D k v) g=eA_ D g+v*g k:=by
 unfold qZ_;by_cases h:k∈D.map (·.1)
 .have e:(D.any fun x=>decide (x.1=k))=true:=by
   rw [List.any_eq_true];obtain⟨x,hx,e⟩:=AY.mp h;exact⟨x,hx,Ak e⟩
  unfold jI_;rw [A8 e,eS_ nd h];rw [show iE_ D k+v-iE_ D k=v by lia]
 .obtain⟨e1,e2⟩:=iI_ (v:=iE_ D k+v) (g:=g) h;rw [e1,e2];simp
theorem oT_ {D:Tab} (nd:(D.map (·.1)).Nodup) (k:List Int) (v:Int):((jI_ D k v).map (·.1)).Nodup:=by
 rw [j8_];split
 .exact nd
 .rename_i h;rw [List.nodup_append];exact⟨nd,by simp,fun a ha b hb=>by simp at hb;subst hb;exact fun e=>h (e▸ha)⟩
def inP (t:List Int) (v:Int) (p:Nat) (rs:List (List Nat)) (acc:Tab):Tab:=rs.foldl (fun acc r=>qZ_ acc (jr_ t p r) (v*fW_ t p r)) acc
def stP (p:Nat) (rs:List (List Nat)) (xs acc:Tab):Tab:=xs.foldl (fun acc x=>inP x.1 x.2 p rs acc) acc
def qW_ (g:List Int->Int) (p:Nat) (rs:List (List Nat)) (t:List Int):Int:=(rs.map fun r=>fW_ t p r*g (jr_ t p r)).sum
def TF (cnt:Lf->Nat):List Lf->List Int->Int
 |[],_=>1
 |m::ms,t=>qW_ (TF cnt ms) (m.1-1).toNat (spR (m.2.1-m.1-1).toNat (cnt m)) t
def hmF (d:Nat) (mk:List Lf):Int:=TF (fun m=>mk.count m) (hq_ mk) (List.replicate d 0)
theorem nr_ (D:Tab):eA_ D (fun _=>1)=(D.map (·.2)).sum:=by
 unfold eA_;congr 1
 refine BA fun x _=> ?_;show x.2*1=x.2;lia
theorem gL_:∀(N:Nat) (xs:List Nat),xs.Nodup->(∀x∈xs,x<N)->xs.length<=N
 |0,[],_,_=>A7 _
 |0,x::xs,_,h=>absurd (h x (by simp)) (by lia)
 |N+1,xs,nd,h=>by
  have h1:=gL_ N (xs.filter fun x=>decide (x≠N)) (nd.filter _) fun x hx=>by
   obtain⟨a,b⟩:=CN.mp hx;have:=h x a;have:x≠N:=by simpa using b
   lia
  have h2:xs.length<=(xs.filter fun x=>decide (x≠N)).length+1:=by
   clear h1 h;induction xs with
   |nil=>simp
   |cons y ys ih=>
    rw [BW] at nd;by_cases e:y=N
    .subst e;have:(ys.filter fun x=>decide (x≠y))=ys:=by
      rw [List.filter_eq_self];intro z hz;simp;rintro rfl;exact nd.1 hz
     rw [List.filter_cons,A6 (by simp),this,Ah];exact A7 _
    .have:=ih nd.2;rw [List.filter_cons,A8 (by simpa using e),Ah,Ah];lia
  lia
def er_ (t:List Int):List Key:=t.map Sum.inl
theorem fk_ (t:List Int):(er_ t).map kV=t.map V.int:=by unfold er_;rw [Bh];rfl
theorem ka_:∀{t u:List Int},er_ t=er_ u->t=u
 |[],[],_=>rfl
 |[],_::_,h=>by simp [er_] at h
 |_::_,[],h=>by simp [er_] at h
 |x::t,y::u,h=>by
  simp only [er_,AT,List.cons.injEq,Sum.inl.injEq] at h;rw [h.1,ka_ (t:=t) (u:=u) h.2]
theorem g5_ {t u:List Int}:er_ t=er_ u↔t=u:=⟨ka_,fun e=>by rw [e]⟩
def df_ (D:Tab):List (List Key×V):=D.map fun x=>(er_ x.1,V.int x.2)
theorem gk_ (D:Tab):(df_ D).length=D.length:=by unfold df_;rw [A1]
theorem gj_ (D:Tab) (k:List Int) (v:Int):hG_ (df_ D) (er_ k) (.int v)=df_ (jI_ D k v):=by
 have e:((df_ D).any fun kv=>decide (kv.1=er_ k))=(D.any fun x=>decide (x.1=k)):=by
  unfold df_;rw [List.any_map];congr 1
  funext x
  simp only [Function.comp,g5_]
 unfold hG_ jI_;rw [e];split
 .unfold df_;rw [Bh,Bh];refine BA fun x _=> ?_;simp only [Function.comp,g5_];split<;>rfl
 .unfold df_;rw [AD];rfl
theorem ez_ (D:Tab) (k:List Int):iD_ (df_ D) (er_ k)=(D.find? fun x=>decide (x.1=k)).map fun x=>V.int x.2:=by
 unfold iD_ df_;rw [List.find?_map,Option.map_map];have:((fun kv:List Key×V=>decide (kv.1=er_ k))∘fun x:List Int×Int=>(er_ x.1,V.int x.2))=fun x=>decide (x.1=k):=by
  funext x
  simp only [Function.comp,g5_]
 rw [this];rfl
theorem np_ (D:Tab) (k:List Int):(iD_ (df_ D) (er_ k)).getD (.int 0)= .int (iE_ D k):=by
 rw [ez_];unfold iE_;cases D.find? fun x=>decide (x.1=k)<;>rfl
theorem pt_ {D:Tab} (nd:(D.map (·.1)).Nodup) {x:List Int×Int} (h:x∈D):iD_ (df_ D) (er_ x.1)=some (.int x.2):=by
 rw [ez_];have:D.find? (fun y=>decide (y.1=x.1))=some x:=by
  induction D with
  |nil=>simp at h
  |cons y D ih=>
   rw [AT,BW] at nd;rcases AO.mp h with rfl|h
   .simp
   .have:y.1≠x.1:=fun e=>nd.1 (AY.mpr ⟨x,h,e.symm⟩);rw [BX,AX this];exact ih nd.2 h
 rw [this];rfl
theorem ll_ (D:Tab):(df_ D).map (·.2)=(D.map (·.2)).map V.int:=by unfold df_;rw [Bh,Bh];rfl
def prD (x:List Int×Int):D:= .t [tI x.1, .i x.2]
theorem on_ (l:List Lf) (x:Lf):(List.range l.length).countP (fun j=>decide (l.getD j (0,0,0)=x))=l.count x:=by
 have e:(List.range l.length).map (fun j=>l.getD j (0,0,0))=l:=by
  apply List.ext_getElem?;intro i;rw [A5];rcases BH i l.length with c|c
  .rw [List.getElem?_range c];simp [List.getD,c]
  .rw [Cf (by simpa using c),Cf c];rfl
 conv=>rhs;rw [<-e]
 rw [List.count,List.countP_map];congr 1
 funext j
 simp only [Function.comp];exact(Bool.beq_eq_decide_eq _ _).symm
theorem ij_:∀(l S:List Lf),S.Nodup->(S.map fun m=>l.count m).sum<=l.length
 |[],S,_=>by
  have:(S.map fun m=>List.count m ([]:List Lf))=S.map fun _=>0:=by simp
  rw [this];induction S with
  |nil=>simp
  |cons a S ih=>rename_i nd;simpa using ih (BW.mp nd).2
 |x::l,S,nd=>by
  have ih:=ij_ l S nd;have:(S.map fun m=>(x::l).count m).sum<=(S.map fun m=>l.count m).sum+1/\(x∉S->(S.map fun m=>(x::l).count m).sum=(S.map fun m=>l.count m).sum):=by
   clear ih;induction S with
   |nil=>simp
   |cons a S ih=>
    obtain⟨n1,n2⟩:=BW.mp nd;obtain⟨i1,i2⟩:=ih n2;simp only [AT,B'];by_cases e:x=a
    .subst e;have:=i2 n1;rw [List.count_cons_self];exact⟨by lia,fun h=>absurd (by simp) h⟩
    .have e':List.count a (x::l)=List.count a l:=List.count_cons_of_ne e;rw [e'];exact⟨by lia,fun h=>by rw [i2 (fun z=>h (by simp [z]))]⟩
  rw [Ah];lia
def sy_:Bool:=(List.range 27).all fun n=>(List.range (n+1)).all fun k=>decide (0<=chF (n:Int) k)&&decide (chF (n:Int) k<=10400600)&&(decide (3<k)||decide (chF (n:Int) k<=2600))
theorem op_:sy_=true:=by ac_nf
theorem qG_ {n:Int}{k:Nat} (h1:(k:Int)<=n) (h2:n<=26):0<=chF n k/\chF n k<=10400600/\(k<=3->chF n k<=2600):=by
 obtain⟨m,rfl⟩:=Am (show 0<=n by lia);have h:=op_;unfold sy_ at h;rw [AQ] at h;have h:=h m (Al.mpr (by lia));rw [AQ] at h;have h:=h k (Al.mpr (by lia));simp only [A9,Bi,Ab] at h;exact⟨h.1.1,h.1.2,fun h3=>by rcases h.2 with z|z;lia;exact z⟩
theorem ea_:∀{r:List Nat}{x:Nat},x∈r->x<=r.sum
 |y::r,x,h=>by
  rw [B'];rcases AO.mp h with rfl|h
  .lia
  .have:=ea_ h;lia
theorem hp_:∀{r:List Nat}{t:List Int}{p i:Nat},p+r.length<=t.length->(jr_ t p r).length=t.length/\(jr_ t p r).getD i 0=t.getD i 0+(if p<=i/\i<p+r.length then((r.getD (i-p) 0:Nat):Int) else 0)
 |[],t,p,i,_=>by
  rw [A6 (by simp)];simp [jr_]
 |s::r,t,p,i,h=>by
  have hp:p<t.length:=by simp at h;lia
  obtain⟨e1,e2⟩:=hp_ (r:=r) (t:=wmF t p (s:Int)) (p:=p+1) (i:=i) (by rw [hs_];simp at h;lia);unfold jr_;refine⟨by rw [e1,hs_], ?_⟩;rw [e2,nj_ hp];simp only [Ah];by_cases c:p=i
  .subst c;rw [A8 rfl,A6 (by lia),A8 (by lia),Nat.sub_self];simp
  .rw [A6 c];by_cases d:p+1<=i/\i<p+1+r.length
   .rw [A8 d,A8 (by lia),show i-p=(i-(p+1))+1 by lia,Cu];lia
   .rw [A6 d,A6 (by lia)];lia
def KC (d:Nat) (C:Nat->Int) (t:List Int):Prop:=t.length=d/\∀i:Nat,0<=t.getD i 0/\t.getD i 0<=C i
theorem KC.add {d p:Nat}{C C':Nat->Int}{t:List Int}{r:List Nat} (h:KC d C t) (hl:p+r.length<=d) (h1:∀i,C i<=C' i) (h2:∀i,p<=i->i<p+r.length->C i+(r.sum:Nat)<=C' i):KC d C' (jr_ t p r):=by
 refine⟨by rw [(hp_ (i:=0) (by rw [h.1];exact hl)).1,h.1],fun i=> ?_⟩;rw [(hp_ (i:=i) (by rw [h.1];exact hl)).2];have a:=h.2 i;have b:=h1 i;by_cases c:p<=i/\i<p+r.length
 .rw [A8 c];have e:=h2 i c.1 c.2;have:r.getD (i-p) 0<=r.sum:=by
   rw [AE,A2 (show i-p<r.length by lia)];exact ea_ (Bc _)
  lia
 .rw [A6 c];lia
structure TabP (K:List Int->Prop) (D:Tab):Prop where
 nd:(D.map (·.1)).Nodup
 key:∀x∈D,K x.1
theorem TabP.nil {K:List Int->Prop}:TabP K []:=⟨by simp,fun _ h=>nomatch h⟩
theorem TabP.add {K:List Int->Prop}{D:Tab} (h:TabP K D) {k:List Int}{v:Int} (hk:K k):TabP K (qZ_ D k v):=by
 refine⟨oT_ h.nd _ _,fun x hx=> ?_⟩;have:x.1∈(jI_ D k (iE_ D k+v)).map (·.1):=Ct hx;rw [j8_] at this;have:x.1∈D.map (·.1)\/x.1=k:=by
  split at this
  .exact .inl this
  .rcases CO.mp this with h|h
   .exact .inl h
   .exact .inr (by simpa using h)
 rcases this with h'|h'
 .obtain⟨y,hy,e⟩:=AY.mp h';rw [<-e];exact h.key y hy
 .rw [h'];exact hk
def qR_ (p:Nat) (K K':List Int->Prop) (rs:List (List Nat)):Prop:=∀r∈rs,∀t,K t->K' (jr_ t p r)
theorem ql_ {K K':List Int->Prop}{p:Nat}{t:List Int}{v:Int} (h:K t) (g:List Int->Int):∀{rs:List (List Nat)}{acc:Tab},qR_ p K K' rs->TabP K' acc->TabP K' (inP t v p rs acc)/\eA_ (inP t v p rs acc) g=eA_ acc g+v*qW_ g p rs t
 |[],acc,_,ha=>by simp [inP,qW_,ha]
 |r::rs,acc,hr,ha=>by
  have a1:=ha.add (v:=v*fW_ t p r) (hr r (by simp) t h);obtain⟨b1,b2⟩:=ql_ (v:=v) h g (rs:=rs) (fun r' h'=>hr r' (by simp [h'])) a1;refine⟨b1, ?_⟩;show eA_ (inP t v p rs (qZ_ acc (jr_ t p r) (v*fW_ t p r))) g=_;rw [b2,nq_ ha.nd];simp only [qW_,AT,B'];rw [Int.mul_add,Int.mul_assoc];lia
theorem pw_ {K K':List Int->Prop}{p:Nat}{rs:List (List Nat)} (hr:qR_ p K K' rs) (g:List Int->Int):∀{xs acc:Tab},(∀x∈xs,K x.1)->TabP K' acc->TabP K' (stP p rs xs acc)/\eA_ (stP p rs xs acc) g=eA_ acc g+eA_ xs (qW_ g p rs)
 |[],acc,_,ha=>by simp [stP,eA_,ha]
 |x::xs,acc,hx,ha=>by
  obtain⟨a1,a2⟩:=ql_ (v:=x.2) (hx x (by simp)) g hr ha;obtain⟨b1,b2⟩:=pw_ hr g (xs:=xs) (fun y hy=>hx y (by simp [hy])) a1;refine⟨b1, ?_⟩;show eA_ (stP p rs xs (inP x.1 x.2 p rs acc)) g=_;rw [b2,a2];simp only [eA_,AT,B'];lia
def k7_ (d:Nat):Nat:=if d<=4 then 26 else 15
theorem qJ_ (d:Nat):k7_ d<=26:=by unfold k7_;split<;>lia
def enc (B:Nat):List Int->Nat
 |[]=>0
 |x::t=>x.toNat+(B+1)*enc B t
theorem pb_ {B:Nat}:∀{t:List Int},(∀i:Nat,0<=t.getD i 0/\t.getD i 0<=(B:Int))->enc B t<(B+1)^t.length
 |[],_=>by simp [enc]
 |x::t,h=>by
  have h0:=h 0;have ih:=pb_ (t:=t) fun i=>by have:=h (i+1);simpa using this
  simp only [List.getD_cons_zero] at h0;unfold enc;rw [Ah,Nat.pow_succ,CA];have:=Nat.mul_le_mul_left (B+1) (Nat.succ_le_of_lt ih);rw [Nat.mul_succ] at this;rw [CA] at this⊢;rw [CA ((B+1)^t.length)];rw [CA (enc B t)] at this;lia
theorem mU_ {B:Nat}:∀{t u:List Int},t.length=u.length->(∀i:Nat,0<=t.getD i 0/\t.getD i 0<=(B:Int))->(∀i:Nat,0<=u.getD i 0/\u.getD i 0<=(B:Int))->enc B t=enc B u->t=u
 |[],[],_,_,_,_=>rfl
 |[],_::_,h,_,_,_=>absurd h (by simp)
 |_::_,[],h,_,_,_=>absurd h (by simp)
 |x::t,y::u,hl,ht,hu,e=>by
  have h0:=ht 0;have h1:=hu 0;simp only [List.getD_cons_zero] at h0 h1;unfold enc at e;have em:enc B t=enc B u/\x.toNat=y.toNat:=by
   have h2:=BR (· %(B+1)) e;simp only [Nat.add_mul_mod_self_left] at h2;rw [Nat.mod_eq_of_lt (by lia),Nat.mod_eq_of_lt (by lia)] at h2;refine⟨?_,h2⟩;rw [h2] at e;exact Nat.eq_of_mul_eq_mul_left (by lia) (Nat.add_left_cancel e)
  have ih:=mU_ (t:=t) (u:=u) (by simpa using hl) (fun i=>by have:=ht (i+1);simpa using this) (fun i=>by have:=hu (i+1);simpa using this) em.1;rw [ih,show x=y by lia]
theorem TabP.size {d:Nat}{C:Nat->Int}{D:Tab} (h:TabP (KC d C) D) (hd:d<=5) (hC:∀i,C i<=(k7_ d:Nat)):D.length<=1048576:=by
 have hb:∀x∈D,∀i:Nat,0<=x.1.getD i 0/\x.1.getD i 0<=((k7_ d:Nat):Int):=fun x hx i=>by
  have:=(h.key x hx).2 i;have:=hC i;lia
 have:=gL_ ((k7_ d+1)^d) (D.map fun x=>enc (k7_ d) x.1) ?_ ?_
 .rw [A1] at this;have:∀d,d<6->(k7_ d+1)^d<=1048576:=by decide
  have:=this d (by lia);lia
 .have nd:=h.nd;unfold List.Nodup at nd⊢;rw [CZ] at nd⊢;refine List.Pairwise.imp_of_mem (fun{a b} ha hb' hne e=>hne ?_) nd;exact mU_ (by rw [(h.key a ha).1,(h.key b hb').1]) (hb a ha) (hb b hb') e
 .intro x hx;obtain⟨y,hy,rfl⟩:=AY.mp hx;have:=pb_ (hb y hy);rw [(h.key y hy).1] at this;exact this
theorem oH_:∀{r:List Nat}{t:List Int}{p:Nat},(∀i:Nat,0<=t.getD i 0)->(∀i:Nat,i<r.length->t.getD (p+i) 0+((r.getD i 0:Nat):Int)<=26/\r.getD i 0<=3)->0<=fW_ t p r/\fW_ t p r<=2600^r.length
 |[],t,p,_,_=>by simp [fW_]
 |s::r,t,p,h,hs=>by
  have a0:=hs 0 (by simp);simp only [List.getD_cons_zero,Nat.add_zero] at a0;have a2:=h p;obtain⟨c1,_,c2⟩:=qG_ (n:=t.getD p 0+(s:Int)) (k:=s) (by lia) (by lia);obtain⟨q1,q2⟩:=oH_ (r:=r) (t:=t) (p:=p+1) h fun i hi=>by
   have:=hs (i+1) (by simpa using hi)
   rwa [Cu,show p+(i+1)=p+1+i by lia] at this
  unfold fW_;refine⟨Int.mul_nonneg c1 q1, ?_⟩;rw [Ah,Cb,Cz];exact Int.mul_le_mul q2 (c2 a0.2) c1 (Int.pow_nonneg (by decide))
theorem rD_ {r:List Nat}{t:List Int}{p g a:Nat} (h:∀i:Nat,0<=t.getD i 0) (hr:r.length=g+1/\r.sum=a) (hs:∀i:Nat,p<=i->i<=p+g->t.getD i 0+(a:Int)<=26) (hg:g<=4) (ha:g=0\/a<=3): -(2^64)<fW_ t p r/\fW_ t p r<2^64:=by
 have le:∀i:Nat,i<r.length->r.getD i 0<=a:=fun i hi=>by
  rw [<-hr.2,AE,A2 hi];exact ea_ (Bc _)
 rcases ha with rfl|ha
 .match r,hr with
  |[s],hr=>
   have es:s=a:=by simpa using hr.2
   have:=hs p (A7 _) (by lia);have h0:=h p;obtain⟨c1,c2,_⟩:=qG_ (n:=t.getD p 0+(s:Int)) (k:=s) (by lia) (by lia);unfold fW_ fW_;rw [Int.mul_one];lia
  |[],hr=>exact absurd hr.1 (by simp)
  |a::b::r,hr=>exact absurd hr.1 (by simp)
 .obtain⟨q1,q2⟩:=oH_ (r:=r) (t:=t) (p:=p) h fun i hi=>by
   have:=hs (p+i) (by lia) (by lia);have:=le i hi;lia
  have:(2600:Int)^r.length<=2600^5:=by
   have hl:r.length<=5:=by lia
   have:∀n:Nat,n<=5->(2600:Int)^n<=2600^5:=by decide
   exact this _ hl
  lia
def cov (q:Nat) (m:Lf):Bool:=decide (m.1-1<=(q:Int))&&decide ((q:Int)<m.2.1-1)
def io_ (mk S:List Lf) (q:Nat):Int:=((S.map fun m=>(mk.filter (cov q)).count m).sum:Nat)
def MkW (d:Nat) (mk:List Lf):Prop:=(∀m∈mk,1<=m.1/\m.1<m.2.1/\m.2.1<=(d:Int)+1)/\mk.length<=500/\(∀q:Nat,(mk.filter (cov q)).length<=k7_ d)/\(∀m∈mk,m.1+1<m.2.1->mk.count m<=3)/\(hq_ mk).length<60
theorem sz_ {d:Nat}{mk S:List Lf} (hS:S.Nodup) (h:∀q:Nat,(mk.filter (cov q)).length<=k7_ d) (q:Nat):io_ mk S q<=(k7_ d:Nat):=by
 have:=ij_ (mk.filter (cov q)) S hS;have:=h q;unfold io_;lia
theorem kt_ {mk S:List Lf}{x:Lf} (q:Nat):io_ mk (S++[x]) q=io_ mk S q+((mk.filter (cov q)).count x:Nat):=by
 unfold io_;rw [AD,CM];simp
theorem qI_ {mk:List Lf}{x:Lf}{q:Nat} (h:cov q x=true):(mk.filter (cov q)).count x=mk.count x:=List.count_filter h
theorem l3_ (j w:Int):∀n:Nat,((List.range n).map fun i:Nat=>if j=1+(i:Int) then w else 0).sum=if 1<=j/\j<=n then w else 0
 |0=>by
  have:¬(1<=j/\j<=((0:Nat):Int)):=by lia
  rw [A6 this];rfl
 |n+1=>by
  rw [B9,AD,CM,l3_ j w n];simp only [AT,Cy,B',List.sum_nil];by_cases e:j=1+(n:Int)
  .rw [A6 (by lia),A8 e,A8 (by lia)];lia
  .rw [A6 e];by_cases c:1<=j/\j<=n
   .rw [A8 c,A8 (by lia)];lia
   .rw [A6 c,A6 (by lia)];rfl
theorem hv_ (f g h:Nat->Int):∀xs:List Nat,(xs.map fun i=>f i+g i-h i).sum=(xs.map f).sum+(xs.map g).sum-(xs.map h).sum
 |[]=>by simp
 |x::xs=>by
  simp only [AT,B',hv_ f g h xs];lia
theorem sm_ {d:Nat}:∀{ps:List Lf},(∀p∈ps,Okl d p)->((List.range d).map (eF ps)).sum=(d:Int)
 |[],_=>by
  have:(List.range d).map (eF [])=(List.range d).map fun _=>1:=by
   refine BA fun i _=> ?_;simp [eF,fM_,c9_]
  rw [this];induction d with
  |zero=>simp
  |succ d ih=>rw [B9,AD,CM,ih (by intro p hp;exact nomatch hp) (by refine BA fun i _=> ?_;simp [eF,fM_,c9_])];simp
 |p::ps,h=>by
  have ih:=sm_ (d:=d) (ps:=ps) fun q hq=>h q (by simp [hq]);have e:(List.range d).map (eF (p::ps))=(List.range d).map fun i:Nat=>eF ps i+(if p.2.1=1+(i:Int) then p.2.2 else 0)-(if p.1=1+(i:Int) then p.2.2 else 0):=by
   refine BA fun i _=> ?_;unfold eF;rw [ei_,ds_];lia
  obtain⟨o1,o2,o3,o4⟩:=h p (by simp);rw [e,hv_,ih,l3_,l3_,A8 ⟨o3,o4⟩,A8 ⟨o1,o2⟩];lia
theorem kk_ (g:Nat->List Lf):∀xs:List Nat,(xs.flatMap g).length=(xs.map fun i=>(g i).length).sum
 |[]=>rfl
 |x::xs=>by rw [List.flatMap_cons,AH,kk_ g xs];rfl
theorem mT_ {d:Nat}{ps:List Lf} (ok:∀p∈ps,Okl d p) (h:∀i:Nat,i<d->0<=eF ps i):(fL_ d (bG_ d ps)).length=d:=by
 have e1:((List.range d).map fun i=>((k6_ d (bG_ d ps) i).length:Int))=(List.range d).map (eF ps):=by
  refine BA fun i hi=> ?_;have hi:=Al.mp hi;unfold k6_;rw [Af,hg_ ok hi];have:=h i hi;lia
 have e2:∀xs:List Nat,(((xs.map fun i=>(k6_ d (bG_ d ps) i).length).sum:Nat):Int)=(xs.map fun i=>((k6_ d (bG_ d ps) i).length:Int)).sum:=fun xs=>by
  induction xs with
  |nil=>rfl
  |cons x xs ih=>simp only [AT,B'] at ih⊢;lia
 have:=e2 (List.range d);rw [e1,sm_ ok] at this;unfold fL_;rw [kk_];lia
def ca_ (ps:List Lf):Int:=ps.foldl (fun a p=>a*p.2.2^2) 1
def Okw (d:Nat) (p:Lf):Prop:=Okl d p/\1<=p.2.2/\p.2.2<=2^20
def inF (j:Int) (p:Lf):Bool:=decide (p.1<j)&&decide (j<=p.2.1)
def fK_ (ps:List Lf) (j:Int):Int:=((ps.filter (inF j)).map (·.2.2)).sum
def cs_ (ps:List Lf):Int:=me_ (ps.map (·.2.1))
def sx_ (ps:List Lf):Int:=(ps.map fun p=>(p.2.1-p.1)*p.2.2-1).sum
def ep_ (ps:List Lf) (n:Nat):List Int:=(List.range n).map fun i:Nat=>fK_ ps (1+(i:Int))-(1+(i:Int))+1
def OkP (p:Lf):Prop:=0<=p.1/\p.1<p.2.1/\p.2.1<=40/\1<=p.2.2/\p.2.2<=4
def OkT (ps:List Lf):Prop:=ps.length<=20/\(∀p∈ps,OkP p)/\∃p∈ps,p.1=0
theorem jq_ (ns:List Int):∀k,(argBest (fun i j=>decide (ns.getD i 0>ns.getD j 0)) k)<=k/\∀i,i<=k->ns.getD i 0<=ns.getD (argBest (fun i j=>decide (ns.getD i 0>ns.getD j 0)) k) 0
 |0=>⟨A7 _,fun i hi=>by rw [show i=0 by lia];exact Int.le_refl _⟩
 |k+1=>by
  obtain⟨h1,h2⟩:=jq_ ns k;unfold argBest;generalize argBest (fun i j=>decide (ns.getD i 0>ns.getD j 0)) k=m at h1 h2;by_cases c:ns.getD (k+1) 0>ns.getD m 0
  .rw [A8 (Ak c)];refine⟨A7 _,fun i hi=> ?_⟩;by_cases e:i=k+1
   .rw [e];exact Int.le_refl _
   .have:=h2 i (by lia);lia
  .rw [A6 (by rw [AX c];decide)];refine⟨by lia,fun i hi=> ?_⟩;by_cases e:i=k+1
   .rw [e];lia
   .exact h2 i (by lia)
theorem p3_ {ns:List Int}{x:Int} (h:x∈ns):x<=me_ ns:=by
 obtain⟨i,hi,rfl⟩:=BN.mp h;have:=(jq_ ns (ns.length-1)).2 i (by lia);rw [AE,A2 hi] at this;exact this
theorem jX_ {ns:List Int} (h:0<ns.length):me_ ns∈ns:=by
 have h1:=(jq_ ns (ns.length-1)).1;unfold me_;generalize argBest (fun i j=>decide (ns.getD i 0>ns.getD j 0)) (ns.length-1)=m at h1;rw [AE,A2 (by lia)];exact Bc _
theorem oC_:∀{ns:List Int}{x:Int},x∈ns->(∀n∈ns,0<=n)->x<=ns.sum
 |n::ns,x,hx,h=>by
  rw [B'];have h0:=h n (by simp);have hs:0<=ns.sum:=by
   have:∀ms:List Int,(∀m∈ms,0<=m)->0<=ms.sum:=fun ms=>by
    induction ms with
    |nil=>intro _;simp
    |cons m ms ih=>intro hm;rw [B'];have:=hm m (by simp);have:=ih fun k hk=>hm k (by simp [hk]);lia
   exact this ns fun k hk=>h k (by simp [hk])
  rcases AO.mp hx with e|hx
  .lia
  .have:=oC_ hx fun k hk=>h k (by simp [hk]);lia
theorem nZ_ {ps:List Lf} (h:OkT ps):1<=fK_ ps 1:=by
 obtain⟨_,hp,p,hm,h0⟩:=h;obtain⟨p1,p2,p3,p4,p5⟩:=hp p hm;have:p.2.2<=fK_ ps 1:=by
  refine oC_ (AY.mpr ⟨p,CN.mpr ⟨hm, ?_⟩,rfl⟩) fun n hn=> ?_
  .unfold inF;rw [Ak (show p.1<1 by lia),Ak (show 1<=p.2.1 by lia)];rfl
  .obtain⟨q,hq,rfl⟩:=AY.mp hn;have:=(hp q (CN.mp hq).1).2.2.2.1;lia
 lia
theorem r8_ {ps:List Lf} (h:OkT ps):1<=cs_ ps/\cs_ ps<=40:=by
 obtain⟨_,hp,p,hm,h0⟩:=h;have m:cs_ ps∈ps.map (·.2.1):=jX_ (by rw [A1];cases ps with|nil=>cases hm|cons=>simp);obtain⟨q,hq,e⟩:=AY.mp m;obtain⟨q1,q2,q3,q4,q5⟩:=hp q hq;have e:q.2.1=cs_ ps:=e;lia
theorem h5_ (ps:List Lf) (n:Nat):(ep_ ps n).length=n:=by simp [ep_]
theorem j5_ {ps:List Lf}{n i:Nat} (h:i<n):fK_ ps (1+(i:Int))-(1+(i:Int))+1<=me_ (ep_ ps n):=p3_ (AY.mpr ⟨i,Al.mpr h,rfl⟩)
def sG_:List Lf->Bool
 |[]=>true
 |x::r=>r.all (fun y=> !(ex_ y x))&&sG_ r
theorem jy_:∀{ps:List Lf},sG_ ps=true->Srt ps
 |[],_=>List.Pairwise.nil
 |x::r,h=>by
  unfold sG_ at h;rw [A9,AQ] at h;exact Bw.mpr ⟨fun y hy=>by simpa using h.1 y hy,jy_ h.2⟩
def sH_ (d:Nat) (ps:List Lf):Bool:=ps.all (rS_ d)&&(List.range d).all (fun i=>decide (0<=eF ps i))&&sG_ ps
theorem nu_ {d:Nat}{ps:List Lf} (h:sH_ d ps=true):Snd d ps:=by
 unfold sH_ at h;simp only [A9,AQ,Al,Ab] at h;exact⟨fun p hp=>by have:=gC_.mp (h.1.1 p hp);lia,fun i hi=>h.1.2 i hi,jy_ h.2⟩
def hmD (d:Nat) (x:List Lf):Int:=hmF d (x++fL_ d (bG_ d x))
def nP_ (d:Nat) (x:List Lf):Bool:=sH_ d x&&decide (x.length<=20)&&decide (0<=ca_ x)&&decide (ca_ x<2^40)
theorem l4_ {d:Nat}{x:List Lf} (h:nP_ d x=true):Snd d x/\(∀p∈x,Okw d p)/\x.length<=20/\0<=ca_ x/\ca_ x<2^40/\True:=by
 unfold nP_ at h;simp only [A9,Ab] at h;obtain⟨⟨⟨h1,h2⟩,h3⟩,h4⟩:=h;refine⟨nu_ h1,fun p hp=> ?_,h2,h3,h4,trivial⟩;unfold sH_ at h1;simp only [A9,AQ] at h1;have:=gC_.mp (h1.1.1 p hp);exact⟨⟨by lia,by lia,by lia,by lia⟩,by lia,by lia⟩
def cD (L:List (List Lf)) (i j:Nat):Option Bool:=L[i]?.bind fun x=>L[j]?.map fun y=>hU_ x y
def oD (d k:Nat):Option (Array Nat):=dA_ (cD (dB_ d k)) (dB_ d k).length
def sD (d k:Nat):List (List Lf):=if(dB_ d k).length<2 then dB_ d k else((oD d k).getD #[]).toList.map fun i=>(dB_ d k).getD i []
def ou_ (d k:Nat):Prop:=okB d k=true/\(¬(dB_ d k).length<2->∃p,dA_ (cD (dB_ d k)) (dB_ d k).length=some p/\p.size<=1000/\∀i∈p.toList,i<(dB_ d k).length)/\(dB_ d k).length<=1000/\(∀w∈sD d k,nP_ d w=true)/\(sD d k).length<=1000
def k0_ (d k:Nat):Bool:=okB d k&&(dB_ d k).all (nP_ d)&&decide ((dB_ d k).length<=1000)
def kE_ (d k:Nat):Bool:=decide ((dB_ d k).length<2)||match oD d k with
 |none=>false
 |some p=>decide (p.size<=1000)&&p.toList.all fun i=>decide (i<(dB_ d k).length)
theorem kp_ {d k:Nat} (h1:k0_ d k=true) (h2:kE_ d k=true):ou_ d k:=by
 unfold k0_ at h1;simp only [A9,Ab,AQ] at h1;obtain⟨⟨a1,a2⟩,a3⟩:=h1;unfold kE_ at h2;by_cases hl:(dB_ d k).length<2
 .have e:sD d k=dB_ d k:=by unfold sD;rw [A8 hl]
  exact⟨a1,fun h=>absurd hl h,a3,by rw [e];exact a2,by rw [e];exact a3⟩
 .rw [AX hl,Bool.false_or] at h2;cases ho:oD d k with
  |none=>rw [ho] at h2;cases h2
  |some p=>
   rw [ho] at h2;simp only [A9,Ab,AQ] at h2;have e:sD d k=p.toList.map fun i=>(dB_ d k).getD i []:=by
    unfold sD;rw [A6 hl,ho];rfl
   refine⟨a1,fun _=>⟨p,ho,h2.1,h2.2⟩,a3,fun w hw=> ?_, ?_⟩
   .rw [e] at hw;obtain⟨i,hi,rfl⟩:=AY.mp hw;have:=h2.2 i hi;rw [AE,A2 this];exact a2 _ (Bc _)
   .rw [e,A1,Ar];exact h2.1
def w38 (d:Nat):Bool:=(List.range (if d=5 then 4 else 7)).all fun k=>k0_ d k&&kE_ d k
theorem sQ_:w38 1=true:=by ac_nf
theorem sP_:w38 2=true:=by ac_nf
theorem sO_:w38 3=true:=by ac_nf
theorem sN_:w38 4=true:=by ac_nf
theorem q3_:((List.range 3).all fun k=>k0_ 5 k&&kE_ 5 k)=true:=by ac_nf
theorem q2_:k0_ 5 3=true:=by ac_nf
theorem q1_:kE_ 5 3=true:=by ac_nf
theorem qB_ {d k:Nat} (h:Wide d k):ou_ d k:=by
 unfold Wide at h;have hd:d=1\/d=2\/d=3\/d=4\/(d=5/\k<3)\/(d=5/\k=3):=by lia
 have go:∀{m n:Nat},((List.range n).all fun k=>k0_ m k&&kE_ m k)=true->∀{k},k<n->ou_ m k:=fun h k hk=>by
  have:=AQ.mp h k (Al.mpr hk);rw [A9] at this;exact kp_ this.1 this.2
 rcases hd with rfl|rfl|rfl|rfl|⟨rfl,hk⟩|⟨rfl,rfl⟩
 .exact go (n:=7) sQ_ (by lia)
 .exact go (n:=7) sP_ (by lia)
 .exact go (n:=7) sO_ (by lia)
 .exact go (n:=7) sN_ (by lia)
 .exact go q3_ hk
 .exact kp_ q2_ q1_
def t5_ (d:Nat) (x:List Lf):Int:=ca_ x*hmD d x
def tO_ (d k:Nat):Int:=((sD d k).map (t5_ d)).sum
def hX_ (i j:Int) (k n:Nat):List Lf:=((List.range n).map fun w:Nat=>((i,j,1+(w:Int)):Lf)).filter fun p=>decide (1<=aN_ p)&&decide (aN_ p<=(k:Int))
def ff_ (i:Nat) (k m:Nat):List Lf:=(List.range m).flatMap fun j:Nat=>hX_ (i:Int) ((i:Int)+1+(j:Int)) k (k+1)
def ch_ (k n:Nat):List Lf:=(List.range n).flatMap fun i:Nat=>ff_ i k (k+1-i)
def gV_:Nat->List Lf->Int->List (List Lf)
 |0,_,_=>[]
 |n+1,ls,k=>if k=0 then [[]] else(List.range ls.length).flatMap fun i=>match ls[i]? with
  |none=>[]
  |some p=>if aN_ p<=k then(gV_ n (ls.drop i) (k-aN_ p)).map (p:: ·) else []
def kN_ (n:Nat) (ls:List Lf) (k:Int) (i:Nat):List (List Lf):=match ls[i]? with
  |none=>[]
  |some p=>if aN_ p<=k then(gV_ n (ls.drop i) (k-aN_ p)).map (p:: ·) else []
theorem gT_ (n:Nat) (ls:List Lf) (k:Int):gV_ (n+1) ls k=if k=0 then [[]] else(List.range ls.length).flatMap (kN_ n ls k):=rfl
def qk_ (n:Int) (ps:List Lf):Bool:=ps.any fun p=>decide (p.1<n)&&decide (n<p.2.1)
def mC_ (ps:List Lf):Bool:=decide ((ps.getD 0 (1,0,0)).1=0)&&(List.range ((cs_ ps).toNat-1)).all fun i:Nat=>qk_ (1+(i:Int)) ps
def el_ (k:Nat):List (List Lf):=(gV_ 4 (ch_ k (k+1)) k).filter mC_
def oT (k:Nat):Option (Array Nat):=dA_ (cD (el_ k)) (el_ k).length
def sT (k:Nat):List (List Lf):=if(el_ k).length<2 then el_ k else((oT k).getD #[]).toList.map fun i=>(el_ k).getD i []
def uJ_ (ps:List Lf):Bool:=(List.range (ps.map fC_).length).all fun j=>(List.range j).all fun i=> !(ltI ((ps.map fC_).getD j []) ((ps.map fC_).getD i []))
def tmB (k:Nat) (ps:List Lf):Bool:=decide (ps≠[])&&uJ_ ps&&(ps.all fun p=>decide (0<=p.1)&&decide (p.1<p.2.1)&&decide (p.2.1<=10)&&decide (1<=p.2.2)&&decide (p.2.2<=4)&&decide (2<=(p.2.1-p.1)*p.2.2))&&decide ((ps.getD 0 (1,0,0)).1=0)&&decide (sx_ ps=k)&&((List.range ((cs_ ps).toNat-1)).all fun i:Nat=>qk_ (1+(i:Int)) ps)&&decide (ps.length<=10)
def sK_:List (List Lf)->Bool
 |x::y::r=>hU_ x y&&sK_ (y::r)
 |_=>true
def lgB (p:Lf):Bool:=decide (0<=p.1)&&decide (p.1<p.2.1)&&decide (p.2.1<=10)&&decide (1<=p.2.2)&&decide (p.2.2<=10)&&decide (1<=aN_ p)
def pwB:List Lf->Bool
 |[]=>true
 |x::r=>(r.all fun y=>ex_ x y)&&pwB r
def okT (k:Nat):Bool:=(ch_ k (k+1)).all lgB&&pwB (ch_ k (k+1))&&decide ((ch_ k (k+1)).length<=100)&&decide ((gV_ 4 (ch_ k (k+1)) k).length<=900)
def pL_ (k:Nat) (S:List (List Lf)):Bool:=decide ((el_ k).length<=1000)&&S.all (tmB k)&&sK_ S&&(el_ k).all fun w=>S.contains w
def k2_ (k:Nat):Prop:=okT k=true/\(¬(el_ k).length<2->∃p,dA_ (cD (el_ k)) (el_ k).length=some p/\p.size<=1000/\∀i∈p.toList,i<(el_ k).length)/\(el_ k).length<=1000/\(∀w∈sT k,tmB k w=true)/\sK_ (sT k)=true/\∀w∈el_ k,w∈sT k
theorem nB_ {k:Nat}{S:List (List Lf)} (h:pL_ k S=true):(el_ k).length<=1000/\(∀w∈S,tmB k w=true)/\sK_ S=true/\∀w∈el_ k,w∈S:=by
 unfold pL_ at h;simp only [A9,Ab,AQ,List.contains_iff_mem] at h;obtain⟨⟨⟨e2,e3⟩,e4⟩,e5⟩:=h;exact⟨e2,e3,e4,e5⟩
theorem dX_ {k:Nat}{p:List Nat} (hk:okT k=true) (hl:¬(el_ k).length<2) (ho:oT k=some p.toArray) (hp:(decide (p.length<=1000)&&p.all fun i=>decide (i<(el_ k).length))=true) (hr:pL_ k (p.map fun i=>(el_ k).getD i [])=true):k2_ k:=by
 have e:sT k=p.map fun i=>(el_ k).getD i []:=by
  unfold sT;rw [A6 hl,ho];rfl
 simp only [A9,Ab,AQ] at hp;unfold k2_;rw [e];exact⟨hk,fun _=>⟨p.toArray,ho,by simpa using hp.1,fun i hi=>hp.2 i (by simpa using hi)⟩,nB_ hr⟩
theorem ud_:k2_ 1:=dX_ (p:=[0,1]) (by ac_nf) (by ac_nf) (by ac_nf) (by ac_nf) (by ac_nf)
theorem uc_:k2_ 2:=dX_ (p:=[0,1,2,3,4,5,6]) (by ac_nf) (by ac_nf) (by ac_nf) (by ac_nf) (by ac_nf)
theorem ub_:k2_ 3:=dX_ (p:=[0,1,2,3,4,5,6,7,8,9,10,11,12,13,14,15,16,17,18,19,20,21,22,23,24,25]) (by ac_nf) (by ac_nf) (by ac_nf) (by ac_nf) (by ac_nf)
theorem sS_ {k:Nat} (h1:1<=k) (h3:k<=3):k2_ k:=by
 have:k=1\/k=2\/k=3:=by lia
 rcases this with rfl|rfl|rfl
 .exact ud_
 .exact uc_
 .exact ub_
def jY_ (ps:List Lf) (pl:Int):List Lf:=(ps.map fun p=>(p.1+1,p.2.1+1,p.2.2))++(List.range (cs_ ps).toNat).flatMap fun i:Nat=>List.replicate (pl+(1+(i:Int))-1-fK_ ps (1+(i:Int))).toNat ((1+(i:Int),1+(i:Int)+1,1):Lf)
def hr_ (ps:List Lf) (pl:Int):Int:=if pl<me_ (ep_ ps (cs_ ps).toNat) then 0 else hmF (cs_ ps).toNat (jY_ ps pl)
def sJ_ (d:Nat) (mk:List Lf):Bool:=(hq_ mk).all (fun m=>decide (1<=m.1)&&decide (m.1<m.2.1)&&decide (m.2.1<=(d:Int)+1)&&(decide (m.2.1<=m.1+1)||decide (mk.count m<=3)))&&decide (mk.length<=500)&&((List.range 5).all fun q=>decide ((mk.filter (cov q)).length<=k7_ d))&&decide ((hq_ mk).length<60)
theorem oU_ {d:Nat}{mk:List Lf} (hd:d<=5) (sm:∀z,z∈hq_ mk↔z∈mk) (h:sJ_ d mk=true):MkW d mk:=by
 unfold sJ_ at h;rw [A9,A9,A9,AQ,AQ] at h;obtain⟨⟨⟨h1,h2⟩,h3⟩,h4⟩:=h;have hm:∀m∈mk,1<=m.1/\m.1<m.2.1/\m.2.1<=(d:Int)+1/\(m.2.1<=m.1+1\/mk.count m<=3):=fun m hm=>by
  have:=h1 m ((sm m).mpr hm);simp only [A9,Bi,Ab] at this;exact⟨this.1.1.1,this.1.1.2,this.1.2,this.2⟩
 refine⟨fun m h=>⟨(hm m h).1,(hm m h).2.1,(hm m h).2.2.1⟩,Aa h2,fun q=> ?_,fun m h hl=> ?_,Aa h4⟩
 .by_cases hq:q<5
  .exact Aa (h3 q (Al.mpr hq))
  .have:mk.filter (cov q)=[]:=by
    rw [List.filter_eq_nil_iff];intro m hmm;have:=hm m hmm;unfold cov;rw [A9,Ab,Ab];lia
   rw [this];exact AS _
 .rcases(hm m h).2.2.2 with z|z
  .lia
  .exact z
def iz_ (ps:List Lf):Int:=me_ (ep_ ps (cs_ ps).toNat)
def hvB (r:Int) (p:Lf):Bool:=decide (p.2.1=r)&&decide (p.2.2>1)
def qe_ (d:Int) (ps:List Lf):Int:=if(ps.filter (hvB (cs_ ps))).length=0 then d+1-cs_ ps else d-cs_ ps
abbrev Rw:=Int×Int×Int×Int
def rwC (c:Nat) (ps:List Lf) (i:Nat):Rw:=((c:Int),iz_ ps+(i:Int),iz_ ps+(i:Int)+cs_ ps,hr_ ps (iz_ ps+(i:Int))*ca_ ps)
def iy_ (d:Int) (c:Nat) (ps:List Lf) (n:Nat):List Rw:=(List.range n).map (rwC c ps)
def nP (d:Int) (ps:List Lf):Nat:=(qe_ d ps+1-iz_ ps).toNat
def s4_ (d:Int) (c:Nat):List Rw:=(sT c).flatMap fun ps=>iy_ d c ps (nP d ps)
def lr_ (d:Int) (k:Nat):List Rw:=(List.range k).flatMap fun c=>s4_ d (c+1)
def cdF (S:List Rw):Nat->Nat->Int->Int
 |_,0,_=>1
 |0,_+1,_=>0
 |n+1,k+1,f=>(S.map fun r=>if r.1<=((k+1:Nat):Int)/\f<=r.2.1 then r.2.2.2*cdF S n (((k+1:Nat):Int)-r.1).toNat r.2.2.1 else 0).sum
def fN_ (d k:Nat):Int:=cdF (lr_ (d:Int) k) 3 k 1
def tpB (ps:List Lf):Bool:=decide (1<=cs_ ps)&&decide (cs_ ps<=4)&&decide (ps.length<=3)&&(ps.all fun p=>decide (0<=p.1)&&decide (p.1<p.2.1)&&decide (p.2.1<=4)&&decide (1<=p.2.2)&&decide (p.2.2<=4))&&(ps.any fun p=>decide (p.1=0))&&((List.range 4).all fun i=>decide (0<=fK_ ps (1+(i:Int))))&&decide (0<=ca_ ps)&&decide (ca_ ps<2^40)&&
 decide (iz_ ps<=6)&&((List.range 13).all fun e=>decide (nP ((e:Int)+1) ps<=13))&&(List.range 14).all fun i=>decide ((i:Int)+1<iz_ ps)||sJ_ (cs_ ps).toNat (jY_ ps ((i:Int)+1))
theorem tZ_:((sT 1).all tpB&&decide ((sT 1).length<=30))=true:=by ac_nf
theorem tY_:((sT 2).all tpB&&decide ((sT 2).length<=30))=true:=by ac_nf
theorem tX_:((sT 3).all tpB&&decide ((sT 3).length<=30))=true:=by ac_nf
def rwB (k:Nat) (r:Rw):Bool:=decide (1<=r.1)&&decide (r.1<=(k:Int))&&decide (0<=r.2.1)&&decide (1<=r.2.2.1)&&decide (r.2.2.1<=20)&&decide (0<=r.2.2.2)&&decide (r.2.2.2<2^60)
def pC:Nat->List Int
 |0=>[1]
 |1=>[3,-6,3]
 |2=>[-66,81,12,-36,9]
 |_=>[1050,-829,-458,423,9,-54,9]
def bC:Nat->Int
 |0=>1
 |1=>1
 |_=>2
def hC:Nat->Nat
 |0=>1
 |1=>1
 |2=>1
 |_=>3
def ctB (k d:Nat):Bool:=(lr_ (d:Int) k).all (rwB k)&&decide ((lr_ (d:Int) k).length<=450)&&decide (0<=fN_ d k)&&decide (fN_ d k<2^100)&&(decide (d<hC k)||decide (ev (pC k) (d:Int)=fN_ d k*bC k))&&(decide (hC k<=d)||decide (d+1<hC k)||decide (ev (pC k) (d:Int)≠fN_ d k*bC k))
theorem sw_:((List.range 13).all fun e=>ctB 0 (1+e))=true:=by ac_nf
theorem sv_:((List.range 13).all fun e=>ctB 1 (1+e))=true:=by ac_nf
theorem su_:((List.range 13).all fun e=>ctB 2 (1+e))=true:=by ac_nf
theorem st_:((List.range 6).all fun e=>ctB 3 (1+e))=true:=by ac_nf
theorem ss_:((List.range 3).all fun e=>ctB 3 (7+e))=true:=by ac_nf
theorem qF_:((List.range 2).all fun e=>ctB 3 (10+e))=true:=by ac_nf
theorem qE_:((List.range 2).all fun e=>ctB 3 (12+e))=true:=by ac_nf
theorem ctf {k d:Nat} (k3:k<=3) (d1:1<=d) (d13:d<=13):ctB k d=true:=by
 have go:∀{k lo n:Nat},((List.range n).all fun e=>ctB k (lo+e))=true->∀{d:Nat},lo<=d->d<lo+n->ctB k d=true:=fun{k lo n} h {d} h1 h2=>by
  have:=AQ.mp h (d-lo) (Al.mpr (by lia))
  rwa [show lo+(d-lo)=d by lia] at this
 have:k=0\/k=1\/k=2\/k=3:=by lia
 rcases this with rfl|rfl|rfl|rfl
 .exact go sw_ d1 (by lia)
 .exact go sv_ d1 (by lia)
 .exact go su_ d1 (by lia)
 .have:d<7\/(7<=d/\d<10)\/(10<=d/\d<12)\/12<=d:=by lia
  rcases this with h|h|h|h
  .exact go st_ d1 (by lia)
  .exact go ss_ h.1 (by lia)
  .exact go qF_ h.1 (by lia)
  .exact go qE_ h (by lia)
theorem tz_ {zs ts:List Int}{b c s:Int}{n:Nat} (hl:Low zs b) (ht:Low ts c) (l1:zs.length<=n) (l2:ts.length<=n) (h:∀m:Nat,m<n->ev zs (s+m)*c=ev ts (s+m)*b):zs=ts/\b=c:=by
 obtain⟨hb,hg,hz⟩:=hl;obtain⟨hc,hg',ht⟩:=ht;obtain⟨ks,hk⟩:=Kp.ex _ (gl_ (zs.map (c* ·)) (ts.map (-b* ·))) rfl;have len:(gl_ (zs.map (c* ·)) (ts.map (-b* ·))).length<=n:=by
  unfold gl_;rw [au_,au_,Af,A1,A1];lia
 have z0:ks=[]:=by
  rcases hk.2 with q|q
  .exact q
  .cases e:ks.getLast? with
   |none=>exact List.getLast?_eq_none_iff.mp e
   |some x=>
    exfalso;have kl:=hk.len;refine gN_ ks.length ks s x rfl e (fun z=>q (by rw [e,z])) fun m hm=> ?_;have:=h m (by lia);rw [<-hk.ev,jh_,fr_,fr_]
    grind
 subst z0;have co:∀k,gz (zs.map (c* ·)) k=gz (ts.map (b* ·)) k:=fun k=>by
  have:=o6_ hk k;unfold gl_ at this;rw [fq_ _ 0 _ _ (by rw [au_,Af];lia),fq_ _ 0 _ _ (by rw [Af];lia),kh_,bB_,bB_] at this;rw [bB_,bB_];simp at this
  grind
 have kp:∀{us:List Int}{x:Int},1<=x->(us=[]\/us.getLast? ≠some 0)->Kp (us.map (x* ·)) (us.map (x* ·)):=fun{us x} hx hu=>by
  refine⟨⟨0,by simp⟩, ?_⟩;rcases hu with q|q
  .left;rw [q];rfl
  .right;rw [g1_];cases e:us.getLast? with
   |none=>simp
   |some y=>
    rw [e] at q;simp at q⊢;lia
 have e:=(kp hc hz).same (kp hb ht) co;have e1:b=c:=by
  have g1:=dP_ c.natAbs zs b.natAbs;have g2:=dP_ b.natAbs ts c.natAbs;rw [show((c.natAbs:Nat):Int)=c by lia,hg,Nat.mul_one] at g1;rw [show((b.natAbs:Nat):Int)=b by lia,hg',Nat.mul_one,<-e,CA] at g2;have:=g1.symm.trans g2;lia
 refine⟨?_,e1⟩;rw [e1] at e;refine(List.map_inj_right fun x y h=> ?_).mp e;exact Int.eq_of_mul_eq_mul_left (by lia) h
theorem tC_:∀k,k<4->1<=bC k/\dt_ (bC k).natAbs (pC k)=1/\(pC k=[]\/(pC k).getLast? ≠some 0):=by ac_nf
theorem ow_ {s b c x y:Int} (hb:0<b) (h:Vl s b x y):(x=c/\y=1)↔s=c*b:=by
 obtain⟨h1,h2⟩:=h;have gp:0<Nat.gcd b.natAbs s.natAbs:=Nat.gcd_pos_of_pos_left _ (by lia);have d1:((Nat.gcd b.natAbs s.natAbs:Nat):Int)∣s:=D6.mpr (Nat.gcd_dvd_right _ _);have d2:((Nat.gcd b.natAbs s.natAbs:Nat):Int)∣b:=D6.mpr (Nat.gcd_dvd_left _ _);rw [BU _ (by lia)] at h1 h2;have e1:=Cp d1;have e2:=Cp d2;rw [<-h1] at e1;rw [<-h2] at e2;constructor
 .rintro⟨rfl,rfl⟩;rw [Int.mul_one] at e2;rw [<-e1,e2,Cz]
 .intro hs;have eg:Nat.gcd b.natAbs s.natAbs=b.natAbs:=by
   rw [hs,Cc];exact Nat.gcd_eq_left ⟨c.natAbs,CA _ _⟩
  rw [eg,show((b.natAbs:Nat):Int)=b by lia] at e1 e2;have y1:y=1:=Int.eq_of_mul_eq_mul_left (show b≠0 by lia) (by rw [e2,Int.mul_one]);refine⟨Int.eq_of_mul_eq_mul_left (show b≠0 by lia) ?_,y1⟩;rw [e1,hs,Cz]
def mkD (d:Nat) (x:List Lf):Bool:=sJ_ d (x++fL_ d (bG_ d x))
theorem r1_:((List.range 4).all fun e=>(List.range 4).all fun k=>(dB_ (e+1) k).all (mkD (e+1)))=true:=by ac_nf
theorem r0_:((List.range 4).all fun k=>(dB_ 5 k).all (mkD 5))=true:=by ac_nf
theorem uD_ {d k:Nat}{x:List Lf} (d1:1<=d) (d5:d<=5) (k3:k<=3) (hx:x∈dB_ d k):mkD d x=true:=by
 by_cases h:d=5
 .subst h;exact AQ.mp (AQ.mp r0_ k (Al.mpr (by lia))) x hx
 .obtain⟨e,rfl⟩:∃e,d=e+1:=⟨d-1,by lia⟩;exact AQ.mp (AQ.mp (AQ.mp r1_ e (Al.mpr (by lia))) k (Al.mpr (by lia))) x hx
theorem ry_:((List.range 5).all fun d=>(List.range 4).all fun k=>decide (fN_ (d+1) k=tO_ (d+1) k))=true:=by ac_nf
theorem tP_ {d k:Nat} (d1:1<=d) (d5:d<=5) (k3:k<=3):fN_ d k=tO_ d k:=by
 obtain⟨e,rfl⟩:∃e,d=e+1:=⟨d-1,by lia⟩;exact Aa (AQ.mp (AQ.mp ry_ e (Al.mpr (by lia))) k (Al.mpr (by lia)))
theorem om_ {ks:List Int}{i:Nat} (h:i<=ks.length):iA_ (ks.map V.int) (some (i:Int)) none=(ks.drop i).map V.int:=by
 unfold iA_;rw [HT.sIx_nat,HT.sIx_none,A1,CL h,List.map_drop,Bv (by simp)]
theorem pj_ {ks:List Int}{i:Nat} (h:i<ks.length):atI (ks.map V.int) (i:Int)=some (.int (ks.getD i 0)):=m9_ (by rw [A5,A2 h];simp [List.getD,h])
theorem sA_ {z:Int} (h0:0<z) (h1:z<=10^60):z≠0/\z.natAbs<2^512:=by
 have:(10:Nat)^60<2^512:=by decide
 constructor<;>lia
abbrev Bag (H:Hp) (b:Addr) (far st:Int):Prop:=H b=some (.lst [.int far, .int st])
def s6_ (K:W.Frag):Sp:=fun vs H Q _=>∃(a:Addr) (ns:List Int),vs=[.ref a]/\SqL K H a (ns.map V.int)/\ns.length<=1000/\
 ∀(l:Addr) (ks:List Int) (b:Nat) (H':Hp),al_ H H'->H l=none->H' l=some (.lst (ks.map V.int))->ns=ks++List.replicate b 0->(ks=[]\/ks.getLast? ≠some 0)->Q (.ref l) H'
def ru_ (K:W.Frag):Sp:=fun vs H Q _=>∃(a:Addr) (ns:List Int) (k:Int),vs=[.ref a, .int k]/\SqL K H a (ns.map V.int)/\0<=k/\∀z,Q (.int z) H
def tq_ (_:W.Frag):Sp:=fun vs H Q _=>∃(c pl:Int),vs=[.int c, .int pl]/\0<=pl/\pl<=100000/\∀(b:Addr) (far st:Int) (H':Hp),al_ H H'->H b=none->Bag H' b far st->0<=far->0<=st->Q (.ref b) H'
def pD_ (_:W.Frag):Sp:=fun vs H Q _=>∃(b:Addr) (far st:Int),vs=[.ref b]/\Bag H b far st/\∀z st',0<=z->0<=st'->Q (.int z) (upd H b (.lst [.int far, .int st']))
def pF_ (_:W.Frag):Sp:=fun vs H Q _=>∃(b:Addr) (many far st:Int),vs=[.ref b, .int many]/\Bag H b far st/\0<=far/\0<=st/\0<many/\many<=10^60/\∀z far' st',0<=z->z<many->0<=far'->0<=st'->Q (.int z) (upd H b (.lst [.int far', .int st']))
def But (b:Addr) (H H':Hp):Prop:=∀c o,H c=some o->c≠b->H' c=some o
def jz_ (K:W.Frag):Sp:=fun vs H Q _=>∃(a:Addr) (ns:List Int),vs=[.ref a]/\SqL K H a (ns.map V.int)/\ns.length<=63/\∀H',Q (.bl true) H'
theorem o7_ {l:List Int}{i:Nat} (h:i<l.length):(l.map V.int)[i]? =some (.int (l.getD i 0)):=by
 rw [A5,A2 h];simp [List.getD,h]
theorem jG_ (n:Nat):(List.replicate n [V.int 0]).flatten=(List.replicate n (0:Int)).map V.int:=by
 induction n with
 |zero=>rfl
 |succ n ih=>rw [Aq,Aq,C2,ih];rfl
def oE_ (f:List Int->List Int->List Int) (B:List Int->List Int->Prop) (K:W.Frag):Sp:=fun vs H Q _=>∃(a c:Addr) (xs ys:List Int),vs=[.ref a, .ref c]/\SqL K H a (xs.map V.int)/\SqL K H c (ys.map V.int)/\xs.length<=900/\ys.length<=900/\B xs ys/\
 ∀(l:Addr) (H':Hp),al_ H H'->H l=none->H' l=some (.lst ((f xs ys).map V.int))->Q (.ref l) H'
def qU_ (H:Hp) (Q:VK) (P:List Int->Int->Prop):Prop:=∀(t l:Addr) (zs:List Int) (bt:Int) (H':Hp),al_ H H'->H l=none->H' t=some (.tup [.ref l, .int bt])->H' l=some (.lst (zs.map V.int))->P zs bt->Q (.ref t) H'
def nt_ (_:W.Frag):Sp:=fun vs H Q _=>∃a b:Int,vs=[.int a, .int b]/\Q (.int (Nat.gcd a.natAbs b.natAbs:Nat)) H
def tc_ (K:W.Frag):Sp:=fun vs H Q _=>∃(a:Addr) (ts:List Int) (b:Int),vs=[.ref a, .int b]/\SqL K H a (ts.map V.int)/\0<b/\Q (.int (dt_ b.natAbs ts:Nat)) H
def tL_ (z1:List Int) (b1:Int) (z2:List Int) (b2:Int):List Int:=gl_ (z1.map (· *b2)) (z2.map (· *b1))
def sj_ (z1:List Int) (_:Int) (z2:List Int) (_:Int):List Int:=cv z1 z2 z1.length
structure Gv (z:List Int) (b:Int):Prop where
 len:z.length<=30
 bd:∀x∈z,x.natAbs<=2^87
 pos:1<=b
 top:b<=10^12
def pC_ (_:W.Frag):Sp:=fun vs H Q _=>∃(t p:Addr) (zs:List Int) (b c:Int),vs=[.ref t, .int c]/\H t=some (.tup [.ref p, .int b])/\H p=some (.lst (zs.map V.int))/\Gv zs b/\c.natAbs<=2^67/\
 ∀(u:Addr) (x y:Int) (H':Hp),al_ H H'->H' u=some (.tup [.int x, .int y])->Vl (hor c zs.reverse) b x y->Q (.ref u) H'
def rl_ (K:W.Frag):Sp:=fun vs H Q _=>∃(a:Addr) (ns:List Int) (b:Int),vs=[.ref a, .int b]/\SqL K H a (ns.map V.int)/\ns.length<=900/\0<b/\b.natAbs<=2^500/\qU_ H Q (Lo ns b)
structure Gp (z:List Int) (b:Int):Prop where
 len:z.length<=20
 bd:Bn 2000 z
 pos:1<=b
 top:b.natAbs<=2^500
def oD_ (F:List Int->Int->List Int->Int->List Int) (_:W.Frag):Sp:=fun vs H Q _=>∃(t u p q:Addr) (z1 z2:List Int) (b1 b2:Int),vs=[.ref t, .ref u]/\H t=some (.tup [.ref p, .int b1])/\H p=some (.lst (z1.map V.int))/\H u=some (.tup [.ref q, .int b2])/\H q=some (.lst (z2.map V.int))/\
 Gp z1 b1/\Gp z2 b2/\(b1*b2).natAbs<=2^500/\qU_ H Q (Lo (F z1 b1 z2 b2) (b1*b2))
def ls_ (K:W.Frag):Sp:=fun vs H Q _=>∃(st:Int) (a:Addr) (ws:List Int),vs=[.int st, .ref a]/\SqL K H a (ws.map V.int)/\ws.length<=12/\Bn 200 ws/\st.natAbs<=2^40/\qU_ H Q (t9_ st ws)
def ur_ (K:W.Frag):Sp:=fun vs H Q _=>∃(a:Addr) (ts:List Int) (x:Int),vs=[.ref a, .int x]/\SqL K H a (ts.map V.int)/\ts.length<=20/\Bn 1800 ts/\x.natAbs<=2^41/\Q (.int (ev ts x)) H
theorem oi_ {x b:Int}{g:Nat} (h1:0<b) (h2:b.natAbs<=2^500) (h3:0<g) (h4:g<=b.natAbs):CDB x (g:Int):=
 ⟨by lia,by rw [Int.natAbs_natCast];exact CS (Ac h4 h2) (Nat.pow_lt_pow_right (by decide) (by decide))⟩
theorem jR_ (n:Nat):(1:Int).natAbs<=2^n:=Nat.one_le_two_pow
theorem But.of_same {b:Addr}{H H':Hp} (s:al_ H H'):But b H H':=fun c o e _=>s _ _ e
theorem But.trans {b:Addr}{H H' H'':Hp} (s:But b H H') (t:But b H' H''):But b H H'':=fun c o e n=>t c o (s c o e n) n
theorem But.upd {b:Addr}{H:Hp}{o:HO}:But b H (L2.upd H b o):=fun c u e n=>by rw [ar_ n];exact e
theorem ol_ {vs:List V}{k:Nat}:iA_ vs none (some (k:Int))=vs.take k:=by
 unfold iA_;rw [HT.sIx_nat,HT.sIx_none,List.drop_zero,Nat.sub_zero];exact List.take_eq_take_iff.mpr (by lia)
def stD (x:List Lf×Int):D:= .t [lfs x.1, .i x.2]
def Lok (p:Lf):Prop:=0<=p.2.1-p.1/\p.2.1-p.1<=10/\1<=p.2.2/\p.2.2<=20
def rv_ (_:W.Frag):Sp:=fun vs H Q _=>∃i lo hi:Int,vs=[.int i, .int lo, .int hi]/\lo<=i/\i<=hi/\Q .non H
def rt_ (_:W.Frag):Sp:=fun vs H Q _=>∃i:Int,vs=[.int i]/\1<=i/\i<=5/\Q .non H
def rj_ (_:W.Frag):Sp:=fun vs H Q _=>∃d k:Nat,vs=[.int d, .int k]/\Wide d k/\Q .non H
def rr_ (_:W.Frag):Sp:=fun vs H Q _=>∃(n:Nat) (dv:V) (ps:List Lf),vs=[.int n,dv]/\1<=n/\n<=5/\Is H (lfs ps) dv/\(∀p∈ps,Okl n p)/\∀l H',al_ H H'->H l=none->H' l=some (.lst ((bG_ n ps).map V.int))->Q (.ref l) H'
def rm_ (_:W.Frag):Sp:=fun vs H Q _=>∃(v:V) (p:Lf),vs=[v]/\Is H (lf p) v/\Lok p/\Q (.int (aN_ p)) H
def tf_ (_:W.Frag):Sp:=fun vs H Q _=>∃(d f n:Nat) (sp:Int),vs=[.int d, .int f, .int n, .int sp]/\f<=d/\d<=5/\n<=20/\∀l H',al_ H H'->H l=none->Is H' (lfs (kO_ f (d-f) n sp)) (.ref l)->Q (.ref l) H'
def rp_ (n:Nat) (_:W.Frag):Sp:=fun vs H Q _=>∃(v:V) (ls:List Lf) (wt sp:Int),vs=[v, .int wt, .int sp]/\Is H (lfs ls) v/\(∀p∈ls,Lok p)/\0<=wt/\wt<n/\(c0_ n ls wt sp).length<=1000/\ls.length<=200/\n<=100/\
 ∀l H',al_ H H'->H l=none->Is (nw H H') (.l ((c0_ n ls wt sp).map lfs)) (.ref l)->Q (.ref l) H'
def ri_ (_:W.Frag):Sp:=fun vs H Q _=>∃(d f:Nat) (v:V) (x:List Lf×Int),vs=[.int d, .int ((f+1:Nat):Int),v, .int x.2]/\f<d/\d<=5/\Is H (lfs x.1) v/\stB d f x=true/\
 ∀l H',al_ H H'->H l=none->Is (nw H H') (.l ((eP_ d (f+1) x.1 x.2).map stD)) (.ref l)->Q (.ref l) H'
def rs_ (_:W.Frag):Sp:=fun vs H Q _=>∃d k:Nat,vs=[.int d, .int k]/\Wide d k/\∀l H',al_ H H'->H l=none->Is (nw H H') (.l ((sD d k).map lfs)) (.ref l)->Q (.ref l) H'
theorem g7_ {H:Hp}{Wq:List (List Lf)}{vs:List V} (h:Iss H (Wq.map lfs) vs):∀(l:List Nat),(∀i∈l,i<Wq.length)->Iss H ((l.map fun i=>Wq.getD i []).map lfs) (l.map fun i=>vs.getD i .non)
 |[],_=>an_
 |i::l,hl=>by
  have hi:i<Wq.length:=hl i (by simp);have hr:i<vs.length:=by rw [h.length,A1];exact hi
  refine ap_ ?_ (g7_ h l fun j hj=>hl j (by simp [hj]));obtain⟨d,hd,h1⟩:=h.of_get (A2 hr);rw [A5,A2 hi] at hd;cases hd;show Is H (lfs (Wq.getD i [])) (vs.getD i .non);rw [AE,AE,A2 hi,A2 hr];exact h1
theorem rU_ {H:Hp}{x:List Lf×Int}{v:V} (h:Is H (stD x) v):∃t u,v= .ref t/\H t=some (.tup [u, .int x.2])/\Is H (lfs x.1) u:=by
 obtain⟨t,vs,rfl,ht,hi⟩:=l6_ h;obtain⟨u,us,rfl,h1,h2⟩:=aV_ hi;obtain⟨u2,us2,rfl,h3,h4⟩:=aV_ h2;rw [dV_ h3,b0_ h4] at ht;exact⟨t,u,rfl,ht,h1⟩
theorem nz_ {ps:List Lf}:∀x∈ps.map fC_,x.length=3:=fun x hx=>by
 obtain⟨p,_,rfl⟩:=AY.mp hx;rfl
theorem jd_ {H H':Hp}{a:Addr} (k:But a H H'):al_ (hid H a) H':=fun b o e=>by
 have hb:b≠a:=by rintro rfl;rw [n7_] at e;cases e
 rw [mH_ hb] at e;exact k _ _ e hb
theorem fv_ {vs:List V}{i:Nat} (h:i<=vs.length):iA_ vs (some (i:Int)) none=vs.drop i:=by
 unfold iA_;rw [HT.sIx_nat,HT.sIx_none,CL h,Bv (by simp)]
theorem Snd.good {d:Nat}{ps:List Lf} (h:Snd d ps):pl_ d ps:=⟨h.ok,h.nn⟩
def ti (t:List Int):D:=tI t
def un_ (_:W.Frag):Sp:=fun vs H Q _=>∃(v:V) (t:List Int) (p:Nat) (m:Int),vs=[v, .int p, .int m]/\Is H (tI t) v/\p<t.length/\t.length<=5/\∀u H',al_ H H'->Is H' (tI (wmF t p m)) u->Q u H'
theorem q7_ {t:List Int}{p:Nat} (H':Hp) (vs:List V) (h:Iss H' (t.map .i) vs):Iss H' ((t.take p).map .i) (iA_ vs none (some (p:Int))):=by
 rw [ol_,List.map_take];exact h.take p
theorem pq_ {t:List Int}{p:Nat} (hp:p<=t.length) (H':Hp) (vs:List V) (h:Iss H' (t.map .i) vs):Iss H' ((t.drop p).map .i) (iA_ vs (some (p:Int)) none):=by
 rw [fv_ (by rw [h.length,A1];exact hp),List.map_drop];exact h.drop p
theorem oQ_:∀{g:Nat}{t:List Int}{p a:Nat},(pbF g t p a).length<=(a+1)^g
 |0,t,p,a=>by simp [pbF]
 |g+1,t,p,a=>by
  have go:∀n,n<=a+1->((List.range n).flatMap fun h:Nat=>(pbF g (wmF t p (h:Int)) (p+1) (a-h)).map fun x=>(x.1,chF (t.getD p 0+(h:Int)) h*x.2)).length<=n*(a+1)^g:=by
   intro n hn;induction n with
   |zero=>simp
   |succ n ih=>
    rw [aO_,AH,A1];have h1:=ih (by lia);have h2:=oQ_ (g:=g) (t:=wmF t p (n:Int)) (p:=p+1) (a:=a-n);have h3:(a-n+1)^g<=(a+1)^g:=Nat.pow_le_pow_left (by lia) g;rw [Cw];lia
  have:=go (a+1) (A7 _);rw [Nat.pow_succ,CA];exact this
theorem nM_ {g:Nat}{t:List Int}{p a:Nat} (hg:g<=5) (ha:a<=15):(pbF g t p a).length<=1048576:=by
 have h1:=oQ_ (g:=g) (t:=t) (p:=p) (a:=a);have h2:(a+1)^g<=16^g:=Nat.pow_le_pow_left (by lia) g;have h3:16^g<=16^5:=Cm (by decide) hg;lia
theorem qa_ {n:Nat} (h:n<=1048576):n<sizeLine:=by rw [B1];lia
theorem qg_ {H:Hp}{x:List Int×Int}{t:Addr}{u:V} (h:H t=some (.tup [u, .int x.2])) (k:Is H (tI x.1) u):Is H (prD x) (.ref t):=ng_ h (ap_ k (ap_ n5_ an_))
theorem pZ_ {H:Hp}{x:List Int×Int}{v:V} (h:Is H (prD x) v):∃t u,v= .ref t/\H t=some (.tup [u, .int x.2])/\Is H (tI x.1) u:=by
 obtain⟨t,vs,rfl,ht,hi⟩:=l6_ h;obtain⟨u1,us,rfl,hu1,hi⟩:=aV_ hi;obtain⟨u2,us,rfl,hu2,hi⟩:=aV_ hi;rw [b0_ hi,dV_ hu2] at ht;exact⟨t,u1,rfl,ht,hu1⟩
theorem lk_ {H H':Hp} (s:cA_ H H') {t:List Int}{v:V} (h:Is H (tI t) v):Is H' (tI t) v:=by
 obtain⟨a,rfl,ha⟩:=hR_ h;exact jb_ (s _ _ ha)
theorem jM_ {H H':Hp} (s:cA_ H H') {x:List Int×Int}{v:V} (h:Is H (prD x) v):Is H' (prD x) v:=by
 obtain⟨a,u,rfl,ha,hu⟩:=pZ_ h;exact qg_ (s _ _ ha) (lk_ s hu)
theorem lO_ {H H':Hp} (s:cA_ H H'):∀{xs:List (List Int×Int)}{vs:List V},Iss H (xs.map prD) vs->Iss H' (xs.map prD) vs
 |[],_,h=>by rw [b0_ h];exact an_
 |x::xs,_,h=>by
  obtain⟨u,us,rfl,q,r⟩:=aV_ h;exact ap_ (jM_ s q) (lO_ s r)
theorem Snd.okl {d:Nat}{ps:List Lf} (h:Snd d ps):∀p∈ps,Okl d p:=h.good.okl
theorem qn_ {ns:List Int} (h:∀i:Nat,0<=ns.getD i 0):0<=r2_ ns:=h _
theorem Snd.ends {d:Nat}{ps:List Lf} (h:Snd d ps) (i:Nat):0<=(bG_ d ps).getD i 0:=by
 rcases BH i d with c|c
 .rw [hg_ h.okl c];exact h.nn i c
 .rw [AE,Cf (by rw [eJ_ d ps h.okl];exact c)];exact Int.le_refl _
def s9_ (_:W.Frag):Sp:=fun vs H Q _=>∃(n:Nat) (dv:V) (ps:List Lf),vs=[.int n,dv]/\1<=n/\n<=5/\Is H (lfs ps) dv/\Snd n ps/\∀H',al_ H H'->Q (.bl true) H'
def tb_ (_:W.Frag):Sp:=fun vs H Q _=>∃(n:Nat) (dv:V) (ps:List Lf),vs=[.int n,dv]/\1<=n/\n<=5/\Is H (lfs ps) dv/\Snd n ps/\∀H',al_ H H'->Q .non H'
def tk_ (_:W.Frag):Sp:=fun vs H Q _=>∃(n:Nat) (dv:V) (ps:List Lf),vs=[.int n,dv]/\1<=n/\n<=5/\Is H (lfs ps) dv/\Snd n ps/\(fL_ n (bG_ n ps)).length<=20/\∀l H',al_ H H'->H l=none->Is H' (lfs (fL_ n (bG_ n ps))) (.ref l)->Q (.ref l) H'
theorem oY_ {H H':Hp}{l:Addr}{o:HO}{xs:List V}{qs:List Lf}{vs:List V} (s:al_ H H') (hl:H l=some (.lst xs)) (h:Iss H (qs.map lf) vs):Iss (upd H' l o) (qs.map lf) vs:=
 dN_ (fun a ys e=>by rw [ar_ (by rintro rfl;rw [hl] at e;cases e)];exact s _ _ e) h
theorem r7_ {H:Hp}{p q:Lf}{v:V} (h:Is H (lf p) v) (k:Is H (lf q) v):p=q:=by
 obtain⟨a,rfl,ha⟩:=gJ_ h;obtain⟨b,e,hb⟩:=gJ_ k;cases e;rw [ha] at hb;obtain⟨a1,a2,a3⟩:=p;obtain⟨b1,b2,b3⟩:=q;simp at hb;simp [hb]
theorem q6_ {K:W.Frag}{H:Hp}{wt:List Lf}{m:Lf}{wvs:List V}{v:V} (h:Iss H (wt.map lf) wvs) (k:Is H (lf m) v):tS_ K H 1 wvs v (fun j=>decide (wt.getD j (0,0,0)=m)):=by
 have at_:∀(j:Nat) z,wvs[j]? =some z->Is H (lf (wt.getD j (0,0,0))) z:=fun j z hz=>by
  obtain⟨d,hd,h1⟩:=h.of_get hz;rw [A5] at hd;obtain⟨d',hd',rfl⟩:=A3.mp hd;rw [List.getD,hd'];exact h1
 refine⟨by decide,fun j z hz=>⟨?_,pa_ (at_ j z hz) k⟩,fun i j z hi hj=> ?_⟩
 .obtain⟨a,e,_⟩:=gJ_ (at_ j z hz);exact⟨a,e⟩
 .show decide (wt.getD i (0,0,0)=m)=decide (wt.getD j (0,0,0)=m);rw [r7_ (at_ i z hi) (at_ j z hj)]
theorem pp_ {K:W.Frag}{H:Hp}{wt:List Lf}{m:Lf}{wvs:List V}{v:V} (h:Iss H (wt.map lf) wvs) (k:Is H (lf m) v):qQ_ K H 1 wvs v (fun j=>decide (wt.getD j (0,0,0)=m)):=by
 obtain⟨a,b,c⟩:=q6_ (K:=K) h k;exact⟨a,fun j z hz=>⟨(b j z hz).1,(b j z hz).2.told⟩,c⟩
theorem py_ (xs:List Lf):(hq_ xs).Nodup:=(iJ_ xs).imp fun{a b} h e=>by subst e;exact gQ_ h
theorem ig_ {α β:Type} (f:β->α->β) (b:β) (xs:List α) (j:Nat) (x:α) (h:xs[j]? =some x):(xs.take (j+1)).foldl f b=f ((xs.take j).foldl f b) x:=by
 rw [AF,h,Ca];rfl
theorem ps_ (cnt:Lf->Nat) (m:Lf) (ms:List Lf):TF cnt (m::ms)=qW_ (TF cnt ms) (m.1-1).toNat (spR (m.2.1-m.1-1).toNat (cnt m)):=by funext t;rfl
theorem jg_ {p:Nat}{rs:List (List Nat)}{D:Tab}{j:Nat}{x:List Int×Int}{acc:Tab} (h:D[j]? =some x):stP p rs (D.take (j+1)) acc=inP x.1 x.2 p rs (stP p rs (D.take j) acc):=ig_ _ _ D j x h
theorem no_ {H:Hp}{d:Addr}{kvs:List (List Key×V)}{o:HO} (h:H d=some (.dT kvs)):cA_ H (upd H d o):=(LTS.dict h).2
def tg_ (_:W.Frag):Sp:=fun vs H Q _=>∃(v:V) (ps:List Lf),vs=[v]/\Is H (lfs ps) v/\ps≠[]/\ps.length<=20/\∀H',al_ H H'->Q (.int (cs_ ps)) H'
def ro_ (_:W.Frag):Sp:=fun vs H Q _=>∃(v:V) (ps:List Lf) (j:Int),vs=[v, .int j]/\Is H (lfs ps) v/\ps.length<=20/\∀H',al_ H H'->Q (.int (fK_ ps j)) H'
def pE_ (_:W.Frag):Sp:=fun vs H Q _=>∃(v:V) (ps:List Lf),vs=[v]/\Is H (lfs ps) v/\OkT ps/\∀H',al_ H H'->Q (.int (me_ (ep_ ps (cs_ ps).toNat))) H'
def rn_ (_:W.Frag):Sp:=fun vs H Q _=>∃k:Nat,vs=[.int k]/\k<=3/\∀l H',al_ H H'->H l=none->Is H' (lfs (ch_ k (k+1))) (.ref l)->Q (.ref l) H'
def td_ (n:Nat) (_:W.Frag):Sp:=fun vs H Q _=>∃(v:V) (ls:List Lf) (k:Int),vs=[v, .int k]/\Is H (lfs ls) v/\(∀p∈ls,Lok p/\1<=aN_ p)/\0<=k/\k<n/\(gV_ n ls k).length<=1000/\ls.length<=200/\n<=100/\
 ∀l H',al_ H H'->H l=none->Is (nw H H') (.l ((gV_ n ls k).map lfs)) (.ref l)->Q (.ref l) H'
def te_ (_:W.Frag):Sp:=fun vs H Q _=>∃(v:V) (ps:List Lf) (n:Int),vs=[.int n,v]/\Is H (lfs ps) v/\ps.length<=20/\∀H',al_ H H'->Q (.bl (qk_ n ps)) H'
def ti_ (_:W.Frag):Sp:=fun vs H Q _=>∃(v:V) (ps:List Lf),vs=[v]/\Is H (lfs ps) v/\ps.length<=20/\ps≠[]/\(∀p∈ps,1<=p.2.1/\p.2.1<=100)/\∀H',al_ H H'->Q (.bl (mC_ ps)) H'
def s7_ (c:Addr):Sp:=fun vs H Q E=>∃v,vs=[v]/\nd_ H v/\(∀n:Nat,v= .int n->1<=n->n<=3->∀l H',al_ H H'->H l=none->Is (nw H H') (.l ((sT n).map lfs)) (.ref l)->Q (.ref l) H')/\(¬Within 1 3 v->E (.ref c) none H)
theorem gU_:∀{n:Nat}{ls:List Lf}{k:Int}{x:List Lf},(∀p∈ls,1<=aN_ p)->x∈gV_ n ls k->x.length<=n/\∀p∈x,p∈ls
 |0,ls,k,x,_,h=>by rw [gV_] at h;cases h
 |n+1,ls,k,x,hw,h=>by
  rw [gT_] at h;split at h
  .rw [Ax.mp h];exact⟨by simp,fun p hp=>nomatch hp⟩
  .obtain⟨i,hi,h⟩:=Ci.mp h;unfold kN_ at h;split at h
   .cases h
   .rename_i p hp;split at h
    .obtain⟨r,hr,rfl⟩:=AY.mp h;obtain⟨a,d⟩:=gU_ (fun q hq=>hw q (BM hq)) hr;refine⟨by rw [Ah];lia,fun q hq=> ?_⟩;rcases AO.mp hq with rfl|hq
     .exact AL hp
     .exact BM (d q hq)
    .cases h
theorem r6_ {n:Nat}{ls:List Lf}{k:Int}{x:List Lf} (hk:k≠0) (h:x∈gV_ n ls k):x≠[]:=by
 cases n with
 |zero=>rw [gV_] at h;cases h
 |succ n=>
  rw [gT_,A6 hk] at h;obtain⟨i,hi,h⟩:=Ci.mp h;unfold kN_ at h;split at h
  .cases h
  .split at h
   .obtain⟨r,hr,rfl⟩:=AY.mp h;exact List.cons_ne_nil _ _
   .cases h
theorem ec_ (i j:Int) (k n:Nat):hX_ i j k (n+1)=hX_ i j k n++(if 1<=aN_ (i,j,1+(n:Int))/\aN_ (i,j,1+(n:Int))<=(k:Int) then [(i,j,1+(n:Int))] else []):=by
 unfold hX_;rw [B9,AD,B3];congr 1
 by_cases h1:1<=aN_ (i,j,1+(n:Int))
 .by_cases h2:aN_ (i,j,1+(n:Int))<=(k:Int)
  .rw [A8 ⟨h1,h2⟩];simp [h1,h2]
  .rw [A6 fun z=>h2 z.2];simp [h2]
 .rw [A6 fun z=>h1 z.1];simp [h1]
theorem fd_ (i j:Int) (k n:Nat):(hX_ i j k n).length<=n:=by
 unfold hX_;exact Ac (Ba _ _) (by simp)
theorem fe_ (i k:Nat):∀m,(ff_ i k m).length<=m*(k+1)
 |0=>by simp [ff_]
 |m+1=>by
  unfold ff_;rw [aO_,AH,Cw];have a:=fe_ i k m;unfold ff_ at a;have b:=fd_ (i:Int) ((i:Int)+1+(m:Int)) k (k+1);lia
theorem hY_ (k:Nat):∀n,(ch_ k n).length<=n*((k+1)*(k+1))
 |0=>by simp [ch_]
 |n+1=>by
  unfold ch_;rw [aO_,AH,Cw];have a:=hY_ k n;unfold ch_ at a;have b:=fe_ n k (k+1-n);have c:(k+1-n)*(k+1)<=(k+1)*(k+1):=Nat.mul_le_mul_right _ (by lia);lia
def tj_ (_:W.Frag):Sp:=fun vs H Q _=>∃(d:Nat) (v:V) (mk:List Lf),vs=[.int d,v]/\1<=d/\d<=5/\Is H (lfs mk) v/\MkW d mk/\∀H',al_ H H'->Q (.int (hmF d mk)) H'
def up_ (_:W.Frag):Sp:=fun vs H Q _=>∃(d:Nat) (v:V) (ps:List Lf),vs=[.int d,v]/\1<=d/\d<=5/\Is H (lfs ps) v/\Snd d ps/\MkW d (ps++fL_ d (bG_ d ps))/\∀H',al_ H H'->Q (.int (hmF d (ps++fL_ d (bG_ d ps)))) H'
def tn_ (f:Nat->Nat->Int):Sp:=fun vs H Q _=>∃d k:Nat,vs=[.int d, .int k]/\Wide d k/\k<=3/\∀H',al_ H H'->Q (.int (f d k)) H'
theorem rB_ {d k:Nat} (h:ou_ d k) {x:List Lf} (hx:x∈sD d k):x∈dB_ d k:=by
 unfold sD at hx;by_cases c:(dB_ d k).length<2
 .rwa [A8 c] at hx
 .rw [A6 c] at hx;obtain⟨p,e,_,hp⟩:=h.2.1 c;rw [show oD d k=some p from e] at hx;obtain⟨i,hi,rfl⟩:=AY.mp hx;have:=hp i hi;rw [AE,A2 this];exact Bc _
def to_ (_:W.Frag):Sp:=fun vs H Q _=>∃(n:Int) (k:Nat),vs=[.int n, .int k]/\(k:Int)<=n/\n<=26/\Q (.int (chF n k)) H
def uO_ (t:List Int) (p g a:Nat):Prop:=t.length<=5/\(∀i:Nat,0<=t.getD i 0)/\(∀i:Nat,p<=i->i<=p+g->t.getD i 0+(a:Int)<=26)/\(g=0\/a<=3)
def uo_ (n:Nat) (_:W.Frag):Sp:=fun vs H Q _=>∃(v:V) (t:List Int) (p g a:Nat),vs=[v, .int p, .int ((p:Int)+(g:Int)), .int a]/\Is H (tI t) v/\g<n/\n<=6/\p+g<t.length/\uO_ t p g a/\∀l H',al_ H H'->H l=none->Is H' (.l ((pbF g t p a).map prD)) (.ref l)->Q (.ref l) H'
theorem nN_ {K:W.Frag}:pk_ 3 (o8_ K 3 (c1_ (bF_ 0) (c1_ (bF_ 1) (c1_ (bF_ 2) qq_)))):=by
 intro v σ H Q ⟨a,xs,e,hq,hl,x,r,ex,y,r2,er,z,r3,er3,en,q⟩;refine⟨a,xs,e,hq,hl,x,r,ex,y,r2,er,z,r3,er3,en,q, ?_,fun i hi=> ?_⟩
 .rw [BF,BF,BF]
 .rw [BO (by lia),BO (by lia),BO (by lia)]
theorem nU_ {K:W.Frag}:∀(σ:L2.St) (H:Hp) (R R':L2.St->Hp->Prop) (x:V),(∀σ' H',R σ' H'->R' σ' H')->o8_ K 3 (c1_ (bF_ 0) (c1_ (bF_ 1) (c1_ (bF_ 2) qq_))) x σ H R->o8_ K 3 (c1_ (bF_ 0) (c1_ (bF_ 1) (c1_ (bF_ 2) qq_))) x σ H R':=
 fun σ H R R' v k ⟨a,xs,e,hq,hl,x,r,ex,y,r2,er,z,r3,er3,en,q⟩=>⟨a,xs,e,hq,hl,x,r,ex,y,r2,er,z,r3,er3,en,k _ _ q⟩
def upM (p:Lf):Lf:=(p.1+1,p.2.1+1,p.2.2)
def mkA (ps:List Lf) (pl:Int) (n:Nat):List Lf:=ps.map upM++(List.range n).flatMap fun i:Nat=>List.replicate (pl+(1+(i:Int))-1-fK_ ps (1+(i:Int))).toNat ((1+(i:Int),1+(i:Int)+1,1):Lf)
theorem md_ (ps:List Lf) (pl:Int):mkA ps pl (cs_ ps).toNat=jY_ ps pl:=rfl
theorem jW_ (ps:List Lf) (pl:Int) (n:Nat):mkA ps pl (n+1)=mkA ps pl n++List.replicate (pl+(1+(n:Int))-1-fK_ ps (1+(n:Int))).toNat ((1+(n:Int),1+(n:Int)+1,1):Lf):=by
 unfold mkA;rw [aO_,BC]
def pA_ (_:W.Frag):Sp:=fun vs H Q _=>∃(dv:V) (ps:List Lf) (d:Nat),vs=[dv]/\Is H (lfs ps) dv/\(∀p∈ps,True/\1<=p.2.2/\p.2.2<=2^20)/\Q (.int (ca_ ps)) H
def uq_ (c:Addr):Sp:=fun vs H Q E=>∃v lo hi,vs=[v, .int lo, .int hi]/\nd_ H v/\(Within lo hi v->Q .non H)/\(¬Within lo hi v->(0<=lo/\lo<=20/\0<=hi/\hi<=20)/\E (.ref c) none H)
structure Tp (ps:List Lf):Prop where
 l1:1<=cs_ ps
 l4:cs_ ps<=4
 len:ps.length<=3
 ok:∀p∈ps,0<=p.1/\p.1<p.2.1/\p.2.1<=4/\1<=p.2.2/\p.2.2<=4
 any:∃p∈ps,p.1=0
 load:∀i:Nat,i<4->0<=fK_ ps (1+(i:Int))
 w0:0<=ca_ ps
 w1:ca_ ps<2^40
 l6:iz_ ps<=6
 np:∀d:Nat,1<=d->d<=13->nP (d:Int) ps<=13
 mw:∀pl:Int,1<=pl->iz_ ps<=pl->pl<=14->MkW (cs_ ps).toNat (jY_ ps pl)
theorem sR_ {c:Nat}{ps:List Lf} (c1:1<=c) (c3:c<=3) (h:ps∈sT c):Tp ps:=by
 have a:tpB ps=true:=by
  have:c=1\/c=2\/c=3:=by lia
  rcases this with rfl|rfl|rfl
  .exact AQ.mp ((A9 _ _).mp tZ_).1 ps h
  .exact AQ.mp ((A9 _ _).mp tY_).1 ps h
  .exact AQ.mp ((A9 _ _).mp tX_).1 ps h
 unfold tpB at a;simp only [A9,Bi,Ab,AQ,List.any_eq_true,Al] at a;obtain⟨⟨⟨⟨⟨⟨⟨⟨⟨⟨h1,h2⟩,h3⟩,h4⟩,h5⟩,h6⟩,h7⟩,h8⟩,h9⟩,h10⟩,h11⟩:=a;refine⟨h1,h2,h3,fun p hp=> ?_,h5,h6,h7,h8,h9,fun d d1 d5=> ?_,fun pl p1 pa p14=> ?_⟩
 .obtain⟨⟨⟨⟨a,b⟩,c⟩,d⟩,e⟩:=h4 p hp;exact⟨a,b,c,d,e⟩
 .have:=h10 (d-1) (by lia)
  rwa [show((d-1:Nat):Int)+1=(d:Int) by lia] at this
 .have:=h11 (pl-1).toNat (by lia);rw [show(((pl-1).toNat:Nat):Int)+1=pl by lia] at this;exact oU_ (by lia) (fun z=>cP_) (this.resolve_left (by lia))
theorem rz_ {c:Nat} (c1:1<=c) (c3:c<=3):(sT c).length<=30:=by
 have:c=1\/c=2\/c=3:=by lia
 rcases this with rfl|rfl|rfl
 .exact Aa ((A9 _ _).mp tZ_).2
 .exact Aa ((A9 _ _).mp tY_).2
 .exact Aa ((A9 _ _).mp tX_).2
theorem Tp.okt {ps:List Lf} (h:Tp ps):OkT ps:=⟨by have:=h.len;lia,fun p hp=>by
 obtain⟨a,b,c,d,e⟩:=h.ok p hp;exact⟨a,b,by lia,d,e⟩,h.any⟩
theorem Tp.ne {ps:List Lf} (h:Tp ps):ps≠[]:=fun z=>by
 obtain⟨p,hp,_⟩:=h.any;rw [z] at hp;cases hp
theorem Tp.lea {ps:List Lf} (h:Tp ps):1<=iz_ ps:=by
 have l1:=h.l1;have a:=j5_ (ps:=ps) (n:=(cs_ ps).toNat) (i:=0) (by lia);have b:=nZ_ h.okt;unfold iz_;have e:(1:Int)+((0:Nat):Int)=1:=by lia
 rw [e] at a;lia
theorem kX_ {d k:Nat} (d1:1<=d) (d5:d<=13) (k3:k<=3):(∀r∈lr_ (d:Int) k,rwB k r=true)/\(lr_ (d:Int) k).length<=450/\0<=fN_ d k/\fN_ d k<2^100/\(hC k<=d->ev (pC k) (d:Int)=fN_ d k*bC k)/\(d+1=hC k->ev (pC k) (d:Int)≠fN_ d k*bC k):=by
 have a:=ctf k3 d1 d5;unfold ctB at a;simp only [A9,Bi,Ab,AQ] at a;obtain⟨⟨⟨⟨⟨a1,a2⟩,a3⟩,a4⟩,a5⟩,a6⟩:=a;exact⟨a1,a2,a3,a4,fun h=>a5.resolve_left (by lia),fun h=>a6.resolve_left (by lia)⟩
theorem mc_ {ps:List Lf}{pl:Int} (h:Tp ps) (h2:pl<=20):∀{n:Nat},n<=4->(mkA ps pl n).length<=3+30*n
 |0,_=>by
  have:=h.len;unfold mkA;simp;lia
 |n+1,hn=>by
  have ih:=mc_ h h2 (n:=n) (by lia);have l:=h.load n (by lia);rw [jW_,AH,Af];lia
def pB_ (_:W.Frag):Sp:=fun vs H Q _=>∃(v:V) (ps:List Lf) (pl:Int),vs=[v, .int pl]/\Is H (lfs ps) v/\Tp ps/\1<=pl/\pl<=14/\∀H',al_ H H'->Q (.int (hr_ ps pl)) H'
def th_ (_:W.Frag):Sp:=fun vs H Q _=>∃(v:V) (ps:List Lf) (d:Int),vs=[.int d,v]/\Is H (lfs ps) v/\Tp ps/\∀H',al_ H H'->Q (.int (qe_ d ps)) H'
def r4 (r:Rw):List Int:=[r.1,r.2.1,r.2.2.1,r.2.2.2]
def rD (r:Rw):D:=tI (r4 r)
def s8_ (_:W.Frag):Sp:=fun vs H Q _=>∃d k:Nat,vs=[.int d, .int k]/\1<=d/\d<=13/\k<=3/\∀l H',al_ H H'->H l=none->Is H' (.l ((lr_ (d:Int) k).map rD)) (.ref l)->Q (.ref l) H'
structure Kn (S:List Rw) (D:Tab):Prop where
 nd:(D.map (·.1)).Nodup
 key:∀x∈D,∃(k:Nat) (f:Nat),x.1=[(k:Int),(f:Int)]/\k<=3/\f<=90/\x.2=cdF S 3 k (f:Int)
theorem Kn.size {S:List Rw}{D:Tab} (h:Kn S D):D.length<=400:=by
 have:=gL_ 400 (D.map fun x=>(x.1.getD 0 0).toNat*100+(x.1.getD 1 0).toNat) ?_ ?_
 .rwa [A1] at this
 .have nd:=h.nd;unfold List.Nodup at nd⊢;rw [CZ] at nd⊢;refine List.Pairwise.imp_of_mem (fun{a b} ha hb hne e=>hne ?_) nd;obtain⟨k,f,e1,a1,a2,_⟩:=h.key a ha;obtain⟨k',f',e2,b1,b2,_⟩:=h.key b hb;rw [e1,e2] at e⊢;have e:k*100+f=k'*100+f':=e;rw [show k=k' by lia,show f=f' by lia]
 .intro x hx;obtain⟨y,hy,rfl⟩:=AY.mp hx;obtain⟨k,f,e1,a1,a2,_⟩:=h.key y hy;rw [e1];show k*100+f<400;lia
theorem Kn.nil {S:List Rw}:Kn S []:=⟨by simp,fun _ h=>nomatch h⟩
theorem Kn.put {S:List Rw}{D:Tab}{k f:Nat}{v:Int} (h:Kn S D) (k3:k<=3) (f9:f<=90) (hv:v=cdF S 3 k (f:Int)):Kn S (jI_ D [(k:Int),(f:Int)] v):=by
 refine⟨oT_ h.nd _ _,fun x hx=> ?_⟩;unfold jI_ at hx;split at hx
 .obtain⟨y,hy,rfl⟩:=AY.mp hx;split
  .rename_i e;exact⟨k,f,e,k3,f9,hv⟩
  .exact h.key y hy
 .rcases CO.mp hx with hx|hx
  .exact h.key x hx
  .rw [Ax.mp hx];exact⟨k,f,rfl,k3,f9,hv⟩
theorem ks_ (S:List Rw) (hS:∀r∈S,1<=r.1):∀(n m k:Nat) (f:Int),k<=n->k<=m->cdF S n k f=cdF S m k f
 |n,m,0,_,_,_=>by cases n<;>cases m<;>rfl
 |0,_,_+1,_,h,_=>absurd h (by lia)
 |_,0,_+1,_,_,h=>absurd h (by lia)
 |n+1,m+1,k+1,f,h1,h2=>by
  unfold cdF;congr 1
  refine BA fun r hr=> ?_;have:=hS r hr;rw [ks_ S hS n m (((k+1:Nat):Int)-r.1).toNat r.2.2.1 (by lia) (by lia)]
def KnD (H:Hp) (kd:Addr) (S:List Rw):Prop:=∃D:Tab,H kd=some (.dT (df_ D))/\Kn S D
theorem po_ (D:Tab) (k:List Int) (v:Int):(jI_ D k v).find? (fun x=>decide (x.1=k))=some (k,v):=by
 unfold jI_;by_cases h:(D.any fun x=>decide (x.1=k))=true
 .rw [A8 h];induction D with
  |nil=>simp at h
  |cons x D ih=>
   by_cases e:x.1=k
   .simp [e]
   .rw [AT,A6 e,BX,AX e];exact ih (by simpa [e] using h)
 .rw [A6 h];have:D.find? (fun x=>decide (x.1=k))=none:=by
   rw [List.find?_eq_none];intro x hx z;exact h (List.any_eq_true.mpr ⟨x,hx,z⟩)
  rw [List.find?_append,this];simp
def tl_ (n:Nat) (_:W.Frag):Sp:=fun vs H Q _=>∃(k f:Nat) (v:V) (kd:Addr) (S:List Rw) (K:Nat),vs=[.int k, .int f,v, .ref kd]/\Is H (.l (S.map rD)) v/\KnD H kd S/\k<n/\n<=5/\k<=3/\f<=90/\K<=3/\(∀r∈S,rwB K r=true)/\S.length<=450/\∀H',But kd H H'->KnD H' kd S->Q (.int (cdF S 3 k (f:Int))) H'
def tm_ (_:W.Frag):Sp:=fun vs H Q _=>∃d k:Nat,vs=[.int d, .int k]/\1<=d/\d<=13/\k<=3/\∀H',al_ H H'->Q (.int (fN_ d k)) H'
def tp_ (c:Addr):Sp:=fun vs H Q E=>∃d k:Nat,vs=[.int d, .int k]/\1<=d/\d<=12/\k<=3/\∀H',al_ H H'->Q (.int (fN_ d k)) H'
def rk_ (_:W.Frag):Sp:=fun vs H Q _=>∃k:Nat,vs=[.int k]/\k<=3/\Q (.int ((2*k+1:Nat):Int)) H
def ta_ (c:Addr):Sp:=fun vs H Q E=>∃v,vs=[v]/\nd_ H v/\(∀k:Nat,v= .int k->k<=3->∀(t l:Addr) (H':Hp),al_ H H'->H l=none->H' t=some (.tup [.ref l, .int (bC k)])->H' l=some (.lst ((pC k).map V.int))->Q (.ref t) H')/\(¬Within 0 3 v->E (.ref c) none H)
def rq_ (c:Addr):Sp:=fun vs H Q E=>∃v,vs=[v]/\nd_ H v/\(∀k:Nat,v= .int k->k<=3->∀H',al_ H H'->Q (.int ((hC k:Nat):Int)) H')/\(¬Within 0 3 v->E (.ref c) none H)
theorem oG_:∀a,a<21->∀b,b<21->(decide (((a:Nat):Int).natAbs.log2<1920)&&decide ((Str.empty++Str.ofString "not a whole number from ").length<=sizeLine)&&decide ((Str.empty++Str.ofString "not a whole number from "++Str.ofString (toString ((a:Nat):Int))).length<=sizeLine)&&decide ((Str.empty++Str.ofString "not a whole number from "++Str.ofString (toString ((a:Nat):Int))++Str.ofString " to ").length<=sizeLine)&&decide ((Str.empty++Str.ofString "not a whole number from "++Str.ofString (toString ((a:Nat):Int))++Str.ofString " to "++Str.ofString (toString ((b:Nat):Int))).length<=sizeLine))=true:=by ac_nf
theorem qu_ {K:W.Frag}{H:Hp}{a b:Addr}{x y c:Int} (h:H a=some (.tup [.int x, .int y])) (k:H b=some (.tup [.int c, .int 1])):EqR K H 1 (.ref a) (.ref b) (decide (x=c)&&decide (y=1)):=by
 have e:=(jb_ (xs:=[x,y]) h).eqr (K:=K) (n:=1) (by simp [tI,dep,mV_]) (by simp [tI,Kin,k8_]) (jb_ (xs:=[c,1]) k);have:eqD (tI [x,y]) (tI [c,1])=(decide (x=c)&&decide (y=1)):=by simp [tI,eqD,jj_]
 rwa [this] at e
theorem lv_:∀k,k<4->(pC k).length=2*k+1/\(∀x∈pC k,x.natAbs<=2000)/\bC k<=2/\1<=hC k/\hC k<=3/\hC k<=2*k+1:=by ac_nf
section
variable {P:Program}{w:World}{K:W.Frag}{mg:Str->Option Value}{base:Heap} (T:Fns K mg)
theorem cr_:FnOk P w K mg base CX0 1 T.f4 T.d4 ["numbers"] (s6_ K):=by
 refine T.X4.F.ok bq_ (fun vs H Q E h=> ?_) (fun cdv A outer s H vs Q E hr h=> ?_)
 .obtain⟨_,_,rfl,_⟩:=h;rfl
 .obtain⟨a,ns,rfl,hS,hn,kk⟩:=h;refine⟨_,(ac_ (am_ (i:=1) bq_.nd rfl (by trivial) (e3_ eu_ (by rfl) T.n_list boot_list (aa_ (pv 0) ab_)))
   (ac_ (eE_ AN (fX_ (gv_ (pv 1) (fun _=>rfl)) (d3_ (az_ ew_ (aM_ b7_ (pv 1) (pQ_ lf_ ae_) (fun _ _=>rfl)) ae_ (aC_ _)))).pt (ag_ (aF_ (rM_ Ao PySem.F.slot_list_pop PySem.F.type_list_pop rZ_ (pv 1)))))
   (ag_ (ao_ (pv 1))))), ?_⟩
  refine⟨_,rfl,a,_,rfl, .inl hS,fun l hl=> ?_⟩;refine ey_ (fun σ H2=>∃(cs:List Int) (b:Nat),σ=[some (.ref a),some (.ref l)]/\al_ H H2/\H2 l=some (.lst (cs.map V.int))/\ns=cs++List.replicate b 0)
   (fun _ H2=>match H2 l with|some (.lst xs)=>xs.length|_=>0) ⟨ns,0,rfl,al_.new hl,ad_,by simp⟩ ?_ ?_
  .rintro σ H2 ⟨cs,b,rfl,s2,hl2,e⟩;rcases List.eq_nil_or_concat cs with rfl|⟨cs',z,hcs⟩
   .exact⟨_,rfl,false, .inl ⟨_,SqL.of hl2,rfl⟩,fm_ (fm_ ⟨_,rfl,kk l [] b H2 s2 hl hl2 e (.inl rfl)⟩)⟩
   .rw [List.concat_eq_append] at hcs;subst hcs;refine⟨_,rfl,true, .inl ⟨_,SqL.of hl2,by simp⟩,kS_ ?_⟩;refine⟨_,rfl,1,rfl,l,_,_, .int z,rfl,rfl,SqL.of hl2,by rw [AD];exact ot_ _ _,rfl,_,rfl, ?_⟩;refine mA_ (fun hz=> ?_) (fun hz=> ?_)
    .refine⟨_,rfl, .inl ⟨rfl,_,SqL.of hl2⟩,l,_, .int z,rfl,rfl,hl2,by simp, ?_⟩;refine⟨⟨cs',b+1,rfl,s2.put hl,by rw [ad_,AD];simp,jk_ e hz⟩, ?_⟩;show(match upd H2 l _ l with|some (.lst xs)=>xs.length|_=>0)<(match H2 l with|some (.lst xs)=>xs.length|_=>0);rw [ad_,hl2];simp
    .exact⟨_,rfl,kk l _ b H2 s2 hl hl2 e (.inr (by simpa using hz))⟩
  .intro σ H Q1 Q2 k h;obtain⟨v,e1,b,t1,h⟩:=h;refine⟨v,e1,b,t1, ?_⟩;cases b with
   |false=>exact fm_ (k _ _ (by simpa using h))
   |true=>
    rw [A8 rfl] at h;obtain⟨v2,e2,i,e3,p,xs,j,y,e4,e5,e6,e7,e8,b2,e9,h⟩:=h;exact kS_ ⟨v2,e2,i,e3,p,xs,j,y,e4,e5,e6,e7,e8,b2,e9,k _ _ h⟩
theorem fa_:FnOk P w K mg base CX0 1 T.f47 T.d47 ["_law_script","_law_k"] (ru_ K):=by
 refine T.X47.F.ok eU_ (fun vs H Q E h=> ?_) (fun cdv A outer s H vs Q E hr h=> ?_)
 .obtain⟨_,_,_,rfl,_⟩:=h;rfl
 .obtain⟨a,ns,k,rfl,hS,h0,kk⟩:=h;refine⟨_,(ac_ (b6_ (az_ hK_ (pv 1) (ax_ bH_ (by rfl) T.n_len boot_len (aa_ (pv 0) ab_)) (aC_ _)) (ag_ (ao_ (aM_ b7_ (pv 0) (pv 1) (fun _ _=>rfl)))) aP_)
   (ag_ (ao_ ae_))), ?_⟩
  refine⟨_,rfl,_,rfl,a,_,rfl, .inl hS,_,_,rfl,rfl,_,rfl, ?_⟩;refine es_ (fun h=> ?_) (fun _=>kk 0);rw [A1] at h;have hk:k.toNat<ns.length:=by lia
  have e:((k.toNat:Nat):Int)=k:=by lia
  exact⟨_,rfl,_,rfl,a,_,k,_,rfl,rfl,hS,by rw [<-e];exact pj_ hk,kk _⟩
theorem i5_:FnOk P w K mg base CX0 1 T.f48 T.d48 ["_law_cell","_law_place"] (tq_ K):=by
 refine T.X48.F.ok dh_ (fun vs H Q E h=> ?_) (fun cdv A outer s H vs Q E hr h=> ?_)
 .obtain⟨_,_,rfl,_⟩:=h;rfl
 .obtain⟨c,pl,rfl,h0,h1,kk⟩:=h;refine⟨_,(ac_ (am_ (i:=2) dh_.nd rfl (by trivial) (ax_ eM_ (by rfl) T.n_abs boot_abs (aa_ (pv 0) ab_)))
   (ac_ (b6_ (az_ hK_ (pv 2) (ak_ oS_ ae_ ae_) (aC_ _)) (ag_ (am_ (i:=2) dh_.nd rfl (by trivial) ae_)) aP_)
   (ag_ (ao_ (em_ (aa_ (pv 2) (aa_ (ak_ e7_ (ak_ ay_ (ak_ ay_ (ak_ bE_ (ak_ e7_ (pv 0) ae_) ae_) (ak_ bE_ ae_ (pv 1))) ae_) ae_) ab_))))))), ?_⟩
  refine⟨_,rfl,c,rfl, ?_⟩;refine⟨_,rfl,10,18,rfl,rfl,⟨by decide,by decide,by decide⟩,_,_,rfl,rfl,_,rfl, ?_⟩;refine es_ (fun _=> ?_) (fun _=> ?_)
  .refine⟨_,rfl,_,rfl,_,_,rfl,rfl,(show(0:Int)<2147483647 by decide),_,_,rfl,rfl, .inr ⟨by decide,by decide⟩,_,rfl,_,_,rfl,rfl, .inl ⟨by decide,by decide⟩,_,_,rfl,rfl,_,_,rfl,rfl,_,_,rfl,rfl,(show(0:Int)<2147483647 by decide), ?_⟩;exact⟨(by show 2<=sizeLine;decide),fun b nb=>kk b _ _ _ (al_.new nb) nb ad_ (by lia) (CP _ (by decide))⟩
  .refine⟨_,rfl,_,rfl,_,_,rfl,rfl,(show(0:Int)<2147483647 by decide),_,_,rfl,rfl, .inr ⟨by decide,by decide⟩,_,rfl,_,_,rfl,rfl, .inl ⟨by decide,by decide⟩,_,_,rfl,rfl,_,_,rfl,rfl,_,_,rfl,rfl,(show(0:Int)<2147483647 by decide), ?_⟩;exact⟨(by show 2<=sizeLine;decide),fun b nb=>kk b _ _ _ (al_.new nb) nb ad_ (by split<;>lia) (CP _ (by decide))⟩
theorem dI_:FnOk P w K mg base CX0 1 T.f49 T.d49 ["_law_bag_here"] (pD_ K):=by
 refine T.X49.F.ok gq_ (fun vs H Q E h=> ?_) (fun cdv A outer s H vs Q E hr h=> ?_)
 .obtain⟨_,_,_,rfl,_⟩:=h;rfl
 .obtain⟨b,far,st,rfl,hb,kk⟩:=h;refine⟨_,(ac_ (lN_ (ak_ e7_ (ak_ ay_ (ak_ bE_ (aM_ b7_ (pv 0) ae_ (fun _ _=>rfl)) ae_) ae_) ae_) (oM_ (pv 0) ae_ cQ_))
   (ag_ (ao_ (ak_ l1_ (ak_ e7_ (ak_ bE_ (aM_ b7_ (pv 0) ae_ (fun _ _=>rfl)) ae_) ae_) ae_)))), ?_⟩
  refine⟨_,rfl,b,_,_,_,rfl,rfl,SqL.of hb,by rfl,_,_,rfl,rfl, .inr ⟨by decide,by decide⟩,_,_,rfl,rfl,_,_,rfl,rfl,(show(0:Int)<2147483647 by decide),_,rfl,b,_,_,1,rfl,rfl,hb,by rfl, ?_⟩;refine⟨_,rfl,b,_,_,_,rfl,rfl,SqL.of ad_,by rfl,_,_,rfl,rfl, .inr ⟨by decide,by decide⟩,_,_,rfl,rfl,(show(0:Int)<2147483629 by decide),_,_,rfl,rfl,⟨by decide,by decide⟩, ?_⟩;refine kk _ _ ?_ (CP _ (by decide));lia
theorem dJ_:FnOk P w K mg base CX0 2 T.f50 T.d50 ["_law_bag_here","_law_many"] (pF_ K):=by
 refine T.X50.F.ok br_ (fun vs H Q E h=> ?_) (fun cdv A outer s H vs Q E hr h=> ?_)
 .obtain⟨_,_,_,_,rfl,_⟩:=h;rfl
 .obtain⟨b,many,far,st,rfl,hb,hf,hst,hm,hm2,kk⟩:=h;refine⟨_,(ac_ (b6_ (az_ iZ_ (aM_ b7_ (pv 0) ae_ (fun _ _=>rfl)) ae_ (aC_ _)) (ac_ (am_ (i:=2) br_.nd rfl (by trivial) (ak_ e7_ (aM_ b7_ (pv 0) ae_ (fun _ _=>rfl)) (pv 1)))
   (ac_ (lN_ (ak_ dG_ (aM_ b7_ (pv 0) ae_ (fun _ _=>rfl)) (pv 1)) (oM_ (pv 0) ae_ cQ_))
   (ag_ (ao_ (pv 2))))) aP_)
   (ac_ (am_ (i:=2) br_.nd rfl (by trivial) (ah_ (dI_ T) (hr.mono (by decide)) (by rfl) T.X49.m T.X49.F.kp T.X49.B .nil aq_ (aa_ (pv 0) ab_)))
   (ac_ (b6_ (az_ iZ_ (pv 1) ae_ (aC_ _)) (ag_ (aE_ AN rfl (dD_ (by rfl) T.n_range (aa_ ae_ ab_)) (ai_ (i:=3) br_.nd rfl (by trivial)) (ag_ (am_ (i:=2) br_.nd rfl (by trivial) (ak_ ay_ (ak_ bE_ (pv 2) ae_) (ah_ (dI_ T) (hr.mono (by decide)) (by rfl) T.X49.m T.X49.F.kp T.X49.B .nil aq_ (aa_ (pv 0) ab_))))))) aP_)
   (ag_ (ao_ (ak_ e7_ (pv 2) (pv 1))))))), ?_⟩
  refine⟨_,rfl,b,_,_,_,rfl,rfl,SqL.of hb,by rfl,_,_,rfl,rfl,_,rfl, ?_⟩;refine es_ (fun h=> ?_) (fun h=> ?_)
  .refine⟨_,rfl,b,_,_,_,rfl,rfl,SqL.of hb,by rfl,_,rfl,_,_,rfl,rfl,hm, ?_⟩;refine⟨_,rfl,b,_,_,_,rfl,rfl,SqL.of hb,by rfl,_,rfl,_,_,rfl,rfl,sA_ hm hm2,_,rfl,b,_,_,0,rfl,rfl,hb,by rfl, ?_⟩;exact⟨_,rfl,kk _ _ _ (CP _ (by lia)) (Int.emod_lt_of_pos _ hm) (Int.fdiv_nonneg hf (by lia)) hst⟩
  .refine⟨_,rfl,b,far,st,rfl,hb,fun z st' hz hst'=> ?_⟩;refine⟨_,rfl,_,_,rfl,rfl,_,rfl, ?_⟩;refine es_ (fun h=> ?_) (fun h=> ?_)
   .refine⟨7,rfl,by decide,by decide,a9_ (n:=7) (fun i σ H2=>∃(z:Int) (v:Option V) (st':Int),σ=[some (.ref b),some (.int many),some (.int z),v]/\0<=z/\0<=st'/\H2=upd H b (.lst [.int far, .int st'])) ⟨z,_,st',rfl,hz,hst',rfl⟩ ?_ ?_⟩
    .rintro i σ H2 hi ⟨z,v,st',rfl,hz,hst',rfl⟩;refine⟨_,rfl,_,_,rfl,rfl, .inr ⟨by decide,by decide⟩,_,rfl,b,far,st',rfl,ad_,fun z2 st2 hz2 hst2=>⟨_,_,rfl,rfl, ?_⟩⟩;exact⟨_,_,st2,rfl,by lia,hst2,ld_⟩
    .rintro σ H2 ⟨z,v,st',rfl,hz,hst',rfl⟩;exact⟨_,rfl,_,rfl,_,_,rfl,rfl,hm,kk _ _ _ (CP _ (by lia)) (Int.emod_lt_of_pos _ hm) hf hst'⟩
   .exact⟨_,rfl,_,rfl,_,_,rfl,rfl,hm,kk _ _ _ (CP _ (by lia)) (Int.emod_lt_of_pos _ hm) hf hst'⟩
theorem i2_:FnOk P w K mg base CX0 1 T.f0 T.d0 ["thing"] ns_:=by
 refine T.X0.F.ok iQ_ (fun vs H Q E h=> ?_) (fun cdv A outer s H vs Q E hr h=> ?_)
 .obtain⟨_,rfl,_⟩:=h;rfl
 .obtain⟨v,rfl,ht,kk⟩:=h;refine⟨_,(ag_ (ao_ (oP_ (ax_ eL_ (by rfl) T.n_isinstance boot_isinstance (aa_ (pv 0) (aa_ (gz_ (v:= .ty "int") (by rfl) T.n_int boot_int (by rfl)) ab_))) (oO_ (rL_ (ax_ eL_ (by rfl) T.n_isinstance boot_isinstance (aa_ (pv 0) (aa_ (gz_ (v:= .ty "bool") (by rfl) T.n_bool boot_bool (by rfl)) ab_)))))))), ?_⟩;rcases ht with⟨i,rfl⟩|⟨b,rfl⟩|rfl|⟨x,rfl⟩|⟨a,xs,rfl,ha⟩|⟨a,xs,rfl,ha⟩
  .exact⟨_,rfl,_,"int",_,true,rfl, .int i,g4_,true,rfl,kS_ ⟨_,rfl,_,"bool",_,false,rfl, .int i,eq_,false,rfl,kk⟩⟩
  .exact⟨_,rfl,_,"int",_,true,rfl, .bl b,ia_,true,rfl,kS_ ⟨_,rfl,_,"bool",_,true,rfl, .bl b,g4_,true,rfl,kk⟩⟩
  .exact⟨_,rfl,_,"int",_,false,rfl, .non,h8_,false,rfl,fm_ kk⟩
  .exact⟨_,rfl,_,"int",_,false,rfl, .str x,ja_,false,rfl,fm_ kk⟩
  .exact⟨_,rfl,_,"int",_,false,rfl, .lst ha,h9_,false,rfl,fm_ kk⟩
  .exact⟨_,rfl,_,"int",_,false,rfl, .tup ha,g3_,false,rfl,fm_ kk⟩
theorem e8_:FnOk P w K mg base CX0 1 T.f5 T.d5 ["one","other"] (oE_ gl_ (fun _ _=>True) K):=by
 refine T.X5.F.ok a6_ (fun vs H Q E h=> ?_) (fun cdv A outer s H vs Q E hr h=> ?_)
 .obtain⟨_,_,_,_,rfl,_⟩:=h;rfl
 .obtain⟨a,c,xs,ys,rfl,hA,hC,la,lc,_,kk⟩:=h;refine⟨_,(ac_ (am_ (i:=2) a6_.nd rfl (by trivial) (ak_ l0_ (em_ (aa_ ae_ ab_)) (ax_ (m5_ rfl) (by rfl) T.n_max boot_max (aa_ (ax_ bH_ (by rfl) T.n_len boot_len (aa_ (pv 0) ab_)) (aa_ (ax_ bH_ (by rfl) T.n_len boot_len (aa_ (pv 1) ab_)) ab_)))))
   (ac_ (aE_ AN rfl (rI_ (jN_ (aa_ (pv 0) (aa_ (pv 1) ab_)))) (ai_ (i:=3) a6_.nd rfl (by trivial)) (ag_ (aE_ AN rfl (d4_ (by rfl) T.n_enumerate (pv 3)) (ce_ rfl (as_ (ai_ (i:=4) a6_.nd rfl (by trivial)) (as_ (ai_ (i:=5) a6_.nd rfl (by trivial)) bl_))) (ag_ (gw_ (pv 2) (pv 4) eG_ (pv 5) id_ cQ_)))))
   (ag_ (ao_ (pv 2))))), ?_⟩
  refine⟨(by show 1<=sizeLine;decide),fun l0 n0=> ?_⟩;have s0:al_ H (upd H l0 (.lst [.int 0])):=al_.new n0;refine⟨_,rfl,a,_,rfl, .inl (s0.seq hA),_,rfl,c,_,rfl, .inl (s0.seq hC),_,_,rfl, ?_⟩;rw [A1,A1];have hm:(if(ys.length:Int)>(xs.length:Int) then(ys.length:Int) else(xs.length:Int))=((max xs.length ys.length:Nat):Int):=by split<;>lia
  rw [hm];have hmx:max xs.length ys.length<=900:=by lia
  refine⟨l0,_,_,rfl,rfl,ad_,by lia,by lia, ?_, ?_⟩
  .rw [AV,B4,Nat.one_mul];exact Ag (aj_ (by lia))
  rw [AV,jG_];intro lt nt;have sT:al_ H (upd (upd H l0 (.lst [.int 0])) lt (.lst ((List.replicate (max xs.length ys.length) (0:Int)).map V.int))):=s0.put (s0.free nt);have nlt:H lt=none:=s0.free nt;have hlt:(upd (upd H l0 (.lst [.int 0])) lt (.lst ((List.replicate (max xs.length ys.length) (0:Int)).map V.int))) lt=some (.lst ((List.replicate (max xs.length ys.length) (0:Int)).map V.int)):=ad_;generalize upd (upd H l0 (.lst [.int 0])) lt (.lst ((List.replicate (max xs.length ys.length) (0:Int)).map V.int))=H1 at sT hlt⊢;refine⟨_,rfl,_,rfl,(by show 2<=sizeLine;decide),fun tt ntt=> ?_⟩;have nttH:H tt=none:=sT.free ntt;have ntl:tt≠lt:=(av_ hlt ntt).symm;refine⟨tt,rfl,⟨_,SqT.of ad_⟩,qs_ (xs:=[.ref a, .ref c]) (fun i σ H2=>∃v3 v4 v5:Option V,σ=[some (.ref a),some (.ref c),some (.ref lt),v3,v4,v5]/\al_ H H2/\H2 tt=some (.tup [.ref a, .ref c])/\
   H2 lt=some (.lst ((if i=0 then List.replicate (max xs.length ys.length) (0:Int) else if i=1 then aH_ (List.replicate (max xs.length ys.length) 0) 0 xs else gl_ xs ys).map V.int)))
   ⟨none,none,none,rfl,sT.put nttH,ad_,by rw [ar_ ntl.symm];exact hlt⟩ (fun i σ H2 _ ⟨_,_,_,_,_,h,_⟩=>SqT.of h) ?_ ?_⟩
  .rintro i x σ H2 hi ⟨v3,v4,v5,rfl,s2,htt,hlt2⟩;obtain⟨z,zs,ts,rfl,hz,lz,e0,e1⟩:∃(z:Addr) (zs ts:List Int),x= .ref z/\SqL K H z (zs.map V.int)/\zs.length<=ts.length/\(if i=0 then List.replicate (max xs.length ys.length) (0:Int) else if i=1 then aH_ (List.replicate (max xs.length ys.length) 0) 0 xs else gl_ xs ys)=ts/\
     (if i+1=0 then List.replicate (max xs.length ys.length) (0:Int) else if i+1=1 then aH_ (List.replicate (max xs.length ys.length) 0) 0 xs else gl_ xs ys)=aH_ ts 0 zs:=by
    match i,hi with
    |0,hi=>
     cases hi;exact⟨a,xs,_,rfl,hA,by simp;lia,rfl,rfl⟩
    |1,hi=>
     cases hi;exact⟨c,ys,_,rfl,hC,by simp [au_];lia,rfl,rfl⟩
   rw [e0] at hlt2;rw [e1];refine⟨_,rfl,z,rfl,⟨_,s2.seq hz⟩,cX_ (xs:=zs.map V.int) (fun j σ H3=>∃v4 v5:Option V,σ=[some (.ref a),some (.ref c),some (.ref lt),some (.ref z),v4,v5]/\al_ H H3/\H3 tt=some (.tup [.ref a, .ref c])/\H3 lt=some (.lst ((aH_ ts 0 (zs.take j)).map V.int)))
    ⟨v4,v5,rfl,s2,htt,by rw [List.take_zero,fA_];exact hlt2⟩ (fun j σ H3 _ ⟨_,_,_,h,_⟩=>h.seq hz) ?_ ?_⟩
   .rintro j x σ H3 p hx ⟨v4,v5,rfl,s3,htt3,hlt3⟩ np;rw [A5] at hx;obtain⟨y,hy,rfl⟩:=A3.mp hx;have hj:j<zs.length:=(A'.mp hy).1;have nlp:lt≠p:=av_ hlt3 np;have hlen:(aH_ ts 0 (zs.take j)).length=ts.length:=au_ _ _ _;have hl4:upd H3 p (.tup [.int j, .int y]) lt=some (.lst ((aH_ ts 0 (zs.take j)).map V.int)):=by rw [ar_ nlp];exact hlt3
    refine⟨p,_,rfl,SqT.of ad_,rfl,_,_,rfl,_,_,rfl,rfl, ?_⟩;refine⟨_,rfl,_,rfl,lt,_,j,_, .int ((aH_ ts 0 (zs.take j)).getD j 0),rfl,rfl,rfl,SqL.of hl4, ?_,_,rfl,_,_,rfl,rfl,lt,_,_,j,rfl,rfl,hl4,g6_ (by rw [A1];lia), ?_⟩
    .exact o7_ (by lia)
    .refine⟨_,_,rfl,(s3.put (s3.free np)).put nlt, ?_, ?_⟩
     .rw [ar_ (nT_ htt3 hlt3 (by intro z;cases z)),ar_ (av_ htt3 np)];exact htt3
     .rw [ad_];have e:=cZ_ ts 0 (zs.take j) y (by rw [AW];lia);rw [AW,CL (Ag hj),Nat.zero_add] at e;have e3:zs.take (j+1)=zs.take j++[y]:=by rw [AF,hy];rfl
      rw [e3,<-e,List.map_set]
   .rintro σ H3 ⟨v4,v5,rfl,s3,htt3,hlt3⟩;rw [A1,AR] at hlt3;exact⟨_,_,_,rfl,s3,htt3,hlt3⟩
  .rintro σ H2 ⟨v3,v4,v5,rfl,s2,htt,hlt2⟩;exact⟨_,rfl,kk lt H2 s2 nlt hlt2⟩
theorem dn_:FnOk P w K mg base CX0 1 T.f6 T.d6 ["one","other"] (oE_ (fun xs ys=>cv xs ys xs.length) (fun xs ys=>xs.length+ys.length<=900/\Bn 2000 xs/\Bn 2000 ys) K):=by
 refine T.X6.F.ok aB_ (fun vs H Q E h=> ?_) (fun cdv A outer s H vs Q E hr h=> ?_)
 .obtain⟨_,_,_,_,rfl,_⟩:=h;rfl
 .obtain⟨a,c,xs,ys,rfl,hA,hC,la,lc,⟨hsz,hB,hB2⟩,kk⟩:=h;refine⟨_,(ac_ (am_ (i:=2) aB_.nd rfl (by trivial) (ak_ l0_ (em_ (aa_ ae_ ab_)) (ak_ ay_ (ax_ bH_ (by rfl) T.n_len boot_len (aa_ (pv 0) ab_)) (ax_ bH_ (by rfl) T.n_len boot_len (aa_ (pv 1) ab_)))))
   (ac_ (aE_ AN rfl (d4_ (by rfl) T.n_enumerate (pv 0)) (ce_ rfl (as_ (ai_ (i:=3) aB_.nd rfl (by trivial)) (as_ (ai_ (i:=4) aB_.nd rfl (by trivial)) bl_))) (ag_ (aE_ AN rfl (d4_ (by rfl) T.n_enumerate (pv 1)) (ce_ rfl (as_ (ai_ (i:=5) aB_.nd rfl (by trivial)) (as_ (ai_ (i:=6) aB_.nd rfl (by trivial)) bl_))) (ag_ (gw_ (pv 2) (ak_ ay_ (pv 3) (pv 5)) eG_ (ak_ (dm_ qK_) (pv 4) (pv 6)) id_ cQ_)))))
   (ag_ (ao_ (pv 2))))), ?_⟩
  refine⟨(by show 1<=sizeLine;decide),fun l0 n0=> ?_⟩;have s0:al_ H (upd H l0 (.lst [.int 0])):=al_.new n0;refine⟨_,rfl,a,_,rfl, .inl (s0.seq hA),_,rfl,c,_,rfl, .inl (s0.seq hC),_,_,rfl,rfl, ?_⟩;dsimp only;rw [A1,A1,show(xs.length:Int)+(ys.length:Int)=((xs.length+ys.length:Nat):Int) by lia];refine⟨l0,_,_,rfl,rfl,ad_,by lia,by lia, ?_, ?_⟩
  .rw [AV,B4,Nat.one_mul];exact Ag (aj_ (by lia))
  rw [AV,jG_];intro lt nt;have sT:al_ H (upd (upd H l0 (.lst [.int 0])) lt (.lst ((List.replicate (xs.length+ys.length) (0:Int)).map V.int))):=s0.put (s0.free nt);have nlt:H lt=none:=s0.free nt;have hlt:(upd (upd H l0 (.lst [.int 0])) lt (.lst ((List.replicate (xs.length+ys.length) (0:Int)).map V.int))) lt=some (.lst ((cv xs ys 0).map V.int)):=ad_;generalize upd (upd H l0 (.lst [.int 0])) lt (.lst ((List.replicate (xs.length+ys.length) (0:Int)).map V.int))=H1 at sT hlt⊢;refine⟨_,rfl,a,rfl,⟨_,sT.seq hA⟩,cX_ (xs:=xs.map V.int) (fun i σ H2=>∃v3 v4 v5 v6:Option V,σ=[some (.ref a),some (.ref c),some (.ref lt),v3,v4,v5,v6]/\al_ H H2/\H2 lt=some (.lst ((cv xs ys i).map V.int)))
   ⟨none,none,none,none,rfl,sT,hlt⟩ (fun i σ H2 _ ⟨_,_,_,_,_,h,_⟩=>h.seq hA) ?_ ?_⟩
  .rintro i x σ H2 p hx ⟨v3,v4,v5,v6,rfl,s2,hlt2⟩ np;rw [A5] at hx;obtain⟨x,hx',rfl⟩:=A3.mp hx;have hi:i<xs.length:=(A'.mp hx').1;have ex:xs.getD i 0=x:=by rw [List.getD,hx'];rfl
   have bx:=hB x (AL hx');refine⟨p,_,rfl,SqT.of ad_,rfl,_,_,rfl,_,_,rfl,rfl, ?_⟩;have s3:al_ H (upd H2 p (.tup [.int i, .int x])):=s2.put (s2.free np);have hlt3:upd H2 p (.tup [.int i, .int x]) lt=some (.lst ((cv xs ys i).map V.int)):=by rw [ar_ (av_ hlt2 np)];exact hlt2
   generalize upd H2 p (.tup [.int i, .int x])=H3 at s3 hlt3⊢;have ln:=cN_ xs ys i;refine⟨_,rfl,c,rfl,⟨_,s3.seq hC⟩,cX_ (xs:=ys.map V.int) (fun j σ H4=>∃v5 v6:Option V,σ=[some (.ref a),some (.ref c),some (.ref lt),some (.int i),some (.int x),v5,v6]/\al_ H H4/\H4 lt=some (.lst ((aH_ (cv xs ys i) i ((ys.take j).map (x* ·))).map V.int)))
    ⟨v5,v6,rfl,s3,by rw [List.take_zero,Cy,fA_];exact hlt3⟩ (fun j σ H4 _ ⟨_,_,_,h,_⟩=>h.seq hC) ?_ ?_⟩
   .rintro j y σ H4 p2 hy ⟨v5,v6,rfl,s4,hlt4⟩ np2;rw [A5] at hy;obtain⟨y,hy',rfl⟩:=A3.mp hy;have hj:j<ys.length:=(A'.mp hy').1;have hlen:(aH_ (cv xs ys i) i ((ys.take j).map (x* ·))).length=xs.length+ys.length:=by rw [au_,ln]
    have hl5:upd H4 p2 (.tup [.int j, .int y]) lt=some (.lst ((aH_ (cv xs ys i) i ((ys.take j).map (x* ·))).map V.int)):=by rw [ar_ (av_ hlt4 np2)];exact hlt4
    refine⟨p2,_,rfl,SqT.of ad_,rfl,_,_,rfl,_,_,rfl,rfl, ?_⟩;refine⟨_,rfl,_,rfl,_,rfl,_,_,rfl,rfl,lt,_,i+j,_, .int ((aH_ (cv xs ys i) i ((ys.take j).map (x* ·))).getD (i+j) 0),rfl,rfl,by lia,SqL.of hl5, ?_,_,rfl,_,rfl,_,_,rfl,rfl,⟨bY_ bx (by decide),bY_ (hB2 y (AL hy')) (by decide)⟩,_,_,rfl,rfl,lt,_,_,i+j,rfl,rfl,hl5, ?_, ?_⟩
    .exact o7_ (by lia)
    .rw [show(i:Int)+(j:Int)=((i+j:Nat):Int) by lia];exact g6_ (by rw [A1];lia)
    .refine⟨_,_,rfl,(s4.put (s4.free np2)).put nlt, ?_⟩;rw [ad_];have e:=cZ_ (cv xs ys i) i ((ys.take j).map (x* ·)) (x*y) (by rw [A1,AW];lia);rw [A1,AW,CL (Ag hj)] at e;have e3:ys.take (j+1)=ys.take j++[y]:=by rw [AF,hy'];rfl
     rw [e3,AD,List.map_singleton,<-e,List.map_set]
   .rintro σ H4 ⟨v5,v6,rfl,s4,hlt4⟩;rw [A1,AR] at hlt4;refine⟨_,_,_,_,rfl,s4, ?_⟩;rw [cv,ex];exact hlt4
  .rintro σ H2 ⟨v3,v4,v5,v6,rfl,s2,hlt2⟩;rw [A1] at hlt2;exact⟨_,rfl,kk lt H2 s2 nlt hlt2⟩
theorem tR_ (a:Int):(if a<0 then -a else a)=((a.natAbs:Nat):Int):=by split<;>lia
theorem d8_:FnOk P w K mg base CX0 1 T.f8 T.d8 ["one","other"] (nt_ K):=by
 refine T.X8.F.ok aG_ (fun vs H Q E h=> ?_) (fun cdv A outer s H vs Q E hr h=> ?_)
 .obtain⟨_,_,rfl,_⟩:=h;rfl
 .obtain⟨a,b,rfl,kk⟩:=h;refine⟨_,(ac_ (am_ (i:=2) aG_.nd rfl (by trivial) (ax_ eM_ (by rfl) T.n_abs boot_abs (aa_ (pv 0) ab_)))
   (ac_ (am_ (i:=3) aG_.nd rfl (by trivial) (ax_ eM_ (by rfl) T.n_abs boot_abs (aa_ (pv 1) ab_)))
   (ac_ (eE_ AN (az_ ty_ (pv 3) ae_ (aC_ _)) (ac_ (am_ (i:=4) aG_.nd rfl (by trivial) (ak_ e7_ (pv 2) (pv 3)))
   (ac_ (am_ (i:=2) aG_.nd rfl (by trivial) (pv 3))
   (ag_ (am_ (i:=3) aG_.nd rfl (by trivial) (pv 4))))))
   (ag_ (ao_ (pv 2)))))), ?_⟩
  refine⟨_,rfl,a,rfl,_,rfl,b,rfl, ?_⟩;rw [tR_,tR_];refine ey_ (fun σ H2=>∃(x y:Nat) (v:Option V),σ=[some (.int a),some (.int b),some (.int x),some (.int y),v]/\H2=H/\Nat.gcd x y=Nat.gcd a.natAbs b.natAbs)
   (fun(σ:L2.St) _=>match σ[3]? with|some (some (V.int j))=>j.toNat|_=>0) ⟨a.natAbs,b.natAbs,none,rfl,rfl,rfl⟩ ?_ ?_
  .rintro σ H2 ⟨x,y,v,rfl,rfl,hg⟩;refine⟨_,rfl,rfl,_,rfl, ?_⟩;refine tD_ (fun hz=> ?_) (fun hz=> ?_)
   .have hy:0<y:=by lia
    refine⟨_,rfl,_,rfl,_,_,rfl,rfl,by lia,_,rfl,_,rfl, ?_⟩;refine⟨⟨y,x%y,_,rfl,rfl,(oc_ x y).trans hg⟩, ?_⟩;show((x%y:Nat):Int).toNat<(y:Int).toNat;have:=Ch x hy;lia
   .refine⟨_,rfl, ?_⟩;have:y=0:=by lia
    subst this;rw [Nat.gcd_zero_right] at hg;rw [hg];exact kk
  .intro σ H Q1 Q2 k h;obtain⟨v1,e1,e2,b1,e3,h⟩:=h;exact⟨v1,e1,e2,b1,e3,k _ _ h⟩
theorem e9_:FnOk P w K mg base CX0 2 T.f9 T.d9 ["tops","bottom"] (tc_ K):=by
 refine T.X9.F.ok ck_ (fun vs H Q E h=> ?_) (fun cdv A outer s H vs Q E hr h=> ?_)
 .obtain⟨_,_,_,rfl,_⟩:=h;rfl
 .obtain⟨a,ts,b,rfl,hS,hb,kk⟩:=h;refine⟨_,(ac_ (am_ (i:=2) ck_.nd rfl (by trivial) (ax_ eM_ (by rfl) T.n_abs boot_abs (aa_ (pv 1) ab_)))
   (ac_ (aE_ AN rfl (aD_ (pv 0)) (ai_ (i:=3) ck_.nd rfl (by trivial)) (ag_ (am_ (i:=2) ck_.nd rfl (by trivial) (ah_ (d8_ T) (hr.mono (by decide)) (by rfl) T.X8.m T.X8.F.kp T.X8.B .nil aq_ (aa_ (pv 2) (aa_ (pv 3) ab_))))))
   (ag_ (ao_ (jO_ (az_ iZ_ (pv 1) ae_ (aC_ _)) (pv 2) (pQ_ lf_ (pv 2))))))), ?_⟩
  refine⟨_,rfl,b,rfl, ?_⟩;rw [tR_];refine⟨_,rfl,a,rfl,⟨_,hS⟩,bj_ (xs:=ts.map V.int) (fun i σ H2=>(∃v:Option V,σ=[some (.ref a),some (.int b),some (.int (dt_ b.natAbs (ts.take i):Nat)),v])/\H2=H) ⟨⟨none,rfl⟩,rfl⟩ (fun i σ H2 _ h=>by rw [h.2];exact hS) ?_ ?_⟩
  .rintro i x σ H2 hi ⟨⟨v,rfl⟩,rfl⟩;rw [A5] at hi;obtain⟨t,ht,rfl⟩:=A3.mp hi;refine⟨_,rfl,_,rfl,_,t,rfl,⟨some (.int t), ?_⟩,rfl⟩;have e3:ts.take (i+1)=ts.take i++[t]:=by rw [AF,ht];rfl
   rw [e3,mM_];rfl
  .rintro σ H2 ⟨⟨v,rfl⟩,rfl⟩;rw [A1,AR];refine⟨_,rfl,_,_,rfl,rfl,_,rfl, ?_⟩;exact es_ (fun _=>⟨_,rfl,kk⟩) (fun z=>absurd hb z)
theorem d6_:FnOk P w K mg base CX0 3 T.f10 T.d10 ["tops","bottom"] (rl_ K):=by
 refine T.X10.F.ok iO_ (fun vs H Q E h=> ?_) (fun cdv A outer s H vs Q E hr h=> ?_)
 .obtain⟨_,_,_,rfl,_⟩:=h;rfl
 .obtain⟨a,ns,b,rfl,hS,hn,hb,hb2,kk⟩:=h;refine⟨_,(ac_ (b6_ (az_ ew_ (pv 1) ae_ (aC_ _)) (ag_ jK_) aP_)
   (ac_ (am_ (i:=2) iO_.nd rfl (by trivial) (ah_ (cr_ T) (hr.mono (by decide)) (by rfl) T.X4.m T.X4.F.kp T.X4.B .nil aq_ (aa_ (pv 0) ab_)))
   (ac_ (am_ (i:=3) iO_.nd rfl (by trivial) (ah_ (e9_ T) (hr.mono (by decide)) (by rfl) T.X9.m T.X9.F.kp T.X9.B .nil aq_ (aa_ (pv 2) (aa_ (pv 1) ab_))))
   (ag_ (ao_ (jN_ (aa_ (bi_ (XN:=["tops","bottom","kept","divisor"]) (sc:=af_ jD_) (N:=["top","divisor"]) (own:=1) (js:=[3]) rfl (by ac_nf) rfl rfl (aD_ (pv 2)) (fun _ _ _ _=>(ai_ (i:=0) (show List.Nodup (["top","divisor"]:List Str) by ac_nf) rfl (Or.inl rfl) (.inr rfl))) (aI_ (by decide)) (fun _ _ _ _=>be_) (fun _ _ _ _=>(ak_ dG_ (pv 0) (pv 1)))) (aa_ (ak_ dG_ (pv 1) (pv 3)) ab_)))))))), ?_⟩
  refine⟨_,rfl,rfl,_,rfl,mA_ (fun z=>absurd z (by lia)) (fun _=> ?_)⟩;refine⟨_,rfl,a,ns,rfl,hS,by lia,fun l ks bb H2 s2 nl hl2 e hk=> ?_⟩;refine⟨_,rfl,_,rfl,l,ks,b,rfl,SqL.of hl2,hb, ?_⟩;have hp:0<b.natAbs:=by lia
  have g1:=eH_ hp ks;have g2:=jf_ hp ks;have hkl:ks.length<=ns.length:=by rw [e,AH];lia
  have fin:∀zs bt,zs=ks.map (fun t=>t.fdiv (dt_ b.natAbs ks:Int))->bt=b.fdiv (dt_ b.natAbs ks:Int)->Lo ns b zs bt:=fun zs bt e1 e2=>⟨ks,⟨⟨bb,e⟩,hk⟩,e1,e2⟩;generalize dt_ b.natAbs ks=g at g1 g2 fin⊢;refine⟨_,rfl,l,rfl,⟨_,SqL.of hl2⟩,fun acc na=> ?_⟩;refine aW_ (xs:=ks.map V.int) (own:=1) (js:=[3]) (fun i H3=>al_ H2 H3/\H3 acc=some (.lst (((ks.take i).map (fun t=>t.fdiv (g:Int))).map V.int))) ⟨al_.new na,ad_⟩ (fun i H3 _ h=>h.1.seq (SqL.of hl2)) ?_ ?_ aJ_ bf_ ?_
  .rintro i x H3 hi ⟨s3,hacc⟩;rw [A5] at hi;obtain⟨t,ht,rfl⟩:=A3.mp hi;have hlt:i<ks.length:=(A'.mp ht).1;refine k9_ ?_;refine⟨_,rfl,_,rfl,_,_,rfl,rfl,oi_ hb hb2 g1 g2,acc,_,_,rfl,rfl,hacc,aj_ (by simp;lia),s3.put na, ?_⟩;rw [ad_,AF,ht];simp
  .rintro H3 ⟨s3,hacc⟩;rw [A1,AR] at hacc;refine⟨_,rfl,_,rfl,_,_,rfl,rfl,oi_ hb hb2 g1 g2,(by show 2<=sizeLine;decide),fun t nt=> ?_⟩;have s4:=s2.trans s3;exact kk t acc _ _ _ (s4.put (s4.free nt)) (s2.free na) ad_ (by rw [ar_ (av_ hacc nt)];exact hacc) (fin _ _ rfl rfl)
  .rintro σ H R R' k ⟨v1,e1,v2,e2,i1,j1,e3,e4,c1,h⟩;exact⟨v1,e1,v2,e2,i1,j1,e3,e4,c1,k _ _ h⟩
theorem pX_:FnOk P w K mg base CX0 4 T.f11 T.d11 ["one","other"] (oD_ tL_ K):=by
 refine T.X11.F.ok iP_ (fun vs H Q E h=> ?_) (fun cdv A outer s H vs Q E hr h=> ?_)
 .obtain⟨_,_,_,_,_,_,_,_,rfl,_⟩:=h;rfl
 .obtain⟨t,u,p,q,z1,z2,b1,b2,rfl,ht,hp,hu,hq,g1,g2,gb,kk⟩:=h;refine⟨_,(ac_ (cU_ (i:=2) iP_.nd rfl (by trivial) (.inl rfl) (XN:=["one","other","widened","other_widened"]) (sc:=af_ hC_) (N:=["top","other"]) (own:=1) (js:=[1]) rfl (by ac_nf) rfl rfl (aD_ (aM_ cj_ (pv 0) ae_ (fun _ _=>rfl))) (fun _ _ _ _=>(ai_ (i:=0) (show List.Nodup (["top","other"]:List Str) by ac_nf) rfl (Or.inl rfl) (.inr rfl))) (aI_ (by decide)) (fun _ _ _ _=>be_) (fun _ _ _ _=>(ak_ (dm_ qK_) (pv 0) (aM_ (my_ (K:=K) rfl) (pv 1) ae_ (fun _ _=>rfl)))))
   (ac_ (cU_ (i:=3) iP_.nd rfl (by trivial) (.inl rfl) (XN:=["one","other","widened","other_widened"]) (sc:=af_ hC_) (N:=["top","one"]) (own:=1) (js:=[0]) rfl (by ac_nf) rfl rfl (aD_ (aM_ cj_ (pv 1) ae_ (fun _ _=>rfl))) (fun _ _ _ _=>(ai_ (i:=0) (show List.Nodup (["top","one"]:List Str) by ac_nf) rfl (Or.inl rfl) (.inr rfl))) (aI_ (by decide)) (fun _ _ _ _=>be_) (fun _ _ _ _=>(ak_ (dm_ qK_) (pv 0) (aM_ (my_ (K:=K) rfl) (pv 1) ae_ (fun _ _=>rfl)))))
   (ag_ (ao_ (ah_ (d6_ T) (hr.mono (by decide)) (by rfl) T.X10.m T.X10.F.kp T.X10.B .nil aq_ (aa_ (ah_ (e8_ T) (hr.mono (by decide)) (by rfl) T.X5.m T.X5.F.kp T.X5.B .nil aq_ (aa_ (pv 2) (aa_ (pv 3) ab_))) (aa_ (ak_ (dm_ qK_) (aM_ cj_ (pv 0) ae_ (fun _ _=>rfl)) (aM_ cj_ (pv 1) ae_ (fun _ _=>rfl))) ab_))))))), ?_⟩
  have n1:=g1.len;have n2:=g2.len;have a1:=g1.pos;have c1:=g2.pos;refine⟨_,rfl,t,_,_, .ref p,rfl,rfl,SqT.of ht,by rfl,p,rfl,⟨_,SqL.of hp⟩,fun acc na=> ?_⟩;refine aW_ (xs:=z1.map V.int) (own:=1) (js:=[1]) (fun i H2=>al_ H H2/\H2 acc=some (.lst (((z1.take i).map (· *b2)).map V.int))) ⟨al_.new na,ad_⟩ (fun i H2 _ h=>h.1.seq (SqL.of hp)) ?_ ?_ aJ_ bf_ ?_
  .rintro i x H2 hi ⟨s2,hacc⟩;rw [A5] at hi;obtain⟨z,hz,rfl⟩:=A3.mp hi;have hlt:i<z1.length:=(A'.mp hz).1;refine k9_ ?_;refine⟨_,rfl,_,rfl,u,_,_, .int b2,rfl,rfl,SqT.of (s2 _ _ hu),by rfl,_,_,rfl,rfl,⟨bY_ (g1.bd z (AL hz)) (by decide),bY_ g2.top (by decide)⟩,acc,_,_,rfl,rfl,hacc,aj_ (by simp;lia),s2.put na, ?_⟩;rw [ad_,AF,hz];simp
  .rintro H2 ⟨s2,hacc⟩;rw [A1,AR] at hacc;refine⟨_,rfl,u,_,_, .ref q,rfl,rfl,SqT.of (s2 _ _ hu),by rfl,q,rfl,⟨_,SqL.of (s2 _ _ hq)⟩,fun acc2 na2=> ?_⟩;refine aW_ (xs:=z2.map V.int) (own:=1) (js:=[0]) (fun i H3=>al_ H2 H3/\H3 acc2=some (.lst (((z2.take i).map (· *b1)).map V.int))) ⟨al_.new na2,ad_⟩ (fun i H3 _ h=>h.1.seq (SqL.of (s2 _ _ hq))) ?_ ?_ aJ_ bf_ ?_
   .rintro i x H3 hi ⟨s3,hacc2⟩;rw [A5] at hi;obtain⟨z,hz,rfl⟩:=A3.mp hi;have hlt:i<z2.length:=(A'.mp hz).1;refine k9_ ?_;refine⟨_,rfl,_,rfl,t,_,_, .int b1,rfl,rfl,SqT.of (s3 _ _ (s2 _ _ ht)),by rfl,_,_,rfl,rfl,⟨bY_ (g2.bd z (AL hz)) (by decide),bY_ g1.top (by decide)⟩,acc2,_,_,rfl,rfl,hacc2,aj_ (by simp;lia),s3.put na2, ?_⟩;rw [ad_,AF,hz];simp
   .rintro H3 ⟨s3,hacc2⟩;rw [A1,AR] at hacc2;have sA:=s2.trans s3;refine⟨_,rfl,_,rfl,acc,acc2,z1.map (· *b2),z2.map (· *b1),rfl,SqL.of (s3 _ _ hacc),SqL.of hacc2,by rw [A1];lia,by rw [A1];lia,trivial,fun l H4 s4 nl hl=> ?_⟩;have sB:=sA.trans s4;refine⟨_,rfl,t,_,_, .int b1,rfl,rfl,SqT.of (sB _ _ ht),by rfl,_,rfl,u,_,_, .int b2,rfl,rfl,SqT.of (sB _ _ hu),by rfl,_,_,rfl,rfl,⟨bY_ g1.top (by decide),bY_ g2.top (by decide)⟩, ?_⟩;refine⟨l,_,b1*b2,rfl,SqL.of hl,by simp [gl_,au_];lia,Int.mul_pos (by lia) (by lia),gb,fun t' l' zs bt H' s' nl' ht' hl' lo=> ?_⟩;exact kk t' l' zs bt H' (sB.trans s') (sB.free nl') ht' hl' lo
   .rintro σ H R R' k ⟨v1,e1,v2,e2,x1,x2,x3,x4,e3,e4,e5,e6,i1,j1,e7,e8,c1,h⟩;exact⟨v1,e1,v2,e2,x1,x2,x3,x4,e3,e4,e5,e6,i1,j1,e7,e8,c1,k _ _ h⟩
  .rintro σ H R R' k ⟨v1,e1,v2,e2,x1,x2,x3,x4,e3,e4,e5,e6,i1,j1,e7,e8,c1,h⟩;exact⟨v1,e1,v2,e2,x1,x2,x3,x4,e3,e4,e5,e6,i1,j1,e7,e8,c1,k _ _ h⟩
theorem jT_:FnOk P w K mg base CX0 4 T.f12 T.d12 ["one","other"] (oD_ sj_ K):=by
 refine T.X12.F.ok nx_ (fun vs H Q E h=> ?_) (fun cdv A outer s H vs Q E hr h=> ?_)
 .obtain⟨_,_,_,_,_,_,_,_,rfl,_⟩:=h;rfl
 .obtain⟨t,u,p,q,z1,z2,b1,b2,rfl,ht,hp,hu,hq,g1,g2,gb,kk⟩:=h;refine⟨_,(ag_ (ao_ (ah_ (d6_ T) (hr.mono (by decide)) (by rfl) T.X10.m T.X10.F.kp T.X10.B .nil aq_ (aa_ (ah_ (dn_ T) (hr.mono (by decide)) (by rfl) T.X6.m T.X6.F.kp T.X6.B .nil aq_ (aa_ (aM_ cj_ (pv 0) ae_ (fun _ _=>rfl)) (aa_ (aM_ cj_ (pv 1) ae_ (fun _ _=>rfl)) ab_))) (aa_ (ak_ (dm_ qK_) (aM_ cj_ (pv 0) ae_ (fun _ _=>rfl)) (aM_ cj_ (pv 1) ae_ (fun _ _=>rfl))) ab_))))), ?_⟩;have n1:=g1.len;have n2:=g2.len;have a1:=g1.pos;have c1:=g2.pos;refine⟨_,rfl,t,_,_, .ref p,rfl,rfl,SqT.of ht,by rfl,_,rfl,u,_,_, .ref q,rfl,rfl,SqT.of hu,by rfl, ?_⟩;refine⟨p,q,z1,z2,rfl,SqL.of hp,SqL.of hq,by lia,by lia,⟨by lia,g1.bd,g2.bd⟩,fun l H1 s1 nl hl=> ?_⟩;refine⟨_,rfl,t,_,_, .int b1,rfl,rfl,SqT.of (s1 _ _ ht),by rfl,_,rfl,u,_,_, .int b2,rfl,rfl,SqT.of (s1 _ _ hu),by rfl,_,_,rfl,rfl,⟨bY_ g1.top (by decide),bY_ g2.top (by decide)⟩, ?_⟩;refine⟨l,_,b1*b2,rfl,SqL.of hl,by rw [cN_];lia,Int.mul_pos (by lia) (by lia),gb,fun t' l' zs bt H' s' nl' ht' hl' lo=> ?_⟩;exact kk t' l' zs bt H' (s1.trans s') (s1.free nl') ht' hl' lo
theorem kK_:FnOk P w K mg base CX0 5 T.f14 T.d14 ["start","values"] (ls_ K):=by
 refine T.X14.F.ok bc_ (fun vs H Q E h=> ?_) (fun cdv A outer s H vs Q E hr h=> ?_)
 .obtain⟨_,_,_,rfl,_⟩:=h;rfl
 .obtain⟨st,a,ws,rfl,hS,hn,hv,hs,kk⟩:=h;refine⟨_,(ac_ (am_ (i:=2) bc_.nd rfl (by trivial) (ah_ (d6_ T) (hr.mono (by decide)) (by rfl) T.X10.m T.X10.F.kp T.X10.B .nil aq_ (aa_ (em_ ab_) (aa_ ae_ ab_))))
   (ac_ (am_ (i:=3) bc_.nd rfl (by trivial) (ah_ (d6_ T) (hr.mono (by decide)) (by rfl) T.X10.m T.X10.F.kp T.X10.B .nil aq_ (aa_ (em_ (aa_ ae_ ab_)) (aa_ ae_ ab_))))
   (ac_ (am_ (i:=4) bc_.nd rfl (by trivial) (e3_ eu_ (by rfl) T.n_list boot_list (aa_ (pv 1) ab_)))
   (ac_ (am_ (i:=5) bc_.nd rfl (by trivial) ae_)
   (ac_ (eE_ AN (gv_ (pv 4) (fun _=>rfl)) (ac_ (am_ (i:=2) bc_.nd rfl (by trivial) (ah_ (pX_ T) (hr.mono (by decide)) (by rfl) T.X11.m T.X11.F.kp T.X11.B .nil aq_ (aa_ (pv 2) (aa_ (ah_ (jT_ T) (hr.mono (by decide)) (by rfl) T.X12.m T.X12.F.kp T.X12.B .nil aq_ (aa_ (pv 3) (aa_ (ah_ (d6_ T) (hr.mono (by decide)) (by rfl) T.X10.m T.X10.F.kp T.X10.B .nil aq_ (aa_ (em_ (aa_ (aM_ b7_ (pv 4) ae_ (fun _ _=>rfl)) ab_)) (aa_ ae_ ab_))) ab_))) ab_))))
   (ac_ (am_ (i:=3) bc_.nd rfl (by trivial) (ah_ (jT_ T) (hr.mono (by decide)) (by rfl) T.X12.m T.X12.F.kp T.X12.B .nil aq_ (aa_ (pv 3) (aa_ (ah_ (d6_ T) (hr.mono (by decide)) (by rfl) T.X10.m T.X10.F.kp T.X10.B .nil aq_ (aa_ (em_ (aa_ (ak_ aT_ (pQ_ lf_ (pv 0)) (pv 5)) (aa_ ae_ ab_))) (aa_ (ak_ ay_ (pv 5) ae_) ab_))) ab_))))
   (ac_ (cU_ (i:=4) bc_.nd rfl (by trivial) (.inl rfl) (XN:=["start","values","total","choosing","differences","taken"]) (sc:=af_ dz_) (N:=["ahead","behind"]) (own:=2) (js:=[]) rfl (by ac_nf) rfl rfl (rH_ (by rfl) T.n_zip (aa_ (pv 4) (aa_ (dE_ iN_ (pv 4) (e1_ ae_) e2_) ab_))) (fun _ _ _ _=>(iY_ (K:=K) rfl rfl (as_ (ai_ (i:=0) (show List.Nodup (["ahead","behind"]:List Str) by ac_nf) rfl (Or.inl rfl) (.inr rfl)) (as_ (ai_ (i:=1) (show List.Nodup (["ahead","behind"]:List Str) by ac_nf) rfl (Or.inl rfl) (.inr rfl)) bl_)))) hJ_ (fun _ _ _ _=>be_) (fun _ _ _ _=>(ak_ aT_ (pv 1) (pv 0))))
   (ag_ (jL_ (i:=5) bc_.nd rfl (by trivial) ae_ id_))))))
   (ag_ (ao_ (pv 2)))))))), ?_⟩
  refine⟨AS _,fun l0 n0=> ?_⟩;refine⟨l0,[],1,rfl,SqL.of ad_,by decide,by decide,jR_ _,fun t1 p1 zt bt H1 s1 np1 ht1 hp1 lo1=> ?_⟩;have sA:al_ H H1:=(al_.new n0).trans s1;have fp1:H p1=none:=(al_.new n0).free np1;refine⟨(by show 1<=sizeLine;decide),fun l2 n2=> ?_⟩;refine⟨l2,[1],1,rfl,SqL.of ad_,by decide,by decide,jR_ _,fun c1 q1 zc bc H2 s2 nq1 hc1 hq1 lo2=> ?_⟩;have sB:al_ H1 H2:=(al_.new n2).trans s2;refine⟨_,rfl,a,_,rfl, .inl ((sA.trans sB).seq hS),fun d0 nd0=> ?_⟩;have sC:al_ H2 (upd H2 d0 (.lst (ws.map V.int))):=al_.new nd0;have hd0:upd H2 d0 (.lst (ws.map V.int)) d0=some (.lst (ws.map V.int)):=ad_;show sF_ (rg_ (tC (V.int 0)) (bF_ 5)) _ _ _ _;show bF_ 5 (V.int 0) _ _ _;unfold bF_;dsimp only;show sF_ _ _ _ _ _;unfold sF_;show lm_ _ _ _ [some (V.int st),some (V.ref a),some (V.ref t1),some (V.ref c1),some (V.ref d0),some (V.int ((0:Nat):Int))] _;refine ey_ (fun σ H3=>∃(i:Nat) (t p c q d:Addr) (zt zc ds:List Int) (bt bc:Int),σ=[some (.int st),some (.ref a),some (.ref t),some (.ref c),some (.ref d),some (.int i)]/\al_ H H3/\H3 t=some (.tup [.ref p, .int bt])/\H3 p=some (.lst (zt.map V.int))/\H p=none/\H3 c=some (.tup [.ref q, .int bc])/\H3 q=some (.lst (zc.map V.int))/\H3 d=some (.lst (ds.map V.int))/\Tv st ws i zt bt zc bc ds)
   (fun(σ:L2.St) H3=>match σ[4]? with|some (some (V.ref l))=>(match H3 l with|some (.lst xs)=>xs.length|_=>0)|_=>0)
   ⟨0,t1,p1,c1,q1,d0,zt,zc,ws,bt,bc,rfl,(sA.trans sB).trans sC,sC _ _ (sB _ _ ht1),sC _ _ (sB _ _ hp1),fp1,sC _ _ hc1,sC _ _ hq1,hd0,Tv.start lo1 lo2⟩ ?_ ?_
  .clear hd0 sC nd0 sB hc1 hq1 lo2 nq1 s2 n2 fp1 sA hp1 ht1 lo1 np1 s1 n0;rintro σ H3 ⟨i,t,p,c,q,d,zt,zc,ds,bt,bc,rfl,s3,ht,hp,fp,hc,hq,hd,tv⟩;rcases BH i ws.length with hi|hi
   .have eds:ds=dl (vf ws) i 0::((List.range (ws.length-i-1)).map fun j=>dl (vf ws) i (j+1)):=by
     rw [tv.ds,show ws.length-i=(ws.length-i-1)+1 by lia,List.range_succ_eq_map];simp [Function.comp_def]
    have hdd:(dl (vf ws) i 0).natAbs<=2^212:=by_ (oh_ (q4_ hv) i 0) (by lia);have sq:2*i*i<=22*11:=BS (by lia) (by lia);have nc:=tv.nc;have nt:=tv.nt;have gc:Gp zc bc:=⟨by lia,tv.dc.mono (by lia),tv.lc,by_ tv.bc (by lia)⟩;have gt:Gp zt bt:=⟨by lia,tv.dt.mono (by lia),tv.lt.1,by_ tv.bt (by lia)⟩;refine⟨_,rfl,true, .inl ⟨_,SqL.of hd,by rw [eds];rfl⟩,kS_ ?_⟩;refine⟨_,rfl,_,rfl,_,rfl,d,_,_, .int (dl (vf ws) i 0),rfl,rfl,SqL.of hd,by rw [eds];exact pj_ (i:=0) (by simp),(by show 1<=sizeLine;decide),fun l4 n4=> ?_⟩;refine⟨l4,[dl (vf ws) i 0],1,rfl,SqL.of ad_,by simp,by decide,jR_ _,fun t4 p4 z3 b3 H4 s4 np4 ht4 hp4 lo3=> ?_⟩;have s34:al_ H3 H4:=(al_.new n4).trans s4;clear s4 n4 np4;obtain⟨u1,u2,u3,u4⟩:=Tv.one (s:=st) hdd lo3;have g3:Gp z3 b3:=⟨by lia,u3.mono (by decide),by lia,by rw [u2];exact jR_ _⟩;refine⟨c,t4,q,p4,zc,z3,bc,b3,rfl,s34 _ _ hc,s34 _ _ hq,ht4,hp4,gc,g3,by rw [u2,Int.mul_one];exact gc.top,fun t5 p5 z4 b4 H5 s5 np5 ht5 hp5 lo4=> ?_⟩;have s35:=s34.trans s5;clear s34 s5 ht4 hp4 np5;obtain⟨w1,w2,w3,w4,w5⟩:=tv.two (by lia) hdd lo3 lo4;have g4:Gp z4 b4:=⟨by lia,w4.mono (by lia),w2,by_ w3 (by lia)⟩;refine⟨t,t5,p,p5,zt,z4,bt,b4,rfl,s35 _ _ ht,s35 _ _ hp,ht5,hp5,gt,g4,d9_ tv.bt w3 (by lia),fun t6 p6 z7 b7 H6 s6 np6 ht6 hp6 lo7=> ?_⟩;have fp6:H p6=none:=(s3.trans s35).free np6;have s36:=s35.trans s6;clear s35 s6 ht5 hp5 np6;refine⟨_,rfl,_,rfl,st,rfl,_,rfl,_,_,rfl,rfl,(by show 2<=sizeLine;decide),fun l7 n7=> ?_⟩;refine⟨_,rfl,_,_,rfl,rfl, ?_⟩;refine⟨l7,[-st-i,1],(i:Int)+1,rfl,SqL.of ad_,by simp,by lia,Ac (show((i:Int)+1).natAbs<=2^4 by lia) (Cm (by decide) (by decide)),fun t8 p8 z5 b5 H7 s7 np8 ht8 hp8 lo5=> ?_⟩;have s67:al_ H6 H7:=(al_.new n7).trans s7;clear s7 n7 np8;obtain⟨x1,x2,x3,x4⟩:=Tv.five (by lia) hs lo5;have s37:=s36.trans s67;refine⟨c,t8,q,p8,zc,z5,bc,b5,rfl,s37 _ _ hc,s37 _ _ hq,ht8,hp8,gc,⟨by lia,x4.mono (by decide),x2,by_ x3 (by decide)⟩,d9_ tv.bc x3 (by lia),fun c9 q9 z6 b6 H8 s8 nq9 hc9 hq9 lo6=> ?_⟩;have s38:=s37.trans s8;have s68:=s67.trans s8;have ht6:=s68 _ _ ht6;have hp6:=s68 _ _ hp6;clear s36 s67 s37 s8 ht8 hp8 nq9 s68;have tv2:=tv.step hn hi hv hs lo3 lo4 lo7 lo5 lo6;refine⟨_,rfl,_,rfl,1,rfl,d,_,rfl,SqL.of (s38 _ _ hd), ?_⟩;rw [show(1:Int)=((1:Nat):Int) from rfl,om_ (by rw [eds];simp)];intro l9 n9;have s9:al_ H8 (upd H8 l9 (.lst ((ds.drop 1).map V.int))):=al_.new n9;have hl9:upd H8 l9 (.lst ((ds.drop 1).map V.int)) l9=some (.lst ((ds.drop 1).map V.int)):=ad_;generalize upd H8 l9 (.lst ((ds.drop 1).map V.int))=H9 at s9 hl9⊢;have sN:=s38.trans s9;have ht6:=s9 _ _ ht6;have hp6:=s9 _ _ hp6;have hc9:=s9 _ _ hc9;have hq9:=s9 _ _ hq9;clear s38 s9 n9;refine⟨d,l9,rfl,⟨_,SqL.of (sN _ _ hd)⟩,⟨_,SqL.of hl9⟩,fun acc na=> ?_⟩;refine oo_ (xs:=ds.map V.int) (ys:=(ds.drop 1).map V.int) (n:=ws.length-(i+1)) (own:=2) (js:=[]) (by rw [eds];simp;lia) (fun j Hj=>al_ H9 Hj/\Hj acc=some (.lst (((List.range j).map (dl (vf ws) (i+1))).map V.int)))
     ⟨al_.new na,ad_⟩ (fun j Hj _ h=>⟨h.1.seq (SqL.of (sN _ _ hd)),h.1.seq (SqL.of hl9)⟩) ?_ ?_ hT_ bf_ ?_
    .rintro j x y Hj pp hx hy ⟨sj,hacc⟩ np;rw [tv.ds,Bh,A5] at hx;rw [tv.ds,A5,List.getElem?_drop,A5] at hy;obtain⟨m,hm,rfl⟩:=A3.mp hx;obtain⟨y2,hy2,rfl⟩:=A3.mp hy;obtain⟨m2,hm2,rfl⟩:=A3.mp hy2;obtain⟨q1,q2⟩:=A'.mp hm;obtain⟨q3,q4⟩:=A'.mp hm2;rw [List.getElem_range] at q2 q4;rw [C1] at q1 q3;subst q2;subst q4;refine⟨pp,_,rfl,SqT.of ad_,rfl,_,_,rfl,_,_,rfl,rfl, ?_⟩;refine tW_ ?_;have nacc:acc≠pp:=av_ hacc np;refine⟨_,rfl,_,rfl,_,_,rfl,rfl,acc,_,_,rfl,rfl,by rw [ar_ nacc];exact hacc,aj_ (by simp;lia),(sj.put (sj.free np)).put na, ?_⟩;rw [ad_,B9];simp [dl,Nat.add_comm 1 j]
    .rintro Hj ⟨sj,hacc⟩;refine⟨_,rfl,_,_,rfl,rfl, ?_⟩;refine⟨⟨i+1,t6,p6,c9,q9,acc,z7,z6,_,b7,b6,rfl,(s3.trans sN).trans sj,sj _ _ ht6,sj _ _ hp6,fp6,sj _ _ hc9,sj _ _ hq9,hacc,tv2⟩, ?_⟩;show(match Hj acc with|some (.lst xs)=>xs.length|_=>0)<(match H3 d with|some (.lst xs)=>xs.length|_=>0);rw [hacc,hd,eds];simp;lia
    .rintro σ H R R' k ⟨v1,e1,v2,e2,i1,j1,e3,e4,h⟩;exact⟨v1,e1,v2,e2,i1,j1,e3,e4,k _ _ h⟩
   .have he:ds=[]:=by
     rw [tv.ds,show ws.length-i=0 by lia];rfl
    subst he;exact⟨_,rfl,false, .inl ⟨_,SqL.of hd,rfl⟩,fm_ ⟨_,rfl,kk t p zt bt H3 s3 fp ht hp (tv.done hn rfl)⟩⟩
  .intro σ H Q1 Q2 k h;obtain⟨v,e1,b,t1,h⟩:=h;exact⟨v,e1,b,t1,k _ _ h⟩
theorem nQ_:FnOk P w K mg base CX0 3 T.f13 T.d13 ["one","at"] (pC_ K):=by
 refine T.X13.F.ok dw_ (fun vs H Q E h=> ?_) (fun cdv A outer s H vs Q E hr h=> ?_)
 .obtain⟨_,_,_,_,_,rfl,_⟩:=h;rfl
 .obtain⟨t,p,zs,b,c,rfl,ht,hp,gv,hc,kk⟩:=h;refine⟨_,(ac_ (am_ (i:=2) dw_.nd rfl (by trivial) ae_)
   (ac_ (aE_ AN rfl (oL_ (by rfl) T.n_reversed (aM_ cj_ (pv 0) ae_ (fun _ _=>rfl))) (ai_ (i:=3) dw_.nd rfl (by trivial)) (ag_ (am_ (i:=2) dw_.nd rfl (by trivial) (ak_ ay_ (ak_ (dm_ qK_) (pv 2) (pv 1)) (pv 3)))))
   (ac_ (am_ (i:=4) dw_.nd rfl (by trivial) (ah_ (e9_ T) (hr.mono (by decide)) (by rfl) T.X9.m T.X9.F.kp T.X9.B .nil aq_ (aa_ (em_ (aa_ (pv 2) ab_)) (aa_ (aM_ cj_ (pv 0) ae_ (fun _ _=>rfl)) ab_))))
   (ag_ (ao_ (jN_ (aa_ (ak_ dG_ (pv 2) (pv 4)) (aa_ (ak_ dG_ (aM_ cj_ (pv 0) ae_ (fun _ _=>rfl)) (pv 4)) ab_)))))))), ?_⟩
  have n1:=gv.len;have b1:=gv.pos;have b2:=gv.top;refine⟨_,rfl,t,_,_, .ref p,rfl,rfl,SqT.of ht,by rfl,p,_,rfl,SqL.of hp,mP_ (xs:=zs.map V.int) rfl (fun i σ H2=>∃v:Option V,σ=[some (.ref t),some (.int c),some (.int (hor c (zs.reverse.take i))),v,none]/\H2=H) ⟨none,rfl,rfl⟩ (fun i σ H2 _ h=>by obtain⟨_,_,rfl⟩:=h;exact SqL.of hp) ?_ ?_⟩
  .rintro i x σ H2 hi ⟨v,rfl,rfl⟩;rw [<-List.map_reverse,A5] at hi;obtain⟨z,hz,rfl⟩:=A3.mp hi;have hlt:i<zs.reverse.length:=(A'.mp hz).1;have bd:=o4_ (a:=c) (l:=zs.reverse) hc (fun x hx=>gv.bd x (by simpa using hx)) i (Ag hlt);rw [List.length_reverse] at hlt;refine⟨_,rfl,_,rfl,_,_,rfl,rfl,⟨bY_ bd (by lia),bY_ hc (by decide)⟩,_,rfl,_,_,rfl,rfl,some (.int z), ?_,rfl⟩;have e3:zs.reverse.take (i+1)=zs.reverse.take i++[z]:=by rw [AF,hz];rfl
   rw [e3,dO_];rfl
  .rintro σ H2 ⟨v,rfl,rfl⟩;rw [A1,Bv (by simp)];generalize hor c zs.reverse=tot at kk⊢;refine⟨_,rfl,(by show 1<=sizeLine;decide),fun l nl=> ?_⟩;have s1:al_ H2 (upd H2 l (.lst [.int tot])):=al_.new nl;refine⟨_,rfl,t,_,_, .int b,rfl,rfl,SqT.of (s1 _ _ ht),by rfl,l,[tot],b,rfl,SqL.of ad_,by lia, ?_⟩;have eg:dt_ b.natAbs [tot]=Nat.gcd b.natAbs tot.natAbs:=rfl;have g1:=eH_ (b:=b.natAbs) (by lia) [tot];have g2:=jf_ (b:=b.natAbs) (by lia) [tot];rw [eg] at g1 g2⊢;refine⟨_,rfl,_,rfl,_,_,rfl,rfl,oi_ (b:=b) (by lia) (by_ (n:=40) (by lia) (by decide)) g1 g2,_,rfl,t,_,_, .int b,rfl,rfl,SqT.of (s1 _ _ ht),by rfl,_,rfl,_,_,rfl,rfl,oi_ (b:=b) (by lia) (by_ (n:=40) (by lia) (by decide)) g1 g2,(by show 2<=sizeLine;decide),fun u nu=> ?_⟩;exact kk u _ _ _ (s1.put (s1.free nu)) ad_ ⟨rfl,rfl⟩
theorem FnOk.quiet {k:Nat}{f:Addr}{fd:FuncData}{ps:List Str}{sp:Sp} (F:FnOk P w K mg base (CX1 P w) k f fd ps sp):FnOk P w K mg base CX0 k f fd ps (fun vs H Q _=>sp vs H Q E0):=
 ⟨fun vs H Q E h=>F.len vs H Q E0 h,fun A outer s H args us vs Q E hr he hb hv hs=>D' (F.run A outer s H args us vs Q E0 hr he hb hv hs) fun r s' h=>by
  cases r with
  |ok r=>cases r<;>exact h
  |error e=>
   obtain⟨_,_,_,_,_,_,z,_⟩:=h;exact z.elim⟩
theorem aU_:FnOk P w K mg base (CX1 P w) 2 T.f1 T.d1 ["thing","least","greatest"] (uq_ T.c_NoBound):=by
 refine T.X1.F.okx eT_ (fun vs H Q E h=> ?_) (fun cdv A outer s H vs Q E hr h hR hp=> ?_)
 .obtain⟨_,_,_,rfl,_⟩:=h;rfl
 .obtain⟨v,lo,hi,rfl,ht,kk,ke⟩:=h;refine⟨_,(ag_ (b6_ (nE_ (lL_ (hH_ (ah_ (i2_ T) (hr.mono (by decide)) (by rfl) T.X0.m T.X0.F.kp T.X0.B .nil aq_ (aa_ (pv 0) ab_)))) (nE_ (az_ hK_ (pv 0) (pv 1) (aC_ _)) (lK_ (az_ iZ_ (pv 0) (pv 2) (aC_ _))))).pt (ag_ (nF_ hR (by rfl) T.m_NoBound T.x_NoBound rfl (aa_ (pT_ (gx_ oN_ (gx_ (lT_ (pv 1)) (gx_ oN_ (gx_ (lT_ (pv 2)) rG_))))) ab_))) aP_)), ?_⟩;have no:¬Within lo hi v->∀D:Ends,oz_ T.c_NoBound E (rf_ (fun σ H Q=>tJc (tC (.str "not a whole number from ")) (tJc (fun σ H Q=>sE_ 1 σ H fun x H1=>∃i,x= .int i/\i.natAbs.log2<1920/\Q (.str (toString i)) H1) (tJc (tC (.str " to ")) (tJc (fun σ H Q=>sE_ 2 σ H fun x H1=>∃i,x= .int i/\i.natAbs.log2<1920/\Q (.str (toString i)) H1) tJn)))
    Str.empty σ H Q) t0_) D [some v,some (.int lo),some (.int hi)] H:=fun hn D=>by
   obtain⟨⟨l1,l2,l3,l4⟩,he⟩:=ke hn;obtain⟨a,rfl⟩:=Am l1;obtain⟨b,rfl⟩:=Am l3;have y:=oG_ a (by lia) b (by lia);have z:=oG_ b (by lia) a (by lia);simp only [A9,Ab] at y z;obtain⟨⟨⟨⟨y1,y2⟩,y3⟩,y4⟩,y5⟩:=y;exact⟨_,rfl,y2,_,rfl,_,rfl,y1,_,rfl,y3,_,rfl,y4,_,rfl,_,rfl,z.1.1.1.1,_,rfl,y5,y5,(by show 1<=sizeLine;decide),he⟩
  refine⟨v,rfl,v,rfl,ht,isI v,rfl, ?_⟩;cases hv:isI v with
  |false=>exact kS_ (kS_ (no (fun hw=>by rw [kx_ hw] at hv;cases hv) _))
  |true=>
   obtain⟨i,rfl⟩:∃i,v= .int i:=by
    cases v<;>first|exact⟨_,rfl⟩|cases hv
   refine fm_ ⟨_,rfl,_,rfl,i,lo,rfl,rfl,_,rfl,es_ (fun hl=> ?_) (fun hl=> ?_)⟩
   .exact kS_ (no (fun⟨j,e,h1,h2⟩=>by cases e;lia) _)
   .refine⟨_,rfl,_,rfl,i,hi,rfl,rfl,_,rfl,es_ (fun hg=> ?_) (fun hg=> ?_)⟩
    .exact no (fun⟨j,e,h1,h2⟩=>by cases e;lia) _
    .exact kk ⟨i,rfl,by lia,by lia⟩
theorem bJ_:FnOk P w K mg base CX0 2 T.f1 T.d1 ["thing","least","greatest"] (rv_ K):=
 FnOk.imp (FnOk.quiet (aU_ T)) fun vs H Q E ⟨i,lo,hi,e,h1,h2,q⟩=>⟨.int i,lo,hi,e, .inl ⟨_,rfl⟩,fun _=>q,fun h=>absurd ⟨i,rfl,h1,h2⟩ h⟩
theorem c7_:FnOk P w K mg base CX0 3 T.f3 T.d3 ["d"] (rt_ K):=by
 refine T.X3.F.ok fE_ (fun vs H Q E h=> ?_) (fun cdv A outer s H vs Q E hr h=> ?_)
 .obtain⟨_,rfl,_⟩:=h;rfl
 .obtain⟨i,rfl,h1,h2,kk⟩:=h;refine⟨_,(ag_ (aF_ (ah_ (bJ_ T) (hr.mono (by decide)) (by rfl) T.X1.m T.X1.F.kp T.X1.B .nil aq_ (aa_ (pv 0) (aa_ ae_ (aa_ ae_ ab_)))))), ?_⟩;exact⟨_,rfl,i,1,5,rfl,h1,h2,kk⟩
theorem eo_:FnOk P w K mg base CX0 3 T.f2 T.d2 ["d","k"] (rj_ K):=by
 refine T.X2.F.ok hB_ (fun vs H Q E h=> ?_) (fun cdv A outer s H vs Q E hr h=> ?_)
 .obtain⟨_,_,rfl,_⟩:=h;rfl
 .obtain⟨d,k,rfl,hW,kk⟩:=h;refine⟨_,(ac_ (aF_ (ah_ (bJ_ T) (hr.mono (by decide)) (by rfl) T.X1.m T.X1.F.kp T.X1.B .nil aq_ (aa_ (pv 0) (aa_ ae_ (aa_ ae_ ab_)))))
   (ag_ (aF_ (ah_ (bJ_ T) (hr.mono (by decide)) (by rfl) T.X1.m T.X1.F.kp T.X1.B .nil aq_ (aa_ (pv 1) (aa_ ae_ (aa_ (nJ_ (pS_ (v:= .ref T.a_WIDE) (by rfl) T.m_WIDE (by rfl)) (pv 0) (fun _ _=>rfl)) ab_))))))), ?_⟩
  unfold Wide at hW;refine⟨_,rfl,d,1,5,rfl,by lia,by lia, ?_⟩;obtain⟨hi,hl,hN⟩:∃hi:Int,([(1,6),(2,6),(3,6),(4,6),(5,3)]:List (Int×Int)).lookup (d:Int)=some hi/\(k:Int)<=hi:=by
   have hd:d=1\/d=2\/d=3\/d=4\/d=5:=by lia
   rcases hd with rfl|rfl|rfl|rfl|rfl
   .exact⟨6,rfl,by lia⟩
   .exact⟨6,rfl,by lia⟩
   .exact⟨6,rfl,by lia⟩
   .exact⟨6,rfl,by lia⟩
   .exact⟨3,rfl,by lia⟩
  exact⟨_,rfl,_,rfl,T.a_WIDE,_,d,hi,rfl,T.D_WIDE,rfl,hl,k,0,hi,rfl,by lia,hN,kk⟩
theorem d7_:FnOk P w K mg base CX0 4 T.f15 T.d15 ["d","drawing"] (rr_ K):=by
 refine T.X15.F.ok cd_ (fun vs H Q E h=> ?_) (fun cdv A outer s H vs Q E hr h=> ?_)
 .obtain⟨_,_,_,rfl,_⟩:=h;rfl
 .obtain⟨n,dv,ps,rfl,n1',n5',hd,hok,k2⟩:=h;refine⟨_,(ac_ (aF_ (ah_ (c7_ T) (hr.mono (by decide)) (by rfl) T.X3.m T.X3.F.kp T.X3.B .nil aq_ (aa_ (pv 0) ab_)))
   (ac_ (am_ (i:=2) cd_.nd rfl (by trivial) (ak_ gA_ (aQ_ (aa_ ae_ ab_)) (pv 0)))
   (ac_ (aE_ AN rfl (aD_ (pv 1)) (ce_ rfl (as_ (ai_ (i:=3) cd_.nd rfl (by trivial)) (as_ (ai_ (i:=4) cd_.nd rfl (by trivial)) (as_ (ai_ (i:=5) cd_.nd rfl (by trivial)) bl_)))) (ac_ (gw_ (pv 2) (ak_ aT_ (pv 3) ae_) eG_ (pv 5) o0_ cQ_)
   (ag_ (gw_ (pv 2) (ak_ aT_ (pv 4) ae_) eG_ (pv 5) id_ cQ_))))
   (ag_ (ao_ (pv 2)))))), ?_⟩
  refine⟨_,rfl,n,rfl,by lia,by lia, ?_⟩;refine⟨(by show 1<=sizeLine;decide),fun l1 H1 n1 s1 h1=> ?_⟩;refine⟨_,rfl, .i 1,n,da_ h1 (ap_ n5_ an_),rfl,by lia,by lia,Ag (aj_ (by lia)),fun l H2 n2 s2 h2=> ?_⟩;rw [AV] at h2;obtain⟨_,vs2,e2,hl2,hi2⟩:=b9_ h2;cases e2;rw [<-Bx] at hi2;rw [g8_ hi2] at hl2;have s12:=s1.trans s2;obtain⟨da,dvs,rfl,hda,hdi⟩:=b9_ hd;have hlen:dvs.length=ps.length:=by rw [hdi.length,A1]
  refine⟨_,rfl,da,rfl,⟨_,SqL.of (s12 _ _ hda)⟩,bj_ (xs:=dvs) (fun i σ H3=>(∃v3 v4 v5,σ=[some (.int n),some (.ref da),some (.ref l),v3,v4,v5])/\al_ H H3/\H3 l=some (.lst (((ps.take i).foldl eb_ (List.replicate n 1)).map V.int)))
   ⟨⟨none,none,none,rfl⟩,s12,hl2⟩ (fun i σ H3 _ h=>SqL.of (h.2.1 _ _ hda)) ?_ ?_⟩
  .rintro i y σ H3 hi ⟨⟨v3,v4,v5,rfl⟩,s3,hl3⟩;obtain⟨dd,hdd,hy⟩:=hdi.of_get hi;rw [A5] at hdd;obtain⟨p,hp',rfl⟩:=A3.mp hdd;obtain⟨t,rfl,hta⟩:=gJ_ hy;obtain⟨o1,o2,o3,o4⟩:=hok p (AL hp');have el:=(hd_ (ps.take i) (List.replicate n 1) (by simp) fun q hq=>hok q (Co hq)).1;have en:(ps.take (i+1)).foldl eb_ (List.replicate n 1)=eb_ ((ps.take i).foldl eb_ (List.replicate n 1)) p:=by
    rw [AF,hp',Ca];rfl
   rw [en];generalize (ps.take i).foldl eb_ (List.replicate n 1)=e at hl3 el⊢;have nl:H l=none:=s1.free n2;refine⟨t,_,rfl,SqT.of (s3 _ _ hta),rfl, ?_⟩;refine⟨_,_,rfl,_,_,rfl,_,_,rfl,rfl, ?_⟩;have j1:(p.1-1).toNat<e.length:=by lia
   have j2:(p.2.1-1).toNat<e.length:=by lia
   have k1:p.1-1=((p.1-1).toNat:Int):=by lia
   have kq:p.2.1-1=((p.2.1-1).toNat:Int):=by lia
   have g1:(e.map V.int)[(p.1-1).toNat]? =some (.int (e.getD (p.1-1).toNat 0)):=by
    exact je_ j1
   refine⟨_,rfl,_,rfl,_,_,rfl,rfl, ?_⟩;refine⟨l,_,(p.1-1).toNat,_,_,rfl,rfl,k1,SqL.of hl3,g1, ?_⟩;refine⟨_,rfl,_,_,rfl,rfl,l,_,_,(p.1-1).toNat,rfl,rfl,hl3,by rw [k1,A1];exact g6_ j1, ?_⟩;rw [<-map_set];have j2':(p.2.1-1).toNat<(e.set (p.1-1).toNat (e.getD (p.1-1).toNat 0-p.2.2)).length:=by rw [BF];exact j2
   have g2:((e.set (p.1-1).toNat (e.getD (p.1-1).toNat 0-p.2.2)).map V.int)[(p.2.1-1).toNat]? =some (.int ((e.set (p.1-1).toNat (e.getD (p.1-1).toNat 0-p.2.2)).getD (p.2.1-1).toNat 0)):=by
    exact je_ j2'
   refine⟨_,rfl,_,rfl,_,_,rfl,rfl, ?_⟩;refine⟨l,_,(p.2.1-1).toNat,_,_,rfl,rfl,kq,SqL.of ad_,g2, ?_⟩;refine⟨_,rfl,_,_,rfl,rfl,l,_,_,(p.2.1-1).toNat,rfl,rfl,ad_,by rw [kq,A1];exact g6_ j2', ?_⟩;rw [<-map_set,ld_];exact⟨⟨_,_,_,rfl⟩,s3.put nl,ad_⟩
  .rintro σ H3 ⟨⟨v3,v4,v5,rfl⟩,s3,hl3⟩;rw [hlen,AR] at hl3;exact⟨_,rfl,k2 l H3 s3 (s1.free n2) hl3⟩
theorem do_:FnOk P w K mg base CX0 1 T.f17 T.d17 ["lift"] (rm_ K):=by
 refine T.X17.F.ok pI_ (fun vs H Q E h=> ?_) (fun cdv A outer s H vs Q E hr h=> ?_)
 .obtain⟨_,_,rfl,_⟩:=h;rfl
 .obtain⟨v,p,rfl,hv,⟨p1,p2,p3,p4⟩,kk⟩:=h;refine⟨_,(ag_ (ao_ (ak_ aT_ (ak_ bE_ (ak_ aT_ (aM_ aR_ (pv 0) ae_ (fun _ _=>rfl)) (aM_ aR_ (pv 0) ae_ (fun _ _=>rfl))) (aM_ aR_ (pv 0) ae_ (fun _ _=>rfl))) ae_))), ?_⟩;refine⟨_,rfl,_,1,_,hv,rfl,rfl,fun u hu=> ?_⟩;rw [dV_ hu];refine⟨_,rfl,_,0,_,hv,rfl,rfl,fun u hu=> ?_⟩;rw [dV_ hu];refine⟨_,_,rfl,rfl,_,rfl,_,2,_,hv,rfl,rfl,fun u hu=> ?_⟩;rw [dV_ hu];exact⟨_,_,rfl,rfl, .inr ⟨by lia,by lia⟩,_,_,rfl,rfl,kk⟩
theorem gG_:FnOk P w K mg base CX0 2 T.f18 T.d18 ["d","floor","weight","spare"] (tf_ K):=by
 refine T.X18.F.ok bM_ (fun vs H Q E h=> ?_) (fun cdv A outer s H vs Q E hr h=> ?_)
 .obtain⟨_,_,_,_,rfl,_⟩:=h;rfl
 .obtain⟨d,f,n,sp,rfl,fd,d5,n20,kk⟩:=h;refine⟨_,(ac_ (am_ (i:=4) bM_.nd rfl (by trivial) (aQ_ ab_))
   (ac_ (aE_ AN rfl (a7_ (by rfl) T.n_range (aa_ (ak_ ay_ (pv 1) ae_) (aa_ (ak_ ay_ (pv 0) ae_) ab_))) (ai_ (i:=5) bM_.nd rfl (by trivial)) (ag_ (aE_ AN rfl (a7_ (by rfl) T.n_range (aa_ ae_ (aa_ (ak_ ay_ (pv 2) ae_) ab_))) (ai_ (i:=6) bM_.nd rfl (by trivial)) (ag_ (b6_ (az_ hL_ (ah_ (do_ T) (hr.mono (by decide)) (by rfl) T.X17.m T.X17.F.kp T.X17.B .nil aq_ (aa_ (bu_ (aa_ (pv 1) (aa_ (pv 5) (aa_ (pv 6) ab_)))) ab_)) (pv 3) (aC_ _)) (ag_ (aF_ (e4_ Ao Bf Be bS_ (pv 4) (aa_ (bu_ (aa_ (pv 1) (aa_ (pv 5) (aa_ (pv 6) ab_)))) ab_)))) aP_)))))
   (ag_ (ao_ (pv 4))))), ?_⟩
  refine⟨AS _,fun fo H1 n1 s1 h1=> ?_⟩;refine⟨_,rfl,_,_,rfl,rfl,_,rfl,_,_,rfl,rfl,_,_,rfl,⟨by lia,by lia,by lia,by lia⟩, ?_⟩;rw [show((d:Int)+1-((f:Int)+1)).toNat=d-f by lia];refine a9_ (lo:=(f:Int)+1) (n:=d-f) (fun i σ H2=>(∃v5 v6,σ=[some (.int d),some (.int f),some (.int n),some (.int sp),some (.ref fo),v5,v6])/\al_ H H2/\∃vs,H2 fo=some (.lst vs)/\Iss H2 ((kO_ f i n sp).map lf) vs) ⟨⟨none,none,rfl⟩,s1,[],h1,an_⟩ ?_ ?_
  .rintro i σ H2 hi ⟨⟨v5,v6,rfl⟩,s2,vs2,hfo2,his2⟩;refine⟨_,rfl,_,_,rfl,rfl,_,_,rfl,⟨by decide,by decide,by lia,by lia⟩, ?_⟩;rw [show((n:Int)+1-1).toNat=n by lia];refine a9_ (lo:=1) (n:=n) (fun j σ H3=>(∃v6,σ=[some (.int d),some (.int f),some (.int n),some (.int sp),some (.ref fo),some (.int ((f:Int)+1+(i:Int))),v6])/\al_ H H3/\∃vs,H3 fo=some (.lst vs)/\Iss H3 ((kO_ f i n sp++nf_ f ((f:Int)+1+(i:Int)) j sp).map lf) vs) ⟨⟨v6,rfl⟩,s2,vs2,hfo2,by simpa [nf_] using his2⟩ ?_ ?_
   .rintro j σ H3 hj ⟨⟨v6,rfl⟩,s3,vs3,hfo3,his3⟩;have vl:vs3.length<=200:=by
     rw [his3.length,A1,AH];have a:=gZ_ f n sp i;have b:=j3_ f ((f:Int)+1+(i:Int)) j sp;have:i*n<=5*20:=BS (by lia) n20;lia
    refine⟨_,rfl,_,rfl,_,rfl,(by show 3<=sizeLine;decide),fun t H4 nt s4 ht=>⟨.ref t,((f:Int),(f:Int)+1+(i:Int),1+(j:Int)),rfl,g9_ ht,⟨?_, ?_, ?_, ?_⟩,_,rfl,_,_,rfl,rfl,_,rfl,es_ (fun c=> ?_) (fun c=> ?_)⟩⟩
    .show 0<=(f:Int)+1+(i:Int)-(f:Int);lia
    .show(f:Int)+1+(i:Int)-(f:Int)<=10;lia
    .show 1<=1+(j:Int);lia
    .show 1+(j:Int)<=20;lia
    .refine⟨_,rfl, .inl ⟨rfl,_,SqL.of (s4 _ _ hfo3)⟩,_,rfl,_,rfl,_,rfl,(by show 3<=sizeLine;decide),fun t2 H5 nt2 s5 ht2=>⟨fo,vs3,_,rfl,rfl,s5 _ _ (s4 _ _ hfo3),aj_ (by lia),⟨_,rfl⟩,(s3.trans (s4.trans s5)).put n1,_,ad_, ?_⟩⟩;rw [h2_,A8 c,<-BC];refine dN_ (cA_.upd (s5 _ _ (s4 _ _ hfo3))) ?_;rw [AD];exact(his3.mono (s4.trans s5)).append (ap_ (g9_ ht2) an_)
    .refine⟨⟨_,rfl⟩,s3.trans s4,vs3,s4 _ _ hfo3, ?_⟩;rw [h2_,A6 c,BY];exact his3.mono s4
   .rintro σ H3 ⟨⟨v6,rfl⟩,s3,vs3,hfo3,his3⟩;exact⟨⟨_,_,rfl⟩,s3,vs3,hfo3,by rw [h3_];exact his3⟩
  .rintro σ H2 ⟨⟨v5,v6,rfl⟩,s2,vs2,hfo2,his2⟩;exact⟨_,rfl,kk fo H2 s2 n1 (da_ hfo2 his2)⟩
theorem fZ_:∀n:Nat,FnOk P w K mg base CX0 (n+1) T.f19 T.d19 ["lifts","weight","spare"] (rp_ n K)
 |0=>⟨fun vs H Q E h=>by obtain⟨_,_,_,_,_,_,_,h,h',_⟩:=h;lia,fun A outer s H args us vs Q E _ _ _ _ h=>by obtain⟨_,_,_,_,_,_,_,h,h',_⟩:=h;lia⟩
 |n+1=>by
  have ih:=fZ_ n;refine T.X19.F.ok cc_ (fun vs H Q E h=> ?_) (fun cdv A outer s H vs Q E hr h=> ?_)
  .obtain⟨_,_,_,_,rfl,_⟩:=h;rfl
  .obtain⟨v,ls,wt,sp,rfl,hv,hok,w0,w1,hL,hl,hn,kk⟩:=h;refine⟨_,(ac_ (am_ (i:=3) cc_.nd rfl (by trivial) (aQ_ (aa_ (aQ_ ab_) ab_)))
   (ac_ (aE_ AN rfl (d4_ (by rfl) T.n_enumerate (pv 0)) (ce_ rfl (as_ (ai_ (i:=4) cc_.nd rfl (by trivial)) (as_ (ai_ (i:=5) cc_.nd rfl (by trivial)) bl_))) (ag_ (b6_ (fX_ (az_ hL_ (aM_ aR_ (pv 5) ae_ (fun _ _=>rfl)) (pv 1) (aC_ _)) (d3_ (az_ hL_ (ah_ (do_ T) (hr.mono (by lia)) (by rfl) T.X17.m T.X17.F.kp T.X17.B .nil aq_ (aa_ (pv 5) ab_)) (pv 2) (aC_ _)))).pt (ag_ (aE_ AN rfl (aD_ (ah_ ih hr (by rfl) T.X19.m T.X19.F.kp T.X19.B .nil aq_ (aa_ (dE_ iN_ (pv 0) (e1_ (pv 4)) e2_) (aa_ (ak_ aT_ (pv 1) (aM_ aR_ (pv 5) ae_ (fun _ _=>rfl))) (aa_ (ak_ aT_ (pv 2) (ah_ (do_ T) (hr.mono (by lia)) (by rfl) T.X17.m T.X17.F.kp T.X17.B .nil aq_ (aa_ (pv 5) ab_))) ab_))))) (ai_ (i:=6) cc_.nd rfl (by trivial)) (ag_ (aF_ (e4_ Ao Bf Be bS_ (pv 3) (aa_ (ak_ gB_ (aQ_ (aa_ (pv 5) ab_)) (pv 6)) ab_)))))) aP_)))
   (ag_ (ao_ (pv 3))))), ?_⟩
   obtain⟨da,dvs,rfl,hda,hdi⟩:=b9_ hv;have dlen:dvs.length=ls.length:=by rw [hdi.length,A1]
   refine⟨AS _,fun e0 H1 ne s1 he=>⟨(by show 1<=sizeLine;decide),fun fo H2 nf s2 hfo=> ?_⟩⟩;have nfH:H fo=none:=s1.free nf;have e0fo:e0≠fo:=by rintro rfl;rw [he] at nf;cases nf
   have acc0:Acc H H2 fo (([[]]:List (List Lf)).map lfs):=⟨[.ref e0],hfo,ap_ (da_ (vs:=[]) (by rw [mH_ e0fo,cg_ ne];exact s2 _ _ he) an_) an_⟩;have tot:∀i:Nat,i<ls.length->1+((List.range i).flatMap (ed_ n ls wt sp)).length+(ed_ n ls wt sp i).length<=1000:=fun i hi=>by
    have:=e0_ (ed_ n ls wt sp) hi;rw [fh_,AH,B4] at hL;lia
   refine⟨_,rfl,da,rfl,⟨_,SqL.of (s2 _ _ (s1 _ _ hda))⟩,cX_ (xs:=dvs) (fun i σ H3=>(∃v4 v5 v6,σ=[some (.ref da),some (.int wt),some (.int sp),some (.ref fo),v4,v5,v6])/\al_ H H3/\Acc H H3 fo (([[]]++(List.range i).flatMap (ed_ n ls wt sp)).map lfs)) ⟨⟨none,none,none,rfl⟩,s1.trans s2,by simpa using acc0⟩ (fun i σ H3 _ h=>SqL.of (h.2.1 _ _ hda)) ?_ ?_⟩
   .rintro i y σ H3 pa hi ⟨⟨v4,v5,v6,rfl⟩,s3,hacc⟩ np;obtain⟨dd,hdd,hy⟩:=hdi.of_get hi;rw [A5] at hdd;obtain⟨p,hp',rfl⟩:=A3.mp hdd;have hil:i<ls.length:=(A'.mp hp').1;obtain⟨p1,p2,p3,p4⟩:=id (hok p (AL hp'));have tt:=tot i hil;have s34:al_ H3 (upd H3 pa (.tup [.int i,y])):=al_.new np;have hacc4:=hacc.mono s34;have stay:ed_ n ls wt sp i=[]->Acc H (upd H3 pa (.tup [.int i,y])) fo (([[]]++(List.range (i+1)).flatMap (ed_ n ls wt sp)).map lfs):=fun e=>by
     rw [aO_,e,BY];exact hacc4
    have hlf:Is (upd H3 pa (.tup [.int i,y])) (lf p) y:=(hy.mono s3).mono s34;refine⟨pa,_,rfl,SqT.of ad_,rfl,_,_,rfl,_,_,rfl,rfl, ?_⟩;generalize upd H3 pa (.tup [.int i,y])=H4 at s34 hacc4 stay hlf⊢;have s4:al_ H H4:=s3.trans s34;refine⟨_,rfl,_,2,_,hlf,rfl,rfl,fun u hu=> ?_⟩;rw [dV_ hu];refine⟨_,rfl,_,_,rfl,rfl,_,rfl,es_ (fun c1=> ?_) (fun c1=> ?_)⟩
    .refine⟨_,rfl,y,p,rfl,hlf,⟨p1,p2,p3,p4⟩,_,rfl,_,_,rfl,rfl,_,rfl,es_ (fun c2=> ?_) (fun c2=> ?_)⟩
     .have eG:ed_ n ls wt sp i=(c0_ n (ls.drop i) (wt-p.2.2) (sp-aN_ p)).map (p:: ·):=by
       unfold ed_;rw [hp'];exact A8 ⟨c1,c2⟩
      rw [eG,A1] at tt;refine⟨_,rfl,_,rfl,i,rfl,da,_,rfl,SqL.of (s4 _ _ hda), ?_⟩;rw [fv_ (by lia)];intro l2 n2;have s45:al_ H4 (upd H4 l2 (.lst (dvs.drop i))):=al_.new n2;have hl2:(upd H4 l2 (.lst (dvs.drop i))) l2=some (.lst (dvs.drop i)):=ad_;generalize upd H4 l2 (.lst (dvs.drop i))=H5 at s45 hl2⊢;have s5:=s4.trans s45;have hdr:Is H5 (lfs (ls.drop i)) (.ref l2):=da_ hl2 (by rw [List.map_drop];exact(hdi.drop i).mono s5);refine⟨_,rfl,_,rfl,_,2,_,hlf.mono s45,rfl,rfl,fun u hu=> ?_⟩;rw [dV_ hu];refine⟨_,_,rfl,rfl,_,rfl,_,rfl,y,p,rfl,hlf.mono s45,⟨p1,p2,p3,p4⟩,_,_,rfl,rfl, ?_⟩;refine⟨.ref l2,ls.drop i,wt-p.2.2,sp-aN_ p,rfl,hdr,fun q hq=>hok q (BM hq),by lia,by lia,by lia,by rw [Cj];lia,by lia,fun rl H6 s6 nrl hrl=> ?_⟩;obtain⟨vs5,hfo5,hi5⟩:=hacc4.mono s45;have hfo6:H6 fo=some (.lst vs5):=s6 _ _ hfo5;obtain⟨_,rvs,e,hrl',hri⟩:=b9_ hrl;cases e;have hrl6:H6 rl=some (.lst rvs):=a8_ _ _ hrl';have rlfo:rl≠fo:=by rintro rfl;rw [hfo5] at nrl;cases nrl
      have rlen:rvs.length=(c0_ n (ls.drop i) (wt-p.2.2) (sp-aN_ p)).length:=by rw [hri.length,A1]
      have hriH:Iss (hid H6 fo) ((c0_ n (ls.drop i) (wt-p.2.2) (sp-aN_ p)).map lfs) rvs:=(hri.mono (hS_ (al_.refl H5) hfo5)).mono (cW_ a8_);have s56:=s5.trans s6;refine⟨rl,rfl,⟨_,SqL.of hrl6⟩,bj_ (xs:=rvs) (fun j σ H7=>(∃v6,σ=[some (.ref da),some (.int wt),some (.int sp),some (.ref fo),some (.int i),some y,v6])/\al_ H H7/\But fo H6 H7/\Acc H H7 fo (([[]]++(List.range i).flatMap (ed_ n ls wt sp)++((c0_ n (ls.drop i) (wt-p.2.2) (sp-aN_ p)).take j).map (p:: ·)).map lfs)) ⟨⟨_,rfl⟩,s56,fun _ _ e _=>e,by simpa using (hacc4.mono s45).mono s6⟩ (fun j σ H7 _ h=>SqL.of (h.2.2.1 _ _ hrl6 rlfo)) ?_ ?_⟩
      .rintro j x σ H7 hj ⟨⟨v6,rfl⟩,s7,but7,vs7,hfo7,hi7⟩;obtain⟨dd,hdd,hx⟩:=hriH.of_get hj;rw [A5] at hdd;obtain⟨r,hr',rfl⟩:=A3.mp hdd;have hjl:j<(c0_ n (ls.drop i) (wt-p.2.2) (sp-aN_ p)).length:=(A'.mp hr').1;have hx7:Is H7 (lfs r) x:=hx.mono (jd_ but7);have ritem:=(fi_ (fun q hq=>(hok q (BM hq)).2.2.1) (by lia) (AL hr')).1;have vl:vs7.length<=999:=by
        rw [hi7.length,A1,AH,AH,A1,AW,B4];lia
       have hy7:Is H7 (lf p) y:=hy.mono s7;refine⟨_,rfl, .inl ⟨rfl,_,SqL.of hfo7⟩,_,rfl,(by show 1<=sizeLine;decide),fun q1 H8 n8 s8 h8=>⟨_,rfl,[lf p],r.map lf,da_ h8 (ap_ (hy7.mono s8) an_),hx7.mono s8,Ag (aj_ (by rw [A1];show 1+r.length<=1000;lia)),fun q2 H9 n9 s9 h9=> ?_⟩⟩;have s79:=s8.trans s9;refine⟨fo,vs7,_,rfl,rfl,s79 _ _ hfo7,aj_ (by lia),⟨_,rfl⟩,(s7.trans s79).put nfH,but7.trans ((But.of_same s79).trans But.upd), ?_⟩;rw [AF,hr'];have:=Acc.add s7 s79 hfo7 hi7 (l8_ (ps:=p::r) s79 (s8.free n9) h9);simpa using this
      .rintro σ H7 ⟨⟨v6,rfl⟩,s7,_,hacc7⟩;refine⟨⟨_,_,_,rfl⟩,s7, ?_⟩;rw [rlen,AR,<-eG,BC,<-aO_] at hacc7;exact hacc7
     .refine⟨⟨_,_,_,rfl⟩,s4,stay ?_⟩;unfold ed_;rw [hp'];exact A6 fun z=>c2 z.2
    .refine fm_ ⟨⟨_,_,_,rfl⟩,s4,stay ?_⟩;unfold ed_;rw [hp'];exact A6 fun z=>c1 z.1
   .rintro σ H3 ⟨⟨v4,v5,v6,rfl⟩,s3,hacc⟩;rw [dlen,<-fh_] at hacc;exact⟨_,rfl,kk fo H3 s3 nfH (hacc.is nfH)⟩
theorem gD_:FnOk P w K mg base CX0 10 T.f20 T.d20 ["d","floor","drawing","spare"] (ri_ K):=by
 refine T.X20.F.ok bb_ (fun vs H Q E h=> ?_) (fun cdv A outer s H vs Q E hr h=> ?_)
 .obtain⟨_,_,_,_,rfl,_⟩:=h;rfl
 .obtain⟨d,f,v,x,rfl,fd,d5,hv,hst,kk⟩:=h;refine⟨_,(ac_ (am_ (i:=4) bb_.nd rfl (by trivial) (aM_ b7_ (ah_ (d7_ T) (hr.mono (by decide)) (by rfl) T.X15.m T.X15.F.kp T.X15.B .nil aq_ (aa_ (pv 0) (aa_ (pv 2) ab_))) (ak_ aT_ (pv 1) ae_) (fun _ _=>rfl)))
   (ac_ (am_ (i:=5) bb_.nd rfl (by trivial) (aQ_ ab_))
   (ac_ (aE_ AN rfl (aD_ (ah_ (fZ_ T 8) (hr.mono (by decide)) (by rfl) T.X19.m T.X19.F.kp T.X19.B .nil aq_ (aa_ (ah_ (gG_ T) (hr.mono (by decide)) (by rfl) T.X18.m T.X18.F.kp T.X18.B .nil aq_ (aa_ (pv 0) (aa_ (pv 1) (aa_ (pv 4) (aa_ (pv 3) ab_))))) (aa_ (pv 4) (aa_ (pv 3) ab_))))) (ai_ (i:=6) bb_.nd rfl (by trivial)) (ac_ (am_ (i:=7) bb_.nd rfl (by trivial) (ak_ aT_ (pv 4) (ax_ (eK_ rfl) (by rfl) T.n_sum boot_sum (aa_ (bi_ (XN:=["d","floor","drawing","spare","there","found","lifts","ends","left"]) (sc:=af_ bD_) (N:=["lift"]) (own:=1) (js:=[]) rfl (by ac_nf) rfl rfl (aD_ (pv 6)) (fun _ _ _ _=>(ai_ (i:=0) (show List.Nodup (["lift"]:List Str) by ac_nf) rfl (Or.inl rfl) (.inr rfl))) (aI_ (by decide)) (fun _ _ _ _=>be_) (fun _ _ _ _=>(aM_ aR_ (pv 0) ae_ (fun _ _=>rfl)))) ab_))))
   (ac_ (am_ (i:=8) bb_.nd rfl (by trivial) (ak_ aT_ (ak_ aT_ (pv 3) (ax_ (eK_ rfl) (by rfl) T.n_sum boot_sum (aa_ (bi_ (XN:=["d","floor","drawing","spare","there","found","lifts","ends","left"]) (sc:=af_ bD_) (N:=["lift"]) (own:=1) (js:=[]) rfl (by ac_nf) rfl rfl (aD_ (pv 6)) (fun _ _ _ _=>(ai_ (i:=0) (show List.Nodup (["lift"]:List Str) by ac_nf) rfl (Or.inl rfl) (.inr rfl))) (aI_ (by decide)) (fun _ _ _ _=>be_) (fun _ _ _ _=>(ah_ (do_ T) (hr.mono (by decide)) (by rfl) T.X17.m T.X17.F.kp T.X17.B .nil aq_ (aa_ (pv 0) ab_)))) ab_))) (ak_ bE_ (pv 7) (ak_ aT_ (pv 0) (pv 1)))))
   (ag_ (b6_ (az_ nO_ (pv 8) ae_ (aC_ _)) (ag_ (aF_ (e4_ Ao Bf Be bS_ (pv 5) (aa_ (bu_ (aa_ (ak_ gB_ (pv 2) (pv 6)) (aa_ (pv 8) ab_))) ab_)))) aP_)))))
   (ag_ (ao_ (pv 5)))))), ?_⟩
  obtain⟨b1,b2,b3,b4,b5,b6,b7⟩:=px_ hst;have okl:∀p∈x.1,Okl d p:=fun p hp=>by
   obtain⟨o1,o2,o3,o4,o5⟩:=gC_.mp (b1 p hp);exact⟨o1,by lia,by lia,o3⟩
  have elen:=eJ_ d x.1 okl;refine⟨_,rfl,_,rfl,d,v,x.1,rfl,by lia,d5,hv,okl,fun el H1 s1 nel hel=> ?_⟩;refine⟨_,rfl,_,_,rfl,rfl,el,_,_, .int (thF d (f+1) x.1),rfl,rfl,SqL.of hel,sL_ (j:=f) (by lia) (by rw [je_ (by lia)];rfl), ?_⟩;unfold eP_ at kk;generalize thF d (f+1) x.1=th at b3 b4 b7 kk⊢;obtain⟨n,rfl⟩:=Am b3;refine⟨AS _,fun fo H2 nf s2 hfo=> ?_⟩;have nfH:H fo=none:=s1.free nf;have s02:=s1.trans s2;refine⟨_,rfl,_,rfl,_,rfl,_,rfl,d,f+1,n,x.2,rfl,by lia,d5,by lia,fun l0 H3 s3 nl0 hl0=> ?_⟩;refine⟨_,rfl,_,rfl, .ref l0,kO_ ((f+1:Nat):Int) (d-(f+1)) n x.2,(n:Int),x.2,rfl,hl0,fun p hp=> ?_,by lia,by lia, ?_, ?_,by decide,fun rl H4 s4 nrl hrl=> ?_⟩
  .obtain⟨e1,e2,e3,e4,e5⟩:=i8_ hp;exact⟨by lia,by lia,by lia,by lia⟩
  .exact Ac b7 (by decide)
  .have:=gZ_ ((f+1:Nat):Int) n x.2 (d-(f+1));have:(d-(f+1))*n<=5*8:=BS (by lia) (by lia);lia
  have eL:c0_ 8 (kO_ ((f+1:Nat):Int) (d-(f+1)) n x.2) (n:Int) x.2=p6_ d (f+1) n x.2:=by unfold p6_;rw [AV]
  have hitem:∀r∈p6_ d (f+1) n x.2,r.length<=8/\0<=(r.map (·.2.2)).sum/\(r.map (·.2.2)).sum<=(n:Int)/\∀p∈r,Lok p:=fun r hr=>by
   rw [<-eL] at hr;obtain⟨i1,i2,i3,i4⟩:=fi_ (fun q hq=>(i8_ hq).2.2.2.1) (by lia) hr;exact⟨i1,i2,i3,fun p hp=>by
    obtain⟨e1,e2,e3,e4,e5⟩:=i8_ (i4 p hp);exact⟨by lia,by lia,by lia,by lia⟩⟩
  rw [eL] at hrl;generalize p6_ d (f+1) n x.2=L at hrl hitem kk b7;have s03:=s02.trans s3;have hfo3:H3 fo=some (.lst []):=s3 _ _ hfo;have hfo4:H4 fo=some (.lst []):=s4 _ _ hfo3;obtain⟨_,rvs,e,hrl',hri⟩:=b9_ hrl;cases e;have hrl4:H4 rl=some (.lst rvs):=a8_ _ _ hrl';have rlfo:rl≠fo:=by rintro rfl;rw [hfo3] at nrl;cases nrl
  have rlen:rvs.length=L.length:=by rw [hri.length,A1]
  have hriH:Iss (hid H4 fo) (L.map lfs) rvs:=(hri.mono (hS_ (al_.refl H3) hfo3)).mono (cW_ a8_);have s04:=s03.trans s4;refine⟨rl,rfl,⟨_,SqL.of hrl4⟩,bj_ (xs:=rvs) (fun j σ H5=>(∃v6 v7 v8,σ=[some (.int d),some (.int ((f+1:Nat):Int)),some v,some (.int x.2),some (.int n),some (.ref fo),v6,v7,v8])/\al_ H H5/\But fo H4 H5/\Acc H H5 fo ((((L.take j).filter fun ls=>decide (0<=g0_ d (f+1) n x.2 ls)).map fun ls=>(x.1++ls,g0_ d (f+1) n x.2 ls)).map stD)) ⟨⟨none,none,none,rfl⟩,s04,fun _ _ e _=>e,Acc.start hfo4⟩ (fun j σ H5 _ h=>SqL.of (h.2.2.1 _ _ hrl4 rlfo)) ?_ ?_⟩
  .rintro j y σ H5 hj ⟨⟨v6,v7,v8,rfl⟩,s5,but5,vs5,hfo5,hi5⟩;obtain⟨dd,hdd,hy⟩:=hriH.of_get hj;rw [A5] at hdd;obtain⟨r,hr',rfl⟩:=A3.mp hdd;have hy5:Is H5 (lfs r) y:=hy.mono (jd_ but5);obtain⟨i1,i2,i3,i4⟩:=hitem r (AL hr');obtain⟨ya,ys,rfl,hya,hyi⟩:=b9_ hy5;have ylen:ys.length=r.length:=by rw [hyi.length,A1]
   have vl:vs5.length<=200:=by
    rw [hi5.length,A1,A1];refine Ac (Ba _ _) ?_;rw [AW];lia
   refine⟨_,rfl,_,rfl,ya,rfl,⟨_,SqL.of hya⟩,fun acc na=> ?_⟩;refine aW_ (xs:=ys) (own:=1) (js:=[]) (fun i H6=>al_ H5 H6/\H6 acc=some (.lst (((r.take i).map (·.2.2)).map V.int))) ⟨al_.new na,ad_⟩ (fun i H6 _ h=>SqL.of (h.1 _ _ hya)) ?_ ?_ aJ_ bf_ ?_
   .rintro i z H6 hz ⟨s6,hacc⟩;obtain⟨dd,hdd,hzi⟩:=hyi.of_get hz;rw [A5] at hdd;obtain⟨p,hp',rfl⟩:=A3.mp hdd;refine k9_ ?_;refine⟨_,rfl,_,2,_,hzi.mono s6,rfl,rfl,fun u hu=> ?_⟩;rw [dV_ hu];refine⟨acc,_,_,rfl,rfl,hacc,aj_ ?_,s6.put na, ?_⟩
    .rw [A1,A1,AW];lia
    .rw [ad_,AF,hp',AD,AD];rfl
   .rintro H6 ⟨s6,hacc⟩;rw [ylen,AR] at hacc;refine⟨acc,_,rfl,SqL.of hacc,_,_,rfl,rfl, ?_⟩;clear hacc;refine⟨_,rfl,_,rfl,ya,rfl,⟨_,SqL.of (s6 _ _ hya)⟩,fun ac2 na2=> ?_⟩;refine aW_ (xs:=ys) (own:=1) (js:=[]) (fun i H7=>al_ H6 H7/\H7 ac2=some (.lst (((r.take i).map aN_).map V.int))) ⟨al_.new na2,ad_⟩ (fun i H7 _ h=>SqL.of (h.1 _ _ (s6 _ _ hya))) ?_ ?_ aJ_ bf_ ?_
    .rintro i z H7 hz ⟨s7,hacc⟩;obtain⟨dd,hdd,hzi⟩:=hyi.of_get hz;rw [A5] at hdd;obtain⟨p,hp',rfl⟩:=A3.mp hdd;refine k9_ ?_;refine⟨_,rfl,z,p,rfl,(hzi.mono s6).mono s7,i4 p (AL hp'),ac2,_,_,rfl,rfl,hacc,aj_ ?_,s7.put na2, ?_⟩
     .rw [A1,A1,AW];lia
     .rw [ad_,AF,hp',AD,AD];rfl
    .rintro H7 ⟨s7,hacc⟩;rw [ylen,AR] at hacc;have s57:=s6.trans s7;refine⟨ac2,_,rfl,SqL.of hacc,_,_,rfl,rfl,_,rfl,_,rfl,_,rfl,_,_,rfl,rfl,_,_,rfl,rfl, .inr ⟨by lia,by lia⟩,_,_,rfl,rfl, ?_⟩;refine⟨_,rfl,_,_,rfl,rfl,_,rfl,es_ (fun c=> ?_) (fun c=> ?_)⟩
     .have hv7:Is H7 (lfs x.1) v:=(hv.mono s5).mono s57;refine⟨_,rfl, .inl ⟨rfl,_,SqL.of (s57 _ _ hfo5)⟩,_,rfl,_,rfl,x.1.map lf,r.map lf,hv7,hy5.mono s57,Ag (aj_ (by rw [A1,A1];lia)),fun q1 H8 n8 s8 h8=>⟨_,rfl,(by show 2<=sizeLine;decide),fun t H9 nt s9 ht=> ?_⟩⟩;have s59:=s57.trans (s8.trans s9);refine⟨fo,vs5,_,rfl,rfl,s59 _ _ hfo5,aj_ (by lia),⟨_,_,_,rfl⟩,(s5.trans s59).put nfH,but5.trans ((But.of_same s59).trans But.upd), ?_⟩;rw [AF,hr',B3];have ef:(Option.toList (some r)).filter (fun ls=>decide (0<=g0_ d (f+1) n x.2 ls))=[r]:=by
       have c':0<=g0_ d (f+1) n x.2 r:=c;simp [c']
      rw [ef,AD,AD];rw [<-AD] at h8;have isx:Is (nw H5 H9) (stD (x.1++r,g0_ d (f+1) n x.2 r)) (.ref t):=ng_ (by rw [cg_ ((s57.trans s8).free nt)];exact ht) (ap_ (l8_ s59 (s57.free n8) (Is.mono (s:=s9) h8)) (ap_ n5_ an_));exact Acc.add s5 s59 hfo5 hi5 isx
     .refine⟨⟨_,_,_,rfl⟩,s5.trans s57,but5.trans (But.of_same s57), ?_⟩;rw [AF,hr',B3];have ef:(Option.toList (some r)).filter (fun ls=>decide (0<=g0_ d (f+1) n x.2 ls))=[]:=by
       have c':¬0<=g0_ d (f+1) n x.2 r:=c;simp [c']
      rw [ef,BY];exact Acc.mono s57 ⟨vs5,hfo5,hi5⟩
    .rintro σ H R R' k ⟨v1,e1,v2,p,e2,h1,h2,h⟩;exact⟨v1,e1,v2,p,e2,h1,h2,k _ _ h⟩
   .rintro σ H R R' k ⟨v1,e1,xs,i,d,h1,e2,e3,h⟩;exact⟨v1,e1,xs,i,d,h1,e2,e3,fun u hu=>k _ _ (h u hu)⟩
  .rintro σ H5 ⟨⟨v6,v7,v8,rfl⟩,s5,_,hacc⟩;rw [rlen,AR] at hacc;exact⟨_,rfl,kk fo H5 s5 nfH (hacc.is nfH)⟩
theorem i4_:FnOk P w K mg base CX0 11 T.f21 T.d21 ["d","k"] (rs_ K):=by
 refine T.X21.F.ok bk_ (fun vs H Q E h=> ?_) (fun cdv A outer s H vs Q E hr h=> ?_)
 .obtain⟨_,_,rfl,_⟩:=h;rfl
 .obtain⟨d,k,rfl,hW,kk⟩:=h;refine⟨_,(ac_ (aF_ (ah_ (eo_ T) (hr.mono (by decide)) (by rfl) T.X2.m T.X2.F.kp T.X2.B .nil aq_ (aa_ (pv 0) (aa_ (pv 1) ab_))))
   (ac_ (am_ (i:=2) bk_.nd rfl (by trivial) (aQ_ (aa_ (bu_ (aa_ (aQ_ ab_) (aa_ (pv 1) ab_))) ab_)))
   (ac_ (aE_ AN rfl (a7_ (by rfl) T.n_range (aa_ ae_ (aa_ (ak_ ay_ (pv 0) ae_) ab_))) (ai_ (i:=3) bk_.nd rfl (by trivial)) (ac_ (am_ (i:=4) bk_.nd rfl (by trivial) (aQ_ ab_))
   (ac_ (aE_ AN rfl (aD_ (pv 2)) (ce_ rfl (as_ (ai_ (i:=5) bk_.nd rfl (by trivial)) (as_ (ai_ (i:=6) bk_.nd rfl (by trivial)) bl_))) (ag_ (aF_ (e4_ Ao CJ CI dK_ (pv 4) (aa_ (ah_ (gD_ T) (hr.mono (by decide)) (by rfl) T.X20.m T.X20.F.kp T.X20.B .nil aq_ (aa_ (pv 0) (aa_ (pv 3) (aa_ (pv 5) (aa_ (pv 6) ab_))))) ab_)))))
   (ag_ (am_ (i:=2) bk_.nd rfl (by trivial) (pv 4))))))
   (ag_ (ao_ (ax_ (dc_ hr) (by rfl) T.n_sorted boot_sorted (aa_ (bi_ (XN:=["d","k","begun","floor","longer","drawing","spare"]) (sc:=af_ cT_) (N:=["drawing","spare"]) (own:=2) (js:=[]) rfl (by ac_nf) rfl rfl (aD_ (pv 2)) (fun _ _ _ _=>(iY_ (K:=K) rfl rfl (as_ (ai_ (i:=0) (show List.Nodup (["drawing","spare"]:List Str) by ac_nf) rfl (Or.inl rfl) (.inr rfl)) (as_ (ai_ (i:=1) (show List.Nodup (["drawing","spare"]:List Str) by ac_nf) rfl (Or.inl rfl) (.inr rfl)) bl_)))) hJ_ (fun _ _ _ _=>(dC_ (az_ ew_ (pv 1) ae_ (aC_ _)))) (fun _ _ _ _=>(pv 0))) ab_))))))), ?_⟩
  obtain⟨g1,g2,g3,_⟩:=qB_ hW;obtain⟨gA,gB⟩:=pY_ g1;have d15:1<=d/\d<=5:=by unfold Wide at hW;lia
  refine⟨_,rfl,_,rfl,d,k,rfl,hW, ?_⟩;refine⟨AS _,fun e0 H1 ne0 s1 he0=>⟨_,rfl,(by show 2<=sizeLine;decide),fun t0 H2 nt0 s2 ht0=>⟨(by show 1<=sizeLine;decide),fun bg H3 nb s3 hbg=> ?_⟩⟩⟩;have s03:=(s1.trans s2).trans s3;have nbH:H bg=none:=(s1.trans s2).free nb;have is0:Is (nw H H3) (.l ((fQ_ d k 0).map stD)) (.ref bg):=da_ (by rw [cg_ nbH];exact hbg) (ap_ (ng_ (by rw [cg_ (s1.free nt0)];exact s3 _ _ ht0) (ap_ (da_ (vs:=[]) (by rw [cg_ ne0];exact s3 _ _ (s2 _ _ he0)) an_) (ap_ n5_ an_))) an_);refine⟨_,rfl,_,_,rfl,rfl,_,_,rfl,⟨by decide,by decide,by lia,by lia⟩, ?_⟩;rw [show((d:Int)+1-1).toNat=d by lia];refine a9_ (lo:=1) (n:=d) (fun f σ H4=>∃bg,(∃v3 v4 v5 v6,σ=[some (.int d),some (.int k),some (.ref bg),v3,v4,v5,v6])/\al_ H H4/\Is (nw H H4) (.l ((fQ_ d k f).map stD)) (.ref bg)) ⟨bg,⟨none,none,none,none,rfl⟩,s03,is0⟩ ?_ ?_
  .clear is0 s03 nbH hbg;rintro f σ H4 hf ⟨bg,⟨v3,v4,v5,v6,rfl⟩,s4,hbg⟩;obtain⟨hst,hlen⟩:=gA f hf;refine⟨AS _,fun lo H5 nlo s5 hlo=> ?_⟩;have hbg4:=hbg.mono a8_;obtain⟨_,bvs,e,hb4,hbi⟩:=b9_ hbg4;cases e;have blen:bvs.length=(fQ_ d k f).length:=by rw [hbi.length,A1]
   refine⟨_,rfl,bg,rfl,⟨_,SqL.of (s5 _ _ hb4)⟩,bj_ (xs:=bvs) (fun j σ H6=>(∃v5 v6,σ=[some (.int d),some (.int k),some (.ref bg),some (.int (1+(f:Int))),some (.ref lo),v5,v6])/\al_ H4 H6/\Acc H4 H6 lo ((((fQ_ d k f).take j).flatMap fun x=>eP_ d (f+1) x.1 x.2).map stD)) ⟨⟨_,_,rfl⟩,s5,Acc.start hlo⟩ (fun j σ H6 _ h=>SqL.of (h.2.1 _ _ hb4)) ?_ ?_⟩
   .rintro j y σ H6 hj ⟨⟨v5,v6,rfl⟩,s6,vs6,hlo6,hi6⟩;obtain⟨dd,hdd,hy⟩:=hbi.of_get hj;rw [A5] at hdd;obtain⟨x,hx',rfl⟩:=A3.mp hdd;obtain⟨t,u,rfl,ht,hu⟩:=rU_ (hy.mono s6);have e1:(1+(f:Int))=((f+1:Nat):Int):=by lia
    have tk:(((fQ_ d k f).take (j+1)).flatMap fun x=>eP_ d (f+1) x.1 x.2)=(((fQ_ d k f).take j).flatMap fun x=>eP_ d (f+1) x.1 x.2)++eP_ d (f+1) x.1 x.2:=by
     rw [AF,hx',CG];simp
    have vl:vs6.length+(eP_ d (f+1) x.1 x.2).length<=900:=by
     rw [hi6.length,A1];have hjl:j<(fQ_ d k f).length:=(A'.mp hx').1;have:(((fQ_ d k f).take (j+1)).flatMap fun x=>eP_ d (f+1) x.1 x.2).length<=(fQ_ d k (f+1)).length:=by
      show _<=((fQ_ d k f).flatMap fun x=>eP_ d (f+1) x.1 x.2).length
      conv=>rhs;rw [<-List.take_append_drop (j+1) (fQ_ d k f)]
      rw [CG,AH];lia
     rw [tk,AH] at this;lia
    refine⟨t,_,rfl,SqT.of ht,rfl,_,_,rfl,_,_,rfl,rfl, ?_⟩;refine⟨_,rfl, .inl ⟨rfl,_,SqL.of hlo6⟩,_,rfl,_,rfl,_,rfl,_,rfl,d,f,u,x,by rw [e1];rfl,hf,d15.2,hu,hst x (AL hx'),fun wl H7 s7 nwl hwl=> ?_⟩;obtain⟨_,us,e,hwl',hwi⟩:=b9_ hwl;cases e;have ul:us.length=(eP_ d (f+1) x.1 x.2).length:=by rw [hwi.length,A1]
    refine⟨lo,wl,vs6,us,rfl,rfl,s7 _ _ hlo6,a8_ _ _ hwl',Ag (aj_ (by lia)),⟨_,_,rfl⟩,(s6.trans s7).put nlo, ?_⟩;rw [tk,AD];exact Acc.adds s6 s7 hlo6 hi6 hwi
   .rintro σ H6 ⟨⟨v5,v6,rfl⟩,s6,hacc⟩;rw [blen,AR] at hacc;exact⟨_,rfl,lo,⟨_,_,_,_,rfl⟩,s4.trans s6,(hacc.is nlo).mono (gK_ s4)⟩
  .clear is0 s03 nbH hbg;rintro σ H4 ⟨bg,⟨v3,v4,v5,v6,rfl⟩,s4,hbg⟩;obtain⟨_,bvs,e,hb4,hbi⟩:=b9_ hbg;cases e;have hb4':=a8_ _ _ hb4;have blen:bvs.length=(fQ_ d k d).length:=by rw [hbi.length,A1]
   refine⟨_,rfl,bg,rfl,⟨_,SqL.of hb4'⟩,fun acc na=> ?_⟩;refine aW_ (xs:=bvs) (own:=2) (js:=[]) (fun j H5=>al_ H4 H5/\∃vs,H5 acc=some (.lst vs)/\Iss (nw H H4) (((((fQ_ d k d).take j).filter fun x=>decide (x.2=0)).map (·.1)).map lfs) vs) ⟨al_.new na,[],ad_,an_⟩ (fun j H5 _ h=>SqL.of (h.1 _ _ hb4')) ?_ ?_ hT_ ?_ ?_
   .rintro j y H5 hj ⟨s5,vs,hacc,hi⟩;obtain⟨dd,hdd,hy⟩:=hbi.of_get hj;rw [A5] at hdd;obtain⟨x,hx',rfl⟩:=A3.mp hdd;obtain⟨t,u,rfl,ht,hu⟩:=rU_ hy;have vl:vs.length<=900:=by
     rw [hi.length,A1,A1];refine Ac (Ba _ _) ?_;rw [AW];obtain⟨d',rfl⟩:∃d',d=d'+1:=⟨d-1,by lia⟩;have:=(gA d' (by lia)).2;lia
    refine⟨t,_,rfl,SqT.of (s5 _ _ (a8_ _ _ ht)),rfl,_,_,rfl,_,_,rfl,rfl, ?_⟩;refine⟨_,rfl,rfl,_,rfl,mA_ (fun c=> ?_) (fun c=> ?_)⟩
    .refine⟨_,rfl,acc,vs,_,rfl,rfl,hacc,aj_ (by lia),s5.put na,_,ad_, ?_⟩;rw [AF,hx',B3];have ef:(Option.toList (some x)).filter (fun x=>decide (x.2=0))=[x]:=by simp [c]
     rw [ef,AD,AD];exact hi.append (ap_ hu an_)
    .refine⟨s5,vs,hacc, ?_⟩;rw [AF,hx',B3];have ef:(Option.toList (some x)).filter (fun x=>decide (x.2=0))=[]:=by simp [c]
     rw [ef,BY];exact hi
   .rintro H5 ⟨s5,vs,hacc,hi⟩;rw [blen,AR] at hi;have hi:Iss (nw H H4) ((dB_ d k).map lfs) vs:=hi;have s05:=s4.trans s5;have hv5:Iss H5 ((dB_ d k).map lfs) vs:=(hi.mono a8_).mono s5;have vlen:vs.length=(dB_ d k).length:=by rw [hi.length,A1]
    by_cases hlt:(dB_ d k).length<2
    .refine .inl ⟨acc,vs,rfl,SqL.of hacc,by lia,fun q nq=>kk q _ (s05.put (s05.free nq)) (s05.free nq) ?_⟩;have:sD d k=dB_ d k:=by unfold sD;rw [A8 hlt]
     rw [this];exact da_ (by rw [cg_ (s05.free nq)];exact ad_) (hi.mono (dp_ (s5.trans (al_.new nq))))
    .obtain⟨p,hp,hps,hpl⟩:=g2 hlt;refine .inr ⟨acc,vs,cD (dB_ d k),p,rfl,SqL.of hacc,by lia,by lia,hps,fun r hr'=> ?_,fun i j bb hb=> ?_,by rw [vlen];exact hp,fun i hi=>by rw [vlen];exact hpl i hi,fun q nq=>kk q _ (s05.put (s05.free nq)) (s05.free nq) ?_⟩
     .obtain⟨i,hi,rfl⟩:=BN.mp hr';obtain⟨dd,hdd,hy⟩:=hv5.of_get (A2 hi);rw [A5] at hdd;obtain⟨w,_,rfl⟩:=A3.mp hdd;obtain⟨a,ys,e1,e2,_⟩:=b9_ hy;exact⟨a,ys,e1,SqL.of e2⟩
     .unfold cD at hb;obtain⟨w1,h1,hb⟩:=AC.mp hb;obtain⟨w2,h2,rfl⟩:=A3.mp hb;obtain⟨x,hx,hx'⟩:=hv5.get (j:=i) (x:=lfs w1) (by rw [A5,h1];rfl);obtain⟨y,hy,hy'⟩:=hv5.get (j:=j) (x:=lfs w2) (by rw [A5,h2];rfl);exact⟨x,y,hx,hy,nb_ hx' hy'⟩
     .have:sD d k=p.toList.map fun i=>(dB_ d k).getD i []:=by
       unfold sD oD;rw [A6 hlt,hp];rfl
      rw [this];exact da_ (by rw [cg_ (s05.free nq)];exact ad_) ((g7_ hi p.toList hpl).mono (dp_ (s5.trans (al_.new nq))))
   .rintro σ H R R' k' ⟨v1,e1,e2,b,e3,h⟩;exact⟨v1,e1,e2,b,e3,k' _ _ h⟩
   .rintro σ H R R' k' ⟨v1,e1,h⟩;exact⟨v1,e1,k' _ _ h⟩
theorem nR_:FnOk P w K mg base CX0 5 T.f16 T.d16 ["d","drawing"] (s9_ K):=by
 refine T.X16.F.ok ny_ (fun vs H Q E h=> ?_) (fun cdv A outer s H vs Q E hr h=> ?_)
 .obtain⟨_,_,_,rfl,_⟩:=h;rfl
 .obtain⟨n,dv,ps,rfl,n1,n5,hd,hs,kk⟩:=h;refine⟨_,(ag_ (ao_ (gy_ nO_ (ax_ (m4_ rfl) (by rfl) T.n_min boot_min (aa_ (ah_ (d7_ T) (hr.mono (by decide)) (by rfl) T.X15.m T.X15.F.kp T.X15.B .nil aq_ (aa_ (pv 0) (aa_ (pv 1) ab_))) ab_)) ae_ (aC_ _)))), ?_⟩;refine⟨_,rfl,_,rfl,n,dv,ps,rfl,n1,n5,hd,hs.okl,fun l H1 s1 nl hl=> ?_⟩;refine⟨l,_,rfl,SqL.of hl,by rw [eJ_ n ps hs.okl];lia,_,_,rfl,rfl, ?_⟩;show Q (.bl (decide (0<=r2_ (bG_ n ps)))) H1;rw [Ak (qn_ hs.ends)];exact kk H1 s1
theorem gE_:FnOk P w K mg base CX0 6 T.f24 T.d24 ["d","drawing"] (tb_ K):=by
 refine T.X24.F.ok gp_ (fun vs H Q E h=> ?_) (fun cdv A outer s H vs Q E hr h=> ?_)
 .obtain⟨_,_,_,rfl,_⟩:=h;rfl
 .obtain⟨n,dv,ps,rfl,n1,n5,hd,hs,kk⟩:=h;refine⟨_,(ac_ (aF_ (ah_ (c7_ T) (hr.mono (by decide)) (by rfl) T.X3.m T.X3.F.kp T.X3.B .nil aq_ (aa_ (pv 0) ab_)))
   (ag_ (b6_ (lL_ (hH_ (ah_ (nR_ T) (hr.mono (by decide)) (by rfl) T.X16.m T.X16.F.kp T.X16.B .nil aq_ (aa_ (pv 0) (aa_ (pv 1) ab_))))) (ag_ jK_) aP_))), ?_⟩
  exact⟨_,rfl,n,rfl,by lia,by lia,_,rfl,_,rfl,n,dv,ps,rfl,n1,n5,hd,hs,fun H1 s1=>⟨true,rfl,fm_ (kk H1 s1)⟩⟩
theorem hP_:FnOk P w K mg base CX0 5 T.f25 T.d25 ["d","drawing"] (tk_ K):=by
 refine T.X25.F.ok bV_ (fun vs H Q E h=> ?_) (fun cdv A outer s H vs Q E hr h=> ?_)
 .obtain⟨_,_,_,rfl,_⟩:=h;rfl
 .obtain⟨n,dv,ps,rfl,n1,n5,hd,hs,hlen,kk⟩:=h;refine⟨_,(ac_ (am_ (i:=2) bV_.nd rfl (by trivial) (aQ_ ab_))
   (ac_ (aE_ AN rfl (d4_ (by rfl) T.n_enumerate (ah_ (d7_ T) (hr.mono (by decide)) (by rfl) T.X15.m T.X15.F.kp T.X15.B .nil aq_ (aa_ (pv 0) (aa_ (pv 1) ab_)))) (ce_ rfl (as_ (ai_ (i:=3) bV_.nd rfl (by trivial)) (as_ (ai_ (i:=4) bV_.nd rfl (by trivial)) bl_))) (ag_ (aF_ (e4_ Ao CJ CI dK_ (pv 2) (aa_ (ak_ gA_ (aQ_ (aa_ (bu_ (aa_ (ak_ ay_ (pv 3) ae_) (aa_ (ak_ ay_ (pv 0) ae_) (aa_ ae_ ab_)))) ab_)) (pv 4)) ab_)))))
   (ag_ (ao_ (pv 2))))), ?_⟩
  refine⟨AS _,fun fo H1 nf s1 hfo=> ?_⟩;refine⟨_,rfl,_,rfl,n,dv,ps,rfl,n1,n5,hd.mono s1,hs.okl,fun e H2 s2 ne he=> ?_⟩;have el:=eJ_ n ps hs.okl;have efo:e≠fo:=by rintro rfl;rw [hfo] at ne;cases ne
  refine⟨e,rfl,⟨_,SqL.of he⟩,cX_ (xs:=(bG_ n ps).map V.int) (fun i σ H3=>(∃v3 v4,σ=[some (.int n),some dv,some (.ref fo),v3,v4])/\al_ H H3/\H3 e=some (.lst ((bG_ n ps).map V.int))/\∃vs,H3 fo=some (.lst vs)/\Iss H3 (((List.range i).flatMap (k6_ n (bG_ n ps))).map lf) vs)
   ⟨⟨none,none,rfl⟩,s1.trans s2,he,[],s2 _ _ hfo,an_⟩ (fun i σ H3 _ h=>SqL.of h.2.2.1) ?_ ?_⟩
  .rintro i x σ H3 p hx ⟨⟨v3,v4,rfl⟩,s3,he3,vs,hf3,hi3⟩ np;rw [A5] at hx;obtain⟨x,hx',rfl⟩:=A3.mp hx;have hi:i<n:=by have:=(A'.mp hx').1;lia
   have ex:(bG_ n ps).getD i 0=x:=by rw [List.getD,hx'];rfl
   have x0:0<=x:=by rw [<-ex];exact hs.ends i
   have pre:((List.range i).flatMap (k6_ n (bG_ n ps))).length+x.toNat<=20:=by
    have:=e0_ (k6_ n (bG_ n ps)) hi;have e2:(k6_ n (bG_ n ps) i).length=x.toNat:=by unfold k6_;rw [Af,ex]
    unfold fL_ at hlen;lia
   refine⟨p,_,rfl,SqT.of ad_,rfl,_,_,rfl,_,_,rfl,rfl, ?_⟩;have s4:al_ H3 (upd H3 p (.tup [.int i, .int x])):=al_.new np;generalize upd H3 p (.tup [.int i, .int x])=H4 at s4⊢;refine⟨_,rfl, .inl ⟨rfl,_,SqL.of (s4 _ _ hf3)⟩,_,rfl,_,_,rfl,rfl,_,rfl,_,_,rfl,rfl,(by show 3<=sizeLine;decide),fun t H5 nt s5 ht=>⟨(by show 1<=sizeLine;decide),fun l1 H6 n6 s6 h6=> ?_⟩⟩;have htl:Is H6 (lf (1+(i:Int),(n:Int)+1,1)) (.ref t):=g9_ (s6 _ _ (by rw [ht];show some (HO.tup [V.int ((i:Int)+1),_,_])=_;rw [Int.add_comm]));refine⟨_,rfl,lf (1+(i:Int),(n:Int)+1,1),x,da_ h6 (ap_ htl an_),rfl,by lia,by lia,Ag (aj_ (by lia)),fun l2 H7 n7 s7 h7=> ?_⟩;obtain⟨_,us,e2,hl2,hi2⟩:=b9_ h7;cases e2;have s47:al_ H3 H7:=((s4.trans s5).trans s6).trans s7;have hf7:=s47 _ _ hf3;have ul:us.length=x.toNat:=by rw [hi2.length,Af]
   have vl:=hi3.length;rw [A1] at vl;refine⟨fo,l2,vs,us,rfl,rfl,hf7,hl2,Ag (aj_ (by lia)),⟨_,_,rfl⟩,(s3.trans s47).put nf,by rw [ar_ efo];exact s47 _ _ he3,_,ad_, ?_⟩;rw [aO_,AD];refine(oY_ s47 hf3 hi3).append (oY_ (al_.refl H7) hf7 ?_);have:(k6_ n (bG_ n ps) i).map lf=List.replicate x.toNat (lf (1+(i:Int),(n:Int)+1,1)):=by unfold k6_;rw [ex,Bx]
   rw [this];exact hi2
  .rintro σ H3 ⟨⟨v3,v4,rfl⟩,s3,he3,vs,hf3,hi3⟩;rw [A1,el] at hi3;exact⟨_,rfl,kk fo H3 s3 nf (da_ hf3 hi3)⟩
theorem hQ_:FnOk P w K mg base CX0 1 T.f23 T.d23 ["number","chosen"] (to_ K):=by
 refine T.X23.F.ok dy_ (fun vs H Q E h=> ?_) (fun cdv A outer s H vs Q E hr h=> ?_)
 .obtain⟨_,_,rfl,_⟩:=h;rfl
 .obtain⟨n,k,rfl,h1,h2,kk⟩:=h;refine⟨_,(ac_ (b6_ (nE_ (az_ hK_ (pv 1) ae_ (aC_ _)) (lK_ (az_ iZ_ (pv 1) (pv 0) (aC_ _)))).pt (ag_ (ao_ ae_)) aP_)
   (ac_ (am_ (i:=2) dy_.nd rfl (by trivial) ae_)
   (ac_ (aE_ AN rfl (dD_ (by rfl) T.n_range (aa_ (pv 1) ab_)) (ai_ (i:=3) dy_.nd rfl (by trivial)) (ag_ (am_ (i:=2) dy_.nd rfl (by trivial) (ak_ l1_ (ak_ bE_ (pv 2) (ak_ aT_ (pv 0) (pv 3))) (ak_ ay_ (pv 3) ae_)))))
   (ag_ (ao_ (pv 2)))))), ?_⟩
  refine⟨_,rfl,_,_,rfl,rfl,_,rfl,es_ (fun h=>absurd h (by lia)) (fun _=> ?_)⟩;refine⟨_,rfl,_,rfl,_,_,rfl,rfl,_,rfl,es_ (fun h=>absurd h (by lia)) (fun _=> ?_)⟩;refine⟨_,rfl,(k:Int),rfl,by lia,by lia,a9_ (lo:=0) (n:=(k:Int).toNat) (fun i σ H2=>(∃v3,σ=[some (.int n),some (.int k),some (.int (chF n i)),v3])/\H2=H) ⟨⟨none,rfl⟩,rfl⟩ ?_ ?_⟩
  .rintro i σ H2 hi ⟨⟨v3,rfl⟩,rfl⟩;refine⟨_,rfl,_,rfl,_,rfl,_,_,rfl,rfl,_,_,rfl,rfl, .inr ⟨by lia,by lia⟩,_,rfl,_,_,rfl,rfl,_,_,rfl,rfl,⟨by lia,by lia⟩,⟨some (.int (0+(i:Int))), ?_⟩,rfl⟩;rw [show chF n (i+1)=chF n i*(n-(0+(i:Int)))/((0+(i:Int))+1) by rw [Int.zero_add];rfl];rfl
  .rintro σ H2 ⟨⟨v3,rfl⟩,rfl⟩;rw [AV];exact⟨_,rfl,kk⟩
theorem en_:FnOk P w K mg base CX0 1 T.f7 T.d7 ["numbers","place","more"] (un_ K):=by
 refine T.X7.F.ok hz_ (fun vs H Q E h=> ?_) (fun cdv A outer s H vs Q E hr h=> ?_)
 .obtain⟨_,_,_,_,rfl,_⟩:=h;rfl
 .obtain⟨v,t,p,m,rfl,hv,hp,hl,kk⟩:=h;refine⟨_,(ag_ (ao_ (ak_ l2_ (ak_ l2_ (dE_ lx_ (pv 0) e2_ (e1_ (pv 1))) (bu_ (aa_ (ak_ ay_ (aM_ aR_ (pv 0) (pv 1) (fun _ _=>rfl)) (pv 2)) ab_))) (dE_ lx_ (pv 0) (e1_ (ak_ ay_ (pv 1) ae_)) e2_)))), ?_⟩;have hlen:∀vs:List V,vs.length=(t.map D.i).length->vs.length=t.length:=fun vs e=>by rw [e,A1]
  refine⟨_,rfl,_,rfl,(p:Int),rfl,t.map .i,(t.take p).map .i,hv,q7_,fun vs e h=> ?_,fun u1 H1 s1 hu1=> ?_⟩
  .have e:=hlen vs e;rw [HT.sIx_nat] at h;lia
  refine⟨_,rfl,_,rfl,t.map .i,(p:Int), .i (t.getD p 0),hv.mono s1,rfl, ?_,fun u hu=> ?_⟩
  .refine sL_ (j:=p) rfl ?_;rw [A5,A2 hp];simp [List.getD,hp]
  rw [dV_ hu];refine⟨_,rfl,_,_,rfl,rfl,(by show 1<=sizeLine;decide),fun q2 H2 n2 s2 h2=> ?_⟩;have hu2:Is H2 (.t [.i (t.getD p 0+m)]) (.ref q2):=ng_ h2 (ap_ n5_ an_);refine⟨_,_,hu1.mono s2,hu2,Ag (aj_ (by rw [A1,AW];show _+1<=1000;lia)),fun u3 H3 s3 hu3=> ?_⟩;refine⟨_,rfl,_,rfl,_,_,rfl,rfl,(p:Int)+1,rfl,t.map .i,(t.drop (p+1)).map .i,((hv.mono s1).mono s2).mono s3, ?_,fun vs e h=> ?_,fun u4 H4 s4 hu4=> ?_⟩
  .rw [show((p:Int)+1)=((p+1:Nat):Int) by lia];exact pq_ (by lia)
  .have e:=hlen vs e;rw [show((p:Int)+1)=((p+1:Nat):Int) by lia,HT.sIx_nat] at h;lia
  refine⟨_,_,hu3.mono s4,hu4,Ag (aj_ (by rw [AH,A1,A1,AW,Cj];show _+1+_<=1000;lia)),fun u5 H5 s5 hu5=> ?_⟩;refine kk u5 H5 ((((s1.trans s2).trans s3).trans s4).trans s5) ?_;have e:(t.take p).map D.i++[D.i (t.getD p 0+m)]++(t.drop (p+1)).map D.i=(wmF t p m).map D.i:=by
   unfold wmF;rw [<-pH_ hp,AD,AD];rfl
  rw [e] at hu5;exact hu5
theorem c6_:∀n:Nat,FnOk P w K mg base CX0 (n+2) T.f26 T.d26 ["numbers","first","last","alike"] (uo_ n K)
 |0=>⟨fun vs H Q E h=>(by obtain⟨_,_,_,_,_,_,_,h,_⟩:=h;exact absurd h (Nat.not_lt_zero _)),fun A outer s H args us vs Q E _ _ _ _ h=>(by obtain⟨_,_,_,_,_,_,_,h,_⟩:=h;exact absurd h (Nat.not_lt_zero _))⟩
 |n+1=>by
  have ih:=c6_ n;refine T.X26.F.ok a0_ (fun vs H Q E h=> ?_) (fun cdv A outer s H vs Q E hr h=> ?_)
  .obtain⟨_,_,_,_,_,rfl,_⟩:=h;rfl
  .obtain⟨v,t,p,g,a,rfl,hv,hg,hn,hp,⟨kl,kn,ks,k3⟩,kk⟩:=h;refine⟨_,(ac_ (b6_ (az_ ew_ (pv 1) (pv 2) (aC_ _)) (ag_ (ao_ (aQ_ (aa_ (bu_ (aa_ (ah_ (en_ T) (hr.mono (by lia)) (by rfl) T.X7.m T.X7.F.kp T.X7.B .nil aq_ (aa_ (pv 0) (aa_ (pv 1) (aa_ (pv 3) ab_)))) (aa_ (ah_ (hQ_ T) (hr.mono (by lia)) (by rfl) T.X23.m T.X23.F.kp T.X23.B .nil aq_ (aa_ (ak_ ay_ (aM_ aR_ (pv 0) (pv 1) (fun _ _=>rfl)) (pv 3)) (aa_ (pv 3) ab_))) ab_))) ab_)))) aP_)
   (ac_ (am_ (i:=4) a0_.nd rfl (by trivial) (aQ_ ab_))
   (ac_ (aE_ AN rfl (dD_ (by rfl) T.n_range (aa_ (ak_ ay_ (pv 3) ae_) ab_)) (ai_ (i:=5) a0_.nd rfl (by trivial)) (ac_ (am_ (i:=6) a0_.nd rfl (by trivial) (ah_ (hQ_ T) (hr.mono (by lia)) (by rfl) T.X23.m T.X23.F.kp T.X23.B .nil aq_ (aa_ (ak_ ay_ (aM_ aR_ (pv 0) (pv 1) (fun _ _=>rfl)) (pv 5)) (aa_ (pv 5) ab_))))
   (ag_ (aE_ AN rfl (aD_ (ah_ ih hr (by rfl) T.X26.m T.X26.F.kp T.X26.B .nil aq_ (aa_ (ah_ (en_ T) (hr.mono (by lia)) (by rfl) T.X7.m T.X7.F.kp T.X7.B .nil aq_ (aa_ (pv 0) (aa_ (pv 1) (aa_ (pv 5) ab_)))) (aa_ (ak_ ay_ (pv 1) ae_) (aa_ (pv 2) (aa_ (ak_ aT_ (pv 3) (pv 5)) ab_)))))) (ce_ rfl (as_ (ai_ (i:=7) a0_.nd rfl (by trivial)) (as_ (ai_ (i:=8) a0_.nd rfl (by trivial)) bl_))) (ag_ (aF_ (e4_ Ao Bf Be bS_ (pv 4) (aa_ (bu_ (aa_ (pv 7) (aa_ (ak_ bE_ (pv 6) (pv 8)) ab_))) ab_))))))))
   (ag_ (ao_ (pv 4)))))), ?_⟩
   have kp:=ks p (A7 _) (Nat.le_add_right _ _);have kp0:=kn p;have at_p:∀{H':Hp},al_ H H'->∀{v':V},Is H' (tI t) v'->atI (t.map D.i) (p:Int)=some (.i (t.getD p 0)):=fun _ _ _=>by
    refine sL_ (j:=p) rfl ?_;rw [A5,A2 (by lia)];simp [List.getD,show p<t.length by lia]
   refine⟨_,rfl,_,rfl,rfl,_,rfl,mA_ (fun e=> ?_) (fun e=> ?_)⟩
   .have hg0:g=0:=by lia
    subst hg0;refine⟨_,rfl,_,rfl,_,rfl,v,t,p,a,rfl,hv,by lia,kl,fun u1 H1 s1 hu1=> ?_⟩;refine⟨_,rfl,_,rfl,t.map .i,(p:Int),_,hv.mono s1,rfl,at_p s1 (hv.mono s1),fun u hu=> ?_⟩;rw [dV_ hu];refine⟨_,rfl,_,_,rfl,rfl,_,rfl,t.getD p 0+a,a,rfl,by lia,by lia, ?_⟩;refine⟨(by show 2<=sizeLine;decide),fun q2 H2 n2 s2 h2=>⟨(by show 1<=sizeLine;decide),fun q3 H3 n3 s3 h3=> ?_⟩⟩;have s02:=s1.trans s2;refine kk q3 H3 (s02.trans s3) (s02.free n3) (da_ h3 (ap_ ((qg_ (x:=(wmF t p (a:Int),chF (t.getD p 0+(a:Int)) a)) h2 (hu1.mono s2)).mono s3) an_))
   .obtain⟨g,rfl⟩:∃g',g=g'+1:=⟨g-1,by lia⟩;refine⟨AS _,fun fo H1 nf s1 hfo=> ?_⟩;have a3:a<=3:=by rcases k3 with z|z;lia;exact z
    have big:=nM_ (g:=g+1) (t:=t) (p:=p) (a:=a) (by lia) (by lia);have a15:(a:Int)<=15:=by lia
    refine⟨_,rfl,_,_,rfl,rfl,_,rfl,by lia,by lia, ?_⟩;rw [show((a:Int)+1).toNat=a+1 by lia];refine a9_ (lo:=0) (n:=a+1) (fun h σ H2=>(∃v5 v6 v7 v8,σ=[some v,some (.int p),some (.int ((p:Int)+((g+1:Nat):Int))),some (.int a),some (.ref fo),v5,v6,v7,v8])/\al_ H H2/\∃vs,H2 fo=some (.lst vs)/\Iss H2 (((List.range h).flatMap fun h:Nat=>(pbF g (wmF t p (h:Int)) (p+1) (a-h)).map fun x=>(x.1,chF (t.getD p 0+(h:Int)) h*x.2)).map prD) vs) ⟨⟨none,none,none,none,rfl⟩,s1,[],hfo,an_⟩ ?_ ?_
    .rintro h σ H2 hh ⟨⟨v5,v6,v7,v8,rfl⟩,s2,vs2,hf2,hi2⟩;rw [Int.zero_add];have hb:∀j,j<=(pbF g (wmF t p (h:Int)) (p+1) (a-h)).length->((List.range h).flatMap fun h:Nat=>(pbF g (wmF t p (h:Int)) (p+1) (a-h)).map fun x=>(x.1,chF (t.getD p 0+(h:Int)) h*x.2)).length+j<=1048576:=fun j hj=>by
      have:=e0_ (fun h:Nat=>(pbF g (wmF t p (h:Int)) (p+1) (a-h)).map fun x=>(x.1,chF (t.getD p 0+(h:Int)) h*x.2)) hh;rw [A1] at this;unfold pbF at big;lia
     rw [aO_];generalize ((List.range h).flatMap fun h:Nat=>(pbF g (wmF t p (h:Int)) (p+1) (a-h)).map fun x=>(x.1,chF (t.getD p 0+(h:Int)) h*x.2))=pr at hi2 hb⊢;obtain⟨c1,c2,_⟩:=qG_ (n:=t.getD p 0+(h:Int)) (k:=h) (by lia) (by lia);refine⟨_,rfl,_,rfl,t.map .i,(p:Int),_,hv.mono s2,rfl,at_p s2 (hv.mono s2),fun u hu=> ?_⟩;rw [dV_ hu];refine⟨_,rfl,_,_,rfl,rfl,_,rfl,t.getD p 0+(h:Int),h,rfl,by lia,by lia, ?_⟩;refine⟨_,rfl,_,rfl,_,rfl,v,t,p,(h:Int),rfl,hv.mono s2,by lia,kl,fun u3 H3 s3 hu3=> ?_⟩;refine⟨_,rfl,_,_,rfl,rfl,_,rfl,_,rfl,_,rfl,_,_,rfl,rfl,u3,wmF t p (h:Int),p+1,g,a-h, ?_,hu3,by lia,by lia,by rw [hs_];lia,⟨by rw [hs_];exact kl,fun i=> ?_,fun i hi1 hi2=> ?_, .inr (by lia)⟩,fun rl H4 s4 nrl hrl=> ?_⟩
     .have e1:((p:Int)+1)=((p+1:Nat):Int):=by lia
      have e2:(p:Int)+((g+1:Nat):Int)=((p+1:Nat):Int)+(g:Int):=by lia
      have e3:(a:Int)-(h:Int)=((a-h:Nat):Int):=by lia
      show [u3,V.int ((p:Int)+1),V.int ((p:Int)+((g+1:Nat):Int)),V.int ((a:Int)-(h:Int))]=_;rw [e1,e2,e3]
     .rw [nj_ (by lia)];have:=kn i;split<;>lia
     .rw [nj_ (by lia),A6 (by lia)];have:=ks i (by lia) (by lia);lia
     obtain⟨_,rvs,e,hrl4,hri⟩:=b9_ hrl;cases e;generalize pbF g (wmF t p (h:Int)) (p+1) (a-h)=O at hri hb⊢;have rlen:rvs.length=O.length:=by rw [hri.length,A1]
     have s24:=s3.trans s4;have hf4:=s24 _ _ hf2;have rlfo:rl≠fo:=by rintro rfl;rw [s3 _ _ hf2] at nrl;cases nrl
     refine⟨rl,rfl,⟨_,SqL.of hrl4⟩,bj_ (xs:=rvs) (fun j σ H5=>(∃v7 v8,σ=[some v,some (.int p),some (.int ((p:Int)+((g+1:Nat):Int))),some (.int a),some (.ref fo),some (.int h),some (.int (chF (t.getD p 0+(h:Int)) h)),v7,v8])/\al_ H H5/\H5 rl=some (.lst rvs)/\cA_ H4 H5/\∃vs,H5 fo=some (.lst vs)/\Iss H5 ((pr++(O.take j).map fun x=>(x.1,chF (t.getD p 0+(h:Int)) h*x.2)).map prD) vs) ⟨⟨_,_,rfl⟩,s2.trans s24,hrl4,cA_.of_same (al_.refl H4),vs2,hf4,by simpa using hi2.mono s24⟩ (fun j σ H5 _ h=>SqL.of h.2.2.1) ?_ ?_⟩
     .rintro j y σ H5 hj ⟨⟨v7,v8,rfl⟩,s5,hrl5,t5,vs5,hf5,hi5⟩;obtain⟨dd,hdd,hy⟩:=hri.of_get hj;rw [A5] at hdd;obtain⟨x,hx',rfl⟩:=A3.mp hdd;have hjl:j<O.length:=(A'.mp hx').1;obtain⟨q,u6,rfl,hq,hu6⟩:=pZ_ (jM_ t5 hy);have vl:=hi5.length;rw [A1,AH,A1,AW] at vl;have hbj:=hb (j+1) (by lia);refine⟨q,_,rfl,SqT.of hq,rfl,_,_,rfl,_,_,rfl,rfl, ?_⟩;refine⟨_,rfl, .inl ⟨rfl,_,SqL.of hf5⟩,_,rfl,_,rfl,_,rfl,_,_,rfl,rfl, .inl ⟨by lia,by lia⟩,(by show 2<=sizeLine;decide),fun q6 H6 n6 s6 h6=> ?_⟩;refine⟨fo,vs5,_,rfl,rfl,s6 _ _ hf5,qa_ (by lia),⟨_,_,rfl⟩,(s5.trans s6).put nf,by rw [ar_ rlfo];exact s6 _ _ hrl5,(t5.trans (cA_.of_same s6)).trans (cA_.upd (s6 _ _ hf5)),_,ad_, ?_⟩;have ez:(pr++(O.take (j+1)).map fun x=>(x.1,chF (t.getD p 0+(h:Int)) h*x.2))=(pr++(O.take j).map fun x=>(x.1,chF (t.getD p 0+(h:Int)) h*x.2))++[(x.1,chF (t.getD p 0+(h:Int)) h*x.2)]:=by
       rw [AF,hx',Option.toList_some,AD,BC];rfl
      rw [ez,AD];refine(lO_ ((cA_.of_same s6).trans (cA_.upd (s6 _ _ hf5))) hi5).append ?_;exact ap_ (jM_ (cA_.upd (s6 _ _ hf5)) (qg_ (x:=(x.1,chF (t.getD p 0+(h:Int)) h*x.2)) h6 (hu6.mono s6))) an_
     .rintro σ H5 ⟨⟨v7,v8,rfl⟩,s5,hrl5,t5,vs5,hf5,hi5⟩;rw [rlen,AR] at hi5;exact⟨⟨_,_,_,_,rfl⟩,s5,vs5,hf5,hi5⟩
    .rintro σ H2 ⟨⟨v5,v6,v7,v8,rfl⟩,s2,vs2,hf2,hi2⟩;exact⟨_,rfl,kk fo H2 s2 nf (da_ hf2 hi2)⟩
theorem bZ_:FnOk P w K mg base CX0 9 T.f27 T.d27 ["d","marks"] (tj_ K):=by
 refine T.X27.F.ok aw_ (fun vs H Q E h=> ?_) (fun cdv A outer s H vs Q E hr h=> ?_)
 .obtain⟨_,_,_,rfl,_⟩:=h;rfl
 .obtain⟨d,v,mk,rfl,d1,d5,hv,⟨mok,mlen,mcap,m3,mfew⟩,kk⟩:=h;refine⟨_,(ac_ (am_ (i:=2) aw_.nd rfl (by trivial) (nI_ (jc_ hr) (e3_ fO_ (by rfl) T.n_tuple boot_tuple (aa_ (ak_ gA_ (aQ_ (aa_ ae_ ab_)) (pv 0)) ab_)) ae_))
   (ac_ (aE_ AN rfl (aD_ (nH_ (se_ hr) hr.hd (by rfl) T.n_sorted (by rfl) T.n_set (aa_ (pv 1) ab_))) (ai_ (i:=3) aw_.nd rfl (by trivial)) (ac_ (am_ (i:=4) aw_.nd rfl (by trivial) jP_)
   (ac_ (aE_ AN rfl (pP_ (pv 2)) (ai_ (i:=5) aw_.nd rfl (by trivial)) (ag_ (aE_ AN rfl (aD_ (ah_ (c6_ T 6) (hr.mono (by decide)) (by rfl) T.X26.m T.X26.F.kp T.X26.B .nil aq_ (aa_ (pv 5) (aa_ (ak_ aT_ (aM_ aR_ (pv 3) ae_ (fun _ _=>rfl)) ae_) (aa_ (ak_ aT_ (aM_ aR_ (pv 3) ae_ (fun _ _=>rfl)) ae_) (aa_ (e4_ Ao PySem.F.slot_list_count PySem.F.type_list_count (mb_ hr) (pv 1) (aa_ (pv 3) ab_)) ab_)))))) (ce_ rfl (as_ (ai_ (i:=6) aw_.nd rfl (by trivial)) (as_ (ai_ (i:=7) aw_.nd rfl (by trivial)) bl_))) (ag_ (lM_ (jc_ hr) (pv 4) (pv 6) (ak_ ay_ (nK_ (jc_ hr) (pv 4) (pv 6) ae_ ⟨rfl,rfl,rfl,rfl⟩) (ak_ bE_ (lU_ (jc_ hr) (pv 2) (pv 5) (fun _ _=>rfl)) (pv 7))) rfl)))))
   (ag_ (am_ (i:=2) aw_.nd rfl (by trivial) (pv 4))))))
   (ag_ (ao_ (pR_ rfl (by rfl) T.n_sum (pv 2)))))), ?_⟩
  obtain⟨wa,wvs,rfl,hwa,hwi⟩:=b9_ hv;have wlen:wvs.length=mk.length:=by rw [hwi.length,A1]
  refine fun kd nkd=> ?_;have s0:al_ H (upd H kd (.dT [])):=al_.new nkd;have hkd0:upd H kd (.dT []) kd=some (.dT []):=ad_;generalize upd H kd (.dT [])=H0 at s0 hkd0⊢;refine⟨(by show 1<=sizeLine;decide),fun l1 H1 n1 s1 h1=> ?_⟩;refine⟨_,rfl, .i 0,d,da_ h1 (ap_ n5_ an_),rfl,by lia,by lia,Ag (aj_ (by lia)),fun l2 H2 n2 s2 h2=> ?_⟩;refine⟨.ref l2,_,rfl,h2,fun t3 H3 n3 s3 h3=> ?_⟩;have s03:=(s1.trans s2).trans s3;have hkd3:=s03 _ _ hkd0;rw [AV] at h3;have ht3:H3 t3=some (.tup ((er_ (List.replicate d 0)).map kV)):=by
   rw [<-Bx] at h3;obtain⟨a,e,ha⟩:=hR_ (xs:=List.replicate d 0) h3;cases e;rw [fk_];exact ha
  refine⟨hkd3,er_ (List.replicate d 0),t3,rfl,ht3, ?_⟩;have e0:hG_ ([]:List (List Key×V)) (er_ (List.replicate d 0)) (.int 1)=df_ [(List.replicate d 0,1)]:=gj_ [] _ _;rw [e0];have sH:al_ H (upd H3 kd (.dT (df_ [(List.replicate d 0,1)]))):=(s0.trans s03).put nkd;have hkd:upd H3 kd (.dT (df_ [(List.replicate d 0,1)])) kd=some (.dT (df_ [(List.replicate d 0,1)])):=ad_;generalize upd H3 kd (.dT (df_ [(List.replicate d 0,1)]))=H4 at sH hkd⊢;clear h1 h2 h3 ht3 hkd3 s03 s1 s2 s3 n1 n2 n3 hkd0 s0 e0 H0 H1 H2 H3;have tab0:TabP (KC d (io_ mk [])) [(List.replicate d 0,(1:Int))]:=by
   refine⟨by simp,fun x hx=> ?_⟩;rw [Ax.mp hx];refine⟨by simp,fun i=> ?_⟩;rw [AE,List.getElem?_replicate];split<;>simp [io_]
  refine⟨_,rfl, .ref wa,mk.map fC_,3,rfl,by rw [<-j2_];exact hv.mono sH,by decide,nz_,⟨(hq_ mk).map fC_,by rw [A1];lia,fun xs hx=>by
   obtain⟨m,hm,rfl⟩:=AY.mp hx;exact Ct (cP_.mpr hm)⟩,fun yss l0 H5 nd mem so nl0 s5 hq=> ?_⟩
  have ey:=pz_ nd mem so;subst ey;rw [<-j2_] at hq;clear nd mem so;have hhm:eA_ [(List.replicate d 0,(1:Int))] (TF (fun m=>mk.count m) (hq_ mk))=hmF d mk:=by
   simp [eA_,hmF]
  have hS:∀m∈hq_ mk,m∈mk:=fun m hm=>cP_.mp hm;have hSn:=py_ mk;generalize hcn:(fun m=>mk.count m)=cnt at hhm;generalize hmF d mk=tot at hhm kk;generalize hq_ mk=S at hq hhm hS hSn;obtain⟨_,lvs,e,hl0,hli⟩:=b9_ hq;cases e;have llen:lvs.length=S.length:=by rw [hli.length,A1]
  refine⟨l0,rfl,⟨_,SqL.of hl0⟩,bj_ (xs:=lvs) (fun i σ H6=>(∃kd D,(∃v3 v4 v5 v6 v7,σ=[some (.int d),some (.ref wa),some (.ref kd),v3,v4,v5,v6,v7])/\H6 kd=some (.dT (df_ D))/\TabP (KC d (io_ mk (S.take i))) D/\eA_ D (TF cnt (S.drop i))=tot/\H kd=none)/\al_ H H6/\H6 l0=some (.lst lvs)/\cA_ H5 H6) ⟨⟨kd,_,⟨none,none,none,none,none,rfl⟩,s5 _ _ hkd,tab0,hhm,nkd⟩,sH.trans s5,hl0,cA_.of_same (al_.refl H5)⟩ (fun i σ H6 _ h=>SqL.of h.2.2.1) ?_ ?_⟩
  .rintro i y σ H6 hi ⟨⟨kd,D,⟨v3,v4,v5,v6,v7,rfl⟩,hkd6,tab,hsum,nkd⟩,s6,hl6,t6⟩;obtain⟨dd,hdd,hy⟩:=hli.of_get hi;rw [A5] at hdd;obtain⟨x,hx',rfl⟩:=A3.mp hdd;have hil:i<S.length:=(A'.mp hx').1;have exi:S[i]=x:=(A'.mp hx').2;obtain⟨ya,rfl,hya⟩:=gJ_ hy;obtain⟨o1,o2,o3⟩:=mok x (hS x (AL hx'));have hS1:S.take (i+1)=S.take i++[x]:=by rw [AF,hx'];rfl
   have cle2:∀q,io_ mk (S.take (i+1)) q<=(k7_ d:Nat):=sz_ (hSn.sublist (List.take_sublist _ _)) mcap;have cle:∀q,io_ mk (S.take (i+1)) q<=26:=fun q=>by have:=cle2 q;have:=qJ_ d;lia
   have cx:cnt x=mk.count x:=by rw [<-hcn]
   have ccle:∀q,io_ mk (S.take i) q<=io_ mk (S.take (i+1)) q:=fun q=>by rw [hS1,kt_];lia
   rw [BZ hil,exi,ps_] at hsum;obtain⟨p,hp⟩:∃p:Nat,x.1-1=(p:Int):=⟨(x.1-1).toNat,by lia⟩;obtain⟨g,hg⟩:∃g:Nat,x.2.1-x.1-1=(g:Int):=⟨(x.2.1-x.1-1).toNat,by lia⟩;rw [hp,hg,AV,AV] at hsum;have ccov:∀q:Nat,p<=q->q<=p+g->io_ mk (S.take i) q+((cnt x:Nat):Int)<=io_ mk (S.take (i+1)) q:=fun q a b=>by
    have cv:cov q x=true:=by unfold cov;rw [A9,Ab,Ab];lia
    rw [hS1,kt_,qI_ cv,cx];exact Int.le_refl _
   have a3:g=0\/cnt x<=3:=by
    by_cases h0:g=0
    .exact .inl h0
    .refine .inr ?_;rw [cx];exact m3 x (hS x (AL hx')) (by lia)
   have rok:qR_ p (KC d (io_ mk (S.take i))) (KC d (io_ mk (S.take (i+1)))) (spR g (cnt x)):=fun r hr t ht=>by
    obtain⟨e1,e2⟩:=iK_ hr;exact ht.add (by lia) ccle fun q a b=>by rw [e2];exact ccov q a (by lia)
   obtain⟨tab',sum'⟩:=pw_ rok (TF cnt (S.drop (i+1))) tab.key (acc:=[]) TabP.nil;refine fun f nf=> ?_;have s7:al_ H6 (upd H6 f (.dT [])):=al_.new nf;have hf7:upd H6 f (.dT []) f=some (.dT (df_ [])):=ad_;have nfH:H f=none:=s6.free nf;have fkd:f≠kd:=by rintro rfl;rw [hkd6] at nf;cases nf
   generalize upd H6 f (.dT [])=H7 at s7 hf7⊢;refine⟨_,rfl,kd,df_ D,rfl, .inl (s7 _ _ hkd6),fun o H8 hk8 same8=> ?_⟩;have l8:LTS H7 H8:=LTS.rd (.inl (s7 _ _ hkd6)) same8;have s8:al_ H H8:=fun b u e=>by rw [same8 b (by rintro rfl;rw [nkd] at e;cases e)];exact s7 _ _ (s6 _ _ e)
   refine og_ (fun j σ H9=>(∃v5 v6 v7,σ=[some (.int d),some (.ref wa),some (.ref kd),some (.ref ya),some (.ref f),v5,v6,v7])/\al_ H H9/\H9 kd=some (.frz o (.dT (df_ D)))/\H9 l0=some (.lst lvs)/\cA_ H5 H9/\H9 f=some (.dT (df_ (stP p (spR g (cnt x)) (D.take j) [])))) ⟨⟨_,_,_,rfl⟩,s8,hk8,l8.1 _ _ (s7 _ _ hl6),(t6.trans (cA_.of_same s7)).trans l8.2,by rw [same8 f fkd];exact hf7⟩ (fun j σ H9 _ h=>h.2.2.1) ?_ ?_
   .rintro j k c b σ H9 hj ⟨⟨v5,v6,v7,rfl⟩,s9,hk9,hl9,t9,hf9⟩ hb;unfold df_ at hj;rw [A5] at hj;obtain⟨⟨t,cv⟩,hD,ekc⟩:=A3.mp hj;simp only [Bg] at ekc;obtain⟨rfl,rfl⟩:=ekc;rw [fk_] at hb;have hDm:(t,cv)∈D:=AL hD;have kt:KC d (io_ mk (S.take i)) t:=tab.key _ hDm;have k1:t.length=d:=kt.1;have k3:∀i:Nat,0<=t.getD i 0:=fun i=>(kt.2 i).1;have k26:∀i:Nat,p<=i->i<=p+g->t.getD i 0+((cnt x:Nat):Int)<=26:=fun q a b=>by
     have:=(kt.2 q).2;have:=ccov q a b;have:=cle q;lia
    have hx9:Is H9 (lf x) (.ref ya):=g9_ (t9 _ _ hya);have hw9:=hwi.mono s9;rw [jg_ hD];have tabac:=(pw_ rok (fun _=>0) (xs:=D.take j) (fun y hy=>tab.key y (Co hy)) (acc:=[]) TabP.nil).1;generalize stP p (spR g (cnt x)) (D.take j) []=ac at hf9 tabac⊢;refine⟨_,rfl,_,rfl,_,0,_,hx9,rfl,rfl,fun u1 hu1=> ?_⟩;rw [dV_ hu1];refine⟨_,_,rfl,rfl,_,rfl,_,1,_,hx9,rfl,rfl,fun u2 hu2=> ?_⟩;rw [dV_ hu2];refine⟨_,_,rfl,rfl,_,rfl, .inl ⟨rfl,_,SqL.of (s9 _ _ hwa)⟩,_,rfl,wa,wvs, .ref ya,1,_,rfl,rfl,SqL.of (s9 _ _ hwa),pp_ hw9 hx9, ?_⟩;rw [wlen,on_];refine⟨.ref b,t,p,g,cnt x, ?_,jb_ hb,by lia,by decide,by lia,⟨by lia,k3,k26,a3⟩,fun rl H10 s10 nrl hrl=> ?_⟩
    .show [V.ref b,V.int (x.1-1),V.int (x.2.1-2),V.int (mk.count x:Nat)]=_;rw [hp,show x.2.1-2=(p:Int)+(g:Int) by lia,<-hcn]
    rw [rO_ (by lia),Bh] at hrl;obtain⟨_,rvs,e,hrl10,hri⟩:=b9_ hrl;cases e;have hrs:∀r∈spR g (cnt x),r.length=g+1/\r.sum=cnt x:=fun r hr=>iK_ hr;generalize spR g (cnt x)=rs at hri rok hrs⊢;have rlen:rvs.length=rs.length:=by rw [hri.length,A1]
    have hk10:=s10 _ _ hk9;have hf10:=s10 _ _ hf9;have rlf:rl≠f:=by rintro rfl;rw [hf9] at nrl;cases nrl
    have l0f:l0≠f:=by rintro rfl;rw [hl9] at hf9;cases hf9
    refine⟨rl,rfl,⟨_,SqL.of hrl10⟩,bj_ (xs:=rvs) (fun m σ H11=>(∃v6 v7,σ=[some (.int d),some (.ref wa),some (.ref kd),some (.ref ya),some (.ref f),some (.ref b),v6,v7])/\al_ H H11/\H11 kd=some (.frz o (.dT (df_ D)))/\H11 l0=some (.lst lvs)/\cA_ H10 H11/\H11 rl=some (.lst rvs)/\H11 f=some (.dT (df_ (inP t cv p (rs.take m) ac)))) ⟨⟨_,_,rfl⟩,s9.trans s10,hk10,s10 _ _ hl9,cA_.of_same (al_.refl H10),hrl10,hf10⟩ (fun m σ H11 _ h=>SqL.of h.2.2.2.2.2.1) ?_ ?_⟩
    .rintro m z σ H11 hm ⟨⟨v6,v7,rfl⟩,s11,hk11,hl11,t11,hrl11,hf11⟩;obtain⟨dd,hdd,hz⟩:=hri.of_get hm;rw [A5] at hdd;obtain⟨r,hr',rfl⟩:=A3.mp hdd;obtain⟨q,u6,rfl,hq,hu6⟩:=pZ_ (jM_ t11 hz);obtain⟨ua,rfl,hua⟩:=hR_ hu6;obtain⟨r1,r2⟩:=hrs r (AL hr');have hua':H11 ua=some (.tup ((er_ (jr_ t p r)).map kV)):=by rw [fk_];exact hua
     have hb11:H11 b=some (.tup ((er_ t).map kV)):=by rw [fk_];exact t11 _ _ (s10 _ _ hb)
     have tabm:=(ql_ (v:=cv) kt (fun _=>0) (rs:=rs.take m) (fun r hr=>rok r (Co hr)) tabac).1;refine⟨q,_,rfl,SqT.of hq,rfl,_,_,rfl,_,_,rfl,rfl, ?_⟩;refine⟨_,rfl,f,rfl, .inr ⟨_, .inl hf11⟩,_,rfl,_,k4_.t hf11 hua', ?_⟩;rw [np_];refine⟨_,rfl,_,rfl,kd, .int cv,rfl, .inr ⟨df_ D,er_ t,b, .inr ⟨o,hk11⟩,rfl,hb11,(pt_ tab.nd hDm).symm⟩,_,rfl,_,_,rfl,rfl, .inr (rD_ k3 ⟨r1,r2⟩ k26 (by lia) a3),_,_,rfl,rfl,_,rfl,_,rfl,f,_,rfl,q0_.t hf11 hua' ?_, ?_⟩
     .rw [gk_];exact qa_ (tabm.size d5 cle2)
     .rw [show inP t cv p (rs.take (m+1)) ac=qZ_ (inP t cv p (rs.take m) ac) (jr_ t p r) (cv*fW_ t p r) from ig_ _ _ rs m r hr'];rw [gj_];exact⟨⟨_,_,rfl⟩,s11.put nfH,by rw [ar_ fkd.symm];exact hk11,by rw [ar_ l0f];exact hl11,t11.trans (no_ hf11),by rw [ar_ rlf];exact hrl11,ad_⟩
    .rintro σ H11 ⟨⟨v6,v7,rfl⟩,s11,hk11,hl11,t11,hrl11,hf11⟩;rw [rlen,AR] at hf11;exact⟨⟨_,_,_,rfl⟩,s11,hk11,hl11,(t9.trans (cA_.of_same s10)).trans t11,hf11⟩
   .rintro σ H9 ⟨⟨v5,v6,v7,rfl⟩,s9,hk9,hl9,t9,hf9⟩;rw [gk_,AR] at hf9;refine⟨_,rfl,⟨f,_,⟨_,_,_,_,_,rfl⟩,hf9,tab', ?_,nfH⟩,s9,hl9,t9⟩;rw [sum',hsum];simp [eA_]
  .rintro σ H6 ⟨⟨kd,D,⟨v3,v4,v5,v6,v7,rfl⟩,hkd6,tab,hsum,nkd⟩,s6,hl6,t6⟩;refine⟨_,rfl,kd,df_ D,D.map (·.2),rfl, .inl hkd6,ll_ D, ?_⟩;rw [llen,List.drop_length] at hsum;have:(D.map (·.2)).sum=tot:=by rw [<-nr_,<-hsum];rfl
   rw [this];exact kk H6 s6
theorem i3_:FnOk P w K mg base CX0 10 T.f28 T.d28 ["d","drawing"] (up_ K):=by
 refine T.X28.F.ok iR_ (fun vs H Q E h=> ?_) (fun cdv A outer s H vs Q E hr h=> ?_)
 .obtain⟨_,_,_,rfl,_⟩:=h;rfl
 .obtain⟨d,dv,ps,rfl,d1,d5,hd,hs,hmw,kk⟩:=h;refine⟨_,(ac_ (aF_ (ah_ (gE_ T) (hr.mono (by decide)) (by rfl) T.X24.m T.X24.F.kp T.X24.B .nil aq_ (aa_ (pv 0) (aa_ (pv 1) ab_))))
   (ag_ (ao_ (ah_ (bZ_ T) (hr.mono (by decide)) (by rfl) T.X27.m T.X27.F.kp T.X27.B .nil aq_ (aa_ (pv 0) (aa_ (ak_ gB_ (pv 1) (ah_ (hP_ T) (hr.mono (by decide)) (by rfl) T.X25.m T.X25.F.kp T.X25.B .nil aq_ (aa_ (pv 0) (aa_ (pv 1) ab_)))) ab_)))))), ?_⟩
  obtain⟨pl,p10,_⟩:=hs.good.len d1 d5;have em:(fL_ d (bG_ d ps)).length=d:=mT_ hs.okl hs.nn;refine⟨_,rfl,_,rfl,d,dv,ps,rfl,d1,d5,hd,hs,fun H1 s1=> ?_⟩;refine⟨_,rfl,_,rfl,_,rfl,_,rfl,d,dv,ps,rfl,d1,d5,hd.mono s1,hs,by lia,fun l2 H2 s2 n2 h2=> ?_⟩;refine⟨_,_,(hd.mono s1).mono s2,h2,Ag (aj_ (by rw [A1,A1];lia)),fun l3 H3 n3 s3 h3=> ?_⟩;rw [<-AD] at h3;refine⟨d, .ref l3,_,rfl,d1,d5,h3,hmw,fun H4 s4=>kk H4 (((s1.trans s2).trans s3).trans s4)⟩
theorem jS_:FnOk P w K mg base CX0 1 T.f22 T.d22 ["drawing"] (pA_ K):=by
 refine T.X22.F.ok eC_ (fun vs H Q E h=> ?_) (fun cdv A outer s H vs Q E hr h=> ?_)
 .obtain⟨_,_,_,rfl,_⟩:=h;rfl
 .obtain⟨dv,ps,d,rfl,hd,hok,kk⟩:=h;refine⟨_,(ac_ (am_ (i:=1) eC_.nd rfl (by trivial) ae_)
   (ac_ (aE_ AN rfl (aD_ (pv 0)) (ai_ (i:=2) eC_.nd rfl (by trivial)) (ag_ (jL_ (i:=1) eC_.nd rfl (by trivial) (ak_ oS_ (aM_ aR_ (pv 2) ae_ (fun _ _=>rfl)) ae_) qh_)))
   (ag_ (ao_ (pv 1))))), ?_⟩
  obtain⟨da,dvs,rfl,hda,hdi⟩:=b9_ hd;have dlen:dvs.length=ps.length:=by rw [hdi.length,A1]
  refine⟨_,rfl,da,rfl,⟨_,SqL.of hda⟩,bj_ (xs:=dvs) (fun i σ H2=>(∃v2,σ=[some (.ref da),some (.int (ca_ (ps.take i))),v2])/\H2=H) ⟨⟨none,rfl⟩,rfl⟩ (fun i σ H2 _ h=>by rw [h.2];exact SqL.of hda) ?_ ?_⟩
  .rintro i x σ H2 hi ⟨⟨v2,rfl⟩,rfl⟩;obtain⟨dd,hdd,hy⟩:=hdi.of_get hi;rw [A5] at hdd;obtain⟨p,hp',rfl⟩:=A3.mp hdd;obtain⟨_,w1,w2⟩:=hok p (AL hp');have b1:p.2.2.natAbs<2^64:=by lia
   have b2:p.2.2^(2:Int).toNat<2^64:=by
    show p.2.2^2<2^64;have:p.2.2*p.2.2<=2^20*2^20:=Int.mul_le_mul w2 w2 (by lia) (by decide);rw [Cb,Cb,Int.pow_zero,Int.one_mul];lia
   have b3: -(2^64)<p.2.2^(2:Int).toNat:=by
    show _<p.2.2^2;have h0:0<=p.2.2*p.2.2:=Int.mul_nonneg (by lia) (by lia);have h1:p.2.2^2=p.2.2*p.2.2:=by rw [Cb,Cb,Int.pow_zero,Int.one_mul]
    rw [h1];lia
   refine⟨_,rfl,_,rfl,_,2,_,hy,rfl,rfl,fun u hu=> ?_⟩;rw [dV_ hu];refine⟨_,_,rfl,rfl,⟨by decide,by decide,b1⟩,_,_,rfl,rfl, .inr ⟨b3,b2⟩,⟨some x, ?_⟩,rfl⟩;rw [AF,hp'];unfold ca_;rw [Ca];rfl
  .rintro σ H2 ⟨⟨v2,rfl⟩,rfl⟩;rw [dlen,AR];exact⟨_,rfl,kk⟩
theorem dH_:FnOk P w K mg base CX0 12 T.f29 T.d29 ["d","k"] (tn_ tO_):=by
 refine T.X29.F.ok dx_ (fun vs H Q E h=> ?_) (fun cdv A outer s H vs Q E hr h=> ?_)
 .obtain⟨_,_,rfl,_⟩:=h;rfl
 .obtain⟨d,k,rfl,hW,k3,kk⟩:=h;refine⟨_,(ac_ (aF_ (ah_ (eo_ T) (hr.mono (by decide)) (by rfl) T.X2.m T.X2.F.kp T.X2.B .nil aq_ (aa_ (pv 0) (aa_ (pv 1) ab_))))
   (ag_ (ao_ (ax_ (eK_ rfl) (by rfl) T.n_sum boot_sum (aa_ (bi_ (XN:=["d","k"]) (sc:=af_ bd_) (N:=["drawing","d"]) (own:=1) (js:=[0]) rfl (by ac_nf) rfl rfl (aD_ (ah_ (i4_ T) (hr.mono (by decide)) (by rfl) T.X21.m T.X21.F.kp T.X21.B .nil aq_ (aa_ (pv 0) (aa_ (pv 1) ab_)))) (fun _ _ _ _=>(ai_ (i:=0) (show List.Nodup (["drawing","d"]:List Str) by ac_nf) rfl (Or.inl rfl) (.inr rfl))) (aI_ (by decide)) (fun _ _ _ _=>be_) (fun _ _ _ _=>(ak_ bE_ (ah_ (jS_ T) (hr.mono (by decide)) (by rfl) T.X22.m T.X22.F.kp T.X22.B .nil aq_ (aa_ (pv 0) ab_)) (ah_ (i3_ T) (hr.mono (by decide)) (by rfl) T.X28.m T.X28.F.kp T.X28.B .nil aq_ (aa_ (pv 1) (aa_ (pv 0) ab_)))))) ab_))))), ?_⟩
  obtain⟨_,_,_,g4,g5⟩:=qB_ hW;have d15:1<=d/\d<=5:=by unfold Wide at hW;lia
  refine⟨_,rfl,_,rfl,d,k,rfl,hW, ?_⟩;refine⟨_,rfl,_,rfl,d,k,rfl,hW,fun l H1 s1 nl hl=> ?_⟩;have hl:=hl.mono a8_;obtain⟨_,lvs,e,hl1,hli⟩:=b9_ hl;cases e;have llen:lvs.length=(sD d k).length:=by rw [hli.length,A1]
  refine⟨l,rfl,⟨_,SqL.of hl1⟩,fun acc na=> ?_⟩;refine aW_ (xs:=lvs) (own:=1) (js:=[0]) (fun i H3=>al_ H1 H3/\H3 acc=some (.lst ((((sD d k).take i).map (t5_ d)).map V.int))) ⟨al_.new na,ad_⟩ (fun i H3 _ h=>SqL.of (h.1 _ _ hl1)) ?_ ?_ aJ_ bf_ ?_
  .rintro i y H3 hi ⟨s3,hacc⟩;obtain⟨dd,hdd,hy⟩:=hli.of_get hi;rw [A5] at hdd;obtain⟨x,hx,rfl⟩:=A3.mp hdd;have il:i<(sD d k).length:=(A'.mp hx).1;obtain⟨o1,o2,o3,o4,o5,_⟩:=l4_ (g4 x (AL hx));have hy3:=hy.mono s3;refine k9_ ?_;refine⟨_,rfl,y,x,d,rfl,hy3,(fun p hp=>⟨trivial,(o2 p hp).2⟩),_,rfl,_,rfl,d,y,x,rfl,d15.1,d15.2,hy3,o1,oU_ d15.2 (fun z=>cP_) (uD_ d15.1 d15.2 k3 (rB_ (qB_ hW) (AL hx))),fun H4 s4=> ?_⟩;refine⟨_,_,rfl,rfl, .inl ⟨by lia,by lia⟩,acc,_,_,rfl,rfl,s4 _ _ hacc,aj_ (by rw [A1,A1,AW];lia),(s3.trans s4).put na, ?_⟩;rw [ad_,AF,hx,AD,AD];rfl
  .rintro H3 ⟨s3,hacc⟩;rw [llen,AR] at hacc;exact⟨acc,_,rfl,SqL.of hacc,kk H3 (s1.trans s3)⟩
  .rintro σ H R R' k' ⟨v1,e1,dv,ps,d',e2,i1,o1,v2,e3,v3,e4,n,dv2,ps2,e5,a1,a2,i2,sn,mw,kk2⟩;exact⟨v1,e1,dv,ps,d',e2,i1,o1,v2,e3,v3,e4,n,dv2,ps2,e5,a1,a2,i2,sn,mw,fun H' s'=>let ⟨i,j,x1,x2,x3,x4⟩:=kk2 H' s';⟨i,j,x1,x2,x3,k' _ _ x4⟩⟩
theorem cf_:FnOk P w K mg base CX0 1 T.f30 T.d30 ["template"] (tg_ K):=by
 refine T.X30.F.ok lB_ (fun vs H Q E h=> ?_) (fun cdv A outer s H vs Q E hr h=> ?_)
 .obtain⟨_,_,rfl,_⟩:=h;rfl
 .obtain⟨v,ps,rfl,hv,hne,hl,kk⟩:=h;refine⟨_,(ag_ (ao_ (ax_ (ip_ rfl) (by rfl) T.n_max boot_max (aa_ (bi_ (XN:=["template"]) (sc:=af_ eD_) (N:=["lift"]) (own:=1) (js:=[]) rfl (by ac_nf) rfl rfl (aD_ (pv 0)) (fun _ _ _ _=>(ai_ (i:=0) (show List.Nodup (["lift"]:List Str) by ac_nf) rfl (Or.inl rfl) (.inr rfl))) (aI_ (by decide)) (fun _ _ _ _=>be_) (fun _ _ _ _=>(aM_ aR_ (pv 0) ae_ (fun _ _=>rfl)))) ab_)))), ?_⟩;obtain⟨da,dvs,rfl,hda,hdi⟩:=b9_ hv;have dlen:dvs.length=ps.length:=by rw [hdi.length,A1]
  refine⟨_,rfl,da,rfl,⟨_,SqL.of hda⟩,fun acc na=> ?_⟩;refine aW_ (xs:=dvs) (own:=1) (js:=[]) (fun j H4=>al_ H H4/\H4 acc=some (.lst (((ps.take j).map (·.2.1)).map V.int))) ⟨al_.new na,ad_⟩ (fun j H4 _ h=>SqL.of (h.1 _ _ hda)) ?_ ?_ aJ_ bf_ ?_
  .rintro j x H4 hj ⟨s4,hacc⟩;obtain⟨dd,hdd,hy⟩:=hdi.of_get hj;rw [A5] at hdd;obtain⟨p,hp',rfl⟩:=A3.mp hdd;refine k9_ ?_;refine⟨_,rfl,_,1,_,hy.mono s4,rfl,rfl,fun u hu=> ?_⟩;rw [dV_ hu];refine⟨acc,_,_,rfl,rfl,hacc,aj_ ?_,s4.put na, ?_⟩
   .rw [A1,A1,AW];lia
   .rw [ad_,AF,hp',AD,AD];rfl
  .rintro H4 ⟨s4,hacc⟩;rw [dlen,AR] at hacc;exact⟨acc,_,rfl,SqL.of hacc,by rw [A1];exact List.length_pos_iff.mpr hne,kk H4 s4⟩
  .rintro σ H R R' k ⟨v1,e1,xs,i,d,h1,e2,e3,h⟩;exact⟨v1,e1,xs,i,d,h1,e2,e3,fun u hu=>k _ _ (h u hu)⟩
theorem gF_:FnOk P w K mg base CX0 2 T.f31 T.d31 ["k"] (rn_ K):=by
 refine T.X31.F.ok bL_ (fun vs H Q E h=> ?_) (fun cdv A outer s H vs Q E hr h=> ?_)
 .obtain⟨_,rfl,_⟩:=h;rfl
 .obtain⟨k,rfl,k3,kk⟩:=h;refine⟨_,(ac_ (am_ (i:=1) bL_.nd rfl (by trivial) (aQ_ ab_))
   (ac_ (aE_ AN rfl (dD_ (by rfl) T.n_range (aa_ (ak_ ay_ (pv 0) ae_) ab_)) (ai_ (i:=2) bL_.nd rfl (by trivial)) (ag_ (aE_ AN rfl (a7_ (by rfl) T.n_range (aa_ (ak_ ay_ (pv 2) ae_) (aa_ (ak_ ay_ (pv 0) ae_) ab_))) (ai_ (i:=3) bL_.nd rfl (by trivial)) (ag_ (aF_ (e4_ Ao CJ CI dK_ (pv 1) (aa_ (bi_ (XN:=["k","found","i","j"]) (sc:=af_ bW_) (N:=["w","k","i","j"]) (own:=1) (js:=[0,2,3]) rfl (by ac_nf) rfl rfl (a7_ (by rfl) T.n_range (aa_ ae_ (aa_ (ak_ ay_ (pv 0) ae_) ab_))) (fun _ _ _ _=>(ai_ (i:=0) (show List.Nodup (["w","k","i","j"]:List Str) by ac_nf) rfl (Or.inl rfl) (.inr rfl))) (aI_ (by decide)) (fun _ _ _ _=>(dC_ (jJ_ hL_ hL_ ae_ (ah_ (do_ T) (hr.mono (by decide)) (by rfl) T.X17.m T.X17.F.kp T.X17.B .nil aq_ (aa_ (bu_ (aa_ (pv 2) (aa_ (pv 3) (aa_ (pv 0) ab_)))) ab_)) (pv 1)))) (fun _ _ _ _=>(bu_ (aa_ (pv 2) (aa_ (pv 3) (aa_ (pv 0) ab_)))))) ab_)))))))
   (ag_ (ao_ (pv 1))))), ?_⟩
  refine⟨AS _,fun fo H1 n1 s1 h1=> ?_⟩;refine⟨_,rfl,_,_,rfl,rfl,_,rfl,by lia,by lia, ?_⟩;rw [show((k:Int)+1).toNat=k+1 by lia];refine a9_ (lo:=0) (n:=k+1) (fun i σ H2=>(∃v2 v3,σ=[some (.int k),some (.ref fo),v2,v3])/\al_ H H2/\∃vs,H2 fo=some (.lst vs)/\Iss H2 ((ch_ k i).map lf) vs) ⟨⟨none,none,rfl⟩,s1,[],h1,an_⟩ ?_ ?_
  .rintro i σ H2 hi ⟨⟨v2,v3,rfl⟩,s2,vs2,hfo2,his2⟩;rw [Int.zero_add];refine⟨_,rfl,_,_,rfl,rfl,_,rfl,_,_,rfl,rfl,_,_,rfl,⟨by lia,by lia,by lia,by lia⟩, ?_⟩;rw [show((k:Int)+2-((i:Int)+1)).toNat=k+1-i by lia];refine a9_ (lo:=(i:Int)+1) (n:=k+1-i) (fun j σ H3=>(∃v3,σ=[some (.int k),some (.ref fo),some (.int i),v3])/\al_ H H3/\∃vs,H3 fo=some (.lst vs)/\Iss H3 ((ch_ k i++ff_ i k j).map lf) vs) ⟨⟨v3,rfl⟩,s2,vs2,hfo2,by simpa [ff_] using his2⟩ ?_ ?_
   .rintro j σ H3 hj ⟨⟨v3,rfl⟩,s3,vs3,hfo3,his3⟩;have vl:vs3.length<=200:=by
     rw [his3.length,A1,AH];have a:=hY_ k i;have b:=fe_ i k j;have c1:(k+1)*(k+1)<=4*4:=BS (by lia) (by lia);have c:i*((k+1)*(k+1))<=4*(4*4):=BS (by lia) c1;have d:j*(k+1)<=4*4:=BS (by lia) (by lia);lia
    refine⟨_,rfl, .inl ⟨rfl,_,SqL.of hfo3⟩,_,rfl,_,_,rfl,rfl,1,_,rfl,⟨by decide,by decide,by lia,by lia⟩,fun acc na=> ?_⟩;rw [show((k:Int)+2-1).toNat=k+1 by lia];refine cY_ (lo:=1) (n:=k+1) (own:=1) (js:=[0,2,3]) (fun m H4=>al_ H3 H4/\∃vs,H4 acc=some (.lst vs)/\Iss H4 ((hX_ (i:Int) ((i:Int)+1+(j:Int)) k m).map lf) vs) ⟨al_.new na,[],ad_,an_⟩ ?_ ?_ aJ_ ?_ ?_
    .rintro m H4 hm ⟨s4,vs4,hacc,hi4⟩;have v4:vs4.length<=10:=by
      rw [hi4.length,A1];have:=fd_ (i:Int) ((i:Int)+1+(j:Int)) k m;lia
     refine⟨_,rfl,_,rfl,_,rfl,(by show 3<=sizeLine;decide),fun t H5 nt s5 ht=>⟨.ref t,((i:Int),(i:Int)+1+(j:Int),1+(m:Int)),rfl,g9_ ht,⟨?_, ?_, ?_, ?_⟩,_,_,rfl,rfl,_,rfl,es_ (fun c1=>⟨_,rfl,_,_,rfl,rfl,_,rfl,es_ (fun c2=> ?_) (fun c2=> ?_)⟩) (fun c1=>⟨false,rfl,fm_ ?_⟩)⟩⟩
     .show 0<=(i:Int)+1+(j:Int)-(i:Int);lia
     .show(i:Int)+1+(j:Int)-(i:Int)<=10;lia
     .show 1<=1+(m:Int);lia
     .show 1+(m:Int)<=20;lia
     .refine⟨_,rfl,_,rfl,_,rfl,(by show 3<=sizeLine;decide),fun t2 H6 nt2 s6 ht2=>⟨acc,vs4,_,rfl,rfl,s6 _ _ (s5 _ _ hacc),aj_ (by lia),(s4.trans (s5.trans s6)).put na,_,ad_, ?_⟩⟩;rw [ec_,A8 ⟨c1,c2⟩];refine dN_ (cA_.upd (s6 _ _ (s5 _ _ hacc))) ?_;rw [AD];exact(hi4.mono (s5.trans s6)).append (ap_ (g9_ ht2) an_)
     .refine⟨s4.trans s5,vs4,s5 _ _ hacc, ?_⟩;rw [ec_,A6 fun z=>c2 z.2,BY];exact hi4.mono s5
     .refine⟨s4.trans s5,vs4,s5 _ _ hacc, ?_⟩;rw [ec_,A6 fun z=>c1 z.1,BY];exact hi4.mono s5
    .rintro H4 ⟨s4,vs4,hacc,hi4⟩;have v4:vs4.length<=10:=by
      rw [hi4.length,A1];have:=fd_ (i:Int) ((i:Int)+1+(j:Int)) k (k+1);lia
     refine⟨fo,acc,vs3,vs4,rfl,rfl,s4 _ _ hfo3,hacc,Ag (aj_ (by lia)),⟨_,rfl⟩,(s3.trans s4).put n1,_,ad_, ?_⟩;have ej:ff_ i k (j+1)=ff_ i k j++hX_ (i:Int) ((i:Int)+1+(j:Int)) k (k+1):=by unfold ff_;rw [aO_]
     rw [ej,<-BC];refine dN_ (cA_.upd (s4 _ _ hfo3)) ?_;rw [AD];exact(his3.mono s4).append hi4
    .rintro σ H R R' k' ⟨v1,e1,v2,e2,v3,e3,z,h⟩;refine⟨v1,e1,v2,e2,v3,e3,z,fun p H2 np s2 hp=> ?_⟩;obtain⟨v4,q,e4,h1,h2,i1,j1,e5,e6,b,e7,h⟩:=h p H2 np s2 hp;refine⟨v4,q,e4,h1,h2,i1,j1,e5,e6,b,e7, ?_⟩;cases b with
     |true=>
      obtain⟨v5,e8,i2,j2,e9,e10,b2,e11,h⟩:=h;exact⟨v5,e8,i2,j2,e9,e10,b2,e11,k' _ _ h⟩
     |false=>
      obtain⟨b2,e11,h⟩:=h;exact⟨b2,e11,k' _ _ h⟩
    .rintro σ H R R' k' ⟨v1,e1,v2,e2,v3,e3,z,h⟩;exact⟨v1,e1,v2,e2,v3,e3,z,fun p H2 np s2 hp=>k' _ _ (h p H2 np s2 hp)⟩
   .rintro σ H3 ⟨⟨v3,rfl⟩,s3,vs3,hfo3,his3⟩;refine⟨⟨_,_,rfl⟩,s3,vs3,hfo3, ?_⟩;have ei:ch_ k (i+1)=ch_ k i++ff_ i k (k+1-i):=by unfold ch_;rw [aO_]
    rw [ei];exact his3
  .rintro σ H2 ⟨⟨v2,v3,rfl⟩,s2,vs2,hfo2,his2⟩;exact⟨_,rfl,kk fo H2 s2 n1 (da_ hfo2 his2)⟩
theorem hO_:∀n:Nat,FnOk P w K mg base CX0 (n+1) T.f32 T.d32 ["lifts","k"] (td_ n K)
 |0=>⟨fun vs H Q E h=>by obtain⟨_,_,_,_,_,_,h,h',_⟩:=h;lia,fun A outer s H args us vs Q E _ _ _ _ h=>by obtain⟨_,_,_,_,_,_,h,h',_⟩:=h;lia⟩
 |n+1=>by
  have ih:=hO_ n;refine T.X32.F.ok cC_ (fun vs H Q E h=> ?_) (fun cdv A outer s H vs Q E hr h=> ?_)
  .obtain⟨_,_,_,rfl,_⟩:=h;rfl
  .obtain⟨v,ls,k,rfl,hv,hok,k0,k1,hL,hl,hn,kk⟩:=h;refine⟨_,(ac_ (b6_ (az_ ew_ (pv 1) ae_ (aC_ _)) (ag_ (ao_ (aQ_ (aa_ (aQ_ ab_) ab_)))) aP_)
   (ac_ (am_ (i:=2) cC_.nd rfl (by trivial) (aQ_ ab_))
   (ac_ (aE_ AN rfl (d4_ (by rfl) T.n_enumerate (pv 0)) (ce_ rfl (as_ (ai_ (i:=3) cC_.nd rfl (by trivial)) (as_ (ai_ (i:=4) cC_.nd rfl (by trivial)) bl_))) (ag_ (b6_ (az_ hL_ (ah_ (do_ T) (hr.mono (by lia)) (by rfl) T.X17.m T.X17.F.kp T.X17.B .nil aq_ (aa_ (pv 4) ab_)) (pv 1) (aC_ _)) (ag_ (aE_ AN rfl (aD_ (ah_ ih hr (by rfl) T.X32.m T.X32.F.kp T.X32.B .nil aq_ (aa_ (dE_ iN_ (pv 0) (e1_ (pv 3)) e2_) (aa_ (ak_ aT_ (pv 1) (ah_ (do_ T) (hr.mono (by lia)) (by rfl) T.X17.m T.X17.F.kp T.X17.B .nil aq_ (aa_ (pv 4) ab_))) ab_)))) (ai_ (i:=5) cC_.nd rfl (by trivial)) (ag_ (aF_ (e4_ Ao Bf Be bS_ (pv 2) (aa_ (ak_ gB_ (aQ_ (aa_ (pv 4) ab_)) (pv 5)) ab_)))))) aP_)))
   (ag_ (ao_ (pv 2)))))), ?_⟩
   obtain⟨da,dvs,rfl,hda,hdi⟩:=b9_ hv;have dlen:dvs.length=ls.length:=by rw [hdi.length,A1]
   rw [gT_] at hL kk;refine⟨_,rfl,rfl,_,rfl,mA_ (fun hz=> ?_) (fun hz=> ?_)⟩
   .rw [A8 hz] at kk;refine⟨AS _,fun e0 H1 ne s1 he=>⟨(by show 1<=sizeLine;decide),fun fo H2 nf s2 hfo=> ?_⟩⟩;exact kk fo H2 (s1.trans s2) (s1.free nf) (da_ (by rw [cg_ (s1.free nf)];exact hfo) (ap_ (da_ (vs:=[]) (by rw [cg_ ne];exact s2 _ _ he) an_) an_))
   rw [A6 hz] at hL kk;refine⟨AS _,fun fo H2 nfH s02 hfo=> ?_⟩;have tot:∀i:Nat,i<ls.length->((List.range i).flatMap (kN_ n ls k)).length+(kN_ n ls k i).length<=1000:=fun i hi=>by
    have:=e0_ (kN_ n ls k) hi;lia
   refine⟨_,rfl,da,rfl,⟨_,SqL.of (s02 _ _ hda)⟩,cX_ (xs:=dvs) (fun i σ H3=>(∃v3 v4 v5,σ=[some (.ref da),some (.int k),some (.ref fo),v3,v4,v5])/\al_ H H3/\Acc H H3 fo (((List.range i).flatMap (kN_ n ls k)).map lfs)) ⟨⟨none,none,none,rfl⟩,s02,Acc.start hfo⟩ (fun i σ H3 _ h=>SqL.of (h.2.1 _ _ hda)) ?_ ?_⟩
   .rintro i y σ H3 pa hi ⟨⟨v3,v4,v5,rfl⟩,s3,hacc⟩ np;obtain⟨dd,hdd,hy⟩:=hdi.of_get hi;rw [A5] at hdd;obtain⟨p,hp',rfl⟩:=A3.mp hdd;have hil:i<ls.length:=(A'.mp hp').1;obtain⟨pL,pl1⟩:=hok p (AL hp');have tt:=tot i hil;have s34:al_ H3 (upd H3 pa (.tup [.int i,y])):=al_.new np;have hacc4:=hacc.mono s34;have stay:kN_ n ls k i=[]->Acc H (upd H3 pa (.tup [.int i,y])) fo (((List.range (i+1)).flatMap (kN_ n ls k)).map lfs):=fun e=>by
     rw [aO_,e,BY];exact hacc4
    have hlf:Is (upd H3 pa (.tup [.int i,y])) (lf p) y:=(hy.mono s3).mono s34;refine⟨pa,_,rfl,SqT.of ad_,rfl,_,_,rfl,_,_,rfl,rfl, ?_⟩;generalize upd H3 pa (.tup [.int i,y])=H4 at s34 hacc4 stay hlf⊢;have s4:al_ H H4:=s3.trans s34;refine⟨_,rfl,y,p,rfl,hlf,pL,_,rfl,_,_,rfl,rfl,_,rfl,es_ (fun c2=> ?_) (fun c2=> ?_)⟩
    .have eG:kN_ n ls k i=(gV_ n (ls.drop i) (k-aN_ p)).map (p:: ·):=by
      unfold kN_;rw [hp'];exact A8 c2
     rw [eG,A1] at tt;refine⟨_,rfl,_,rfl,i,rfl,da,_,rfl,SqL.of (s4 _ _ hda), ?_⟩;rw [fv_ (by lia)];intro l2 n2;have s45:al_ H4 (upd H4 l2 (.lst (dvs.drop i))):=al_.new n2;have hl2:(upd H4 l2 (.lst (dvs.drop i))) l2=some (.lst (dvs.drop i)):=ad_;generalize upd H4 l2 (.lst (dvs.drop i))=H5 at s45 hl2⊢;have s5:=s4.trans s45;have hdr:Is H5 (lfs (ls.drop i)) (.ref l2):=da_ hl2 (by rw [List.map_drop];exact(hdi.drop i).mono s5);refine⟨_,rfl,_,rfl,y,p,rfl,hlf.mono s45,pL,_,_,rfl,rfl, ?_⟩;refine⟨.ref l2,ls.drop i,k-aN_ p,rfl,hdr,fun q hq=>hok q (BM hq),by lia,by lia,by lia,by rw [Cj];lia,by lia,fun rl H6 s6 nrl hrl=> ?_⟩;obtain⟨vs5,hfo5,hi5⟩:=hacc4.mono s45;have hfo6:H6 fo=some (.lst vs5):=s6 _ _ hfo5;obtain⟨_,rvs,e,hrl',hri⟩:=b9_ hrl;cases e;have hrl6:H6 rl=some (.lst rvs):=a8_ _ _ hrl';have rlfo:rl≠fo:=by rintro rfl;rw [hfo5] at nrl;cases nrl
     have rlen:rvs.length=(gV_ n (ls.drop i) (k-aN_ p)).length:=by rw [hri.length,A1]
     have hriH:Iss (hid H6 fo) ((gV_ n (ls.drop i) (k-aN_ p)).map lfs) rvs:=(hri.mono (hS_ (al_.refl H5) hfo5)).mono (cW_ a8_);have s56:=s5.trans s6;refine⟨rl,rfl,⟨_,SqL.of hrl6⟩,bj_ (xs:=rvs) (fun j σ H7=>(∃v5,σ=[some (.ref da),some (.int k),some (.ref fo),some (.int i),some y,v5])/\al_ H H7/\But fo H6 H7/\Acc H H7 fo (((List.range i).flatMap (kN_ n ls k)++((gV_ n (ls.drop i) (k-aN_ p)).take j).map (p:: ·)).map lfs)) ⟨⟨_,rfl⟩,s56,fun _ _ e _=>e,by simpa using (hacc4.mono s45).mono s6⟩ (fun j σ H7 _ h=>SqL.of (h.2.2.1 _ _ hrl6 rlfo)) ?_ ?_⟩
     .rintro j x σ H7 hj ⟨⟨v5,rfl⟩,s7,but7,vs7,hfo7,hi7⟩;obtain⟨dd,hdd,hx⟩:=hriH.of_get hj;rw [A5] at hdd;obtain⟨r,hr',rfl⟩:=A3.mp hdd;have hjl:j<(gV_ n (ls.drop i) (k-aN_ p)).length:=(A'.mp hr').1;have hx7:Is H7 (lfs r) x:=hx.mono (jd_ but7);have ritem:=(gU_ (fun q hq=>(hok q (BM hq)).2) (AL hr')).1;have vl:vs7.length<=999:=by
       rw [hi7.length,A1,AH,A1,AW];lia
      have hy7:Is H7 (lf p) y:=hy.mono s7;refine⟨_,rfl, .inl ⟨rfl,_,SqL.of hfo7⟩,_,rfl,(by show 1<=sizeLine;decide),fun q1 H8 n8 s8 h8=>⟨_,rfl,[lf p],r.map lf,da_ h8 (ap_ (hy7.mono s8) an_),hx7.mono s8,Ag (aj_ (by rw [A1];show 1+r.length<=1000;lia)),fun q2 H9 n9 s9 h9=> ?_⟩⟩;have s79:=s8.trans s9;refine⟨fo,vs7,_,rfl,rfl,s79 _ _ hfo7,aj_ (by lia),⟨_,rfl⟩,(s7.trans s79).put nfH,but7.trans ((But.of_same s79).trans But.upd), ?_⟩;rw [AF,hr'];have:=Acc.add s7 s79 hfo7 hi7 (l8_ (ps:=p::r) s79 (s8.free n9) h9);simpa using this
     .rintro σ H7 ⟨⟨v5,rfl⟩,s7,_,hacc7⟩;refine⟨⟨_,_,_,rfl⟩,s7, ?_⟩;rw [rlen,AR,<-eG,<-aO_] at hacc7;exact hacc7
    .refine⟨⟨_,_,_,rfl⟩,s4,stay ?_⟩;unfold kN_;rw [hp'];exact A6 c2
   .rintro σ H3 ⟨⟨v3,v4,v5,rfl⟩,s3,hacc⟩;rw [dlen] at hacc;exact⟨_,rfl,kk fo H3 s3 nfH (hacc.is nfH)⟩
theorem fI_:FnOk P w K mg base CX0 1 T.f33 T.d33 ["number","lifts"] (te_ K):=by
 refine T.X33.F.ok fF_ (fun vs H Q E h=> ?_) (fun cdv A outer s H vs Q E hr h=> ?_)
 .obtain⟨_,_,_,rfl,_⟩:=h;rfl
 .obtain⟨v,ps,n,rfl,hv,hl,kk⟩:=h;refine⟨_,(ag_ (ao_ (ax_ (oq_ rfl) (by rfl) T.n_any boot_any (aa_ (bi_ (XN:=["number","lifts"]) (sc:=af_ bO_) (N:=["lift","number"]) (own:=1) (js:=[0]) rfl (by ac_nf) rfl rfl (aD_ (pv 1)) (fun _ _ _ _=>(ai_ (i:=0) (show List.Nodup (["lift","number"]:List Str) by ac_nf) rfl (Or.inl rfl) (.inr rfl))) (aI_ (by decide)) (fun _ _ _ _=>be_) (fun _ _ _ _=>(nL_ hK_ hK_ (aM_ aR_ (pv 0) ae_ (fun _ _=>rfl)) (pv 1) (aM_ aR_ (pv 0) ae_ (fun _ _=>rfl))))) ab_)))), ?_⟩;obtain⟨da,dvs,rfl,hda,hdi⟩:=b9_ hv;have dlen:dvs.length=ps.length:=by rw [hdi.length,A1]
  refine⟨_,rfl,da,rfl,⟨_,SqL.of hda⟩,fun acc na=> ?_⟩;refine aW_ (xs:=dvs) (own:=1) (js:=[0]) (fun j H4=>al_ H H4/\H4 acc=some (.lst (((ps.take j).map fun p=>decide (p.1<n)&&decide (n<p.2.1)).map V.bl))) ⟨al_.new na,ad_⟩ (fun j H4 _ h=>SqL.of (h.1 _ _ hda)) ?_ ?_ aJ_ bf_ ?_
  .rintro j x H4 hj ⟨s4,hacc⟩;obtain⟨dd,hdd,hy⟩:=hdi.of_get hj;rw [A5] at hdd;obtain⟨p,hp',rfl⟩:=A3.mp hdd;have lenv:(((ps.take j).map fun p=>decide (p.1<n)&&decide (n<p.2.1)).map V.bl).length<=1000:=by rw [A1,A1,AW];lia
   refine k9_ ?_;refine⟨_,rfl,_,0,_,hy.mono s4,rfl,rfl,fun u hu=> ?_⟩;rw [dV_ hu];refine⟨_,rfl,_,_,rfl,rfl,_,rfl,es_ (fun c1=> ?_) (fun c1=> ?_)⟩
   .refine⟨_,rfl,_,1,_,hy.mono s4,rfl,rfl,fun u hu=> ?_⟩;rw [dV_ hu];refine⟨_,_,rfl,rfl,acc,_,_,rfl,rfl,hacc,aj_ lenv,s4.put na, ?_⟩;rw [ad_,AF,hp',AD,AD];have c1:p.1<n:=c1;simp [c1]
   .refine⟨acc,_,_,rfl,rfl,hacc,aj_ lenv,s4.put na, ?_⟩;rw [ad_,AF,hp',AD,AD];have c1:¬p.1<n:=c1;simp [c1]
  .rintro H4 ⟨s4,hacc⟩;rw [dlen,AR] at hacc;refine⟨acc,_,rfl,SqL.of hacc, ?_⟩;have e:(ps.map fun p=>decide (p.1<n)&&decide (n<p.2.1)).any id=qk_ n ps:=by
    unfold qk_;rw [List.any_map];rfl
   rw [e];exact kk H4 s4
  .rintro σ H R R' k ⟨v1,e1,xs,i,d,h1,e2,e3,h⟩;refine⟨v1,e1,xs,i,d,h1,e2,e3,fun u hu=> ?_⟩;obtain⟨v2,e4,i1,j1,e5,e6,b,e7,h⟩:=h u hu;refine⟨v2,e4,i1,j1,e5,e6,b,e7, ?_⟩;cases b with
   |true=>
    obtain⟨v1,e1,xs,i,d,h1,e2,e3,h⟩:=h;refine⟨v1,e1,xs,i,d,h1,e2,e3,fun u hu=> ?_⟩;obtain⟨i1,j1,e5,e6,h⟩:=h u hu;exact⟨i1,j1,e5,e6,k _ _ h⟩
   |false=>exact k _ _ h
theorem fJ_:FnOk P w K mg base CX0 2 T.f34 T.d34 ["lifts"] (ti_ K):=by
 refine T.X34.F.ok c3_ (fun vs H Q E h=> ?_) (fun cdv A outer s H vs Q E hr h=> ?_)
 .obtain⟨_,_,rfl,_⟩:=h;rfl
 .obtain⟨v,ps,rfl,hv,hl,hne,hb,kk⟩:=h;refine⟨_,(ac_ (cU_ (i:=1) c3_.nd rfl (by trivial) (.inl rfl) (XN:=["lifts","between"]) (sc:=af_ bQ_) (N:=["number","lifts"]) (own:=1) (js:=[0]) rfl (by ac_nf) rfl rfl (a7_ (by rfl) T.n_range (aa_ ae_ (aa_ (ah_ (cf_ T) (hr.mono (by decide)) (by rfl) T.X30.m T.X30.F.kp T.X30.B .nil aq_ (aa_ (pv 0) ab_)) ab_))) (fun _ _ _ _=>(ai_ (i:=0) (show List.Nodup (["number","lifts"]:List Str) by ac_nf) rfl (Or.inl rfl) (.inr rfl))) (aI_ (by decide)) (fun _ _ _ _=>be_) (fun _ _ _ _=>(ah_ (fI_ T) (hr.mono (by decide)) (by rfl) T.X33.m T.X33.F.kp T.X33.B .nil aq_ (aa_ (pv 0) (aa_ (pv 1) ab_)))))
   (ag_ (ao_ (oP_ (gy_ ew_ (aM_ aR_ (aM_ n3_ (pv 0) ae_ (fun _ _=>rfl)) ae_ (fun _ _=>rfl)) ae_ (aC_ _)) (oO_ (ax_ (or_ rfl) (by rfl) T.n_all boot_all (aa_ (pv 1) ab_))))))), ?_⟩
  have m:cs_ ps∈ps.map (·.2.1):=jX_ (by rw [A1];exact List.length_pos_iff.mpr hne);obtain⟨q,hq,e⟩:=AY.mp m;have e:q.2.1=cs_ ps:=e;have hq:=hb q hq;refine⟨_,rfl,v,ps,rfl,hv,hne,hl,fun H1 s1=> ?_⟩;refine⟨1,_,rfl,⟨by decide,by decide,by lia,by lia⟩,fun acc na=> ?_⟩;rw [show(cs_ ps-1).toNat=(cs_ ps).toNat-1 by lia];refine cY_ (lo:=1) (n:=(cs_ ps).toNat-1) (own:=1) (js:=[0]) (fun i H2=>al_ H1 H2/\i<=100/\H2 acc=some (.lst (((List.range i).map fun i:Nat=>qk_ (1+(i:Int)) ps).map V.bl))) ⟨al_.new na,by lia,ad_⟩ ?_ ?_ aJ_ bf_ ?_
  .rintro i H2 hi ⟨s2,hi',hacc⟩;refine k9_ ?_;refine⟨_,rfl,_,rfl,v,ps,_,rfl,hv.mono (s1.trans s2),hl,fun H3 s3=> ?_⟩;refine⟨acc,_,_,rfl,rfl,s3 _ _ hacc,aj_ (by rw [A1,A1,C1];lia),(s2.trans s3).put na,by lia, ?_⟩;rw [ad_,B9,AD,AD];rfl
  .rintro H2 ⟨s2,_,hacc⟩;obtain⟨p0,r0,rfl⟩:∃p0 r0,ps=p0::r0:=by
    cases ps with
    |nil=>exact absurd rfl hne
    |cons p r=>exact⟨p,r,rfl⟩
   have hv2:=hv.mono (s1.trans s2);refine⟨_,rfl,_,0,lf p0,hv2,rfl,sL_ (j:=0) rfl rfl,fun u hu=>⟨_,0,_,hu,rfl,rfl,fun u2 hu2=> ?_⟩⟩;rw [dV_ hu2];refine⟨rfl,_,rfl,mA_ (fun c=> ?_) (fun c=> ?_)⟩
   .refine⟨_,rfl,acc,_,rfl,SqL.of hacc, ?_⟩;have e:((List.range ((cs_ (p0::r0)).toNat-1)).map fun i:Nat=>qk_ (1+(i:Int)) (p0::r0)).all id=mC_ (p0::r0):=by
     unfold mC_;have:(List.getD (p0::r0) 0 (1,0,0)).1=0:=c;rw [Ak this,Bool.true_and,List.all_map];rfl
    rw [e];exact kk H2 (s1.trans s2)
   .have e:mC_ (p0::r0)=false:=by
     unfold mC_;have:¬(List.getD (p0::r0) 0 (1,0,0)).1=0:=c;rw [AX this];rfl
    have:=kk H2 (s1.trans s2);rw [e] at this;exact this
  .rintro σ H R R' k ⟨v1,e1,v2,e2,v3,qs,n,e3,h1,h2,h⟩;exact⟨v1,e1,v2,e2,v3,qs,n,e3,h1,h2,fun H' s'=>k _ _ (h H' s')⟩
theorem hM_:FnOk P w K mg base (CX1 P w) 8 T.f35 T.d35 ["k"] (s7_ T.c_NoBound):=by
 refine T.X35.F.okx hA_ (fun vs H Q E h=> ?_) (fun cdv A outer s H vs Q E hr h hR hp=> ?_)
 .obtain⟨_,rfl,_⟩:=h;rfl
 .obtain⟨v,rfl,ht,kk,ke⟩:=h;refine⟨_,(ac_ (aF_ (ah_ (aU_ T) (hr.mono (by decide)) (by rfl) T.X1.m T.X1.F.kp T.X1.B .nil hp (aa_ (pv 0) (aa_ ae_ (aa_ ae_ ab_)))))
   (ag_ (ao_ (ax_ (dc_ hr) (by rfl) T.n_sorted boot_sorted (aa_ (bi_ (XN:=["k"]) (sc:=af_ cm_) (N:=["lifts"]) (own:=1) (js:=[]) rfl (by ac_nf) rfl rfl (aD_ (ah_ (hO_ T 4) (hr.mono (by decide)) (by rfl) T.X32.m T.X32.F.kp T.X32.B .nil aq_ (aa_ (ah_ (gF_ T) (hr.mono (by decide)) (by rfl) T.X31.m T.X31.F.kp T.X31.B .nil aq_ (aa_ (pv 0) ab_)) (aa_ (pv 0) ab_)))) (fun _ _ _ _=>(ai_ (i:=0) (show List.Nodup (["lifts"]:List Str) by ac_nf) rfl (Or.inl rfl) (.inr rfl))) (aI_ (by decide)) (fun _ _ _ _=>(dC_ (hH_ (ah_ (fJ_ T) (hr.mono (by decide)) (by rfl) T.X34.m T.X34.F.kp T.X34.B .nil aq_ (aa_ (pv 0) ab_))))) (fun _ _ _ _=>(pv 0))) ab_))))), ?_⟩
  refine⟨_,rfl,v,1,3,rfl,ht,fun⟨i,ei,i1,i2⟩=> ?_,fun h=>⟨by decide,ke h⟩⟩;subst ei;obtain⟨n,rfl⟩:=Am (show 0<=i by lia);have k2:=kk n rfl (by lia) (by lia);clear kk ke;obtain⟨b1,b2,b3,_⟩:=sS_ (k:=n) (by lia) (by lia);have hb:=b1;unfold okT at hb;simp only [A9,Ab,AQ] at hb;obtain⟨⟨⟨l1,l2⟩,l3⟩,l4⟩:=hb;have lg:∀p∈ch_ n (n+1),Lok p/\1<=aN_ p:=fun p hp=>by
   have:=l1 p hp;unfold lgB at this;simp only [A9,Ab] at this;exact⟨⟨by lia,by lia,by lia,by lia⟩,by lia⟩
  refine⟨_,rfl,n,rfl,by lia,fun l0 H1 s1 nl0 hl0=> ?_⟩;refine⟨_,rfl, .ref l0,ch_ n (n+1),n,rfl,hl0,lg,by lia,by lia,by lia,by lia,by decide,fun rl H2 s2 nrl hrl=> ?_⟩;have s02:=s1.trans s2;have hrl:=hrl.mono (gK_ s1);obtain⟨_,rvs,e,hrl',hri⟩:=b9_ hrl;cases e;have hrl2:H2 rl=some (.lst rvs):=a8_ _ _ hrl';have rlen:rvs.length=(gV_ 4 (ch_ n (n+1)) n).length:=by rw [hri.length,A1]
  have item:∀r∈gV_ 4 (ch_ n (n+1)) n,r≠[]/\r.length<=4/\∀p∈r,1<=p.2.1/\p.2.1<=100:=fun r hr=>by
   obtain⟨a,d⟩:=gU_ (fun q hq=>(lg q hq).2) hr;refine⟨r6_ (by lia) hr,a,fun p hp=> ?_⟩;have:=l1 p (d p hp);unfold lgB at this;simp only [A9,Ab] at this;exact⟨by lia,by lia⟩
  refine⟨rl,rfl,⟨_,SqL.of hrl2⟩,fun acc na=> ?_⟩;refine aW_ (xs:=rvs) (own:=1) (js:=[]) (fun j H3=>al_ H2 H3/\∃vs,H3 acc=some (.lst vs)/\Iss (nw H H2) ((((gV_ 4 (ch_ n (n+1)) n).take j).filter mC_).map lfs) vs) ⟨al_.new na,[],ad_,an_⟩ (fun j H3 _ h=>SqL.of (h.1 _ _ hrl2)) ?_ ?_ aJ_ ?_ ?_
  .rintro j y H3 hj ⟨s3,vs,hacc,hi⟩;obtain⟨dd,hdd,hy⟩:=hri.of_get hj;rw [A5] at hdd;obtain⟨r,hr',rfl⟩:=A3.mp hdd;obtain⟨r1,r2,r3⟩:=item r (AL hr');have vl:vs.length<=900:=by
    rw [hi.length,A1];refine Ac (Ba _ _) ?_;rw [AW];lia
   refine⟨_,rfl,y,r,rfl,(hy.mono a8_).mono s3,by lia,r1,r3,fun H4 s4=>⟨mC_ r,rfl, ?_⟩⟩;cases hT:mC_ r with
   |true=>
    refine kS_ ⟨_,rfl,acc,vs,_,rfl,rfl,s4 _ _ hacc,aj_ (by lia),(s3.trans s4).put na,_,ad_, ?_⟩;rw [AF,hr',B3];have ef:(Option.toList (some r)).filter mC_=[r]:=by simp [hT]
    rw [ef,AD];exact hi.append (ap_ hy an_)
   |false=>
    refine fm_ ⟨s3.trans s4,vs,s4 _ _ hacc, ?_⟩;rw [AF,hr',B3];have ef:(Option.toList (some r)).filter mC_=[]:=by simp [hT]
    rw [ef,BY];exact hi
  .rintro H5 ⟨s5,vs,hacc,hi⟩;rw [rlen,AR] at hi;have hi:Iss (nw H H2) ((el_ n).map lfs) vs:=hi;have s05:=s02.trans s5;have hv5:Iss H5 ((el_ n).map lfs) vs:=(hi.mono a8_).mono s5;have vlen:vs.length=(el_ n).length:=by rw [hi.length,A1]
   by_cases hlt:(el_ n).length<2
   .refine .inl ⟨acc,vs,rfl,SqL.of hacc,by lia,fun q nq=>k2 q _ (s05.put (s05.free nq)) (s05.free nq) ?_⟩;have:sT n=el_ n:=by unfold sT;rw [A8 hlt]
    rw [this];exact da_ (by rw [cg_ (s05.free nq)];exact ad_) (hi.mono (dp_ (s5.trans (al_.new nq))))
   .obtain⟨p,hp,hps,hpl⟩:=b2 hlt;refine .inr ⟨acc,vs,cD (el_ n),p,rfl,SqL.of hacc,by lia,by lia,hps,fun r hr'=> ?_,fun i j bb hb=> ?_,by rw [vlen];exact hp,fun i hi=>by rw [vlen];exact hpl i hi,fun q nq=>k2 q _ (s05.put (s05.free nq)) (s05.free nq) ?_⟩
    .obtain⟨i,hi,rfl⟩:=BN.mp hr';obtain⟨dd,hdd,hy⟩:=hv5.of_get (A2 hi);rw [A5] at hdd;obtain⟨w,_,rfl⟩:=A3.mp hdd;obtain⟨a,ys,e1,e2,_⟩:=b9_ hy;exact⟨a,ys,e1,SqL.of e2⟩
    .unfold cD at hb;obtain⟨w1,h1,hb⟩:=AC.mp hb;obtain⟨w2,h2,rfl⟩:=A3.mp hb;obtain⟨x,hx,hx'⟩:=hv5.get (j:=i) (x:=lfs w1) (by rw [A5,h1];rfl);obtain⟨y,hy,hy'⟩:=hv5.get (j:=j) (x:=lfs w2) (by rw [A5,h2];rfl);exact⟨x,y,hx,hy,nb_ hx' hy'⟩
    .have:sT n=p.toList.map fun i=>(el_ n).getD i []:=by
      unfold sT oT;rw [A6 hlt,hp];rfl
     rw [this];exact da_ (by rw [cg_ (s05.free nq)];exact ad_) ((g7_ hi p.toList hpl).mono (dp_ (s5.trans (al_.new nq))))
  .rintro σ H R R' k' ⟨v1,e1,v2,ps,e2,h1,h2,h3,h4,h⟩;refine⟨v1,e1,v2,ps,e2,h1,h2,h3,h4,fun H' s'=> ?_⟩;obtain⟨b,e3,h⟩:=h H' s';exact⟨b,e3,k' _ _ h⟩
  .rintro σ H R R' k' ⟨v1,e1,h⟩;exact⟨v1,e1,k' _ _ h⟩
theorem l5_:FnOk P w K mg base CX0 1 T.f36 T.d36 ["template","j"] (ro_ K):=by
 refine T.X36.F.ok pJ_ (fun vs H Q E h=> ?_) (fun cdv A outer s H vs Q E hr h=> ?_)
 .obtain⟨_,_,_,rfl,_⟩:=h;rfl
 .obtain⟨v,ps,j,rfl,hv,hl,kk⟩:=h;refine⟨_,(ag_ (ao_ (ax_ (eK_ rfl) (by rfl) T.n_sum boot_sum (aa_ (bi_ (XN:=["template","j"]) (sc:=af_ jE_) (N:=["lift","j"]) (own:=1) (js:=[1]) rfl (by ac_nf) rfl rfl (aD_ (pv 0)) (fun _ _ _ _=>(ai_ (i:=0) (show List.Nodup (["lift","j"]:List Str) by ac_nf) rfl (Or.inl rfl) (.inr rfl))) (aI_ (by decide)) (fun _ _ _ _=>(dC_ (jJ_ hK_ hL_ (aM_ aR_ (pv 0) ae_ (fun _ _=>rfl)) (pv 1) (aM_ aR_ (pv 0) ae_ (fun _ _=>rfl))))) (fun _ _ _ _=>(aM_ aR_ (pv 0) ae_ (fun _ _=>rfl)))) ab_)))), ?_⟩;obtain⟨da,dvs,rfl,hda,hdi⟩:=b9_ hv;have dlen:dvs.length=ps.length:=by rw [hdi.length,A1]
  refine⟨_,rfl,da,rfl,⟨_,SqL.of hda⟩,fun acc na=> ?_⟩;refine aW_ (xs:=dvs) (own:=1) (js:=[1]) (fun i H4=>al_ H H4/\H4 acc=some (.lst ((((ps.take i).filter (inF j)).map (·.2.2)).map V.int))) ⟨al_.new na,ad_⟩ (fun i H4 _ h=>SqL.of (h.1 _ _ hda)) ?_ ?_ aJ_ ?_ ?_
  .rintro i x H4 hj ⟨s4,hacc⟩;obtain⟨dd,hdd,hy⟩:=hdi.of_get hj;rw [A5] at hdd;obtain⟨p,hp',rfl⟩:=A3.mp hdd;have hlf:Is H4 (lf p) x:=hy.mono s4;have stay:inF j p=false->H4 acc=some (.lst ((((ps.take (i+1)).filter (inF j)).map (·.2.2)).map V.int)):=fun e=>by
    rw [hacc,AF,hp',B3,AD,AD];simp [e]
   refine⟨_,rfl,_,0,_,hlf,rfl,rfl,fun u hu=> ?_⟩;rw [dV_ hu];refine⟨_,rfl,_,_,rfl,rfl,_,rfl,es_ (fun h1=> ?_) (fun h1=> ?_)⟩
   .refine⟨_,rfl,_,1,_,hlf,rfl,rfl,fun u hu=> ?_⟩;rw [dV_ hu];refine⟨_,_,rfl,rfl,_,rfl,es_ (fun h2=> ?_) (fun h2=> ?_)⟩
    .have e:inF j p=true:=by unfold inF;rw [Ak h1,Ak h2];rfl
     refine⟨_,rfl,_,2,_,hlf,rfl,rfl,fun u hu=> ?_⟩;rw [dV_ hu];refine⟨acc,_,_,rfl,rfl,hacc,aj_ ?_,s4.put na, ?_⟩
     .rw [A1,A1];have:=Ba (inF j) (ps.take i);rw [AW] at this;lia
     .rw [ad_,AF,hp',B3,AD,AD];simp [e]
    .exact⟨s4,stay (by unfold inF;rw [AX h2,C8])⟩
   .exact⟨false,rfl,fm_ ⟨s4,stay (by unfold inF;rw [AX h1];rfl)⟩⟩
  .rintro H4 ⟨s4,hacc⟩;rw [dlen,AR] at hacc;exact⟨acc,_,rfl,SqL.of hacc,kk H4 s4⟩
  .rintro σ H R R' k h;obtain⟨v1,e1,xs,i,d,h1,e2,e3,h⟩:=h;refine⟨v1,e1,xs,i,d,h1,e2,e3,fun u hu=> ?_⟩;obtain⟨v2,e4,i1,j1,e5,e6,b,e7,h⟩:=h u hu;refine⟨v2,e4,i1,j1,e5,e6,b,e7, ?_⟩;cases b with
   |true=>
    obtain⟨v1,e1,xs,i,d,h1,e2,e3,h⟩:=h;refine⟨v1,e1,xs,i,d,h1,e2,e3,fun u hu=> ?_⟩;obtain⟨i1,j1,e5,e6,b,e7,h⟩:=h u hu;exact⟨i1,j1,e5,e6,b,e7,k _ _ h⟩
   |false=>
    obtain⟨b,e7,h⟩:=h;exact⟨b,e7,k _ _ h⟩
  .rintro σ H R R' k ⟨v1,e1,xs,i,d,h1,e2,e3,h⟩;exact⟨v1,e1,xs,i,d,h1,e2,e3,fun u hu=>k _ _ (h u hu)⟩
theorem c8_:FnOk P w K mg base CX0 2 T.f37 T.d37 ["template"] (pE_ K):=by
 refine T.X37.F.ok fG_ (fun vs H Q E h=> ?_) (fun cdv A outer s H vs Q E hr h=> ?_)
 .obtain⟨_,_,rfl,_⟩:=h;rfl
 .obtain⟨v,ps,rfl,hv,hok,kk⟩:=h;refine⟨_,(ag_ (ao_ (ax_ (ip_ rfl) (by rfl) T.n_max boot_max (aa_ (bi_ (XN:=["template"]) (sc:=af_ bP_) (N:=["j","template"]) (own:=1) (js:=[0]) rfl (by ac_nf) rfl rfl (a7_ (by rfl) T.n_range (aa_ ae_ (aa_ (ak_ ay_ (ah_ (cf_ T) (hr.mono (by decide)) (by rfl) T.X30.m T.X30.F.kp T.X30.B .nil aq_ (aa_ (pv 0) ab_)) ae_) ab_))) (fun _ _ _ _=>(ai_ (i:=0) (show List.Nodup (["j","template"]:List Str) by ac_nf) rfl (Or.inl rfl) (.inr rfl))) (aI_ (by decide)) (fun _ _ _ _=>be_) (fun _ _ _ _=>(ak_ ay_ (ak_ aT_ (ah_ (l5_ T) (hr.mono (by decide)) (by rfl) T.X36.m T.X36.F.kp T.X36.B .nil aq_ (aa_ (pv 1) (aa_ (pv 0) ab_))) (pv 0)) ae_))) ab_)))), ?_⟩;have ln:=r8_ hok;obtain⟨n,hn⟩:=Am (show 0<=cs_ ps by lia);have hne:ps≠[]:=by obtain⟨_,_,p,hm,_⟩:=hok;rintro rfl;cases hm
  refine⟨_,rfl,v,ps,rfl,hv,hne,hok.1,fun H1 s1=> ?_⟩;rw [hn];refine⟨_,_,rfl,rfl,1,_,rfl,⟨by decide,by decide,by lia,by lia⟩,fun acc na=> ?_⟩;have en:((n:Int)+1-1).toNat=n:=by lia
  rw [en];refine cY_ (lo:=1) (n:=n) (own:=1) (js:=[0]) (fun i H2=>al_ H1 H2/\H2 acc=some (.lst ((ep_ ps i).map V.int))) ⟨al_.new na,ad_⟩ ?_ ?_ aJ_ bf_ ?_
  .rintro i H2 hi ⟨s2,hacc⟩;refine k9_ ?_;refine⟨_,rfl,_,rfl,v,ps,_,rfl,hv.mono (s1.trans s2),hok.1,fun H3 s3=> ?_⟩;refine⟨_,rfl,_,_,rfl,rfl,_,_,rfl,rfl,acc,_,_,rfl,rfl,s3 _ _ hacc,aj_ (by rw [A1,h5_];lia),(s2.trans s3).put na, ?_⟩;rw [ad_];unfold ep_;rw [B9,AD,AD];rfl
  .rintro H2 ⟨s2,hacc⟩;rw [hn,AV] at kk;exact⟨acc,_,rfl,SqL.of hacc,by rw [h5_];lia,kk H2 (s1.trans s2)⟩
  .rintro σ H R R' k ⟨v1,e1,v2,e2,v3,qs,j,e3,h1,h2,h⟩;refine⟨v1,e1,v2,e2,v3,qs,j,e3,h1,h2,fun H' s'=> ?_⟩;obtain⟨v4,e4,i1,j1,e5,e6,i2,j2,e7,e8,h⟩:=h H' s';exact⟨v4,e4,i1,j1,e5,e6,i2,j2,e7,e8,k _ _ h⟩
theorem i1_:FnOk P w K mg base CX0 10 T.f38 T.d38 ["template","place"] (pB_ K):=by
 refine T.X38.F.ok dg_ (fun vs H Q E h=> ?_) (fun cdv A outer s H vs Q E hr h=> ?_)
 .obtain⟨_,_,_,rfl,_⟩:=h;rfl
 .obtain⟨v,ps,pl,rfl,hv,tp,p1,p20,kk⟩:=h;refine⟨_,(ac_ (b6_ (az_ hK_ (pv 1) (ah_ (c8_ T) (hr.mono (by decide)) (by rfl) T.X37.m T.X37.F.kp T.X37.B .nil aq_ (aa_ (pv 0) ab_)) (aC_ _)) (ag_ (ao_ ae_)) aP_)
   (ac_ (cU_ (i:=2) dg_.nd rfl (by trivial) (.inl rfl) (XN:=["template","place","marks","j"]) (sc:=af_ cS_) (N:=["i","j","w"]) (own:=3) (js:=[]) rfl (by ac_nf) rfl rfl (aD_ (pv 0)) (fun _ _ _ _=>(iY_ (K:=K) rfl rfl (as_ (ai_ (i:=0) (show List.Nodup (["i","j","w"]:List Str) by ac_nf) rfl (Or.inl rfl) (.inr rfl)) (as_ (ai_ (i:=1) (show List.Nodup (["i","j","w"]:List Str) by ac_nf) rfl (Or.inl rfl) (.inr rfl)) (as_ (ai_ (i:=2) (show List.Nodup (["i","j","w"]:List Str) by ac_nf) rfl (Or.inl rfl) (.inr rfl)) bl_))))) nN_ (fun _ _ _ _=>be_) (fun _ _ _ _=>(bu_ (aa_ (ak_ ay_ (pv 0) ae_) (aa_ (ak_ ay_ (pv 1) ae_) (aa_ (pv 2) ab_))))))
   (ac_ (aE_ AN rfl (a7_ (by rfl) T.n_range (aa_ ae_ (aa_ (ak_ ay_ (ah_ (cf_ T) (hr.mono (by decide)) (by rfl) T.X30.m T.X30.F.kp T.X30.B .nil aq_ (aa_ (pv 0) ab_)) ae_) ab_))) (ai_ (i:=3) dg_.nd rfl (by trivial)) (ag_ (aF_ (e4_ Ao CJ CI dK_ (pv 2) (aa_ (ak_ gA_ (aQ_ (aa_ (bu_ (aa_ (pv 3) (aa_ (ak_ ay_ (pv 3) ae_) (aa_ ae_ ab_)))) ab_)) (ak_ aT_ (ak_ aT_ (ak_ ay_ (pv 1) (pv 3)) ae_) (ah_ (l5_ T) (hr.mono (by decide)) (by rfl) T.X36.m T.X36.F.kp T.X36.B .nil aq_ (aa_ (pv 0) (aa_ (pv 3) ab_))))) ab_)))))
   (ag_ (ao_ (ah_ (bZ_ T) (hr.mono (by decide)) (by rfl) T.X27.m T.X27.F.kp T.X27.B .nil aq_ (aa_ (ah_ (cf_ T) (hr.mono (by decide)) (by rfl) T.X30.m T.X30.F.kp T.X30.B .nil aq_ (aa_ (pv 0) ab_)) (aa_ (pv 2) ab_)))))))), ?_⟩
  have l1:=tp.l1;have l4:=tp.l4;have l3:=tp.len;obtain⟨n,hn⟩:=Am (show 0<=cs_ ps by lia);refine⟨_,rfl,_,rfl,v,ps,rfl,hv,tp.okt,fun H1 s1=>⟨_,_,rfl,rfl,_,rfl,es_ (fun h=> ?_) (fun h=> ?_)⟩⟩
  .have:=kk H1 s1;unfold hr_ at this;rw [A8 h] at this;exact this
  have hw:hr_ ps pl=hmF n (mkA ps pl n):=by
   unfold hr_;rw [A6 h,<-md_,hn,AV]
  have hmk:MkW n (mkA ps pl n):=by
   have:=tp.mw pl p1 (by unfold iz_;lia) p20;rw [<-md_,hn,AV] at this;exact this
  rw [hw] at kk;obtain⟨da,dvs,rfl,hda,hdi⟩:=b9_ hv;have dlen:dvs.length=ps.length:=by rw [hdi.length,A1]
  refine⟨_,rfl,da,rfl,⟨_,SqL.of (s1 _ _ hda)⟩,fun acc na=> ?_⟩;have nacc:H acc=none:=s1.free na;refine aW_ (xs:=dvs) (own:=3) (js:=[]) (fun j H4=>al_ H1 H4/\∃vs,H4 acc=some (.lst vs)/\Iss H4 (((ps.take j).map upM).map lf) vs) ⟨al_.new na,[],ad_,an_⟩ (fun j H4 _ h=>SqL.of (h.1 _ _ (s1 _ _ hda))) ?_ ?_ nU_ bf_ ?_
  .rintro j x H4 hj ⟨s4,vs,hacc,hi⟩;obtain⟨dd,hdd,hy⟩:=hdi.of_get hj;rw [A5] at hdd;obtain⟨p,hp',rfl⟩:=A3.mp hdd;obtain⟨t,rfl,ht⟩:=gJ_ (hy.mono (s1.trans s4));have vl:vs.length<=3:=by rw [hi.length,A1,A1,AW];lia
   refine⟨t,_,rfl,SqT.of ht,rfl,_,_,rfl,_,_,rfl,_,_,rfl,rfl,tW_ ?_⟩;refine⟨_,rfl,_,_,rfl,rfl,_,rfl,_,_,rfl,rfl,_,rfl,(by show 3<=sizeLine;decide),fun t2 H5 nt s5 ht2=>⟨acc,vs,_,rfl,rfl,s5 _ _ hacc,aj_ (by lia),(s4.trans s5).put na,_,ad_, ?_⟩⟩;rw [AF,hp',AD];refine dN_ (cA_.upd (s5 _ _ hacc)) ?_;rw [AD];exact(hi.mono s5).append (ap_ (g9_ (p:=upM p) ht2) an_)
  .rintro H4 ⟨s4,vs,hacc,hi⟩;rw [dlen,AR] at hi;have s14:=s1.trans s4;refine⟨_,rfl, .ref da,ps,rfl,hv.mono s14,tp.ne,by lia,fun H5 s5=> ?_⟩;rw [hn];refine⟨_,_,rfl,rfl,1,_,rfl,⟨by decide,by decide,by lia,by lia⟩, ?_⟩;rw [show((n:Int)+1-1).toNat=n by lia];refine a9_ (lo:=1) (n:=n) (fun i σ H6=>(∃v3,σ=[some (.ref da),some (.int pl),some (.ref acc),v3])/\al_ H H6/\∃vs,H6 acc=some (.lst vs)/\Iss H6 ((mkA ps pl i).map lf) vs) ⟨⟨none,rfl⟩,s14.trans s5,vs,s5 _ _ hacc,by unfold mkA;simpa using hi.mono s5⟩ ?_ ?_
   .rintro i σ H6 hi' ⟨⟨v3,rfl⟩,s6,vs6,hacc6,hi6⟩;have ml:=mc_ tp (show pl<=20 by lia) (n:=i) (by lia);have vl:vs6.length=(mkA ps pl i).length:=by rw [hi6.length,A1]
    have ld:=tp.load i (by lia);have lg:=j5_ (ps:=ps) (n:=(cs_ ps).toNat) (i:=i) (by rw [hn,AV];exact hi');refine⟨_,rfl, .inl ⟨rfl,_,SqL.of hacc6⟩,_,rfl,_,rfl,_,_,rfl,rfl,(by show 3<=sizeLine;decide),fun t H7 nt s7 ht=>⟨(by show 1<=sizeLine;decide),fun l H8 nl s8 hl=> ?_⟩⟩;refine⟨_,rfl,_,rfl,_,_,rfl,rfl,_,_,rfl,rfl,_,rfl,_,rfl, .ref da,ps,_,rfl,hv.mono ((s6.trans s7).trans s8),by lia,fun H9 s9=>⟨_,_,rfl,rfl, ?_⟩⟩;refine⟨lf (1+(i:Int),1+(i:Int)+1,1),_,(da_ hl (ap_ (g9_ (s8 _ _ ht)) an_)).mono s9,rfl,by lia,by lia,Ag (aj_ (by lia)),fun b H10 nb s10 hb=> ?_⟩;obtain⟨_,zs,e,hz,hzi⟩:=b9_ hb;cases e;have hacc10:H10 acc=some (.lst vs6):=s10 _ _ (s9 _ _ (s8 _ _ (s7 _ _ hacc6)));have s610:=((s7.trans s8).trans s9).trans s10;have zl:=hzi.length;rw [Af] at zl;refine⟨acc,b,vs6,zs,rfl,rfl,hacc10,hz,Ag (aj_ (by lia)),⟨_,rfl⟩,(s6.trans s610).put nacc,_,ad_, ?_⟩;rw [jW_,AD,Bx];refine(dN_ (cA_.upd hacc10) (hi6.mono s610)).append ?_;rw [<-Bx];refine dN_ (cA_.upd hacc10) ?_;rw [Bx];exact hzi
   .rintro σ H6 ⟨⟨v3,rfl⟩,s6,vs6,hacc6,hi6⟩;refine⟨_,rfl, .ref da,ps,rfl,hv.mono s6,tp.ne,by lia,fun H7 s7=> ?_⟩;refine⟨_,rfl,n, .ref acc,mkA ps pl n,by rw [hn];rfl,by lia,by lia,(da_ hacc6 hi6).mono s7,hmk,fun H8 s8=>kk H8 ((s6.trans s7).trans s8)⟩
  .rintro σ H R R' k ⟨v1,e1,i1,j1,e2,e3,v2,e4,i2,j2,e5,e6,v3,e7,h1,h⟩;exact⟨v1,e1,i1,j1,e2,e3,v2,e4,i2,j2,e5,e6,v3,e7,h1,fun p H2 n s h'=>k _ _ (h p H2 n s h')⟩
theorem gH_:FnOk P w K mg base CX0 2 T.f39 T.d39 ["d","template"] (th_ K):=by
 refine T.X39.F.ok cl_ (fun vs H Q E h=> ?_) (fun cdv A outer s H vs Q E hr h=> ?_)
 .obtain⟨_,_,_,rfl,_⟩:=h;rfl
 .obtain⟨v,ps,d,rfl,hv,tp,kk⟩:=h;refine⟨_,(ac_ (am_ (i:=2) cl_.nd rfl (by trivial) (ah_ (cf_ T) (hr.mono (by decide)) (by rfl) T.X30.m T.X30.F.kp T.X30.B .nil aq_ (aa_ (pv 1) ab_)))
   (ac_ (cU_ (i:=3) cl_.nd rfl (by trivial) (.inl rfl) (XN:=["d","template","reached","heavy"]) (sc:=af_ bX_) (N:=["lift","reached"]) (own:=1) (js:=[2]) rfl (by ac_nf) rfl rfl (aD_ (pv 1)) (fun _ _ _ _=>(ai_ (i:=0) (show List.Nodup (["lift","reached"]:List Str) by ac_nf) rfl (Or.inl rfl) (.inr rfl))) (aI_ (by decide)) (fun _ _ _ _=>(dC_ (fX_ (az_ ew_ (aM_ aR_ (pv 0) ae_ (fun _ _=>rfl)) (pv 1) (aC_ _)) (d3_ (az_ iZ_ (aM_ aR_ (pv 0) ae_ (fun _ _=>rfl)) ae_ (aC_ _)))).pt)) (fun _ _ _ _=>(pv 0)))
   (ag_ (ao_ (jO_ (gv_ (pv 3) (fun _=>rfl)) (ak_ aT_ (pv 0) (pv 2)) (ak_ aT_ (ak_ ay_ (pv 0) ae_) (pv 2))))))), ?_⟩
  have l3:=tp.len;obtain⟨da,dvs,rfl,hda,hdi⟩:=b9_ hv;have dlen:dvs.length=ps.length:=by rw [hdi.length,A1]
  refine⟨_,rfl, .ref da,ps,rfl,hv,tp.ne,by lia,fun H1 s1=> ?_⟩;refine⟨_,rfl,da,rfl,⟨_,SqL.of (s1 _ _ hda)⟩,fun acc na=> ?_⟩;refine aW_ (xs:=dvs) (own:=1) (js:=[2]) (fun i H4=>al_ H1 H4/\∃vs,H4 acc=some (.lst vs)/\vs.length=((ps.take i).filter (hvB (cs_ ps))).length) ⟨al_.new na,[],ad_,rfl⟩ (fun i H4 _ h=>SqL.of (h.1 _ _ (s1 _ _ hda))) ?_ ?_ aJ_ ?_ ?_
  .rintro i x H4 hj ⟨s4,vs,hacc,vl⟩;obtain⟨dd,hdd,hy⟩:=hdi.of_get hj;rw [A5] at hdd;obtain⟨p,hp',rfl⟩:=A3.mp hdd;have hlf:Is H4 (lf p) x:=hy.mono (s1.trans s4);have fl:=Ba (hvB (cs_ ps)) (ps.take i);rw [AW] at fl;have stay:hvB (cs_ ps) p=false->vs.length=((ps.take (i+1)).filter (hvB (cs_ ps))).length:=fun e=>by
    rw [vl,AF,hp',B3];simp [e]
   refine⟨_,rfl,_,1,_,hlf,rfl,rfl,fun u hu=> ?_⟩;rw [dV_ hu];refine⟨_,rfl,rfl,_,rfl,mA_ (fun h1=> ?_) (fun h1=> ?_)⟩
   .refine⟨_,rfl,_,2,_,hlf,rfl,rfl,fun u hu=> ?_⟩;rw [dV_ hu];refine⟨_,_,rfl,rfl,_,rfl,es_ (fun h2=> ?_) (fun h2=> ?_)⟩
    .have e:hvB (cs_ ps) p=true:=by unfold hvB;rw [Ak h1,Ak h2];rfl
     refine⟨_,rfl,acc,vs,_,rfl,rfl,hacc,aj_ (by lia),s4.put na,_,ad_, ?_⟩;rw [AH,vl,AF,hp',B3];simp [e]
    .exact⟨s4,vs,hacc,stay (by unfold hvB;rw [AX h2,C8])⟩
   .exact fm_ ⟨s4,vs,hacc,stay (by unfold hvB;rw [AX h1];rfl)⟩
  .rintro H4 ⟨s4,vs,hacc,vl⟩;rw [dlen,AR] at vl;unfold qe_ at kk;by_cases h0:(ps.filter (hvB (cs_ ps))).length=0
   .rw [A8 h0] at kk;have:vs=[]:=B6.mp (by rw [vl,h0]);subst this;exact⟨_,rfl,false, .inl ⟨_,SqL.of hacc,rfl⟩,fm_ ⟨_,rfl,_,_,rfl,rfl,_,rfl,_,_,rfl,rfl,kk H4 (s1.trans s4)⟩⟩
   .rw [A6 h0] at kk;have hne:vs≠[]:=fun z=>h0 (by rw [<-vl,z];rfl);exact⟨_,rfl,true, .inl ⟨_,SqL.of hacc,by simp [hne]⟩,kS_ ⟨_,rfl,_,rfl,_,_,rfl,rfl,kk H4 (s1.trans s4)⟩⟩
  .rintro σ H R R' k h;obtain⟨v1,e1,xs,i,d,h1,e2,e3,h⟩:=h;refine⟨v1,e1,xs,i,d,h1,e2,e3,fun u hu=> ?_⟩;obtain⟨v2,e4,e5,b,e7,h⟩:=h u hu;refine⟨v2,e4,e5,b,e7, ?_⟩;cases b with
   |true=>
    obtain⟨v1,e1,xs,i,d,h1,e2,e3,h⟩:=h;refine⟨v1,e1,xs,i,d,h1,e2,e3,fun u hu=> ?_⟩;obtain⟨i1,j1,e5,e6,b,e7,h⟩:=h u hu;exact⟨i1,j1,e5,e6,b,e7,k _ _ h⟩
   |false=>exact k _ _ h
  .rintro σ H R R' k ⟨v1,e1,h⟩;exact⟨v1,e1,k _ _ h⟩
theorem lF_ {H H':Hp} (s:cA_ H H'):∀{xs:List Rw}{vs:List V},Iss H (xs.map rD) vs->Iss H' (xs.map rD) vs
 |[],vs,h=>by rw [b0_ h];exact an_
 |x::xs,vs,h=>by
  obtain⟨u,us,rfl,h1,h2⟩:=aV_ h;exact ap_ (lk_ s h1) (lF_ s h2)
theorem lq_ {d:Int}{c:Nat}:∀{ts:List (List Lf)},(∀ps∈ts,nP d ps<=13)->(ts.flatMap fun ps=>iy_ d c ps (nP d ps)).length<=13*ts.length
 |[],_=>by simp
 |ps::ts,h=>by
  have h1:=h ps (by simp);have h2:=lq_ (d:=d) (c:=c) (ts:=ts) fun p hp=>h p (by simp [hp]);rw [List.flatMap_cons,AH,Ah];unfold iy_ at h2⊢;rw [A1,C1];lia
theorem hN_:FnOk P w K mg base CX0 11 T.f40 T.d40 ["d","k"] (s8_ K):=by
 refine T.X40.F.ok bn_ (fun vs H Q E h=> ?_) (fun cdv A outer s H vs Q E hr h=> ?_)
 .obtain⟨_,_,rfl,_⟩:=h;rfl
 .obtain⟨d,k,rfl,d1,d5,k3,kk⟩:=h;refine⟨_,(ac_ (am_ (i:=2) bn_.nd rfl (by trivial) (aQ_ ab_))
   (ac_ (aE_ AN rfl (a7_ (by rfl) T.n_range (aa_ ae_ (aa_ (ak_ ay_ (pv 1) ae_) ab_))) (ai_ (i:=3) bn_.nd rfl (by trivial)) (ag_ (aE_ AN rfl (aD_ (ah_ (hM_ T) (hr.mono (by decide)) (by rfl) T.X35.m T.X35.F.kp T.X35.B .nil jQ_ (aa_ (pv 3) ab_))) (ai_ (i:=4) bn_.nd rfl (by trivial)) (ag_ (aE_ AN rfl (a7_ (by rfl) T.n_range (aa_ (ah_ (c8_ T) (hr.mono (by decide)) (by rfl) T.X37.m T.X37.F.kp T.X37.B .nil aq_ (aa_ (pv 4) ab_)) (aa_ (ak_ ay_ (ah_ (gH_ T) (hr.mono (by decide)) (by rfl) T.X39.m T.X39.F.kp T.X39.B .nil aq_ (aa_ (pv 0) (aa_ (pv 4) ab_))) ae_) ab_))) (ai_ (i:=5) bn_.nd rfl (by trivial)) (ac_ (am_ (i:=6) bn_.nd rfl (by trivial) (ak_ bE_ (ah_ (i1_ T) (hr.mono (by decide)) (by rfl) T.X38.m T.X38.F.kp T.X38.B .nil aq_ (aa_ (pv 4) (aa_ (pv 5) ab_))) (ah_ (jS_ T) (hr.mono (by decide)) (by rfl) T.X22.m T.X22.F.kp T.X22.B .nil aq_ (aa_ (pv 4) ab_))))
   (ag_ (aF_ (e4_ Ao Bf Be bS_ (pv 2) (aa_ (bu_ (aa_ (pv 3) (aa_ (pv 5) (aa_ (ak_ ay_ (pv 5) (ah_ (cf_ T) (hr.mono (by decide)) (by rfl) T.X30.m T.X30.F.kp T.X30.B .nil aq_ (aa_ (pv 4) ab_))) (aa_ (pv 6) ab_))))) ab_))))))))))
   (ag_ (ao_ (pv 2))))), ?_⟩
  refine⟨AS _,fun fo H1 n1 s1 h1=> ?_⟩;refine⟨_,rfl,_,_,rfl,rfl,1,_,rfl,⟨by decide,by decide,by lia,by lia⟩, ?_⟩;rw [show((k:Int)+1-1).toNat=k by lia];refine a9_ (lo:=1) (n:=k) (fun c σ H2=>(∃v3 v4 v5 v6,σ=[some (.int d),some (.int k),some (.ref fo),v3,v4,v5,v6])/\al_ H H2/\∃vs,H2 fo=some (.lst vs)/\Iss H2 ((lr_ (d:Int) c).map rD) vs) ⟨⟨none,none,none,none,rfl⟩,s1,[],h1,an_⟩ ?_ ?_
  .rintro c σ H2 hc ⟨⟨v3,v4,v5,v6,rfl⟩,s2,vs2,hfo2,hi2⟩;have ec:(1:Int)+(c:Int)=((c+1:Nat):Int):=by lia
   rw [ec];have pl:=(kX_ d1 d5 (k:=c) (by lia)).2.1;have es:lr_ (d:Int) (c+1)=lr_ (d:Int) c++s4_ (d:Int) (c+1):=aO_ _ _;rw [es];unfold s4_;generalize lr_ (d:Int) c=pre at hi2 pl⊢;refine⟨_,rfl, .int ((c+1:Nat):Int),rfl, .inl ⟨_,rfl⟩,fun m em m1 m3 l H3 s3 nl hl=> ?_,fun h=>absurd ⟨_,rfl,by lia,by lia⟩ h⟩;obtain rfl:m=c+1:=by have:=V.int.inj em;lia
   obtain⟨_,tvs,e,hl',hti⟩:=b9_ hl;cases e;have hl3:H3 l=some (.lst tvs):=a8_ _ _ hl';have tlen:tvs.length=(sT (c+1)).length:=by rw [hti.length,A1]
   have tl30:=rz_ (c:=c+1) (by lia) (by lia);have lfo:l≠fo:=by rintro rfl;rw [hfo2] at nl;cases nl
   have keep:∀{H4:Hp},But fo H3 H4->al_ (nw H2 H3) H4:=fun b c' o e=>by
    refine b c' o (a8_ _ _ e) ?_;rintro rfl;unfold nw at e;rw [hfo2] at e;cases e
   have tps:∀ps∈sT (c+1),Tp ps:=fun ps hp=>sR_ (by lia) (by lia) hp;generalize sT (c+1)=ts at hti tlen tl30 tps⊢;refine⟨l,rfl,⟨_,SqL.of hl3⟩,bj_ (xs:=tvs) (fun j σ H4=>(∃v4 v5 v6,σ=[some (.int d),some (.int k),some (.ref fo),some (.int ((c+1:Nat):Int)),v4,v5,v6])/\al_ H H4/\But fo H3 H4/\∃vs,H4 fo=some (.lst vs)/\Iss H4 ((pre++(ts.take j).flatMap fun ps=>iy_ (d:Int) (c+1) ps (nP (d:Int) ps)).map rD) vs) ⟨⟨_,_,_,rfl⟩,s2.trans s3,fun _ _ e _=>e,vs2,s3 _ _ hfo2,by simpa using hi2.mono s3⟩ (fun j σ H4 _ h=>SqL.of (h.2.2.1 _ _ hl3 lfo)) ?_ ?_⟩
   .rintro j y σ H4 hj ⟨⟨v4,v5,v6,rfl⟩,s4,but4,vs4,hfo4,hi4⟩;obtain⟨dd,hdd,hy⟩:=hti.of_get hj;rw [A5] at hdd;obtain⟨ps,hps,rfl⟩:=A3.mp hdd;have tp:=tps ps (AL hps);have l3:=tp.len;have jl:j<ts.length:=(A'.mp hps).1;have pl2:=lq_ (d:=(d:Int)) (c:=c+1) (ts:=ts.take j) fun q hq=>(tps q (Co hq)).np d d1 d5;rw [AW] at pl2;have ez:(ts.take (j+1)).flatMap (fun ps=>iy_ (d:Int) (c+1) ps (nP (d:Int) ps))=(ts.take j).flatMap (fun ps=>iy_ (d:Int) (c+1) ps (nP (d:Int) ps))++iy_ (d:Int) (c+1) ps (nP (d:Int) ps):=by
     rw [AF,hps,CG];simp
    rw [ez,<-BC];have pl3:(pre++(ts.take j).flatMap fun ps=>iy_ (d:Int) (c+1) ps (nP (d:Int) ps)).length<=840:=by rw [AH];lia
    generalize (pre++(ts.take j).flatMap fun ps=>iy_ (d:Int) (c+1) ps (nP (d:Int) ps))=pr at hi4 pl3⊢;have hy4:∀{H5:Hp},But fo H3 H5->Is H5 (lfs ps) y:=fun b=>hy.mono (keep b);have np13:=tp.np d d1 d5;have hls:qe_ (d:Int) ps<=13:=by
     have:=tp.l1;unfold qe_;split<;>lia
    have lp:=tp.lea;refine⟨_,rfl,y,ps,rfl,hy4 but4,tp.okt,fun H5 s5=>⟨_,rfl,_,rfl,y,ps,d,rfl,hy4 (but4.trans (But.of_same s5)),tp,fun H6 s6=> ?_⟩⟩;have hla:qe_ (d:Int) ps<=13/\iz_ ps<=100:=by
     have:=tp.l6;exact⟨by lia,by lia⟩
    refine⟨_,_,rfl,rfl,_,_,rfl,⟨by show -(2^62)<=iz_ ps;lia,by show iz_ ps<2^62;lia,by have:=tp.l4;unfold qe_;split<;>lia,by lia⟩, ?_⟩
    have but6:But fo H3 H6:=(but4.trans (But.of_same s5)).trans (But.of_same s6);show∃Wq:Nat->Nat->L2.St->Hp->Prop,_;refine a9_ (lo:=iz_ ps) (n:=nP (d:Int) ps) (fun i σ H7=>(∃v5 v6,σ=[some (.int d),some (.int k),some (.ref fo),some (.int ((c+1:Nat):Int)),some y,v5,v6])/\al_ H H7/\But fo H3 H7/\∃vs,H7 fo=some (.lst vs)/\Iss H7 ((pr++iy_ (d:Int) (c+1) ps i).map rD) vs) ⟨⟨_,_,rfl⟩,(s4.trans s5).trans s6,but6,vs4,s6 _ _ (s5 _ _ hfo4),by unfold iy_;simpa using (hi4.mono s5).mono s6⟩ ?_ ?_
    .rintro i σ H7 hi ⟨⟨v5,v6,rfl⟩,s7,but7,vs7,hfo7,hi7⟩;have i5:iz_ ps+(i:Int)<=14:=by unfold nP at hi;lia
     have vl:=hi7.length;rw [A1,AH] at vl;have sl:(iy_ (d:Int) (c+1) ps i).length=i:=by unfold iy_;rw [A1,C1]
     refine⟨_,rfl,_,rfl,y,ps,_,rfl,hy4 but7,tp,by lia,i5,fun H8 s8=> ?_⟩;have but8:=but7.trans (But.of_same s8);have w0:=tp.w0;have w1:=tp.w1;refine⟨_,rfl,y,ps,0,rfl,hy4 but8,(fun p hp=>⟨trivial,by have:=tp.ok p hp;lia,by have:=tp.ok p hp;lia⟩),_,_,rfl,rfl, .inr ⟨by lia,by lia⟩, ?_⟩;have hfo8:=s8 _ _ hfo7;refine⟨_,rfl, .inl ⟨rfl,_,SqL.of hfo8⟩,_,rfl,_,rfl,_,rfl,_,rfl,y,ps,rfl,hy4 but8,tp.ne,by lia,fun H9 s9=>⟨_,_,rfl,rfl,_,rfl,(by show 4<=sizeLine;decide),fun t H10 nt s10 ht=> ?_⟩⟩;have hfo10:=s10 _ _ (s9 _ _ hfo8);refine⟨fo,vs7,_,rfl,rfl,hfo10,aj_ (by lia),⟨_,_,rfl⟩,(((s7.trans s8).trans s9).trans s10).put n1,((but8.trans (But.of_same s9)).trans (But.of_same s10)).trans But.upd,_,ad_, ?_⟩;have ew:iy_ (d:Int) (c+1) ps (i+1)=iy_ (d:Int) (c+1) ps i++[rwC (c+1) ps i]:=by
      unfold iy_;rw [B9,AD];rfl
     rw [ew,<-BC,AD];refine(lF_ (cA_.upd hfo10) (((hi7.mono s8).mono s9).mono s10)).append (ap_ (lk_ (cA_.upd hfo10) (jb_ (xs:=r4 (rwC (c+1) ps i)) ht)) an_)
    .rintro σ H7 ⟨⟨v5,v6,rfl⟩,s7,but7,vs7,hfo7,hi7⟩;exact⟨⟨_,_,_,rfl⟩,s7,but7,vs7,hfo7,hi7⟩
   .rintro σ H4 ⟨⟨v4,v5,v6,rfl⟩,s4,but4,vs4,hfo4,hi4⟩;rw [tlen,AR] at hi4;exact⟨⟨_,_,_,_,rfl⟩,s4,vs4,hfo4,hi4⟩
  .rintro σ H2 ⟨⟨v3,v4,v5,v6,rfl⟩,s2,vs2,hfo2,hi2⟩;exact⟨_,rfl,kk fo H2 s2 n1 (da_ hfo2 hi2)⟩
theorem pg_ {kd:Addr}{H H':Hp}{kvs:List (List Key×V)} (hk:H kd=some (.dT kvs)) (b:But kd H H') {x:D}{v:V} (h:Is H x v):Is H' x v:=
 h.lts ⟨fun c xs e=>b _ _ e (by rintro rfl;rw [hk] at e;cases e),fun c xs e=>b _ _ e (by rintro rfl;rw [hk] at e;cases e)⟩
theorem qH_ {S:List Rw}{n k:Nat}{f:Int} (hk:k≠0):cdF S (n+1) k f=(S.map fun r=>if r.1<=(k:Int)/\f<=r.2.1 then r.2.2.2*cdF S n ((k:Int)-r.1).toNat r.2.2.1 else 0).sum:=by
 obtain⟨k',rfl⟩:∃k',k=k'+1:=⟨k-1,by lia⟩;rfl
theorem f0_:∀n:Nat,FnOk P w K mg base CX0 (n+1) T.f41 T.d41 ["k","first","standing","known"] (tl_ n K)
 |0=>⟨fun vs H Q E h=>(by obtain⟨_,_,_,_,_,_,_,_,_,h,_⟩:=h;exact absurd h (Nat.not_lt_zero _)),fun A outer s H args us vs Q E _ _ _ _ h=>(by obtain⟨_,_,_,_,_,_,_,_,_,h,_⟩:=h;exact absurd h (Nat.not_lt_zero _))⟩
 |n+1=>by
  have ih:=f0_ n;refine T.X41.F.ok bo_ (fun vs H Q E h=> ?_) (fun cdv A outer s H vs Q E hr h=> ?_)
  .obtain⟨_,_,_,_,_,_,rfl,_⟩:=h;rfl
  .obtain⟨k,f,v,kd,S,KK,rfl,hv,hkn,hkn',hn5,k3,f9,KK3,hS,hSl,kk⟩:=h;refine⟨_,(ac_ (b6_ (az_ ew_ (pv 0) ae_ (aC_ _)) (ag_ (ao_ ae_)) aP_)
   (ac_ (am_ (i:=4) bo_.nd rfl (by trivial) (bu_ (aa_ (pv 0) (aa_ (pv 1) ab_))))
   (ac_ (b6_ (rF_ (lV_ (jc_ hr) (pv 4) (pv 3)) rfl) (ac_ (am_ (i:=5) bo_.nd rfl (by trivial) ae_)
   (ac_ (aE_ AN rfl (aD_ (pv 2)) (ce_ rfl (as_ (ai_ (i:=6) bo_.nd rfl (by trivial)) (as_ (ai_ (i:=7) bo_.nd rfl (by trivial)) (as_ (ai_ (i:=8) bo_.nd rfl (by trivial)) (as_ (ai_ (i:=9) bo_.nd rfl (by trivial)) bl_))))) (ag_ (b6_ (fX_ (az_ hL_ (pv 6) (pv 0) (aC_ _)) (d3_ (az_ nO_ (pv 7) (pv 1) (aC_ _)))).pt (ag_ (jL_ (i:=5) bo_.nd rfl (by trivial) (ak_ bE_ (pv 9) (ah_ ih hr (by rfl) T.X41.m T.X41.F.kp T.X41.B .nil aq_ (aa_ (ak_ aT_ (pv 0) (pv 6)) (aa_ (pv 8) (aa_ (pv 2) (aa_ (pv 3) ab_)))))) id_)) aP_)))
   (ag_ (lM_ (jc_ hr) (pv 3) (pv 4) (pv 5) rfl)))) aP_)
   (ag_ (ao_ (lU_ (jc_ hr) (pv 3) (pv 4) (fun _ _=>rfl))))))), ?_⟩
   have hS1:∀r∈S,1<=r.1/\r.1<=3/\0<=r.2.1/\1<=r.2.2.1/\r.2.2.1<=20/\0<=r.2.2.2/\r.2.2.2<2^60:=fun r hr=>by
    have:=hS r hr;unfold rwB at this;simp only [A9,Ab] at this;lia
   refine⟨_,rfl,rfl,_,rfl,mA_ (fun e=> ?_) (fun e=> ?_)⟩
   .obtain rfl:k=0:=by lia
    exact kk H (fun _ _ e _=>e) hkn
   have k0:k≠0:=by lia
   refine⟨_,rfl,_,rfl,(by show 2<=sizeLine;decide),fun t H1 nt s1 ht=> ?_⟩;obtain⟨D,hkd,kn⟩:=hkn;have hkd1:=s1 _ _ hkd;have ht':H1 t=some (.tup ((er_ [(k:Int),(f:Int)]).map kV)):=by rw [fk_];exact ht
   have tkd:t≠kd:=by rintro rfl;rw [hkd] at nt;cases nt
   have b1:But kd H H1:=But.of_same s1;have fin:∀{H2:Hp}{D2:Tab},But kd H H2->H2 kd=some (.dT (df_ D2))->Kn S D2->H2 t=some (.tup ((er_ [(k:Int),(f:Int)]).map kV))->(∃v,D2.find? (fun x=>decide (x.1=[(k:Int),(f:Int)]))=some v)->∃a v,V.ref kd=V.ref a/\k4_ H2 a (.ref t) (some v)/\Q v H2:=fun{H2 D2} b2 h2 kn2 ht2 ⟨x,hx⟩=>by
    have hg:=k4_.t h2 ht2;rw [ez_,hx] at hg;refine⟨kd,_,rfl,hg, ?_⟩;obtain⟨k',f',e1,_,_,e2⟩:=kn2.key x (List.mem_of_find?_eq_some hx);have e3:x.1=[(k:Int),(f:Int)]:=by simpa using List.find?_some hx
    rw [e1] at e3;simp only [List.cons.injEq] at e3;have e4:k'=k:=by lia
    have e5:f'=f:=by lia
    subst e4 e5;show Q (.int x.2) H2;rw [e2];exact kk H2 b2 ⟨D2,h2,kn2⟩
   refine⟨_,rfl,_,rfl,kd,_,rfl,k4_.t hkd1 ht', ?_⟩;rw [ez_];cases hfind:D.find? (fun x=>decide (x.1=[(k:Int),(f:Int)])) with
   |some x=>
    refine⟨_,rfl,fm_ ?_⟩;exact⟨_,rfl,_,rfl,fin b1 hkd1 kn ht' ⟨x,hfind⟩⟩
   |none=>
    refine⟨_,rfl,kS_ ?_⟩;obtain⟨da,dvs,rfl,hda,hdi⟩:=b9_ hv;have dakd:da≠kd:=by rintro rfl;rw [hkd] at hda;cases hda
    have dlen:dvs.length=S.length:=by rw [hdi.length,A1]
    refine⟨_,rfl,da,rfl,⟨_,SqL.of (b1 _ _ hda dakd)⟩,bj_ (xs:=dvs) (fun i σ H2=>(∃v6 v7 v8 v9,σ=[some (.int k),some (.int f),some (.ref da),some (.ref kd),some (.ref t),some (.int (((S.take i).map fun r=>if r.1<=(k:Int)/\(f:Int)<=r.2.1 then r.2.2.2*cdF S 2 ((k:Int)-r.1).toNat r.2.2.1 else 0).sum)),v6,v7,v8,v9])/\But kd H1 H2/\KnD H2 kd S) ⟨⟨none,none,none,none,rfl⟩,(fun _ _ e _=>e),⟨D,hkd1,kn⟩⟩ (fun i σ H2 _ h=>SqL.of (h.2.1 _ _ (b1 _ _ hda dakd) dakd)) ?_ ?_⟩
    .rintro i y σ H2 hi ⟨⟨v6,v7,v8,v9,rfl⟩,b2,D2,hkd2,kn2⟩;obtain⟨dd,hdd,hy⟩:=hdi.of_get hi;rw [A5] at hdd;obtain⟨r,hr',rfl⟩:=A3.mp hdd;obtain⟨r1,r2,r3,r4',r5,r6,r7⟩:=hS1 r (AL hr');obtain⟨a,rfl,ha⟩:=hR_ (xs:=r4 r) hy;have akd:a≠kd:=by rintro rfl;rw [hkd] at ha;cases ha
     have ha2:H2 a=some (.tup ((r4 r).map V.int)):=b2 _ _ (b1 _ _ ha akd) akd;have es:((S.take (i+1)).map fun r=>if r.1<=(k:Int)/\(f:Int)<=r.2.1 then r.2.2.2*cdF S 2 ((k:Int)-r.1).toNat r.2.2.1 else 0).sum=((S.take i).map fun r=>if r.1<=(k:Int)/\(f:Int)<=r.2.1 then r.2.2.2*cdF S 2 ((k:Int)-r.1).toNat r.2.2.1 else 0).sum+(if r.1<=(k:Int)/\(f:Int)<=r.2.1 then r.2.2.2*cdF S 2 ((k:Int)-r.1).toNat r.2.2.1 else 0):=by
      rw [AF,hr',AD,CM];simp
     rw [es];refine⟨a,_,rfl,SqT.of ha2,rfl,_,_,rfl,_,_,rfl,_,_,rfl,_,_,rfl,rfl, ?_⟩;refine⟨_,rfl,_,rfl,_,_,rfl,rfl,_,rfl,es_ (fun h1=> ?_) (fun h1=> ?_)⟩
     .refine⟨_,rfl,_,rfl,_,_,rfl,rfl,_,rfl,es_ (fun h2=> ?_) (fun h2=> ?_)⟩
      .rw [A8 ⟨h1,h2⟩];obtain⟨k',hk'⟩:=Am (show 0<=(k:Int)-r.1 by lia);obtain⟨f',hf'⟩:=Am (show 0<=r.2.2.1 by lia);refine⟨_,rfl,_,rfl,_,rfl,_,rfl,_,_,rfl,rfl,_,rfl,_,rfl,_,rfl,k',f', .ref da,kd,S,KK,by show [V.int ((k:Int)-r.1),V.int r.2.2.1,V.ref da,V.ref kd]++[]=_;rw [hk',hf'];rfl,pg_ hkd2 (fun _ _ e _=>e) (pg_ hkd1 b2 (hv.mono s1)),⟨D2,hkd2,kn2⟩,by lia,by lia,by lia,by lia,KK3,hS,hSl,fun H3 b3 hkn3=> ?_⟩;rw [hk',AV,hf',ks_ S (fun r hr=>(hS1 r hr).1) 2 3 k' (f':Int) (by lia) (by lia)];refine⟨_,_,rfl,rfl, .inl ⟨by lia,by lia⟩,_,_,rfl,rfl,⟨_,_,_,_,rfl⟩,b2.trans b3,hkn3⟩
      .rw [A6 (fun z=>h2 z.2),Int.add_zero];exact⟨⟨_,_,_,_,rfl⟩,b2,D2,hkd2,kn2⟩
     .rw [A6 (fun z=>h1 z.1),Int.add_zero];exact fm_ ⟨⟨_,_,_,_,rfl⟩,b2,D2,hkd2,kn2⟩
    .rintro σ H2 ⟨⟨v6,v7,v8,v9,rfl⟩,b2,D2,hkd2,kn2⟩;rw [dlen,AR];have ev:((S.map fun r=>if r.1<=(k:Int)/\(f:Int)<=r.2.1 then r.2.2.2*cdF S 2 ((k:Int)-r.1).toNat r.2.2.1 else 0).sum)=cdF S 3 k (f:Int):=(qH_ k0).symm;rw [ev];have ht2:H2 t=some (.tup ((er_ [(k:Int),(f:Int)]).map kV)):=b2 _ _ ht' tkd;refine⟨_,rfl,_,rfl,_,rfl,kd,_,rfl,q0_.t hkd2 ht2 (qa_ (by rw [gk_];have:=kn2.size;lia)), ?_⟩;rw [gj_];refine⟨_,rfl,_,rfl,fin ((b1.trans b2).trans But.upd) ad_ (kn2.put k3 f9 rfl) (by rw [ar_ tkd];exact ht2) ?_⟩;have:=po_ D2 [(k:Int),(f:Int)] (cdF S 3 k (f:Int));exact⟨_,this⟩
theorem bK_:FnOk P w K mg base CX0 12 T.f42 T.d42 ["d","k"] (tm_ K):=by
 refine T.X42.F.ok ev_ (fun vs H Q E h=> ?_) (fun cdv A outer s H vs Q E hr h=> ?_)
 .obtain⟨_,_,rfl,_⟩:=h;rfl
 .obtain⟨d,k,rfl,d1,d5,k3,kk⟩:=h;refine⟨_,(ag_ (ao_ (ah_ (f0_ T 5) (hr.mono (by decide)) (by rfl) T.X41.m T.X41.F.kp T.X41.B .nil aq_ (aa_ (pv 1) (aa_ ae_ (aa_ (ah_ (hN_ T) (hr.mono (by decide)) (by rfl) T.X40.m T.X40.F.kp T.X40.B .nil aq_ (aa_ (pv 0) (aa_ (pv 1) ab_))) (aa_ jP_ ab_))))))), ?_⟩;obtain⟨c2,c3,_⟩:=kX_ d1 d5 k3;refine⟨_,rfl,_,rfl,_,rfl,d,k,rfl,d1,d5,k3,fun l H1 s1 nl hl=>fun kd nkd=> ?_⟩;refine⟨k,1, .ref l,kd,lr_ (d:Int) k,k,rfl,hl.mono (al_.new nkd),⟨[],ad_,Kn.nil⟩,by lia,by decide,k3,by decide,k3,c2,c3,fun H2 b2 _=> ?_⟩;exact kk H2 fun c o e=>b2 _ _ (al_.new nkd _ _ (s1 _ _ e)) (by rintro rfl;rw [s1 _ _ e] at nkd;cases nkd)
theorem cK_:FnOk P w K mg base (CX1 P w) 13 T.f43 T.d43 ["d","k"] (tp_ T.c_NoBound):=by
 refine T.X43.F.okx cD_ (fun vs H Q E h=> ?_) (fun cdv A outer s H vs Q E hr h hR hp=> ?_)
 .obtain⟨_,_,rfl,_⟩:=h;rfl
 .obtain⟨d,k,rfl,d1,d12,k3,kk⟩:=h;refine⟨_,(ac_ (aF_ (ah_ (aU_ T) (hr.mono (by decide)) (by rfl) T.X1.m T.X1.F.kp T.X1.B .nil hp (aa_ (pv 0) (aa_ ae_ (aa_ ae_ ab_)))))
   (ac_ (aF_ (ah_ (aU_ T) (hr.mono (by decide)) (by rfl) T.X1.m T.X1.F.kp T.X1.B .nil hp (aa_ (pv 1) (aa_ ae_ (aa_ ae_ ab_)))))
   (ag_ (ao_ (ah_ (bK_ T) (hr.mono (by decide)) (by rfl) T.X42.m T.X42.F.kp T.X42.B .nil aq_ (aa_ (pv 0) (aa_ (pv 1) ab_))))))), ?_⟩
  refine⟨_,rfl, .int d,1,12,rfl, .inl ⟨_,rfl⟩,fun _=> ?_,fun h=>absurd ⟨_,rfl,by lia,by lia⟩ h⟩;refine⟨_,rfl, .int k,0,3,rfl, .inl ⟨_,rfl⟩,fun _=> ?_,fun h=>absurd ⟨_,rfl,by lia,by lia⟩ h⟩;exact⟨_,rfl,_,rfl,d,k,rfl,d1,by lia,k3,kk⟩
theorem c5_:FnOk P w K mg base CX0 1 T.f44 T.d44 ["k"] (rk_ K):=by
 refine T.X44.F.ok fD_ (fun vs H Q E h=> ?_) (fun cdv A outer s H vs Q E hr h=> ?_)
 .obtain⟨_,rfl,_⟩:=h;rfl
 .obtain⟨k,rfl,k3,kk⟩:=h;refine⟨_,(ag_ (ao_ (ak_ ay_ (ak_ bE_ ae_ (pv 0)) ae_))), ?_⟩;exact⟨_,rfl,_,_,rfl,rfl, .inl ⟨by decide,by decide⟩,_,_,rfl,rfl,kk⟩
def vsC (k n:Nat):List Int:=(List.range n).map fun m=>fN_ (2*k+1+m) k
theorem cy_:FnOk P w K mg base (CX1 P w) 13 T.f45 T.d45 ["k"] (ta_ T.c_NoBound):=by
 refine T.X45.F.okx cw_ (fun vs H Q E h=> ?_) (fun cdv A outer s H vs Q E hr h hR hp=> ?_)
 .obtain⟨_,rfl,_⟩:=h;rfl
 .obtain⟨v,rfl,ht,kk,ke⟩:=h;refine⟨_,(ac_ (aF_ (ah_ (aU_ T) (hr.mono (by decide)) (by rfl) T.X1.m T.X1.F.kp T.X1.B .nil hp (aa_ (pv 0) (aa_ ae_ (aa_ ae_ ab_)))))
   (ac_ (am_ (i:=1) cw_.nd rfl (by trivial) (ah_ (c5_ T) (hr.mono (by decide)) (by rfl) T.X44.m T.X44.F.kp T.X44.B .nil aq_ (aa_ (pv 0) ab_)))
   (ag_ (ao_ (ah_ (kK_ T) (hr.mono (by decide)) (by rfl) T.X14.m T.X14.F.kp T.X14.B .nil aq_ (aa_ (pv 1) (aa_ (bi_ (XN:=["k","start"]) (sc:=af_ bt_) (N:=["degree","k"]) (own:=1) (js:=[0]) rfl (by ac_nf) rfl rfl (a7_ (by rfl) T.n_range (aa_ (pv 1) (aa_ (ak_ ay_ (ak_ ay_ (pv 1) (ak_ bE_ ae_ (pv 0))) ae_) ab_))) (fun _ _ _ _=>(ai_ (i:=0) (show List.Nodup (["degree","k"]:List Str) by ac_nf) rfl (Or.inl rfl) (.inr rfl))) (aI_ (by decide)) (fun _ _ _ _=>be_) (fun _ _ _ _=>(ah_ (bK_ T) (hr.mono (by decide)) (by rfl) T.X42.m T.X42.F.kp T.X42.B .nil aq_ (aa_ (pv 0) (aa_ (pv 1) ab_))))) ab_))))))), ?_⟩
  refine⟨_,rfl,v,0,3,rfl,ht,fun⟨i,ei,i1,i2⟩=> ?_,fun h=>⟨by decide,ke h⟩⟩;subst ei;obtain⟨k,rfl⟩:=Am i1;have k3:k<=3:=by lia
  have kk:=kk k rfl k3;refine⟨_,rfl,k,rfl,k3, ?_⟩;refine⟨_,rfl,_,rfl,_,rfl,_,rfl,_,_,rfl,rfl, .inl ⟨by decide,by decide⟩,_,_,rfl,rfl,_,_,rfl,rfl,_,_,rfl,⟨by lia,by lia,by lia,by lia⟩,fun acc na=> ?_⟩;rw [show((((2*k+1:Nat):Int)+2*(k:Int)+1)-((2*k+1:Nat):Int)).toNat=2*k+1 by lia];refine cY_ (lo:=((2*k+1:Nat):Int)) (n:=2*k+1) (own:=1) (js:=[0]) (fun i H2=>al_ H H2/\H2 acc=some (.lst ((vsC k i).map V.int))) ⟨al_.new na,ad_⟩ ?_ ?_ aJ_ bf_ ?_
  .rintro i H2 hi ⟨s2,hacc⟩;refine k9_ ?_;refine⟨_,rfl,_,rfl,2*k+1+i,k,by rfl,by lia,by lia,k3,fun H3 s3=>⟨acc,_,_,rfl,rfl,s3 _ _ hacc,aj_ (by unfold vsC;rw [A1,A1,C1];lia),(s2.trans s3).put na, ?_⟩⟩;rw [ad_];unfold vsC;rw [B9,AD,AD];rfl
  .rintro H2 ⟨s2,hacc⟩;have vl:(vsC k (2*k+1)).length=2*k+1:=by unfold vsC;rw [A1,C1]
   have vg:∀m:Nat,m<2*k+1->(vsC k (2*k+1)).getD m 0=fN_ (2*k+1+m) k:=fun m hm=>by
    unfold vsC;rw [AE,A5,List.getElem?_range hm];rfl
   obtain⟨sc1,sc2,sc3,sc4,sc5,sc6⟩:=lv_ k (by lia);refine⟨_,acc,vsC k (2*k+1),rfl,SqL.of hacc,by lia,fun x hx=> ?_,Ac (m:=100) (by lia) (by decide),fun t l zs b H' s' nl ht' hl' thru=> ?_⟩
   .unfold vsC at hx;obtain⟨m,hm,rfl⟩:=AY.mp hx;have hm:=Al.mp hm;obtain⟨_,_,c0,c1,_⟩:=kX_ (d:=2*k+1+m) (k:=k) (by lia) (by lia) k3;exact by_ (n:=100) (by lia) (by decide)
   .obtain⟨t1,t2,t3,_⟩:=thru;rw [vl] at t2 t3;obtain⟨e1,e2⟩:=tz_ (n:=2*k+1) (s:=((2*k+1:Nat):Int)) t1 (tC_ k (by lia)) t2 (by lia) fun m hm=>by
     rw [t3 m hm,vg m hm];have:=(kX_ (d:=2*k+1+m) (k:=k) (by lia) (by lia) k3).2.2.2.2.1 (by lia);rw [show((2*k+1:Nat):Int)+(m:Int)=((2*k+1+m:Nat):Int) by lia,this]
     grind
    subst e1 e2;exact kk t l H' (s2.trans s') (s2.free nl) ht' hl'
  .rintro σ H R R' k' ⟨v1,e1,v2,e2,d,k0,e3,h1,h2,h3,h⟩;exact⟨v1,e1,v2,e2,d,k0,e3,h1,h2,h3,fun H' s'=>k' _ _ (h H' s')⟩
theorem gI_:FnOk P w K mg base (CX1 P w) 14 T.f46 T.d46 ["k"] (rq_ T.c_NoBound):=by
 refine T.X46.F.okx bN_ (fun vs H Q E h=> ?_) (fun cdv A outer s H vs Q E hr h hR hp=> ?_)
 .obtain⟨_,rfl,_⟩:=h;rfl
 .obtain⟨v,rfl,ht,kk,ke⟩:=h;refine⟨_,(ac_ (aF_ (ah_ (aU_ T) (hr.mono (by decide)) (by rfl) T.X1.m T.X1.F.kp T.X1.B .nil hp (aa_ (pv 0) (aa_ ae_ (aa_ ae_ ab_)))))
   (ac_ (am_ (i:=1) bN_.nd rfl (by trivial) (ah_ (cy_ T) (hr.mono (by decide)) (by rfl) T.X45.m T.X45.F.kp T.X45.B .nil hp (aa_ (pv 0) ab_)))
   (ac_ (am_ (i:=2) bN_.nd rfl (by trivial) (ah_ (c5_ T) (hr.mono (by decide)) (by rfl) T.X44.m T.X44.F.kp T.X44.B .nil aq_ (aa_ (pv 0) ab_)))
   (ac_ (PS.quiet (eE_ AN (fX_ (az_ iZ_ (pv 2) ae_ (aC_ _)) (d3_ (az_ (rQ_ hr) (ah_ (nQ_ T) (hr.mono (by decide)) (by rfl) T.X13.m T.X13.F.kp T.X13.B .nil aq_ (aa_ (pv 1) (aa_ (ak_ aT_ (pv 2) ae_) ab_))) (jN_ (aa_ (ah_ (bK_ T) (hr.mono (by decide)) (by rfl) T.X42.m T.X42.F.kp T.X42.B .nil aq_ (aa_ (ak_ aT_ (pv 2) ae_) (aa_ (pv 0) ab_))) (aa_ ae_ ab_))) (aC_ _)))).pt (ag_ (jL_ (i:=2) bN_.nd rfl (by trivial) ae_ o0_))))
   (ag_ (ao_ (pv 2))))))), ?_⟩
  refine⟨_,rfl,v,0,3,rfl,ht,fun⟨i,ei,i1,i2⟩=> ?_,fun h=>⟨by decide,ke h⟩⟩;subst ei;obtain⟨k,rfl⟩:=Am i1;have k3:k<=3:=by lia
  have kk:=kk k rfl k3;obtain⟨sc1,sc2,sc3,sc4,sc5,sc6⟩:=lv_ k (by lia);have lc:=tC_ k (by lia);refine⟨_,rfl, .int k,rfl, .inl ⟨_,rfl⟩,fun k' ek _ t l H1 s1 nl ht1 hl1=> ?_,fun h=>absurd ⟨_,rfl,by lia,by lia⟩ h⟩;obtain rfl:k'=k:=by have:=V.int.inj ek;lia
  refine⟨_,rfl,k',rfl,k3, ?_⟩;refine ey_ (fun σ H2=>∃j:Nat,σ=[some (.int k'),some (.ref t),some (.int j)]/\hC k'<=j/\j<=2*k'+1/\al_ H1 H2) (fun(σ:L2.St) _=>match σ[2]? with|some (some (V.int j))=>j.toNat|_=>0) ⟨2*k'+1,rfl,sc6,A7 _,al_.refl _⟩ ?_ ?_
  .rintro σ H2 ⟨j,rfl,j1,j2,s2⟩;refine⟨_,rfl,_,_,rfl,rfl,_,rfl,es_ (fun h1=> ?_) (fun h1=> ?_)⟩
   .obtain⟨d,hd⟩:∃d:Nat,j=d+1:=⟨j-1,by lia⟩;have ed:(j:Int)-1=(d:Int):=by lia
    refine⟨_,rfl,_,rfl,_,_,rfl,rfl,t,l,pC k',bC k',(d:Int),by show [V.ref t,V.int ((j:Int)-1)]++[]=_;rw [ed];rfl,s2 _ _ ht1,s2 _ _ hl1,⟨by lia,fun x hx=>Ac (sc2 x hx) (by decide),lc.1,by lia⟩,Ac (m:=100) (by lia) (by decide),fun u x y H3 s3 hu vl=> ?_⟩;rw [mG_] at vl;obtain⟨_,_,_,_,c5,c6⟩:=kX_ (d:=d) (k:=k') (by lia) (by lia) k3;refine⟨_,rfl,_,_,rfl,rfl,_,rfl,d,k',by show [V.int ((j:Int)-1),V.int (k':Int)]++[]=_;rw [ed];rfl,by lia,by lia,k3,fun H4 s4=>⟨(by show 2<=sizeLine;decide),fun w hw=> ?_⟩⟩;have hu5:upd H4 w (.tup [.int (fN_ d k'), .int 1]) u=some (.tup [.int x, .int y]):=al_.new hw _ _ (s4 _ _ hu);refine⟨1,_,qu_ hu5 ad_,by decide,_,rfl, ?_⟩;have s25:al_ H1 (upd H4 w (.tup [.int (fN_ d k'), .int 1])):=((s2.trans s3).trans s4).trans (al_.new hw);by_cases hh:hC k'<=d
    .have e:=(ow_ (c:=fN_ d k') (by lia) vl).mpr (c5 hh);rw [Ak e.1,Ak e.2];refine kS_ ⟨_,rfl,_,_,rfl,rfl,⟨d,by rw [<-ed];rfl,hh,by lia,s25⟩, ?_⟩;show((j:Int)-1).toNat<(j:Int).toNat;lia
    .have e:¬(x=fN_ d k'/\y=1):=fun z=>c6 (by lia) ((ow_ (c:=fN_ d k') (by lia) vl).mp z);have eb:(decide (x=fN_ d k')&&decide (y=1))=false:=by
      rw [Bool.and_eq_false_iff];by_cases ex:x=fN_ d k'
      .right;exact AX fun ey=>e ⟨ex,ey⟩
      .left;exact AX ex
     rw [eb];refine fm_ ⟨_,rfl, ?_⟩;have:=kk _ (s1.trans s25)
     rwa [show hC k'=j by lia] at this
   .refine fm_ ⟨_,rfl, ?_⟩;have:=kk _ (s1.trans s2)
    rwa [show hC k'=j by lia] at this
  .intro σ H Q1 Q2 k h;obtain⟨v1,e1,i1,j1,e2,e3,b,e4,h⟩:=h;refine⟨v1,e1,i1,j1,e2,e3,b,e4, ?_⟩;cases b with
   |false=>exact fm_ (k _ _ (by simpa using h))
   |true=>
    rw [A8 rfl] at h;obtain⟨v2,e5,v3,e6,i2,j2,e7,e8,t,p,zs,bb,c,e9,h1,h2,gv,hc,h⟩:=h;refine kS_ ⟨v2,e5,v3,e6,i2,j2,e7,e8,t,p,zs,bb,c,e9,h1,h2,gv,hc,fun u x y H' s' hu vl=> ?_⟩;obtain⟨v4,e10,i3,j3,e11,e12,v5,e13,d,k0,e14,d1,d2,d3,h⟩:=h u x y H' s' hu vl;refine⟨v4,e10,i3,j3,e11,e12,v5,e13,d,k0,e14,d1,d2,d3,fun H'' s''=> ?_⟩;obtain⟨sz,h⟩:=h H'' s'';refine⟨sz,fun w hw=> ?_⟩;obtain⟨n,b2,er,hn,b3,eb,h⟩:=h w hw;exact⟨n,b2,er,hn,b3,eb,k _ _ h⟩
theorem f1_:FnOk P w K mg base CX0 1 T.f51 T.d51 ["_law_tops","_law_d"] (ur_ K):=by
 refine T.X51.F.ok cR_ (fun vs H Q E h=> ?_) (fun cdv A outer s H vs Q E hr h=> ?_)
 .obtain⟨_,_,_,rfl,_⟩:=h;rfl
 .obtain⟨a,zs,c,rfl,hS,hn,hb,hc,kk⟩:=h;refine⟨_,(ac_ (am_ (i:=2) cR_.nd rfl (by trivial) ae_)
   (ac_ (aE_ AN rfl (oL_ (by rfl) T.n_reversed (pv 0)) (ai_ (i:=3) cR_.nd rfl (by trivial)) (ag_ (am_ (i:=2) cR_.nd rfl (by trivial) (ak_ ay_ (ak_ (dm_ qK_) (pv 2) (pv 1)) (pv 3)))))
   (ag_ (ao_ (pv 2))))), ?_⟩
  refine⟨_,rfl,a,_,rfl,hS,mP_ (xs:=zs.map V.int) rfl (fun i σ H2=>∃v:Option V,σ=[some (.ref a),some (.int c),some (.int (hor c (zs.reverse.take i))),v]/\H2=H) ⟨none,rfl,rfl⟩ (fun i σ H2 _ h=>by obtain⟨_,_,rfl⟩:=h;exact hS) ?_ ?_⟩
  .rintro i x σ H2 hi ⟨v,rfl,rfl⟩;rw [<-List.map_reverse,A5] at hi;obtain⟨z,hz,rfl⟩:=A3.mp hi;have hlt:i<zs.reverse.length:=(A'.mp hz).1;have bd:=o3_ (a:=c) (l:=zs.reverse) hc (fun x hx=>hb x (by simpa using hx)) i (Ag hlt);rw [List.length_reverse] at hlt;refine⟨_,rfl,_,rfl,_,_,rfl,rfl,⟨bY_ bd (by lia),bY_ hc (by decide)⟩,_,rfl,_,_,rfl,rfl,some (.int z), ?_,rfl⟩;have e3:zs.reverse.take (i+1)=zs.reverse.take i++[z]:=by rw [AF,hz];rfl
   rw [e3,dO_];rfl
  .rintro σ H2 ⟨v,rfl,rfl⟩;rw [A1,Bv (by simp),mG_];exact⟨_,rfl,kk⟩
theorem rT_:FnOk P w K mg base CX0 15 T.f52 T.d52 ["_law_script"] (jz_ K):=by
 refine T.X52.F.ok ej_ (fun vs H Q E h=> ?_) (fun cdv A outer s H vs Q E hr h=> ?_)
 .obtain⟨_,_,rfl,_⟩:=h;rfl
 .obtain⟨a,ns,rfl,hS,hl,kk⟩:=h;refine⟨_,(ac_ (am_ (i:=1) ej_.nd rfl (by trivial) (ah_ (i5_ T) (hr.mono (by decide)) (by rfl) T.X48.m T.X48.F.kp T.X48.B .nil aq_ (aa_ (ah_ (fa_ T) (hr.mono (by decide)) (by rfl) T.X47.m T.X47.F.kp T.X47.B .nil aq_ (aa_ (pv 0) (aa_ ae_ ab_))) (aa_ ae_ ab_))))
   (ac_ (am_ (i:=2) ej_.nd rfl (by trivial) (ah_ (dJ_ T) (hr.mono (by decide)) (by rfl) T.X50.m T.X50.F.kp T.X50.B .nil aq_ (aa_ (pv 1) (aa_ ae_ ab_))))
   (ac_ (am_ (i:=3) ej_.nd rfl (by trivial) (ak_ ay_ ae_ (ah_ (dJ_ T) (hr.mono (by decide)) (by rfl) T.X50.m T.X50.F.kp T.X50.B .nil aq_ (aa_ (pv 1) (aa_ ae_ ab_)))))
   (ac_ (lN_ (ah_ (cy_ T) (hr.mono (by decide)) (by rfl) T.X45.m T.X45.F.kp T.X45.B .nil jQ_ (aa_ (pv 2) ab_)) (ce_ rfl (as_ (ai_ (i:=4) ej_.nd rfl (by trivial)) (as_ (ai_ (i:=5) ej_.nd rfl (by trivial)) bl_))))
   (ac_ (am_ (i:=6) ej_.nd rfl (by trivial) (ah_ (gI_ T) (hr.mono (by decide)) (by rfl) T.X46.m T.X46.F.kp T.X46.B .nil jQ_ (aa_ (pv 2) ab_)))
   (ac_ (am_ (i:=7) ej_.nd rfl (by trivial) (ah_ (dH_ T) (hr.mono (by decide)) (by rfl) T.X29.m T.X29.F.kp T.X29.B .nil aq_ (aa_ (pv 3) (aa_ (pv 2) ab_))))
   (ac_ (b6_ (nE_ (lL_ (hH_ (ax_ eL_ (by rfl) T.n_isinstance boot_isinstance (aa_ (pv 7) (aa_ (gz_ (v:= .ty "int") (by rfl) T.n_int boot_int (by rfl)) ab_))))) (lK_ (hH_ (ax_ eL_ (by rfl) T.n_isinstance boot_isinstance (aa_ (pv 7) (aa_ (gz_ (v:= .ty "bool") (by rfl) T.n_bool boot_bool (by rfl)) ab_)))))).pt (ag_ (ao_ rN_)) aP_)
   (ac_ (b6_ (az_ nO_ (pv 3) (pv 6) (aC_ _)) (ag_ (ao_ (gy_ ew_ (ah_ (f1_ T) (hr.mono (by decide)) (by rfl) T.X51.m T.X51.F.kp T.X51.B .nil aq_ (aa_ (pv 4) (aa_ (pv 3) ab_))) (ak_ bE_ (pv 5) (pv 7)) (aC_ _)))) aP_)
   (ac_ (b6_ (fX_ (az_ ew_ (pv 3) (ak_ aT_ (pv 6) ae_) (aC_ _)) (d3_ (az_ ew_ (ah_ (f1_ T) (hr.mono (by decide)) (by rfl) T.X51.m T.X51.F.kp T.X51.B .nil aq_ (aa_ (pv 4) (aa_ (pv 3) ab_))) (ak_ bE_ (pv 5) (pv 7)) (aC_ _)))).pt (ag_ (ao_ rN_)) aP_)
   (ag_ (ao_ (gy_ ew_ (ah_ (cK_ T) (hr.mono (by decide)) (by rfl) T.X43.m T.X43.F.kp T.X43.B .nil jQ_ (aa_ (pv 3) (aa_ (pv 2) ab_))) (pv 7) (aC_ _))))))))))))), ?_⟩
  refine⟨_,rfl,a,ns,0,rfl,hS,by decide,fun z=>⟨z,1,rfl,by decide,by decide,fun b far st H1 s1 nb hb hf hst=> ?_⟩⟩;refine⟨_,rfl,b,4,far,st,rfl,hb,hf,hst,by decide,by decide,fun x far1 st1 x0 x1 hf1 hst1=> ?_⟩;obtain⟨k,rfl⟩:=Am x0;have k3:k<=3:=by lia
  obtain⟨sc1,sc2,sc3,sc4,sc5,sc6⟩:=lv_ k (by lia);have hb1:Bag (upd H1 b (.lst [.int far1, .int st1])) b far1 st1:=ad_;generalize upd H1 b (.lst [.int far1, .int st1])=H2 at hb1⊢;refine⟨_,rfl,b,5,far1,st1,rfl,hb1,hf1,hst1,by decide,by decide,fun y far2 st2 y0 y1 hf2 hst2=>⟨_,_,rfl,rfl, ?_⟩⟩;obtain⟨d,hd⟩:=Am (show 0<=1+y by lia);have e1:(fun i j=>V.int (i+j)) 1 y=V.int (d:Int):=by rw [<-hd]
  rw [e1];generalize upd H2 b (.lst [.int far2, .int st2])=H3;refine⟨_,rfl, .int k,rfl, .inl ⟨_,rfl⟩,fun k' ek _ t l H4 s4 nl ht hl4=> ?_,fun h=>absurd ⟨_,rfl,by lia,by lia⟩ h⟩;obtain rfl:k'=k:=by have:=V.int.inj ek;lia
  refine⟨t,_,rfl,SqT.of ht,rfl,_,_,rfl,_,_,rfl,rfl, ?_⟩;refine⟨_,rfl, .int k',rfl, .inl ⟨_,rfl⟩,fun k2 ek2 _ H5 s5=> ?_,fun h=>absurd ⟨_,rfl,by lia,by lia⟩ h⟩;obtain rfl:k2=k':=by have:=V.int.inj ek2;lia
  refine⟨_,rfl,_,rfl,d,k2,rfl,(by unfold Wide;lia),k3,fun H6 s6=> ?_⟩;refine⟨_,rfl,_,"int",_,true,rfl, .int _,g4_,true,rfl,fm_ ⟨_,rfl,_,"bool",_,false,rfl, .int _,eq_,false,rfl,fm_ ?_⟩⟩;have hl6:=s6 _ _ (s5 _ _ hl4);have lc:=(tC_ k2 (by lia)).1;have ec:=tP_ (d:=d) (k:=k2) (by lia) (by lia) k3;obtain⟨_,_,c0,c1,cge,clt⟩:=kX_ (d:=d) (k:=k2) (by lia) (by lia) k3;rw [ec] at c0 c1 cge clt;have b2:∀x∈pC k2,x.natAbs<=2^60:=fun x hx=>by_ (n:=20) (Ac (sc2 x hx) (by decide)) (by decide);refine⟨_,rfl,_,rfl,_,_,rfl,rfl,_,rfl,es_ (fun hge=> ?_) (fun hlt=> ?_)⟩
  .refine⟨_,rfl,_,rfl,l,pC k2,_,rfl,SqL.of hl6,by lia,fun x hx=>by_ (n:=20) (Ac (sc2 x hx) (by decide)) (by decide),Ac (m:=100) (by lia) (by decide), ?_⟩;refine⟨_,rfl,_,rfl,_,_,rfl,rfl, .inl ⟨by lia,by lia⟩,rfl, ?_⟩;rw [Ak (by rw [cge (by lia),Cz])];exact kk _
  .have d3:d<hC k2:=by lia
   by_cases he:d+1=hC k2
   .refine⟨_,rfl,_,rfl,_,_,rfl,rfl,rfl,_,rfl,mA_ (fun _=> ?_) (fun h=>absurd (show(d:Int)=((hC k2:Nat):Int)-1 by lia) h)⟩;refine⟨_,rfl,_,rfl,l,pC k2,_,rfl,SqL.of hl6,by lia,fun x hx=>by_ (n:=20) (Ac (sc2 x hx) (by decide)) (by decide),Ac (m:=100) (by lia) (by decide), ?_⟩;refine⟨_,rfl,_,rfl,_,_,rfl,rfl, .inl ⟨by lia,by lia⟩,rfl,_,rfl,mA_ (fun h=>absurd ?_ (clt he)) (fun _=> ?_)⟩
    .rw [Cz];exact h
    .refine⟨_,rfl,_,rfl,d,k2,rfl,by lia,by lia,k3,fun H7 s7=>⟨_,rfl,rfl, ?_⟩⟩;rw [Ak (by rw [ec])];exact kk _
   .refine⟨_,rfl,_,rfl,_,_,rfl,rfl,rfl,_,rfl,mA_ (fun h=>absurd h (by lia)) (fun _=> ?_)⟩;refine⟨_,rfl,_,rfl,d,k2,rfl,by lia,by lia,k3,fun H7 s7=>⟨_,rfl,rfl, ?_⟩⟩;rw [Ak (by rw [ec])];exact kk _
end
theorem fb1 {K:W.Frag}{mg:Str->Option Value}{n:Str}{st:Stmt}{ps:List Str}{f:Addr}{d:FuncData} (F:Fun K n n st f d) (e:mg n=some (.ref f)) (hp:ps.length=1) (h:∀(kV dc pm:Value) (an:Option Addr) (cd ct x0:Value),bindArgs (W.fnOf n n (ct_ st) (bT_ st) (af_ st) .none kV dc pm an cd ct) ⟨[x0],[]⟩=pure (ps.zip [x0])):Fb K mg n st ps f d:=by
 refine⟨F,F.binds fun kV dc pm an cd ct us hl=> ?_,e⟩;rw [hp] at hl;rcases us with _|⟨x0,us⟩
 .simp at hl
 rcases us with _|⟨y,us⟩
 .exact h kV dc pm an cd ct x0
 .simp at hl
theorem fb2 {K:W.Frag}{mg:Str->Option Value}{n:Str}{st:Stmt}{ps:List Str}{f:Addr}{d:FuncData} (F:Fun K n n st f d) (e:mg n=some (.ref f)) (hp:ps.length=2) (h:∀(kV dc pm:Value) (an:Option Addr) (cd ct x0 x1:Value),bindArgs (W.fnOf n n (ct_ st) (bT_ st) (af_ st) .none kV dc pm an cd ct) ⟨[x0,x1],[]⟩=pure (ps.zip [x0,x1])):Fb K mg n st ps f d:=by
 refine⟨F,F.binds fun kV dc pm an cd ct us hl=> ?_,e⟩;rw [hp] at hl;rcases us with _|⟨x0,us⟩
 .simp at hl
 rcases us with _|⟨x1,us⟩
 .simp at hl
 rcases us with _|⟨y,us⟩
 .exact h kV dc pm an cd ct x0 x1
 .simp at hl
theorem fb3 {K:W.Frag}{mg:Str->Option Value}{n:Str}{st:Stmt}{ps:List Str}{f:Addr}{d:FuncData} (F:Fun K n n st f d) (e:mg n=some (.ref f)) (hp:ps.length=3) (h:∀(kV dc pm:Value) (an:Option Addr) (cd ct x0 x1 x2:Value),bindArgs (W.fnOf n n (ct_ st) (bT_ st) (af_ st) .none kV dc pm an cd ct) ⟨[x0,x1,x2],[]⟩=pure (ps.zip [x0,x1,x2])):Fb K mg n st ps f d:=by
 refine⟨F,F.binds fun kV dc pm an cd ct us hl=> ?_,e⟩;rw [hp] at hl;rcases us with _|⟨x0,us⟩
 .simp at hl
 rcases us with _|⟨x1,us⟩
 .simp at hl
 rcases us with _|⟨x2,us⟩
 .simp at hl
 rcases us with _|⟨y,us⟩
 .exact h kV dc pm an cd ct x0 x1 x2
 .simp at hl
theorem fb4 {K:W.Frag}{mg:Str->Option Value}{n:Str}{st:Stmt}{ps:List Str}{f:Addr}{d:FuncData} (F:Fun K n n st f d) (e:mg n=some (.ref f)) (hp:ps.length=4) (h:∀(kV dc pm:Value) (an:Option Addr) (cd ct x0 x1 x2 x3:Value),bindArgs (W.fnOf n n (ct_ st) (bT_ st) (af_ st) .none kV dc pm an cd ct) ⟨[x0,x1,x2,x3],[]⟩=pure (ps.zip [x0,x1,x2,x3])):Fb K mg n st ps f d:=by
 refine⟨F,F.binds fun kV dc pm an cd ct us hl=> ?_,e⟩;rw [hp] at hl;rcases us with _|⟨x0,us⟩
 .simp at hl
 rcases us with _|⟨x1,us⟩
 .simp at hl
 rcases us with _|⟨x2,us⟩
 .simp at hl
 rcases us with _|⟨x3,us⟩
 .simp at hl
 rcases us with _|⟨y,us⟩
 .exact h kV dc pm an cd ct x0 x1 x2 x3
 .simp at hl
def Hf (K:W.Frag) (n:Str) (st:Stmt) (f:Addr):Prop:=W.nsIn K mainGlobals n=some (some (.ref f))/\∃d,Fun K n n st f d
theorem tK_ {K:W.Frag}{n:Str}{st:Stmt}{f:Addr}{od an:Option Addr}{sl:Array (Option Value)}{oc kV dc pm cd ct:Value} (a:W.nsIn K mainGlobals n=some (some (.ref f))) (l:K.lookup f=some ⟨oc,od, .func (W.fnOf n n (ct_ st) (bT_ st) (af_ st) .none kV dc pm an cd ct),sl⟩) (c:W.codeIn K cd n=true) (k:W.keepIn K (.ref f)=true):Hf K n st f:=⟨a,_,sg_ l c k⟩
theorem sB_ {l:W.OpenLaw}{w:World}{K:W.Frag}{h:Heap}{mg:Str->Option Value}{fa:Addr} (X:K.In h) (G:h.Ns mainGlobals mg) (hfa:mg "law"=some (.ref fa))
  {f0 f1 f2 f3 f4 f5 f6 f7 f8 f9 f10 f11 f12 f13 f14 f15 f16 f17 f18 f19 f20 f21 f22 f23 f24 f25 f26 f27 f28 f29 f30 f31 f32 f33 f34 f35 f36 f37 f38 f39 f40 f41 f42 f43 f44 f45 f46 f47 f48 f49 f50 f51 f52:Addr}
  (h0:Hf K "is_whole" dZ_ f0)
  (h1:Hf K "need_between" b4_ f1)
  (h2:Hf K "need_wide" dk_ f2)
  (h3:Hf K "need_degree" cp_ f3)
  (h4:Hf K "without_last_noughts" a1_ f4)
  (h5:Hf K "sum_by_place" b3_ f5)
  (h6:Hf K "product_by_place" bs_ f6)
  (h7:Hf K "with_more" di_ f7)
  (h8:Hf K "common_divisor" bI_ f8)
  (h9:Hf K "lowering" dY_ f9)
  (h10:Hf K "poly" jD_ f10)
  (h11:Hf K "plus" hC_ f11)
  (h12:Hf K "times" iU_ f12)
  (h13:Hf K "value" iT_ f13)
  (h14:Hf K "through" dz_ f14)
  (h15:Hf K "ends_at" eW_ f15)
  (h16:Hf K "sound" iV_ f16)
  (h17:Hf K "lost" lC_ f17)
  (h18:Hf K "lifts_from" cF_ f18)
  (h19:Hf K "leaving" eV_ f19)
  (h20:Hf K "with_floor" bD_ f20)
  (h21:Hf K "drawings" cT_ f21)
  (h22:Hf K "worth" iS_ f22)
  (h23:Hf K "choose" gs_ f23)
  (h24:Hf K "need_sound" cE_ f24)
  (h25:Hf K "end_marks" dl_ f25)
  (h26:Hf K "put_between" co_ f26)
  (h27:Hf K "how_many_orders" bA_ f27)
  (h28:Hf K "how_many" d0_ f28)
  (h29:Hf K "count_by_floors" bd_ f29)
  (h30:Hf K "length" eD_ f30)
  (h31:Hf K "long_lifts" bW_ f31)
  (h32:Hf K "losing" gr_ f32)
  (h33:Hf K "lies_within" bO_ f33)
  (h34:Hf K "is_template" bQ_ f34)
  (h35:Hf K "templates" cm_ f35)
  (h36:Hf K "load" jE_ f36)
  (h37:Hf K "least_place" bP_ f37)
  (h38:Hf K "words_at" cS_ f38)
  (h39:Hf K "last_place" bX_ f39)
  (h40:Hf K "standings" dj_ f40)
  (h41:Hf K "counted" eX_ f41)
  (h42:Hf K "count_of_rows" bR_ f42)
  (h43:Hf K "count_by_templates" bg_ f43)
  (h44:Hf K "surely_from" cn_ f44)
  (h45:Hf K "polynomial_of" bt_ f45)
  (h46:Hf K "holds_from" cG_ f46)
  (h47:Hf K "_law_cell_at" b5_ f47)
  (h48:Hf K "_law_bag" d1_ f48)
  (h49:Hf K "_law_mixed" cH_ f49)
  (h50:Hf K "_law_digit" cI_ f50)
  (h51:Hf K "_law_at" eY_ f51)
  (h52:Hf K "law" pK_ f52)
  (zz:∀n∈["isinstance","int","bool","list","max","enumerate","len","abs","reversed","zip","min","range","sum","sorted","tuple","set","any","all"],W.nsIn K mainGlobals n=some none)
  {A_WIDE:Addr} (da_WIDE:W.nsIn K mainGlobals "WIDE"=some (some (.ref A_WIDE))) (dt_WIDE:kn_ K A_WIDE [(1,6),(2,6),(3,6),(4,6),(5,3)]=true)
  {C_NoBound:Addr} (ca_NoBound:W.nsIn K mainGlobals "NoBound"=some (some (.ref C_NoBound)))
  {C_NoNumber:Addr} (ca_NoNumber:W.nsIn K mainGlobals "NoNumber"=some (some (.ref C_NoNumber)))
  {C_NoDrawing:Addr} (ca_NoDrawing:W.nsIn K mainGlobals "NoDrawing"=some (some (.ref C_NoDrawing)))
  (cx_NoBound:W.excIn K C_NoBound bmV "ValueError.__new__"=true) (xc_NoBound:XC K C_NoBound)
  (cx_NoNumber:W.excIn K C_NoNumber bmV "ValueError.__new__"=true) (xc_NoNumber:XC K C_NoNumber)
  (cx_NoDrawing:W.excIn K C_NoDrawing bmV "ValueError.__new__"=true) (xc_NoDrawing:XC K C_NoDrawing)
  :∃fd:FuncData,(∀(s:Shared) (v:Value),BindsTo s fd ⟨[v],[]⟩ [("_law_script",v)])/\∀base:Heap,K.In base->base.Ns mainGlobals mg->FnOk l.prog w K mg base CX0 15 fa fd ["_law_script"] (jz_ K):=by
 obtain⟨a0,d0,F0⟩:=h0;obtain⟨a1,d1,F1⟩:=h1;obtain⟨a2,d2,F2⟩:=h2;obtain⟨a3,d3,F3⟩:=h3;obtain⟨a4,d4,F4⟩:=h4;obtain⟨a5,d5,F5⟩:=h5;obtain⟨a6,d6,F6⟩:=h6;obtain⟨a7,d7,F7⟩:=h7;obtain⟨a8,d8,F8⟩:=h8;obtain⟨a9,d9,F9⟩:=h9;obtain⟨a10,d10,F10⟩:=h10;obtain⟨a11,d11,F11⟩:=h11;obtain⟨a12,d12,F12⟩:=h12;obtain⟨a13,d13,F13⟩:=h13;obtain⟨a14,d14,F14⟩:=h14;obtain⟨a15,d15,F15⟩:=h15;obtain⟨a16,d16,F16⟩:=h16;obtain⟨a17,d17,F17⟩:=h17;obtain⟨a18,d18,F18⟩:=h18;obtain⟨a19,d19,F19⟩:=h19;obtain⟨a20,d20,F20⟩:=h20;obtain⟨a21,d21,F21⟩:=h21;obtain⟨a22,d22,F22⟩:=h22;obtain⟨a23,d23,F23⟩:=h23;obtain⟨a24,d24,F24⟩:=h24;obtain⟨a25,d25,F25⟩:=h25;obtain⟨a26,d26,F26⟩:=h26;obtain⟨a27,d27,F27⟩:=h27;obtain⟨a28,d28,F28⟩:=h28;obtain⟨a29,d29,F29⟩:=h29;obtain⟨a30,d30,F30⟩:=h30;obtain⟨a31,d31,F31⟩:=h31;obtain⟨a32,d32,F32⟩:=h32;obtain⟨a33,d33,F33⟩:=h33;obtain⟨a34,d34,F34⟩:=h34;obtain⟨a35,d35,F35⟩:=h35;obtain⟨a36,d36,F36⟩:=h36;obtain⟨a37,d37,F37⟩:=h37;obtain⟨a38,d38,F38⟩:=h38;obtain⟨a39,d39,F39⟩:=h39;obtain⟨a40,d40,F40⟩:=h40;obtain⟨a41,d41,F41⟩:=h41;obtain⟨a42,d42,F42⟩:=h42;obtain⟨a43,d43,F43⟩:=h43;obtain⟨a44,d44,F44⟩:=h44;obtain⟨a45,d45,F45⟩:=h45;obtain⟨a46,d46,F46⟩:=h46;obtain⟨a47,d47,F47⟩:=h47;obtain⟨a48,d48,F48⟩:=h48;obtain⟨a49,d49,F49⟩:=h49;obtain⟨a50,d50,F50⟩:=h50;obtain⟨a51,d51,F51⟩:=h51;obtain⟨a52,d52,F52⟩:=h52;cases hfa.symm.trans (W.mg_of X G a52);have Wq:=F52;obtain⟨_,_,_,_,_,_,_,_,_,rfl,_⟩:=F52.ex;have g {n:Str}{v:Value} (e:W.nsIn K mainGlobals n=some (some v)):mg n=some v:=W.mg_of X G e;exact⟨_,fun s v=> .of_eq rfl,fun base _ _=>rT_ (⟨f0,_,f1,_,f2,_,f3,_,f4,_,f5,_,f6,_,f7,_,f8,_,f9,_,f10,_,f11,_,f12,_,f13,_,f14,_,f15,_,f16,_,f17,_,f18,_,f19,_,f20,_,f21,_,f22,_,f23,_,f24,_,f25,_,f26,_,f27,_,f28,_,f29,_,f30,_,f31,_,f32,_,f33,_,f34,_,f35,_,f36,_,f37,_,f38,_,f39,_,f40,_,f41,_,f42,_,f43,_,f44,_,f45,_,f46,_,f47,_,f48,_,f49,_,f50,_,f51,_,fa,_,fb1 F0 (g a0) rfl fun _ _ _ _ _ _ _=>rfl,fb3 F1 (g a1) rfl fun _ _ _ _ _ _ _ _ _=>rfl,fb2 F2 (g a2) rfl fun _ _ _ _ _ _ _ _=>rfl,fb1 F3 (g a3) rfl fun _ _ _ _ _ _ _=>rfl,fb1 F4 (g a4) rfl fun _ _ _ _ _ _ _=>rfl,fb2 F5 (g a5) rfl fun _ _ _ _ _ _ _ _=>rfl,fb2 F6 (g a6) rfl fun _ _ _ _ _ _ _ _=>rfl,fb3 F7 (g a7) rfl fun _ _ _ _ _ _ _ _ _=>rfl,fb2 F8 (g a8) rfl fun _ _ _ _ _ _ _ _=>rfl,fb2 F9 (g a9) rfl fun _ _ _ _ _ _ _ _=>rfl,fb2 F10 (g a10) rfl fun _ _ _ _ _ _ _ _=>rfl,fb2 F11 (g a11) rfl fun _ _ _ _ _ _ _ _=>rfl,fb2 F12 (g a12) rfl fun _ _ _ _ _ _ _ _=>rfl,fb2 F13 (g a13) rfl fun _ _ _ _ _ _ _ _=>rfl,fb2 F14 (g a14) rfl fun _ _ _ _ _ _ _ _=>rfl,fb2 F15 (g a15) rfl fun _ _ _ _ _ _ _ _=>rfl,fb2 F16 (g a16) rfl fun _ _ _ _ _ _ _ _=>rfl,fb1 F17 (g a17) rfl fun _ _ _ _ _ _ _=>rfl,fb4 F18 (g a18) rfl fun _ _ _ _ _ _ _ _ _ _=>rfl,fb3 F19 (g a19) rfl fun _ _ _ _ _ _ _ _ _=>rfl,fb4 F20 (g a20) rfl fun _ _ _ _ _ _ _ _ _ _=>rfl,fb2 F21 (g a21) rfl fun _ _ _ _ _ _ _ _=>rfl,fb1 F22 (g a22) rfl fun _ _ _ _ _ _ _=>rfl,fb2 F23 (g a23) rfl fun _ _ _ _ _ _ _ _=>rfl,fb2 F24 (g a24) rfl fun _ _ _ _ _ _ _ _=>rfl,fb2 F25 (g a25) rfl fun _ _ _ _ _ _ _ _=>rfl,fb4 F26 (g a26) rfl fun _ _ _ _ _ _ _ _ _ _=>rfl,fb2 F27 (g a27) rfl fun _ _ _ _ _ _ _ _=>rfl,fb2 F28 (g a28) rfl fun _ _ _ _ _ _ _ _=>rfl,fb2 F29 (g a29) rfl fun _ _ _ _ _ _ _ _=>rfl,fb1 F30 (g a30) rfl fun _ _ _ _ _ _ _=>rfl,fb1 F31 (g a31) rfl fun _ _ _ _ _ _ _=>rfl,fb2 F32 (g a32) rfl fun _ _ _ _ _ _ _ _=>rfl,fb2 F33 (g a33) rfl fun _ _ _ _ _ _ _ _=>rfl,fb1 F34 (g a34) rfl fun _ _ _ _ _ _ _=>rfl,fb1 F35 (g a35) rfl fun _ _ _ _ _ _ _=>rfl,fb2 F36 (g a36) rfl fun _ _ _ _ _ _ _ _=>rfl,fb1 F37 (g a37) rfl fun _ _ _ _ _ _ _=>rfl,fb2 F38 (g a38) rfl fun _ _ _ _ _ _ _ _=>rfl,fb2 F39 (g a39) rfl fun _ _ _ _ _ _ _ _=>rfl,fb2 F40 (g a40) rfl fun _ _ _ _ _ _ _ _=>rfl,fb4 F41 (g a41) rfl fun _ _ _ _ _ _ _ _ _ _=>rfl,fb2 F42 (g a42) rfl fun _ _ _ _ _ _ _ _=>rfl,fb2 F43 (g a43) rfl fun _ _ _ _ _ _ _ _=>rfl,fb1 F44 (g a44) rfl fun _ _ _ _ _ _ _=>rfl,fb1 F45 (g a45) rfl fun _ _ _ _ _ _ _=>rfl,fb1 F46 (g a46) rfl fun _ _ _ _ _ _ _=>rfl,fb2 F47 (g a47) rfl fun _ _ _ _ _ _ _ _=>rfl,fb2 F48 (g a48) rfl fun _ _ _ _ _ _ _ _=>rfl,fb1 F49 (g a49) rfl fun _ _ _ _ _ _ _=>rfl,fb2 F50 (g a50) rfl fun _ _ _ _ _ _ _ _=>rfl,fb2 F51 (g a51) rfl fun _ _ _ _ _ _ _ _=>rfl,fb1 Wq (g a52) rfl fun _ _ _ _ _ _ _=>rfl,Aj X G (zz _ (by decide)),Aj X G (zz _ (by decide)),Aj X G (zz _ (by decide)),Aj X G (zz _ (by decide)),Aj X G (zz _ (by decide)),Aj X G (zz _ (by decide)),Aj X G (zz _ (by decide)),Aj X G (zz _ (by decide)),Aj X G (zz _ (by decide)),Aj X G (zz _ (by decide)),Aj X G (zz _ (by decide)),Aj X G (zz _ (by decide)),Aj X G (zz _ (by decide)),Aj X G (zz _ (by decide)),Aj X G (zz _ (by decide)),Aj X G (zz _ (by decide)),Aj X G (zz _ (by decide)),Aj X G (zz _ (by decide)),A_WIDE,g da_WIDE,dt_WIDE,C_NoBound,g ca_NoBound,C_NoNumber,g ca_NoNumber,C_NoDrawing,g ca_NoDrawing,cx_NoBound,xc_NoBound,cx_NoNumber,xc_NoNumber,cx_NoDrawing,xc_NoDrawing⟩:Fns K mg)⟩
theorem walk {l:W.OpenLaw}{q:Program}{loose:List Str}{XP:(Str->Option Value)->Heap->Prop}{YP:World->Heap->Prop}{d:DefRec}{K:Params->W.Frag} (hn:l.most=some 63) (hdf:d.params.defaults=[])
  (hY:∀(w:World) (h:Heap),YP w h->(K w.params).In h)
  (F:∀(w:World) (mg:Str->Option Value) (fa:Addr) (h:Heap),(K w.params).In h->h.Ns mainGlobals mg->mg d.name=some (.ref fa)->
   ∃fd:FuncData,(∀(s:Shared) (u:Value),BindsTo s fd ⟨[u],[]⟩ [("_law_script",u)])/\∀base:Heap,(K w.params).In base->base.Ns mainGlobals mg->FnOk l.prog w (K w.params) mg base CX0 15 fa fd ["_law_script"] (jz_ (K w.params))):
  W.WalkO q loose XP YP l.row.toRowW d [] (fun f vs=>PySem.call f vs):=
 L2.pm_ (n:=63) (k:=15) (x:="_law_script") (CX:=fun _=>CX0) (sp:=fun w=>jz_ (K w.params)) hn (by decide) hdf ⟨rfl,by decide,by decide⟩ hY F (fun _ _ a ns hl _ hS=>⟨a,ns,rfl,hS,hl,fun _=>rfl⟩) fun _ _ _ _ _ z=>z
end Mine
open PySem PySem.W PyProof.Rows
namespace PySem.W.Fast
theorem tw752261384408940987 : True := trivial
theorem tw3130325791393647880 : True := trivial
theorem tw103685916434572878 : True := trivial
theorem tw8990556082308661041 : True := trivial
theorem tw749154631715486928 : True := trivial
theorem tw197904997642020944 : True := trivial
theorem tw14799929650961681661 : True := trivial
theorem tw17528725914797668167 : True := trivial
theorem tw6286107522056691874 : True := trivial
theorem tw9462099093895525286 : True := trivial
theorem tw5565913549774689278 : True := trivial
theorem tw14257437959047592870 : True := trivial
theorem tw1060562266563413625 : True := trivial
theorem tw10529494302435452774 : True := trivial
theorem tw5529332607749320357 : True := trivial
theorem tw18278838171746344777 : True := trivial
theorem tw16044048337255501757 : True := trivial
theorem tw1908153545273886454 : True := trivial
theorem tw6500184637540925057 : True := trivial
theorem tw5934573662816235158 : True := trivial
theorem tw3403866222130989831 : True := trivial
theorem tw960198726853714132 : True := trivial
theorem tw2712061583065747149 : True := trivial
theorem tw12536277426387636600 : True := trivial
theorem tw13797422309739877079 : True := trivial
theorem tw13802610431035216534 : True := trivial
theorem tw8863626849866844268 : True := trivial
theorem tw10779351908185359544 : True := trivial
theorem tw560455338895515460 : True := trivial
theorem tw15784618234791566662 : True := trivial
theorem tw1758904977287958479 : True := trivial
theorem tw8325288401494954134 : True := trivial
theorem tw13593344907339506668 : True := trivial
theorem tw18276613795719621510 : True := trivial
theorem tw3399647536762377618 : True := trivial
theorem tw79595101621082477 : True := trivial
theorem tw15017925078221320395 : True := trivial
theorem tw15880803976112016214 : True := trivial
theorem tw8943702110195576432 : True := trivial
theorem tw1328413060025012349 : True := trivial
theorem tw16195999877861856062 : True := trivial
theorem tw17005259103405570399 : True := trivial
theorem tw3857799919695043428 : True := trivial
theorem tw11026533508988855205 : True := trivial
theorem tw15475268771587384745 : True := trivial
theorem tw11370471386816625982 : True := trivial
theorem tw1100723833902161737 : True := trivial
theorem tw17951686674315719317 : True := trivial
theorem tw10375585665900544071 : True := trivial
theorem tw10934191868847817962 : True := trivial
theorem tw18236316196704988781 : True := trivial
theorem tw4905747147656381789 : True := trivial
theorem tw16061606071340501942 : True := trivial
theorem tw8624069534891755127 : True := trivial
theorem tw13185183307744417670 : True := trivial
theorem tw10096827617028889513 : True := trivial
theorem tw10324807089005668771 : True := trivial
theorem tw13583308939468687687 : True := trivial
theorem tw6730718852733034000 : True := trivial
theorem tw11554507939425162086 : True := trivial
theorem tw6405634628122330585 : True := trivial
theorem tw3229489343155606387 : True := trivial
theorem tw10179370073208074522 : True := trivial
theorem tw6679686713899287042 : True := trivial
theorem tw13961432045291470493 : True := trivial
theorem tw7980868587048734633 : True := trivial
theorem tw16901930767567540328 : True := trivial
theorem tw6927894819714986503 : True := trivial
theorem tw7306973254866918046 : True := trivial
theorem tw16712919347879329076 : True := trivial
theorem tw15444570447958995317 : True := trivial
theorem tw2712675364581021264 : True := trivial
theorem tw9281069184744027080 : True := trivial
theorem tw5430107775011160640 : True := trivial
theorem tw6066472163514474462 : True := trivial
theorem tw6914461136303006242 : True := trivial
theorem tw17554215942570306286 : True := trivial
theorem tw7732579981756003508 : True := trivial
theorem tw5557194627549926079 : True := trivial
theorem tw15517479674735434898 : True := trivial
theorem tw8885340771185308103 : True := trivial
theorem tw1130521159672537550 : True := trivial
theorem tw13101557558298339730 : True := trivial
theorem tw13548163456306039620 : True := trivial
theorem tw3330272442848966232 : True := trivial
theorem tw14491956857509625527 : True := trivial
theorem tw2250594836390472646 : True := trivial
theorem tw2926676689712678826 : True := trivial
theorem tw12709543883463334473 : True := trivial
theorem tw15745824446269330797 : True := trivial
theorem tw3516268813169141430 : True := trivial
theorem tw2684708287818237799 : True := trivial
theorem tw8330431209610081676 : True := trivial
theorem tw1217087734960470598 : True := trivial
theorem tw9974636519155361864 : True := trivial
theorem tw5432838042354204932 : True := trivial
theorem tw13991675566077410990 : True := trivial
theorem tw9534655237959100346 : True := trivial
theorem tw7358261045518428880 : True := trivial
theorem tw1878696500249004560 : True := trivial
theorem tw17920687419594315526 : True := trivial
theorem tw16099717854115034137 : True := trivial
theorem tw3611503088333303587 : True := trivial
theorem tw14039177264646400049 : True := trivial
theorem tw4368092510246605257 : True := trivial
theorem tw2878826118975239849 : True := trivial
theorem tw17692265125606457471 : True := trivial
theorem tw9795700791609074437 : True := trivial
theorem tw11058596726268525298 : True := trivial
theorem tw11755309107339079428 : True := trivial
theorem tw8735906816135033074 : True := trivial
theorem tw1972856669397324517 : True := trivial
theorem tw8454102421063556296 : True := trivial
theorem tw12413394297582615986 : True := trivial
theorem tw6518840827367636553 : True := trivial
theorem tw8229237980247094510 : True := trivial
theorem tw15521059862395750235 : True := trivial
theorem tw1437800594953995865 : True := trivial
theorem tw16709745603415499427 : True := trivial
theorem tw11418886727731131929 : True := trivial
theorem tw5807468521281748690 : True := trivial
theorem tw9945589099748146770 : True := trivial
theorem tw11330987578019808468 : True := trivial
theorem tw5735124841062574478 : True := trivial
theorem tw15699416004501785681 : True := trivial
theorem tw9289043452885257799 : True := trivial
theorem tw8170712933997413745 : True := trivial
theorem tw15187294603572790432 : True := trivial
theorem tw14537168805342424334 : True := trivial
theorem tw7246678267834762542 : True := trivial
theorem tw2058732746024013565 : True := trivial
theorem tw13395832790795741867 : True := trivial
theorem tw6047587035948808519 : True := trivial
theorem tw3781245418779177400 : True := trivial
theorem tw4066254248198079096 : True := trivial
theorem tw13100424105387768317 : True := trivial
theorem tw11803294852662508633 : True := trivial
theorem tw7732578023362413444 : True := trivial
theorem tw13667109108810082339 : True := trivial
theorem tw2771805528759556576 : True := trivial
theorem tw10352054358516069116 : True := trivial
theorem tw11029252829666476303 : True := trivial
theorem tw6749760312912478468 : True := trivial
theorem tw4365888286267470021 : True := trivial
theorem tw4734353968570593728 : True := trivial
theorem tw3342239835862797552 : True := trivial
theorem tw15789399677101048825 : True := trivial
theorem tw10321642206469812006 : True := trivial
theorem tw5746628525209881463 : True := trivial
theorem tw13855827590512743939 : True := trivial
theorem tw12272594482192567933 : True := trivial
theorem tw5634582084936443699 : True := trivial
theorem tw16340162005673788927 : True := trivial
theorem tw1439446681888580553 : True := trivial
theorem tw3006984972554834175 : True := trivial
theorem tw1334384607072134779 : True := trivial
theorem tw985009200538170052 : True := trivial
theorem tw9385615852015415457 : True := trivial
theorem tw483409367349041767 : True := trivial
theorem tw10962523042855916367 : True := trivial
theorem tw12784998520665845065 : True := trivial
theorem tw755772432087318564 : True := trivial
theorem tw13872860561759797342 : True := trivial
theorem tw3417682601778577806 : True := trivial
theorem tw12475647618881551292 : True := trivial
theorem tw14449793444332553038 : True := trivial
theorem tw16914776540267126592 : True := trivial
theorem tw3167897380057913666 : True := trivial
theorem tw16337361890750484505 : True := trivial
theorem tw9986093703675567579 : True := trivial
theorem tw1224348198288905525 : True := trivial
theorem tw7764312671519739051 : True := trivial
theorem tw14074991148647825070 : True := trivial
theorem tw18035831373199170109 : True := trivial
theorem tw13263211084132166500 : True := trivial
theorem tw1148167461081705153 : True := trivial
theorem tw14410145846797610950 : True := trivial
theorem tw16992945198165374497 : True := trivial
theorem tw17863345807215498360 : True := trivial
theorem tw6785466914829590045 : True := trivial
theorem tw12851036453875189679 : True := trivial
theorem tw3897876510606367950 : True := trivial
theorem tw16058993717870864300 : True := trivial
theorem tw14843567996616533388 : True := trivial
theorem tw13651900379004209333 : True := trivial
theorem tw11778464104670795859 : True := trivial
theorem tw4814255291374057348 : True := trivial
theorem tw10942215433028532131 : True := trivial
theorem tw11717126979791554527 : True := trivial
theorem tw17279082369586332988 : True := trivial
theorem tw8779986888002423460 : True := trivial
theorem tw7646343089279380536 : True := trivial
theorem tw7759684034175722884 : True := trivial
theorem tw99744703858530325 : True := trivial
theorem tw5973159283629316811 : True := trivial
theorem tw9081832051364105564 : True := trivial
theorem tw17581253700064134752 : True := trivial
theorem tw4180418252972874935 : True := trivial
theorem tw16190951759700888618 : True := trivial
theorem tw17140746667104651605 : True := trivial
theorem tw3541748550792016051 : True := trivial
theorem tw14324268071314283575 : True := trivial
theorem tw15986674250322621239 : True := trivial
theorem tw8210533491560201627 : True := trivial
theorem tw5193296128064682363 : True := trivial
theorem tw11915314484145436442 : True := trivial
theorem tw3014246370779325539 : True := trivial
theorem tw13762520261238752248 : True := trivial
theorem tw8613205410425471813 : True := trivial
theorem tw16678290460334004806 : True := trivial
theorem tw1109801841485442126 : True := trivial
theorem tw15153078514082564549 : True := trivial
theorem tw11827635481573176464 : True := trivial
theorem tw15755873570628036036 : True := trivial
theorem tw2498752670478085071 : True := trivial
theorem tw17564165188476927358 : True := trivial
theorem tw2544260350700603187 : True := trivial
theorem tw14767612123888966438 : True := trivial
theorem tw12478923016448459547 : True := trivial
theorem tw6738753828327346792 : True := trivial
theorem tw17558433505019161718 : True := trivial
theorem tw6002253604526395342 : True := trivial
theorem tw3946956607095131663 : True := trivial
theorem tw14158456532999277776 : True := trivial
theorem tw13894184257093473718 : True := trivial
theorem tw7655013033909224082 : True := trivial
theorem tw4536916022631194170 : True := trivial
theorem tw16478753423315125480 : True := trivial
theorem tw3191686668244796217 : True := trivial
theorem tw12708608701147368534 : True := trivial
theorem tw141616957709207900 : True := trivial
theorem tw14117358708348250530 : True := trivial
theorem tw5145739549328295468 : True := trivial
theorem tw1021069216621400472 : True := trivial
theorem tw11393747440814727480 : True := trivial
theorem tw10902591990387009320 : True := trivial
theorem tw3506634721487895374 : True := trivial
theorem tw3122298386520056522 : True := trivial
theorem tw17787792592576837554 : True := trivial
theorem tw3516990775170922386 : True := trivial
theorem tw12451357478336479930 : True := trivial
theorem tw133822828166160378 : True := trivial
theorem tw17285178270700814083 : True := trivial
theorem tw11986654916809865665 : True := trivial
theorem tw8099387433482352584 : True := trivial
theorem tw12558158621174659032 : True := trivial
theorem tw15487953543367551800 : True := trivial
theorem tw9356631677129496036 : True := trivial
theorem tw13546344604767712829 : True := trivial
theorem tw10396532138652662974 : True := trivial
theorem tw8827327568226316278 : True := trivial
theorem tw12292425332881057766 : True := trivial
theorem tw12145725625364844463 : True := trivial
theorem tw5536196862781592414 : True := trivial
theorem tw13225263663741969684 : True := trivial
theorem tw9476340721530264978 : True := trivial
theorem tw4471118590397327679 : True := trivial
theorem tw70842802568476980 : True := trivial
theorem tw7666822427514100045 : True := trivial
theorem tw6634571624958214849 : True := trivial
theorem tw10195658689430434662 : True := trivial
theorem tw17146582011088340931 : True := trivial
theorem tw45771130963039975 : True := trivial
theorem tw12783312668467712157 : True := trivial
theorem tw8965100304284788399 : True := trivial
theorem tw1992527069197092655 : True := trivial
theorem tw13829072018698828230 : True := trivial
theorem tw14699238171731054841 : True := trivial
theorem tw1612781226210019809 : True := trivial
theorem tw3192341472490689111 : True := trivial
theorem tw7263291707563981641 : True := trivial
theorem tw8095563471342336704 : True := trivial
theorem tw8652000001505019560 : True := trivial
theorem tw8444101403695266101 : True := trivial
theorem tw14887577702593886549 : True := trivial
theorem tw8821538744206808632 : True := trivial
theorem tw1971199474007847404 : True := trivial
theorem tw3897894058737521173 : True := trivial
theorem tw1470474480998428242 : True := trivial
theorem tw15689213412940702111 : True := trivial
theorem tw7681565577493227174 : True := trivial
theorem tw9782690570288014103 : True := trivial
theorem tw10749864946166694109 : True := trivial
theorem tw16812590038810083238 : True := trivial
theorem tw12687891808536119680 : True := trivial
theorem tw17937853510837490955 : True := trivial
theorem tw10715057242847608043 : True := trivial
theorem tw14505309300483517853 : True := trivial
theorem tw1879601346897794685 : True := trivial
theorem tw4710780454682271159 : True := trivial
theorem tw7389063516401133871 : True := trivial
theorem tw16342421218978946644 : True := trivial
theorem tw15678683756558720248 : True := trivial
theorem tw16402261560015039039 : True := trivial
theorem tw1000925268431241043 : True := trivial
theorem tw2997335227542017107 : True := trivial
theorem tw7355681253791925979 : True := trivial
theorem tw8220868955493129163 : True := trivial
theorem tw15786586111667385244 : True := trivial
theorem tw6689288817948124454 : True := trivial
theorem tw2307599230033856671 : True := trivial
theorem tw2054406492001783581 : True := trivial
theorem tw8791737934624177767 : True := trivial
theorem tw4120243784194357032 : True := trivial
theorem tw351859245786365540 : True := trivial
theorem tw16009606216212511595 : True := trivial
theorem tw5413096672056283533 : True := trivial
theorem tw3575045387185265548 : True := trivial
theorem tw7024570928889063947 : True := trivial
theorem tw8128853685201131827 : True := trivial
theorem tw7883285854764894561 : True := trivial
theorem tw14774858627564444767 : True := trivial
theorem tw1924572274092612108 : True := trivial
theorem tw8079521091409610106 : True := trivial
theorem tw7263820581734839995 : True := trivial
theorem tw7509752084344276927 : True := trivial
theorem tw11460864116768555775 : True := trivial
theorem tw17409728943127223206 : True := trivial
theorem tw16794339778170594817 : True := trivial
theorem tw15531656315336469935 : True := trivial
theorem tw11107754659346853779 : True := trivial
theorem tw17656307148786358008 : True := trivial
theorem tw1367865887242940080 : True := trivial
theorem tw18368862802020187529 : True := trivial
theorem tw10505609324471780565 : True := trivial
theorem tw16986798801635417403 : True := trivial
theorem tw6231653720600485560 : True := trivial
theorem tw11249204601471059730 : True := trivial
theorem tw13297888823766890066 : True := trivial
theorem tw15009368847423311704 : True := trivial
theorem tw325109385348620901 : True := trivial
theorem tw247289703423623022 : True := trivial
theorem tw6704636153792255762 : True := trivial
theorem tw13587334818900943588 : True := trivial
theorem tw14401424363350339835 : True := trivial
theorem tw18083227890024132997 : True := trivial
theorem tw11912786491324876450 : True := trivial
theorem tw14751182674296565789 : True := trivial
theorem tw6236656270767881179 : True := trivial
theorem tw11885453772087996146 : True := trivial
theorem tw12748950624179436934 : True := trivial
theorem tw5051989458387093849 : True := trivial
theorem tw959620861759767787 : True := trivial
theorem tw6257224229817381274 : True := trivial
theorem tw8899127520058992443 : True := trivial
theorem tw2515125435088009681 : True := trivial
theorem tw9987226963724861812 : True := trivial
theorem tw5866475661396741207 : True := trivial
theorem tw13206154780704697534 : True := trivial
theorem tw3908330076204434900 : True := trivial
theorem tw16837040804483079391 : True := trivial
theorem tw17413680898809984182 : True := trivial
theorem tw1347876837406474741 : True := trivial
theorem tw3265081766253814707 : True := trivial
theorem tw16111157040264480808 : True := trivial
theorem tw12872120619850667230 : True := trivial
theorem tw9817017700637711047 : True := trivial
theorem tw8276816281009049645 : True := trivial
theorem tw5020284536454776039 : True := trivial
theorem tw8084591702782984094 : True := trivial
theorem tw7544292031792454538 : True := trivial
theorem tw4658525068007307005 : True := trivial
theorem tw2853532013495968482 : True := trivial
theorem tw9508868542694865251 : True := trivial
theorem tw5052009956634731686 : True := trivial
theorem tw11894607493869546427 : True := trivial
theorem tw16253493483990457548 : True := trivial
theorem tw4875303508553013162 : True := trivial
theorem tw16029892828509253163 : True := trivial
theorem tw11243960321482485754 : True := trivial
theorem tw364011657081773227 : True := trivial
theorem tw4707402607987003397 : True := trivial
theorem tw17248489335588345743 : True := trivial
end PySem.W.Fast
set_option maxRecDepth 100000 in
set_option maxHeartbeats 0 in
theorem PySem.Challenge.cw_floorcurves_k93_whole_polynomials_holds : PySem.Challenge.rw_floorcurves_k93_whole_polynomials.Holds := by
 w_on; o_law; k_head; (case hw => w_witness2)
 k_fill
 refine Mine.walk (l := PySem.Challenge.rw_floorcurves_k93_whole_polynomials) rfl rfl (fun w h Y => PySem.W.kIn_of Y) ?F
 case F =>
  intro w mg fa h KX G hmg
  refine' Mine.sB_ KX G hmg ?h0 ?h1 ?h2 ?h3 ?h4 ?h5 ?h6 ?h7 ?h8 ?h9 ?h10 ?h11 ?h12 ?h13 ?h14 ?h15 ?h16 ?h17 ?h18 ?h19 ?h20 ?h21 ?h22 ?h23 ?h24 ?h25 ?h26 ?h27 ?h28 ?h29 ?h30 ?h31 ?h32 ?h33 ?h34 ?h35 ?h36 ?h37 ?h38 ?h39 ?h40 ?h41 ?h42 ?h43 ?h44 ?h45 ?h46 ?h47 ?h48 ?h49 ?h50 ?h51 ?h52 ?zz ?da_WIDE ?dt_WIDE ?ca_NoBound ?ca_NoNumber ?ca_NoDrawing ?cx_NoBound ?xc_NoBound ?cx_NoNumber ?xc_NoNumber ?cx_NoDrawing ?xc_NoDrawing
  (case h0 | h1 | h2 | h3 | h4 | h5 | h6 | h7 | h8 | h9 | h10 | h11 | h12 | h13 | h14 | h15 | h16 | h17 | h18 | h19 | h20 | h21 | h22 | h23 | h24 | h25 | h26 | h27 | h28 | h29 | h30 | h31 | h32 | h33 | h34 | h35 | h36 | h37 | h38 | h39 | h40 | h41 | h42 | h43 | h44 | h45 | h46 | h47 | h48 | h49 | h50 | h51 | h52 => refine' Mine.tK_ ?a ?l ?c ?k; (case a => k_is); (case l => k_is); (case c => k_is); (case k => k_is))
  (case zz => intro n hn; simp only [List.mem_cons, List.not_mem_nil, or_false] at hn; rcases hn with rfl | rfl | rfl | rfl | rfl | rfl | rfl | rfl | rfl | rfl | rfl | rfl | rfl | rfl | rfl | rfl | rfl | rfl <;> k_is)
  (case da_WIDE => k_is)
  (case dt_WIDE => first | k_is | kit_is | kts_exm | kernel_rfl)
  (case ca_NoBound | ca_NoNumber | ca_NoDrawing | cx_NoBound | cx_NoNumber | cx_NoDrawing => first | k_is | kit_is | kts_exm | kernel_rfl)
  (case xc_NoBound | xc_NoNumber | xc_NoDrawing => constructor <;> first | k_is | kit_is | kts_exm | kernel_rfl)
#print axioms PySem.Challenge.cw_floorcurves_k93_whole_polynomials_holds
